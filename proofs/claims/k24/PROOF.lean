import PyProof.Rows.All
import Wide.All
import OpenK.AllK
import Wide.FinOn
import Lean
import PyProof.EqAt
import PyProof.EqKinds
import PyProof.TupleCall
import PyProof.CompFree
import KE.KIsAll
import PyProof.AttrMiss
import PyProof.IsiH_list
import KE.KDictOf
import PyProof.ConsumeWalk
import PyProof.Rows.SetFrom
import PyProof.NeKinds
import PyProof.AutoListH
import PyProof.EnumMake
import PyProof.EnumFor
import PyProof.EnumStmt
import PyProof.LayNew
import PyProof.Rows.EnumRows
import PySem.Challenge.RW_homeward_k24_crowds
def zA0:=@List.count_append
def zA1:=@Option.bind_eq_some_iff
def zA2:=@PySem.Heap.get?_push_of_some
def zA3:=@List.size_toArray
def zA4:=@List.mem_cons_of_mem
def zA5:=@Nat.le_refl
def zA6:=@PySem.Heap.lt_size
def zA7:=@List.getElem?_eq_some_iff
def zA8:=@decide_eq_true
def zA9:=@List.append_nil
def zAa:=@Nat.lt_of_lt_of_le
def zAb:=@Bool.and_eq_true_iff
def zAc:=@List.mem_cons
def zAd:=@List.mem_cons_self
def zAe:=@List.length_map
def zAf:=@List.mem_append
def zAg:=@Bool.false_ne_true
def zAh:=@List.count_cons
def zAi:=@Nat.ne_of_lt
def zAj:=@List.length_append
def zAk:=@List.length_cons
def zAl:=@Nat.le_trans
def zAm:=@Option.map_eq_some_iff
def zAn:=@List.mem_singleton
def zAo:=@of_decide_eq_true
def zAp:=@decide_eq_false
def zAq:=@List.lookup_cons
def zAr:=@List.getElem?_append_left
def zAs:=@List.mem_append_right
def zAt:=@List.forall_mem_cons
def zAu:=@decide_eq_true_eq
def zAv:=@Bool.and_eq_true
def zAw:=@PySem.Heap.get?_push_size
def zAx:=@List.getElem?_map
def zAy:=@List.not_mem_nil
def zAz:=@List.map_cons
def zB0:=@List.getElem?_set_self
def zB1:=@List.all_eq_true
def zB2:=@List.mem_range
def zB3:=@Nat.zero_add
def zB4:=@List.length_range
def zB5:=@List.getElem?_set_ne
def zB6:=@List.mem_map
def zB7:=@List.forall_mem_append
def zB8:=@PySem.Heap.get?_update_other
def zB9:=@Option.isSome_iff_exists
def zBa:=@List.length_eq_zero_iff
def zBb:=@List.mem_of_getElem?
def zBc:=@List.take_of_length_le
def zBd:=@List.append_assoc
def zBe:=@beq_self_eq_true
def zBf:=@beq_iff_eq
def zBg:=@List.replicate_succ
def zBh:=@beq_eq_false_iff_ne
def zBi:=@Bool.and_false
def zBj:=@PySem.Heap.get?_update_self
def zBk:=@List.nil_append
def zBl:=@List.getElem?_eq_none
def zBm:=@Int.emod_lt_of_pos
def zBn:=@List.getElem?_eq_getElem
def zBo:=@Int.emod_nonneg
def zBp:=@List.map_append
def zBq:=@List.find?_cons
def zBr:=@List.nodup_cons
def zBs:=@List.length_take
def zBt:=@List.nodup_append
def zBu:=@List.flatten_cons
def zBv:=@List.take_sublist
def zBw:=@List.filterMap_cons
def zBx:=@Nat.lt_succ_self
def zBy:=@of_decide_eq_false
def zBz:=@List.length_nil
def zC0:=@List.mem_filter
def zC1:=@or_false
set_option Elab.async false
set_option linter.all false
set_option maxRecDepth 100000
namespace PySem.W.Fast
theorem tw18156062930883548614 : True := trivial
theorem tw11992306408350196725 : True := trivial
theorem tw15021633360742513617 : True := trivial
theorem tw15209439234890205414 : True := trivial
theorem tw4737788060508350416 : True := trivial
theorem tw3155379065005675536 : True := trivial
theorem tw1280435676556969078 : True := trivial
theorem tw7835011695182344726 : True := trivial
theorem tw5684735885361418769 : True := trivial
theorem tw3266744288019331436 : True := trivial
theorem tw10849887582734790792 : True := trivial
theorem tw16235646751420670284 : True := trivial
theorem tw4932309415213838324 : True := trivial
theorem tw11817115691310609935 : True := trivial
theorem tw7689047838459802611 : True := trivial
theorem tw11738226884932572665 : True := trivial
theorem tw15568823060158792993 : True := trivial
theorem tw13500656265633195537 : True := trivial
theorem tw11617052690959651038 : True := trivial
theorem tw8467951302236710399 : True := trivial
theorem tw12485408610061245348 : True := trivial
theorem tw15673661706612934123 : True := trivial
theorem tw7778415190086083303 : True := trivial
theorem tw5421147649949348215 : True := trivial
theorem tw15208409896720792569 : True := trivial
theorem tw9411156668797611070 : True := trivial
theorem tw9403951894492277120 : True := trivial
theorem tw11248051304053528951 : True := trivial
theorem tw2873012440347394597 : True := trivial
theorem tw12590544742482998377 : True := trivial
theorem tw13442667148702949838 : True := trivial
theorem tw13962754415316544480 : True := trivial
theorem tw12240054592478941830 : True := trivial
theorem tw7508894869870274967 : True := trivial
theorem tw3269645491257766363 : True := trivial
theorem tw15456547575685965955 : True := trivial
theorem tw4337714104905123889 : True := trivial
theorem tw15616051562292339552 : True := trivial
theorem tw15124677672389949568 : True := trivial
theorem tw10167934206520803187 : True := trivial
theorem tw7881293264882174255 : True := trivial
theorem tw16323239786798842545 : True := trivial
theorem tw14219733593717160744 : True := trivial
theorem tw3520079987563126614 : True := trivial
theorem tw1810394718155824941 : True := trivial
theorem tw11782874178931165353 : True := trivial
theorem tw13949868239652149496 : True := trivial
theorem tw6934574165509918456 : True := trivial
theorem tw3711684053793736397 : True := trivial
theorem tw3025746099150394376 : True := trivial
theorem tw4445464696902258541 : True := trivial
theorem tw12585312882191539494 : True := trivial
theorem tw2881491292167489812 : True := trivial
theorem tw16609254645870820848 : True := trivial
theorem tw14689156434345249245 : True := trivial
theorem tw12479544582381975803 : True := trivial
theorem tw2294139180707783625 : True := trivial
theorem tw17529228805633582873 : True := trivial
theorem tw6542149398222771274 : True := trivial
theorem tw15863257268176135998 : True := trivial
theorem tw7529642405783187577 : True := trivial
theorem tw1461829329512017986 : True := trivial
theorem tw4940936710694242389 : True := trivial
theorem tw2374071059832514218 : True := trivial
theorem tw3189744177739526681 : True := trivial
theorem tw12440893015123055105 : True := trivial
theorem tw10136616727511998558 : True := trivial
theorem tw12556716999848458734 : True := trivial
theorem tw14812528416796596560 : True := trivial
theorem tw7771836913752374360 : True := trivial
theorem tw14217249059624387762 : True := trivial
theorem tw11873518069273563820 : True := trivial
theorem tw17578604892740932753 : True := trivial
theorem tw6862977012597483956 : True := trivial
theorem tw2134256623773805419 : True := trivial
theorem tw6510881922642231337 : True := trivial
theorem tw6834951318270257178 : True := trivial
theorem tw808186934780260694 : True := trivial
theorem tw12680362795705261781 : True := trivial
theorem tw5903373281553010849 : True := trivial
end PySem.W.Fast
namespace L2
open PySem PySem.Spec PyProof.Rows
variable{M:Model}{N:List Str}{base:Heap}{body:List Stmt}{ch fp:List Addr}{i n t':Nat}{kw:List (Str×Value)}{mg:Str->Option Value}{op:CmpOp}{pl:Sem Bool}{us:List Value}
abbrev Key:=Sum Int Str
def Fe:Key->Value->Bool
 | .inl k,v=>Value.isInt k v
 | .inr x,v=>Value.isStrOf x v
def keyH(w:World):Key->Int
 | .inl k=>hashInt k
 | .inr x=>hashStr w x
theorem qc7:∀{k:Key}{v:Value},Fe k v=true->(∃ i t,k=Sum.inl i/\v=Value.int i t)∨(∃ x t,k=Sum.inr x/\v=Value.str x t)
 | .inl i,v,h=>by
   obtain⟨t,e⟩:=Value.isInt_shape (k:=i) (v:=v) h;exact .inl ⟨i,t,rfl,e⟩
 | .inr x,v,h=>by
   obtain⟨t,e⟩:=Value.isStrOf_shape (x:=x) (v:=v) h;exact .inr ⟨x,t,rfl,e⟩
theorem qad8(i:Int)(t:Tok):Fe (.inl i) (.int i t)=true:=by simp[Fe,Value.isInt]
theorem qad7(x:Str)(t:Tok):Fe (.inr x) (.str x t)=true:=by simp[Fe,Value.isStrOf]
theorem qaK4(a b:Int):decide ((Sum.inl a:Key)=Sum.inl b)=(a == b):=by
 by_cases e:a=b
 . subst e;simp
 have h:¬ (Sum.inl a:Key)=Sum.inl b:=λ q=>e (Sum.inl.inj q)
 rw[zAp h];exact(zBh.mpr e).symm
theorem qaK1(a b:Str):decide ((Sum.inr a:Key)=Sum.inr b)=decide (a=b):=by
 by_cases e:a=b
 . subst e;simp
 have h:¬ (Sum.inr a:Key)=Sum.inr b:=λ q=>e (Sum.inr.inj q)
 rw[zAp h,zAp e]
theorem qaK3(a:Int)(b:Str):decide ((Sum.inl a:Key)=Sum.inr b)=false:=zAp (λ q=>nomatch q)
theorem qaK2(a:Str)(b:Int):decide ((Sum.inr a:Key)=Sum.inl b)=false:=zAp (λ q=>nomatch q)
def qe7(prog:Program)(w:World):PySem.KeyKind prog w Key where
 is:=Fe
 hash:=keyH w
 inj:=λ v a b ha hb=>by
   rcases qc7 ha with⟨i,t,rfl,rfl⟩ | ⟨x,t,rfl,rfl⟩
   . rcases qc7 hb with⟨j,u,rfl,e⟩ | ⟨y,u,rfl,e⟩
     . injection e with e1 _;rw[e1]
     exact nomatch e
   rcases qc7 hb with⟨j,u,rfl,e⟩ | ⟨y,u,rfl,e⟩
   . exact nomatch e
   injection e with e1 _;rw[e1]
 byValue:=λ k v h=>by
   rcases qc7 h with⟨i,t,rfl,rfl⟩ | ⟨x,t,rfl,rfl⟩<;>rfl
 pyHash:=λ hv h=>by
   rcases qc7 hv with⟨i,t,rfl,rfl⟩ | ⟨x,t,rfl,rfl⟩
   . exact wpAny_pyHash_int h
   exact wpAny_pyHash_str h
 eqBool:=λ hu hv h=>by
   rcases qc7 hu with⟨i,t,rfl,rfl⟩ | ⟨x,t,rfl,rfl⟩
   . rcases qc7 hv with⟨j,u,rfl,rfl⟩ | ⟨y,u,rfl,rfl⟩
     . rw[qaK4] at h;exact wpAny_eqBool_int h
     rw[qaK3] at h;exact SeqAt.EqAt.int_str i t y u _ _ _ _ h
   rcases qc7 hv with⟨j,u,rfl,rfl⟩ | ⟨y,u,rfl,rfl⟩
   . rw[qaK2] at h;exact SeqAt.EqAt.str_int x t j u _ _ _ _ h
   rw[qaK1] at h;exact wpAny_eqBool_str h
 «strs»:=λ k x t v h=>by
   rcases qc7 h with⟨i,u,rfl,e⟩ | ⟨y,u,rfl,e⟩
   . exact nomatch e
   injection e with e1 _
   subst e1;cases v<;>rfl
theorem qQ2(prog:Program)(w:World)(i:Int)(t:Tok):(qe7 prog w).is (.inl i) (.int i t)=true:=qad8 i t
theorem qQ1(prog:Program)(w:World)(x:Str)(t:Tok):(qe7 prog w).is (.inr x) (.str x t)=true:=qad7 x t
inductive V where
 | non | bl (b:Bool) | int (i:Int) | str (x:Str) | byt (b:Array UInt8) | flt (b:UInt64) | ref (a:Addr) | ty (n:String)
 deriving DecidableEq
def RelV:V->Value->Prop
 | .non,u=>u=Value.none
 | .bl b,u=>u=Value.bool b
 | .int i,u=>∃ t,u=Value.int i t
 | .str x,u=>∃ t,u=Value.str x t
 | .byt b,u=>∃ t,u=Value.bytes b t
 | .flt b,u=>∃ t,u=Value.float b t
 | .ref a,u=>u=Value.ref a
 | .ty n,u=>u=Value.type n
abbrev Vals:List V->List Value->Prop:=Paired RelV
theorem Vals.length{xs:List V}(r:Vals xs us):xs.length=us.length:=Paired.length r
theorem Vals.get:∀{xs:List V}{us:List Value}{i:Nat}{x:V},Vals xs us->xs[i]? = some x->∃ u,us[i]? = some u/\RelV x u
 | _,_,_,_,.nil,e=>by simp at e
 | _,_,0,_,.cons r _,e=>by simp at e;subst e;exact⟨_,rfl,r⟩
 | _,_,i+1,x,.cons _ t,e=>by
   obtain⟨u,h1,h2⟩:=Vals.get (i:=i) (x:=x) t (by simpa using e);exact⟨u,by simpa using h1,h2⟩
theorem Vals.set{x:V}{u:Value}(r:RelV x u):∀{xs:List V}{us:List Value}(i:Nat),Vals xs us->Vals (xs.set i x) (us.set i u)
 | _,_,_,.nil=>.nil
 | _,_,0,.cons _ t=>.cons r t
 | _,_,i+1,.cons q t=>.cons q (Vals.set r i t)
theorem Vals.append:∀{xs ys:List V}{us ws:List Value},Vals xs us->Vals ys ws->Vals (xs++ys) (us++ws)
 | _,_,_,_,.nil,s=>s
 | _,_,_,_,.cons r t,s=>.cons r (Vals.append t s)
theorem Vals.take:∀{xs:List V}{us:List Value}(n:Nat),Vals xs us->Vals (xs.take n) (us.take n)
 | _,_,0,_=>.nil
 | _,_,_+1,.nil=>.nil
 | _,_,n+1,.cons r t=>.cons r (Vals.take n t)
theorem Vals.drop:∀{xs:List V}{us:List Value}(n:Nat),Vals xs us->Vals (xs.drop n) (us.drop n)
 | _,_,0,r=>r
 | _,_,_+1,.nil=>.nil
 | _,_,n+1,.cons _ t=>Vals.drop n t
def RelO:Option V->Option Value->Prop
 | some v,some u=>RelV v u
 | none,none=>True
 | _,_=>False
def KV{κ:Type}:List (κ×V)->List (κ×Value)->Prop:=Paired λ(p:κ×V)(q:κ×Value)=>p.1=q.1/\RelV p.2 q.2
def kV:Key->V
 | .inl i=>.int i
 | .inr x=>.str x
inductive HO where
   | lst (xs:List V)
   | tup (xs:List V)
   | dK (kvs:List (Key×V)) | dT (kvs:List (List Key×V))
   | set (S:Int->Bool) (n:Nat)
   | ins (C dx:Addr) (fs:List (Str×V))
   | own (x:Addr)
   | xd (fs:List (Str×V))
   | met (f x:Addr)
   | rng (lo hi:Int)
   | frz (o:Obj) (u:HO)
   | tbl (ps:Array Value)
   | ext (φ:Heap->Prop)
abbrev Hp:=Addr->Option HO
def upd(H:Hp)(a:Addr)(o:HO):Hp:=λ b=>if b=a then some o else H b
theorem qb1{H:Hp}{a:Addr}{o:HO}:upd H a o a=some o:=by unfold upd;rw[if_pos rfl]
theorem qb3{H:Hp}{a b:Addr}{o:HO}(h:b≠a):upd H a o b=H b:=by unfold upd;rw[if_neg h]
theorem qau6{H:Hp}{a:Addr}{o u:HO}:upd (upd H a o) a u=upd H a u:=by
 funext b;unfold upd;split<;>rfl
theorem ne_of{H:Hp}{a b:Addr}{o u:HO}(h:H a=some o)(h':H b=some u)(d:o≠u):a≠b:=by
 intro e;subst e;rw[h] at h';exact d (Option.some.inj h')
theorem qb8{H:Hp}{a b:Addr}{o:HO}(h:H a=some o)(h':H b=none):a≠b:=by
 intro e;subst e;rw[h] at h';cases h'
section
variable(P:Program)(w:World)
def ObjOk(H:Hp)(h:Heap)(a:Addr):HO->Prop
 | .lst xs=>xs.length<=sizeLine/\∃(its:List Value)(n:Nat),Vals xs its/\h.get? a=some { cls:=.type "list",data:=.seq its.toArray n }
 | .tup xs=>xs.length<=sizeLine/\∃ its:List Value,Vals xs its/\IsTup h a its.toArray
 | .dK kvs=>kvs.length<=sizeLine/\(a == sysModules)=false/\∃ vs,KV kvs vs/\h.DictOf (qe7 P w) a vs
 | .dT kvs=>kvs.length<=sizeLine/\(a == sysModules)=false/\∃ xs:List (List Key×Addr×Value),
     Paired (λ(p:List Key×V)(q:List Key×Addr×Value)=>p.1=q.1/\H q.2.1=some (.tup (p.1.map kV))/\RelV p.2 q.2.2) kvs xs /\
     ∃ o es ep,h.get? a=some o/\o.ExactDict/\o.data=.dict es ep/\es.toList=xs.map (entryOfKey (tupleKind (qe7 P w)))/\(xs.map (·.1)).Nodup
 | .set S n=>h.SetOf (intKind P w) a S n
 | .ins C dx fs=>H dx=some (.own a)/\fs.length<=1000/\dx≠a/\h.get? a=some (PySem.W.instObj C dx) /\
     ∃ mA,h.Ns1 dx mA/\(∀ f,RelO (fs.lookup f) (mA f))/\PySem.Within mA (fs.map (·.1))
 | .own _=>∃ o,h.get? a=some o
 | .xd fs=>∃ mA,h.Ns1 a mA/\∀ f,RelO (fs.lookup f) (mA f)
 | .rng lo hi=>∃ t u v,h.get? a=some { cls:=.type "range",data:=.fields #[.int lo t,.int hi u,.int 1 v] }
 | .frz o u=>h.get? a=some o/\ObjOk H h a u
 | .tbl ps=>h.get? a=some { cls:=.none,data:=.fields ps }
 | .met f x=>h.get? a=some (PySem.W.methodObj (.ref f) (.ref x))
 | .ext φ=>φ h/\(∃ o,h.get? a=some o)/\∀ h1 h2:Heap,φ h1->(∀ o,h1.get? a=some o->h2.get? a=some o)->φ h2
def HOk(H:Hp)(h:Heap):Prop:=∀ a o,H a=some o->ObjOk P w H h a o
end
section
variable{P:Program}{w:World}{H H':Hp}{h h':Heap}{a:Addr}{o:HO}
theorem ObjOk.lt(x:ObjOk P w H h a o):a < h.objs.size:=by
 cases o with
 | lst xs=>obtain⟨_,_,_,_,e⟩:=x;exact zA6 e
 | tup xs=>obtain⟨_,_,_,p⟩:=x;exact p.lt
 | dK kvs=>obtain⟨_,_,_,_,o,_,_,e,_⟩:=x;exact zA6 e
 | dT kvs=>obtain⟨_,_,_,_,o,_,_,e,_⟩:=x;exact zA6 e
 | set S n=>obtain⟨o,_,_,_,e,_⟩:=x;exact zA6 e
 | ins C dx fs=>obtain⟨_,_,_,e,_⟩:=x;exact zA6 e
 | own y=>obtain⟨_,e⟩:=x;exact zA6 e
 | xd fs=>obtain⟨_,⟨_,_,_,e,_⟩,_⟩:=x;exact zA6 e
 | rng lo hi=>obtain⟨_,_,_,e⟩:=x;exact zA6 e
 | frz ob u=>obtain⟨e,_⟩:=x;exact zA6 e
 | tbl ps=>exact zA6 (show h.get? a=some _ from x)
 | met f y=>exact zA6 (show h.get? a=some _ from x)
 | ext φ=>obtain⟨_,⟨_,e⟩,_⟩:=x;exact zA6 e
theorem Paired.mapP{α β:Type}{F G:α->β->Prop}:∀{l₁:List α}{l₂:List β},Paired F l₁ l₂->(∀ a b,F a b->G a b)->Paired G l₁ l₂
 | _,_,.nil,_=>.nil
 | _,_,.cons r t,f=>.cons (f _ _ r) (Paired.mapP t f)
theorem ObjOk.stay(x:ObjOk P w H h a o)(k:∀ b u,(b=a∨H b=some (.own a))->h.get? b=some u->h'.get? b=some u)(ho:∀ b,H b=some (.own a)->H' b=some (.own a))(ht:∀ b xs,H b=some (.tup xs)->H' b=some (.tup xs)):ObjOk P w H' h' a o:=by
 induction o with
 | lst xs=>obtain⟨z,its,n,r,e⟩:=x;exact⟨z,its,n,r,k _ _ (.inl rfl) e⟩
 | tup xs=>obtain⟨z,its,r,ob,e,c⟩:=x;exact⟨z,its,r,ob,k _ _ (.inl rfl) e,c⟩
 | dK kvs=>obtain⟨z,y,vs,r,ob,es,ep,e,c⟩:=x;exact⟨z,y,vs,r,ob,es,ep,k _ _ (.inl rfl) e,c⟩
 | dT kvs =>
   obtain⟨z,y,xs,r,ob,es,ep,e,c⟩:=x;exact⟨z,y,xs,Paired.mapP r λ p q z=>⟨z.1,ht _ _ z.2.1,z.2.2⟩,ob,es,ep,k _ _ (.inl rfl) e,c⟩
 | set S n=>obtain⟨ob,es,ep,t,e,c⟩:=x;exact⟨ob,es,ep,t,k _ _ (.inl rfl) e,c⟩
 | ins C dx fs =>
   obtain⟨d,z,ne,e,mA,⟨od,es,ep,e2,c⟩,r⟩:=x;exact⟨ho _ d,z,ne,k _ _ (.inl rfl) e,mA,⟨od,es,ep,k _ _ (.inr d) e2,c⟩,r⟩
 | own y=>obtain⟨ob,e⟩:=x;exact⟨ob,k _ _ (.inl rfl) e⟩
 | xd fs=>obtain⟨mA,⟨od,es,ep,e,c⟩,r⟩:=x;exact⟨mA,⟨od,es,ep,k _ _ (.inl rfl) e,c⟩,r⟩
 | rng lo hi=>obtain⟨t,u,v,e⟩:=x;exact⟨t,u,v,k _ _ (.inl rfl) e⟩
 | frz ob u ih=>obtain⟨e,q⟩:=x;exact⟨k _ _ (.inl rfl) e,ih q⟩
 | tbl ps =>
   have e:h.get? a=some { cls:=.none,data:=.fields ps }:=x;show h'.get? a=some { cls:=.none,data:=.fields ps };exact k a _ (.inl rfl) e
 | met f y =>
   have e:h.get? a=some (PySem.W.methodObj (.ref f) (.ref y)):=x;show h'.get? a=some (PySem.W.methodObj (.ref f) (.ref y));exact k a _ (.inl rfl) e
 | ext φ=>obtain⟨p,⟨o,e⟩,st⟩:=x;exact⟨st _ _ p λ o q=>k _ _ (.inl rfl) q,⟨o,k _ _ (.inl rfl) e⟩,st⟩
theorem HOk.lt(x:HOk P w H h)(e:H a=some o):a < h.objs.size:=(x a o e).lt
theorem HOk.fresh(x:HOk P w H h)(e:h.objs.size<=a):H a=none:=by
 cases q:H a with
 | none=>rfl
 | some u=>exact absurd (zAa (x.lt q) e) (Nat.lt_irrefl _)
theorem HOk.kept(x:HOk P w H h)(k:∀ b u,h.get? b=some u->h'.get? b=some u):HOk P w H h':=λ a o e =>
 (x a o e).stay (λ b u _ q=>k b u q) (λ _ q=>q) λ _ _ q=>q
theorem HOk.laid(x:HOk P w H h)(k:∀ b u,h.get? b=some u->h'.get? b=some u)(hp:h.objs.size<=a)(new:ObjOk P w (upd H a o) h' a o):HOk P w (upd H a o) h':=λ b u e=>by
 have hn:=x.fresh hp;by_cases hb:b=a
 . subst hb;rw[qb1] at e;cases e;exact new
 rw[qb3 hb] at e;exact(x b u e).stay (λ c v _ q=>k c v q) (λ c q=>by rw[qb3 (qb8 q hn)];exact q) λ c xs q=>by rw[qb3 (qb8 q hn)];exact q
end
def Rd(H:Hp)(a:Addr)(u:HO):Prop:=H a=some u∨∃ o,H a=some (.frz o u)
theorem Rd.ok{P:Program}{w:World}{H:Hp}{h:Heap}{a:Addr}{u:HO}(r:Rd H a u)(x:HOk P w H h):ObjOk P w H h a u:=by
 rcases r with r | ⟨o,r⟩
 . exact x a u r
 obtain⟨_,q⟩:=x a _ r;exact q
def Mut:Option HO->Prop
 | some (.lst _)=>True
 | some (.dK _)=>True
 | some (.dT _)=>True
 | some (.set _ _)=>True
 | some (.ins _ _ _)=>True
 | some (.ext _)=>True
 | _=>False
section
variable{P:Program}{w:World}{H:Hp}{h h':Heap}{x e:Addr}{o':HO}
theorem HOk.write(ok:HOk P w H h)(mu:Mut (H x))(he:e=x∨H e=some (.own x))(k:∀ b u,b≠e->h.get? b=some u->h'.get? b=some u)(heo:∃ u,h'.get? e=some u)(new:ObjOk P w (upd H x o') h' x o'):HOk P w (upd H x o') h':=λ b u q=>by
 have nown:∀ c y,H c=some (.own y)->c≠x:=λ c y r z=>by subst z;rw[r] at mu;exact mu
 have ntup:∀ c xs,H c=some (.tup xs)->c≠x:=λ c xs r z=>by subst z;rw[r] at mu;exact mu
 by_cases hb:b=x
 . subst hb;rw[qb1] at q;cases q;exact new
 rw[qb3 hb] at q;by_cases hbe:b=e
 . have q':H b=some (.own x):=by
     rcases he with z | z
     . exact absurd (hbe.trans z) hb
     rw[hbe];exact z
   rw[q] at q';cases q';obtain⟨v,hv⟩:=heo;exact⟨v,by rw[hbe];exact hv⟩
 refine(ok b u q).stay (λ c v hc r=>k c v ?_ r) (λ c r=>by rw[qb3 (nown c b r)];exact r) λ c xs r=>by rw[qb3 (ntup c xs r)];exact r
 rcases hc with rfl | hc
 . exact hbe
 rintro rfl;rcases he with z | z
 . exact nown c b hc z
 rw[hc] at z;cases z;exact hb rfl
end
structure Un(fs ex:List Addr)(H H':Hp)(h h':Heap):Prop where
 keep:∀ b o,h.get? b=some o->H b=none->b∉fs->b∉ex->h'.get? b=some o
 slot:∀ b o,h.get? b=some o->H b=none->b∈fs->b∉ex->∃ sl,h'.get? b=some { o with slots:=sl }
 free:∀ b o,h.get? b=some o->H b=none->b∉ex->H' b=none
 there:∀ b o,h.get? b=some o->b∉ex->∃ o',h'.get? b=some o'
 tups:∀ b xs,H b=some (.tup xs)->H' b=some (.tup xs)
 frzs:∀ b o u,H b=some (.frz o u)->H' b=some (.frz o u)
 tbls:∀ b ps,H b=some (.tbl ps)->∃ more,H' b=some (.tbl (ps++more))
section
variable{fs ex:List Addr}{H H1 H2:Hp}{h h1 h2 h':Heap}{a x e:Addr}{o:HO}
theorem Un.any(u:Un fs ex H H1 h h1){b:Addr}{ob:Obj}(q:h.get? b=some ob)(n:H b=none)(hx:b∉ex):∃ sl,h1.get? b=some { ob with slots:=sl }:=by
 by_cases hb:b∈fs
 . exact u.slot b ob q n hb hx
 exact⟨ob.slots,u.keep b ob q n hb hx⟩
theorem Un.trans(a:Un fs ex H H1 h h1)(b:Un fs ex H1 H2 h1 h2):Un fs ex H H2 h h2 where
 keep:=λ c ob q n hc hx=>b.keep c ob (a.keep c ob q n hc hx) (a.free c ob q n hx) hc hx
 slot:=λ c ob q n hc hx=>by
   obtain⟨sl,e1⟩:=a.slot c ob q n hc hx;obtain⟨sl',e2⟩:=b.slot c _ e1 (a.free c ob q n hx) hc hx;exact⟨sl',e2⟩
 free:=λ c ob q n hx=>by
   obtain⟨o',e1⟩:=a.there c ob q hx;exact b.free c o' e1 (a.free c ob q n hx) hx
 there:=λ c ob q hx=>by
   obtain⟨o',e1⟩:=a.there c ob q hx;exact b.there c o' e1 hx
 tups:=λ c xs q=>b.tups c xs (a.tups c xs q)
 frzs:=λ c ob xs q=>b.frzs c ob xs (a.frzs c ob xs q)
 tbls:=λ c ps q=>by
   obtain⟨m1,e1⟩:=a.tbls c ps q;obtain⟨m2,e2⟩:=b.tbls c _ e1;exact⟨m1++m2,by rw[e2,Array.append_assoc]⟩
theorem Un.kept(k:∀ b u,h.get? b=some u->h'.get? b=some u):Un fs ex H H h h' :=
 ⟨λ b ob q _ _ _=>k b ob q,λ b ob q _ _ _=>⟨ob.slots,k b ob q⟩,λ _ _ _ n _=>n,λ b ob q _=>⟨ob,k b ob q⟩,λ _ _ q=>q,λ _ _ _ q=>q,λ _ ps q=>⟨#[],by rw[q];simp⟩⟩
theorem Un.refl:Un fs ex H H h h:=Un.kept λ _ _ q=>q
theorem Un.laid(k:∀ b u,h.get? b=some u->h'.get? b=some u)(hp:h.objs.size<=a)(hn:H a=none):Un fs ex H (upd H a o) h h' where
 keep:=λ b u q _ _ _=>k b u q
 slot:=λ b u q _ _ _=>⟨u.slots,k b u q⟩
 free:=λ b u q n _=>by rw[qb3 (zAi (zAa (zA6 q) hp))];exact n
 there:=λ b u q _=>⟨u,k b u q⟩
 tups:=λ b xs q=>by rw[qb3 (qb8 q hn)];exact q
 frzs:=λ b u xs q=>by rw[qb3 (qb8 q hn)];exact q
 tbls:=λ b ps q=>⟨#[],by rw[qb3 (qb8 q hn),q];simp⟩
theorem Un.write(mu:Mut (H x))(he:e=x∨H e=some (.own x))(k:∀ b u,b≠e->h.get? b=some u->h'.get? b=some u)(heo:∃ u,h'.get? e=some u):Un fs ex H (upd H x o) h h':=by
 have hx:∀ b,H b=none->b≠x:=λ b n z=>by subst z;rw[n] at mu;exact mu
 have hb:∀ b,H b=none->b≠e:=λ b n z=>by
   subst z;rcases he with r | r
   . exact hx b n r
   rw[n] at r;cases r
 have hm:∀ b u,H b=some u->¬ Mut (some u)->b≠x:=λ b u q nm z=>by subst z;rw[q] at mu;exact nm mu
 refine⟨λ b u q n _ _=>k b u (hb b n) q,λ b u q n _ _=>⟨u.slots,k b u (hb b n) q⟩,λ b u q n _=>by rw[qb3 (hx b n)];exact n,λ b u q _=>?_,
   λ b xs q=>by rw[qb3 (hm b _ q λ z=>z)];exact q,λ b u xs q=>by rw[qb3 (hm b _ q λ z=>z)];exact q,λ b ps q=>⟨#[],by rw[qb3 (hm b _ q λ z=>z),q];simp⟩⟩
 by_cases hbe:b=e
 . subst hbe;exact heo
 exact⟨u,k b u hbe q⟩
end
def trk(h:Heap)(H:Hp):List Addr:=(List.range h.objs.size).filter λ a=>(H a).isSome
def Fp(h:Heap)(H:Hp):Heap:=PySem.W.hideAll h (trk h H)
theorem qae2(h:Heap)(H:Hp):(Fp h H).objs.size=h.objs.size:=PySem.W.hideAll_size _ _
theorem qar3{h:Heap}{H:Hp}{b:Addr}{o:Obj}(e:h.get? b=some o)(n:H b=none):(Fp h H).get? b=some o :=
 PySem.W.hideAll_get _ e λ hm=>by
   have q:(H b).isSome=true:=(zC0.mp hm).2;rw[n] at q;simp at q
theorem qaz4{h:Heap}{H:Hp}{b:Addr}{o:Obj}(e:(Fp h H).get? b=some o):h.get? b=some o/\H b=none:=by
 have e':h.get? b=some o:=PySem.W.of_hideAll (trk h H) e;refine⟨e',?_⟩;cases q:H b with
 | none=>rfl
 | some x =>
   have hm:b∈trk h H:=zC0.mpr ⟨zB2.mpr (zA6 e'),by simp[q]⟩;have z:(Fp h H).get? b=none:=PySem.W.hideAll_none (trk h H) hm;rw[z] at e;cases e
structure Mod(K:PySem.W.Frag)(mg:Str->Option Value)(base:Heap):Prop where
 kin:K.In base
 glob:base.Ns mainGlobals mg
 blt:∃ mb,base.Ns builtinsNs mb/\∀ x:Str,x ≠ "__name__" -> mb x=bootBuiltins x
 nolimit:base.NoLimit
structure Cx where
 prog:Program
 w:World
 K:PySem.W.Frag
 mg:Str->Option Value
 base:Heap
 A:Around
 N:List Str
 s₀:Shared
 H₀:Hp
 env:Env
 outer:List Env
 stack:List Env
 ex:List Addr
 fn:Str->Bool
 calm:Bool
 pn:List (Addr×Obj)
 xe:Value->Shared->Prop
def frs(l:List Env):List Addr:=l.filterMap (·.frame)
abbrev Cx.fs(X:Cx):List Addr:=frs X.outer
def Vis(sc:Scope)(x:Str):Prop:=sc.names.lookup x=some .local∨sc.names.lookup x=some .cell∨sc.names.lookup x=some .free
def Loc(sc:Scope)(x:Str):Prop:=sc.names.lookup x=some .local∨sc.names.lookup x=some .cell
def Look(env:Env)(h:Heap)(m:Str->Option Value)(x:Str)(u:Value):Prop :=
 (env.kindOf x=some .local/\m x=some u)∨((env.kindOf x=some .cell∨env.kindOf x=some .free)/\∃ c,env.cells.lookup x=some c/\h.IsCell c (some u))
structure Cx.Ok(X:Cx):Prop where
 mod:Mod X.K X.mg X.base
 kind:X.env.scope.kind=.function
 glob:X.env.globals=mainGlobals
 blt:X.env.builtins=builtinsNs
 above:X.s₀.heap.objs.size<=X.env.locals
 inj:∀ x y c,X.env.cells.lookup x=some c->X.env.cells.lookup y=some c->x=y
 has:∀ x,(X.env.kindOf x=some .cell∨X.env.kindOf x=some .free)->∃ c,X.env.cells.lookup x=some c
 cab:∀ x c,X.fn x=true->X.env.cells.lookup x=some c->X.s₀.heap.objs.size<=c
 hd:X.calm=true->X.A.handled=none
 frames:X.A.frames=some X.stack
 stk:X.stack=X.outer∨(X.stack=X.env::X.outer/\X.env.frame=some X.env.locals)
 exf:∀ b∈X.ex,b≠X.env.locals/\∀ x c,X.env.cells.lookup x=some c->c≠b
 bs:∀ b o,X.base.get? b=some o->X.s₀.heap.get? b=some o/\X.H₀ b=none
 bsz:X.base.objs.size<=X.s₀.heap.objs.size
 noex:∀ b o,X.base.get? b=some o->b∉X.ex
 exfs:∀ b∈X.ex,b∉X.fs
 funs:X.s₀.heap.FunFrames X.base X.outer
 frf:∀ b∈X.fs,X.H₀ b=none
structure Inv(X:Cx)(Dy:List (Addr×Obj))(σ:List (Option V))(H:Hp)(s:Shared):Prop where
 ok:X.Ok
 os:s.os=X.s₀.os
 bare:AllBare s.gens
 base:Un X.fs X.ex X.H₀ H X.s₀.heap s.heap
 loc:∃ m,s.heap.Ns X.env.locals m/\∀(i:Nat)(x:Str)(v:V),X.N[i]? = some x->σ[i]? = some (some v)->Vis X.env.scope x->∃ u,RelV v u/\Look X.env s.heap m x u
 cell:∀ x c,X.env.cells.lookup x=some c->∃ v,s.heap.IsCell c v
 free:H X.env.locals=none
 freeC:∀ x c,X.env.cells.lookup x=some c->H c=none
 pin:∀ p∈X.pn++Dy,s.heap.get? p.1=some p.2/\H p.1=none/\p.1≠X.env.locals/\p.1∉X.fs/\∀ v,p.2.data≠.cell v
 hok:HOk X.prog X.w H s.heap
 len:σ.length=X.N.length
section
variable{X:Cx}{Dy:List (Addr×Obj)}{σ:List (Option V)}{H H':Hp}{s:Shared}{h':Heap}
theorem Cx.Ok.nofr(ok:X.Ok){b:Addr}{o:Obj}(e:X.base.get? b=some o):b∉X.fs:=λ hb=>by
 have:=(ok.funs.mem hb).1
 rw[e] at this;cases this
theorem Inv.bs(I:Inv X Dy σ H s):∀ b o,X.base.get? b=some o->s.heap.get? b=some o/\H b=none:=λ b o e =>
 ⟨I.base.keep b o (I.ok.bs b o e).1 (I.ok.bs b o e).2 (I.ok.nofr e) (I.ok.noex b o e),I.base.free b o (I.ok.bs b o e).1 (I.ok.bs b o e).2 (I.ok.noex b o e)⟩
theorem Inv.bk(I:Inv X Dy σ H s):∀ b o,X.base.get? b=some o->s.heap.get? b=some o:=λ b o e=>(I.bs b o e).1
theorem Inv.mod(I:Inv X Dy σ H s):Mod X.K X.mg X.base:=I.ok.mod
theorem Inv.kIn(I:Inv X Dy σ H s):X.K.In s.heap:=I.ok.mod.kin.keeps I.bk
theorem Inv.fr(I:Inv X Dy σ H s):∃ m,Fr X.base X.env.locals s.heap m :=
 let ⟨m,hn,_⟩:=I.loc
 ⟨m,hn,I.bk,zAl I.ok.bsz I.ok.above⟩
theorem Inv.lt(I:Inv X Dy σ H s):X.env.locals < s.heap.objs.size:=let ⟨_,hn,_⟩:=I.loc;hn.lt
theorem Inv.sz(I:Inv X Dy σ H s):X.s₀.heap.objs.size<=s.heap.objs.size:=zAl I.ok.above (Nat.le_of_lt I.lt)
theorem Inv.nofs(I:Inv X Dy σ H s){a:Addr}(h:s.heap.objs.size<=a):a∉X.fs:=λ hb=>by
 obtain⟨_,o,ho,_⟩:=I.ok.funs.mem hb;exact absurd (zAa (zA6 ho) (zAl I.sz h)) (Nat.lt_irrefl _)
theorem Inv.cne(I:Inv X Dy σ H s):∀ x c,X.env.cells.lookup x=some c->c≠X.env.locals:=λ x c e z=>by
 obtain⟨v,o,ho,hd⟩:=I.cell x c e;obtain⟨m,⟨o',es,ep,ho',hd',_⟩,_⟩:=I.loc;rw[z,ho'] at ho;cases ho;rw[hd'] at hd;cases hd
theorem Inv.funs(I:Inv X Dy σ H s):s.heap.FunFrames X.base X.outer:=by
 have all:∀(l:List Env),(∀ b∈frs l,b∈X.fs)->X.s₀.heap.FunFrames X.base l->s.heap.FunFrames X.base l:=by
   intro l
   induction l with
   | nil=>intro _ _;trivial
   | cons env r ih =>
     intro hs hl;obtain⟨hk,⟨L,o,hf,hn,ho,hd⟩,hr⟩:=hl;have hL:L∈X.fs:=hs L (by unfold frs;rw[zBw,hf];exact zAd);obtain⟨sl,e⟩:=I.base.slot L o ho (I.ok.frf L hL) hL λ z=>I.ok.exfs L z hL
     exact⟨hk,⟨L,_,hf,hn,e,hd⟩,ih (λ b hb=>hs b (by unfold frs;rw[zBw,hf];exact zA4 _ hb)) hr⟩
 exact all X.outer (λ _ hb=>hb) I.ok.funs
theorem Inv.stack(I:Inv X Dy σ H s):s.heap.FunFrames X.base X.stack:=by
 rcases I.ok.stk with e | ⟨e,hf⟩
 . rw[e];exact I.funs
 rw[e];obtain⟨m,hn,_⟩:=I.loc;refine .cons (by rw[I.ok.kind];decide) hf hn ?_ I.funs;exact Heap.get?_none_of_le (zAl I.ok.bsz I.ok.above)
theorem Inv.stkSub(I:Inv X Dy σ H s):∀ b∈frs X.stack,b∈X.env.locals::X.fs:=λ b hb=>by
 rcases I.ok.stk with e | ⟨e,hf⟩
 . rw[e] at hb;exact zA4 _ hb
 rw[e] at hb;unfold frs at hb;rw[zBw,hf] at hb;exact hb
theorem Inv.stkFree(I:Inv X Dy σ H s):∀ b∈frs X.stack,H b=none:=λ b hb=>by
 rcases zAc.mp (I.stkSub b hb) with e | hb
 . rw[e];exact I.free
 obtain⟨_,o,ho,_⟩:=I.ok.funs.mem hb;exact I.base.free b o ho (I.ok.frf b hb) λ z=>I.ok.exfs b z hb
theorem Inv.step{g':Array GenState}{d':Drawn}(I:Inv X Dy σ H s)(hch:∀ b∈ch,(b∈X.ex∨X.s₀.heap.objs.size<=b)/\b≠X.env.locals/\(∀ x c,X.env.cells.lookup x=some c->c≠b)/\∀ p∈X.pn++Dy,p.1≠b)(keep:∀ b o,b≠X.env.locals->b∉X.fs->b∉ch->s.heap.get? b=some o->H b=none->h'.get? b=some o)(slot:∀ b o,b≠X.env.locals->b∈X.fs->b∉ch->s.heap.get? b=some o->H b=none->∃ sl,h'.get? b=some { o with slots:=sl })(free:∀ b o,b∉ch->s.heap.get? b=some o->H b=none->H' b=none)(there:∀ b o,b∉ch->s.heap.get? b=some o->∃ o',h'.get? b=some o')(tups:∀ b xs,H b=some (.tup xs)->H' b=some (.tup xs))(frzs:∀ b o u,H b=some (.frz o u)->H' b=some (.frz o u))(tbls:∀ b ps,H b=some (.tbl ps)->∃ more,H' b=some (.tbl (ps++more)))(ns:∀ m,s.heap.Ns X.env.locals m->h'.Ns X.env.locals m)(hok:HOk X.prog X.w H' h')(hg:AllBare g') :
   Inv X Dy σ H' { s with heap:=h',gens:=g',drawn:=d',toks:=t' }:=by
 have neL:∀ b o,X.s₀.heap.get? b=some o->b≠X.env.locals:=λ b o e=>zAi (zAa (zA6 e) I.ok.above)
 have neC:∀ b o,X.s₀.heap.get? b=some o->b∉X.ex->b∉ch:=λ b o e hx hb=>by
   rcases (hch b hb).1 with z | z
   . exact hx z
   exact absurd (zAa (zA6 e) z) (Nat.lt_irrefl _)
 have cellK:∀ x c,X.env.cells.lookup x=some c->∀ v,s.heap.IsCell c v->h'.IsCell c v:=λ x c e v ⟨o,ho,hd⟩=>by
   have nch:c∉ch:=λ z=>(hch c z).2.2.1 x c e rfl
   by_cases hc:c∈X.fs
   . obtain⟨sl,q⟩:=slot c o (I.cne x c e) hc nch ho (I.freeC x c e)
     exact⟨_,q,hd⟩
   exact⟨o,keep c o (I.cne x c e) hc nch ho (I.freeC x c e),hd⟩
 refine⟨I.ok,I.os,hg,⟨λ b o e n hb hx=>?_,λ b o e n hb hx=>?_,λ b o e n hx=>?_,λ b o e hx=>?_,λ b xs e=>tups b xs (I.base.tups b xs e),λ b o xs e=>frzs b o xs (I.base.frzs b o xs e),λ b ps e=>?_⟩,?_,λ x c e=>?_,?_,λ x c e=>?_,λ p hp=>?_,hok,I.len⟩
 . exact keep b o (neL b o e) hb (neC b o e hx) (I.base.keep b o e n hb hx) (I.base.free b o e n hx)
 . obtain⟨sl,e1⟩:=I.base.slot b o e n hb hx
   obtain⟨sl',e2⟩:=slot b _ (neL b o e) hb (neC b o e hx) e1 (I.base.free b o e n hx);exact⟨sl',e2⟩
 . obtain⟨o',e1⟩:=I.base.there b o e hx
   exact free b o' (neC b o e hx) e1 (I.base.free b o e n hx)
 . obtain⟨o',e1⟩:=I.base.there b o e hx
   exact there b o' (neC b o e hx) e1
 . obtain⟨m1,e1⟩:=I.base.tbls b ps e
   obtain⟨m2,e2⟩:=tbls b _ e1;exact⟨m1++m2,by rw[e2,Array.append_assoc]⟩
 . obtain⟨m,hn,hl⟩:=I.loc
   refine⟨m,ns m hn,λ i x v e1 e2 e3=>?_⟩;obtain⟨u,r,l⟩:=hl i x v e1 e2 e3;refine⟨u,r,?_⟩;rcases l with l | ⟨k,c,e,z⟩
   . exact .inl l
   exact .inr ⟨k,c,e,cellK x c e _ z⟩
 . obtain⟨v,z⟩:=I.cell x c e
   exact⟨v,cellK x c e v z⟩
 . obtain⟨m,⟨o,_,_,ho,_⟩,_⟩:=I.loc
   exact free _ o (λ z=>(hch _ z).2.1 rfl) ho I.free
 . obtain⟨v,o,ho,hd⟩:=I.cell x c e
   exact free c o (λ z=>(hch c z).2.2.1 x c e rfl) ho (I.freeC x c e)
 obtain⟨e,n,ne,nf,d⟩:=I.pin p hp;have nch:p.1∉ch:=λ z=>(hch p.1 z).2.2.2 p hp rfl
 exact⟨keep p.1 p.2 ne nf nch e n,free p.1 p.2 nch e n,ne,nf,d⟩
theorem Inv.un(I:Inv X Dy σ H s)(u:Un X.fs [] H H' s.heap h')(hok:HOk X.prog X.w H' h'):Inv X Dy σ H' { s with heap:=h',toks:=t' }:=by
 obtain⟨m,⟨o,es,ep,ho,r⟩,_⟩:=id I.loc;obtain⟨sl,hL⟩:=u.any ho I.free (by simp);exact I.step (g':=s.gens) (d':=s.drawn) (ch:=[]) (λ _ z=>nomatch z) (λ b o _ hb _ e n=>u.keep b o e n hb (by simp)) (λ b o _ hb _ e n=>u.slot b o e n hb (by simp)) (λ b o _ e n=>u.free b o e n (by simp)) (λ b o _ e=>u.there b o e (by simp)) u.tups u.frzs u.tbls (λ m' hm=>by
   obtain⟨o',es',ep',ho',r'⟩:=hm;rw[ho] at ho';cases ho';exact⟨_,es',ep',hL,r'⟩) hok I.bare
theorem Inv.call{g':Array GenState}{d':Drawn}(I:Inv X Dy σ H s)(u:Un (frs X.stack) ch H H' s.heap h')(hok:HOk X.prog X.w H' h')(hg:AllBare g')(hch:∀ b∈ch,(b∈X.ex∨X.s₀.heap.objs.size<=b)/\b≠X.env.locals/\(∀ x c,X.env.cells.lookup x=some c->c≠b)/\∀ p∈X.pn++Dy,p.1≠b) :
   Inv X Dy σ H' { s with heap:=h',gens:=g',drawn:=d',toks:=t' }:=by
 obtain⟨m,⟨o,es,ep,ho,r⟩,_⟩:=id I.loc;obtain⟨sl,hL⟩:=u.any ho I.free λ z=>(hch _ z).2.1 rfl
 exact I.step (ch:=ch) hch (λ b o hL hb hc e n=>u.keep b o e n (λ z=>(zAc.mp (I.stkSub b z)).elim hL hb) hc) (λ b o _ _ hc e n=>u.any e n hc) (λ b o hc e n=>u.free b o e n hc) (λ b o hc e=>u.there b o e hc) u.tups u.frzs u.tbls (λ m' hm=>by
   obtain⟨o',es',ep',ho',r'⟩:=hm;rw[ho] at ho';cases ho';exact⟨_,es',ep',hL,r'⟩) hok hg
theorem Inv.turned{it:Addr}(I:Inv X Dy σ H s)(k:∀ b o,b≠it->s.heap.get? b=some o->h'.get? b=some o)(hn:H it=none)(hL:it≠X.env.locals)(h1:it∈X.ex∨X.s₀.heap.objs.size<=it)(h2:∀ x c,X.env.cells.lookup x=some c->c≠it)(h3:∀ p∈X.pn++Dy,p.1≠it):Inv X Dy σ H { s with heap:=h',toks:=t' }:=by
 have nit:∀ b u,H b=some u->b≠it:=λ b u e z=>by rw[z,hn] at e;cases e
 refine I.step (g':=s.gens) (d':=s.drawn) (ch:=[it]) (λ b hb=>?_) (λ b o _ _ hc e _=>k b o (λ z=>hc (by simp[z])) e) (λ b o _ _ hc e _=>⟨o.slots,k b o (λ z=>hc (by simp[z])) e⟩) (λ _ _ _ _ n=>n)
   (λ b o hc e=>⟨o,k b o (λ z=>hc (by simp[z])) e⟩) (λ _ _ e=>e) (λ _ _ _ e=>e) (λ b ps e=>⟨#[],by rw[e];simp⟩) (λ m hm=>?_) (λ b u e=>?_) I.bare
 . have e:b=it:=by simpa using hb
   subst e;exact⟨h1,hL,h2,h3⟩
 . obtain⟨o,es,ep,ho,r⟩:=hm
   exact⟨o,es,ep,k _ o (Ne.symm hL) ho,r⟩
 refine(I.hok b u e).stay (λ c v hc q=>k c v ?_ q) (λ _ q=>q) λ _ _ q=>q
 rcases hc with z | z
 . rw[z];exact nit b u e
 exact nit c _ z
theorem Inv.tok(I:Inv X Dy σ H s)(t:Nat):Inv X Dy σ H { s with toks:=t }:=I.un (h':=s.heap) (t':=t) Un.refl I.hok
theorem Inv.kept(I:Inv X Dy σ H s)(k:∀ b u,s.heap.get? b=some u->h'.get? b=some u):Inv X Dy σ H { s with heap:=h',toks:=t' }:=I.un (Un.kept k) (I.hok.kept k)
theorem Inv.laid{a:Addr}{o:HO}(I:Inv X Dy σ H s)(k:∀ b u,s.heap.get? b=some u->h'.get? b=some u)(hp:s.heap.objs.size<=a)(new:ObjOk X.prog X.w (upd H a o) h' a o) :
   Inv X Dy σ (upd H a o) { s with heap:=h',toks:=t' }:=I.un (Un.laid k hp (I.hok.fresh hp)) (I.hok.laid k hp new)
theorem Inv.write{x e:Addr}{o:HO}(I:Inv X Dy σ H s)(mu:Mut (H x))(he:e=x∨H e=some (.own x))(k:∀ b u,b≠e->s.heap.get? b=some u->h'.get? b=some u)(heo:∃ u,h'.get? e=some u)(new:ObjOk X.prog X.w (upd H x o) h' x o):Inv X Dy σ (upd H x o) { s with heap:=h',toks:=t' }:=I.un (Un.write mu he k heo) (I.hok.write mu he k heo new)
theorem Inv.weak{σ':List (Option V)}(I:Inv X Dy σ H s)(hl:σ'.length=σ.length)(w:∀(i:Nat) v,σ'[i]? = some (some v)->σ[i]? = some (some v)):Inv X Dy σ' H s :=
 ⟨I.ok,I.os,I.bare,I.base,let ⟨m,hn,hl'⟩:=I.loc;⟨m,hn,λ i x v e1 e2 e3=>hl' i x v e1 (w i v e2) e3⟩,I.cell,I.free,I.freeC,I.pin,I.hok,hl.trans I.len⟩
theorem Inv.pins_of{pins':List (Addr×Obj)}(I:Inv X Dy σ H s)(h:∀ p∈pins',s.heap.get? p.1=some p.2/\H p.1=none/\p.1≠X.env.locals/\p.1∉X.fs/\∀ v,p.2.data≠.cell v):Inv X pins' σ H s :=
 ⟨I.ok,I.os,I.bare,I.base,I.loc,I.cell,I.free,I.freeC,λ p hp=>(zAf.mp hp).elim (λ z=>I.pin p (List.mem_append_left _ z)) (h p),I.hok,I.len⟩
theorem qH8(hN:N.Nodup){j:Nat}{x:Str}(a:N[i]? = some x)(b:N[j]? = some x):i=j:=by
 obtain⟨h1,e1⟩:=zA7.mp a;obtain⟨h2,e2⟩:=zA7.mp b;exact(List.getElem_inj hN).mp (e1.trans e2.symm)
theorem qab0{A:Around}{E:Value->Shared->Prop}{x:Str}{v:V}{u:Value}{Q:Unit->Shared->Prop}(I:Inv X Dy σ H s)(hN:X.N.Nodup)(hi:X.N[i]? = some x)(hx:Loc X.env.scope x)(r:RelV v u)(h:∀ s',Inv X Dy (σ.set i (some v)) H s'->(∃ a,Heap.SameBut a s.heap s'.heap/\(a=X.env.locals∨X.env.cells.lookup x=some a))->Q () s')(hf:X.fn x=true∨X.env.scope.names.lookup x=some .local:=by first | exact .inl rfl | exact .inr rfl | assumption):wpAny M A (storeName X.env x u) Q E s:=by
 obtain⟨m,hn,hl⟩:=id I.loc;have hcls:(X.env.scope.kind == .class||(X.env.scope.kind == .module&&X.env.locals != X.env.globals))=false:=by rw[I.ok.kind];rfl
 have hiσ:i < σ.length:=by rw[I.len];exact(zA7.mp hi).1
 have cne:=I.cne;have tracked:∀{a:Addr}{h':Heap},(∃ o,s.heap.get? a=some o/\H a=none)->Heap.SameBut a s.heap h'->HOk X.prog X.w H h':=λ{a h'} ha hs b ob e=>by
   obtain⟨_,_,hfree⟩:=ha;refine(I.hok b ob e).stay (λ c w' hc q=>(hs.2 c ?_).trans q) (λ _ q=>q) λ _ _ q=>q
   rintro rfl;rcases hc with rfl | hc
   . rw[hfree] at e;cases e
   rw[hfree] at hc;cases hc
 rcases hx with hk | hk
 . refine wpAny_storeName_local hk hn (λ h' hn' hs=>?_) hcls
   obtain⟨oL,_,_,hoL,_⟩:=id hn;refine h _ ⟨I.ok,I.os,I.bare,⟨λ b o e n hb hx=>?_,λ b o e n hb hx=>?_,I.base.free,λ b o e hx=>?_,I.base.tups,I.base.frzs,I.base.tbls⟩,⟨_,hn',λ j y v' e1 e2 e3=>?_⟩,λ y c e=>?_,I.free,I.freeC,λ p hp=>?_,tracked ⟨oL,hoL,I.free⟩ hs,by simpa using I.len⟩ ⟨_,hs,.inl rfl⟩
   . exact(hs.2 b (zAi (zAa (zA6 e) I.ok.above))).trans (I.base.keep b o e n hb hx)
   . obtain⟨sl,e1⟩:=I.base.slot b o e n hb hx
     exact⟨sl,(hs.2 b (zAi (zAa (zA6 e) I.ok.above))).trans e1⟩
   . obtain⟨o',e1⟩:=I.base.there b o e hx
     exact⟨o',(hs.2 b (zAi (zAa (zA6 e) I.ok.above))).trans e1⟩
   . by_cases hj:j=i
     . subst hj
       rw[hi] at e1;cases e1;rw[zB0 hiσ] at e2;cases e2;exact⟨u,r,.inl ⟨hk,by simp⟩⟩
     rw[zB5 (Ne.symm hj)] at e2;obtain⟨u',r',q⟩:=hl j y v' e1 e2 e3;refine⟨u',r',?_⟩;rcases q with⟨k,e⟩ | ⟨k,c,e,z⟩
     . refine .inl ⟨k,?_⟩
       have:y≠x:=λ e=>hj (qH8 hN e1 (e ▸ hi))
       simp[this,e]
     exact .inr ⟨k,c,e,z.sameBut hs (cne y c e)⟩
   . obtain⟨w',z⟩:=I.cell y c e
     exact⟨w',z.sameBut hs (cne y c e)⟩
   obtain⟨e,n,ne,nf,d⟩:=I.pin p hp;exact⟨(hs.2 p.1 ne).trans e,n,ne,nf,d⟩
 have hfn:X.fn x=true:=by
   rcases hf with z | z
   . exact z
   rw[z] at hk;cases hk
 obtain⟨c,hc⟩:=I.ok.has x (.inl hk);obtain⟨w',z⟩:=I.cell x c hc;refine wpAny_storeName_cell I.ok.kind hk hc z (λ h' hc' hs=>?_);obtain⟨oc,hoc,hocd⟩:=id z;refine h { s with heap:=h' } ⟨I.ok,I.os,I.bare,⟨λ b o e n hb hx=>?_,λ b o e n hb hx=>?_,I.base.free,λ b o e hx=>?_,I.base.tups,I.base.frzs,I.base.tbls⟩,⟨m,hn.sameBut hs (Ne.symm (cne x c hc)),λ j y v' e1 e2 e3=>?_⟩,λ y c' e=>?_,I.free,I.freeC,λ p hp=>?_,tracked ⟨oc,hoc,I.freeC x c hc⟩ hs,by simpa using I.len⟩ ⟨c,hs,.inr hc⟩
 . exact(hs.2 b (zAi (zAa (zA6 e) (I.ok.cab x c hfn hc)))).trans (I.base.keep b o e n hb hx)
 . obtain⟨sl,e1⟩:=I.base.slot b o e n hb hx
   exact⟨sl,(hs.2 b (zAi (zAa (zA6 e) (I.ok.cab x c hfn hc)))).trans e1⟩
 . obtain⟨o',e1⟩:=I.base.there b o e hx
   exact⟨o',(hs.2 b (zAi (zAa (zA6 e) (I.ok.cab x c hfn hc)))).trans e1⟩
 . by_cases hj:j=i
   . subst hj
     rw[hi] at e1;cases e1;rw[zB0 hiσ] at e2;cases e2;exact⟨u,r,.inr ⟨.inl hk,c,hc,hc'⟩⟩
   rw[zB5 (Ne.symm hj)] at e2;obtain⟨u',r',q⟩:=hl j y v' e1 e2 e3;refine⟨u',r',?_⟩;rcases q with q | ⟨k,c',e,z'⟩
   . exact .inl q
   refine .inr ⟨k,c',e,z'.sameBut hs ?_⟩;rintro rfl;exact hj (qH8 hN e1 (I.ok.inj _ _ _ e hc ▸ hi))
 . by_cases hcc:c'=c
   . subst hcc;exact⟨_,hc'⟩
   obtain⟨w2,z2⟩:=I.cell y c' e;exact⟨w2,z2.sameBut hs hcc⟩
 obtain⟨e,n,ne,nf,d⟩:=I.pin p hp;refine⟨(hs.2 p.1 ?_).trans e,n,ne,nf,d⟩;intro q;rw[q,hoc] at e;have q':oc=p.2:=Option.some.inj e;exact d w' (by rw[<- q'];exact hocd)
theorem qx7{A:Around}{E:Value->Shared->Prop}{x:Str}{v:V}{u:Value}{Q:Unit->Shared->Prop}(I:Inv X Dy σ H s)(hN:X.N.Nodup)(hi:X.N[i]? = some x)(hx:Loc X.env.scope x)(r:RelV v u)(h:∀ s',Inv X Dy (σ.set i (some v)) H s'->Q () s')(hf:X.fn x=true∨X.env.scope.names.lookup x=some .local:=by first | exact .inl rfl | exact .inr rfl | assumption):wpAny M A (storeName X.env x u) Q E s :=
 qab0 I hN hi hx r (λ s' I' _=>h s' I') hf
theorem Inv.call'{s':Shared}(I:Inv X Dy σ H s)(ho:s'.os=s.os)(u:Un (frs X.stack) ch H H' s.heap s'.heap)(hok:HOk X.prog X.w H' s'.heap)(hg:AllBare s'.gens)(hch:∀ b∈ch,(b∈X.ex∨X.s₀.heap.objs.size<=b)/\b≠X.env.locals/\(∀ x c,X.env.cells.lookup x=some c->c≠b)/\∀ p∈X.pn++Dy,p.1≠b):Inv X Dy σ H' s':=by
 obtain⟨h',g',d',t',o'⟩:=s';have e:o'=s.os:=ho;subst e;exact I.call (g':=g') (t':=t') (d':=d') u hok hg hch
end
abbrev XK:=Value->Option Addr->Hp->Prop
abbrev St:=List (Option V)
abbrev VK:=V->Hp->Prop
abbrev TE:=St->Hp->VK->Prop
abbrev TT:=St->Hp->(Bool->Hp->Prop)->Prop
abbrev TA:=St->Hp->(List V->Hp->Prop)->Prop
structure Bn where
 nx:St->Hp->Prop
 rt:VK
 bk:St->Hp->Prop:=λ _ _=>False
 ct:St->Hp->Prop:=λ _ _=>False
abbrev TS:=Bn->St->Hp->Prop
def EP(X:Cx)(Dy:List (Addr×Obj))(σ:St)(Q:VK)(u:Value)(s':Shared):Prop:=∃ v H',Inv X Dy σ H' s'/\RelV v u/\Q v H'
def TP(X:Cx)(Dy:List (Addr×Obj))(σ:St)(Q:Bool->Hp->Prop)(b:Bool)(s':Shared):Prop:=∃ H',Inv X Dy σ H' s'/\Q b H'
def AP(X:Cx)(Dy:List (Addr×Obj))(σ:St)(Q:List V->Hp->Prop)(us:List Value)(s':Shared):Prop:=∃ vs H',Inv X Dy σ H' s'/\Vals vs us/\Q vs H'
def SP(X:Cx)(Dy:List (Addr×Obj))(D:Bn)(f:Flow)(s':Shared):Prop :=
 match f with
 | .next=>∃ σ' H',Inv X Dy σ' H' s'/\D.nx σ' H'
 | .brk=>∃ σ' H',Inv X Dy σ' H' s'/\D.bk σ' H'
 | .cont=>∃ σ' H',Inv X Dy σ' H' s'/\D.ct σ' H'
 | .ret u=>∃ v σ' H',Inv X Dy σ' H' s'/\RelV v u/\D.rt v H'
def PE(X:Cx)(e:Expr)(t:TE):Prop :=
 ∀(Dy:List (Addr×Obj))(s:Shared)(σ:St)(H:Hp)(Q:VK),Inv X Dy σ H s->t σ H Q->wpAny (model X.prog X.w) X.A (eval e X.env) (EP X Dy σ Q) X.xe s
def PT(X:Cx)(e:Expr)(t:TT):Prop :=
 ∀(Dy:List (Addr×Obj))(s:Shared)(σ:St)(H:Hp)(Q:Bool->Hp->Prop),Inv X Dy σ H s->t σ H Q->wpAny (model X.prog X.w) X.A (isTrue e X.env (eval e X.env)) (TP X Dy σ Q) X.xe s
def PW(X:Cx)(e:Expr)(t:TT):Prop :=
 ∀(whole:Sem Value)(Dy:List (Addr×Obj))(s:Shared)(σ:St)(H:Hp)(Q:Bool->Hp->Prop),Inv X Dy σ H s->t σ H Q->wpAny (model X.prog X.w) X.A (isTrue e X.env whole) (TP X Dy σ Q) X.xe s
theorem PW.pt{X:Cx}{e:Expr}{t:TT}(h:PW X e t):PT X e t:=h _
def PA(X:Cx)(es:List Expr)(t:TA):Prop :=
 ∀(pos:Pos)(Dy:List (Addr×Obj))(s:Shared)(σ:St)(H:Hp)(Q:List V->Hp->Prop),Inv X Dy σ H s->t σ H Q->wpAny (model X.prog X.w) X.A (spliced (backTo pos (starEach es X.env))) (AP X Dy σ Q) X.xe s
def PS(X:Cx)(st:Stmt)(t:TS):Prop :=
 ∀(Dy:List (Addr×Obj))(s:Shared)(σ:St)(H:Hp)(D:Bn),Inv X Dy σ H s->t D σ H->wpAny (model X.prog X.w) X.A (exec st X.env) (SP X Dy D) X.xe s
def PSs(X:Cx)(st:List Stmt)(t:TS):Prop :=
 ∀(Dy:List (Addr×Obj))(s:Shared)(σ:St)(H:Hp)(D:Bn),Inv X Dy σ H s->t D σ H->wpAny (model X.prog X.w) X.A (execs st X.env) (SP X Dy D) X.xe s
theorem thn{α:Type}{t:Sem α}{Q Q':α->Shared->Prop}{A:Around}{E:Value->Shared->Prop}{s:Shared}(h:wpAny M A t Q E s)(hQ:∀ a s,Q a s->Q' a s):wpAny M A t Q' E s:=wpAny_mono h hQ λ _ _ x=>x
section
variable{X:Cx}
theorem bin{a b:Expr}{ta tb:TE}(ha:PE X a ta)(hb:PE X b tb){Dy:List (Addr×Obj)}{s:Shared}{σ:St}{H:Hp}{R:V->V->Hp->Prop}(I:Inv X Dy σ H s)(h:ta σ H λ x H1=>tb σ H1 λ y H2=>R x y H2){α:Type}{Q:α->Shared->Prop}{f:Value->Value->Sem α}(hf:∀ v u s2 x y H2,Inv X Dy σ H2 s2->RelV x v->RelV y u->R x y H2->wpAny (model X.prog X.w) X.A (f v u) Q X.xe s2) :
   wpAny (model X.prog X.w) X.A (eval a X.env) (λ v s₁=>wpAny (model X.prog X.w) X.A (eval b X.env) (λ u s₂=>wpAny (model X.prog X.w) X.A (f v u) Q X.xe s₂) X.xe s₁) X.xe s:=by
 refine thn (ha Dy s σ H _ I h) λ v s1 ⟨x,H1,I1,r1,q1⟩=>?_
 refine thn (hb Dy s1 σ H1 _ I1 q1) λ u s2 ⟨y,H2,I2,r2,q2⟩=>?_
 exact hf v u s2 x y H2 I2 r1 r2 q2
def Ev(i:Nat):TE:=λ σ H Q=>∃ v,σ[i]? = some (some v)/\Q v H
def tC(v:V):TE:=λ _ H Q=>Q v H
theorem qq0{x:Str}{pos:Pos}(hN:X.N[i]? = some x)(hv:Vis X.env.scope x)(hd:(x == ("__debug__" : Str))=false:=by decide)(hcd:(x == ("__classdict__" : Str))=false:=by decide):PE X (.Name x pos) (Ev i):=by
 intro Dy s σ H Q I h;obtain⟨v,e,h⟩:=h;obtain⟨m,hn,hl⟩:=I.loc;obtain⟨u,r,l⟩:=hl i x v hN e hv;have fin:EP X Dy σ Q u s:=⟨v,H,I,r,h⟩
 rcases l with⟨hk,hm⟩ | ⟨hk,c,hc,hcell⟩
 . exact wpAny_Name (wpAny_loadName_local I.ok.kind hk hn hm fin) hd
 rcases hk with hk | hk
 . exact wpAny_Name (wpAny_loadName_cell I.ok.kind hk hc hcell fin) hd
 exact wpAny_Name (wpAny_loadName_free I.ok.kind hk hc hcell fin hcd) hd
theorem qC5{i j pos}:PE X (.Constant (.int i) j pos) (tC (.int i)):=λ _ _ _ H _ I h=>wpAny_Constant_int ⟨.int i,H,I.tok _,⟨_,rfl⟩,h⟩
theorem pe_bl{b j pos}:PE X (.Constant (.bool b) j pos) (tC (.bl b)):=λ _ _ _ H _ I h=>Constant_bool ⟨.bl b,H,I,rfl,h⟩
theorem qaH7{j pos}:PE X (.Constant .none j pos) (tC .non):=λ _ _ _ H _ I h=>Constant_none ⟨.non,H,I,rfl,h⟩
theorem qaH4{x j pos}:PE X (.Constant (.str x) j pos) (tC (.str x)):=λ _ _ _ H _ I h=>Calls.Constant_str ⟨.str x,H,I.tok _,⟨_,rfl⟩,h⟩
def Gl(X:Cx)(x:Str):Prop:=X.env.kindOf x=some .globalImplicit
theorem qD0{E:Value->Shared->Prop}{Dy:List (Addr×Obj)}{s:Shared}{σ:St}{H:Hp}{x:Str}{u:Value}{pos:Pos}{Q:Value->Shared->Prop}(I:Inv X Dy σ H s)(hg:Gl X x)(hm:X.mg x=some u)(h:Q u s)(hd:(x == ("__debug__" : Str))=false:=by decide):wpAny (model X.prog X.w) X.A (eval (.Name x pos) X.env) Q E s :=
 Calls.Name_function_global I.ok.kind hg (Calls.loadGlobal_global (by rw[I.ok.glob];exact I.mod.glob.keeps I.bk) hm h) hd
theorem qI3{E:Value->Shared->Prop}{Dy:List (Addr×Obj)}{s:Shared}{σ:St}{H:Hp}{x:Str}{u:Value}{pos:Pos}{Q:Value->Shared->Prop}(I:Inv X Dy σ H s)(hg:Gl X x)(hm:X.mg x=none)(hv:bootBuiltins x=some u)(h:Q u s)(hn:x ≠ "__name__" := by decide)(hd:(x == ("__debug__" : Str))=false:=by decide):wpAny (model X.prog X.w) X.A (eval (.Name x pos) X.env) Q E s:=by
 obtain⟨mb,h1,h2⟩:=I.mod.blt;exact Calls.Name_function_global I.ok.kind hg (Calls.loadGlobal_builtin (by rw[I.ok.glob];exact I.mod.glob.keeps I.bk) hm (by rw[I.ok.blt];exact h1.keeps I.bk) ((h2 x hn).trans hv) h) hd
theorem qK9{x:Str}{v:V}{u:Value}{pos:Pos}(hg:Gl X x)(hm:X.mg x=some u)(r:RelV v u)(hd:(x == ("__debug__" : Str))=false:=by decide):PE X (.Name x pos) (tC v) :=
 λ _ _ _ H _ I h=>qD0 I hg hm ⟨v,H,I,r,h⟩ hd
theorem qay3{x:Str}{v:V}{u:Value}{pos:Pos}(hg:Gl X x)(hm:X.mg x=none)(hv:bootBuiltins x=some u)(r:RelV v u)(hn:x ≠ "__name__" := by decide)(hd:(x == ("__debug__" : Str))=false:=by decide):PE X (.Name x pos) (tC v) :=
 λ _ _ _ H _ I h=>qI3 I hg hm hv ⟨v,H,I,r,h⟩ hn hd
variable{a b:Expr}{ta tb:TE}{pos:Pos}
def tB(t:TE):TT:=λ σ H Q=>t σ H λ x H1=>∃ c,x=.bl c/\Q c H1
theorem qT7{e:Expr}{t:TE}(h:PE X e t)(he:∀ whole,isTrue e X.env whole=(do let v <- whole;standAt e.pos;holding [v] (truthy v)):=by intro _;rfl):PT X e (tB t):=by
 intro Dy s σ H Q I hw;refine isTrue_plain (thn (h Dy s σ H _ I hw) λ v s1 ⟨x,H1,I1,r1,q1⟩=>?_) (he _);obtain⟨d,rfl,q⟩:=q1;cases r1;exact wpAny_truthy_bool ⟨H1,I1,q⟩
variable{tA tB':TT}{rest:List Expr}
def tAnd(t u:TT):TT:=λ σ H Q=>t σ H λ c H1=>if c=true then u σ H1 Q else Q false H1
def tOr(t u:TT):TT:=λ σ H Q=>t σ H λ c H1=>if c=true then Q true H1 else u σ H1 Q
def tNot(t:TT):TT:=λ σ H Q=>t σ H λ c H1=>Q (!c) H1
theorem qah6(ha:PT X a tA):PW X (.BoolOp .And [a] pos) tA:=by
 intro wh Dy s σ H Q I h;refine isTrue_and (thn (ha Dy s σ H Q I h) λ c s1 e=>?_);cases c with
 | true=>exact isTrue_and_nil e
 | false=>exact e
theorem qaG7(ha:PT X a tA):PW X (.BoolOp .Or [a] pos) tA:=by
 intro wh Dy s σ H Q I h;refine isTrue_or (thn (ha Dy s σ H Q I h) λ c s1 e=>?_);cases c with
 | false=>exact isTrue_or_nil e
 | true=>exact e
theorem qaw5(ha:PT X a tA)(hb:PW X (.BoolOp .And (b::rest) pos) tB'):PW X (.BoolOp .And (a::b::rest) pos) (tAnd tA tB'):=by
 intro wh Dy s σ H Q I h;refine isTrue_and (thn (ha Dy s σ H _ I h) λ c s1 ⟨H1,I1,q1⟩=>?_);cases c with
 | true=>exact hb wh Dy s1 σ H1 Q I1 q1
 | false=>exact⟨H1,I1,q1⟩
theorem pw_or(ha:PT X a tA)(hb:PW X (.BoolOp .Or (b::rest) pos) tB'):PW X (.BoolOp .Or (a::b::rest) pos) (tOr tA tB'):=by
 intro wh Dy s σ H Q I h;refine isTrue_or (thn (ha Dy s σ H _ I h) λ c s1 ⟨H1,I1,q1⟩=>?_);cases c with
 | true=>exact⟨H1,I1,q1⟩
 | false=>exact hb wh Dy s1 σ H1 Q I1 q1
theorem qaw6(ha:PT X a tA):PT X (.UnaryOp .Not a pos) (tNot tA):=by
 intro Dy s σ H Q I h;exact isTrue_not (ha Dy s σ H (λ c H1=>Q (!c) H1) I h)
def tAndV(ta tb:TE):TE:=λ σ H Q=>ta σ H λ x H1=>∃ c,x=.bl c/\if c=true then tb σ H1 Q else Q (.bl false) H1
def tOrV(ta tb:TE):TE:=λ σ H Q=>ta σ H λ x H1=>∃ c,x=.bl c/\if c=true then Q (.bl true) H1 else tb σ H1 Q
def tNotV(ta:TE):TE:=λ σ H Q=>ta σ H λ x H1=>∃ c,x=.bl c/\Q (.bl (!c)) H1
theorem qax7{op}{t:TE}(h:PE X a t):PE X (.BoolOp op [a] pos) t:=λ Dy s σ H Q I hw=>BoolOp_one (h Dy s σ H Q I hw)
theorem qay4(ha:PE X a ta)(hb:PE X (.BoolOp .And (b::rest) pos) tb):PE X (.BoolOp .And (a::b::rest) pos) (tAndV ta tb):=by
 intro Dy s σ H Q I h;refine BoolOp_and (thn (ha Dy s σ H _ I h) λ v s1 ⟨x,H1,I1,r1,q1⟩=>?_);obtain⟨c,rfl,q1⟩:=q1;cases r1;refine wpAny_truthy_bool ?_;cases c with
 | true=>exact hb Dy s1 σ H1 Q I1 q1
 | false=>exact⟨.bl false,H1,I1,rfl,q1⟩
theorem pe_or(ha:PE X a ta)(hb:PE X (.BoolOp .Or (b::rest) pos) tb):PE X (.BoolOp .Or (a::b::rest) pos) (tOrV ta tb):=by
 intro Dy s σ H Q I h;refine BoolOp_or (thn (ha Dy s σ H _ I h) λ v s1 ⟨x,H1,I1,r1,q1⟩=>?_);obtain⟨c,rfl,q1⟩:=q1;cases r1;refine wpAny_truthy_bool ?_;cases c with
 | false=>exact hb Dy s1 σ H1 Q I1 q1
 | true=>exact⟨.bl true,H1,I1,rfl,q1⟩
theorem qaH6(ha:PE X a ta):PE X (.UnaryOp .Not a pos) (tNotV ta):=by
 intro Dy s σ H Q I h;refine UnaryOp_ (thn (ha Dy s σ H _ I h) λ v s1 ⟨x,H1,I1,r1,q1⟩=>?_);obtain⟨c,rfl,q1⟩:=q1;cases r1;exact not_of (wpAny_truthy_bool ⟨.bl (!c),H1,I1,rfl,q1⟩)
def tIf(t:TT)(ta tb:TE):TE:=λ σ H Q=>t σ H λ c H1=>if c=true then ta σ H1 Q else tb σ H1 Q
theorem qao1{c:Expr}(hc:PT X c tA)(ha:PE X a ta)(hb:PE X b tb):PE X (.IfExp c a b pos) (tIf tA ta tb):=by
 intro Dy s σ H Q I h;refine wpAny_IfExp (thn (hc Dy s σ H _ I h) λ d s1 ⟨H1,I1,q1⟩=>?_);cases d with
 | true=>exact ha Dy s1 σ H1 Q I1 q1
 | false=>exact hb Dy s1 σ H1 Q I1 q1
end
def SqL(K:PySem.W.Frag)(H:Hp)(a:Addr)(xs:List V):Prop :=
 Rd H a (.lst xs) ∨
   ∃(o:Obj)(its:Array Value)(n:Nat),K.lookup a=some o/\o.cls=.type "list" /\ o.dict=none/\o.data=.seq its n/\its.size<=sizeLine/\Vals xs its.toList
def SqT(K:PySem.W.Frag)(H:Hp)(a:Addr)(xs:List V):Prop :=
 Rd H a (.tup xs) ∨
   ∃(o:Obj)(its:Array Value)(n:Nat),K.lookup a=some o/\o.cls=.type "tuple" /\ o.data=.seq its n/\its.size<=sizeLine/\Vals xs its.toList
def absV:Value->Option V
 | .none=>some .non
 | .bool b=>some (.bl b)
 | .int i _=>some (.int i)
 | .str x _=>some (.str x)
 | .bytes b _=>some (.byt b)
 | .float b _=>some (.flt b)
 | .ref a=>some (.ref a)
 | .type n=>some (.ty n)
 | _=>none
theorem RelV.abs{x:V}{u:Value}(r:RelV x u):absV u=some x:=by
 cases x with
 | non=>cases r;rfl
 | bl _=>cases r;rfl
 | int _=>obtain⟨t,rfl⟩:=r;rfl
 | str _=>obtain⟨t,rfl⟩:=r;rfl
 | byt _=>obtain⟨t,rfl⟩:=r;rfl
 | flt _=>obtain⟨t,rfl⟩:=r;rfl
 | ref _=>cases r;rfl
 | ty _=>cases r;rfl
theorem RelV.inj{x y:V}{u:Value}(r:RelV x u)(q:RelV y u):x=y:=Option.some.inj (r.abs.symm.trans q.abs)
theorem Vals.inj:∀{xs ys:List V}{us:List Value},Vals xs us->Vals ys us->xs=ys
 | _,_,_,.nil,.nil=>rfl
 | _,_,_,.cons r t,.cons r' t'=>by rw[r.inj r',Vals.inj t t']
section
variable{X:Cx}{Dy:List (Addr×Obj)}{σ:St}{H:Hp}{s:Shared}{a:Addr}{xs ys:List V}
theorem SqL.of{K:PySem.W.Frag}(h:H a=some (.lst xs)):SqL K H a xs:=.inl (.inl h)
theorem Inv.list(I:Inv X Dy σ H s)(h:SqL X.K H a xs):∃ its:List Value,Vals xs its/\PlainL s.heap a its.toArray/\xs.length<=sizeLine:=by
 rcases h with h | ⟨o,its,n,hk,hc,hd,hs,hz,r⟩
 . obtain⟨z,its,n,r,e⟩:=h.ok I.hok
   exact⟨its,r,⟨_,n,e,rfl,rfl,rfl⟩,z⟩
 refine⟨its.toList,r,⟨o,n,I.kIn a o hk,hc,hd,by simpa using hs⟩,?_⟩;have e:=r.length;simp only[Array.length_toList] at e;lia
theorem Inv.tuple(I:Inv X Dy σ H s)(h:SqT X.K H a xs):∃ its:List Value,Vals xs its/\IsTup s.heap a its.toArray/\xs.length<=sizeLine:=by
 rcases h with h | ⟨o,its,n,hk,hc,hs,hz,r⟩
 . obtain⟨z,its,r,p⟩:=h.ok I.hok
   exact⟨its,r,p,z⟩
 refine⟨its.toList,r,⟨o,I.kIn a o hk,hc,n,by simpa using hs⟩,?_⟩;have e:=r.length;simp only[Array.length_toList] at e;lia
theorem Inv.list_inj(I:Inv X Dy σ H s)(h:SqL X.K H a xs)(h':SqL X.K H a ys):xs=ys:=by
 obtain⟨its,r,⟨o,n,e,_,_,d⟩,_⟩:=I.list h;obtain⟨its',r',⟨o',n',e',_,_,d'⟩,_⟩:=I.list h';rw[e] at e';cases e';rw[d] at d';injection d' with d1 _
 have:its=its':=by simpa using congrArg Array.toList d1
 subst this;exact r.inj r'
end
abbrev Cx.wish(X:Cx)(E:Value->Shared->Prop):Cx:={ X with xe:=E }
abbrev Cx.nox(X:Cx):Cx:=X.wish λ _ _=>False
theorem Cx.Ok.wish{X:Cx}(ok:X.Ok)(E:Value->Shared->Prop):(X.wish E).Ok :=
 ⟨ok.mod,ok.kind,ok.glob,ok.blt,ok.above,ok.inj,ok.has,ok.cab,ok.hd,ok.frames,ok.stk,ok.exf,ok.bs,ok.bsz,ok.noex,ok.exfs,ok.funs,ok.frf⟩
theorem Cx.Ok.unwish{X:Cx}{E:Value->Shared->Prop}(ok:(X.wish E).Ok):X.Ok :=
 ⟨ok.mod,ok.kind,ok.glob,ok.blt,ok.above,ok.inj,ok.has,ok.cab,ok.hd,ok.frames,ok.stk,ok.exf,ok.bs,ok.bsz,ok.noex,ok.exfs,ok.funs,ok.frf⟩
section
variable{X:Cx}{Dy:List (Addr×Obj)}{σ:St}{H:Hp}{s:Shared}{E:Value->Shared->Prop}
theorem Inv.wish(I:Inv X Dy σ H s)(E:Value->Shared->Prop):Inv (X.wish E) Dy σ H s:=⟨I.ok.wish E,I.os,I.bare,I.base,I.loc,I.cell,I.free,I.freeC,I.pin,I.hok,I.len⟩
theorem Inv.unwish(I:Inv (X.wish E) Dy σ H s):Inv X Dy σ H s:=⟨I.ok.unwish,I.os,I.bare,I.base,I.loc,I.cell,I.free,I.freeC,I.pin,I.hok,I.len⟩
theorem SP.unwish{D:Bn}{f:Flow}{s':Shared}(h:SP (X.wish E) Dy D f s'):SP X Dy D f s':=by
 cases f with
 | next=>obtain⟨σ',H',I,q⟩:=h;exact⟨σ',H',I.unwish,q⟩
 | brk=>obtain⟨σ',H',I,q⟩:=h;exact⟨σ',H',I.unwish,q⟩
 | cont=>obtain⟨σ',H',I,q⟩:=h;exact⟨σ',H',I.unwish,q⟩
 | ret u=>obtain⟨v,σ',H',I,r,q⟩:=h;exact⟨v,σ',H',I.unwish,r,q⟩
theorem PSs.nox{st:List Stmt}{t:TS}(h:PSs X.nox st t):PSs X st t:=λ Dy s σ H D I hw =>
 wpAny_mono (h Dy s σ H D (I.wish _) hw) (λ _ _ q=>q.unwish) λ _ _ z=>False.elim z
end
section
variable{X:Cx}{st:Stmt}{rest:List Stmt}{t u:TS}{e:Expr}{te:TE}{pos:Pos}
def tNext:TS:=λ D σ H=>D.nx σ H
def tSeq(t u:TS):TS:=λ D σ H=>t { D with nx:=u D } σ H
theorem qT8:PSs X [] tNext:=λ _ _ σ H _ I h=>wpAny_execs_nil ⟨σ,H,I,h⟩
theorem qH0(h1:PS X st t)(h2:PSs X rest u):PSs X (st::rest) (tSeq t u):=by
 intro Dy s σ H D I h;refine wpAny_execs_cons (thn (h1 Dy s σ H { D with nx:=u D } I h) λ f s1 q=>?_);cases f with
 | next =>
   obtain⟨σ',H',I',q⟩:=q;exact h2 Dy s1 σ' H' D I' q
 | ret v=>exact q
 | brk=>exact q
 | cont=>exact q
theorem qo9(h1:PS X st t):PSs X [st] t:=by
 intro Dy s σ H D I h;refine wpAny_execs_cons (thn (h1 Dy s σ H D I h) λ f s1 q=>?_);cases f with
 | next=>exact wpAny_execs_nil q
 | ret v=>exact q
 | brk=>exact q
 | cont=>exact q
theorem Inv.quiet{Dy:List (Addr×Obj)}{σ:St}{H:Hp}{s:Shared}(I:Inv X Dy σ H s):interactive X.env=false:=by simp[interactive,I.ok.kind]
def tDrop(te:TE):TS:=λ D σ H=>te σ H λ _ H1=>D.nx σ H1
theorem qaw9(he:PE X e te)(hs:swapsWith e none pos.line X.env=pure false:=by rfl):PS X (.Expr e pos) (tDrop te):=by
 intro Dy s σ H D I h;exact wpAny_Expr_any (thn (he Dy s σ H _ I h) λ v s1 ⟨x,H1,I1,r1,q1⟩=>⟨σ,H1,I1,q1⟩) I.quiet hs
def tRet(te:TE):TS:=λ D σ H=>te σ H D.rt
theorem qT9(he:PE X e te):PS X (.Return (some e) pos) (tRet te):=by
 intro Dy s σ H D I h;exact wpAny_Return_some (thn (he Dy s σ H _ I h) λ v s1 ⟨x,H1,I1,r1,q1⟩=>⟨x,σ,H1,I1,r1,q1⟩)
def tIfS(c:TT)(t u:TS):TS:=λ D σ H=>c σ H λ b H1=>if b=true then t D σ H1 else u D σ H1
theorem Hn{c:Expr}{a b:List Stmt}{tc:TT}(hc:PT X c tc)(ha:PSs X a t)(hb:PSs X b u):PS X (.If c a b pos) (tIfS tc t u):=by
 intro Dy s σ H D I h;refine wpAny_If (thn (hc Dy s σ H _ I h) λ d s1 ⟨H1,I1,q1⟩=>?_);cases d with
 | true=>exact ha Dy s1 σ H1 D I1 q1
 | false=>exact hb Dy s1 σ H1 D I1 q1
end
abbrev TG:=V->St->Hp->(St->Hp->Prop)->Prop
abbrev TGs:=List V->St->Hp->(St->Hp->Prop)->Prop
def PG(X:Cx)(target:Expr)(t:TG):Prop :=
 ∀(Dy:List (Addr×Obj))(s:Shared)(σ:St)(H:Hp)(v:V)(u:Value)(Q:St->Hp->Prop),Inv X Dy σ H s->RelV v u->t v σ H Q ->
   wpAny (model X.prog X.w) X.A (assign target X.env u) (λ _ s'=>∃ σ' H',Inv X Dy σ' H' s'/\Q σ' H') X.xe s
def PGs(X:Cx)(ts:List Expr)(t:TGs):Prop :=
 ∀(Dy:List (Addr×Obj))(s:Shared)(σ:St)(H:Hp)(vs:List V)(us:List Value)(Q:St->Hp->Prop),Inv X Dy σ H s->Vals vs us->t vs σ H Q ->
   wpAny (model X.prog X.w) X.A (assignInOrder ((assignEach ts X.env).map (·.2)) us) (λ _ s'=>∃ σ' H',Inv X Dy σ' H' s'/\Q σ' H') X.xe s
abbrev Ho:=V->V->V->Hp->(Hp->Prop)->Prop
def PSet(X:Cx)(t:Ho):Prop :=
 ∀(Dy:List (Addr×Obj))(s:Shared)(σ:St)(H:Hp)(o i v:V)(ov iv u:Value)(Q:Hp->Prop),Inv X Dy σ H s->RelV o ov->RelV i iv->RelV v u->t o i v H Q ->
   wpAny (model X.prog X.w) X.A (setItem ov iv u) (λ _ s'=>∃ H',Inv X Dy σ H' s'/\Q H') X.xe s
abbrev TIp:=V->V->Hp->VK->Prop
def PIp(X:Cx)(op:Operator)(t:TIp):Prop :=
 ∀(Dy:List (Addr×Obj))(s:Shared)(σ:St)(H:Hp)(x y:V)(v u:Value)(Q:VK),Inv X Dy σ H s->RelV x v->RelV y u->t x y H Q ->
   wpAny (model X.prog X.w) X.A (inplaceOp op v u) (EP X Dy σ Q) X.xe s
section
variable{X:Cx}{pos:Pos}
def Ez(i:Nat):TG:=λ v σ H Q=>Q (σ.set i (some v)) H
theorem qai2{x:Str}(hN:X.N.Nodup)(hi:X.N[i]? = some x)(hx:Loc X.env.scope x)(hf:X.fn x=true∨X.env.scope.names.lookup x=some .local:=by first | exact .inl rfl | exact .inr rfl | assumption):PG X (.Name x pos) (Ez i):=by
 intro Dy s σ H v u Q I r h;exact wpAny_assign_Name (qx7 I hN hi hx r (λ s' I'=>⟨_,H,I',h⟩) hf)
def gNil:TGs:=λ vs σ H Q=>vs=[]/\Q σ H
def gCons(t:TG)(u:TGs):TGs:=λ vs σ H Q=>∃ v r,vs=v::r/\t v σ H λ σ' H'=>u r σ' H' Q
theorem qax3:PGs X [] gNil:=by
 intro Dy s σ H vs us Q I r h;obtain⟨e,h⟩:=h;subst e;cases r;exact assignInOrder_nil ⟨σ,H,I,h⟩
theorem qan9{e:Expr}{es:List Expr}{t:TG}{u:TGs}(h1:PG X e t)(h2:PGs X es u)(hs:(assignEach (e::es) X.env).map (·.2)=assign e X.env::(assignEach es X.env).map (·.2):=by rfl):PGs X (e::es) (gCons t u):=by
 intro Dy s σ H vs us Q I r h;obtain⟨v,vr,e1,h⟩:=h;subst e1;cases r with
 | cons r rr =>
   rw[hs];refine assignInOrder_cons (thn (h1 Dy s σ H _ _ _ I r h) λ _ s1 ⟨σ1,H1,I1,q1⟩=>?_);exact h2 Dy s1 σ1 H1 _ _ Q I1 rr q1
def gTup(K:PySem.W.Frag)(n:Nat)(t:TGs):TG:=λ v σ H Q=>∃ a xs,v=.ref a/\SqT K H a xs/\xs.length=n/\t xs σ H Q
theorem qaH1{es:List Expr}{k:Nat}{t:TGs}(hc:X.calm=true)(h:PGs X es t)(hn:(assignEach es X.env).length=n:=by rfl)(hst:(assignEach es X.env).findIdx? (·.1)=none:=by rfl):PG X (.Tuple es k pos) (gTup X.K n t):=by
 intro Dy s σ H v u Q I r hw;obtain⟨a,xs,e1,hq,hl,hw⟩:=hw;subst e1;cases r;obtain⟨its,rv,ht,hz⟩:=I.tuple hq;refine assign_Tuple_tuple (I.ok.hd hc) ht (by simp[hn,<- hl,rv.length]) hst λ h' hx=>?_
 have I1:Inv X Dy σ H { s with heap:=h' }:=I.kept (t':=s.toks) λ b o e=>hx b o (zAi (zA6 e)) e
 exact h Dy _ σ H xs _ Q I1 (by simpa using rv) hw
def gSub(to ti:TE)(t:Ho):TG:=λ v σ H Q=>to σ H λ o H1=>ti σ H1 λ i H2=>t o i v H2 λ H3=>Q σ H3
theorem qaH2{o i:Expr}{to ti:TE}{t:Ho}(ho:PE X o to)(hi:PE X i ti)(hs:PSet X t)(ha:∀ v,assign (.Subscript o i pos) X.env v=(do
     let ov <- holding [v] (eval o X.env)
     let iv <- holding [v,ov] (eval i X.env)
     standAt pos
     holding [v,ov,iv] (setItem ov iv v)
     release [v,ov,iv] []):=by intro _;rfl):PG X (.Subscript o i pos) (gSub to ti t):=by
 intro Dy s σ H v u Q I r h;rw[ha];refine wpAny_bind (wpAny_holding (thn (ho Dy s σ H _ I h) λ ov s1 ⟨x,H1,I1,r1,q1⟩=>?_));refine wpAny_bind (wpAny_holding (thn (hi Dy s1 σ H1 _ I1 q1) λ iv s2 ⟨y,H2,I2,r2,q2⟩=>?_));refine wpAny_bind (wpAny_standAt (wpAny_bind (wpAny_holding (thn (hs Dy s2 σ H2 x y v ov iv u _ I2 r1 r2 r q2) λ _ s3 ⟨H3,I3,q3⟩=>?_))));exact wpAny_release ⟨σ,H3,I3,q3⟩
def Hd(te:TE)(g:TG):TS:=λ D σ H=>te σ H λ x H1=>g x σ H1 D.nx
theorem qaH0{tg e:Expr}{te:TE}{g:TG}(he:PE X e te)(hg:PG X tg g)(hs:swapsWithSole [tg] e pos.line X.env=pure false:=by rfl)(hw:swappedStores [tg] e X.env=pure none:=by rfl)(h1:(assignEach [tg] X.env).map (·.2)=[assign tg X.env]:=by rfl):PS X (.Assign [tg] e pos) (Hd te g):=by
 intro Dy s σ H D I h;refine wpAny_Assign_stores (thn (he Dy s σ H _ I h) λ v s1 ⟨x,H1,I1,r1,q1⟩=>?_) hs hw;rw[h1];exact thn (hg Dy s1 σ H1 x v _ I1 r1 q1) λ _ s2 q=>q
theorem qaw8{x:Str}{e:Expr}{te:TE}{pos':Pos}(hN:X.N.Nodup)(hi:X.N[i]? = some x)(hx:Loc X.env.scope x)(he:PE X e te)(hs:swapsWith e (some (.Name x pos')) pos.line X.env=pure false:=by rfl)(hf:X.fn x=true∨X.env.scope.names.lookup x=some .local:=by first | exact .inl rfl | exact .inr rfl | assumption) :
   PS X (.Assign [.Name x pos'] e pos) (Hd te (Ez i)):=by
 intro Dy s σ H D I h;refine wpAny_Assign_Name (thn (he Dy s σ H _ I h) λ v s1 ⟨y,H1,I1,r1,q1⟩=>?_) hs;exact qx7 I1 hN hi hx r1 (λ s2 I2=>⟨_,H1,I2,q1⟩) hf
def tAugS(to ti te:TE)(tget:V->V->Hp->VK->Prop)(tip:TIp)(tset:Ho):TS:=λ D σ H=>to σ H λ o H1=>ti σ H1 λ i H2=>tget o i H2 λ x H3=>te σ H3 λ y H4=>tip x y H4 λ z H5=>tset o i z H5 λ H6=>D.nx σ H6
def PGet(X:Cx)(t:V->V->Hp->VK->Prop):Prop :=
 ∀(Dy:List (Addr×Obj))(s:Shared)(σ:St)(H:Hp)(o i:V)(ov iv:Value)(Q:VK),Inv X Dy σ H s->RelV o ov->RelV i iv->t o i H Q ->
   wpAny (model X.prog X.w) X.A (getItem ov iv) (EP X Dy σ Q) X.xe s
theorem qax0{o i e:Expr}{to ti te:TE}{tget:V->V->Hp->VK->Prop}{tip:TIp}{tset:Ho}{op:Operator}{tpos:Pos}(ho:PE X o to)(hi:PE X i ti)(hg:PGet X tget)(he:PE X e te)(hp:PIp X op tip)(hs:PSet X tset)(ha:∀ ov iv new,augStore i ov iv new=(do holding [new,ov,iv] (setItem ov iv new);release [new,ov,iv] [];pure .next):=by intros;rfl):PS X (.AugAssign (.Subscript o i tpos) op e pos) (tAugS to ti te tget tip tset):=by
 intro Dy s σ H D I h;refine wpAny_AugAssign_SubscriptAny (thn (ho Dy s σ H _ I h) λ ov s1 ⟨x1,H1,I1,r1,q1⟩=>?_) ha;refine thn (hi Dy s1 σ H1 _ I1 q1) λ iv s2 ⟨x2,H2,I2,r2,q2⟩=>?_
 refine thn (hg Dy s2 σ H2 x1 x2 ov iv _ I2 r1 r2 q2) λ old s3 ⟨x3,H3,I3,r3,q3⟩=>?_
 refine thn (he Dy s3 σ H3 _ I3 q3) λ v s4 ⟨x4,H4,I4,r4,q4⟩=>?_
 refine thn (hp Dy s4 σ H4 x3 x4 old v _ I4 r3 r4 q4) λ new s5 ⟨x5,H5,I5,r5,q5⟩=>?_
 exact thn (hs Dy s5 σ H5 x1 x2 x5 ov iv new _ I5 r1 r2 r5 q5) λ _ s6 ⟨H6,I6,q6⟩=>⟨σ,H6,I6,q6⟩
def ipI(f:Int->Int->Int):TIp:=λ x y H Q=>∃ i j,x=.int i/\y=.int j/\Q (.int (f i j)) H
theorem qaK9:PIp X .Add (ipI λ i j=>i+j):=by
 intro Dy s σ H x y v u Q I r1 r2 h;obtain⟨i,j,e1,e2,q⟩:=h;subst e1;subst e2;obtain⟨t,rfl⟩:=r1;obtain⟨t',rfl⟩:=r2;exact iadd_int ⟨.int _,H,I.tok _,⟨_,rfl⟩,q⟩
end
section
variable{X:Cx}{pos:Pos}
def qaF6(c:TT)(tb:TS):TS:=λ D σ H=>∃ W:Nat->St->Hp->Prop,(∃ m,W m σ H)/\∀ m σ H,W m σ H ->
 c σ H λ b H1=>if b=true then ∃ N:St->Hp->Prop,(∀ σ' H',N σ' H'->∃ m',m' < m/\W m' σ' H')/\tb { D with nx:=N,ct:=N,bk:=D.nx } σ H1 else D.nx σ H1
theorem qan3{c:Expr}{tc:TT}{tb:TS}(hp:PassesOwn (model X.prog X.w) X.A X.env X.xe)(hc:PT X c tc)(hb:PSs X body tb):PS X (.While c body [] pos) (qaF6 tc tb):=by
 intro Dy s σ H D I h;obtain⟨W,⟨m0,w0⟩,turn⟩:=h;refine wpAny_While (codeAny_whileLoop (λ n s'=>∃ σ' H',Inv X Dy σ' H' s'/\W n σ' H') ?_ m0 ⟨σ,H,I,w0⟩);rintro n s1 ⟨σ1,H1,I1,w1⟩;refine wpAny_passesOwn hp (thn (hc Dy s1 σ1 H1 _ I1 (turn n σ1 H1 w1)) λ b s2 ⟨H2,I2,q2⟩=>?_);cases b with
 | true =>
   obtain⟨N,hN,q2⟩:=q2;rw[if_pos rfl];refine wpAny_passesOwn hp (thn (hb Dy s2 σ1 H2 _ I2 q2) λ f s3 q3=>?_);cases f with
   | next =>
     obtain⟨σ3,H3,I3,n3⟩:=q3;obtain⟨m',hm,w3⟩:=hN σ3 H3 n3;exact⟨m',hm,σ3,H3,I3,w3⟩
   | cont =>
     obtain⟨σ3,H3,I3,n3⟩:=q3;obtain⟨m',hm,w3⟩:=hN σ3 H3 n3;exact⟨m',hm,σ3,H3,I3,w3⟩
   | brk=>exact q3
   | ret v=>exact q3
 | false =>
   rw[if_neg zAg];exact wpAny_execs_nil ⟨σ1,H2,I2,q2⟩
end
structure It where
 go:Nat->Hp->Prop
 yld:Nat->Hp->V->Hp->Prop
 stop:Nat->Hp->Prop
def Fq(X:Cx)(Dy:List (Addr×Obj))(H:Hp)(b:Addr):Prop :=
 H b=none/\b≠X.env.locals/\b∉X.fs/\(b∈X.ex∨X.s₀.heap.objs.size<=b)/\(∀ x c,X.env.cells.lookup x=some c->c≠b)/\∀ p∈X.pn++Dy,p.1≠b
theorem Inv.fpOk{X:Cx}{Dy:List (Addr×Obj)}{σ:St}{H H':Hp}{s:Shared}{b:Addr}(I:Inv X Dy σ H s)(hb:s.heap.objs.size<=b)(hn:H' b=none):Fq X Dy H' b:=by
 refine⟨hn,Nat.ne_of_gt (zAa I.lt hb),I.nofs hb,.inr (zAl I.sz hb),λ x c e z=>?_,λ p hp z=>?_⟩
 . obtain⟨v,q⟩:=I.cell x c e
   exact absurd (zAa q.lt (by rw[z];exact hb)) (Nat.lt_irrefl _)
 exact absurd (zAa (zA6 (I.pin p hp).1) (by rw[z];exact hb)) (Nat.lt_irrefl _)
structure Hq(P:Program)(w:World)(K:PySem.W.Frag)(tg:Expr)(J:It)(fp:List Addr)(it:Addr)(tn:Nat->Heap->Prop):Prop where
 mem:it∈fp
 obj:∀ i h,tn i h->∀ b∈fp,∃ o,h.get? b=some o/\∀ v,o.data≠.cell v
 keep:∀ i h h',tn i h->(∀ b∈fp,∀ o,h.get? b=some o->h'.get? b=some o)->tn i h'
 item:∀(X:Cx),X.prog=P->X.w=w->X.K=K->X.calm=true->∀(i:Nat)(Dy:List (Addr×Obj))(s:Shared)(σ:St)(H:Hp)(E:Value->Shared->Prop),Inv X Dy σ H s->(∀ b∈fp,Fq X Dy H b)->tn i s.heap->J.go i H ->
   wpAny (model P w) X.A (pyNext (.ref it)) (λ r s1=>∃ u,r=some u /\
     wpAny (model P w) X.A (letOwnedTupleGo tg (.ref it) u) (λ _ s2=>∃ x H',Inv X Dy σ H' s2/\RelV x u/\J.yld i H x H'/\tn (i+1) s2.heap/\∀ b∈fp,H' b=none) E s1) E s
 done:∀(X:Cx),X.prog=P->X.w=w->X.K=K->X.calm=true->∀(i:Nat)(Dy:List (Addr×Obj))(s:Shared)(σ:St)(H:Hp)(E:Value->Shared->Prop),Inv X Dy σ H s->(∀ b∈fp,Fq X Dy H b)->tn i s.heap->J.stop i H ->
   wpAny (model P w) X.A (pyNext (.ref it)) (λ r s1=>r=none/\Inv X Dy σ H s1) E s
 self:∀(A:Around)(i:Nat)(s:Shared)(Q:Value->Shared->Prop)(E:Value->Shared->Prop),tn i s.heap->Q (.ref it) s->wpAny (model P w) A (pyIter (.ref it)) Q E s
abbrev TI:=St->Hp->(It->Hp->Prop)->Prop
def PIE(X:Cx)(Dy:List (Addr×Obj))(σ:St)(tg:Expr)(R:It->Hp->Prop)(itv:Value)(s2:Shared):Prop :=
 ∃(it:Addr)(fp:List Addr)(tn:Nat->Heap->Prop)(J:It)(H':Hp),itv=.ref it/\Inv X Dy σ H' s2/\Hq X.prog X.w X.K tg J fp it tn/\tn 0 s2.heap/\(∀ b∈fp,Fq X Dy H' b)/\R J H'
def PI(X:Cx)(tg iter:Expr)(wi:TI):Prop :=
 ∀(Dy:List (Addr×Obj))(s:Shared)(σ:St)(H:Hp)(R:It->Hp->Prop),Inv X Dy σ H s->wi σ H R ->
   wpAny (model X.prog X.w) X.A (eval iter X.env) (λ v s1=>wpAny (model X.prog X.w) X.A (pyIter v) (PIE X Dy σ tg R) X.xe s1) X.xe s
theorem go_of{A:Around}{E:Value->Shared->Prop}{s:Shared}{tg:Expr}{it:Addr}{u:Value}{o:Obj}{n:String}{vs:Array Value}{Q:Unit->Shared->Prop}(ho:s.heap.get? it=some o)(hc:o.cls=.type n)(hd:o.data=.fields vs)(hn:["enumerate", "zip", "dict_itemiterator", "dict_reverseitemiterator", "odict_iterator", "itertools.zip_longest", "itertools.pairwise"].contains n=false)(hQ:Q () s):wpAny M A (letOwnedTupleGo tg (.ref it) u) Q E s:=by
 unfold letOwnedTupleGo;cases tg<;>first
   | exact wpAny_pure hQ
   | (cases u<;>first
       | exact wpAny_pure hQ
       | (refine wpAny_bind (wpAny_load ho ?_)
          rw[hc,hd];show wpAny M A (if (["enumerate", "zip", "dict_itemiterator", "dict_reverseitemiterator", "odict_iterator", "itertools.zip_longest", "itertools.pairwise"].contains n&&vs[0]? == some (rawInt _))=true then _ else _) Q E s;rw[if_neg (by intro h;rw[hn,Bool.false_and] at h;cases h)];exact wpAny_pure hQ))
def Itl(K:PySem.W.Frag)(a:Addr):It :=
 ⟨λ i H=>∃ xs x,SqL K H a xs/\xs[i]? = some x,λ i H x H'=>H'=H/\∀ xs,SqL K H a xs->xs[i]? = some x,λ i H=>∃ xs,SqL K H a xs/\xs.length<=i⟩
def Itr(lo:Int)(n:Nat):It:=⟨λ i _=>i < n,λ i H x H'=>H'=H/\x=.int (lo+i),λ i _=>n<=i⟩
theorem qaa7{P:Program}{w:World}{K:PySem.W.Frag}{tg:Expr}(a it:Addr):Hq P w K tg (Itl K a) [it] it (λ i h=>h.IsListIter it a i) where
 mem:=by simp
 obj:=λ i h st b hb=>by
   have e:b=it:=by simpa using hb
   subst e;obtain⟨o,e,c,d⟩:=st;exact⟨o,e,λ v z=>by rw[d] at z;cases z⟩
 keep:=λ i h h' st k=>st.at λ o e=>k it (by simp) o e
 item:=by
   intro X hP hw hK hc i Dy s σ H E I hf st hg;subst hP hw hK;obtain⟨xs,x,hq,hx⟩:=hg;obtain⟨its,rv,p,hz⟩:=I.list hq;obtain⟨u,hu,ru⟩:=rv.get hx;obtain⟨f0,f1,f2,f3,f4,f5⟩:=hf it (by simp);refine wpAny_pyNext_list_item st p.isList (x:=u) (by simpa using hu) λ h' st' sb=>?_
   have I1:Inv X Dy σ H { s with heap:=h' }:=I.turned (t':=s.toks) (λ b o hb e=>(sb.2 b hb).trans e) f0 f1 f3 f4 f5;obtain⟨o,e,c,d⟩:=id st';exact⟨u,rfl,go_of (s:={ s with heap:=h' }) e c d (by decide) ⟨x,H,I1,ru,⟨rfl,λ ys hy=>by rw[I.list_inj hy hq];exact hx⟩,st',λ b hb=>(hf b hb).1⟩⟩
 done:=by
   intro X hP hw hK hc i Dy s σ H E I hf st hg;subst hP hw hK;obtain⟨xs,hq,hx⟩:=hg;obtain⟨its,rv,p,hz⟩:=I.list hq;obtain⟨f0,f1,f2,f3,f4,f5⟩:=hf it (by simp);have hl:=rv.length;exact wpAny_pyNext_list_end (I.ok.hd hc) st p.isList (by simp;lia) λ h' eb=>⟨rfl,I.turned (t':=s.toks) (λ b o hb e=>eb b o hb e) f0 f1 f3 f4 f5⟩
 self:=λ _ _ _ _ _ st h=>wpAny_pyIter_listiter st h
theorem qQ9{P:Program}{w:World}{K:PySem.W.Frag}{tg:Expr}(it:Addr)(lo:Int)(n:Nat):Hq P w K tg (Itr lo n) [it] it (λ i h=>IsRangeIter h it (lo+(i:Nat) * 1) ((n:Int) - (i:Nat)) 1) where
 mem:=by simp
 obj:=λ i h st b hb=>by
   have e:b=it:=by simpa using hb
   subst e;exact⟨_,st,λ v z=>by
     have z':Data.fields _=Data.cell v:=z;cases z'⟩
 keep:=λ i h h' st k=>k it (by simp) _ st
 item:=by
   intro X hP hw hK hc i Dy s σ H E I hf st hg;subst hP hw hK;obtain⟨f0,f1,f2,f3,f4,f5⟩:=hf it (by simp);have W:=Walks.range (prog:=X.prog) (w:=X.w) (I.ok.hd hc) it lo 1 n;refine W.item i s _ _ hg st λ v h' tk hv st' kk=>?_
   obtain⟨t,rfl⟩:=hv;have I1:Inv X Dy σ H { s with heap:=h',toks:=tk }:=I.turned (λ b o hb e=>kk b o (by simpa using hb) e) f0 f1 f3 f4 f5;refine⟨_,rfl,go_of (s:={ s with heap:=h',toks:=tk }) (n := "range_iterator") st' rfl rfl (by decide) ⟨.int (lo+i),H,I1,⟨t,?_⟩,⟨rfl,rfl⟩,st',λ b hb=>(hf b hb).1⟩⟩;rw[Int.mul_one]
 done:=by
   intro X hP hw hK hc i Dy s σ H E I hf st hg;subst hP hw hK;obtain⟨f0,f1,f2,f3,f4,f5⟩:=hf it (by simp);exact wpAny_pyNext_range_end (I.ok.hd hc) st (by have:n<=i:=hg;lia) λ h' eb=>⟨rfl,I.turned (t':=s.toks) (λ b o hb e=>eb b o hb e) f0 f1 f3 f4 f5⟩
 self:=λ _ _ _ _ _ st h=>wpAny_pyIter_rangeiter st h
section
variable{X:Cx}{tg:Expr}
def iList(K:PySem.W.Frag)(tl:TE):TI:=λ σ H R=>tl σ H λ x H1=>∃ a,x=.ref a/\(∃ xs,SqL K H1 a xs)/\R (Itl K a) H1
theorem qC4{l:Expr}{tl:TE}(hl:PE X l tl):PI X tg l (iList X.K tl):=by
 intro Dy s σ H R I h;refine thn (hl Dy s σ H _ I h) λ v s1 ⟨x,H1,I1,r1,q1⟩=>?_
 obtain⟨a,e,⟨xs,hq⟩,q⟩:=q1;subst e;cases r1;obtain⟨its,rv,p,hz⟩:=I1.list hq;refine wpAny_pyIter_list p.isList ?_;refine⟨s1.heap.objs.size,[s1.heap.objs.size],_,_,H1,rfl,I1.kept (t':=s1.toks) λ b o e=>zA2 _ e,qaa7 a _,⟨_,zAw _ rfl,rfl,rfl⟩,λ b hb=>?_,q⟩;have e:b=s1.heap.objs.size:=by simpa using hb
 subst e;exact I1.fpOk (zA5 _) (I1.hok.fresh (zA5 _))
theorem qan0{Dy:List (Addr×Obj)}{σ:St}{H:Hp}{s:Shared}{R:It->Hp->Prop}{E:Value->Shared->Prop}{lo hi:Int}{t u v:Tok}{tk:Nat}(I:Inv X Dy σ H s)(h1:-(2 ^ 62)<=lo)(h2:lo < 2 ^ 62)(h3:-(2 ^ 62)<=hi)(h4:hi < 2 ^ 62)(q:R (Itr lo (hi - lo).toNat) H):wpAny (model X.prog X.w) X.A (pyIter (.ref s.heap.objs.size)) (PIE X Dy σ tg R) E { s with heap:=s.heap.push { cls:=.type "range",data:=.fields #[.int lo t,.int hi u,.int 1 v] },toks:=tk }:=by
 refine wpAny_pyIter_range (IsRange.new ..) (small_one h1 h2 h3 h4) ?_;have I1:Inv X Dy σ H { s with heap:=s.heap.push { cls:=.type "range",data:=.fields #[.int lo t,.int hi u,.int 1 v] },toks:=tk }:=I.kept λ b o e=>zA2 _ e
 refine⟨(s.heap.push { cls:=.type "range",data:=.fields #[.int lo t,.int hi u,.int 1 v] }).objs.size,[(s.heap.push { cls:=.type "range",data:=.fields #[.int lo t,.int hi u,.int 1 v] }).objs.size],_,_,H,rfl,
   I1.kept (t':=tk) λ b o e=>zA2 _ e,qQ9 _ lo (hi - lo).toNat,?_,λ b hb=>?_,q⟩
 . have e1:lo+((0:Nat):Int) * 1=lo:=by simp
   have e2:(((hi - lo).toNat:Nat):Int) - ((0:Nat):Int)=Builtin.Range.rangeSize lo hi 1:=by rw[rangeSize_one];split<;>lia
   show IsRangeIter _ _ (lo+((0:Nat):Int) * 1) ((((hi - lo).toNat:Nat):Int) - ((0:Nat):Int)) 1;rw[e1,e2];exact zAw _ rfl
 have e:b=(s.heap.push { cls:=.type "range",data:=.fields #[.int lo t,.int hi u,.int 1 v] }).objs.size:=by simpa using hb
 subst e;exact I1.fpOk (zA5 _) (I1.hok.fresh (zA5 _))
def iRng1(ta:TA):TI:=λ σ H R=>ta σ H λ vs H1=>∃ j:Int,vs=[.int j]/\-(2 ^ 62)<=j/\j < 2 ^ 62/\R (Itr 0 j.toNat) H1
theorem qz1{a:Expr}{ta:TA}{p pos:Pos}(hg:Gl X "range")(hm:X.mg "range" = none)(ha:PA X [a] ta)(hs:starEach [a] X.env=[(false,eval a X.env)]:=by rfl):PI X tg (.Call (.Name "range" p) [a] [] pos) (iRng1 ta):=by
 intro Dy s σ H R I h;refine Call_ (qI3 I hg hm boot_range (PyProof.Rows.callWith_type1 (thn (ha pos Dy s σ H _ I h) λ us s1 ⟨vs,H1,I1,r1,q1⟩=>?_) hs rfl));obtain⟨j,e,q1,q2,q⟩:=q1;subst e;cases r1 with
 | cons r rr =>
   cases rr;obtain⟨t,rfl⟩:=r;exact call_range_1 (qan0 I1 (by lia) (by lia) q1 q2 (by simpa using q))
def tFor(wi:TI)(g:TG)(tb:TS):TS:=λ D σ H=>wi σ H λ J H1=>∃ W:Nat->Nat->St->Hp->Prop,(∃ m,W 0 m σ H1)/\∀ i m σ H,W i m σ H ->
 (J.stop i H/\D.nx σ H)∨(J.go i H/\∃ N:St->Hp->Prop,(∀ σ' H',N σ' H'->∃ m',m' < m/\W (i+1) m' σ' H')/\∀ x H',J.yld i H x H'->g x σ H' λ σ2 H2=>tb { D with nx:=N,ct:=N,bk:=D.nx } σ2 H2)
def qU0(fp:List Addr)(h:Heap):List (Addr×Obj):=fp.filterMap λ b=>(h.get? b).map λ o=>(b,o)
theorem ql7{h:Heap}{b:Addr}{o:Obj}(hb:b∈fp)(e:h.get? b=some o):(b,o)∈qU0 fp h:=List.mem_filterMap.mpr ⟨b,hb,by rw[e];rfl⟩
theorem qac7{h:Heap}{p:Addr×Obj}(hp:p∈qU0 fp h):p.1∈fp/\h.get? p.1=some p.2:=by
 obtain⟨b,hb,e⟩:=List.mem_filterMap.mp hp;cases q:h.get? b with
 | none=>rw[q] at e;cases e
 | some o =>
   rw[q] at e;have e':(b,o)=p:=Option.some.inj e;subst e';exact⟨hb,q⟩
theorem Inv.pinned{Dy:List (Addr×Obj)}{σ:St}{H:Hp}{s:Shared}(I:Inv X Dy σ H s)(hf:∀ b∈fp,Fq X Dy H b)(ho:∀ b∈fp,∃ o,s.heap.get? b=some o/\∀ v,o.data≠.cell v):Inv X (Dy++qU0 fp s.heap) σ H s :=
 I.pins_of λ p hp=>(zAf.mp hp).elim (λ z=>I.pin p (zAs _ z)) λ z=>by
   obtain⟨hb,e⟩:=qac7 z;obtain⟨f0,f1,f2,_⟩:=hf p.1 hb;obtain⟨o,e',d⟩:=ho p.1 hb;rw[e] at e';cases e';exact⟨e,f0,f1,f2,d⟩
theorem Inv.unpinned{Dy pl:List (Addr×Obj)}{σ:St}{H:Hp}{s:Shared}(I:Inv X (Dy++pl) σ H s):Inv X Dy σ H s:=I.pins_of λ p hp=>I.pin p (zAs _ (List.mem_append_left _ hp))
theorem qac0{iter:Expr}{wi:TI}{g:TG}{tb:TS}{pos:Pos}(hp:PassesOwn (model X.prog X.w) X.A X.env X.xe)(hc:X.calm=true)(hi:PI X tg iter wi)(hg:PG X tg g)(hb:PSs X body tb)(hs:∀ x,foldedSetIterable iter X.env x=pure x:=by intro _;rfl):PS X (.For tg iter body [] pos) (tFor wi g tb):=by
 intro Dy s σ H D I h;refine wpAny_For (thn (hi Dy s σ H _ I h) λ v s1 h1=>thn h1 λ itv s2 h2=>?_) hs;obtain⟨it,fp,tn,J,H2,e,I2,T,st2,f2,W,⟨m0,w0⟩,turn⟩:=h2;subst e;have stat:∀{H':Hp},(∀ b∈fp,H' b=none)->∀ b∈fp,Fq X Dy H' b:=λ hn b hb=>⟨hn b hb,(f2 b hb).2⟩
 refine codeAny_forLoop_any (λ n s'=>∃ i σ' H',Inv X Dy σ' H' s'/\tn i s'.heap/\(∀ b∈fp,H' b=none)/\W i n σ' H') ?_ m0 ⟨0,σ,H2,I2,st2,λ b hb=>(f2 b hb).1,w0⟩;rintro n s3 ⟨i,σ3,H3,I3,st3,fr3,w3⟩;rcases turn i n σ3 H3 w3 with⟨stop,qn⟩ | ⟨go,N,hN,step⟩
 . refine wpAny_passesOwn hp (thn (T.done X rfl rfl rfl hc i Dy s3 σ3 H3 X.xe I3 (stat fr3) st3 stop) λ r s4 ⟨hr,I4⟩=>?_)
   subst hr;exact wpAny_execs_nil ⟨σ3,H3,I4,qn⟩
 refine wpAny_passesOwn hp (thn (T.item X rfl rfl rfl hc i Dy s3 σ3 H3 X.xe I3 (stat fr3) st3 go) λ r s4 ⟨u,hr,h4⟩=>?_);subst hr;refine wpAny_passesOwn hp (thn h4 λ _ s5 ⟨x,H5,I5,r5,y5,st5,fr5⟩=>?_);have I5':=I5.pinned (stat fr5) (T.obj _ _ st5);refine wpAny_passesOwn hp (thn (hg _ s5 σ3 H5 x u _ I5' r5 (step x H5 y5)) λ _ s6 ⟨σ6,H6,I6,q6⟩=>?_);refine wpAny_passesOwn hp (thn (hb _ s6 σ6 H6 _ I6 q6) λ f s7 q7=>?_);have again:∀{σ7:St}{H7:Hp},Inv X (Dy++qU0 fp s5.heap) σ7 H7 s7->N σ7 H7->∃ m,m < n/\∃ i σ' H',Inv X Dy σ' H' s7/\tn i s7.heap/\(∀ b∈fp,H' b=none)/\W i m σ' H':=λ{σ7 H7} I7 n7=>by
   obtain⟨m',hm,w7⟩:=hN σ7 H7 n7;refine⟨m',hm,i+1,σ7,H7,I7.unpinned,T.keep _ _ _ st5 λ b hb o e=>(I7.pin (b,o) (zAs _ (zAs _ (ql7 hb e)))).1,λ b hb=>?_,w7⟩;obtain⟨o,e,d⟩:=T.obj _ _ st5 b hb;exact(I7.pin (b,o) (zAs _ (zAs _ (ql7 hb e)))).2.1
 cases f with
 | next=>obtain⟨σ7,H7,I7,n7⟩:=q7;exact again I7 n7
 | cont=>obtain⟨σ7,H7,I7,n7⟩:=q7;exact again I7 n7
 | brk=>obtain⟨σ7,H7,I7,q7⟩:=q7;exact⟨σ7,H7,I7.unpinned,q7⟩
 | ret v=>obtain⟨x7,σ7,H7,I7,r7,q7⟩:=q7;exact⟨x7,σ7,H7,I7.unpinned,r7,q7⟩
end
theorem qY1{K:PySem.W.Frag}{a:Addr}{xs:List V}{g:TG}{tb:TS}{D:Bn}{σ:St}{H:Hp}(Pv:Nat->St->Hp->Prop)(h0:Pv 0 σ H)(hl:∀ i σ H,i<=xs.length->Pv i σ H->SqL K H a xs)(hs:∀ i x σ H,xs[i]? = some x->Pv i σ H->g x σ H λ σ2 H2=>tb { D with nx:=Pv (i+1),ct:=Pv (i+1),bk:=D.nx } σ2 H2)(hd:∀ σ H,Pv xs.length σ H->D.nx σ H) :
   ∃ W:Nat->Nat->St->Hp->Prop,(∃ m,W 0 m σ H)/\∀ i m σ H,W i m σ H ->
     ((Itl K a).stop i H/\D.nx σ H)∨((Itl K a).go i H/\∃ N:St->Hp->Prop,(∀ σ' H',N σ' H'->∃ m',m' < m/\W (i+1) m' σ' H')/\∀ x H',(Itl K a).yld i H x H'->g x σ H' λ σ2 H2=>tb { D with nx:=N,ct:=N,bk:=D.nx } σ2 H2):=by
 refine⟨λ i m σ H=>m=xs.length - i/\i<=xs.length/\Pv i σ H,⟨xs.length,by simp,Nat.zero_le _,h0⟩,?_⟩;rintro i m σ H ⟨rfl,hi,p⟩;have q:=hl i σ H hi p;by_cases hlt:i < xs.length
 . refine .inr ⟨⟨xs,xs[i],q,by simp[hlt]⟩,Pv (i+1),λ σ' H' p'=>⟨xs.length - (i+1),by lia,rfl,hlt,p'⟩,λ x H' y=>?_⟩
   obtain⟨e,y⟩:=y;subst e;exact hs i x σ _ (y xs q) p
 have e:i=xs.length:=by lia
 subst e;exact .inl ⟨⟨xs,q,zA5 _⟩,hd σ H p⟩
theorem qae5{lo:Int}{g:TG}{tb:TS}{D:Bn}{σ:St}{H:Hp}(Pv:Nat->St->Hp->Prop)(h0:Pv 0 σ H)(hs:∀ i σ H,i < n->Pv i σ H->g (.int (lo+i)) σ H λ σ2 H2=>tb { D with nx:=Pv (i+1),ct:=Pv (i+1),bk:=D.nx } σ2 H2)(hd:∀ σ H,Pv n σ H->D.nx σ H) :
   ∃ W:Nat->Nat->St->Hp->Prop,(∃ m,W 0 m σ H)/\∀ i m σ H,W i m σ H ->
     ((Itr lo n).stop i H/\D.nx σ H)∨((Itr lo n).go i H/\∃ N:St->Hp->Prop,(∀ σ' H',N σ' H'->∃ m',m' < m/\W (i+1) m' σ' H')/\∀ x H',(Itr lo n).yld i H x H'->g x σ H' λ σ2 H2=>tb { D with nx:=N,ct:=N,bk:=D.nx } σ2 H2):=by
 refine⟨λ i m σ H=>m=n - i/\i<=n/\Pv i σ H,⟨n,by simp,Nat.zero_le _,h0⟩,?_⟩;rintro i m σ H ⟨rfl,hi,p⟩;by_cases hlt:i < n
 . refine .inr ⟨hlt,Pv (i+1),λ σ' H' p'=>⟨n - (i+1),by lia,rfl,hlt,p'⟩,λ x H' y=>?_⟩
   obtain⟨e,y⟩:=y;subst e y;exact hs i σ _ hlt p
 have e:i=n:=by lia
 subst e;exact .inl ⟨zA5 _,hd σ H p⟩
abbrev R2:=V->V->Hp->VK->Prop
def OpR(X:Cx)(f:Value->Value->Sem Value)(r:R2):Prop :=
 ∀(Dy:List (Addr×Obj))(s:Shared)(σ:St)(H:Hp)(x y:V)(v u:Value)(Q:VK),Inv X Dy σ H s->RelV x v->RelV y u->r x y H Q ->
   wpAny (model X.prog X.w) X.A (f v u) (EP X Dy σ Q) X.xe s
def UnR(X:Cx)(f:Value->Sem Value)(r:V->Hp->VK->Prop):Prop :=
 ∀(Dy:List (Addr×Obj))(s:Shared)(σ:St)(H:Hp)(x:V)(v:Value)(Q:VK),Inv X Dy σ H s->RelV x v->r x H Q ->
   wpAny (model X.prog X.w) X.A (f v) (EP X Dy σ Q) X.xe s
def CallR(X:Cx)(f:Value)(r:List V->Hp->VK->Prop):Prop :=
 ∀(Dy:List (Addr×Obj))(s:Shared)(σ:St)(H:Hp)(xs:List V)(us:List Value)(Q:VK),Inv X Dy σ H s->Vals xs us->r xs H Q ->
   wpAny (model X.prog X.w) X.A (call f us) (EP X Dy σ Q) X.xe s
def tOp(r:R2)(ta tb:TE):TE:=λ σ H Q=>ta σ H λ x H1=>tb σ H1 λ y H2=>r x y H2 Q
def tUn(r:V->Hp->VK->Prop)(ta:TE):TE:=λ σ H Q=>ta σ H λ x H1=>r x H1 Q
def rI(C:Int->Int->Prop)(g:Int->Int->V):R2:=λ x y H Q=>∃ i j,x=.int i/\y=.int j/\C i j/\Q (g i j) H
def rI0(g:Int->Int->V):R2:=λ x y H Q=>∃ i j,x=.int i/\y=.int j/\Q (g i j) H
def rU(g:Int->V):V->Hp->VK->Prop:=λ x H Q=>∃ i,x=.int i/\Q (g i) H
section
variable{X:Cx}{a b:Expr}{ta tb:TE}{pos:Pos}
theorem binT(ha:PE X a ta)(hb:PE X b tb){Dy:List (Addr×Obj)}{s:Shared}{σ:St}{H:Hp}{R:V->V->Hp->Prop}(I:Inv X Dy σ H s)(h:ta σ H λ x H1=>tb σ H1 λ y H2=>R x y H2){Q:Value->Shared->Prop}{f:Value->Value->Sem Value}(hf:∀ v u s2 x y H2,Inv X Dy σ H2 s2->RelV x v->RelV y u->R x y H2->wpAny (model X.prog X.w) X.A (f v u) Q X.xe s2) :
   wpAny (model X.prog X.w) X.A (eval a X.env) (λ v s₁=>wpAny (model X.prog X.w) X.A (eval b X.env) (λ u s₂=>wpAny (model X.prog X.w) X.A (f v u) Q X.xe s₂) X.xe s₁) X.xe s:=by
 refine thn (ha Dy s σ H _ I h) λ v s1 ⟨x,H1,I1,r1,q1⟩=>?_
 refine thn (hb Dy s1 σ H1 _ I1 q1) λ u s2 ⟨y,H2,I2,r2,q2⟩=>?_
 exact hf v u s2 x y H2 I2 r1 r2 q2
theorem pe_op{op:Operator}{r:R2}(ho:OpR X (binaryOp op) r)(ha:PE X a ta)(hb:PE X b tb):PE X (.BinOp a op b pos) (tOp r ta tb):=by
 intro Dy s σ H Q I h;exact wpAny_BinOp (binT ha hb I h λ v u s2 x y H2 I2 rx ry q=>ho Dy s2 σ H2 x y v u Q I2 rx ry q)
theorem pe_un{op:UnaryOp}{r:V->Hp->VK->Prop}(ho:UnR X (unaryOp op) r)(ha:PE X a ta):PE X (.UnaryOp op a pos) (tUn r ta):=by
 intro Dy s σ H Q I h;exact UnaryOp_ (thn (ha Dy s σ H _ I h) λ v s1 ⟨x,H1,I1,r1,q1⟩=>ho Dy s1 σ H1 x v Q I1 r1 q1)
theorem opI{f:Value->Value->Sem Value}{C:Int->Int->Prop}{g:Int->Int->Int}(rule:∀(i j:Int)(t u:Tok)(s:Shared)(Q:Value->Shared->Prop)(E:Value->Shared->Prop),C i j->Q (.int (g i j) s.toks) { s with toks:=s.toks+1 }->wpAny (model X.prog X.w) X.A (f (.int i t) (.int j u)) Q E s) :
   OpR X f (rI C λ i j=>.int (g i j)):=by
 intro Dy s σ H x y v u Q I rx ry h;obtain⟨i,j,rfl,rfl,hc,q⟩:=h;obtain⟨t,rfl⟩:=rx;obtain⟨t',rfl⟩:=ry;exact rule i j t t' s _ _ hc ⟨.int (g i j),H,I.tok _,⟨_,rfl⟩,q⟩
theorem opI0{f:Value->Value->Sem Value}{g:Int->Int->Int}(rule:∀(i j:Int)(t u:Tok)(s:Shared)(Q:Value->Shared->Prop)(E:Value->Shared->Prop),Q (.int (g i j) s.toks) { s with toks:=s.toks+1 }->wpAny (model X.prog X.w) X.A (f (.int i t) (.int j u)) Q E s) :
   OpR X f (rI0 λ i j=>.int (g i j)):=by
 intro Dy s σ H x y v u Q I rx ry h;obtain⟨i,j,rfl,rfl,q⟩:=h;obtain⟨t,rfl⟩:=rx;obtain⟨t',rfl⟩:=ry;exact rule i j t t' s _ _ ⟨.int (g i j),H,I.tok _,⟨_,rfl⟩,q⟩
theorem opB0{f:Value->Value->Sem Value}{g:Int->Int->Bool}(rule:∀(i j:Int)(t u:Tok)(s:Shared)(Q:Value->Shared->Prop)(E:Value->Shared->Prop),Q (.bool (g i j)) s->wpAny (model X.prog X.w) X.A (f (.int i t) (.int j u)) Q E s) :
   OpR X f (rI0 λ i j=>.bl (g i j)):=by
 intro Dy s σ H x y v u Q I rx ry h;obtain⟨i,j,rfl,rfl,q⟩:=h;obtain⟨t,rfl⟩:=rx;obtain⟨t',rfl⟩:=ry;exact rule i j t t' s _ _ ⟨.bl (g i j),H,I,rfl,q⟩
def CPow(i j:Int):Prop:=0<=j/\j<=1000000/\i.natAbs < 2 ^ 64
def CMul(i j:Int):Prop:=(-(2 ^ 64) < i/\i < 2 ^ 64)∨(-(2 ^ 64) < j/\j < 2 ^ 64)
theorem CMul.ok{i j:Int}(h:CMul i j):IntMulOk i j:=by
 rcases h with⟨h1,h2⟩ | ⟨h1,h2⟩
 . exact .of_left (intBits_le_64 h1 h2)
 exact .of_right (intBits_le_64 h1 h2)
theorem qaJ0:OpR X (binaryOp .Add) (rI0 λ i j=>.int (i+j)):=opI0 λ _ _ _ _ _ _ _ q=>add_int q
theorem qq3:OpR X (binaryOp .Sub) (rI0 λ i j=>.int (i - j)):=opI0 λ _ _ _ _ _ _ _ q=>sub_int q
theorem qaI5:OpR X (binaryOp .Mult) (rI CMul λ i j=>.int (i * j)):=opI λ _ _ _ _ _ _ _ hc q=>mul_int q hc.ok
theorem qh5:OpR X (binaryOp .Mod) (rI (λ _ j=>0 < j) λ i j=>.int (i % j)):=opI λ i j _ _ _ _ _ hc q=>by
 have h1:(0:Int) < j:=hc;exact mod_int' (by lia) (by rw[Int.fmod_eq_emod_of_nonneg i (by lia)];exact q)
theorem qaI4:OpR X (binaryOp .Pow) (rI CPow λ i j=>.int (i ^ j.toNat)):=opI λ _ _ _ _ _ _ _ hc q=>pow_int_small hc.1 hc.2.1 hc.2.2 q
theorem unI{f:Value->Sem Value}{g:Int->Int}(rule:∀(i:Int)(t:Tok)(s:Shared)(Q:Value->Shared->Prop)(E:Value->Shared->Prop),Q (.int (g i) s.toks) { s with toks:=s.toks+1 }->wpAny (model X.prog X.w) X.A (f (.int i t)) Q E s) :
   UnR X f (rU λ i=>.int (g i)):=by
 intro Dy s σ H x v Q I rx h;obtain⟨i,rfl,q⟩:=h;obtain⟨t,rfl⟩:=rx;exact rule i t s _ _ ⟨.int (g i),H,I.tok _,⟨_,rfl⟩,q⟩
theorem qau7:UnR X (unaryOp .USub) (rU λ i=>.int (-i)):=unI λ _ _ _ _ _ q=>neg_int q
end
section
variable{X:Cx}{a b c:Expr}{ta tb tc:TE}{pos:Pos}
theorem qaC7{Dy:List (Addr×Obj)}{σ:St}{H:Hp}{s:Shared}{Q:VK}{k k':Bool}(I:Inv X Dy σ H s)(q:Q (.bl k) H)(e:k=k'):EP X Dy σ Q (.bool k') s:=by
 subst e;exact⟨.bl k,H,I,rfl,q⟩
theorem Ff:OpR X (compareOp .Lt) (rI0 λ i j=>.bl (decide (i < j))):=opB0 λ _ _ _ _ _ _ _ q=>lt_int q
theorem Hr:OpR X (compareOp .LtE) (rI0 λ i j=>.bl (decide (i<=j))):=opB0 λ _ _ _ _ _ _ _ q=>le_int q
theorem B8:OpR X (compareOp .Gt) (rI0 λ i j=>.bl (decide (j < i))):=opB0 λ _ _ _ _ _ _ _ q=>gt_int q
theorem Fg:OpR X (compareOp .GtE) (rI0 λ i j=>.bl (decide (j<=i))):=opB0 λ _ _ _ _ _ _ _ q=>ge_int q
theorem qaI6:OpR X (compareOp .Is) (λ x y H Q=>y=.non/\Q (.bl (decide (x=.non))) H):=by
 intro Dy s σ H x y v u Q I rx ry h;obtain⟨rfl,q⟩:=h;cases ry;refine is_none_gen (qaC7 I q ?_);cases x<;>first
   | (cases rx;rfl)
   | (obtain⟨t,rfl⟩:=rx;rfl)
theorem qay9:OpR X (compareOp .IsNot) (λ x y H Q=>y=.non/\Q (.bl (!decide (x=.non))) H):=by
 intro Dy s σ H x y v u Q I rx ry h;obtain⟨rfl,q⟩:=h;cases ry;refine isnot_none_gen (qaC7 I q ?_);cases x<;>first
   | (cases rx;rfl)
   | (obtain⟨t,rfl⟩:=rx;rfl)
theorem OpR.or{f:Value->Value->Sem Value}{r r':R2}(h:OpR X f r)(h':OpR X f r'):OpR X f (λ x y H Q=>r x y H Q∨r' x y H Q):=by
 intro Dy s σ H x y v u Q I rx ry q;rcases q with q | q
 . exact h Dy s σ H x y v u Q I rx ry q
 exact h' Dy s σ H x y v u Q I rx ry q
theorem qb0(b:Expr)(h:op≠.In:=by decide)(h2:op≠.NotIn:=by decide):behindInMarks op b=false:=by
 have e1:(op == CmpOp.In)=false:=by cases op<;>first | rfl | exact absurd rfl h
 have e2:(op == CmpOp.NotIn)=false:=by cases op<;>first | rfl | exact absurd rfl h2
 cases b<;>simp[behindInMarks,e1,e2]
theorem qay2{r:R2}(ho:OpR X (compareOp op) r)(ha:PE X a ta)(hb:PE X b tb)(hm:behindInMarks op b=false):PE X (.Compare a [op] [b] pos) (tOp r ta tb):=by
 intro Dy s σ H Q I h;exact wpAny_Compare1 (binT ha hb I h λ v u s2 x y H2 I2 rx ry q=>ho Dy s2 σ H2 x y v u Q I2 rx ry q) hm
def Hs(t:TE):TT:=λ σ H Q=>t σ H λ x H'=>∃ k,x=.bl k/\Q k H'
theorem qaw7{r:R2}(ho:OpR X (compareOp op) r)(ha:PE X a ta)(hb:PE X b tb)(hm:behindInMarks op b=false):PT X (.Compare a [op] [b] pos) (Hs (tOp r ta tb)):=by
 intro Dy s σ H Q I h;refine wpAny_isTrue_Compare1 (thn (ha Dy s σ H _ I h) λ v s1 ⟨x,H1,I1,r1,q1⟩=>thn (hb Dy s1 σ H1 _ I1 q1) λ u s2 ⟨y,H2,I2,r2,q2⟩ =>
   thn (ho Dy s2 σ H2 x y v u _ I2 r1 r2 q2) λ c s3 ⟨z,H3,I3,r3,k,e,q3⟩=>?_) hm
 subst e;cases r3;exact wpAny_truthy_bool ⟨H3,I3,q3⟩
def qal3(r r':R2)(ta tb tc:TE):TE:=λ σ H Q=>ta σ H λ x H1=>tb σ H1 λ y H2=>r x y H2 λ z H3=>∃ k,z=.bl k /\
 (if k=true then tc σ H3 λ w' H4=>r' y w' H4 Q else Q (.bl false) H3)
theorem qao3{op':CmpOp}{r r':R2}(ho:OpR X (compareOp op) r)(ho':OpR X (compareOp op') r')(ha:PE X a ta)(hb:PE X b tb)(hc:PE X c tc)(hm:lastMarks [op,op'] [b,c]=false:=by with_unfolding_all rfl):PE X (.Compare a [op,op'] [b,c] pos) (qal3 r r' ta tb tc):=by
 intro Dy s σ H Q I h;refine Compare_chain (thn (ha Dy s σ H _ I h) λ v s1 ⟨x,H1,I1,r1,q1⟩=>chain_link (thn (hb Dy s1 σ H1 _ I1 q1) λ u s2 ⟨y,H2,I2,r2,q2⟩ =>
   thn (ho Dy s2 σ H2 x y v u _ I2 r1 r2 q2) λ d s3 ⟨z,H3,I3,r3,k,e,q3⟩=>?_)) hm
 subst e;cases r3;refine wpAny_truthy_bool ?_;cases k with
 | false=>exact ite_ff ⟨.bl false,H3,I3,rfl,q3⟩
 | true=>exact ite_tt (chain_last (thn (hc Dy s3 σ H3 _ I3 q3) λ w' s4 ⟨z',H4,I4,r4,q4⟩=>ho' Dy s4 σ H4 y z' u w' Q I4 r2 r4 q4))
theorem qan2{op':CmpOp}{r r':R2}(ho:OpR X (compareOp op) r)(ho':OpR X (compareOp op') r')(ha:PE X a ta)(hb:PE X b tb)(hc:PE X c tc)(hm:lastMarks [op,op'] [b,c]=false:=by with_unfolding_all rfl):PT X (.Compare a [op,op'] [b,c] pos) (Hs (qal3 r r' ta tb tc)):=by
 intro Dy s σ H Q I h;refine isTrue_chain (thn (ha Dy s σ H _ I h) λ v s1 ⟨x,H1,I1,r1,q1⟩=>test_link (thn (hb Dy s1 σ H1 _ I1 q1) λ u s2 ⟨y,H2,I2,r2,q2⟩ =>
   thn (ho Dy s2 σ H2 x y v u _ I2 r1 r2 q2) λ d s3 ⟨z,H3,I3,r3,k,e,q3⟩=>?_)) hm
 subst e;cases r3;refine wpAny_truthy_bool ?_;cases k with
 | false =>
   obtain⟨k',e',q'⟩:=q3;cases e';exact ite_ff ⟨H3,I3,q'⟩
 | true =>
   refine ite_tt (test_last (thn (hc Dy s3 σ H3 _ I3 q3) λ w' s4 ⟨z',H4,I4,r4,q4⟩=>thn (ho' Dy s4 σ H4 y z' u w' _ I4 r2 r4 q4) λ d' s5 ⟨z2,H5,I5,r5,k2,e2,q5⟩=>?_));subst e2;cases r5;exact wpAny_truthy_bool ⟨H5,I5,q5⟩
theorem qI1:(sizeLine:Nat) < 2 ^ 63:=by rw[sizeLine_eq];decide
theorem qV1:OpR X (binaryOp .Add) (λ x y H Q=>∃ i j,x=.str i/\y=.str j/\i.length+j.length<=sizeLine/\Q (.str (i++j)) H):=by
 intro Dy s σ H x y v u Q I rx ry h;obtain⟨i,j,rfl,rfl,hz,q⟩:=h;obtain⟨t,rfl⟩:=rx;obtain⟨t',rfl⟩:=ry;exact add_str (λ t' tk=>⟨.str (i++j),H,I.tok _,⟨_,rfl⟩,q⟩) hz
theorem Bo{x:V}(r:Vals [x] us):∃ u,us=[u]/\RelV x u:=by
 cases r with
 | cons r1 r2=>cases r2;exact⟨_,rfl,r1⟩
theorem Gz{x y:V}(r:Vals [x,y] us):∃ u w',us=[u,w']/\RelV x u/\RelV y w':=by
 cases r with
 | cons r1 r2 =>
   cases r2 with
   | cons r3 r4=>cases r4;exact⟨_,_,rfl,r1,r3⟩
theorem qat5:CallR X (.builtin "abs") (λ xs H Q=>∃ i,xs=[.int i]/\Q (.int (if i < 0 then -i else i)) H):=by
 intro Dy s σ H xs us Q I r h;obtain⟨i,rfl,q⟩:=h;obtain⟨u,rfl,t,rfl⟩:=Bo r;exact call_abs_int λ u tk=>⟨.int (if i < 0 then -i else i),H,I.tok _,⟨_,rfl⟩,q⟩
theorem qag2:CallR X (.type "int") (λ xs H Q=>(∃ i,xs=[.int i]/\Q (.int i) H)∨∃ k,xs=[.bl k]/\Q (.int (if k then 1 else 0)) H):=by
 intro Dy s σ H xs us Q I r h;rcases h with⟨i,rfl,q⟩ | ⟨k,rfl,q⟩
 . obtain⟨u,rfl,t,rfl⟩:=Bo r
   exact call_int_int ⟨.int i,H,I,⟨_,rfl⟩,q⟩
 obtain⟨u,rfl,r1⟩:=Bo r;cases r1;exact call_int_bool ⟨.int (if k then 1 else 0),H,I.tok _,⟨_,rfl⟩,q⟩
end
structure ObjM(h:Heap)(x dx C:Addr)(mA:Str->Option Value):Prop where
 obj:h.get? x=some (PySem.W.instObj C dx)
 ns:h.Ns1 dx mA
 ne:dx≠x
theorem qr0{h:Heap}{dx:Addr}{mA:Str->Option Value}(n:h.Ns1 dx mA):∃ od,h.get? dx=some od/\∀ name,PySem.W.lookIn name od=some (mA name):=by
 obtain⟨o,es,ep,ho,hd,hk,_,hm⟩:=n;refine⟨o,ho,λ name=>?_⟩;have e:=hm name;unfold nsFind findBy at e;rw[<- Array.find?_toList] at e;unfold PySem.W.lookIn;rw[hd];dsimp only;split
 . rename_i y q
   rw[q] at e;exact congrArg some e
 rename_i q
 rw[q] at e;have a:es.toList.any (·.refKey)=false:=by
   rw[List.any_eq_false];intro y hy;obtain⟨z,t,hkey⟩:=hk y (Array.mem_toList_iff.mp hy);simp[DictEntry.refKey,hkey]
 have a':¬ es.toList.any (·.refKey)=true:=by rw[a];exact zAg
 rw[if_neg a'];exact congrArg some e
theorem ObjM.look{h:Heap}{x dx C:Addr}{mA:Str->Option Value}(I:ObjM h x dx C mA):∃ od,PySem.W.InstAt h x (PySem.W.instObj C dx) C (some od)/\∀ name,PySem.W.lookIn name od=some (mA name) :=
 let ⟨od,ho,hl⟩:=qr0 I.ns
 ⟨od,⟨I.obj,rfl,rfl,ho⟩,hl⟩
section
variable{prog:Program}{w:World}{A:Around}{E:Value->Shared->Prop}{s:Shared}{K:PySem.W.Frag}{x dx C f:Addr}{mA:Str->Option Value}{name:Str}{v:Value}
theorem qaC3{expr:Bool}{Q:Value->Shared->Prop}(X:K.In s.heap)(I:ObjM s.heap x dx C mA)(hg:PySem.W.plainGet K C name=true)(hh:PySem.W.hasDictIn K C=true)(ha:PySem.W.findIn K (.ref C) name=some none)(hv:mA name=some v)(hv':PySem.W.handedIn v=true)(h:Q v { s with toks:=s.toks+1 }) :
   wpAny (model prog w) A (getAttr (.ref x) name expr) Q E s:=by
 obtain⟨od,J,hl⟩:=I.look;exact PySem.W.get_value X J (PySem.W.plainGet_of hg).1 (PySem.W.findObj_own hh ha rfl (by rw[hl,hv])) hv' h
theorem qar6{Q:Value×List Value->Shared->Prop}(X:K.In s.heap)(I:ObjM s.heap x dx C mA)(hg:PySem.W.plainGet K C name=true)(hf:PySem.W.findIn K (.ref C) name=some (some (.ref f)))(ht:PySem.W.isFn K (.ref f)=true)(hv:mA name=none)(h:Q (.ref f,[.ref x]) s) :
   wpAny (model prog w) A (getMethod (.ref x) name pl) Q E s:=by
 obtain⟨od,J,hl⟩:=I.look;exact PySem.W.method_fn X J (PySem.W.plainGet_of hg).1 (PySem.W.plainGet_of hg).2 hf (zBf.mp ht) (by show (PySem.W.lookIn name od).map (·.isSome)=some false;rw[hl,hv];rfl) h
theorem qaw0{ns:List Str}{Q:Unit->Shared->Prop}(X:K.In s.heap)(I:ObjM s.heap x dx C mA)(hs:PySem.W.findIn K (.ref C) "__setattr__" = some (some (.builtin "object.__setattr__")))(hp:PySem.W.plainOver K C=true)(ht:PySem.W.takerIn K C name=some none)(hh:PySem.W.hasDictIn K C=true)(hw:PySem.Within mA ns)(hsz:ns.length<=sizeLine)(h:∀ h',ObjM h' x dx C (λ y=>if y=name then some v else mA y)->Heap.SameBut dx s.heap h'->Q () { s with heap:=h',toks:=s.toks+2 }) :
   wpAny (model prog w) A (setAttr (.ref x) name v) Q E s:=by
 obtain⟨od,J,hl⟩:=I.look;refine PySem.W.set_plain X J hs (PySem.W.osa_open (s:={ s with toks:=s.toks+1 }) (r:=none) X J hp ht λ b=>?_);obtain⟨cd,hc,hd'⟩:=PySem.W.any_some hh;have hx:s.heap.get? x=some ⟨.ref C,some dx,.plain,#[]⟩:=I.obj;refine wpAny_bind (wpAny_pure (wpAny_bind (wpAny_bind (wpAny_loadPart hx (wpAny_bind (PySem.W.Looks.here (s:={ s with toks:=s.toks+1 }) (PySem.W.looks_clsIn X hc) ?_))))));rw[hd'];refine wpAny_pure (a:=some dx) (wpAny_bind (wpAny_pure (wpAny_bind ?_)));refine wpAny_nsSet1 (s:={ s with toks:=s.toks+1 }) I.ns λ h' hn2 hs2=>?_
 obtain⟨oD,esD,epD,hoD,hdD,hcD⟩:=hn2.count (PySem.Within.cons name v hw);refine wpAny_bind (wpAny_lookBehind hoD (by rw[hdD];exact pastItsLine_dict (zAl hcD (by rw[zAk];lia))) ?_);exact wpAny_pure (h _ ⟨(hs2.2 _ (Ne.symm I.ne)).trans I.obj,hn2,I.ne⟩ hs2)
theorem qaq1{R:Result->Shared->Prop}{vs:List Value}(X:K.In s.heap)(hm:PySem.W.makesIn K C=true)(hi:PySem.W.findIn K (.ref C) "__init__" = some (some (.ref f)))(hf:PySem.W.typeIn K (.ref f)=some (.type "function"))(h:codeAny (model prog w) (A.under (.builtin "type.__call__" ⟨.ref C::vs,kw⟩)) (.call (.ref f) ⟨.ref (s.heap.objs.size+1)::vs,kw⟩) (PySem.W.InitBack (s.heap.objs.size+1) R)
     { s with heap:=(s.heap.push PySem.W.emptyDict).push (PySem.W.instObj C s.heap.objs.size) }) :
   codeAny (model prog w) A (.call (.ref C) ⟨vs,kw⟩) R s:=by
 obtain⟨hh,g,d,t,os⟩:=s;exact PySem.W.make_core (PySem.W.makes_of X hm) (PySem.W.looks_findIn X hi) (λ self=>PySem.W.bind_fn X self hf) (.inl rfl) h
end
def Bh(f:Str)(v:V):List (Str×V)->List (Str×V)
 | []=>[(f,v)]
 | (g,x)::r=>if g=f then (g,v)::r else (g,x)::Bh f v r
theorem qo4(f g:Str)(v:V):∀ fs:List (Str×V),(Bh f v fs).lookup g=if g=f then some v else fs.lookup g
 | []=>by
   show List.lookup g [(f,v)]=_;by_cases h:g=f
   . have hb:(g == f)=true:=zBf.mpr h
     simp only[List.lookup,hb,if_pos h]
   have hb:(g == f)=false:=zBh.mpr h;simp only[List.lookup,hb,if_neg h]
 | (k,x)::r=>by
   have ih:=qo4 f g v r;rw[show Bh f v ((k,x)::r)=(if k=f then (k,v)::r else (k,x)::Bh f v r) from rfl];by_cases hk:k=f
   . rw[if_pos hk]
     by_cases h:g=k
     . have hb:(g == k)=true:=zBf.mpr h
       simp only[List.lookup,hb,if_pos (h.trans hk)]
     have hb:(g == k)=false:=zBh.mpr h;simp only[List.lookup,hb,if_neg (λ e:g=f=>h (e.trans hk.symm))]
   rw[if_neg hk];by_cases h:g=k
   . have hb:(g == k)=true:=zBf.mpr h
     simp only[List.lookup,hb,if_neg (λ e:g=f=>hk (h.symm.trans e))]
   have hb:(g == k)=false:=zBh.mpr h;simp only[List.lookup,hb];exact ih
theorem qm0(f:Str)(v:V):∀ fs:List (Str×V),f∈(Bh f v fs).map (·.1)/\∀ g,g∈fs.map (·.1)->g∈(Bh f v fs).map (·.1)
 | []=>⟨by simp[Bh],λ g h=>by simp at h⟩
 | (k,x)::r=>by
   obtain⟨i1,i2⟩:=qm0 f v r;rw[show Bh f v ((k,x)::r)=(if k=f then (k,v)::r else (k,x)::Bh f v r) from rfl];by_cases hk:k=f
   . rw[if_pos hk]
     subst hk;exact⟨by simp,λ g h=>by simpa using h⟩
   rw[if_neg hk];refine⟨?_,λ g h=>?_⟩
   . rw[zAz]
     exact zA4 _ i1
   rw[zAz] at h ⊢;rcases zAc.mp h with e | e
   . exact zAc.mpr (.inl e)
   exact zA4 _ (i2 g e)
theorem qo5(f:Str)(v:V):∀ fs:List (Str×V),(Bh f v fs).length<=fs.length+1
 | []=>by simp[Bh]
 | (k,x)::r=>by
   have ih:=qo5 f v r;rw[show Bh f v ((k,x)::r)=(if k=f then (k,v)::r else (k,x)::Bh f v r) from rfl];by_cases hk:k=f
   . rw[if_pos hk,zAk,zAk];lia
   rw[if_neg hk,zAk,zAk];lia
theorem RelO.some_of{v:V}{o:Option Value}(r:RelO (some v) o):∃ u,o=some u/\RelV v u:=by
 cases o with
 | none=>exact(show False from r).elim
 | some u=>exact⟨u,rfl,r⟩
theorem RelO.none_of{o:Option Value}(r:RelO none o):o=none:=by
 cases o with
 | none=>rfl
 | some u=>exact(show False from r).elim
theorem qM2{v:V}{u:Value}(r:RelV v u):PySem.W.handedIn u=true:=by
 cases v with
 | non=>cases (show u=Value.none from r);rfl
 | bl b=>cases (show u=Value.bool b from r);rfl
 | int i=>obtain⟨t,e⟩:=(show ∃ t,u=Value.int i t from r);cases e;rfl
 | str x=>obtain⟨t,e⟩:=(show ∃ t,u=Value.str x t from r);cases e;rfl
 | byt b=>obtain⟨t,e⟩:=(show ∃ t,u=Value.bytes b t from r);cases e;rfl
 | flt b=>obtain⟨t,e⟩:=(show ∃ t,u=Value.float b t from r);cases e;rfl
 | ref a=>cases (show u=Value.ref a from r);rfl
 | ty n=>cases (show u=Value.type n from r);rfl
section
variable{P:Program}{w:World}{H:Hp}{h:Heap}{a C dx:Addr}{fs:List (Str×V)}
theorem qM0(hok:HOk P w H h)(e:H a=some (.ins C dx fs)):∃ mA,ObjM h a dx C mA/\(∀ f,RelO (fs.lookup f) (mA f))/\PySem.Within mA (fs.map (·.1))/\fs.length<=1000/\H dx=some (.own a):=by
 obtain⟨d,z,ne,ob,mA,n,r,q⟩:=(show ObjOk P w H h a (.ins C dx fs) from hok a _ e)
 exact⟨mA,⟨ob,n,ne⟩,r,q,z,d⟩
end
structure Cls(K:PySem.W.Frag)(C:Addr):Prop where
 pg:PySem.W.plainGet K C Str.empty=true
 hd:PySem.W.hasDictIn K C=true
 po:PySem.W.plainOver K C=true
 sa:PySem.W.findIn K (.ref C) "__setattr__" = some (some (.builtin "object.__setattr__"))
theorem Cls.get{K:PySem.W.Frag}{C:Addr}(c:Cls K C)(f:Str):PySem.W.plainGet K C f=true:=c.pg
def qd5(K:PySem.W.Frag)(C:Addr)(f:Str):Prop:=PySem.W.findIn K (.ref C) f=some none
theorem qd5.taker{K:PySem.W.Frag}{C:Addr}{f:Str}(n:qd5 K C f):PySem.W.takerIn K C f=some none:=by
 unfold PySem.W.takerIn;rw[show PySem.W.findIn K (.ref C) f=some none from n];rfl
structure Meth(K:PySem.W.Frag)(C:Addr)(m:Str)(f:Addr):Prop where
 at_:PySem.W.findIn K (.ref C) m=some (some (.ref f))
 fn:PySem.W.isFn K (.ref f)=true
 kp:PySem.W.keepIn K (.ref f)=true
section
variable{X:Cx}{Dy:List (Addr×Obj)}{σ:St}{H:Hp}{s:Shared}{a C dx:Addr}{fs:List (Str×V)}{f:Str}{v:V}{A:Around}{E:Value->Shared->Prop}
theorem qX5{b:Bool}{Q:Value->Shared->Prop}(I:Inv X Dy σ H s)(e:H a=some (.ins C dx fs))(c:Cls X.K C)(n:qd5 X.K C f)(l:fs.lookup f=some v)(h:∀ u s',Inv X Dy σ H s'->RelV v u->Q u s'):wpAny (model X.prog X.w) A (getAttr (.ref a) f b) Q E s:=by
 obtain⟨mA,O,r,_,_,_⟩:=qM0 I.hok e;obtain⟨u,hu,ru⟩:=RelO.some_of (v:=v) (o:=mA f) (by rw[<- l];exact r f);exact qaC3 I.kIn O (c.get f) c.hd n hu (qM2 ru) (h u _ (I.tok _) ru)
theorem qD4{m:Str}{g:Addr}{Q:Value×List Value->Shared->Prop}(I:Inv X Dy σ H s)(e:H a=some (.ins C dx fs))(c:Cls X.K C)(k:Meth X.K C m g)(l:fs.lookup m=none)(h:Q (.ref g,[.ref a]) s):wpAny (model X.prog X.w) A (getMethod (.ref a) m pl) Q E s:=by
 obtain⟨mA,O,r,_,_,_⟩:=qM0 I.hok e;have hn:mA m=none:=RelO.none_of (by rw[<- l];exact r m);exact qar6 I.kIn O (c.get m) k.at_ k.fn hn h
theorem qS7{y:V}{u:Value}{Q:Unit->Shared->Prop}(I:Inv X Dy σ H s)(e:H a=some (.ins C dx fs))(c:Cls X.K C)(n:qd5 X.K C f)(hl:fs.length < 1000)(ry:RelV y u)(h:∀ s',Inv X Dy σ (upd H a (.ins C dx (Bh f y fs))) s'->Q () s'):wpAny (model X.prog X.w) A (setAttr (.ref a) f u) Q E s:=by
 obtain⟨mA,O,r,wi,_,ho⟩:=qM0 I.hok e;have hz:(fs.map (·.1)).length<=sizeLine:=by rw[zAe,sizeLine_eq];lia
 refine qaw0 I.kIn O c.sa c.po n.taker c.hd wi hz λ h' O' sb=>h _ ?_
 have hd:∃ o,h'.get? dx=some o:=let ⟨o,_,_,e',_⟩:=O'.ns;⟨o,e'⟩
 refine I.write (x:=a) (e:=dx) (by rw[e];exact True.intro) (.inr ho) (λ b q hb z=>(sb.2 b hb).trans z) hd ?_;refine⟨by rw[qb3 O.ne];exact ho,?_,O.ne,O'.obj,_,O'.ns,λ g=>?_,λ g hg=>?_⟩
 . have:=qo5 f y fs;lia
 . show RelO ((Bh f y fs).lookup g) (if g=f then some u else mA g)
   rw[qo4];by_cases q:g=f
   . rw[if_pos q,if_pos q];exact ry
   rw[if_neg q,if_neg q];exact r g
 by_cases q:g=f
 . rw[q];exact(qm0 f y fs).1
 refine(qm0 f y fs).2 g (wi g λ z=>hg ?_);show (if g=f then some u else mA g)=none;rw[if_neg q];exact z
theorem Inv.made(I:Inv X Dy σ H s):Inv X Dy σ (upd (upd H s.heap.objs.size (.own (s.heap.objs.size+1))) (s.heap.objs.size+1) (.ins C s.heap.objs.size []))
   { s with heap:=(s.heap.push PySem.W.emptyDict).push (PySem.W.instObj C s.heap.objs.size) }:=by
 have e1:(s.heap.push PySem.W.emptyDict).get? s.heap.objs.size=some PySem.W.emptyDict:=zAw s.heap rfl;have e2:((s.heap.push PySem.W.emptyDict).push (PySem.W.instObj C s.heap.objs.size)).get? (s.heap.objs.size+1)=some (PySem.W.instObj C s.heap.objs.size):=by
   have:=zAw (s.heap.push PySem.W.emptyDict) (o:=PySem.W.instObj C s.heap.objs.size) rfl
   rwa[Heap.size_push] at this
 have e3:(s.heap.push PySem.W.emptyDict).Ns s.heap.objs.size (λ _=>none):=⟨PySem.W.emptyDict,#[],_,e1,rfl,(λ e he=>absurd he (by simp)),λ _=>rfl⟩
 have I1:=I.laid (a:=s.heap.objs.size) (o:=.own (s.heap.objs.size+1)) (h':=s.heap.push PySem.W.emptyDict) (t':=s.toks) (λ b u q=>zA2 _ q) (zA5 _) ⟨_,e1⟩;refine I1.laid (a:=s.heap.objs.size+1) (o:=.ins C s.heap.objs.size []) (t':=s.toks) (λ b u q=>zA2 _ q) (Nat.le_of_eq (Heap.size_push _ _)) ?_;have ne:s.heap.objs.size≠s.heap.objs.size+1:=zAi (zBx _);refine⟨by rw[qb3 ne,qb1],Nat.zero_le _,ne,e2,λ _=>none,(Heap.Ns1.of_empty e3).at λ o q=>zA2 _ q,λ _=>True.intro,λ y hy=>absurd rfl hy⟩
theorem qak1{prog:Program}{w:World}{env:Env}{e:Expr}{f:Str}{pos:Pos}{s:Shared}{Q:Value->Shared->Prop}(hb:attributeBase e f env (eval e env)=eval e env)(h:wpAny (model prog w) A (eval e env) (λ o s₁=>wpAny (model prog w) A (getAttr o f true) Q E s₁) E s):wpAny (model prog w) A (eval (.Attribute e f pos) env) Q E s :=
 Attribute_any_ h (by rw[arm_eval_Attribute,hb])
end
def tFld(K:PySem.W.Frag)(ta:TE)(f:Str):TE:=λ σ H Q=>ta σ H λ x H1=>∃ a C dx fs v,x=.ref a/\H1 a=some (.ins C dx fs)/\Cls K C/\qd5 K C f/\fs.lookup f=some v/\Q v H1
def sFld(K:PySem.W.Frag)(ta tv:TE)(f:Str):TS:=λ D σ H=>tv σ H λ y H1=>ta σ H1 λ x H2=>∃ a C dx fs,x=.ref a/\H2 a=some (.ins C dx fs)/\Cls K C/\qd5 K C f/\fs.length < 1000 /\
 D.nx σ (upd H2 a (.ins C dx (Bh f y fs)))
section
variable{X:Cx}{o e value:Expr}{f:Str}{pos pos':Pos}{ta tv:TE}
theorem qaH8(he:PE X e ta)(hb:attributeBase e f X.env (eval e X.env)=eval e X.env):PE X (.Attribute e f pos) (tFld X.K ta f):=by
 intro Dy s σ H Q I h;refine qak1 hb (thn (he Dy s σ H _ I h) λ u s1 ⟨x,H1,I1,rx,a,C,dx,fs,v,ex,ea,c,n,l,q⟩=>?_);subst ex;obtain rfl:u=Value.ref a:=rx;exact qX5 I1 ea c n l λ u' s2 I2 ru=>⟨v,H1,I2,ru,q⟩
theorem qaG9(ha:PE X o ta)(hv:PE X value tv)(hs:swapsWith value (some (.Attribute o f pos')) pos.line X.env=pure false):PS X (.Assign [.Attribute o f pos'] value pos) (sFld X.K ta tv f):=by
 intro Dy s σ H D I h;refine plainObj_wpAny_Assign_Attribute (thn (hv Dy s σ H _ I h) λ u s1 ⟨y,H1,I1,ry,q⟩=>thn (ha Dy s1 σ H1 _ I1 q) λ ov s2 ⟨x,H2,I2,rx,a,C,dx,fs,ex,ea,c,n,l,q2⟩=>?_) hs;subst ex;obtain rfl:ov=Value.ref a:=rx;exact qS7 I2 ea c n l ry λ s3 I3=>⟨σ,_,I3,q2⟩
theorem qat8{m:Str}{apos:Pos}{args:List Expr}{Dy:List (Addr×Obj)}{s:Shared}{σ:St}{H:Hp}{Q:Value->Shared->Prop}{te:TE}(he:PE X e te)(I:Inv X Dy σ H s)(h:te σ H λ x H1=>∃ a C dx fs g,x=.ref a/\H1 a=some (.ins C dx fs)/\Cls X.K C/\Meth X.K C m g/\fs.lookup m=none /\
     ∀ s1,Inv X Dy σ H1 s1->wpAny (model X.prog X.w) X.A (callWith pos (.ref g) [.ref a] (backTo pos (starEach args X.env)) (backToKw pos (keywordEach [] X.env))) Q X.xe s1)(ht:eval (.Call (.Attribute e m apos) args [] pos) X.env=(do
     let ov <- eval e X.env
     standAt apos.atName
     let (f,first) <- holding [ov] (getMethod ov m pl)
     callWith pos f first (backTo pos (starEach args X.env)) (backToKw pos (keywordEach [] X.env)))) :
   wpAny (model X.prog X.w) X.A (eval (.Call (.Attribute e m apos) args [] pos) X.env) Q X.xe s:=by
 refine PySem.W.methodCall_KW (pl:=pl) (thn (he Dy s σ H _ I h) λ u s1 ⟨x,H1,I1,rx,a,C,dx,fs,g,ex,ea,c,k,l,q⟩=>?_) ht;subst ex;obtain rfl:u=Value.ref a:=rx;exact qD4 I1 ea c k l (q s1 I1)
end
section
variable{X:Cx}{Dy:List (Addr×Obj)}{σ:St}{H:Hp}{s:Shared}{A:Around}{E Q:Value->Shared->Prop}{c:Value}{b:Bool}
inductive En(K:PySem.W.Frag)(H:Hp):V->Value->Prop where
 | non:En K H .non (.type "NoneType")
 | bl (x:Bool):En K H (.bl x) (.type "bool")
 | int (i:Int):En K H (.int i) (.type "int")
 | str (x:Str):En K H (.str x) (.type "str")
 | flt (x:UInt64):En K H (.flt x) (.type "float")
 | lst {a:Addr} {xs:List V} (e:H a=some (.lst xs)):En K H (.ref a) (.type "list")
 | frz {a:Addr} {o:Obj} {xs:List V} (e:H a=some (.frz o (.lst xs))):En K H (.ref a) (.type "list")
 | tup {a:Addr} {xs:List V} (e:H a=some (.tup xs)):En K H (.ref a) (.type "tuple")
 | dK {a:Addr} {kvs:List (Key×V)} (e:H a=some (.dK kvs)):En K H (.ref a) (.type "dict")
 | dT {a:Addr} {kvs:List (List Key×V)} (e:H a=some (.dT kvs)):En K H (.ref a) (.type "dict")
 | ins {a C dx:Addr} {fs:List (Str×V)} (e:H a=some (.ins C dx fs)) (cl:Cls K C) (ha:PySem.W.findIn K (.ref C) "__class__" = some (some (.builtin "object.__class__")))
     (hn:PySem.W.specialIn K (.builtin "object.__class__") "__get__" = some (some (.builtin "getset_descriptor.__get__"))) (htk:PySem.W.takesIn K (.builtin "object.__class__")=some true)
     (hm:PySem.W.mroIn K C (.type "object")=some true):En K H (.ref a) (.ref C)
theorem qA4{x:V}{u t:Value}(I:Inv X Dy σ H s)(rx:RelV x u)(ty:En X.K H x t)(e:PySem.W.kitOne X.K t c=some b)(h:∀ tk,Q (.bool b) { s with toks:=tk }) :
   wpAny (model X.prog X.w) A (call (.builtin "isinstance") [u,c]) Q E s:=by
 cases ty with
 | non=>cases (show u=Value.none from rx);exact PySem.W.kia_one PySem.W.kitx_none I.kIn True.intro e (λ z=>nomatch z) h
 | bl y=>cases (show u=Value.bool y from rx);exact PySem.W.kia_one PySem.W.kitx_bool I.kIn True.intro e (λ z=>nomatch z) h
 | int i=>obtain⟨t,q⟩:=(show ∃ t,u=Value.int i t from rx);cases q;exact PySem.W.kia_one PySem.W.kitx_int I.kIn True.intro e (λ z=>nomatch z) h
 | str y=>obtain⟨t,q⟩:=(show ∃ t,u=Value.str y t from rx);cases q;exact PySem.W.kia_one PySem.W.kitx_str I.kIn True.intro e (λ z=>nomatch z) h
 | flt y=>obtain⟨t,q⟩:=(show ∃ t,u=Value.float y t from rx);cases q;exact PySem.W.kia_one PySem.W.kitx_float I.kIn True.intro e (λ z=>nomatch z) h
 | @lst a xs ea =>
   cases (show u=Value.ref a from rx);obtain⟨_,_,n,_,h1⟩:=(show ObjOk X.prog X.w H s.heap a (.lst xs) from I.hok a _ ea)
   exact PySem.W.kia_one PySem.W.kitx_list I.kIn ⟨_,h1,rfl⟩ e (λ z=>nomatch z) h
 | @frz a ob xs ea =>
   cases (show u=Value.ref a from rx);obtain⟨_,_,_,n,_,h1⟩:=(show ObjOk X.prog X.w H s.heap a (.frz ob (.lst xs)) from I.hok a _ ea)
   exact PySem.W.kia_one PySem.W.kitx_list I.kIn ⟨_,h1,rfl⟩ e (λ z=>nomatch z) h
 | @tup a xs ea =>
   cases (show u=Value.ref a from rx);obtain⟨_,_,_,p⟩:=(show ObjOk X.prog X.w H s.heap a (.tup xs) from I.hok a _ ea)
   obtain⟨o,h1,h2,_⟩:=p;exact PySem.W.kia_one PySem.W.kitx_tuple I.kIn ⟨o,h1,h2⟩ e (λ z=>nomatch z) h
 | @dK a kvs ea =>
   cases (show u=Value.ref a from rx);obtain⟨_,_,vs,_,p⟩:=(show ObjOk X.prog X.w H s.heap a (.dK kvs) from I.hok a _ ea)
   obtain⟨o,es,ep,h1,h2,_⟩:=p;exact PySem.W.kia_one PySem.W.kitx_dict I.kIn ⟨o,h1,h2.1⟩ e (λ z=>nomatch z) h
 | @dT a kvs ea =>
   cases (show u=Value.ref a from rx);obtain⟨_,_,xs,_,o,es,ep,h1,h2,_⟩:=(show ObjOk X.prog X.w H s.heap a (.dT kvs) from I.hok a _ ea)
   exact PySem.W.kia_one PySem.W.kitx_dict I.kIn ⟨o,h1,h2.1⟩ e (λ z=>nomatch z) h
 | @ins a C dx fs ea cl ha hn htk hm =>
   cases (show u=Value.ref a from rx);obtain⟨mA,O,_⟩:=qM0 I.hok ea;obtain⟨od,J,_⟩:=O.look;exact PySem.W.kia_one (PySem.W.kitx_own (cl.get _) cl.hd ha hn htk hm) I.kIn J e (λ z=>nomatch z) h
end
structure Room(k:Nat)(A:Around):Prop where
 hd:A.handled=none
 dp:A.depth+3 * k+5 < recursionLimit
 un:A.units+16 * k+200 < cLine
theorem Room.mono{j k:Nat}{A:Around}(r:Room k A)(h:j<=k):Room j A:=⟨r.hd,by have:=r.dp;lia,by have:=r.un;lia⟩
theorem Room.deeper{k:Nat}{A:Around}(r:Room (k+1) A)(env:Env):Room k (A.deeper env) :=
 ⟨r.hd,by have:=r.dp;show A.depth+1+3 * k+5 < _;lia,by have:=r.un;show A.units+3+16 * k+200 < _;lia⟩
theorem qW3{A:Around}{C:Addr}:(A.under (.builtin "type.__call__" ⟨.ref C::us,kw⟩)).depth=A.depth+1:=by
 first | rfl | simp[Around.under,Code.weight,Code.isCreation,Code.isGuard,Code.isCaller,Code.frames,Code.isFrame,guardIds]
theorem qW2{A:Around}{C:Addr}:(A.under (.builtin "type.__call__" ⟨.ref C::us,kw⟩)).units=A.units+1:=by
 first | rfl | simp[Around.under,Code.cUnits,Code.frames,Code.isFrame]
theorem Room.make{k:Nat}{A:Around}(r:Room (k+1) A)(C:Addr)(us:List Value)(kw:List (Str×Value)):Room k (A.under (.builtin "type.__call__" ⟨.ref C::us,kw⟩)) :=
 ⟨r.hd,by have:=r.dp;rw[qW3];lia,by have:=r.un;rw[qW2];lia⟩
theorem Room.depth{k:Nat}{A:Around}(r:Room k A):A.depth < recursionLimit:=by have:=r.dp;lia
theorem Room.units{k:Nat}{A:Around}(r:Room k A):A.units+64 < cLine:=by have:=r.un;lia
def tNil:TA:=λ _ H Q=>Q [] H
def Fx(ta:TE)(tr:TA):TA:=λ σ H Q=>ta σ H λ x H1=>tr σ H1 λ xs H2=>Q (x::xs) H2
section
variable{X:Cx}{e:Expr}{es:List Expr}{te:TE}{t:TA}{pos:Pos}
theorem qq1:PA X [] tNil:=λ _ _ _ _ H Q I h=>Calls.spliced_nil ⟨[],H,I,.nil,h⟩
theorem qd3(ha:PE X e te)(hr:PA X es t)(hs:starEach (e::es) X.env=(false,eval e X.env)::starEach es X.env:=by rfl):PA X (e::es) (Fx te t):=by
 intro pos Dy s σ H Q I h;rw[hs];show wpAny _ _ (spliced ((false,eval e X.env)::backTo pos (starEach es X.env))) _ _ s;refine Calls.spliced_cons (thn (ha Dy s σ H _ I h) λ u s1 ⟨x,H1,I1,r1,q1⟩=>?_);exact thn (hr pos Dy s1 σ H1 _ I1 q1) λ us s2 ⟨xs,H2,I2,r2,q2⟩=>⟨x::xs,H2,I2,.cons r1 r2,q2⟩
def tTup(t:TA):TE:=λ σ H Q=>t σ H λ xs H1=>xs.length<=sizeLine/\∀ p,H1 p=none->Q (.ref p) (upd H1 p (.tup xs))
def tLst(t:TA):TE:=λ σ H Q=>t σ H λ xs H1=>xs.length<=sizeLine/\∀ p,H1 p=none->Q (.ref p) (upd H1 p (.lst xs))
theorem qax5{x1}(h:PA X es t):PE X (.Tuple es x1 pos) (tTup t):=by
 intro Dy s σ H Q I hq;refine wpAny_Tuple_spliced (thn (h pos Dy s σ H _ I hq) λ us s1 ⟨xs,H1,I1,r,z,q⟩=>⟨by rw[<- r.length];exact z,?_⟩);have hf:H1 s1.heap.objs.size=none:=I1.hok.fresh (zA5 _);refine⟨.ref s1.heap.objs.size,upd H1 s1.heap.objs.size (.tup xs),I1.laid (t':=s1.toks) (λ b u e=>zA2 _ e) (zA5 _) ?_,rfl,q _ hf⟩;exact⟨z,us,r,⟨_,zAw _ rfl,rfl,_,rfl⟩⟩
theorem qao0(h:PA X es t):PE X (.List es pos) (tLst t):=by
 intro Dy s σ H Q I hq;refine wpAny_List_spliced (thn (h pos Dy s σ H _ I hq) λ us s1 ⟨xs,H1,I1,r,z,q⟩=>⟨by rw[<- r.length];exact z,?_⟩);have hf:H1 s1.heap.objs.size=none:=I1.hok.fresh (zA5 _);refine⟨.ref s1.heap.objs.size,upd H1 s1.heap.objs.size (.lst xs),I1.laid (t':=s1.toks) (λ b u e=>zA2 _ e) (zA5 _) ?_,rfl,q _ hf⟩;exact⟨z,us,0,r,zAw _ rfl⟩
end
abbrev Sp:=List V->Hp->VK->XK->Prop
abbrev CXT:=List Env->Hp->Shared->XK->Value->Shared->Prop
structure Env0(P:Program)(w:World)(K:PySem.W.Frag)(mg:Str->Option Value)(base:Heap)(A:Around)(outer:List Env)(s:Shared)(H:Hp):Prop where
 frames:A.frames=some outer
 mod:Mod K mg base
 bs:∀ b o,base.get? b=some o->s.heap.get? b=some o/\H b=none
 bsz:base.objs.size<=s.heap.objs.size
 funs:s.heap.FunFrames base outer
 frf:∀ b∈frs outer,H b=none
 hok:HOk P w H s.heap
 bare:AllBare s.gens
def CE(outer:List Env)(P:Program)(w:World)(H:Hp)(s:Shared)(Q:VK)(u:Value)(s':Shared):Prop :=
 ∃ v H',s'.os=s.os/\AllBare s'.gens/\Un (frs outer) [] H H' s.heap s'.heap/\HOk P w H' s'.heap/\RelV v u/\Q v H'
def CR(CX:CXT)(outer:List Env)(P:Program)(w:World)(H:Hp)(s:Shared)(Q:VK)(E:XK)(r:Result)(s':Shared):Prop :=
 match r with
 | .ok (.ret u)=>CE outer P w H s Q u s'
 | .ok _=>False
 | .error e=>CX outer H s E e s'
structure Bi(P:Program)(w:World)(K:PySem.W.Frag)(mg:Str->Option Value)(base:Heap)(CX:CXT)(k:Nat)(f:Addr)(fd:FuncData)(ps:List Str)(sp:Sp):Prop where
 len:∀ vs H Q E,sp vs H Q E->vs.length=ps.length
 run:∀(A:Around)(outer:List Env)(s:Shared)(H:Hp)(args:Args)(us:List Value)(vs:List V)(Q:VK)(E:XK),Room k A->Env0 P w K mg base A outer s H->BindsTo s fd args (ps.zip us)->Vals vs us->sp vs H Q E ->
   codeAny (model P w) A (.call (.ref f) args) (CR CX outer P w H s Q E) s
theorem Env0.make{P:Program}{w:World}{K:PySem.W.Frag}{A:Around}{outer:List Env}{s:Shared}{H:Hp}(e:Env0 P w K mg base A outer s H)(C:Addr)(us:List Value)(kw:List (Str×Value)) :
   Env0 P w K mg base (A.under (.builtin "type.__call__" ⟨.ref C::us,kw⟩)) outer s H:=⟨by first | exact e.frames | (simpa[Around.under,Code.envs,Code.isFrame,pushEnvs] using e.frames),e.mod,e.bs,e.bsz,e.funs,e.frf,e.hok,e.bare⟩
section
variable{X:Cx}{Dy:List (Addr×Obj)}{σ:St}{H:Hp}{s s':Shared}
theorem Inv.env0(I:Inv X Dy σ H s):Env0 X.prog X.w X.K X.mg X.base X.A X.stack s H :=
 ⟨I.ok.frames,I.ok.mod,I.bs,zAl I.ok.bsz I.sz,I.stack,I.stkFree,I.hok,I.bare⟩
theorem Inv.after{Q:VK}{u:Value}(I:Inv X Dy σ H s)(h:CE X.stack X.prog X.w H s Q u s'):EP X Dy σ Q u s':=by
 obtain⟨v,H',os,bare,un,hok,r,q⟩:=h;obtain⟨hh,g,d,t,os'⟩:=s';obtain rfl:os'=s.os:=os;exact⟨v,H',I.call (h':=hh) (g':=g) (d':=d) (t':=t) (ch:=[]) un hok bare (λ b z=>absurd z (by simp)),r,q⟩
end
def Fy(sp:Sp)(dvs:List V)(E:XK)(t:TA):TE:=λ σ H Q=>t σ H λ vs H1=>sp (vs++dvs) H1 Q E
def tMeth(C:Addr)(m:Str)(sp:Sp)(dvs:List V)(E:XK)(ta:TE)(t:TA):TE:=λ σ H Q=>ta σ H λ x H1=>∃ a dx fs,x=.ref a/\H1 a=some (.ins C dx fs)/\fs.lookup m=none /\
 t σ H1 λ vs H2=>sp (x::(vs++dvs)) H2 Q E
def tMake(C:Addr)(sp:Sp)(dvs:List V)(E:XK)(t:TA):TE:=λ σ H Q=>t σ H λ vs H1=>∀ x dx,H1 x=none->H1 dx=none->dx≠x ->
 sp (.ref x::(vs++dvs)) (upd (upd H1 dx (.own x)) x (.ins C dx [])) (λ v H2=>v=.non/\Q (.ref x) H2) E
def Binds(K:PySem.W.Frag)(fd:FuncData)(ps:List Str)(ds:List Value):Prop :=
 ∀(s:Shared)(us:List Value),K.In s.heap->(us++ds).length=ps.length->BindsTo s fd ⟨us,[]⟩ (ps.zip (us++ds))
theorem Binds.all{K:PySem.W.Frag}{fd:FuncData}{ps:List Str}(h:∀ us:List Value,us.length=ps.length->bindArgs fd ⟨us,[]⟩=pure (ps.zip us)):Binds K fd ps []:=λ s us _ hl=>by
 rw[zA9] at hl ⊢;exact .of_eq (h us hl)
def qE8(CX:CXT)(X:Cx)(E:XK):Prop:=∀(Dy:List (Addr×Obj))(σ:St)(H:Hp)(s:Shared)(e:Value)(s':Shared),Inv X Dy σ H s->CX X.stack H s E e s'->X.xe e s'
section
variable{X:Cx}{CX:CXT}{k:Nat}{f C:Addr}{fd:FuncData}{ps:List Str}{sp:Sp}{dvs:List V}{ds:List Value}{E:XK}{x m:Str}{p pos apos:Pos}{e o:Expr}{es:List Expr}{ta:TE}{t:TA}
theorem qam8{Dy:List (Addr×Obj)}{σ:St}{H:Hp}{s:Shared}{Q:VK}{vs:List V}(F:Bi X.prog X.w X.K X.mg X.base CX k f fd ps sp)(hr:Room k X.A)(hb:Binds X.K fd ps ds)(hd:Vals dvs ds)(hx:qE8 CX X E)(I:Inv X Dy σ H s)(r:Vals vs us)(h:sp (vs++dvs) H Q E):wpAny (model X.prog X.w) X.A (call (.ref f) us) (EP X Dy σ Q) X.xe s:=by
 have r2:Vals (vs++dvs) (us++ds):=r.append hd;have hl:(us++ds).length=ps.length:=by rw[<- r2.length];exact F.len _ _ _ _ h
 refine wpAny_call (codeAny_mono (F.run X.A X.stack s H ⟨us,[]⟩ (us++ds) (vs++dvs) Q E hr I.env0 (hb s us I.kIn hl) r2 h) λ r s' hq=>?_);cases r with
 | error e=>exact hx Dy σ H s e s' I hq
 | ok fl =>
   cases fl with
   | ret u=>exact I.after hq
   | next=>exact False.elim hq
   | brk=>exact False.elim hq
   | cont=>exact False.elim hq
theorem qU5(F:Bi X.prog X.w X.K X.mg X.base CX k f fd ps sp)(hr:Room k X.A)(hg:Gl X x)(hm:X.mg x=some (.ref f))(hk:PySem.W.keepIn X.K (.ref f)=true)(hb:Binds X.K fd ps ds)(hd:Vals dvs ds)(hx:qE8 CX X E)(ha:PA X (e::es) t)(hdb:(x == ("__debug__" : Str))=false:=by decide)(he:starEach (e::es) X.env=(false,eval e X.env)::starEach es X.env:=by rfl)(hpl:(backTo pos (starEach es X.env)).any (·.1)=false:=by rfl) :
   PE X (.Call (.Name x p) (e::es) [] pos) (Fy sp dvs E t):=by
 intro Dy s σ H Q I h;refine wpAny_Call_Name_kw (qD0 I hg hm ?_ hdb);refine PySem.W.callWith_K (h₀:=X.base) I.ok.mod.kin hk (thn (ha pos Dy s σ H _ I h) λ us s1 ⟨vs,H1,I1,r,q⟩=>⟨I1.kIn,?_⟩) he hpl;exact qam8 F hr hb hd hx I1 r q
theorem qax9(he:PE X o ta)(c:Cls X.K C)(hm:Meth X.K C m f)(F:Bi X.prog X.w X.K X.mg X.base CX k f fd ps sp)(hr:Room k X.A)(hb:Binds X.K fd ps ds)(hd:Vals dvs ds)(hx:qE8 CX X E)(ha:PA X (e::es) t)(hst:starEach (e::es) X.env=(false,eval e X.env)::starEach es X.env:=by rfl)(hpl:(backTo pos (starEach es X.env)).any (·.1)=false:=by rfl)(ht:eval (.Call (.Attribute o m apos) (e::es) [] pos) X.env=(do
     let ov <- eval o X.env
     standAt apos.atName
     let (f,first) <- holding [ov] (getMethod ov m pl)
     callWith pos f first (backTo pos (starEach (e::es) X.env)) (backToKw pos (keywordEach [] X.env))):=by rfl) :
   PE X (.Call (.Attribute o m apos) (e::es) [] pos) (tMeth C m sp dvs E ta t):=by
 intro Dy s σ H Q I h;refine PySem.W.methodCall_KW (pl:=pl) (thn (he Dy s σ H _ I h) λ u s1 ⟨x,H1,I1,rx,a,dx,fs,ex,ea,l,q⟩=>?_) ht;subst ex;obtain rfl:u=Value.ref a:=rx;refine qD4 I1 ea c hm l ?_;refine PySem.W.callWith_K (first:=[.ref a]) (h₀:=X.base) I.ok.mod.kin hm.kp (thn (ha pos Dy s1 σ H1 _ I1 q) λ us s2 ⟨vs,H2,I2,r,q2⟩=>⟨I2.kIn,?_⟩) hst hpl;exact qam8 (us:=.ref a::us) (vs:=.ref a::vs) F hr hb hd hx I2 (.cons rfl r) q2
structure Mk(K:PySem.W.Frag)(C f:Addr):Prop where
 makes:PySem.W.makesIn K C=true
 init:PySem.W.findIn K (.ref C) "__init__" = some (some (.ref f))
 fn:PySem.W.isFn K (.ref f)=true
 kp:PySem.W.keepIn K (.ref C)=true
theorem qam7{Dy:List (Addr×Obj)}{σ:St}{H:Hp}{s:Shared}{Q:VK}{vs:List V}(M:Mk X.K C f)(F:Bi X.prog X.w X.K X.mg X.base CX k f fd ps sp)(hr:Room (k+1) X.A)(hb:Binds X.K fd ps ds)(hd:Vals dvs ds)(hx:qE8 CX X E)(I:Inv X Dy σ H s)(r:Vals vs us)(h:∀ x dx,H x=none->H dx=none->dx≠x->sp (.ref x::(vs++dvs)) (upd (upd H dx (.own x)) x (.ins C dx [])) (λ v H2=>v=.non/\Q (.ref x) H2) E) :
   wpAny (model X.prog X.w) X.A (call (.ref C) us) (EP X Dy σ Q) X.xe s:=by
 have hq:=h (s.heap.objs.size+1) s.heap.objs.size (I.hok.fresh (Nat.le_succ _)) (I.hok.fresh (zA5 _)) (zAi (zBx _));have I2:=Inv.made (C:=C) I;have r2:Vals (V.ref (s.heap.objs.size+1)::(vs++dvs)) (Value.ref (s.heap.objs.size+1)::(us++ds)):=.cons rfl (r.append hd);have hl:(Value.ref (s.heap.objs.size+1)::us++ds).length=ps.length:=by
   have e:=r2.length;rw[F.len _ _ _ _ hq] at e;exact e.symm
 refine wpAny_call (qaq1 (f:=f) I.kIn M.makes M.init (zBf.mp M.fn) (codeAny_mono (F.run _ X.stack _ _ ⟨Value.ref (s.heap.objs.size+1)::us,[]⟩ (Value.ref (s.heap.objs.size+1)::(us++ds)) _ _ E (hr.make C us [])
   (I2.env0.make C us []) (hb _ (Value.ref (s.heap.objs.size+1)::us) I2.kIn hl) r2 hq) λ r s' hq'=>?_))
 cases r with
 | error e=>exact hx Dy σ _ _ e s' I2 hq'
 | ok fl =>
   cases fl with
   | ret u =>
     obtain⟨v,H',I3,rv,ev,q3⟩:=I2.after hq';subst ev;exact⟨rv,⟨V.ref (s.heap.objs.size+1),H',I3,rfl,q3⟩⟩
   | next=>exact False.elim hq'
   | brk=>exact False.elim hq'
   | cont=>exact False.elim hq'
theorem qay0(M:Mk X.K C f)(F:Bi X.prog X.w X.K X.mg X.base CX k f fd ps sp)(hr:Room (k+1) X.A)(hg:Gl X x)(hm:X.mg x=some (.ref C))(hb:Binds X.K fd ps ds)(hd:Vals dvs ds)(hx:qE8 CX X E)(ha:PA X (e::es) t)(hdb:(x == ("__debug__" : Str))=false:=by decide)(he:starEach (e::es) X.env=(false,eval e X.env)::starEach es X.env:=by rfl)(hpl:(backTo pos (starEach es X.env)).any (·.1)=false:=by rfl) :
   PE X (.Call (.Name x p) (e::es) [] pos) (tMake C sp dvs E t):=by
 intro Dy s σ H Q I h;refine wpAny_Call_Name_kw (qD0 I hg hm ?_ hdb);refine PySem.W.callWith_K (h₀:=X.base) I.ok.mod.kin M.kp (thn (ha pos Dy s σ H _ I h) λ us s1 ⟨vs,H1,I1,r,q⟩=>⟨I1.kIn,?_⟩) he hpl;exact qam7 M F hr hb hd hx I1 r q
end
structure qa9(N P:List Str)(sc:Scope):Prop where
 kind:sc.kind=.function
 co:sc.isCoroutine=false
 gen:sc.isGenerator=false
 nd:N.Nodup
 pre:N.take P.length=P
 par:∀ x∈P,sc.names.lookup x=some .local∨sc.names.lookup x=some .cell
 nofree:∀ y∈sc.names,y.2≠.free
theorem qO3{kindOf:Str->Option NameKind}{x:Str}:∀{binds:List (Str×Value)}{m:Str->Option Value},(∀ v,(x,v)∉binds)->bindL kindOf binds m x=m x
 | [],_,_=>rfl
 | (n,v)::r,m,h=>by
   unfold bindL;rw[qO3 λ w hw=>h w (zA4 _ hw)];split
   . have:x≠n:=by rintro rfl;exact h v zAd
     simp[this]
   rfl
theorem qO5{kindOf:Str->Option NameKind}{x:Str}:∀{binds:List (Str×Value)}{m:Str->Option Value},(∀ v,(x,v)∉binds)->bindC kindOf binds m x=m x
 | [],_,_=>rfl
 | (n,v)::r,m,h=>by
   unfold bindC;rw[qO5 λ w hw=>h w (zA4 _ hw)];split
   . rfl
   have:x≠n:=by rintro rfl;exact h v zAd
   simp[this]
theorem qO4{kindOf:Str->Option NameKind}{x:Str}{v:Value}:∀{P:List Str}{vs:List Value}{i:Nat}{m:Str->Option Value},P.Nodup->P[i]? = some x->vs[i]? = some v->kindOf x=some .local ->
   bindL kindOf (P.zip vs) m x=some v
 | [],_,_,_,_,h,_,_=>by simp at h
 | _::_,[],_,_,_,_,h,_=>by simp at h
 | p::P,w::vs,0,m,nd,h1,h2,hk=>by
   simp at h1 h2;subst h1;subst h2;show bindL kindOf ((p,w)::P.zip vs) m p=_;unfold bindL;rw[qO3 λ v hv=>(zBr.mp nd).1 (List.of_mem_zip hv).1,if_pos hk];simp
 | p::P,w::vs,i+1,m,nd,h1,h2,hk=>by
   show bindL kindOf ((p,w)::P.zip vs) m x=_;unfold bindL;exact qO4 (i:=i) (zBr.mp nd).2 (by simpa using h1) (by simpa using h2) hk
theorem qO6{kindOf:Str->Option NameKind}{x:Str}{v:Value}:∀{P:List Str}{vs:List Value}{i:Nat}{m:Str->Option Value},P.Nodup->P[i]? = some x->vs[i]? = some v->kindOf x≠some .local ->
   bindC kindOf (P.zip vs) m x=some v
 | [],_,_,_,_,h,_,_=>by simp at h
 | _::_,[],_,_,_,_,h,_=>by simp at h
 | p::P,w::vs,0,m,nd,h1,h2,hk=>by
   simp at h1 h2;subst h1;subst h2;show bindC kindOf ((p,w)::P.zip vs) m p=_;unfold bindC;rw[qO5 λ v hv=>(zBr.mp nd).1 (List.of_mem_zip hv).1,if_neg hk];simp
 | p::P,w::vs,i+1,m,nd,h1,h2,hk=>by
   show bindC kindOf ((p,w)::P.zip vs) m x=_;unfold bindC;exact qO6 (i:=i) (zBr.mp nd).2 (by simpa using h1) (by simpa using h2) hk
def start(N:List Str)(vs:List V):St:=vs.map some++List.replicate (N.length - vs.length) none
def Ef(CX:CXT)(P:Program)(w:World)(K:PySem.W.Frag)(mg:Str->Option Value)(base:Heap)(N:List Str)(qual:Str)(scope:Scope)(f:Addr)(cd:Value)(A:Around)(outer:List Env)(s:Shared)(H:Hp)(E:XK):Cx where
 prog:=P
 w:=w
 K:=K
 mg:=mg
 base:=base
 A:=A.deeper (envOfC qual scope s.heap.objs.size f cd)
 N:=N
 s₀:=s
 H₀:=H
 env:=envOfC qual scope s.heap.objs.size f cd
 outer:=outer
 stack:=envOfC qual scope s.heap.objs.size f cd::outer
 ex:=[]
 calm:=true
 fn:=λ _=>true
 pn:=[]
 xe:=λ e s'=>wpAny (model P w) (A.deeper (envOfC qual scope s.heap.objs.size f cd)) (leaving (envOfC qual scope s.heap.objs.size f cd) e) (λ _ s''=>CX outer H s E e s'') (λ e' s''=>CX outer H s E e' s'') s'
theorem qZ6{sc:Scope}{x:Str}(h:sc.names.lookup x=some .cell):∃ c,(cellsFrom n sc.names []).lookup x=some c:=by
 have q:=PySem.W.cellsFrom_some sc.names n [] (.inl h);exact zB9.mp q
theorem qae0{CX:CXT}{P:Program}{w:World}{K:PySem.W.Frag}{ps:List Str}{qual:Str}{scope:Scope}{f:Addr}{cd:Value}{A:Around}{outer:List Env}{s s1:Shared}{H:Hp}{E:XK}{vs:List V}(S:qa9 N ps scope)(hd:A.handled=none)(e0:Env0 P w K mg base A outer s H)(hl:vs.length=ps.length)(r:Vals vs us)(x:InCallC s s.heap.objs.size (bindL (envOfC qual scope s.heap.objs.size f cd).kindOf (ps.zip us) λ _=>none) (cellsFrom (s.heap.objs.size+1) scope.names []) (bindC (envOfC qual scope s.heap.objs.size f cd).kindOf (ps.zip us) λ _=>none) s1) :
   Inv (Ef CX P w K mg base N qual scope f cd A outer s H E) [] (start N vs) H s1:=by
 have hpl:ps.length<=N.length:=by have:=congrArg List.length S.pre;rw[zBs] at this;lia
 obtain⟨h1,tk,rfl,hk⟩:=x.done;have noA:∀ b:Addr,b∉(Ef CX P w K mg base N qual scope f cd A outer s H E).ex:=λ b z=>absurd (show b∈([]:List Addr) from z) (by simp)
 refine⟨⟨e0.mod,S.kind,rfl,rfl,zA5 _,λ y z c h1 h2=>?_,λ y hy=>?_,λ y c _ h=>?_,λ _=>hd,Around.frames_deeper e0.frames,.inr ⟨rfl,rfl⟩,λ b z=>absurd z (noA b),e0.bs,e0.bsz,λ b _ _=>noA b,λ b z=>absurd z (noA b),e0.funs,e0.frf⟩,
   rfl,e0.bare,Un.kept hk,⟨_,x.toInCall.ns,λ i y v h1 h2 h3=>?_⟩,λ y c h=>⟨_,x.cell y c h⟩,e0.hok.fresh (zA5 _),λ y c h=>?_,λ p hp=>absurd (show p∈([]:List (Addr×Obj)) from hp) (by simp),e0.hok.kept hk,?_⟩
 . exact name_of_addr x.apart (PySem.mem_of_lookup h1) (PySem.mem_of_lookup h2)
 . have hy:scope.names.lookup y=some .cell∨scope.names.lookup y=some .free:=hy
   rcases hy with hy | hy
   . exact qZ6 hy
   exact absurd rfl (S.nofree _ (PySem.mem_of_lookup hy))
 . exact Nat.le_of_lt (x.above y c (PySem.mem_of_lookup h))
 . have hi:i < vs.length:=by
     unfold start at h2;by_cases hi:i < vs.length
     . exact hi
     rw[List.getElem?_append_right (by simpa using hi)] at h2;rw[List.getElem?_replicate] at h2;split at h2<;>cases h2
   have ha:vs[i]? = some v:=by
     unfold start at h2;rw[zAr (by simpa using hi),zAx] at h2;cases e:vs[i]? with
     | none=>rw[e] at h2;cases h2
     | some a=>rw[e] at h2;cases h2;rfl
   obtain⟨u,hu,rv⟩:=r.get ha;have hp:ps[i]? = some y:=by
     rw[<- S.pre,List.getElem?_take_of_lt (by lia)];exact h1
   have ndP:ps.Nodup:=by rw[<- S.pre];exact S.nd.sublist (zBv _ _)
   refine⟨u,rv,?_⟩;rcases S.par y (zBb hp) with k | k
   . exact .inl ⟨k,qO4 ndP hp hu k⟩
   obtain⟨c,e⟩:=qZ6 (n:=s.heap.objs.size+1) k;refine .inr ⟨.inl k,c,e,?_⟩;have q:=x.cell y c e;rw[qO6 ndP hp hu (by show scope.names.lookup y≠_;rw[k];decide)] at q;exact q
 . exact e0.hok.fresh (Nat.le_of_lt (x.above y c (PySem.mem_of_lookup h)))
 unfold start;show _=N.length;rw[zAj,zAe,List.length_replicate];lia
theorem Ht{CX:CXT}{P:Program}{w:World}{K:PySem.W.Frag}{k:Nat}{f:Addr}{name qual:Str}{params:Arguments}{scope:Scope}{dV kV doc pm cdv ct oc:Value}{an od:Option Addr}{osl:Array (Option Value)}{ps:List Str}{sp:Sp}(lk:K.lookup f=some ⟨oc,od,.func (PySem.W.fnOf name qual params body scope dV kV doc pm an cdv ct),osl⟩)(hcd:PySem.W.codeIn K cdv qual=true)(S:qa9 N ps scope)(len:∀ vs H Q E,sp vs H Q E->vs.length=ps.length)(hbody:∀(A:Around)(outer:List Env)(s:Shared)(H:Hp)(vs:List V)(Q:VK)(E:XK),Room k (A.deeper (envOfC qual scope s.heap.objs.size f cdv))->sp vs H Q E ->
     ∃ t,PSs (Ef CX P w K mg base N qual scope f cdv A outer s H E) body t/\t { nx:=λ _ H'=>Q .non H',rt:=Q } (start N vs) H) :
   Bi P w K mg base CX (k+1) f (PySem.W.fnOf name qual params body scope dV kV doc pm an cdv ct) ps sp:=by
 refine⟨len,λ A outer s H args us vs Q E hr e0 hb r hsp=>?_⟩;have hl:=len _ _ _ _ hsp;have KX:K.In s.heap:=e0.mod.kin.keeps λ b o e=>(e0.bs b o e).1
 have lim:s.heap.NoLimit:=e0.mod.nolimit.keeps λ b o e=>(e0.bs b o e).1
 have hkind:∀ y∈ps.zip us,scope.names.lookup y.1=some .local∨(scope.names.lookup y.1=some .cell/\((cellsFrom (s.heap.objs.size+1) scope.names []).lookup y.1).isSome=true):=λ ⟨n,v⟩ hy=>by
   rcases S.par n (List.of_mem_zip hy).1 with q | q
   . exact .inl q
   exact .inr ⟨q,PySem.W.cellsFrom_some _ _ _ (.inl q)⟩
 refine codeAny_call_function hr.depth (KX _ _ lk) rfl S.co S.gen rfl (PySem.W.codeRec_of KX hcd) (hb _ _ _ _ ?_);refine wpAny_newFunctionEnv_cells S.kind hkind λ env he s1 x=>?_
 subst he;refine⟨lim.keeps x.toInCall.keep,codeAny_func ?_⟩;obtain⟨t,ht,hq⟩:=hbody A outer s H vs Q E (hr.deeper _) hsp;have I:Inv (Ef CX P w K mg base N qual scope f cdv A outer s H E) [] (start N vs) H s1:=qae0 S hr.hd e0 hl r x;refine wpAny_mono (ht [] s1 (start N vs) H _ I hq) (λ fl s' hs=>?_) λ e s' hs=>hs
 have fin:∀{σ':St}{H':Hp}{v:V}{u:Value},Inv (Ef CX P w K mg base N qual scope f cdv A outer s H E) [] σ' H' s'->RelV v u->Q v H'->CE outer P w H s Q u s' :=
   λ{σ' H' v u} J rv q=>⟨v,H',J.os,J.bare,J.base,J.hok,rv,q⟩
 cases fl with
 | ret u =>
   obtain⟨v,σ',H',J,rv,q⟩:=hs;exact fin J rv q
 | next =>
   obtain⟨σ',H',J,q⟩:=hs;exact fin (v:=V.non) (u:=Value.none) J rfl q
 | brk =>
   obtain⟨_,_,_,q⟩:=hs;exact False.elim q
 | cont =>
   obtain⟨_,_,_,q⟩:=hs;exact False.elim q
section
variable{X:Cx}{x:Str}{p pos:Pos}{e:Expr}{es:List Expr}{t:TA}{id T:String}{r:List V->Hp->VK->Prop}
def tCB(r:List V->Hp->VK->Prop)(t:TA):TE:=λ σ H Q=>t σ H λ vs H1=>r vs H1 Q
theorem qao5(hc:CallR X (.builtin id) r)(hg:Gl X x)(hm:X.mg x=none)(hv:bootBuiltins x=some (.builtin id))(ha:PA X (e::es) t)(hn:x ≠ "__name__" := by decide)(hdb:(x == ("__debug__" : Str))=false:=by decide)(he:starEach (e::es) X.env=(false,eval e X.env)::starEach es X.env:=by rfl)(hpl:(backTo pos (starEach es X.env)).any (·.1)=false:=by rfl):PE X (.Call (.Name x p) (e::es) [] pos) (tCB r t):=by
 intro Dy s σ H Q I h;refine wpAny_Call_Name_kw (qI3 I hg hm hv ?_ hn hdb);exact PyProof.Rows.callWith_builtin1 (thn (ha pos Dy s σ H _ I h) λ us s1 ⟨vs,H1,I1,r1,q1⟩=>hc Dy s1 σ H1 vs us Q I1 r1 q1) he hpl
theorem qac4(hc:CallR X (.type T) r)(hg:Gl X x)(hm:X.mg x=none)(hv:bootBuiltins x=some (.type T))(ha:PA X (e::es) t)(hn:x ≠ "__name__" := by decide)(hdb:(x == ("__debug__" : Str))=false:=by decide)(he:starEach (e::es) X.env=(false,eval e X.env)::starEach es X.env:=by rfl)(hpl:(backTo pos (starEach es X.env)).any (·.1)=false:=by rfl):PE X (.Call (.Name x p) (e::es) [] pos) (tCB r t):=by
 intro Dy s σ H Q I h;refine wpAny_Call_Name_kw (qI3 I hg hm hv ?_ hn hdb);exact PyProof.Rows.callWith_type1 (thn (ha pos Dy s σ H _ I h) λ us s1 ⟨vs,H1,I1,r1,q1⟩=>hc Dy s1 σ H1 vs us Q I1 r1 q1) he hpl
end
end L2
namespace HT
open PySem PyProof.Rows
section
def sIx(n d:Nat):Option Int->Nat
 | none=>d
 | some v=>if v < 0 then (v+(n:Int)).toNat else min v.toNat n
theorem qy9(n d:Nat):sIx n d none=d:=rfl
theorem qT3(n d k:Nat):sIx n d (some (k:Int))=min k n:=by
 show (if (k:Int) < 0 then ((k:Int)+(n:Int)).toNat else min (k:Int).toNat n)=min k n;rw[if_neg (by lia),Int.toNat_natCast]
theorem qaE6(v:Int)(n d:Nat):(if v < 0 then max (v+(n:Int)) 0 else min v (n:Int))=((sIx n d (some v):Nat):Int):=by
 show (if v < 0 then max (v+(n:Int)) 0 else min v (n:Int))=(((if v < 0 then (v+(n:Int)).toNat else min v.toNat n):Nat):Int)
 by_cases hv:v < 0
 . simp only[if_pos hv];lia
 simp only[if_neg hv];lia
end
end HT
namespace L2
open PySem PySem.Spec PyProof.Rows
variable{its us:List Value}{n:Nat}{x:V}{α:Type}
abbrev TO:=St->Hp->(Option Int->Hp->Prop)->Prop
def PO(X:Cx)(e:Option Expr)(t:TO):Prop :=
 ∀(Dy:List (Addr×Obj))(s:Shared)(σ:St)(H:Hp)(Q:Option Int->Hp->Prop),Inv X Dy σ H s->t σ H Q ->
   wpAny (model X.prog X.w) X.A (evalPart e X.env) (λ u s'=>∃ o H',Inv X Dy σ H' s'/\IsPart u o/\Q o H') X.xe s
def qav2:TO:=λ _ H Q=>Q none H
def tPart(t:TE):TO:=λ σ H Q=>t σ H λ x H1=>∃ i,x=.int i/\Q (some i) H1
theorem qX1{ns:List Int}:∀{us:List Value},Vals (ns.map V.int) us->IntsAre us ns:=by
 induction ns with
 | nil=>intro us r;rw[List.map_nil] at r;cases r;exact .nil
 | cons n ns ih =>
   intro us r;rw[zAz] at r;cases r with
   | cons r1 r2 =>
     obtain⟨t,e⟩:=r1;subst e;exact .cons n t (ih r2)
section
variable{X:Cx}{e:Expr}{te:TE}{lo hi:Option Expr}{tl th:TO}{pos p2:Pos}
theorem qai1:PO X none qav2:=by
 intro Dy s σ H Q I h;rw[evalPart_none];exact wpAny_pure ⟨none,H,I,.none,h⟩
theorem qai0(h:PE X e te):PO X (some e) (tPart te):=by
 intro Dy s σ H Q I hw;rw[evalPart_some];refine thn (h Dy s σ H _ I hw) λ u s1 ⟨x,H1,I1,r1,q1⟩=>?_
 obtain⟨i,rfl,q⟩:=q1;obtain⟨t,rfl⟩:=r1;exact⟨some i,H1,I1,.int i t,q⟩
def SlR(X:Cx)(r:V->Option Int->Option Int->Hp->VK->Prop):Prop :=
 ∀(Dy:List (Addr×Obj))(s:Shared)(σ:St)(H:Hp)(x:V)(v vl vu:Value)(lo hi:Option Int)(sl:Addr)(Q:VK),Inv X Dy σ H s->RelV x v->s.heap.IsSliceOf sl vl vu .none->IsPart vl lo->IsPart vu hi->r x lo hi H Q ->
   ∃ T id,typeLookup (.type T) "__getitem__" = pure (some (.builtin id))/\s.TypeIs v T/\wpAny (model X.prog X.w) X.A (getItem v (.ref sl)) (EP X Dy σ Q) X.xe s
def tSl(r:V->Option Int->Option Int->Hp->VK->Prop)(te:TE)(tl th:TO):TE:=λ σ H Q=>te σ H λ x H1=>tl σ H1 λ l H2=>th σ H2 λ u H3=>r x l u H3 Q
theorem qU2{r:V->Option Int->Option Int->Hp->VK->Prop}(hr:SlR X r)(he:PE X e te)(hl:PO X lo tl)(hu:PO X hi th):PE X (.Subscript e (.Slice lo hi none p2) pos) (tSl r te tl th):=by
 intro Dy s σ H Q I h;refine Subscript_ (thn (he Dy s σ H _ I h) λ v s1 ⟨x,H1,I1,r1,q1⟩=>?_);refine wpAny_Slice (thn (hl Dy s1 σ H1 _ I1 q1) λ vl s2 ⟨l,H2,I2,pl,q2⟩=>thn (hu Dy s2 σ H2 _ I2 q2) λ vu s3 ⟨u,H3,I3,pu,q3⟩=>?_);rw[evalPart_none];refine wpAny_pure ?_;have I4:Inv X Dy σ H3 { s3 with heap:=s3.heap.push { cls:=.type "slice",data:=.fields #[vl,vu,.none] } }:=I3.kept (t':=s3.toks) λ b ob q=>zA2 _ q
 obtain⟨T,id,hT,ht,hg⟩:=hr Dy { s3 with heap:=s3.heap.push { cls:=.type "slice",data:=.fields #[vl,vu,.none] } } σ H3 x v vl vu l u s3.heap.objs.size Q I4 r1 (Heap.IsSliceOf.new ..) pl pu q3;show wpAny (model X.prog X.w) X.A (subscriptTail e (.Slice lo hi none p2) v (.ref s3.heap.objs.size)) (EP X Dy σ Q) X.xe { s3 with heap:=s3.heap.push { cls:=.type "slice",data:=.fields #[vl,vu,.none] } };exact tail_any (ops:=[.ref s3.heap.objs.size,v]) ht hT hg (by with_unfolding_all rfl)
def F4(xs:List V)(lo hi:Option Int):List V:=(xs.drop (HT.sIx xs.length 0 lo)).take (HT.sIx xs.length xs.length hi - HT.sIx xs.length 0 lo)
theorem qQ6(xs:List V)(lo hi:Option Int):(F4 xs lo hi).length<=xs.length:=by
 unfold F4;rw[zBs,List.length_drop];lia
end
def ixN(n:Nat)(i:Int):Option Nat:=if 0<=i then (if i < n then some i.toNat else none) else if -(n:Int)<=i then some (i+n).toNat else none
def atI{α:Type}(xs:List α)(i:Int):Option α:=(ixN xs.length i).bind λ j=>xs[j]?
theorem qL8{i:Int}{j:Nat}(h:ixN n i=some j):seqIndex? i n=some j/\j < n/\-(n:Int)<=i/\i < n:=by
 unfold ixN at h;by_cases h0:0<=i
 . rw[if_pos h0] at h
   by_cases h1:i < n
   . rw[if_pos h1] at h
     have e:i.toNat=j:=Option.some.inj h;exact⟨by rw[seqIndex_of h0 h1,e],by lia,by lia,h1⟩
   rw[if_neg h1] at h;cases h
 rw[if_neg h0] at h;by_cases h1:-(n:Int)<=i
 . rw[if_pos h1] at h
   have e:(i+n).toNat=j:=Option.some.inj h;exact⟨by rw[seqIndex_neg (by lia) h1,e],by lia,h1,by lia⟩
 rw[if_neg h1] at h;cases h
theorem qaa1{xs:List α}{i:Int}{v:α}(h:atI xs i=some v):∃ j,seqIndex? i xs.length=some j/\xs[j]? = some v/\j < xs.length/\-(xs.length:Int)<=i/\i < xs.length:=by
 unfold atI at h;cases e:ixN xs.length i with
 | none=>rw[e] at h;cases h
 | some j =>
   rw[e] at h;obtain⟨h1,h2,h3,h4⟩:=qL8 e;exact⟨j,h1,h,h2,h3,h4⟩
theorem qaa0{xs:List α}{j:Nat}{v:α}(h:xs[j]? = some v):atI xs (j:Int)=some v:=by
 have hj:j < xs.length:=(zA7.mp h).1;have e:ixN xs.length (j:Int)=some j:=by
   unfold ixN;rw[if_pos (by lia),if_pos (by lia)];simp
 unfold atI;rw[e];exact h
def qO7(b:Expr):Prop:=∀ o i,subscripted b false o i=operate [o,i] (getItem o i)
def IxR(X:Cx)(r:R2):Prop :=
 ∀(value slice:Expr)(Dy:List (Addr×Obj))(s:Shared)(σ:St)(H:Hp)(x y:V)(v u:Value)(Q:VK),Inv X Dy σ H s->RelV x v->RelV y u->r x y H Q ->
   subscripted slice false v u=operate [v,u] (getItem v u)->wpAny (model X.prog X.w) X.A (subscriptTail value slice v u) (EP X Dy σ Q) X.xe s
def MtR(X:Cx)(id:String)(r:V->List V->Hp->VK->Prop):Prop :=
 ∀(Dy:List (Addr×Obj))(s:Shared)(σ:St)(H:Hp)(x:V)(xs:List V)(v:Value)(us:List Value)(Q:VK),Inv X Dy σ H s->RelV x v->Vals xs us->r x xs H Q ->
   wpAny (model X.prog X.w) X.A (call (.builtin id) (v::us)) (EP X Dy σ Q) X.xe s
section
variable{X:Cx}{a b:Expr}{ta tb:TE}{pos:Pos}
theorem IxR.or{r r':R2}(h:IxR X r)(h':IxR X r'):IxR X (λ x y H Q=>r x y H Q∨r' x y H Q):=by
 intro value slice Dy s σ H x y v u Q I rx ry q hs;rcases q with q | q
 . exact h value slice Dy s σ H x y v u Q I rx ry q hs
 exact h' value slice Dy s σ H x y v u Q I rx ry q hs
theorem Hu{r:R2}(hr:IxR X r)(ha:PE X a ta)(hb:PE X b tb)(hs:qO7 b):PE X (.Subscript a b pos) (tOp r ta tb):=by
 intro Dy s σ H Q I h;exact Subscript_ (binT ha hb I h λ v u s2 x y H2 I2 rx ry q=>hr a b Dy s2 σ H2 x y v u Q I2 rx ry q (hs _ _))
def rIxL(K:PySem.W.Frag):R2:=λ x y H Q=>∃ p xs i v,x=.ref p/\y=.int i/\SqL K H p xs/\atI xs i=some v/\Q v H
def rIxT(K:PySem.W.Frag):R2:=λ x y H Q=>∃ p xs i v,x=.ref p/\y=.int i/\SqT K H p xs/\atI xs i=some v/\Q v H
def rIxS:R2:=λ x y H Q=>∃ z i c,x=.str z/\y=.int i/\z.length<=sizeLine/\atI z.cps.toList i=some c/\Q (.str ⟨#[c]⟩) H
theorem qaB1:IxR X (rIxL X.K):=by
 intro value slice Dy s σ H x y v u Q I rx ry h hs;obtain⟨p,xs,i,z,rfl,rfl,hq,he,q⟩:=h;cases rx;obtain⟨t,rfl⟩:=ry;obtain⟨its,r,pl,hz⟩:=I.list hq;obtain⟨j,h1,h2,h3,h4,h5⟩:=qaa1 he;obtain⟨w,ew,rw'⟩:=r.get h2;have hl:=r.length;have hn:=qI1;have fin:EP X Dy σ Q w s:=⟨z,H,I,rw',q⟩
 by_cases h0:0<=i
 . have hj:i.toNat=j:=by
     rw[seqIndex_of h0 h5] at h1;exact Option.some.inj h1
   exact item_listR pl.isList h0 (by lia) (by rw[hj];simpa using ew) fin hs
 have hj:(i+(its.toArray.size:Int)).toNat=j:=by
   rw[seqIndex_neg (by lia) h4] at h1;rw[zA3,<- hl];exact Option.some.inj h1
 exact subscriptTail_builtinR (x:=w) pl.isList.typeIs slot_list_getitem.lookup
   (wpAny_getItem_list_neg (Q:=λ r s'=>r=w/\EP X Dy σ Q r s') pl.isList (by lia) (by rw[zA3]<;>lia) (by lia) (by rw[hj];simpa using ew) ⟨rfl,fin⟩) hs
theorem qaK6:IxR X (rIxT X.K):=by
 intro value slice Dy s σ H x y v u Q I rx ry h hs;obtain⟨p,xs,i,z,rfl,rfl,hq,he,q⟩:=h;cases rx;obtain⟨t,rfl⟩:=ry;obtain⟨its,r,pl,hz⟩:=I.tuple hq;obtain⟨j,h1,h2,h3,h4,h5⟩:=qaa1 he;obtain⟨w,ew,rw'⟩:=r.get h2;have hl:=r.length;have hn:=qI1;have fin:EP X Dy σ Q w s:=⟨z,H,I,rw',q⟩
 exact subscriptTail_builtinR (x:=w) pl.typeIs slot_tuple_getitem.lookup
   (getItem_tuple (j:=j) (Q:=λ r s'=>r=w/\EP X Dy σ Q r s') pl (by lia) (by lia) (by rw[zA3,<- hl];exact h1) (by simpa using ew) ⟨rfl,fin⟩) hs
theorem qaK7:IxR X rIxS:=by
 intro value slice Dy s σ H x y v u Q I rx ry h hs;obtain⟨z,i,c,rfl,rfl,hz,he,q⟩:=h;obtain⟨t,rfl⟩:=rx;obtain⟨t',rfl⟩:=ry;obtain⟨j,h1,h2,h3,h4,h5⟩:=qaa1 he;have hl:z.cps.toList.length=z.length:=by simp[Str.length]
 rw[hl] at h1 h4 h5;have hn:=qI1;exact tail_any (typeIs_str s z t) slot_str_getitem.lookup (getItem_str (c:=c) (by
   have e1:decide (i < -(2 ^ 63:Int))=false:=zAp (by lia);have e2:decide (i ≥ 2 ^ 63)=false:=zAp (by lia);rw[e1,e2,Bool.or_false]) (by rw[h1];simpa using h2) ⟨.str ⟨#[c]⟩,H,I.tok _,⟨_,rfl⟩,q⟩) hs
def rIx(K:PySem.W.Frag):R2:=λ x y H Q=>rIxL K x y H Q∨rIxT K x y H Q∨rIxS x y H Q
theorem qb4:IxR X (rIx X.K):=qaB1.or (qaK6.or qaK7)
theorem qW1(its:List Value)(n j:Nat)(u:Value):Obj.mapSeq (·.setIfInBounds j u) { cls:=.type "list",data:=.seq its.toArray n }={ cls:=.type "list",data:=.seq (its.set j u).toArray n }:=by
 simp[Obj.mapSeq]
theorem Inv.lst{Dy:List (Addr×Obj)}{σ:St}{H:Hp}{s:Shared}{p:Addr}{xs:List V}(I:Inv X Dy σ H s)(h:H p=some (.lst xs)) :
   ∃(its:List Value)(n:Nat),Vals xs its/\s.heap.get? p=some { cls:=.type "list",data:=.seq its.toArray n }/\xs.length<=sizeLine:=by
 obtain⟨z,its,n,r,e⟩:=I.hok p _ h;exact⟨its,n,r,e,z⟩
theorem Inv.lstUpd{Dy:List (Addr×Obj)}{σ:St}{H:Hp}{s:Shared}{p:Addr}{xs ys:List V}{its':List Value}{n':Nat}{f:Obj->Obj}(I:Inv X Dy σ H s)(h:H p=some (.lst xs))(ho:s.heap.get? p=some { cls:=.type "list",data:=.seq its.toArray n })(hf:f { cls:=.type "list",data:=.seq its.toArray n }={ cls:=.type "list",data:=.seq its'.toArray n' })(r:Vals ys its')(hz:ys.length<=sizeLine)(t:Nat) :
   Inv X Dy σ (upd H p (.lst ys)) { s with heap:=s.heap.update p f,toks:=t }:=by
 have e:(s.heap.update p f).get? p=some { cls:=.type "list",data:=.seq its'.toArray n' }:=by
   rw[zBj f ho (by rw[hf]<;>rfl),hf]
 refine I.write (x:=p) (e:=p) (by rw[h];trivial) (.inl rfl) (λ b u hb q=>(zB8 _ _ (Ne.symm hb)).trans q) ⟨_,e⟩ ?_;exact⟨hz,its',n',r,e⟩
def rSetL:V->V->V->Hp->(Hp->Prop)->Prop:=λ o i v H Q=>∃ p xs k j,o=.ref p/\i=.int k/\H p=some (.lst xs)/\ixN xs.length k=some j/\Q (upd H p (.lst (xs.set j v)))
theorem qS8:PSet X rSetL:=by
 intro Dy s σ H o i v ov iv u Q I ro ri rv h;obtain⟨p,xs,k,j,rfl,rfl,hp,hj,q⟩:=h;cases ro;obtain⟨t,rfl⟩:=ri;obtain⟨its,n,r,ho,hz⟩:=I.lst hp;obtain⟨h1,h2,h3,h4⟩:=qL8 hj;have hl:=r.length;have hn:=qI1;have I':Inv X Dy σ (upd H p (.lst (xs.set j v))) { s with heap:=s.heap.update p (Obj.mapSeq (·.setIfInBounds j u)) } :=
   I.lstUpd hp ho (qW1 its n j u) (r.set rv j) (by rw[List.length_set];exact hz) s.toks
 by_cases h0:0<=k
 . have hk:k.toNat=j:=by
     rw[seqIndex_of h0 h4] at h1;exact Option.some.inj h1
   exact PySem.W.ki_setAt ho h0 (by lia) (by rw[zA3,<- hl];exact h4) (by rw[hk];exact⟨_,I',q⟩)
 have hk:(k+(its.toArray.size:Int)).toNat=j:=by
   rw[seqIndex_neg (by lia) h3] at h1;rw[zA3,<- hl];exact Option.some.inj h1
 exact PySem.W.ki_setBack ho (by lia) (by rw[zA3,<- hl];exact h3) (by lia) (by rw[hk];exact⟨_,I',q⟩)
theorem qG1(lo hi:Option Int)(n:Nat):(sliceBounds lo hi none n).1=((HT.sIx n 0 lo:Nat):Int)/\(sliceBounds lo hi none n).2.1=((HT.sIx n n hi:Nat):Int)/\(sliceBounds lo hi none n).2.2=1:=by
 refine⟨?_,?_,rfl⟩
 . cases lo with
   | none=>simp[sliceBounds,HT.sIx]
   | some i =>
     simp only[sliceBounds,HT.sIx,Option.getD_none,show (1:Int) > 0 by decide,if_true];by_cases h:i < 0
     . simp only[h,if_true]<;>lia
     simp only[h,if_false]<;>lia
 cases hi with
 | none=>simp[sliceBounds,HT.sIx]
 | some i =>
   simp only[sliceBounds,HT.sIx,Option.getD_none,show (1:Int) > 0 by decide,if_true];by_cases h:i < 0
   . simp only[h,if_true]<;>lia
   simp only[h,if_false]<;>lia
theorem qC0(its:List Value)(lo hi:Option Int):slicePick its.toArray lo hi none=((its.drop (HT.sIx its.length 0 lo)).take (HT.sIx its.length its.length hi - HT.sIx its.length 0 lo)).toArray:=by
 obtain⟨h1,h2,h3⟩:=qG1 lo hi its.toArray.size;unfold slicePick;rw[h1,h2,h3];simp only[sliceRange_one,pick_run,zA3]<;>rfl
def rSlL(K:PySem.W.Frag):V->Option Int->Option Int->Hp->VK->Prop:=λ x lo hi H Q=>∃ a xs,x=.ref a/\SqL K H a xs/\∀ p,H p=none->Q (.ref p) (upd H p (.lst (F4 xs lo hi)))
theorem qag7:SlR X (rSlL X.K):=by
 intro Dy s σ H x v vl vu lo hi sl Q I rx hs pl pu h;obtain⟨a,xs,rfl,hx,q⟩:=h;cases rx;obtain⟨its,r,ht,hz⟩:=I.list hx;have hlen:=r.length;refine⟨"list",_,slot_list_getitem.lookup,ht.isList.typeIs,?_⟩;refine wpAny_getItem_list_slice ht.isList hs pl pu .none (by simp) ?_ (by rw[zA3]<;>lia);rw[qC0,<- hlen];refine⟨.ref s.heap.objs.size,_,I.laid (t':=s.toks) (o:=.lst (F4 xs lo hi)) (λ b ob q=>zA2 _ q) (zA5 _) ?_,rfl,q _ (I.hok.fresh (zA5 _))⟩;exact⟨zAl (qQ6 xs lo hi) hz,_,0,(r.drop (HT.sIx xs.length 0 lo)).take (HT.sIx xs.length xs.length hi - HT.sIx xs.length 0 lo),zAw _ rfl⟩
def flatV:V->Bool
 | .non=>true
 | .bl _=>true
 | .int _=>true
 | .str _=>true
 | _=>false
def eqV:V->V->Bool
 | .non,.non=>true
 | .bl a,.bl b=>a == b
 | .bl a,.int b=>(if a then 1 else 0) == b
 | .int a,.bl b=>a == (if b then 1 else 0)
 | .int a,.int b=>a == b
 | .str a,.str b=>a == b
 | _,_=>false
theorem qaD5{A:Around}{s:Shared}{y:V}{u v:Value}(ry:RelV y u)(rx:RelV x v)(fy:flatV y=true)(fx:flatV x=true):SeqAt.EqAt A s u v (eqV y x):=by
 cases y with
 | non =>
   cases ry;cases x with
   | non=>cases rx;exact SeqAt.EqAt.same _
   | bl b=>cases rx;exact SeqAt.EqAt.none_bool b
   | int b=>obtain⟨t,rfl⟩:=rx;exact SeqAt.EqAt.none_int b t
   | str b=>obtain⟨t,rfl⟩:=rx;exact SeqAt.EqAt.none_str b t
   | _=>exact absurd (show false=true from fx) zAg
 | bl a =>
   cases ry;cases x with
   | non=>cases rx;exact SeqAt.EqAt.bool_none a
   | bl b=>cases rx;exact SeqAt.EqAt.bool_bool a b
   | int b=>obtain⟨t,rfl⟩:=rx;exact SeqAt.EqAt.bool_int a b t
   | str b=>obtain⟨t,rfl⟩:=rx;exact SeqAt.EqAt.bool_str a b t
   | _=>exact absurd (show false=true from fx) zAg
 | int a =>
   obtain⟨t',rfl⟩:=ry;cases x with
   | non=>cases rx;exact SeqAt.EqAt.int_none a t'
   | bl b=>cases rx;exact SeqAt.EqAt.int_bool a t' b
   | int b=>obtain⟨t,rfl⟩:=rx;exact SeqAt.EqAt.int_int a t' b t
   | str b=>obtain⟨t,rfl⟩:=rx;exact SeqAt.EqAt.int_str a t' b t
   | _=>exact absurd (show false=true from fx) zAg
 | str a =>
   obtain⟨t',rfl⟩:=ry;cases x with
   | non=>cases rx;exact SeqAt.EqAt.str_none a t'
   | bl b=>cases rx;exact SeqAt.EqAt.str_bool a t' b
   | int b=>obtain⟨t,rfl⟩:=rx;exact SeqAt.EqAt.str_int a t' b t
   | str b=>obtain⟨t,rfl⟩:=rx;exact SeqAt.EqAt.str_str a t' b t
   | _=>exact absurd (show false=true from fx) zAg
 | _=>exact absurd (show false=true from fy) zAg
def eqU(x:V)(u:Value):Bool:=match u with
 | .none=>eqV .non x
 | .bool b=>eqV (.bl b) x
 | .int i _=>eqV (.int i) x
 | .str z _=>eqV (.str z) x
 | _=>false
theorem qaD4{y:V}{u:Value}(r:RelV y u)(f:flatV y=true):eqU x u=eqV y x:=by
 cases y with
 | non=>cases r;rfl
 | bl b=>cases r;rfl
 | int i=>obtain⟨t,rfl⟩:=r;rfl
 | str z=>obtain⟨t,rfl⟩:=r;rfl
 | _=>exact absurd (show false=true from f) zAg
theorem qE7{x:V}:∀{xs:List V}{us:List Value},Vals xs us->xs.all flatV=true->us.any (eqU x)=xs.any λ y=>eqV y x
 | _,_,.nil,_=>rfl
 | y::xs,u::us,.cons r t,f=>by
   rw[List.all_cons,zAv] at f;rw[List.any_cons,List.any_cons,qaD4 r f.1,qE7 t f.2]
theorem qs7{A:Around}{s:Shared}{x:V}{v:Value}(rx:RelV x v)(fx:flatV x=true):∀{xs:List V}{us:List Value},Vals xs us->xs.all flatV=true->∀ u∈us,SeqAt.EqAt A s u v (eqU x u)
 | _,_,.nil,_=>λ u hu=>by cases hu
 | y::xs,u::us,.cons r t,f=>λ u' hu=>by
   rw[List.all_cons,zAv] at f;rcases zAc.mp hu with rfl | hu
   . rw[qaD4 r f.1];exact qaD5 r rx f.1 fx
   exact qs7 rx fx t f.2 u' hu
def inV(x:V)(xs:List V):Bool:=xs.any λ y=>eqV y x
def rIn(K:PySem.W.Frag)(neg:Bool):R2:=λ x y H Q=>∃ p xs,y=.ref p/\(SqL K H p xs∨SqT K H p xs)/\flatV x=true/\xs.all flatV=true/\Q (.bl (if neg then !inV x xs else inV x xs)) H
theorem qac5:OpR X (compareOp .In) (rIn X.K false):=by
 intro Dy s σ H x y v u Q I rx ry h;obtain⟨p,xs,rfl,hq,fx,fs,q⟩:=h;cases ry;rcases hq with hq | hq
 . obtain⟨its,r,pl,hz⟩:=I.list hq
   refine SeqAt.in_listAt (eqU x) pl.isList (λ w hw=>qs7 rx fx r fs w (by simpa using hw)) ⟨.bl _,H,I,rfl,?_⟩;rw[show its.toArray.any (eqU x)=its.any (eqU x) by simp,qE7 r fs];exact q
 obtain⟨its,r,pl,hz⟩:=I.tuple hq;refine SeqAt.in_tupleAt (eqU x) pl (λ w hw=>qs7 rx fx r fs w (by simpa using hw)) ⟨.bl _,H,I,rfl,?_⟩;rw[show its.toArray.any (eqU x)=its.any (eqU x) by simp,qE7 r fs];exact q
theorem qH2:OpR X (compareOp .NotIn) (rIn X.K true):=by
 intro Dy s σ H x y v u Q I rx ry h;obtain⟨p,xs,rfl,hq,fx,fs,q⟩:=h;cases ry;rcases hq with hq | hq
 . obtain⟨its,r,pl,hz⟩:=I.list hq
   refine SeqAt.notIn_listAt (eqU x) pl.isList (λ w hw=>qs7 rx fx r fs w (by simpa using hw)) ⟨.bl _,H,I,rfl,?_⟩;rw[show its.toArray.any (eqU x)=its.any (eqU x) by simp,qE7 r fs];exact q
 obtain⟨its,r,pl,hz⟩:=I.tuple hq;refine SeqAt.notIn_tupleAt (eqU x) pl (λ w hw=>qs7 rx fx r fs w (by simpa using hw)) ⟨.bl _,H,I,rfl,?_⟩;rw[show its.toArray.any (eqU x)=its.any (eqU x) by simp,qE7 r fs];exact q
theorem qJ5:CallR X (.builtin "len") (λ xs H Q=>∃ p ys,xs=[.ref p]/\(SqL X.K H p ys∨SqT X.K H p ys)/\Q (.int ys.length) H):=by
 intro Dy s σ H xs us Q I r h;obtain⟨p,ys,rfl,hq,q⟩:=h;obtain⟨u,rfl,rx⟩:=Bo r;cases rx;have hn:=qI1;rcases hq with hq | hq
 . obtain⟨its,r',pl,hz⟩:=I.list hq
   have hlen:=r'.length;exact Calls.call_len_list pl.isList (by simp only[zA3]<;>lia) ⟨.int ys.length,H,I.tok _,⟨s.toks+1,by rw[zA3,hlen]⟩,q⟩
 obtain⟨its,r',pl,hz⟩:=I.tuple hq;have hlen:=r'.length;exact len_tuple pl (by simp only[zA3]<;>lia) ⟨.int ys.length,H,I.tok _,⟨s.toks+1,by rw[zA3,hlen]⟩,q⟩
theorem qJ4:CallR X (.builtin "len") (λ xs H Q=>∃ z,xs=[.str z]/\z.length<=sizeLine/\Q (.int z.length) H):=by
 intro Dy s σ H xs us Q I r h;obtain⟨z,rfl,hz,q⟩:=h;obtain⟨u,rfl,t,rfl⟩:=Bo r;have hn:=qI1;exact len_str (by lia) ⟨.int z.length,H,I.tok _,⟨_,rfl⟩,q⟩
theorem CallR.or{f:Value}{r r':List V->Hp->VK->Prop}(h:CallR X f r)(h':CallR X f r'):CallR X f (λ xs H Q=>r xs H Q∨r' xs H Q):=by
 intro Dy s σ H xs us Q I rs q;rcases q with q | q
 . exact h Dy s σ H xs us Q I rs q
 exact h' Dy s σ H xs us Q I rs q
theorem qd9:CallR X (.type "list") (λ xs H Q=>∃ p ys,xs=[.ref p]/\(SqL X.K H p ys∨SqT X.K H p ys)/\∀ l,H l=none->Q (.ref l) (upd H l (.lst ys))):=by
 intro Dy s σ H xs us Q I r h;obtain⟨p,ys,rfl,hq,q⟩:=h;obtain⟨u,rfl,rx⟩:=Bo r;cases rx;have fin:∀(its:List Value),Vals ys its->ys.length<=sizeLine->∀(h':Heap)(c':Nat),(∀ b o',s.heap.get? b=some o'->h'.get? b=some o') ->
     h'.get? s.heap.objs.size=some { cls:=.type "list",dict:=none,data:=.seq its.toArray c',slots:=#[] }->EP X Dy σ Q (.ref s.heap.objs.size) { s with heap:=h' }:=λ its r' hz h' c' kp e =>
   ⟨.ref s.heap.objs.size,_,I.laid (t':=s.toks) kp (zA5 _) (show ObjOk X.prog X.w _ h' _ (.lst ys) from⟨hz,its,c',r',e⟩),rfl,q _ (I.hok.fresh (zA5 _))⟩
 rcases hq with hq | hq
 . obtain⟨its,r',pl,hz⟩:=I.list hq
   have hlen:=r'.length;obtain⟨o,ho,hc,n,hd⟩:=pl.isList;exact call_list_seq p (.inl rfl) ho hc hd (λ h' c' kp e=>fin its r' hz h' c' kp e) (by simp only[zA3]<;>lia)
 obtain⟨its,r',pl,hz⟩:=I.tuple hq;have hlen:=r'.length;obtain⟨o,ho,hc,n,hd⟩:=pl;exact call_list_seq p (.inr rfl) ho hc hd (λ h' c' kp e=>fin its r' hz h' c' kp e) (by simp only[zA3]<;>lia)
theorem qE4:CallR X (.type "tuple") (λ xs H Q=>∃ p ys,xs=[.ref p]/\((SqL X.K H p ys/\∀ l,H l=none->Q (.ref l) (upd H l (.tup ys)))∨(SqT X.K H p ys/\Q (.ref p) H))):=by
 intro Dy s σ H xs us Q I r h;obtain⟨p,ys,rfl,h⟩:=h;obtain⟨u,rfl,rx⟩:=Bo r;cases rx;rcases h with⟨hq,q⟩ | ⟨hq,q⟩
 . obtain⟨its,r',pl,hz⟩:=I.list hq
   have hlen:=r'.length;refine call_tuple_list pl.isList (λ h' kp=>?_) (by simp only[zA3]<;>lia);have I1:Inv X Dy σ H { s with heap:=h' }:=I.kept (t':=s.toks) kp;have I2:Inv X Dy σ (upd H h'.objs.size (.tup ys)) { s with heap:=h'.push { cls:=.type "tuple",data:=.seq its.toArray } } :=
     I1.laid (t':=s.toks) (λ b o e=>zA2 _ e) (zA5 _) (show ObjOk X.prog X.w _ _ _ (.tup ys) from⟨hz,its,r',IsTup.new _ _⟩)
   exact⟨.ref h'.objs.size,_,I2,rfl,q _ (I1.hok.fresh (zA5 _))⟩
 obtain⟨its,r',pl,hz⟩:=I.tuple hq;exact call_tuple_same pl ⟨.ref p,H,I,rfl,q⟩
def tyV(K:PySem.W.Frag)(T:String)(x:V)(H:Hp):Prop:=match x with
 | .str _=>T = "str"
 | .int _=>T = "int"
 | .ref p=>(T = "list" /\ ∃ xs,SqL K H p xs)∨(T = "tuple" /\ ∃ o,K.lookup p=some o/\o.cls=.type "tuple" /\ o.dict=none) ∨
     (T = "dict" /\ ((∃ kvs,H p=some (.dK kvs))∨∃ kvs,H p=some (.dT kvs)))∨(T = "set" /\ ∃ S n,H p=some (.set S n))
 | _=>False
theorem qau8{Dy:List (Addr×Obj)}{σ:St}{H:Hp}{s:Shared}{T:String}{v:Value}(I:Inv X Dy σ H s)(r:RelV x v)(ty:tyV X.K T x H) :
   s.TypeIs v T/\∀ a,v=.ref a->∃ ob,s.heap.get? a=some ob/\ob.dict=none:=by
 cases x with
 | str z =>
   obtain⟨t,rfl⟩:=r;cases (show T = "str" from ty);exact⟨typeIs_str s z t,λ _ e=>nomatch e⟩
 | int i =>
   obtain⟨t,rfl⟩:=r;cases (show T = "int" from ty);exact⟨typeIs_int s i t,λ _ e=>nomatch e⟩
 | ref p =>
   cases r;rcases ty with⟨rfl,xs,hq⟩ | ⟨rfl,o,hk,hc,hd⟩ | ⟨rfl,hk⟩ | ⟨rfl,S,n,hk⟩
   . obtain⟨its,_,pl,_⟩:=I.list hq
     refine⟨pl.isList.typeIs,λ a e=>?_⟩;cases e;obtain⟨o,n,e,c,hd,_⟩:=pl;exact⟨o,e,hd⟩
   . refine⟨⟨o,I.kIn p o hk,hc⟩,λ a e=>?_⟩
     cases e;exact⟨o,I.kIn _ o hk,hd⟩
   . have z:∃ o,s.heap.get? p=some o/\o.ExactDict:=by
       rcases hk with⟨kvs,hk⟩ | ⟨kvs,hk⟩
       . obtain⟨_,_,_,_,o,_,_,e,ex,_⟩:=I.hok p _ hk
         exact⟨o,e,ex⟩
       obtain⟨_,_,_,_,o,_,_,e,ex,_⟩:=I.hok p _ hk;exact⟨o,e,ex⟩
     obtain⟨o,e,ex⟩:=z;refine⟨⟨o,e,ex.1⟩,λ a e2=>?_⟩;cases e2;exact⟨o,e,ex.2.1⟩
   obtain⟨o,_,_,_,e,ex,_⟩:=I.hok p _ hk;refine⟨⟨o,e,ex.1⟩,λ a e2=>?_⟩;cases e2;exact⟨o,e,ex.2.1⟩
 | _=>exact False.elim ty
def tBM0(K:PySem.W.Frag)(T:String)(r:V->List V->Hp->VK->Prop)(to:TE):TE:=λ σ H Q=>to σ H λ x H1=>tyV K T x H1/\r x [] H1 Q
def tBM(K:PySem.W.Frag)(T:String)(r:V->List V->Hp->VK->Prop)(to:TE)(t:TA):TE:=λ σ H Q=>to σ H λ x H1=>tyV K T x H1/\t σ H1 λ xs H2=>r x xs H2 Q
variable{o e:Expr}{es:List Expr}{to:TE}{t:TA}{name:Str}{apos cpos:Pos}{T id:String}{r:V->List V->Hp->VK->Prop}
theorem qaI0(pa:PlainAttrs T)(slot:Slot T name id)(hty:typeOf (.builtin id)=pure (.type "method_descriptor"))(hm:MtR X id r)(ho:PE X o to)(hbase:attributeBase o name X.env (eval o X.env)=eval o X.env:=by rfl)(hline:(apos.endLine == cpos.line)=true:=by rfl):PE X (.Call (.Attribute o name apos) [] [] cpos) (tBM0 X.K T r to):=by
 intro Dy s σ H Q I h;refine wpAny_Call_method0_late hbase hline (thn (ho Dy s σ H _ I h) λ v s1 ⟨x,H1,I1,r1,ty,q1⟩=>?_);obtain⟨h1,h2⟩:=qau8 I1 r1 ty;exact⟨T,id,pa,slot,hty,h1,h2,Calls.callWith_builtin rfl (PySem.evalArgs_none (hm Dy s1 σ H1 x [] v [] Q I1 r1 .nil q1))⟩
theorem pe_bm(pa:PlainAttrs T)(slot:Slot T name id)(hty:typeOf (.builtin id)=pure (.type "method_descriptor"))(hm:MtR X id r)(ho:PE X o to)(ha:PA X (e::es) t)(hbase:attributeBase o name X.env (eval o X.env)=eval o X.env:=by rfl)(hfew:((backTo cpos (starEach (e::es) X.env)).all (λ x=>!x.1)&&(backToKw cpos (keywordEach [] X.env)).all (λ x=>x.1.isSome)
     && decide ((e::es).length+([]:List Keyword).length+(if ([]:List Keyword).isEmpty then 0 else 1) < 30))=true:=by rfl)(hline:(apos.endLine == cpos.line)=true:=by rfl)(hs:starEach (e::es) X.env=(false,eval e X.env)::starEach es X.env:=by rfl)(hplain:(backTo cpos (starEach es X.env)).any (·.1)=false:=by rfl) :
   PE X (.Call (.Attribute o name apos) (e::es) [] cpos) (tBM X.K T r to t):=by
 intro Dy s σ H Q I h;refine wpAny_Call_method_late hbase hfew hline rfl (thn (ho Dy s σ H _ I h) λ v s1 ⟨x,H1,I1,r1,ty,q1⟩=>?_);obtain⟨h1,h2⟩:=qau8 I1 r1 ty;refine⟨T,id,pa,slot,hty,h1,h2,?_⟩;have hA:=ha cpos Dy s1 σ H1 _ I1 q1;rw[hs] at hA ⊢;refine Calls.callWith_builtin (by show (false||(backTo cpos (starEach es X.env)).any (·.1))=false;rw[hplain]<;>rfl) (Calls.evalArgs_plain ?_);exact thn hA λ us s2 ⟨vs,H2,I2,r2,q2⟩=>hm Dy s2 σ H2 x vs v us Q I2 r1 r2 q2
/- xs.append(e),list.index on a module's tuple .. are MtR facts of 06m -/
end
def MtM(X:Cx)(id:String)(r:V->List V->Hp->VK->Prop):Prop :=
 ∀(Dy:List (Addr×Obj))(s:Shared)(σ:St)(H:Hp)(x:V)(xs:List V)(v:Value)(us:List Value)(Q:VK),Inv X Dy σ H s->RelV x v->Vals xs us->r x xs H Q ->
   wpAny (model X.prog X.w) X.A (call (.builtin id) (v::us)) (EP X Dy σ Q) X.xe s
theorem Vals.one(h:Vals [x] us):∃ u,us=[u]/\RelV x u:=by
 cases h with
 | cons r t=>cases t;exact⟨_,rfl,r⟩
theorem Vals.two{y:V}(h:Vals [x,y] us):∃ u v,us=[u,v]/\RelV x u/\RelV y v:=by
 cases h with
 | cons r t =>
   cases t with
   | cons q t=>cases t;exact⟨_,_,rfl,r,q⟩
theorem Vals.zero:∀{us:List Value},Vals [] us->us=[]
 | _,.nil=>rfl
theorem Vals.dropLast{xs:List V}(h:Vals xs us):Vals xs.dropLast us.dropLast:=by
 induction h with
 | nil=>exact .nil
 | cons r t ih =>
   cases t with
   | nil=>exact .nil
   | cons q t'=>exact .cons r ih
theorem Vals.rep{xs:List V}{us:List Value}(h:Vals xs us):∀ k:Nat,Vals (List.replicate k xs).flatten (List.replicate k us).flatten
 | 0=>.nil
 | k+1=>by
   rw[zBg,zBg,zBu,zBu];exact Vals.append h (Vals.rep h k)
theorem qY7(l:List α):l.eraseIdx (l.length - 1)=l.dropLast:=by
 induction l with
 | nil=>rfl
 | cons a r ih =>
   cases r with
   | nil=>rfl
   | cons b r =>
     have e:(a::b::r).length - 1=((b::r).length - 1)+1:=by
       have h1:(a::b::r).length=r.length+2:=rfl;have h2:(b::r).length=r.length+1:=rfl;lia
     rw[e,List.eraseIdx_cons_succ,ih]
     all_goals rfl
theorem qM8(its:List Value):∀(k:Nat)(acc:List Value),
   List.foldl (λ x1 x2=>x1++x2) acc.toArray (List.replicate k its.toArray)=(acc++(List.replicate k its).flatten).toArray
 | 0,acc=>by simp
 | k+1,acc=>by
   have e:acc.toArray++its.toArray=(acc++its).toArray:=by simp
   have e2:(acc++its)++(List.replicate k its).flatten=acc++(List.replicate (k+1) its).flatten:=by
     rw[zBg,zBu,zBd]
   rw[<- e2,<- qM8 its k (acc++its),<- e,zBg,List.foldl_cons]
section
variable{X:Cx}{Dy:List (Addr×Obj)}{σ:St}{H:Hp}{s:Shared}{l:Addr}{xs ys:List V}
theorem Inv.lset{its':List Value}{f:Array Value->Array Value}{t':Nat}(I:Inv X Dy σ H s)(hH:H l=some (.lst xs))(e:s.heap.get? l=some { cls:=.type "list",data:=.seq its.toArray n })(hf:f its.toArray=its'.toArray)(hv:Vals ys its')(hz:ys.length<=sizeLine) :
   Inv X Dy σ (upd H l (.lst ys)) { s with heap:=s.heap.update l (Obj.mapSeq f),toks:=t' }:=by
 have q:=PySem.IsL.update e f;rw[hf] at q;refine I.write (x:=l) (e:=l) (by rw[hH];exact trivial) (.inl rfl) (λ b' u hb hu=>(zB8 s.heap (Obj.mapSeq f) (Ne.symm hb)).trans hu) ⟨_,q⟩ ?_;exact⟨hz,its',_,hv,q⟩
theorem Inv.lnew{t':Nat}(I:Inv X Dy σ H s)(hv:Vals ys its)(hz:ys.length<=sizeLine) :
   Inv X Dy σ (upd H s.heap.objs.size (.lst ys)) { s with heap:=s.heap.push { cls:=.type "list",data:=.seq its.toArray },toks:=t' } :=
 I.laid (λ _ _ q=>zA2 _ q) (zA5 _) ⟨hz,its,0,hv,zAw _ rfl⟩
theorem Inv.fresh(I:Inv X Dy σ H s):H s.heap.objs.size=none:=I.hok.fresh (zA5 _)
theorem Inv.lstM(I:Inv X Dy σ H s)(hH:H l=some (.lst xs)):xs.length<=sizeLine/\∃(its:List Value)(n:Nat),Vals xs its/\xs.length=its.length/\s.heap.get? l=some { cls:=.type "list",data:=.seq its.toArray n }:=by
 obtain⟨z,its,n,r,e⟩:=I.hok l _ hH;exact⟨z,its,n,r,r.length,e⟩
theorem qap5(h:n<=sizeLine):Builtin.List.listTooLong n=false:=by
 unfold Builtin.List.listTooLong;exact zAp (by lia)
end
section
variable{X:Cx}
def qah5:V->List V->Hp->VK->Prop:=λ x vs H Q=>∃ l xs y,x=.ref l/\vs=[y]/\H l=some (.lst xs)/\xs.length < sizeLine/\Q .non (upd H l (.lst (xs++[y])))
theorem ql6:MtM X "list.append" qah5:=by
 intro Dy s σ H x vs v us Q I rx rv h;obtain⟨l,xs,y,rfl,rfl,hH,hz,q⟩:=h;cases rx;obtain⟨u,rfl,ru⟩:=rv.one;obtain⟨z,its,n,r,hl,e⟩:=I.lstM hH;refine call_meets F.slot_list_append ⟨_,e,rfl⟩ F.entry_list_append (F.args_list_append_2 _ _) (PySem.list_append l its.toArray n u (by rw[zA3];lia)) ⟨e,?_⟩;refine⟨.non,_,I.lset (its':=its++[u]) hH e (by simp) (r.append (.cons ru .nil)) ?_,rfl,q⟩;rw[zAj,List.length_singleton];lia
def rPop:V->List V->Hp->VK->Prop:=λ x vs H Q=>∃ l xs y,x=.ref l/\vs=[]/\H l=some (.lst xs)/\xs[xs.length - 1]? = some y/\Q y (upd H l (.lst xs.dropLast))
theorem qaJ4:MtM X "list.pop" rPop:=by
 intro Dy s σ H x vs v us Q I rx rv h;obtain⟨l,xs,y,rfl,rfl,hH,hy,q⟩:=h;cases rx;have hus:=rv.zero;subst hus;obtain⟨z,its,n,r,hl,e⟩:=I.lstM hH;obtain⟨u,hu,ru⟩:=r.get hy;have hy':its.toArray[its.toArray.size - 1]? = some u:=by
   show its.toArray[its.length - 1]? = some u;rw[<- Array.getElem?_toList,<- hl];exact hu
 refine call_meets F.slot_list_pop ⟨_,e,rfl⟩ F.entry_list_pop (F.args_list_pop_1 _) (MeetsSeq.list_pop_last l its.toArray n u hy' (by rw[zA3];lia)) ⟨e,?_⟩;refine⟨y,_,I.lset (its':=its.dropLast) hH e ?_ r.dropLast ?_,ru,q⟩
 . show its.toArray.eraseIdxIfInBounds (its.toArray.size - 1)=its.dropLast.toArray
   rw[zA3,List.eraseIdxIfInBounds_toArray,qY7]
 rw[List.length_dropLast];lia
def rCat:R2:=λ x y H Q=>∃ l b xs zs,x=.ref l/\y=.ref b/\H l=some (.lst xs)/\H b=some (.lst zs)/\xs.length+zs.length<=sizeLine/\∀ p,H p=none->Q (.ref p) (upd H p (.lst (xs++zs)))
theorem qaI9:OpR X (binaryOp .Add) rCat:=by
 intro Dy s σ H x y v u Q I rx ry h;obtain⟨l,b,xs,zs,rfl,rfl,hH,hB,hz,q⟩:=h;cases rx;cases ry;obtain⟨z,its,n,r,hl,e⟩:=I.lstM hH;obtain⟨z2,its2,n2,r2,hl2,e2⟩:=I.lstM hB;refine PySem.P.add_list e e2 ?_ (by rw[zA3,zA3];lia);have ea:its.toArray++its2.toArray=(its++its2).toArray:=by simp
 rw[ea];exact⟨.ref _,_,I.lnew (t':=s.toks) (r.append r2) (by rw[zAj];lia),rfl,q _ I.fresh⟩
def rRep:R2:=λ x y H Q=>∃ l k xs,x=.ref l/\y=.int k/\H l=some (.lst xs)/\-(2 ^ 63)<=k/\k < 2 ^ 63/\xs.length * k.toNat<=sizeLine /\
 ∀ p,H p=none->Q (.ref p) (upd H p (.lst (List.replicate k.toNat xs).flatten))
theorem qaA5(xs:List α)(k:Nat):(List.replicate k xs).flatten.length=k * xs.length:=by
 induction k with
 | zero=>simp
 | succ k ih=>rw[zBg,zBu,zAj,ih,Nat.succ_mul,Nat.add_comm]
theorem qaI3:OpR X (binaryOp .Mult) rRep:=by
 intro Dy s σ H x y v u Q I rx ry h;obtain⟨l,k,xs,rfl,rfl,hH,h1,h2,hz,q⟩:=h;cases rx;obtain⟨t,rfl⟩:=ry;obtain⟨z,its,n,r,hl,e⟩:=I.lstM hH;have hlen:its.toArray.size * k.toNat<=sizeLine:=by rw[zA3,<- hl];exact hz
 have hcap:¬ its.toArray.size * k.toNat > (2 ^ 63 - 1) / 8:=by
   have:(sizeLine:Nat)<=(2 ^ 63 - 1) / 8:=by decide
   lia
 have hfit:¬ (!Builtin.List.listFitsIndex k)=true:=by
   rw[fitsIndex_both h1 h2];exact zAg
 have hlong:¬ Builtin.List.listTooLong (its.toArray.size * k.toNat)=true:=by
   rw[qap5 hlen];exact zAg
 have hnew:List.foldl (λ x1 x2=>x1++x2) #[] (List.replicate (if its.toArray.isEmpty=true then 0 else k.toNat) its.toArray)=(List.replicate k.toNat its).flatten.toArray:=by
   have f0:∀ m:Nat,List.foldl (λ x1 x2=>x1++x2) #[] (List.replicate m its.toArray)=(List.replicate m its).flatten.toArray:=λ m=>by
     have:=qM8 its m []
     rw[zBk] at this;exact this
   rw[f0];cases its with
   | nil=>simp
   | cons a r'=>rw[if_neg (by simp)]
 refine wpAny_binaryOp_repeat_ref (T := "list") (U := "int") (by decide) ⟨_,e,rfl⟩ (λ s'=>typeIs_int s' k t) noFill_list_mul F.fills_int_mul F.slot_int_rmul repeat_list F.slot_int_index.lookup
   (call_meets F.slot_int_rmul (typeIs_int s k t) F.entry_int_rmul (F.args_int_rmul_2 _ _) (int___rmul___int_list k t l its.toArray n)
     ⟨e,rfl,⟨_,e,rfl⟩,call_meets F.slot_list_mul ⟨_,e,rfl⟩ F.entry_list_mul (F.args_list_mul_2 _ _) (AutoListH.list___mul___list_int_3 l its.toArray n k t hfit hcap hlong) ⟨e,?_⟩⟩)
 rw[hnew];exact⟨.ref _,_,I.lnew (t':=s.toks) (r.rep k.toNat) (by rw[qaA5,Nat.mul_comm];exact hz),rfl,q _ I.fresh⟩
end
section
variable{κ:Type}[DecidableEq κ]
def Ew(kvs:List (κ×V))(k:κ):Option V:=(kvs.find? λ kv=>decide (kv.1=k)).map (·.2)
def putK(kvs:List (κ×V))(k:κ)(v:V):List (κ×V) :=
 if (kvs.any λ kv=>decide (kv.1=k))=true then kvs.map (λ kv=>if kv.1=k then (kv.1,v) else kv) else kvs++[(k,v)]
theorem qF1{p:κ×V}{r:List (κ×V)}{k:κ}(e:p.1=k):Ew (p::r) k=some p.2:=by simp[Ew,zBq,e]
theorem qF2{p:κ×V}{r:List (κ×V)}{k:κ}(e:¬ p.1=k):Ew (p::r) k=Ew r k:=by simp[Ew,zBq,e]
theorem qQ4(kvs:List (κ×V))(k:κ)(v:V):(putK kvs k v).length<=kvs.length+1:=by
 unfold putK;split
 . rw[zAe];lia
 rw[zAj,zAk,zBz];lia
theorem RelO.getD{o:Option V}{u:Option Value}{d:V}{d':Value}(r:RelO o u)(rd:RelV d d'):RelV (o.getD d) (u.getD d'):=by
 cases o with
 | none=>cases u with
   | none=>exact rd
   | some _=>exact(show False from r).elim
 | some _=>cases u with
   | none=>exact(show False from r).elim
   | some _=>exact r
theorem KV.val{kvs:List (κ×V)}{vs:List (κ×Value)}(r:KV kvs vs)(k:κ):RelO (Ew kvs k) (valueAt vs k):=by
 unfold KV at r
 induction r with
 | nil=>exact True.intro
 | @cons p q ps qs h t ih =>
   obtain⟨h1,h2⟩:=h;by_cases e:p.1=k
   . have e':q.1=k:=h1.symm.trans e
     have b:valueAt (q::qs) k=some q.2:=by simp[valueAt,zBq,e']
     rw[qF1 e,b];exact h2
   have e':¬ q.1=k:=λ z=>e (h1.trans z)
   have b:valueAt (q::qs) k=valueAt qs k:=by simp[valueAt,zBq,e']
   rw[qF2 e,b];exact ih
theorem KV.any{kvs:List (κ×V)}{vs:List (κ×Value)}(r:KV kvs vs)(k:κ):(kvs.any λ kv=>decide (kv.1=k))=vs.any λ kv=>decide (kv.1=k):=by
 unfold KV at r
 induction r with
 | nil=>rfl
 | cons h t ih=>rw[List.any_cons,List.any_cons,ih,h.1]
theorem KV.repl{kvs:List (κ×V)}{vs:List (κ×Value)}(r:KV kvs vs)(k:κ){y:V}{u:Value}(ry:RelV y u) :
   KV (kvs.map λ kv=>if kv.1=k then (kv.1,y) else kv) (vs.map λ kv=>if kv.1=k then (kv.1,u) else kv):=by
 unfold KV at r ⊢
 induction r with
 | nil=>exact .nil
 | @cons p q ps qs h t ih =>
   rw[zAz,zAz];refine .cons ?_ ih;obtain⟨h1,h2⟩:=h;by_cases e:p.1=k
   . rw[if_pos e,if_pos (h1.symm.trans e)];exact⟨h1,ry⟩
   rw[if_neg e,if_neg (λ z=>e (h1.trans z))];exact⟨h1,h2⟩
theorem KV.put{kvs:List (κ×V)}{vs:List (κ×Value)}(r:KV kvs vs)(k:κ){y:V}{u:Value}(ry:RelV y u):KV (putK kvs k y) (stored vs k u):=by
 unfold putK stored;rw[r.any k];by_cases e:(vs.any λ kv=>decide (kv.1=k))=true
 . rw[if_pos e,if_pos e];exact r.repl k ry
 rw[if_neg e,if_neg e];exact Paired.snoc r ⟨rfl,ry⟩
theorem KV.length{kvs:List (κ×V)}{vs:List (κ×Value)}(r:KV kvs vs):kvs.length=vs.length:=Paired.length r
end
theorem Hv{P:Program}{w:World}{k:Key}{u:Value}(r:RelV (kV k) u):(qe7 P w).is k u=true:=by
 cases k with
 | inl i=>obtain⟨t,e⟩:=(show ∃ t,u=Value.int i t from r);subst e;exact qQ2 P w i t
 | inr x=>obtain⟨t,e⟩:=(show ∃ t,u=Value.str x t from r);subst e;exact qQ1 P w x t
theorem qL9{P:Program}{w:World}:∀{ks:List Key}{us:List Value},Vals (ks.map kV) us->ItemsAre (qe7 P w) ks us
 | [],_,r=>by rw[List.map_nil] at r;cases r;exact .nil
 | k::ks,_,r=>by
   rw[zAz] at r;cases r with
   | cons h t=>exact .cons (Hv h) (qL9 t)
abbrev KT(H:Hp):List (List Key×V)->List (List Key×Addr×Value)->Prop:=Paired λ p q=>p.1=q.1/\H q.2.1=some (.tup (p.1.map kV))/\RelV p.2 q.2.2
theorem KT.val{H:Hp}{kvs:List (List Key×V)}{xs:List (List Key×Addr×Value)}(r:KT H kvs xs)(k:List Key):RelO (Ew kvs k) ((atKey xs k).map (·.2)):=by
 induction r with
 | nil=>exact True.intro
 | @cons p q ps qs h t ih =>
   obtain⟨h1,_,h2⟩:=h;by_cases e:p.1=k
   . have e':q.1=k:=h1.symm.trans e
     have b:atKey (q::qs) k=some q.2:=by simp[atKey,zBq,e']
     rw[qF1 e,b];exact h2
   have e':¬ q.1=k:=λ z=>e (h1.trans z)
   have b:atKey (q::qs) k=atKey qs k:=by simp[atKey,zBq,e']
   rw[qF2 e,b];exact ih
section
variable{P:Program}{w:World}{H:Hp}{h:Heap}{a:Addr}
theorem rd_of{u:HO}(ok:HOk P w H h)(e:Rd H a u):ObjOk P w H h a u:=e.ok ok
theorem Hw{kvs:List (Key×V)}(ok:HOk P w H h)(e:Rd H a (.dK kvs)):kvs.length<=sizeLine/\(a == sysModules)=false/\∃ vs,KV kvs vs/\h.DictOf (qe7 P w) a vs :=
 show ObjOk P w H h a (.dK kvs) from rd_of ok e
theorem qaB0{ks:List Key}(ok:HOk P w H h)(e:H a=some (.tup (ks.map kV))):(tupleKind (qe7 P w)).is h ks a:=by
 obtain⟨_,its,r,o,h1,h2,n,h3⟩:=(show ObjOk P w H h a (.tup (ks.map kV)) from ok a _ e)
 exact⟨o,its.toArray,n,h1,h2,h3,by simpa using qL9 r⟩
theorem dt_rd{kvs:List (List Key×V)}(ok:HOk P w H h)(e:Rd H a (.dT kvs)):kvs.length<=sizeLine/\(a == sysModules)=false /\
   ∃ xs,KT H kvs xs/\h.DictOfH (tupleKind (qe7 P w)) a xs:=by
 obtain⟨z,y,xs,r,o,es,ep,h1,h2,h3,h4,h5⟩:=(show ObjOk P w H h a (.dT kvs) from rd_of ok e)
 refine⟨z,y,xs,r,o,es,ep,h1,h2,h3,h4,λ x hx=>?_,h5⟩;have all:∀{l:List (List Key×V)}{m:List (List Key×Addr×Value)},KT H l m->∀ x∈m,(tupleKind (qe7 P w)).is h x.1 x.2.1:=by
   intro l m q
   induction q with
   | nil=>intro x hx;exact nomatch hx
   | @cons p q ps qs hq t ih =>
     intro x hx;rcases zAc.mp hx with e | hx
     . subst e
       exact qaB0 ok (by rw[<- hq.1];exact hq.2.1)
     exact ih x hx
 exact all r x hx
end
def DGet(H:Hp)(a:Addr)(y:V)(r:Option V):Prop :=
 (∃ kvs k,Rd H a (.dK kvs)/\y=kV k/\r=Ew kvs k)∨∃ kvs k b,Rd H a (.dT kvs)/\y=.ref b/\H b=some (.tup (k.map kV))/\r=Ew kvs k
section
variable{X:Cx}{Dy:List (Addr×Obj)}{σ:St}{H:Hp}{s:Shared}
theorem Inv.big(I:Inv X Dy σ H s):sysModules < s.heap.objs.size:=by
 have h:mainGlobals < s.heap.objs.size:=(I.mod.glob.keeps I.bk).lt;exact Nat.lt_trans (by decide) h
end
section
variable{X:Cx}{Dy:List (Addr×Obj)}{σ:St}{H:Hp}{s:Shared}{a:Addr}{kvs:List (Key×V)}{A:Around}{E:Value->Shared->Prop}
theorem d_len{Q:Value->Shared->Prop}(I:Inv X Dy σ H s)(e:Rd H a (.dK kvs))(h:∀ t s',Inv X Dy σ H s'->Q (.int kvs.length t) s'):wpAny (model X.prog X.w) A (call (.builtin "len") [.ref a]) Q E s:=by
 obtain⟨z,hd,vs,rel,dd⟩:=Hw I.hok e;refine call_len_dict hd dd (by rw[<- rel.length];rw[sizeLine_eq] at z;lia) ?_;rw[<- rel.length];exact h _ _ (I.tok _)
end
def qv2(kvs more:List (Key×V)):List (Key×V):=more.foldl (λ acc kv=>putK acc kv.1 kv.2) kvs
theorem qp2:∀(more kvs:List (Key×V)),(qv2 kvs more).length<=kvs.length+more.length
 | [],kvs=>by show kvs.length<=kvs.length+0;lia
 | p::r,kvs=>by
   have h1:=qp2 r (putK kvs p.1 p.2);have h2:=qQ4 kvs p.1 p.2;show (qv2 (putK kvs p.1 p.2) r).length<=_;rw[zAk];lia
structure M2(X:Cx)(o:Expr)(m:Str)(apos:Pos)(e f:Expr)(cpos:Pos):Prop where
 base:attributeBase o m X.env (eval o X.env)=eval o X.env
 few:((backTo cpos (starEach [e,f] X.env)).all (λ x=>!x.1)&&(backToKw cpos (keywordEach [] X.env)).all (λ x=>x.1.isSome)
   && decide (([e,f]:List Expr).length+([]:List Keyword).length+(if ([]:List Keyword).isEmpty then 0 else 1) < 30))=true
 line:(apos.endLine == cpos.line)=true
 trees:backTo cpos (starEach [e,f] X.env)=[(false,eval e X.env),(false,eval f X.env)]
def IsD(H:Hp)(a:Addr):Prop:=(∃ kvs,Rd H a (.dK kvs))∨∃ kvs,Rd H a (.dT kvs)
theorem qaK8{X:Cx}{Dy:List (Addr×Obj)}{σ:St}{H:Hp}{s:Shared}{a:Addr}(I:Inv X Dy σ H s)(d:IsD H a) :
   s.TypeIs (.ref a) "dict" /\ (∀ b,Value.ref a=.ref b->∃ ob,s.heap.get? b=some ob/\ob.dict=none)/\(a == sysModules)=false:=by
 rcases d with⟨kvs,e⟩ | ⟨kvs,e⟩
 . obtain⟨_,hd,vs,_,dd⟩:=Hw I.hok e
   refine⟨dd.typeIs,λ b q=>?_,hd⟩;cases q;obtain⟨ob,_,_,h1,h2,_⟩:=dd;exact⟨ob,h1,h2.2.1⟩
 obtain⟨_,hd,xs,_,dd⟩:=dt_rd I.hok e;refine⟨dd.typeIs,λ b q=>?_,hd⟩;cases q;obtain⟨ob,_,_,h1,h2,_⟩:=dd;exact⟨ob,h1,h2.2.1⟩
section
variable{X:Cx}{Dy:List (Addr×Obj)}{σ:St}{H:Hp}{s:Shared}{a:Addr}{y d:V}{u r:Value}{o:Option V}{A:Around}{E:Value->Shared->Prop}
theorem qaM5{Q:Value->Shared->Prop}(hu:A.units+1 < cLine)(I:Inv X Dy σ H s)(g:DGet H a y o)(ry:RelV y u)(rd:RelV d r)(h:∀ w' s',Inv X Dy σ H s'->RelV (o.getD d) w'->Q w' s') :
   wpAny (model X.prog X.w) A (call (.builtin "dict.get") [.ref a,u,r]) Q E s:=by
 rcases g with⟨kvs,k,e,ey,l⟩ | ⟨kvs,k,b,e,ey,eb,l⟩
 . subst ey
   obtain⟨z,hd,vs,rel,dd⟩:=Hw I.hok e;refine call_meetsIn PySem.F.slot_dict_get dd.typeIs PySem.F.entry_dict_get (PySem.F.args_dict_get_3 _ _ _) (meets_dict_get_default (qe7 X.prog X.w) a (Hv ry) hd r) ⟨_,dd.mapOf,h _ _ (I.tok _) ?_⟩;rw[l];exact(rel.val k).getD rd
 subst ey;cases (show u=Value.ref b from ry);obtain⟨z,hd,xs,rel,dd⟩:=dt_rd I.hok e;refine call_meetsIn PySem.F.slot_dict_get dd.typeIs PySem.F.entry_dict_get (PySem.F.args_dict_get_3 _ _ _) (meetsH_dict_get_default (tupleKind (qe7 X.prog X.w)) a b hd r) ⟨tupleKind_room_in1 hu,k,xs,qaB0 I.hok eb,dd,h _ _ (I.tok _) ?_⟩;rw[l];exact(rel.val k).getD rd
end
def qaF7(td ty tx:TE):TE:=λ σ H Q=>td σ H λ x H1=>∃ a,x=.ref a/\IsD H1 a/\ty σ H1 λ y H2=>tx σ H2 λ z H3=>∃ o,DGet H3 a y o/\Q (o.getD z) H3
section
variable{X:Cx}{o e f:Expr}{apos cpos:Pos}{td ty tx:TE}
theorem qao2(hu:X.A.units+1 < cLine)(ho:PE X o td)(he:PE X e ty)(hf:PE X f tx)(m:M2 X o "get" apos e f cpos):PE X (.Call (.Attribute o "get" apos) [e,f] [] cpos) (qaF7 td ty tx):=by
 intro Dy s σ H Q I h;refine wpAny_Call_method m.base m.few m.line PySem.F.plainAttrs_dict PySem.F.slot_dict_get PySem.F.type_dict_get (thn (ho Dy s σ H _ I h) λ u s1 ⟨x,H1,I1,rx,a,ex,d,q1⟩=>?_);subst ex;obtain rfl:u=Value.ref a:=rx;obtain⟨t1,t2,_⟩:=qaK8 I1 d;refine⟨t1,t2,?_⟩;rw[m.trees];refine Calls.callWith_builtin rfl (Calls.evalArgs_plain (Calls.spliced_cons (thn (he Dy s1 σ H1 _ I1 q1) λ iv s2 ⟨y,H2,I2,ry,q2⟩ =>
   Calls.spliced_cons (thn (hf Dy s2 σ H2 _ I2 q2) λ fv s3 ⟨z,H3,I3,rz,ov,g,q3⟩=>Calls.spliced_nil ?_))))
 exact qaM5 hu I3 g ry rz λ w' s4 I4 rw'=>⟨_,H3,I4,rw',q3⟩
end
end L2
namespace Att
open PySem PySem.W PySem.Calls PyProof.Rows
theorem qv6{P:Params}{h:Heap}:∀(ns:List Int)(vs:List Value),WellAll P h vs (ns.map WData.int)->IntsAre vs ns:=by
 intro ns
 induction ns with
 | nil =>
   intro vs w;rw[List.map_nil] at w;cases w;exact .nil
 | cons n ns ih =>
   intro vs w;rw[zAz] at w;cases w with
   | cons a b =>
     cases a;exact .cons _ _ (ih _ b)
theorem qab4{l:OpenLaw}{n:Nat}(hn:l.most=some n){P:Params}{h:Heap}{args:List WData}{vals:List Value}(hpre:l.row.toRowW.claim.pre args=true)(hwl:WellAll P h vals args) :
   ∃ a vs ns,vals=[Value.ref a]/\args=[WData.list (ns.map WData.int)]/\h.get? a=some { cls:=.type "list",data:=.seq vs.toArray }/\IntsAre vs ns/\ns.length<=n:=by
 have hsh:WShape.hasAll [] args [.list .int]=true:=(pre_splitW hpre).1;have hc:l.pre.holds [] { args:=args }=true:=(pre_splitW hpre).2;obtain⟨d,r,rfl,h1,h2⟩:=hasAllW_cons hsh;obtain rfl:=hasAllW_nil h2;obtain⟨xs,rfl,h3⟩:=hasW_list h1;obtain⟨ns,rfl⟩:=items_int h3;have hlen:ns.length<=n:=by
   unfold OpenLaw.pre at hc;have h4:(WTm.not (.lt (.lit (.int (n:Int))) (.len (.arg 0)))).holds [] { args:=[.list (ns.map .int)] }=true:=by
     have h4:=(holds_andW hc).1;rw[hn] at h4;exact h4
   have h5:=condW_of h4 (w_not (w_lt w_lit (w_len_list (w_arg rfl))));rw[zAe] at h5;refine Nat.le_of_not_lt λ q=>?_
   have q':(n:Int) < ((ns.length:Nat):Int):=by lia
   first
     | (rw[zA8 q'] at h5;exact absurd h5 (by decide))
     | (simp at h5;lia)
 cases hwl with
 | cons w1 w2 =>
   cases w2;cases w1 with
   | list ho hall=>exact⟨_,_,ns,rfl,rfl,ho,qv6 ns _ hall,hlen⟩
theorem qac2(l:OpenLaw)(args:List WData):l.row.toRowW.claim.post args (.bool true) args=true :=
 postW_of (r:=l.row.toRowW) (X:=(true == true))
   (show WShape.has [] (.bool true) .bool=true by first | rfl | decide | simp[WShape.has,WShape.arms,WShape.armsAll])
   (show (WTm.eq .res (.lit (.bool true))).value [] { args:=args,res:=some (.bool true),after:=args }=some (.bool (true == true)) from w_eq_bool (w_res rfl) w_lit) rfl
theorem qQ7{l:OpenLaw}{n:Nat}{q:Program}{loose:List Str}{XP:(Str->Option Value)->Heap->Prop}{YP:World->Heap->Prop}{d:DefRec}(hn:l.most=some n)(hdf:d.params.defaults=[])(call:∀(w:World)(s₀ s₁:Shared)(mg mb:Str->Option Value)(fa:Addr)(o:Obj)(pm cd doc:Value)(a:Addr)(vs:List Value)(ns:List Int),
     Ground q loose [] XP w s₀ mg mb s₁.heap->YP w s₁.heap ->
     s₁.heap.get? fa=some o->o.data=.func (docDef d.name d.params d.body d.scope pm cd doc)->s₁.heap.CodeRec cd d.name->mg d.name=some (.ref fa) ->
     s₁.heap.get? a=some { cls:=.type "list",data:=.seq vs.toArray }->IntsAre vs ns->ns.length<=n->s₁.gens = #[] ->
     codeAny (model l.prog w) callerA (.call (.ref fa) ⟨[.ref a],[]⟩) (λ r s'=>r=.ok (.ret (.bool true))/\OldK s₁.heap s'.heap/\s'.os=s₁.os/\AllBare s'.gens) s₁) :
   WalkO q loose XP YP l.row.toRowW d [] (λ f vs=>PySem.call f vs):=by
 intro w s₀ s₁ mg mb G Y fa o pm cd doc dV kV ho hd hcd hD hmg hg args vals as hpre hlay hrd hwl hlo;obtain rfl:dV=.none:=Dflts.none hD hdf;obtain rfl:kV=.none:=Dflts.noKw hD;obtain⟨a,vs,ns,rfl,rfl,hobj,hints,hlen⟩:=qab4 hn hpre hwl;refine enter_call (codeAny_mono (call w s₀ s₁ mg mb fa o pm cd doc a vs ns G Y ho (fd_plain hd) hcd hmg hobj hints hlen hg) λ r s' hq=>?_);obtain⟨rfl,h2,h3,h4⟩:=hq;exact⟨.inl ⟨.bool true,.bool true,[],rfl,λ _=>rfl,.bool true,qac2 l _,λ _=>⟨List.Pairwise.nil,λ _ hm=>(nomatch hm)⟩⟩,h2,h3,h4⟩
end Att
namespace L2
open PySem PySem.Spec PyProof.Rows
theorem qJ7:∀{vs:List Value}{ns:List Int},IntsAre vs ns->Vals (ns.map V.int) vs
 | _,_,.nil=>.nil
 | _,_,.cons n t h=>.cons ⟨t,rfl⟩ (qJ7 h)
def Only(H:Hp):Prop:=∀ b,H b=none∨∃ o xs,H b=some (.frz o (.lst xs))
theorem qaq5{P:Program}{w:World}{K:PySem.W.Frag}{mg mb:Str->Option Value}{CX:CXT}{k:Nat}{fa a:Addr}{fd:FuncData}{x:Str}{sp:Sp}{s₁:Shared}{vs:List Value}{ns:List Int}(KX:K.In s₁.heap)(hns:s₁.heap.Ns mainGlobals mg)(hb:s₁.heap.Ns builtinsNs mb)(hbb:∀ x:Str,x ≠ "__name__" -> mb x=bootBuiltins x)(hlim:s₁.heap.NoLimit)(hg:s₁.gens = #[])(ha:s₁.heap.get? a=some { cls:=.type "list",data:=.seq vs.toArray })(hi:IntsAre vs ns)(hl:ns.length<=sizeLine)(hr:Room k callerA)(F:∀ base:Heap,K.In base->base.Ns mainGlobals mg->Bi P w K mg base CX k fa fd [x] sp)(hbind:∀(s:Shared)(u:Value),BindsTo s fd ⟨[u],[]⟩ [(x,u)])(hsp:∀ H:Hp,Only H->SqL K H a (ns.map V.int)->sp [.ref a] H (λ v _=>v=.bl true) λ _ _ _=>False)(hCX:∀ H e s',CX [] H s₁ (λ _ _ _=>False) e s'->False) :
   codeAny (model P w) callerA (.call (.ref fa) ⟨[.ref a],[]⟩) (λ r s'=>r=.ok (.ret (.bool true))/\OldK s₁.heap s'.heap/\s'.os=s₁.os/\AllBare s'.gens) s₁:=by
 have rv:=qJ7 hi;have lenV:=hi.length;have core:∀ H:Hp,Only H->SqL K H a (ns.map V.int)->HOk P w H s₁.heap->(∀ b,H b≠none->b=a)->(H a≠none->K.lookup a=none) ->
     codeAny (model P w) callerA (.call (.ref fa) ⟨[.ref a],[]⟩) (λ r s'=>r=.ok (.ret (.bool true))/\OldK s₁.heap s'.heap/\s'.os=s₁.os/\AllBare s'.gens) s₁:=by
   intro H hO hS hok hA hK;have base_of:∀{b:Addr}{o:Obj},s₁.heap.get? b=some o->H b=none->(Fp s₁.heap H).get? b=some o:=λ e n=>qar3 e n
   have noA:∀{b:Addr}{o:Obj}{es:Array DictEntry}{ep:Nat},s₁.heap.get? b=some o->o.data=.dict es ep->H b=none:=λ{b o es ep} e d=>by
     cases q:H b with
     | none=>rfl
     | some u =>
       have e':b=a:=hA b (by rw[q];simp);subst e';rw[ha] at e;cases e;have d':Data.seq vs.toArray _=Data.dict es ep:=d;cases d'
   have nsK:∀{b:Addr}{m:Str->Option Value},s₁.heap.Ns b m->(Fp s₁.heap H).Ns b m:=λ{b m} ⟨o,es,ep,e,d,r⟩=>⟨o,es,ep,base_of e (noA e d),d,r⟩
   have hKb:K.In (Fp s₁.heap H):=λ b o e=>base_of (KX b o e) (by
     cases q:H b with
     | none=>rfl
     | some u =>
       have e':b=a:=hA b (by rw[q];simp);subst e';rw[hK (by rw[q];simp)] at e;cases e)
   have hM:Mod K mg (Fp s₁.heap H):=⟨hKb,nsK hns,⟨mb,nsK hb,hbb⟩,let ⟨mc,h1,h2⟩:=hlim;⟨mc,nsK h1,h2⟩⟩
   have e0:Env0 P w K mg (Fp s₁.heap H) callerA [] s₁ H:=⟨rfl,hM,λ b o e=>qaz4 e,Nat.le_of_eq (qae2 _ _),trivial,λ b hb=>absurd (show b∈([]:List Addr) from hb) (by simp),hok,.of_eq hg⟩
   refine codeAny_mono ((F _ hKb (nsK hns)).run callerA [] s₁ H ⟨[.ref a],[]⟩ [.ref a] [.ref a] _ _ hr e0 (hbind s₁ (.ref a)) (.cons rfl .nil) (hsp H hO hS)) λ r s' h=>?_
   cases r with
   | error e=>exact(hCX H e s' h).elim
   | ok fl =>
     cases fl with
     | next=>exact False.elim h
     | brk=>exact False.elim h
     | cont=>exact False.elim h
     | ret u =>
       obtain⟨v,H',os,bare,un,hok',r',q⟩:=h;have q':v=.bl true:=q;subst q';obtain rfl:u=Value.bool true:=r';refine⟨rfl,OldK.of_keep λ b o e=>?_,os,bare⟩;cases q:H b with
       | none=>exact un.keep b o e q (by intro z;exact absurd (show b∈([]:List Addr) from z) (by simp)) (by simp)
       | some u =>
         rcases hO b with z | ⟨ob,xs,z⟩
         . rw[q] at z;cases z
         have z2:=un.frzs b ob _ z;obtain⟨e1,_⟩:=hok b _ z;obtain⟨e2,_⟩:=hok' b _ z2;rw[e] at e1;cases e1;exact e2
 cases hk:K.lookup a with
 | some o =>
   have e:=KX a o hk;rw[ha] at e;cases e;refine core (λ _=>none) (λ _=>.inl rfl) (.inr ⟨_,vs.toArray,_,hk,rfl,rfl,rfl,by rw[zA3,lenV];exact hl,by simpa using rv⟩) (λ b u z=>by have z':(none:Option HO)=some u:=z;cases z') (λ b z=>absurd rfl z) λ z=>absurd rfl z
 | none =>
   refine core (λ b=>if b=a then some (.frz { cls:=.type "list",data:=.seq vs.toArray } (.lst (ns.map V.int))) else none) (λ b=>?_) (.inl (.inr ⟨{ cls:=.type "list",data:=.seq vs.toArray },if_pos rfl⟩)) (λ b u z=>?_) (λ b z=>?_) λ _=>hk
   . by_cases hb:b=a
     . exact .inr ⟨_,_,if_pos hb⟩
     exact .inl (if_neg hb)
   . by_cases hb:b=a
     . have z':=(if_pos hb).symm.trans z
       cases z';subst hb;exact⟨ha,by rw[zAe];exact hl,vs,_,rv,ha⟩
     have z':=(if_neg hb).symm.trans z;cases z'
   by_cases hb:b=a
   . exact hb
   exact absurd (if_neg hb) z
theorem qau1{l:PySem.W.OpenLaw}{n k:Nat}{q:Program}{loose:List Str}{XP:(Str->Option Value)->Heap->Prop}{YP:World->Heap->Prop}{d:DefRec}{K:Params->PySem.W.Frag}{CX:World->CXT}{sp:World->Sp}{x:Str}(hn:l.most=some n)(hn2:n<=sizeLine)(hdf:d.params.defaults=[])(hr:Room k callerA)(hY:∀(w:World)(h:Heap),YP w h->(K w.params).In h)(F:∀(w:World)(mg:Str->Option Value)(fa:Addr)(h:Heap),(K w.params).In h->h.Ns mainGlobals mg->mg d.name=some (.ref fa) ->
     ∃ fd:FuncData,(∀(s:Shared)(u:Value),BindsTo s fd ⟨[u],[]⟩ [(x,u)]) /\
       ∀ base:Heap,(K w.params).In base->base.Ns mainGlobals mg->Bi l.prog w (K w.params) mg base (CX w) k fa fd [x] (sp w))(hsp:∀(w:World)(H:Hp)(a:Addr)(ns:List Int),ns.length<=n->Only H->SqL (K w.params) H a (ns.map V.int)->sp w [.ref a] H (λ v _=>v=.bl true) λ _ _ _=>False)(hCX:∀(w:World)(H:Hp)(s:Shared)(e:Value)(s':Shared),CX w [] H s (λ _ _ _=>False) e s'->False) :
   PySem.W.WalkO q loose XP YP l.row.toRowW d [] (λ f vs=>PySem.call f vs):=by
 refine Att.qQ7 hn hdf λ w s₀ s₁ mg mb fa o pm cd doc a vs ns G Y ho hd hcd hmg hobj hints hlen hg=>?_
 have KX:=hY w _ Y;obtain⟨fd,hb,hF⟩:=F w mg fa _ KX G.T.g hmg;exact qaq5 KX G.T.g G.T.b G.T.builtins G.T.nolimit hg hobj hints (zAl hlen hn2) hr hF hb (λ H hO hS=>hsp w H a ns hlen hO hS) λ H e s'=>hCX w H s₁ e s'
end L2
/- THE LAST THEOREM (shape;LID,My.* are yours):
  My.Adr: a structure of the addresses that your layer names (classes,functions);My.Txt K t: a structure (Prop) of the equations over K;
  My.txt_mk:{K} {implicit addresses ..} (e1:nsIn K mainGlobals "law" = some (some (.ref f))) (e2:K.lookup f=some ⟨oc,od,.func (fnOf "law" "law" params body scope dV kV doc pm an cdv ct),sl⟩) (e3:codeIn K cdv "law" = true) .. : ∃ t,My.Txt K t
(the tactic k_is has no namespace: write k_is) -/
namespace L2
open PySem PySem.Spec PyProof.Rows
variable{f:Addr}{qual x:Str}{st:Stmt}
def qp3(s:Stmt)(j:Nat):Stmt:=match s with
 | .ClassDef _ _ _ body _ _ _ _ _ _ _=>body.getD j (.Pass ⟨0,0,0,0⟩)
 | _=>.Pass ⟨0,0,0,0⟩
def qf7(s:Stmt):Arguments:=match s with
 | .FunctionDef _ a _ _ _ _ _ _ _ _=>a
 | _=>{ posonlyargs:=[],args:=[],vararg:=none,kwonlyargs:=[],kw_defaults:=[],kwarg:=none,defaults:=[] }
def qd1(s:Stmt):List Stmt:=match s with
 | .FunctionDef _ _ b _ _ _ _ _ _ _=>b
 | _=>[]
def qa3(s:Stmt):Scope:=match s with
 | .FunctionDef _ _ _ _ _ _ sc _ _ _=>sc
 | _=>{ kind:=.function,names:=[],isGenerator:=false,isCoroutine:=false }
abbrev CX0:CXT:=λ _ _ _ _ _ _=>False
abbrev E0:XK:=λ _ _ _=>False
theorem pass0{X:Cx}:qE8 CX0 X E0:=λ _ _ _ _ _ _ _ h=>h.elim
structure Fun(K:PySem.W.Frag)(x qual:Str)(st:Stmt)(f:Addr)(fd:FuncData):Prop where
 ex:∃(oc:Value)(od:Option Addr)(kV doc pm:Value)(an:Option Addr)(cdv ct:Value)(osl:Array (Option Value)),
   fd=PySem.W.fnOf x qual (qf7 st) (qd1 st) (qa3 st) .none kV doc pm an cdv ct/\K.lookup f=some ⟨oc,od,.func fd,osl⟩/\PySem.W.codeIn K cdv qual=true
 kp:PySem.W.keepIn K (.ref f)=true
section
variable{P:Program}{w:World}{K:PySem.W.Frag}{mg:Str->Option Value}{base:Heap}
theorem Fun.ok{fd:FuncData}{N ps:List Str}{k:Nat}{sp:Sp}(F:Fun K x qual st f fd)(S:qa9 N ps (qa3 st))(len:∀ vs H Q E,sp vs H Q E->vs.length=ps.length)(hbody:∀(cdv:Value)(A:Around)(outer:List Env)(s:Shared)(H:Hp)(vs:List V)(Q:VK)(E:XK),Room k (A.deeper (envOfC qual (qa3 st) s.heap.objs.size f cdv))->sp vs H Q E ->
     ∃ t,PSs (Ef CX0 P w K mg base N qual (qa3 st) f cdv A outer s H E).nox (qd1 st) t/\t { nx:=λ _ H'=>Q .non H',rt:=Q } (start N vs) H):Bi P w K mg base CX0 (k+1) f fd ps sp:=by
 obtain⟨oc,od,kV,doc,pm,an,cdv,ct,osl,rfl,lk,hcd⟩:=F.ex;refine Ht lk hcd S len λ A outer s H vs Q E hr hsp=>?_
 obtain⟨t,h,q⟩:=hbody cdv A outer s H vs Q E hr hsp;exact⟨t,h.nox,q⟩
theorem Fun.binds{fd:FuncData}{ps:List Str}(F:Fun K x qual st f fd)(h:∀(kV doc pm:Value)(an:Option Addr)(cdv ct:Value)(us:List Value),us.length=ps.length->bindArgs (PySem.W.fnOf x qual (qf7 st) (qd1 st) (qa3 st) .none kV doc pm an cdv ct) ⟨us,[]⟩=pure (ps.zip us)):Binds K fd ps []:=by
 obtain⟨oc,od,kV,doc,pm,an,cdv,ct,osl,rfl,lk,hcd⟩:=F.ex;exact .all (h kV doc pm an cdv ct)
theorem qae4{oc:Value}{od an:Option Addr}{osl:Array (Option Value)}{kV doc pm cdv ct:Value}(l:K.lookup f=some ⟨oc,od,.func (PySem.W.fnOf x qual (qf7 st) (qd1 st) (qa3 st) .none kV doc pm an cdv ct),osl⟩)(c:PySem.W.codeIn K cdv qual=true)(k:PySem.W.keepIn K (.ref f)=true):Fun K x qual st f (PySem.W.fnOf x qual (qf7 st) (qd1 st) (qa3 st) .none kV doc pm an cdv ct):=⟨⟨oc,od,kV,doc,pm,an,cdv,ct,osl,rfl,l,c⟩,k⟩
end
theorem hu_of{A:Around}{k:Nat}(hr:Room k A):A.units+1 < cLine:=Nat.lt_of_le_of_lt (Nat.add_le_add_left (by decide:1<=64) _) hr.units
theorem qab3{n:Nat}(h:n<=1000):n < sizeLine:=Nat.lt_of_le_of_lt h (by decide)
section
variable{X:Cx}
theorem pv(i:Nat){pos:Pos}(hN:X.N[i]? = some x:=by rfl)(hv:Vis X.env.scope x:=by first | exact Or.inl rfl | exact Or.inr (Or.inl rfl) | exact Or.inr (Or.inr rfl))(hd:(x == ("__debug__" : Str))=false:=by decide)(hcd:(x == ("__classdict__" : Str))=false:=by decide):PE X (.Name x pos) (Ev i):=qq0 hN hv hd hcd
theorem qag1:CallR X (.builtin "len") (λ xs H Q=>∃ a kvs,xs=[V.ref a]/\H a=some (.dK kvs)/\Q (.int kvs.length) H):=by
 intro Dy s σ H xs us Q I r h;obtain⟨a,kvs,rfl,ha,q⟩:=h;obtain⟨u,rfl,ru⟩:=Bo r;cases ru;exact d_len I (.inl ha) λ t s' I'=>⟨.int kvs.length,H,I',⟨t,rfl⟩,q⟩
end
theorem iteT{A B:Prop}(h:A):if true=true then A else B:=by
 rw[if_pos rfl];exact h
def Same(H H':Hp):Prop:=∀ b o,H b=some o->H' b=some o
theorem Same.trans{H H1 H2:Hp}(a:Same H H1)(b:Same H1 H2):Same H H2:=λ c o h=>b c o (a c o h)
end L2
set_option maxHeartbeats 4000000
namespace L2
open PySem PySem.Spec PyProof.Rows
variable{H:Hp}{a:Addr}{e:Expr}{es:List Expr}{i:Int}{p:Pos}{t:TA}{x:Str}{xs:List V}{α:Type}
theorem He{t:Sem α}{Q Q':α->Shared->Prop}{M:Model}{A:Around}{E:Value->Shared->Prop}{s:Shared}(h:wpAny M A t Q (λ _ _=>False) s)(hQ:∀ a s,Q a s->Q' a s):wpAny M A t Q' E s :=
 wpAny_mono h hQ λ _ _ x=>x.elim
def Ex(env:Env):List (Str×NameKind)->List (Str×Addr)->List (Str×Addr)
 | [],acc=>acc
 | (n,k)::r,acc=>Ex env r (if k == NameKind.free then (n,(env.cells.lookup n).getD 0)::acc else acc)
theorem qt4{env:Env}:∀(l:List (Str×NameKind))(acc:List (Str×Addr)),(∀ x∈l,x.2=NameKind.free->∃ c,env.cells.lookup x.1=some c) ->
   (forIn l acc λ(x:Str×NameKind)(r:List (Str×Addr)) =>
     (match x with
     | (name,kind)=>if (kind == NameKind.free)=true then (do let c <- cellOf env name;pure (ForInStep.yield ((name,c)::r)):Sem (ForInStep (List (Str×Addr)))) else pure (ForInStep.yield r)))=(pure (Ex env l acc):Sem _)
 | [],acc,_=>rfl
 | (n,k)::r,acc,h=>by
   rw[List.forIn_cons];by_cases hk:(k == NameKind.free)=true
   . obtain⟨c,hc⟩:=h (n,k) zAd (by simpa using hk)
     have hc:env.cells.lookup n=some c:=hc;dsimp only;rw[if_pos hk];have e:cellOf env n=pure c:=by unfold cellOf;rw[hc]
     rw[e];show (forIn r ((n,c)::acc) _:Sem _)=_;rw[qt4 r ((n,c)::acc) λ x hx=>h x (zA4 _ hx)];show _=(pure (Ex env r (if (k == NameKind.free)=true then (n,(env.cells.lookup n).getD 0)::acc else acc)):Sem _)
     rw[if_pos hk,hc];rfl
   dsimp only;rw[if_neg hk];show (forIn r acc _:Sem _)=_;rw[qt4 r acc λ x hx=>h x (zA4 _ hx)];show _=(pure (Ex env r (if (k == NameKind.free)=true then (n,(env.cells.lookup n).getD 0)::acc else acc)):Sem _)
   rw[if_neg hk]
theorem qE3{env:Env}{sc:Scope}(h:∀ x∈sc.names,x.2=NameKind.free->∃ c,env.cells.lookup x.1=some c):closureFor sc env=pure (Ex env sc.names []):=by
 unfold closureFor;show (forIn sc.names [] _ >>= _)=_
 have:=qt4 (env:=env) sc.names [] h
 rw[show (forIn sc.names ([]:List (Str×Addr)) _:Sem _)=pure (Ex env sc.names []) from this];rfl
theorem qZ3{env:Env}:∀(l:List (Str×NameKind))(acc:List (Str×Addr))(x:Str)(c:Addr),(x,c)∈Ex env l acc->(x,c)∈acc∨((x,NameKind.free)∈l/\c=(env.cells.lookup x).getD 0)
 | [],acc,x,c,h=>.inl h
 | (n,k)::r,acc,x,c,h=>by
   rcases qZ3 r _ x c h with h | ⟨h,e⟩
   . by_cases hk:(k == NameKind.free)=true
     . rw[if_pos hk] at h
       rcases zAc.mp h with h | h
       . cases h
         exact .inr ⟨by rw[show k=NameKind.free by simpa using hk];exact zAd,rfl⟩
       exact .inl h
     rw[if_neg hk] at h;exact .inl h
   exact .inr ⟨zA4 _ h,e⟩
theorem qZ4{env:Env}:∀(l:List (Str×NameKind))(acc:List (Str×Addr))(x:Str),(∃ c,(x,c)∈acc)->∃ c,(x,c)∈Ex env l acc
 | [],acc,x,h=>h
 | (n,k)::r,acc,x,⟨c,h⟩=>qZ4 r _ x ⟨c,by split;exact zA4 _ h;exact h⟩
theorem qJ3{env:Env}:∀(l:List (Str×NameKind))(acc:List (Str×Addr))(x:Str),(x,NameKind.free)∈l->∃ c,(x,c)∈Ex env l acc
 | [],acc,x,h=>by simp at h
 | (n,k)::r,acc,x,h=>by
   rcases zAc.mp h with h | h
   . cases h
     exact qZ4 r _ _ ⟨_,by rw[if_pos (by rfl)];exact zAd⟩
   exact qJ3 r _ x h
theorem qs8{α:Type}:∀{l:List (Str×α)}{x:Str},(∃ c,(x,c)∈l)->∃ c,l.lookup x=some c
 | [],x,⟨c,h⟩=>by simp at h
 | (n,a)::r,x,⟨c,h⟩=>by
   cases hx:x == n with
   | true=>exact⟨a,by simp only[zAq,hx]⟩
   | false =>
     rcases zAc.mp h with h | h
     . cases h;simp at hx
     obtain⟨d,hd⟩:=qs8 ⟨c,h⟩;exact⟨d,by simp only[zAq,hx];exact hd⟩
def B9(σ:St)(src:List (Option Nat)):St:=src.map λ o=>match o with | none=>none | some j=>(σ[j]?).getD none
def qv7(X:Cx)(NY:List Str)(src:List (Option Nat))(sc:Scope):Bool :=
 (sc.kind == .function)&&(src.length == NY.length) &&
 (sc.names.all λ x=>x.2 != .cell&&(x.2 != .local||sc.names.lookup x.1 == some .local)&&(x.2 != .free||(X.env.scope.names.lookup x.1 == some .cell||X.env.scope.names.lookup x.1 == some .free))) &&
 ((NY.zip src).all λ p=>match p.2 with | none=>true | some j=>X.N[j]? == some p.1&&sc.names.lookup p.1 == some .free)
def qg3(X:Cx)(NY:List Str)(sc:Scope)(C:Addr)(s0:Shared)(H0:Hp)(ex:List Addr):Cx where
 prog:=X.prog
 w:=X.w
 K:=X.K
 mg:=X.mg
 base:=X.base
 A:=X.A
 N:=NY
 s₀:=s0
 H₀:=H0
 env:=compEnvC sc (Ex X.env sc.names []) C X.env
 outer:=X.stack
 stack:=X.stack
 ex:=ex
 fn:=λ _=>false
 calm:=X.calm
 pn:=[]
 xe:=λ _ _=>False
def PFs(X:Cx)(ifs:List Expr)(t:TT):Prop :=
 ∀(Dy:List (Addr×Obj))(s:Shared)(σ:St)(H:Hp)(Q:Bool->Hp->Prop),Inv X Dy σ H s->t σ H Q ->
   wpAny (model X.prog X.w) X.A (forIn ifs true λ c r=>if r=true then do let ok <- isTrue c X.env (eval c X.env);pure (ForInStep.yield ok) else pure (ForInStep.yield r)) (TP X Dy σ Q) X.xe s
def tYes:TT:=λ _ H Q=>Q true H
theorem qax4{X:Cx}:PFs X [] tYes:=λ _ _ _ H _ I h=>wpAny_tests_nil ⟨H,I,h⟩
theorem qaH3{X:Cx}{c:Expr}{t:TT}(h:PT X c t):PFs X [c] t:=λ Dy s σ H Q I q=>wpAny_tests_one (h Dy s σ H Q I q)
theorem ql1{prog:Program}{w:World}{A:Around}{R:Result->Shared->Prop}{s:Shared}{elt target iter:Expr}{ifs:List Expr}{scope:Scope}{pos:Pos}{it acc:Value}{env:Env}(I:Nat->Shared->Prop)(turn:∀ n s,I n s->wpAny (model prog w) A (pyNext it) (λ r s₁=>match r with
     | none=>R (.ok .next) s₁
     | some v=>wpAny (model prog w) A (letOwnedTupleGo target it v) (λ _ s₁'=>wpAny (model prog w) A (assign target env v) (λ _ s₂ =>
         wpAny (model prog w) A (forIn ifs true λ c r=>if r=true then do let ok <- isTrue c env (eval c env);pure (ForInStep.yield ok) else pure (ForInStep.yield r)) (λ ok s₃ =>
           if ok=true then wpAny (model prog w) A (eval elt env) (λ x s₄ =>
             wpAny (model prog w) A (call (.builtin "list.append") [acc,x]) (λ _ s₅=>∃ m,m < n/\I m s₅) (λ _ _=>False) s₄) (λ _ _=>False) s₃
           else ∃ m,m < n/\I m s₃) (λ _ _=>False) s₂) (λ _ _=>False) s₁') (λ _ _=>False) s₁) (λ _ _=>False) s)(n:Nat)(h:I n s) :
   codeAny (model prog w) A (.compLoop (.ListComp elt [⟨target,iter,ifs,0⟩] scope pos) 0 it acc env) R s:=by
 refine codeAny_loop rfl I (λ n s hI=>?_) n h;show wpAny _ A ((compTurn (.ListComp elt [⟨target,iter,ifs,0⟩] scope pos) 0 it acc env).onRaise (λ x=>do noteFrame x env;theTreesLotGoes x)) _ _ s;refine wpAny_noted ?_;rw[compTurn_list];refine wpAny_bind (wpAny_standAt (wpAny_bind (He (turn n s hI) λ r s₁ h₁=>?_)));cases r with
 | none=>exact wpAny_pure h₁
 | some v =>
   refine wpAny_bind (He h₁ λ _ s₁' h₁'=>?_);refine wpAny_bind (He h₁' λ _ s₂ h₂=>wpAny_bind (He h₂ λ ok s₃ h₃=>?_));cases ok with
   | false=>exact wpAny_pure ⟨rfl,h₃⟩
   | true =>
     exact wpAny_bind (wpAny_bind (He h₃ λ x s₄ h₄=>wpAny_bind (He h₄ λ _ s₅ h₅=>wpAny_pure (wpAny_pure ⟨rfl,h₅⟩))))
def qB7(J:It)(g:TG)(tf:TT)(te:TE)(D:Addr)(R:Hp->Prop)(σ0:St)(H0:Hp):Prop :=
 ∃ W:Nat->Nat->St->Hp->Prop,(∃ m,W 0 m σ0 H0)/\∀ i m σ H,W i m σ H ->
   (J.stop i H/\R H)∨(J.go i H/\∃ N:St->Hp->Prop,(∀ σ' H',N σ' H'->∃ m',m' < m/\W (i+1) m' σ' H')/\∀ x H',J.yld i H x H'->g x σ H' λ σ2 H2=>tf σ2 H2 λ ok H3 =>
     if ok=true then te σ2 H3 λ v H4=>∃ xs,H4 D=some (.lst xs)/\xs.length < sizeLine/\N σ2 (upd H4 D (.lst (xs++[v]))) else N σ2 H3)
theorem ql8{env:Env}{x:Str}:∀{names:List (Str×NameKind)},(∀ y∈names,y.2≠.cell) ->
   ((names.map λ (n,k)=>if (k == NameKind.free&&env.scope.kind == .function&&env.kindOf n == some .cell) then (n,NameKind.cell) else (n,k)).lookup x=some .cell ∨
    (names.map λ (n,k)=>if (k == NameKind.free&&env.scope.kind == .function&&env.kindOf n == some .cell) then (n,NameKind.cell) else (n,k)).lookup x=some .free)->names.lookup x=some .free
 | [],_,h=>by simp at h
 | (n,k)::r,hc,h=>by
   have ih:=@ql8 env x r λ y hy=>hc y (zA4 _ hy)
   have hk:k≠.cell:=hc (n,k) zAd;simp only[zAz] at h;cases hx:x == n with
   | true =>
     simp only[zAq,hx];by_cases hq:(k == NameKind.free&&env.scope.kind == .function&&env.kindOf n == some .cell)=true
     . have:k=NameKind.free:=by
         simp only[zAv,zBf] at hq;exact hq.1.1
       rw[this]
     rw[if_neg hq] at h;simp only[zAq,hx] at h;rcases h with h | h
     . exact absurd (Option.some.inj h) hk
     exact h
   | false =>
     simp only[zAq,hx];apply ih;by_cases hq:(k == NameKind.free&&env.scope.kind == .function&&env.kindOf n == some .cell)=true
     . rw[if_pos hq] at h
       simpa only[zAq,hx] using h
     rw[if_neg hq] at h;simpa only[zAq,hx] using h
theorem qf6{env:Env}{x:Str}:∀{names:List (Str×NameKind)},names.lookup x=some .free ->
   ((names.map λ (n,k)=>if (k == NameKind.free&&env.scope.kind == .function&&env.kindOf n == some .cell) then (n,NameKind.cell) else (n,k)).lookup x=some .cell ∨
    (names.map λ (n,k)=>if (k == NameKind.free&&env.scope.kind == .function&&env.kindOf n == some .cell) then (n,NameKind.cell) else (n,k)).lookup x=some .free)
 | [],h=>by simp at h
 | (n,k)::r,h=>by
   have ih:=@qf6 env x r;simp only[zAz];cases hx:x == n with
   | true =>
     simp only[zAq,hx] at h;have h:k=.free:=Option.some.inj h;by_cases hq:(k == NameKind.free&&env.scope.kind == .function&&env.kindOf n == some .cell)=true
     . rw[if_pos hq];simp only[zAq,hx];exact .inl trivial
     rw[if_neg hq];simp only[zAq,hx];rw[h];exact .inr rfl
   | false =>
     simp only[zAq,hx] at h;by_cases hq:(k == NameKind.free&&env.scope.kind == .function&&env.kindOf n == some .cell)=true
     . rw[if_pos hq];simp only[zAq,hx];exact ih h
     rw[if_neg hq];simp only[zAq,hx];exact ih h
section
variable{X:Cx}{Dy:List (Addr×Obj)}{σ:St}{H2:Hp}{s2:Shared}{elt tg iter:Expr}{ifs:List Expr}{sc:Scope}{pos:Pos}{NY:List Str}{src:List (Option Nat)}{J:It}{fp:List Addr}{it:Addr}{tn:Nat->Heap->Prop}{g:TG}{tf:TT}{te:TE}
theorem qN9{R:Addr->Hp->Prop}{E:Value->Shared->Prop}{RR:Value->Addr->Result->Shared->Prop}(ck:qv7 X NY src sc=true)(hc:X.calm=true)(I2:Inv X Dy σ H2 s2)(T:Hq X.prog X.w X.K tg J fp it tn)(st2:tn 0 s2.heap)(f2:∀ b∈fp,Fq X Dy H2 b)(hg:∀ C s0 H0,PG (qg3 X NY sc C s0 H0 fp) tg g)(hf:∀ C s0 H0,PFs (qg3 X NY sc C s0 H0 fp) ifs tf)(he:∀ C s0 H0,PE (qg3 X NY sc C s0 H0 fp) elt te)(rd:∀ D,H2 D=none->qB7 J g tf te D (R D) (B9 σ src) (upd H2 D (.lst [])))(fin:∀ D C H' s',Inv X Dy σ H' s'->R D H'->H' C=none->X.s₀.heap.objs.size<=C->C≠X.env.locals->(∀ x c,X.env.cells.lookup x=some c->c≠C)->(∀ p∈X.pn++Dy,p.1≠C)->C∉X.fs->(∃ m,s'.heap.Ns C m)->RR (.ref D) C (.ok .next) s') :
   wpAny (model X.prog X.w) X.A (newList []) (λ acc s₃=>wpAny (model X.prog X.w) X.A (newFunctionEnv sc X.env.globals (Ex X.env sc.names []) [] X.env.qual none .none (some X.env)) (λ cenv s₄ =>
     codeAny (model X.prog X.w) X.A (.compStart (.ListComp elt [⟨tg,iter,ifs,0⟩] sc pos) 0 (.ref it) acc { cenv with scope:=relabel sc X.env }) (RR acc cenv.locals) s₄) E s₃) E s2:=by
 unfold qv7 at ck;simp only[zAv,zBf,zB1] at ck;obtain⟨⟨⟨hkind,hlen⟩,hnm⟩,hsrc⟩:=ck;have hcell:∀ y∈sc.names,y.2≠.cell:=λ y hy e=>by
   have:=(hnm y hy).1.1
   rw[e] at this;exact absurd this (by decide)
 have hfree:∀ y∈sc.names,y.2=.free->(X.env.kindOf y.1=some .cell∨X.env.kindOf y.1=some .free):=λ y hy e=>by
   have:=(hnm y hy).2
   rw[e] at this;show X.env.scope.names.lookup y.1=some .cell∨X.env.scope.names.lookup y.1=some .free;simpa using this
 have clsub:∀ x c,(Ex X.env sc.names []).lookup x=some c->X.env.cells.lookup x=some c:=λ x c e=>by
   rcases qZ3 _ _ x c (PySem.mem_of_lookup e) with h | ⟨h,q⟩
   . simp at h
   obtain⟨d,hd⟩:=I2.ok.has x (hfree _ h rfl);rw[hd] at q;rw[hd,q];rfl
 refine wpAny_newObj_type (wpAny_newFunctionEnv hcell (by intro y hy;simp at hy) (λ h₁ hns₁ hsb₁=>?_) hkind);dsimp only at hns₁ hsb₁ ⊢;have I3:=I2.lnew (ys:=[]) (its:=[]) (t':=s2.toks) .nil (Nat.zero_le _);have hD:H2 s2.heap.objs.size=none:=I2.fresh;generalize hDn:s2.heap.objs.size=D at hns₁ hsb₁ I3 hD ⊢;generalize hH3:s2.heap.push { cls:=.type "list",dict:=none,data:=.seq ([]:List Value).toArray }=h3 at hns₁ hsb₁ I3 ⊢;have hs3:h3.objs.size=D+1:=by rw[<- hH3,Heap.size_push,hDn]
 generalize hCn:h3.objs.size=C at hns₁ hsb₁ hs3 ⊢;have I3:Inv X Dy σ (upd H2 D (.lst [])) { s2 with heap:=h3,toks:=s2.toks }:=I3;have old:∀ b o,h3.get? b=some o->h₁.get? b=some o:=λ b o e=>hsb₁.extBut b o (by rw[<- hCn];exact zAi (zA6 e)) (zA2 _ e)
 have neC:∀ b o,h3.get? b=some o->b≠C:=λ b o e=>by rw[<- hCn];exact zAi (zA6 e)
 have hLC:X.env.locals≠C:=by rw[<- hCn];exact zAi I3.lt
 have cLC:∀ x c,X.env.cells.lookup x=some c->c≠C:=λ x c e=>by
   obtain⟨v,o,ho,_⟩:=I3.cell x c e;exact neC c o ho
 have fpC:∀ b∈fp,b≠C:=λ b hb=>by
   obtain⟨o,ho,_⟩:=T.obj _ _ st2 b hb
   have:=zA6 ho
   rw[hDn] at this;exact zAi (Nat.lt_trans this (by rw[hs3];exact zBx _))
 have fpD:∀ b∈fp,b≠D:=λ b hb=>by
   obtain⟨o,ho,_⟩:=T.obj _ _ st2 b hb
   have:=zA6 ho
   rw[hDn] at this;exact zAi this
 have k23:∀ b o,s2.heap.get? b=some o->h3.get? b=some o:=λ b o e=>by rw[<- hH3];exact zA2 _ e
 have pinC:∀ p∈X.pn++Dy,p.1≠C:=λ p hp=>neC _ _ (I3.pin p hp).1
 have fsC:C∉X.fs:=by rw[<- hCn];exact I3.nofs (zA5 _)
 have ovC:X.s₀.heap.objs.size<=C:=by rw[<- hCn];exact I3.sz
 have stkC:∀ b∈frs X.stack,b≠C:=λ b hb e=>by
   rcases zAc.mp (I3.stkSub b hb) with z | z
   . exact hLC (z.symm.trans e)
   exact fsC (e ▸ z)
 have HC:upd H2 D (.lst []) C=none:=I3.hok.fresh (by show h3.objs.size<=C;exact Nat.le_of_eq hCn);have fpO:∀ b∈fp,b∉frs X.stack:=λ b hb z=>by
   obtain⟨_,h1,h2,_⟩:=f2 b hb;rcases zAc.mp (I2.stkSub b z) with q | q
   . exact h1 q
   exact h2 q
 let Y:Cx:=qg3 X NY sc C { s2 with heap:=h3 } (upd H2 D (.lst [])) fp
 have sc0:(B9 σ src).length=NY.length:=by unfold B9;rw[zAe];exact hlen
 have IY:Inv Y [] (B9 σ src) (upd H2 D (.lst [])) { s2 with heap:=h₁,toks:=s2.toks+0 }:=by
   refine⟨⟨I2.ok.mod,hkind,I2.ok.glob,I2.ok.blt,(by show h3.objs.size<=C;exact Nat.le_of_eq hCn),λ x y c h1 h2=>I2.ok.inj x y c (clsub x c h1) (clsub y c h2),λ x hx=>?_,λ _ _ z _=>(zAg z).elim,I2.ok.hd,I2.ok.frames,.inl rfl,λ b hb=>⟨fpC b hb,λ x c e=>(f2 b hb).2.2.2.2.1 x c (clsub x c e)⟩,
     λ b o e=>?_,?_,λ b o e hb=>?_,λ b hb=>fpO b hb,?_,λ b hb=>?_⟩,rfl,I2.bare,Un.kept old,⟨_,hns₁,λ i x v e1 e2 e3=>?_⟩,λ x c e=>?_,HC,λ x c e=>I3.freeC x c (clsub x c e),λ p hp=>absurd (show p∈([]:List (Addr×Obj)) from hp) (by simp),I3.hok.kept old,sc0⟩
   . have hx:=ql8 hcell hx
     exact qs8 (qJ3 _ _ _ (PySem.mem_of_lookup hx))
   . exact I3.bs b o e
   . exact zAl I2.ok.bsz (zAl (zAl I2.sz (by rw[hDn];exact zA5 _)) (by show D<=h3.objs.size;lia))
   . rcases (f2 b hb).2.2.2.1 with z | z
     . exact I2.ok.noex b o e z
     exact absurd (zAa (zA6 (I2.ok.bs b o e).1) z) (Nat.lt_irrefl _)
   . exact I3.stack
   . exact I3.stkFree b hb
   . -- a captured name
     have hi:i < src.length:=by
       have:=(zA7.mp e2).1
       rw[sc0,<- hlen] at this;exact this
     have e1:NY[i]? = some x:=e1;have es:src[i]? = some src[i]:=by simp[hi]
     have ep:(B9 σ src)[i]? = some (match src[i] with | none=>none | some j=>(σ[j]?).getD none):=by
       unfold B9;rw[zAx,es];rfl
     rw[ep] at e2;cases hj:src[i] with
     | none=>rw[hj] at e2;cases e2
     | some j =>
       rw[hj] at e2;have e2:(σ[j]?).getD none=some v:=Option.some.inj e2;have ej:σ[j]? = some (some v):=by
         cases q:σ[j]? with
         | none=>rw[q] at e2;cases e2
         | some o=>rw[q] at e2;rw[show o=some v from e2]
       have hm:(x,some j)∈NY.zip src:=by
         have:(NY.zip src)[i]? = some (x,some j):=by
           rw[List.getElem?_zip_eq_some];exact⟨e1,by rw[es,hj]⟩
         exact zBb this
       have q:=hsrc _ hm;simp only[zAv,zBf] at q;obtain⟨qN,qf⟩:=q;have qk:=hfree _ (PySem.mem_of_lookup qf) rfl;obtain⟨m,hn,hl⟩:=I3.loc;obtain⟨u,r,l⟩:=hl j x v qN ej (qk.elim (λ z=>.inr (.inl z)) λ z=>.inr (.inr z));refine⟨u,r,.inr ⟨qf6 qf,?_⟩⟩;rcases l with⟨z,_⟩ | ⟨_,c,ec,o,ho,hd⟩
       . have qk:X.env.kindOf x=some .cell∨X.env.kindOf x=some .free:=qk
         rw[z] at qk;rcases qk with qk | qk<;>cases qk
       obtain⟨c',ec'⟩:=qs8 (qJ3 (env:=X.env) sc.names [] x (PySem.mem_of_lookup qf))
       have:=clsub x c' ec'
       rw[ec] at this;cases this;exact⟨c,ec',o,old c o ho,hd⟩
   obtain⟨v,o,ho,hd⟩:=I3.cell x c (clsub x c e);exact⟨v,o,old c o ho,hd⟩
 have st₁:tn 0 h₁:=T.keep _ _ _ st2 λ b hb o e=>old b o (k23 b o e)
 have stat:∀{H':Hp},(∀ b∈fp,H' b=none)->∀ b∈fp,Fq Y [] H' b:=λ hn b hb=>by
   refine⟨hn b hb,fpC b hb,fpO b hb,.inl hb,λ x c e=>(f2 b hb).2.2.2.2.1 x c (clsub x c e),λ p hp=>absurd (show p∈([]:List (Addr×Obj)) from hp) (by simp)⟩
 have loop:codeAny (model X.prog X.w) X.A (.compLoop (.ListComp elt [⟨tg,iter,ifs,0⟩] sc pos) 0 (.ref it) (.ref D) Y.env) (RR (.ref D) C) { s2 with heap:=h₁,toks:=s2.toks+0 }:=by
   obtain⟨W,⟨m0,w0⟩,turn⟩:=rd D hD;refine ql1 (λ n s'=>∃ i σ' H',Inv Y [] σ' H' s'/\tn i s'.heap/\(∀ b∈fp,H' b=none)/\W i n σ' H') ?_ m0 ⟨0,_,_,IY,st₁,λ b hb=>by rw[qb3 (fpD b hb)];exact(f2 b hb).1,w0⟩;rintro n s3 ⟨i,σ3,H3,J3,st3,fr3,w3⟩;rcases turn i n σ3 H3 w3 with⟨stop,qn⟩ | ⟨go,N,hN,step⟩
   . refine thn (T.done Y rfl rfl rfl hc i [] s3 σ3 H3 _ J3 (stat fr3) st3 stop) λ r s4 ⟨hr,J4⟩=>?_
     subst hr;have hcx:H3 C=none:=J4.free;refine fin D C H3 s4 ?_ qn hcx ovC (Ne.symm hLC) cLC pinC fsC (let ⟨m,hn,_⟩:=J4.loc;⟨m,hn⟩);refine I2.call' (ch:=fp) J4.os ?_ J4.hok J4.bare λ b hb=>?_
     . have u1:Un (frs X.stack) fp H2 (upd H2 D (.lst [])) s2.heap h3:=Un.laid k23 (Nat.le_of_eq hDn) hD
       exact u1.trans J4.base
     obtain⟨_,h1,_,h3',h4,h5⟩:=f2 b hb;exact⟨h3',h1,h4,h5⟩
   refine thn (T.item Y rfl rfl rfl hc i [] s3 σ3 H3 _ J3 (stat fr3) st3 go) λ r s4 ⟨u,hr,h4⟩=>?_
   subst hr;refine thn h4 λ _ s5 ⟨x,H5,J5,r5,y5,st5,fr5⟩=>?_
   have J5':=J5.pinned (stat fr5) (T.obj _ _ st5);have again:∀{σ7:St}{H7:Hp}{s7:Shared},Inv Y ([]++qU0 fp s5.heap) σ7 H7 s7->N σ7 H7->∃ m,m < n/\∃ i σ' H',Inv Y [] σ' H' s7/\tn i s7.heap/\(∀ b∈fp,H' b=none)/\W i m σ' H':=λ{σ7 H7 s7} I7 n7=>by
     obtain⟨m',hm,w7⟩:=hN σ7 H7 n7;refine⟨m',hm,i+1,σ7,H7,I7.unpinned,T.keep _ _ _ st5 λ b hb o e=>(I7.pin (b,o) (zAs _ (zAs _ (ql7 hb e)))).1,λ b hb=>?_,w7⟩;obtain⟨o,e,d⟩:=T.obj _ _ st5 b hb;exact(I7.pin (b,o) (zAs _ (zAs _ (ql7 hb e)))).2.1
   refine thn (hg C _ _ _ s5 σ3 H5 x u _ J5' r5 (step x H5 y5)) λ _ s6 ⟨σ6,H6,J6,q6⟩=>?_
   refine thn (hf C _ _ _ s6 σ6 H6 _ J6 q6) λ ok s7 ⟨H7,J7,q7⟩=>?_
   cases ok with
   | false=>exact again J7 (by simpa using q7)
   | true =>
     rw[if_pos rfl] at q7 ⊢;refine thn (he C _ _ _ s7 σ6 H7 _ J7 q7) λ y s8 ⟨v,H8,J8,r8,xs,hx8,hz8,q8⟩=>?_
     refine thn (ql6 (X:=Y) _ s8 σ6 H8 (.ref D) [v] (.ref D) [y] (λ _ H'=>N σ6 H') J8 rfl (.cons r8 .nil) ⟨D,xs,v,rfl,rfl,hx8,hz8,q8⟩) λ _ s9 ⟨_,H9,J9,_,q9⟩=>?_
     exact again J9 q9
 exact codeAny_compStart_list loop (T.self _ 0 _ _ _ st₁ loop)
end
def F5(wi:TI)(src:List (Option Nat))(g:TG)(tf:TT)(te:TE):TE:=λ σ H Q=>wi σ H λ J H1=>∀ D,H1 D=none->qB7 J g tf te D (λ H'=>Q (.ref D) H') (B9 σ src) (upd H1 D (.lst []))
section
variable{X:Cx}{elt tg iter:Expr}{ifs:List Expr}{sc:Scope}{pos:Pos}{NY:List Str}{src:List (Option Nat)}{wi:TI}{g:TG}{tf:TT}{te:TE}
theorem qE2(ck:qv7 X NY src sc=true):sc.kind=.function/\(∀ y∈sc.names,y.2=.local->sc.names.lookup y.1=some .local)/\(∀ y∈sc.names,y.2=.free->(X.env.kindOf y.1=some .cell∨X.env.kindOf y.1=some .free)):=by
 unfold qv7 at ck;simp only[zAv,zBf,zB1] at ck;obtain⟨⟨⟨hkind,hlen⟩,hnm⟩,hsrc⟩:=ck;refine⟨hkind,λ y hy e=>?_,λ y hy e=>?_⟩
 . have:=(hnm y hy).1.2
   rw[e] at this;simpa using this
 have:=(hnm y hy).2
 rw[e] at this;show X.env.scope.names.lookup y.1=some .cell∨X.env.scope.names.lookup y.1=some .free;simpa using this
theorem qU4(NY:List Str)(src:List (Option Nat))(hi:PI X tg iter wi)(hg:∀ C s0 H0 ex,PG (qg3 X NY sc C s0 H0 ex) tg g)(hf:∀ C s0 H0 ex,PFs (qg3 X NY sc C s0 H0 ex) ifs tf)(he:∀ C s0 H0 ex,PE (qg3 X NY sc C s0 H0 ex) elt te)(hc:X.calm=true:=by rfl)(ck:qv7 X NY src sc=true:=by rfl)(hs:∀ x,foldedSetIterable iter X.env x=pure x:=by intro _;rfl):PE X (.ListComp elt [⟨tg,iter,ifs,0⟩] sc pos) (F5 wi src g tf te):=by
 intro Dy s σ H Q I h;obtain⟨hkind,hnames,hfree⟩:=qE2 ck;rw[eval_ListComp];refine wpAny_comprehension_free (use:=none) rfl hs (qE3 λ x hx e=>I.ok.has x.1 (hfree x hx e)) hkind hnames ?_;refine thn (hi Dy s σ H _ I h) λ v s1 h1=>thn h1 λ itv s2 h2=>?_
 obtain⟨it,fp,tn,J,H2,rfl,I2,T,st2,f2,rd⟩:=h2;refine qN9 (R:=λ D H'=>Q (.ref D) H') (RR:=λ acc C=>compPost (model X.prog X.w) X.A X.xe none (EP X Dy σ Q) acc C) ck hc I2 T st2 f2 (λ C s0 H0=>hg C s0 H0 fp) (λ C s0 H0=>hf C s0 H0 fp) (λ C s0 H0=>he C s0 H0 fp) rd ?_;intro D C H' s' I' q hC h1 h2 h3 h4 h5 ⟨m,hn⟩;refine⟨m,hn,λ h' hs'=>⟨.ref D,H',?_,rfl,q⟩⟩;exact I'.turned (t':=s'.toks) (it:=C) (λ b o hb e=>hs'.extBut b o hb e) hC h2 (.inr h1) h3 h4
theorem qah8(i:Nat){px spos:Pos}(NY:List Str)(src:List (Option Nat))(hN:X.N.Nodup)(hi:PI X tg iter wi)(hg:∀ C s0 H0 ex,PG (qg3 X NY sc C s0 H0 ex) tg g)(hf:∀ C s0 H0 ex,PFs (qg3 X NY sc C s0 H0 ex) ifs tf)(he:∀ C s0 H0 ex,PE (qg3 X NY sc C s0 H0 ex) elt te)(hix:X.N[i]? = some x:=by rfl)(hx:Loc X.env.scope x:=by first | exact Or.inl rfl | exact Or.inr rfl)(hc:X.calm=true:=by rfl)(ck:qv7 X NY src sc=true:=by rfl)(hsw:swapsWith (.ListComp elt [⟨tg,iter,ifs,0⟩] sc pos) (some (.Name x px)) spos.line X.env=pure true:=by rfl)(hs:∀ x,foldedSetIterable iter X.env x=pure x:=by intro _;rfl)(hfn:X.fn x=true∨X.env.scope.names.lookup x=some .local:=by first | exact .inl rfl | exact .inr rfl | assumption):PS X (.Assign [.Name x px] (.ListComp elt [⟨tg,iter,ifs,0⟩] sc pos) spos) (Hd (F5 wi src g tf te) (Ez i)):=by
 intro Dy s σ H D I h;obtain⟨hkind,hnames,hfree⟩:=qE2 ck;rw[exec_Assign_Name_used _ _ _ _ hsw];refine wpAny_bind (wpAny_standAt (wpAny_bind ?_));show wpAny _ _ (do let _ <- comprehension (.ListComp elt [⟨tg,iter,ifs,0⟩] sc pos) sc X.env _ (newList []) false (eval iter X.env) (some (assign (.Name x px) X.env))) _ _ s;refine wpAny_bind (wpAny_mono (wpAny_comprehension_free (use:=some (assign (.Name x px) X.env)) (Q:=λ _ s'=>SP X Dy D .next s') rfl hs (qE3 λ x hx e=>I.ok.has x.1 (hfree x hx e)) hkind hnames ?_) (λ _ s' hq=>wpAny_pure (wpAny_pure hq)) λ _ _ e=>e);refine thn (hi Dy s σ H _ I h) λ v s1 h1=>thn h1 λ itv s2 h2=>?_
 obtain⟨it,fp,tn,J,H2,rfl,I2,T,st2,f2,rd⟩:=h2;refine qN9 (R:=λ D' H'=>Ez i (.ref D') σ H' D.nx) (RR:=λ acc C=>compPost (model X.prog X.w) X.A X.xe (some (assign (.Name x px) X.env)) (λ _ s'=>SP X Dy D .next s') acc C) ck hc I2 T st2 f2 (λ C s0 H0=>hg C s0 H0 fp) (λ C s0 H0=>hf C s0 H0 fp) (λ C s0 H0=>he C s0 H0 fp) rd ?_;intro D' C H' s' I' q hC h1 h2 h3 h4 h5 ⟨m,hn⟩;obtain⟨o,es,ep,ho,hd,hr⟩:=hn;have Ip:Inv X (Dy++[(C,o)]) σ H' s':=I'.pins_of λ p hp=>(zAf.mp hp).elim (λ z=>I'.pin p (zAs _ z)) λ z=>by
   have e:p=(C,o):=by simpa using z
   subst e;exact⟨ho,hC,h2,h5,λ v e=>by rw[hd] at e;cases e⟩
 show wpAny _ _ (assign (.Name x px) X.env (.ref D')) _ _ _;refine wpAny_assign_Name (qx7 (v:=.ref D') Ip hN hix hx rfl (λ s'' I''=>?_) hfn);have ho'':s''.heap.get? C=some o:=(I''.pin (C,o) (by simp)).1;refine⟨m,⟨o,es,ep,ho'',hd,hr⟩,λ h' hs'=>⟨_,H',?_,q⟩⟩;exact I''.unpinned.turned (t':=s''.toks) (it:=C) (λ b o hb e=>hs'.extBut b o hb e) hC h2 (.inr h1) h3 h4
end
theorem qN8{K:PySem.W.Frag}{D:Addr}{g:TG}{tf:TT}{te:TE}{R:Hp->Prop}{σ:St}(Pv:Nat->St->Hp->Prop)(h0:Pv 0 σ H)(hl:∀ i σ H,i<=xs.length->Pv i σ H->SqL K H a xs)(hs:∀ i x σ H,xs[i]? = some x->Pv i σ H->g x σ H λ σ2 H2=>tf σ2 H2 λ ok H3=>if ok=true then te σ2 H3 λ v H4=>∃ ys,H4 D=some (.lst ys)/\ys.length < sizeLine/\Pv (i+1) σ2 (upd H4 D (.lst (ys++[v]))) else Pv (i+1) σ2 H3)(hd:∀ σ H,Pv xs.length σ H->R H) :
   qB7 (Itl K a) g tf te D R σ H:=by
 refine⟨λ i m σ H=>m=xs.length - i/\i<=xs.length/\Pv i σ H,⟨xs.length,by simp,Nat.zero_le _,h0⟩,?_⟩;rintro i m σ H ⟨rfl,hi,p⟩;have q:=hl i σ H hi p;by_cases hlt:i < xs.length
 . refine .inr ⟨⟨xs,xs[i],q,by simp[hlt]⟩,Pv (i+1),λ σ' H' p'=>⟨xs.length - (i+1),by lia,rfl,hlt,p'⟩,λ x H' y=>?_⟩
   obtain⟨e,y⟩:=y;subst e;exact hs i x σ _ (y xs q) p
 have e:i=xs.length:=by lia
 subst e;exact .inl ⟨⟨xs,q,zA5 _⟩,hd σ H p⟩
theorem qZ0{D:Addr}{lo:Int}{n:Nat}{g:TG}{tf:TT}{te:TE}{R:Hp->Prop}{σ:St}(Pv:Nat->St->Hp->Prop)(h0:Pv 0 σ H)(hs:∀ i σ H,i < n->Pv i σ H->g (.int (lo+i)) σ H λ σ2 H2=>tf σ2 H2 λ ok H3=>if ok=true then te σ2 H3 λ v H4=>∃ ys,H4 D=some (.lst ys)/\ys.length < sizeLine/\Pv (i+1) σ2 (upd H4 D (.lst (ys++[v]))) else Pv (i+1) σ2 H3)(hd:∀ σ H,Pv n σ H->R H) :
   qB7 (Itr lo n) g tf te D R σ H:=by
 refine⟨λ i m σ H=>m=n - i/\i<=n/\Pv i σ H,⟨n,by simp,Nat.zero_le _,h0⟩,?_⟩;rintro i m σ H ⟨rfl,hi,p⟩;by_cases hlt:i < n
 . refine .inr ⟨hlt,Pv (i+1),λ σ' H' p'=>⟨n - (i+1),by lia,rfl,hlt,p'⟩,λ x H' y=>?_⟩
   obtain⟨e,y⟩:=y;subst e y;exact hs i σ _ hlt p
 have e:i=n:=by lia
 subst e;exact .inl ⟨zA5 _,hd σ H p⟩
section
variable{X:Cx}
theorem sset(i:Nat){te:TE}{pos pos':Pos}(hN:X.N.Nodup)(he:PE X e te)(hi:X.N[i]? = some x:=by rfl)(hx:Loc X.env.scope x:=by first | exact Or.inl rfl | exact Or.inr rfl)(hs:swapsWith e (some (.Name x pos')) pos.line X.env=pure false:=by rfl)(hf:X.fn x=true∨X.env.scope.names.lookup x=some .local:=by first | exact .inl rfl | exact .inr rfl | assumption):PS X (.Assign [.Name x pos'] e pos) (Hd te (Ez i)):=qaw8 hN hi hx he hs hf
theorem gnm(i:Nat){pos:Pos}(hN:X.N.Nodup)(hi:X.N[i]? = some x:=by rfl)(hx:Loc X.env.scope x:=by first | exact Or.inl rfl | exact Or.inr rfl)(hf:X.fn x=true∨X.env.scope.names.lookup x=some .local:=by first | exact .inl rfl | exact .inr rfl | assumption):PG X (.Name x pos) (Ez i):=qai2 hN hi hx hf
def CDivB(_ j:Int):Prop:=0 < j/\j < 2 ^ 200
theorem qH3:OpR X (binaryOp .FloorDiv) (rI CDivB λ i j=>.int (i / j)):=opI λ i j _ _ _ _ _ hc q=>by
 have h1:(0:Int) < j:=hc.1;have h2:j < 2 ^ 200:=hc.2;refine floordiv_int (by lia) (by rw[Int.fdiv_eq_ediv_of_nonneg i (by lia)];exact q) (.inl (PyProof.noPylong_of_log2 ?_));have h3:j.natAbs < 2 ^ 200:=by lia
 have h4:j.natAbs.log2 < 200:=(Nat.log2_lt (by lia)).mpr h3;lia
theorem qax6{j:Int}(k:Int){a b:Nat}{q pos:Pos}(hk:i ^ j.toNat=k:=by decide)(h0:0<=j:=by decide)(h1:j<=1000000:=by decide)(h2:i.natAbs < 2 ^ 64:=by decide):PE X (.BinOp (.Constant (.int i) a p) .Pow (.Constant (.int j) b q) pos) (tC (.int k)):=by
 intro Dy s σ H Q I h;refine(pe_op qaI4 qC5 qC5) Dy s σ H Q I ⟨_,_,rfl,rfl,⟨h0,h1,h2⟩,?_⟩;show Q (.int (i ^ j.toNat)) H;rw[hk];exact h
theorem qaI7:OpR X (compareOp .Is) (λ x y H Q=>∃ b c,x=.bl b/\y=.bl c/\Q (.bl (b == c)) H):=by
 intro Dy s σ H x y v u Q I rx ry h;obtain⟨b,c,rfl,rfl,q⟩:=h;cases rx;cases ry;exact is_bool ⟨.bl _,H,I,rfl,q⟩
def Dz(H:Hp):V->Option String
 | .non=>some "NoneType" | .bl _=>some "bool" | .int _=>some "int" | .str _=>some "str"
 | .ref a=>match H a with
   | some (.lst _)=>some "list" | some (.tup _)=>some "tuple" | some (.dK _)=>some "dict" | some (.frz _ (.lst _))=>some "list"
   | _=>none
 | _=>none
def Hx(t n:String):Bool:=t == n||(t == "bool" && n == "int")
theorem qaA9(K:PySem.W.Frag){t n:String}(ht:t∈["NoneType", "bool", "int", "str", "list", "tuple", "dict"])(hn:n∈["bool", "int", "str", "list", "tuple", "dict"]):PySem.W.kitOne K (.type t) (.type n)=some (Hx t n):=by
 simp only[zAc,zAy,zC1] at ht hn;rcases ht with rfl | rfl | rfl | rfl | rfl | rfl | rfl<;>rcases hn with rfl | rfl | rfl | rfl | rfl | rfl<;>rfl
theorem qW8{K:PySem.W.Frag}{x:V}{t:String}(h:Dz H x=some t):En K H x (.type t)/\t∈["NoneType", "bool", "int", "str", "list", "tuple", "dict"]:=by
 cases x with
 | non=>cases h;exact⟨.non,by decide⟩
 | bl b=>cases h;exact⟨.bl b,by decide⟩
 | int b=>cases h;exact⟨.int b,by decide⟩
 | str b=>cases h;exact⟨.str b,by decide⟩
 | byt b=>cases h
 | flt b=>cases h
 | ty b=>cases h
 | ref a =>
   unfold Dz at h;dsimp only at h;split at h
   . cases h;exact⟨.lst (by assumption),by decide⟩
   . cases h;exact⟨.tup (by assumption),by decide⟩
   . cases h;exact⟨.dK (by assumption),by decide⟩
   . cases h;exact⟨.frz (by assumption),by decide⟩
   cases h
def rIsi:List V->Hp->VK->Prop:=λ xs H Q=>∃ x n t,xs=[x,.ty n]/\Dz H x=some t/\n∈["bool", "int", "str", "list", "tuple", "dict"]/\Q (.bl (Hx t n)) H
theorem qi9:CallR X (.builtin "isinstance") rIsi:=by
 intro Dy s σ H xs us Q I r h;obtain⟨x,n,t,rfl,hk,hn,q⟩:=h;obtain⟨u,w',rfl,ru,rw'⟩:=Gz r;cases rw';obtain⟨ty,ht⟩:=qW8 (K:=X.K) hk;exact qA4 I ru ty (qaA9 X.K ht hn) λ tk=>⟨.bl _,H,I.tok tk,rfl,q⟩
theorem qaH9(n:String){pos:Pos}(hm:X.mg x=none)(hg:Gl X x:=by rfl)(hv:bootBuiltins x=some (.type n):=by rfl)(hn:x ≠ "__name__" := by decide)(hd:(x == ("__debug__" : Str))=false:=by decide):PE X (.Name x pos) (tC (.ty n)):=qay3 hg hm hv rfl hn hd
theorem qay1{n:Int}{t:Tok}{pos:Pos}(hm:X.mg x=some (.int n t))(hg:Gl X x:=by rfl)(hd:(x == ("__debug__" : Str))=false:=by decide):PE X (.Name x pos) (tC (.int n)):=qK9 hg hm ⟨t,rfl⟩ hd
theorem cbi{id:String}{r:List V->Hp->VK->Prop}{pos:Pos}(hc:CallR X (.builtin id) r)(hm:X.mg x=none)(ha:PA X (e::es) t)(hg:Gl X x:=by rfl)(hv:bootBuiltins x=some (.builtin id):=by rfl)(hn:x ≠ "__name__" := by decide)(hdb:(x == ("__debug__" : Str))=false:=by decide)(he:starEach (e::es) X.env=(false,eval e X.env)::starEach es X.env:=by rfl)(hpl:(backTo pos (starEach es X.env)).any (·.1)=false:=by rfl):PE X (.Call (.Name x p) (e::es) [] pos) (tCB r t):=qao5 hc hg hm hv ha hn hdb he hpl
theorem cty{id:String}{r:List V->Hp->VK->Prop}{pos:Pos}(hc:CallR X (.type id) r)(hm:X.mg x=none)(ha:PA X (e::es) t)(hg:Gl X x:=by rfl)(hv:bootBuiltins x=some (.type id):=by rfl)(hn:x ≠ "__name__" := by decide)(hdb:(x == ("__debug__" : Str))=false:=by decide)(he:starEach (e::es) X.env=(false,eval e X.env)::starEach es X.env:=by rfl)(hpl:(backTo pos (starEach es X.env)).any (·.1)=false:=by rfl):PE X (.Call (.Name x p) (e::es) [] pos) (tCB r t):=qac4 hc hg hm hv ha hn hdb he hpl
end
theorem ix{X:Cx}{a b:Expr}{ta tb:TE}{pos:Pos}{r:R2}(hr:IxR X r)(ha:PE X a ta)(hb:PE X b tb)(hs:qO7 b:=by exact λ _ _=>rfl):PE X (.Subscript a b pos) (tOp r ta tb):=Hu hr ha hb hs
def rGetL:V->V->Hp->VK->Prop:=λ o i H Q=>∃ p xs k v,o=.ref p/\i=.int k/\H p=some (.lst xs)/\0<=k/\xs[k.toNat]? = some v/\Q v H
theorem qar7{X:Cx}:PGet X rGetL:=by
 intro Dy s σ H o i ov iv Q I ro ri h;obtain⟨p,xs,k,v,rfl,rfl,hp,h0,hv,q⟩:=h;cases ro;obtain⟨t,rfl⟩:=ri;obtain⟨its,n,r,ho,hz⟩:=I.lst hp;obtain⟨u,hu,ru⟩:=r.get hv;have hlt:=(zA7.mp hv).1;have hn:=qI1;refine wpAny_getItem_list (items:=its.toArray) (x:=u) ⟨_,ho,rfl,n,rfl⟩ h0 (by lia) (by simpa using hu) ⟨v,H,I,ru,q⟩
theorem qaN1{xs:List α}(h0:0<=i)(h1:i < xs.length):∃ v,xs[i.toNat]? = some v/\atI xs i=some v:=by
 have hl:i.toNat < xs.length:=by lia
 have e:(i.toNat:Int)=i:=by lia
 refine⟨xs[i.toNat],by simp[hl],?_⟩
 have:=qaa0 (xs:=xs) (j:=i.toNat) (v:=xs[i.toNat]) (by simp[hl])
 rw[e] at this;exact this
theorem qt5{xs:List α}(h0:0<=i)(h1:i < xs.length):∃ v,v∈xs/\atI xs i=some v:=by
 obtain⟨v,h,e⟩:=qaN1 h0 h1;exact⟨v,zBb h,e⟩
theorem qW7(h:H a=some (.lst xs)):Dz H (.ref a)=some "list" := by
 unfold Dz;dsimp only;rw[h]
theorem qaq9(h:H a=some (.tup xs)):Dz H (.ref a)=some "tuple" := by
 unfold Dz;dsimp only;rw[h]
theorem qaj1{xs:List (Key×V)}(h:H a=some (.dK xs)):Dz H (.ref a)=some "dict" := by
 unfold Dz;dsimp only;rw[h]
theorem Same.new{q:Addr}{u:HO}(h:H q=none):Same H (upd H q u):=λ b o e=>by rw[qb3 (qb8 e h)];exact e
structure Df(K:PySem.W.Frag)(mg:Str->Option Value)(x qual:Str)(st:Stmt)(f:Addr)(fd:FuncData)(ps:List Str):Prop where
 F:Fun K x qual st f fd
 b:Binds K fd ps []
 m:mg x=some (.ref f)
theorem dfmk{K:PySem.W.Frag}{mg:Str->Option Value}{qual:Str}{st:Stmt}{f:Addr}{ps:List Str}{oc:Value}{od an:Option Addr}{osl:Array (Option Value)}{kV doc pm cdv ct:Value}(l:K.lookup f=some ⟨oc,od,.func (PySem.W.fnOf x qual (qf7 st) (qd1 st) (qa3 st) .none kV doc pm an cdv ct),osl⟩)(c:PySem.W.codeIn K cdv qual=true)(k:PySem.W.keepIn K (.ref f)=true)(m:mg x=some (.ref f))(h:∀(kV doc pm:Value)(an:Option Addr)(cdv ct:Value)(us:List Value),us.length=ps.length->bindArgs (PySem.W.fnOf x qual (qf7 st) (qd1 st) (qa3 st) .none kV doc pm an cdv ct) ⟨us,[]⟩=pure (ps.zip us)) :
   Df K mg x qual st f (PySem.W.fnOf x qual (qf7 st) (qd1 st) (qa3 st) .none kV doc pm an cdv ct) ps:=⟨qae4 l c k,(qae4 l c k).binds h,m⟩
theorem callD{X:Cx}{qual:Str}{st:Stmt}{f:Addr}{fd:FuncData}{ps:List Str}{k:Nat}{sp:Sp}{pos:Pos}(D:Df X.K X.mg x qual st f fd ps)(G:Bi X.prog X.w X.K X.mg X.base CX0 k f fd ps sp)(hr:Room k X.A)(ha:PA X (e::es) t)(hg:Gl X x:=by rfl)(hdb:(x == ("__debug__" : Str))=false:=by decide)(he:starEach (e::es) X.env=(false,eval e X.env)::starEach es X.env:=by rfl)(hpl:(backTo pos (starEach es X.env)).any (·.1)=false:=by rfl):PE X (.Call (.Name x p) (e::es) [] pos) (Fy sp [] E0 t) :=
 qU5 G hr hg D.m D.F.kp D.b .nil pass0 ha hdb he hpl
end L2
namespace LB
open PySem PySem.Spec PyProof.Rows
theorem qI0:typeLookup (.type "list") "keys" = pure none:=by rw[typeLookup_type,builtinLookup_eq_fast];kernel_rfl
theorem qv4:typeLookup (.type "list") "__getattr__" = pure none:=by rw[typeLookup_type,builtinLookup_eq_fast];kernel_rfl
section
variable{prog:Program}{w:World}{A:Around}{E:Value->Shared->Prop}{h:Heap}{g:Array GenState}{d:Drawn}{t:Nat}{os:OsState}{a:Addr}{its:Array Value}{n:Nat}
theorem qv5{tk:Tok}{Q:PySem.Fin->Shared->Prop}(hx:h.get? a=some { cls:=.type "list",data:=.seq its n })(hh:A.handled=none)(hq:∀ h' tk e,Heap.NewAttrErr h h' e (.ref a) "keys" -> E (.ref e) ⟨h',g,d,tk,os⟩) :
   wpAny (model prog w) A (Builtin.«object.__getattribute__» ⟨[.ref a,.str "keys" tk],[]⟩) Q E ⟨h,g,d,t,os⟩:=by
 have hT:(⟨h,g,d,t,os⟩:Shared).TypeIs (.ref a) "list" := ⟨_,hx,rfl⟩
 have f4:=qI0
 repeat (any_goals (first | assumption | wp_step))
 refine wpAny_raiseAttrError hh ?_ (attrMsg_fits (by decide +kernel) (by decide +kernel));exact hq
theorem qA2{Q:Option Value->Shared->Prop}(hx:h.get? a=some { cls:=.type "list",data:=.seq its n })(hh:A.handled=none)(hq:∀ h' tk,(∀ b o,h.get? b=some o->h'.get? b=some o)->Q none ⟨h',g,d,tk,os⟩) :
   wpAny (model prog w) A (getAttr? (.ref a) "keys") Q E ⟨h,g,d,t,os⟩:=by
 have hT:∀ tk,(⟨h,g,d,tk,os⟩:Shared).TypeIs (.ref a) "list" := λ _=>⟨_,hx,rfl⟩
 have hT0:=hT t;have f1:=sub_AttributeError;have f2:=F.slot_list_getattribute.lookup;have f3:=F.slot_list_getattribute.bind (.ref a);have f5:=qv4;unfold getAttr? getAttrBy? getAttrBy
 repeat (any_goals (first | assumption | wp_step))
 refine codeAny_call_builtin F.slot_list_getattribute.plain F.entry_list_ga (F.slot_list_getattribute.check _ _ _ _ _ _ _ _ (hT _) (F.args_list_getattribute_2 _ _) (qv5 hx hh λ h' tk e hx'=>?_));obtain⟨t',u',he⟩:=hx'.there;show wpAny _ _ (getattributeRaised _ _ _ _ _ _ _) _ _ _;unfold getattributeRaised
 repeat (any_goals (first | assumption | wp_step))
 exact hq _ _ hx'.keeps
end
theorem qk2:entryFor table "dict.update.loop" = some Builtin.«dict.update.loop»:=entryFor_of_tree (by kernel_rfl)
theorem qe0:plainId "dict.update.loop" = true:=by decide +kernel
section
variable{prog:Program}{w:World}{K:Type}[DecidableEq K]{knd:KeyKind prog w K}{A:Around}{R:Result->Shared->Prop}
theorem qaf8(hh:A.handled=none){I ax d:Addr}{items:Array Value}(hIx:ax≠I)(hdI:d≠I)(hdx:ax≠d):∀(rest:List (K×Value))(i:Nat)(ix:Int)(kvs:List (K×Value))(s:Shared),
   (∀(j:Nat) kv,rest[j]? = some kv->∃ t key,items[i+j]? = some (.ref t)/\IsTup s.heap t #[key,kv.2]/\knd.is kv.1 key=true/\t≠I/\t≠d)->items.size=i+rest.length ->
   s.heap.IsListIter I ax i->s.heap.IsList ax items->s.heap.DictOf knd d kvs->kvs.length+rest.length<=sizeLine ->
   (∀ h' tk,h'.DictOf knd d (rest.foldl (λ acc kv=>stored acc kv.1 kv.2) kvs)->(∀ b o,b≠I->b≠d->s.heap.get? b=some o->h'.get? b=some o)->R (.ok (.ret .none)) { s with heap:=h',toks:=tk }) ->
   codeAny (model prog w) A (.builtin "dict.update.loop" ⟨[.ref d,.ref I,rawInt ix,.none],[]⟩) R s:=by
 intro rest
 induction rest with
 | nil =>
   intro i ix kvs s hp hsz hit hl hd hk hR;refine codeAny_builtin qk2 ?_;rw[Around.under_plainId qe0 _];show wpAny _ A.in1 (pyNext (.ref I) >>= _) _ _ s;refine wpAny_bind (wpAny_pyNext_list_end hh hit hl (by simp at hsz;simp[hsz]) λ h' he=>?_);show wpAny _ _ (Builtin.Dict.addKeywords d [] >>= _) _ _ _;refine wpAny_bind (wpAny_pure (wpAny_pure ?_));have hd':h'.DictOf knd d kvs:=by
     obtain⟨o,es,ep,ho,r⟩:=hd;exact⟨o,es,ep,he d o hdI ho,r⟩
   exact hR h' s.toks hd' λ b o hb _ e=>he b o hb e
 | cons kv rest ih =>
   intro i ix kvs s hp hsz hit hl hd hk hR;obtain⟨t,key,h1,h2,h3,h4,h5⟩:=hp 0 kv rfl;refine codeAny_builtin qk2 ?_;rw[Around.under_plainId qe0 _];show wpAny _ A.in1 (pyNext (.ref I) >>= _) _ _ s;refine wpAny_bind (wpAny_pyNext_list_item hit hl h1 λ h' hit' hs=>?_);have h2':IsTup h' t #[key,kv.2]:=h2.extBut hs.extBut h4;obtain⟨o,ho,hoc,n,hod⟩:=h2';refine wpAny_bind (wpAny_holding ?_);refine wpAny_bind (wpAny_tryCatch ?_);unfold Builtin.Dict.pairItems;refine wpAny_bind (wpAny_typeOf (T := "tuple") ⟨o,ho,hoc⟩ ?_);rw[if_pos (by decide)];refine wpAny_bind (wpAny_seqItems ho hod (wpAny_pure ?_));dsimp only[Option.getD];have hd':h'.DictOf knd d kvs:=by
     obtain⟨o,es,ep,ho,r⟩:=hd;exact⟨o,es,ep,hs.extBut d o hdI ho,r⟩
   simp only[zAk] at hk hsz;show wpAny _ _ (holding [key,kv.2] (dictSet d key kv.2)) _ _ _;refine wpAny_holding (wpAny_dictSet_pairs (hsz:=by lia) h3 hd' λ h'' hd'' hs''=>?_);refine wpAny_pure ⟨plainId_quiet qe0 _,?_⟩;have hlen:(stored kvs kv.1 kv.2).length<=kvs.length+1:=by
     unfold stored;split
     . rw[zAe];lia
     rw[zAj];simp
   refine ih (i+1) (ix+1) (stored kvs kv.1 kv.2) _ (λ j kv' hj=>?_) (by lia) ?_ ?_ hd'' (by lia) λ h3' tk hd3 k3=>?_
   . obtain⟨t',key',g1,g2,g3,g4,g5⟩:=hp (j+1) kv' hj
     exact⟨t',key',by rw[show i+1+j=i+(j+1) by lia];exact g1,(g2.extBut hs.extBut g4).extBut hs''.extBut g5,g3,g4,g5⟩
   . exact hit'.at λ o e=>hs''.extBut I o (Ne.symm hdI) e
   . exact(hl.at λ o e=>hs.extBut ax o hIx e).at λ o e=>hs''.extBut ax o hdx e
   exact hR h3' tk hd3 λ b o hb hb' e=>k3 b o hb hb' (hs''.extBut b o hb' (hs.extBut b o hb e))
end
end LB
namespace L2
open PySem PySem.Spec PyProof.Rows
section
variable{X:Cx}
theorem KV.fold:∀{more:List (Key×V)}{rs:List (Key×Value)}{kvs:List (Key×V)}{vs:List (Key×Value)},KV more rs->KV kvs vs->KV (qv2 kvs more) (rs.foldl (λ acc kv=>stored acc kv.1 kv.2) vs):=by
 intro more rs kvs vs r;unfold KV at r
 induction r generalizing kvs vs with
 | nil=>intro q;exact q
 | @cons p q _ _ h _ ih =>
   intro r0;show KV (qv2 (putK kvs p.1 p.2) _) (List.foldl _ (stored vs q.1 q.2) _);refine ih ?_;rw[<- h.1];exact r0.put p.1 h.2
def qak4(H:Hp)(ys:List V)(kvs:List (Key×V)):Prop:=Paired (λ y (kv:Key×V)=>∃ t,y=.ref t/\H t=some (.tup [kV kv.1,kv.2])) ys kvs
def qaw4:List V->Hp->VK->Prop:=λ xs H Q=>∃ a ys kvs,xs=[.ref a]/\H a=some (.lst ys)/\qak4 H ys kvs/\∀ p,H p=none->Q (.ref p) (upd H p (.dK (qv2 [] kvs)))
theorem qE5(hc:X.calm=true):CallR X (.type "dict") qaw4:=by
 intro Dy s σ H xs us Q I r h;obtain⟨a,ys,kvs,rfl,ha,hp,q⟩:=h;obtain⟨u,rfl,ru⟩:=Bo r;cases ru;have hh:=I.ok.hd hc;obtain⟨z,its,n,rv,hl,e⟩:=I.lstM ha;obtain⟨rs,rk,ri⟩:∃ rs:List (Key×Value),KV kvs rs/\∀(j:Nat) kv,rs[j]? = some kv->∃ t key,its[j]? = some (.ref t)/\IsTup s.heap t #[key,kv.2]/\(qe7 X.prog X.w).is kv.1 key=true:=by
   clear q e hl n ha z
   induction hp generalizing its with
   | nil=>exact⟨[],.nil,λ j kv hj=>by simp at hj⟩
   | @cons y kv ys kvs hy _ ih =>
     cases rv with
     | @cons _ u _ us' hu hr =>
       obtain⟨t,rfl,ht⟩:=hy;cases hu;obtain⟨_,its',rt,o,ho,hoc,n,hod⟩:=I.hok t _ ht;obtain⟨key,val,rfl,r1,r2⟩:=rt.two;obtain⟨rs,rk,ri⟩:=ih _ hr;refine⟨(kv.1,val)::rs,.cons ⟨rfl,r2⟩ rk,λ j kv' hj=>?_⟩;cases j with
       | zero=>cases hj;exact⟨t,key,rfl,⟨o,ho,hoc,n,hod⟩,Hv r1⟩
       | succ j=>exact ri j kv' hj
 have hrl:rs.length=its.length:=by rw[<- hl,<- Paired.length rk,<- Paired.length hp]
 have big:=I.big;obtain⟨hp0,gn,dr,tk0,os0⟩:=s;refine callType_codes (Q₁:=λ obj s₁=>obj=.ref hp0.objs.size/\s₁={ heap:=hp0.push { cls:=.type "dict",data:=.dict #[] },gens:=gn,drawn:=dr,toks:=tk0,os:=os0 }) F.kt_called_dict (F.kt_typeCall_dict_1 _) F.entry_dict_init (kt_code_dict_new _ ⟨rfl,rfl⟩) ?_;rintro obj s₁ ⟨rfl,rfl⟩;have hnew:(hp0.push { cls:=.type "dict",data:=.dict #[] }).DictOf (qe7 X.prog X.w) hp0.objs.size []:=Heap.DictOf.new hp0;have e':(hp0.push { cls:=.type "dict",data:=.dict #[] }).get? a=some { cls:=.type "list",data:=.seq its.toArray n }:=zA2 _ e;have had:a < hp0.objs.size:=zA6 e;refine⟨hnew.typeIs,F.args_dict_init_2 _ _,?_⟩;unfold Builtin.«dict.__init__»;refine wpAny_bind ?_;unfold Builtin.Dict.selfAndRest;refine wpAny_bind (wpAny_notOrdered_dict hnew.typeIs ?_);show wpAny _ _ (pure (hp0.objs.size,[Value.ref a])) _ _ _;refine wpAny_pure ?_;show wpAny _ _ (Builtin.Dict.updateFrom "dict.__init__" hp0.objs.size (.ref a) [] .none) _ _ _;unfold Builtin.Dict.updateFrom;refine wpAny_bind (wpAny_typeOf (T := "list") ⟨_,e',rfl⟩ ?_);rw[if_pos (by decide)];refine wpAny_bind (LB.qA2 e' hh λ h1 tk1 k1=>?_);rw[if_pos (by rfl)];have e1:h1.get? a=some { cls:=.type "list",data:=.seq its.toArray n }:=k1 _ _ e';have d1:h1.DictOf (qe7 X.prog X.w) hp0.objs.size []:=by
   obtain⟨o,es,ep,ho,r⟩:=hnew;exact⟨o,es,ep,k1 _ _ ho,r⟩
 refine wpAny_bind (wpAny_rule ?_);have hlist:h1.IsList a its.toArray:=⟨_,e1,rfl,n,rfl⟩
 refine wpAny_bind (wpAny_pyIter_list hlist ?_);have szd:hp0.objs.size < h1.objs.size:=by
   obtain⟨o,es,ep,ho,r⟩:=d1;exact zA6 ho
 refine wpAny_pure ⟨plainId_quiet LB.qe0 _,?_⟩;refine LB.qaf8 (knd:=qe7 X.prog X.w) (A:=X.A.in1) hh (I:=h1.objs.size) (ax:=a) (d:=hp0.objs.size) (items:=its.toArray) (zAi (Nat.lt_trans had szd)) (zAi szd) (zAi had) rs 0 0 [] _ (λ j kv hj=>?_) (by simp[hrl]) ?_ ?_ ?_ ?_ λ h2 tk2 d2 k2=>?_
 . obtain⟨t,key,g1,g2,g3⟩:=ri j kv hj
   obtain⟨o,ho,r⟩:=g2;have hlt:=zA6 ho;exact⟨t,key,by simpa using g1,⟨o,zA2 _ (k1 _ _ (zA2 _ ho)),r⟩,g3,zAi (Nat.lt_trans hlt szd),zAi hlt⟩
 . exact⟨_,zAw _ rfl,rfl,rfl⟩
 . exact⟨_,zA2 _ e1,rfl,n,rfl⟩
 . obtain⟨o,es,ep,ho,r⟩:=d1
   exact⟨o,es,ep,zA2 _ ho,r⟩
 . simp only[zBz,zB3];rw[hrl,<- hl];exact z
 refine⟨rfl,?_⟩;have hf:H hp0.objs.size=none:=I.hok.fresh (zA5 _);have keep:∀ b o,hp0.get? b=some o->h2.get? b=some o:=λ b o eb=>by
   have hlt:=zA6 eb;exact k2 b o (zAi (Nat.lt_trans hlt szd)) (zAi hlt) (zA2 _ (k1 _ _ (zA2 _ eb)))
 have rm:KV (qv2 [] kvs) (rs.foldl (λ acc kv=>stored acc kv.1 kv.2) []):=KV.fold rk .nil;have hz:(qv2 [] kvs).length<=sizeLine:=by
   have h1:=qp2 kvs [];have h2:=Paired.length hp;simp only[zBz] at h1;lia
 refine⟨.ref hp0.objs.size,_,I.laid (t':=tk2) (o:=.dK (qv2 [] kvs)) keep (zA5 _) ?_,rfl,q _ hf⟩;exact⟨hz,zBh.mpr (Ne.symm (zAi big)),_,rm,d2⟩
end
section
variable{X:Cx}
theorem qO1(hc:X.calm=true):CallR X (.builtin "all") (λ xs H Q=>∃(a:Addr)(bs:List Bool),xs=[.ref a]/\SqL X.K H a (bs.map V.bl)/\Q (.bl (bs.all id)) H):=by
 intro Dy s σ H xs us Q I r h;obtain⟨a,bs,rfl,ha,q⟩:=h;obtain⟨u,rfl,ru⟩:=Bo r;cases ru;have hh:=I.ok.hd hc;obtain⟨its,rv,pl,hz⟩:=I.list ha;refine call_all_walk (wpAny_pyIter_list pl.isList ?_);have hlt:a < s.heap.objs.size:=let ⟨o,ho,_⟩:=pl.isList;zA6 ho
 refine⟨s.heap.objs.size,_,_,_,_,_,λ i=>bs.getD i false,rfl,Walks.list (A:=X.A.in1) hh _ a (zAi hlt) its.toArray,⟨⟨_,zAw _ rfl,rfl,rfl⟩,?_⟩,?_,?_⟩
 . exact pl.isList.at λ o e=>zA2 _ e
 . intro i v s1 Q1 E1 hv hq
   have hv:its[i]? = some v:=by simpa using hv
   have hi:i < bs.length:=by
     have h1:=(zA7.mp hv).1;have h2:=rv.length;rw[zAe] at h2;lia
   obtain⟨u,hu,ru⟩:=rv.get (i:=i) (x:=.bl bs[i]) (by simp[hi]);rw[hv] at hu;cases hu;cases ru;refine wpAny_truthy_bool ?_;have e:bs.getD i false=bs[i]:=by simp[List.getD,hi]
   have hq:Q1 (bs.getD i false) s1:=hq;rw[e] at hq;exact hq
 intro h' tk hk;have e:(List.range its.toArray.size).all (λ i=>bs.getD i false)=bs.all id:=by
   have h2:=rv.length;rw[zAe] at h2;rw[zA3,<- h2];rw[Bool.eq_iff_iff];simp only[zB1,zB2,id_eq];constructor
   . intro h b hb
     obtain⟨i,hi,rfl⟩:=List.mem_iff_getElem.mp hb
     have:=h i hi
     simpa[List.getD,hi] using this
   intro h i hi
   have:=h bs[i] (List.getElem_mem hi)
   simpa[List.getD,hi] using this
 rw[e];refine⟨.bl _,H,?_,rfl,q⟩;exact I.kept (t':=tk) λ b o e=>hk b o (by simp;exact zAi (zA6 e)) (zA2 _ e)
def qi8(ns:List Int):Nat:=(firstMet (λ i=>ns.getD i 0) ns.length).length
def rSetI(K:PySem.W.Frag):List V->Hp->VK->Prop:=λ xs H Q=>∃(a:Addr)(ns:List Int),xs=[.ref a]/\SqL K H a (ns.map V.int)/\ns.length<=1000/\∀ p S,H p=none->Q (.ref p) (upd H p (.set S (qi8 ns)))
theorem qaf9(hc:X.calm=true):CallR X (.type "set") (rSetI X.K):=by
 intro Dy s σ H xs us Q I r h;obtain⟨a,ns,rfl,ha,hl,q⟩:=h;obtain⟨u,rfl,ru⟩:=Bo r;cases ru;have hh:=I.ok.hd hc;obtain⟨its,rv,pl,hz⟩:=I.list ha;have hlen:its.length=ns.length:=by
   have:=rv.length
   rw[zAe] at this;exact this.symm
 have hi:IntsAre its ns:=qX1 rv;refine call_set_list (items:=its.toArray) hh pl.isList (by simpa using hi) (by rw[zA3,hlen];show ns.length+1 < 4096;lia) λ h' tk hS hk=>?_
 have hsz:its.toArray.size=ns.length:=by rw[zA3,hlen]
 rw[hsz] at hS;refine⟨.ref s.heap.objs.size,_,I.laid (t':=tk) (o:=.set _ (qi8 ns)) (λ b o e=>hk b o (zA6 e) e) (zA5 _) hS,rfl,q _ _ (I.hok.fresh (zA5 _))⟩
theorem qag0:CallR X (.builtin "len") (λ xs H Q=>∃(a:Addr)(S:Int->Bool)(n:Nat),xs=[.ref a]/\H a=some (.set S n)/\Q (.int n) H):=by
 intro Dy s σ H xs us Q I r h;obtain⟨a,S,n,rfl,ha,q⟩:=h;obtain⟨u,rfl,ru⟩:=Bo r;cases ru;obtain⟨o,es,ep,t,ho,hex,hd,_,_,hb,hf,hn⟩:=I.hok a _ ha;subst hn;have hb:es.size < 4096:=hb;exact call_len_set ho hex hd hf (by lia) ⟨.int _,H,I.tok _,⟨_,rfl⟩,q⟩
end
theorem qJ2(ns:List Int):qi8 ns=ns.length↔ns.Nodup:=by
 have key:∀ i,i<=ns.length->(∀ k,k∈firstMet (λ i=>ns.getD i 0) i↔k∈ns.take i)/\((firstMet (λ i=>ns.getD i 0) i).length=i↔(ns.take i).Nodup):=by
   intro i
   induction i with
   | zero=>intro _;rw[firstMet_zero];simp
   | succ i ih =>
     intro hi;obtain⟨h1,h2⟩:=ih (by lia);have hle:=firstMet_length_le (λ i=>ns.getD i 0) i;have hlt:i < ns.length:=by lia
     have et:ns.take (i+1)=ns.take i++[ns[i]]:=by rw[List.take_add_one];simp[hlt]
     have eg:ns.getD i 0=ns[i]:=by simp[List.getD,hlt]
     rw[firstMet_succ,et,eg];unfold step_dedup;by_cases hm:ns[i]∈firstMet (λ i=>ns.getD i 0) i
     . have hm':ns[i]∈ns.take i:=(h1 _).mp hm
       have hc:(firstMet (λ i=>ns.getD i 0) i).any (· == ns[i])=true:=List.any_eq_true.mpr ⟨_,hm,by simp⟩;rw[if_pos hc];refine⟨λ k=>?_,?_⟩
       . rw[h1];simp only[zAf,zAn]
         exact⟨.inl,λ h=>h.elim id λ e=>by rw[e];exact hm'⟩
       constructor
       . intro h;lia
       intro h;rw[zBt] at h;exact absurd rfl (h.2.2 _ hm' _ (zAn.mpr rfl))
     have hm':¬ ns[i]∈ns.take i:=λ h=>hm ((h1 _).mpr h)
     have hc:¬ (firstMet (λ i=>ns.getD i 0) i).any (· == ns[i])=true:=λ h=>by
       obtain⟨x,hx,e⟩:=List.any_eq_true.mp h;exact hm (by rw[<- (zBf.mp e)];exact hx)
     rw[if_neg hc];refine⟨λ k=>?_,?_⟩
     . simp only[zAf,zAn]
       rw[h1]
     rw[zAj,zBt];simp only[List.length_singleton];constructor
     . intro h
       refine⟨h2.mp (by lia),by simp,λ x hx y hy=>?_⟩;rw[zAn.mp hy];exact λ e=>hm' (e ▸ hx)
     intro h
     have:=h2.mpr h.1
     lia
 have:=(key ns.length (zA5 _)).2
 rw[zBc (zA5 _)] at this;exact this
end L2
namespace LD
open PySem PySem.SeqAt MeetsSeq
open AutoSeq1 (wpAny_loadPart')
variable{b l:Addr}{dd:Option Addr}{n:Nat}{sl:Array (Option Value)}
theorem qas6(l b:Addr)(es:Array DictEntry)(items2:Array Value)(n n2:Nat)(dd dd2:Option Addr)(sl sl2:Array (Option Value)) :
   Meets (Builtin.«dict.__eq__» ⟨[.ref l,.ref b],[]⟩) (λ _ R s=>s.heap.get? l=some { cls:=.type "dict",dict:=dd,data:=.dict es n,slots:=sl }/\s.heap.get? b=some { cls:=.type "tuple",dict:=dd2,data:=.seq items2 n2,slots:=sl2 }/\R (.ok (.ret .notImplemented)) s) :=
 .of_wp λ prog w A R s h=>by obtain⟨hp,g,d,tk,os⟩:=s;obtain⟨hl,hb,h⟩:=h;have f1:=F.sub_tuple_dict;wp_walk using wpAny_loadPart' hl,wpAny_loadPart' hb;exact⟨_,rfl,h⟩
theorem qal0(l b:Addr)(es:Array DictEntry)(items2:Array Value)(n n2:Nat)(dd dd2:Option Addr)(sl sl2:Array (Option Value)) :
   Meets (Builtin.«tuple.__eq__» ⟨[.ref b,.ref l],[]⟩) (λ _ R s=>s.heap.get? l=some { cls:=.type "dict",dict:=dd,data:=.dict es n,slots:=sl }/\s.heap.get? b=some { cls:=.type "tuple",dict:=dd2,data:=.seq items2 n2,slots:=sl2 }/\R (.ok (.ret .notImplemented)) s) :=
 .of_wp λ prog w A R s h=>by obtain⟨hp,g,d,tk,os⟩:=s;obtain⟨hl,hb,h⟩:=h;have f1:=F.sub_dict_tuple;wp_walk using wpAny_loadPart' hl,wpAny_loadPart' hb;exact⟨_,rfl,h⟩
theorem qap7(l b:Addr)(es:Array DictEntry)(items2:Array Value)(n n2:Nat)(dd dd2:Option Addr)(sl sl2:Array (Option Value)) :
   Meets (Builtin.«dict.__ne__» ⟨[.ref l,.ref b],[]⟩) (λ _ R s=>s.heap.get? l=some { cls:=.type "dict",dict:=dd,data:=.dict es n,slots:=sl }/\s.heap.get? b=some { cls:=.type "tuple",dict:=dd2,data:=.seq items2 n2,slots:=sl2 }/\R (.ok (.ret .notImplemented)) s) :=
 .of_wp λ prog w A R s h=>by obtain⟨hp,g,d,tk,os⟩:=s;obtain⟨hl,hb,h⟩:=h;have f1:=F.sub_tuple_dict;wp_walk using wpAny_loadPart' hl,wpAny_loadPart' hb;exact⟨_,rfl,h⟩
theorem qak9(l b:Addr)(es:Array DictEntry)(items2:Array Value)(n n2:Nat)(dd dd2:Option Addr)(sl sl2:Array (Option Value)) :
   Meets (Builtin.«tuple.__ne__» ⟨[.ref b,.ref l],[]⟩) (λ _ R s=>s.heap.get? l=some { cls:=.type "dict",dict:=dd,data:=.dict es n,slots:=sl }/\s.heap.get? b=some { cls:=.type "tuple",dict:=dd2,data:=.seq items2 n2,slots:=sl2 }/\R (.ok (.ret .notImplemented)) s) :=
 .of_wp λ prog w A R s h=>by obtain⟨hp,g,d,tk,os⟩:=s;obtain⟨hl,hb,h⟩:=h;have f1:=F.sub_dict_tuple;wp_walk using wpAny_loadPart' hl,wpAny_loadPart' hb;exact⟨_,rfl,h⟩
theorem for0{β:Type}{m:Type->Type}[Monad m](b:β)(f:Nat->β->m (ForInStep β)):forIn [:0] b f=(pure b:m β):=by
 simp
theorem same0{M:Model}{A:Around}{E:Value->Shared->Prop}{s:Shared}{Q:Bool->Shared->Prop}{id:String}{n2:Nat}{dd2:Option Addr}{sl2:Array (Option Value)}(h1:(l == sysModules)=false)(h2:(b == sysModules)=false)(hl:s.heap.get? l=some { cls:=.type "dict",dict:=dd,data:=.dict #[] n,slots:=sl })(hb:s.heap.get? b=some { cls:=.type "dict",dict:=dd2,data:=.dict #[] n2,slots:=sl2 })(h:Q true s):wpAny M A (Builtin.Dict.samePairs id l b) Q E s:=by
 unfold Builtin.Dict.samePairs Builtin.Dict.showsAll;rw[if_neg (by rw[h1];decide),if_neg (by rw[h2];decide)];refine wpAny_bind (wpAny_pure (wpAny_bind (wpAny_pure ?_)));refine wpAny_bind (wpAny_dictEntries hl rfl ?_);refine wpAny_bind (wpAny_dictEntries hb rfl ?_);rw[if_neg (by decide)];refine wpAny_bind (wpAny_dictEpoch hl rfl ?_);have e0:(#[]:Array DictEntry).size=0:=rfl;simp only[e0];rw[for0];exact wpAny_bind (wpAny_pure (wpAny_pure h))
theorem qaD3(l b:Addr)(n n2:Nat)(dd dd2:Option Addr)(sl sl2:Array (Option Value))(h1:(l == sysModules)=false)(h2:(b == sysModules)=false) :
   Meets (Builtin.«dict.__eq__» ⟨[.ref l,.ref b],[]⟩) (λ _ R s=>s.heap.get? l=some { cls:=.type "dict",dict:=dd,data:=.dict #[] n,slots:=sl }/\s.heap.get? b=some { cls:=.type "dict",dict:=dd2,data:=.dict #[] n2,slots:=sl2 }/\R (.ok (.ret (.bool true))) s) :=
 .of_wp λ prog w A R s h=>by
   obtain⟨hp,g,d,tk,os⟩:=s;obtain⟨hl,hb,h⟩:=h;have f1:isSubtype (.type "dict") (.type "dict")=pure true:=F.sub_dict_dict
   wp_walk using wpAny_loadPart' hl,wpAny_loadPart' hb,same0 h1 h2 hl hb
   exact⟨_,rfl,h⟩
theorem qaz7(l b:Addr)(n n2:Nat)(dd dd2:Option Addr)(sl sl2:Array (Option Value))(h1:(l == sysModules)=false)(h2:(b == sysModules)=false) :
   Meets (Builtin.«dict.__ne__» ⟨[.ref l,.ref b],[]⟩) (λ _ R s=>s.heap.get? l=some { cls:=.type "dict",dict:=dd,data:=.dict #[] n,slots:=sl }/\s.heap.get? b=some { cls:=.type "dict",dict:=dd2,data:=.dict #[] n2,slots:=sl2 }/\R (.ok (.ret (.bool false))) s) :=
 .of_wp λ prog w A R s h=>by
   obtain⟨hp,g,d,tk,os⟩:=s;obtain⟨hl,hb,h⟩:=h;have f1:isSubtype (.type "dict") (.type "dict")=pure true:=F.sub_dict_dict
   wp_walk using wpAny_loadPart' hl,wpAny_loadPart' hb,same0 h1 h2 hl hb
   exact⟨_,rfl,h⟩
section
variable{A:Around}{s:Shared}
theorem qah3{n2:Nat}{dd2:Option Addr}{sl2:Array (Option Value)}(h1:(l == sysModules)=false)(h2:(b == sysModules)=false)(ho:s.heap.get? l=some { cls:=.type "dict",dict:=dd,data:=.dict #[] n,slots:=sl })(ho2:s.heap.get? b=some { cls:=.type "dict",dict:=dd2,data:=.dict #[] n2,slots:=sl2 })(hu:A.units < cLine):RcAt A s (.ref l) (.ref b) true/\RcNeAt A s (.ref l) (.ref b) false :=
 ⟨λ prog w E Q h=>richCompare_meets_room (op:=.Eq) ⟨_,ho,rfl⟩ ⟨_,ho2,rfl⟩ F.slot_dict_eq F.entry_dict_eq (F.args_dict_eq_2 _ _) (qaD3 l b n n2 dd dd2 sl sl2 h1 h2) ⟨ho,ho2,show Value.bool true≠Value.notImplemented/\Q (.bool true) s from⟨(λ x=>nomatch x),h⟩⟩ hu,
  λ prog w E Q h=>richCompare_meets_room (op:=.NotEq) ⟨_,ho,rfl⟩ ⟨_,ho2,rfl⟩ F.slot_dict_ne F.entry_dict_ne (F.args_dict_ne_2 _ _) (qaz7 l b n n2 dd dd2 sl sl2 h1 h2) ⟨ho,ho2,show Value.bool false≠Value.notImplemented/\Q (.bool false) s from⟨(λ x=>nomatch x),h⟩⟩ hu⟩
theorem rc_dt{es:Array DictEntry}{items2:Array Value}(ho:s.heap.get? l=some { cls:=.type "dict",dict:=dd,data:=.dict es n,slots:=sl })(hb:s.heap.IsTuple b items2)(hu:A.units < cLine):RcAt A s (.ref l) (.ref b) false/\RcNeAt A s (.ref l) (.ref b) true:=by
 obtain⟨⟨cls2,dd2,data2,sl2⟩,ho2,hc2,n2,hd2⟩:=id hb;simp only at hc2 hd2;subst hc2 hd2;have hne:l≠b:=λ e=>by
   subst e;rw[ho] at ho2
   have:=congrArg (λ o:Option Obj=>o.map (·.cls)) ho2
   simp at this
 exact⟨λ prog w E Q h=>rc_eq_decline_or (k:=false) ⟨_,ho,rfl⟩ ⟨_,ho2,rfl⟩ (by decide) F.sub_tuple_dict F.slot_dict_eq F.slot_tuple_eq_refl
     (λ _ hq=>call_meets F.slot_dict_eq ⟨_,ho,rfl⟩ F.entry_dict_eq (F.args_dict_eq_2 _ _) (qas6 l b es items2 n n2 dd dd2 sl sl2) ⟨ho,ho2,hq⟩)
     (λ _ hq=>call_meets F.slot_tuple_eq_refl ⟨_,ho2,rfl⟩ F.entry_tuple_eq (F.args_tuple_eq_2 _ _) (qal0 l b es items2 n n2 dd dd2 sl sl2) ⟨ho,ho2,hq⟩)
     (λ _ hq=>wpAny_isSame_ref_other hne ho ho2 (by simp) hq) (.inr hu) h,
   λ prog w E Q h=>rc_ne_decline_or (k:=false) ⟨_,ho,rfl⟩ ⟨_,ho2,rfl⟩ (by decide) F.sub_tuple_dict F.slot_dict_ne F.slot_tuple_ne_refl
     (λ _ hq=>call_meets F.slot_dict_ne ⟨_,ho,rfl⟩ F.entry_dict_ne (F.args_dict_ne_2 _ _) (qap7 l b es items2 n n2 dd dd2 sl sl2) ⟨ho,ho2,hq⟩)
     (λ _ hq=>call_meets F.slot_tuple_ne_refl ⟨_,ho2,rfl⟩ F.entry_tuple_ne (F.args_tuple_ne_2 _ _) (qak9 l b es items2 n n2 dd dd2 sl sl2) ⟨ho,ho2,hq⟩)
     (λ _ hq=>wpAny_isSame_ref_other hne ho ho2 (by simp) hq) (.inr hu) h⟩
end
end LD
namespace L2
open PySem PySem.Spec PyProof.Rows PySem.SeqAt
variable{A:Around}{a:Addr}{xs:List V}
inductive EqD(H:Hp):Nat->V->V->Bool->Prop
 | flat {n:Nat} {x y:V} (hx:flatV x=true) (hy:flatV y=true):EqD H n x y (eqV x y)
 | same {n:Nat} (a:Addr):EqD H n (.ref a) (.ref a) true
 | lsts {n:Nat} {a b:Addr} {xs ys:List V} {e:Nat->Bool} (ne:a≠b) (ha:H a=some (.lst xs)) (hb:H b=some (.lst ys)) (hl:xs.length=ys.length) (he:∀ i x y,xs[i]? = some x->ys[i]? = some y->EqD H n x y (e i)):EqD H (n+1) (.ref a) (.ref b) ((List.range xs.length).all e)
 | lens {n:Nat} {a b:Addr} {xs ys:List V} (ne:a≠b) (ha:H a=some (.lst xs)) (hb:H b=some (.lst ys)) (hl:xs.length≠ys.length):EqD H (n+1) (.ref a) (.ref b) false
 | tups {n:Nat} {a b:Addr} {xs ys:List V} {e:Nat->Bool} (ne:a≠b) (ha:H a=some (.tup xs)) (hb:H b=some (.tup ys)) (he:∀ i x y,xs[i]? = some x->ys[i]? = some y->EqD H n x y (e i)):EqD H (n+1) (.ref a) (.ref b) ((List.range (min xs.length ys.length)).all e&&xs.length == ys.length)
 | dcts {n:Nat} {a b:Addr} (ne:a≠b) (ha:H a=some (.dK [])) (hb:H b=some (.dK [])):EqD H n (.ref a) (.ref b) true
inductive RcD(H:Hp):V->V->Bool->Prop
 | flat {x y:V} (hx:flatV x=true) (hy:flatV y=true):RcD H x y (eqV x y)
 | lsts {a b:Addr} {xs ys:List V} {e:Nat->Bool} (ha:H a=some (.lst xs)) (hb:H b=some (.lst ys)) (hl:xs.length=ys.length) (he:∀ i x y,xs[i]? = some x->ys[i]? = some y->EqD H 20 x y (e i)):RcD H (.ref a) (.ref b) ((List.range xs.length).all e)
 | lens {a b:Addr} {xs ys:List V} (ha:H a=some (.lst xs)) (hb:H b=some (.lst ys)) (hl:xs.length≠ys.length):RcD H (.ref a) (.ref b) false
 | tups {a b:Addr} {xs ys:List V} {e:Nat->Bool} (ha:H a=some (.tup xs)) (hb:H b=some (.tup ys)) (he:∀ i x y,xs[i]? = some x->ys[i]? = some y->EqD H 20 x y (e i)):RcD H (.ref a) (.ref b) ((List.range (min xs.length ys.length)).all e&&xs.length == ys.length)
 | lt {a b:Addr} {xs ys:List V} (ha:H a=some (.lst xs)) (hb:H b=some (.tup ys)):RcD H (.ref a) (.ref b) false
 | tl {a b:Addr} {xs ys:List V} (ha:H a=some (.tup xs)) (hb:H b=some (.lst ys)):RcD H (.ref a) (.ref b) false
 | lf {a:Addr} {xs:List V} {y:V} (ha:H a=some (.lst xs)) (hy:flatV y=true):RcD H (.ref a) y false
 | fl {a:Addr} {xs:List V} {y:V} (ha:H a=some (.lst xs)) (hy:flatV y=true):RcD H y (.ref a) false
 | tf {a:Addr} {xs:List V} {y:V} (ha:H a=some (.tup xs)) (hy:flatV y=true):RcD H (.ref a) y false
 | ft {a:Addr} {xs:List V} {y:V} (ha:H a=some (.tup xs)) (hy:flatV y=true):RcD H y (.ref a) false
 | dcts {a b:Addr} (ha:H a=some (.dK [])) (hb:H b=some (.dK [])):RcD H (.ref a) (.ref b) true
 | dt {a b:Addr} {kvs:List (Key×V)} {ys:List V} (ha:H a=some (.dK kvs)) (hb:H b=some (.tup ys)):RcD H (.ref a) (.ref b) false
section
variable{X:Cx}{Dy:List (Addr×Obj)}{σ:St}{H:Hp}{s:Shared}
theorem Inv.lstI(I:Inv X Dy σ H s)(h:H a=some (.lst xs)):∃ its:List Value,Vals xs its/\s.heap.IsList a its.toArray:=by
 obtain⟨z,its,n,r,_,e⟩:=I.lstM h;exact⟨its,r,_,e,rfl,n,rfl⟩
theorem Inv.tupI(I:Inv X Dy σ H s)(h:H a=some (.tup xs)):∃ its:List Value,Vals xs its/\s.heap.IsTuple a its.toArray:=by
 obtain⟨z,its,r,o,h1,h2,n,h3⟩:=I.hok a _ h;exact⟨its,r,o,h1,h2,n,h3⟩
theorem Inv.dK0(I:Inv X Dy σ H s){kvs:List (Key×V)}(h:H a=some (.dK kvs)):(a == sysModules)=false/\∃ es n,s.heap.get? a=some { cls:=.type "dict",dict:=none,data:=.dict es n,slots:=#[] }/\(kvs=[]->es = #[]):=by
 obtain⟨_,h1,vs,kv,o,es,ep,h2,⟨c1,c2,c3⟩,h3,_,pr,_⟩:=I.hok a _ h;obtain⟨oc,od,dt,sl⟩:=o;simp only at c1 c2 c3 h3;subst c1 c2 c3 h3;refine⟨h1,es,ep,h2,λ e=>?_⟩;subst e;cases kv;have e:es.toList=[]:=by
   generalize es.toList=l at pr;cases pr;rfl
 exact Array.toList_eq_nil_iff.mp e
theorem qq7(A:Around):A.in1.units<=A.units+1:=zA5 _
theorem qJ8{P:V->V->Nat->Prop}{e:Nat->Bool}{ys:List V}{its its2:List Value}(r:Vals xs its)(r2:Vals ys its2)(k:∀ i x y u v,xs[i]? = some x->ys[i]? = some y->RelV x u->RelV y v->EqAt A s u v (e i)) :
   ∀ j (h1:j < its.toArray.size) (h2:j < its2.toArray.size),EqAt A s its.toArray[j] its2.toArray[j] (e j):=by
 intro j h1 h2;rw[zA3] at h1 h2;have l1:=r.length;have l2:=r2.length;obtain⟨u,hu,ru⟩:=r.get (i:=j) (x:=xs[j]'(by lia)) (by simp);obtain⟨v,hv,rv⟩:=r2.get (i:=j) (x:=ys[j]'(by lia)) (by simp);have e1:its.toArray[j]=u:=by
   have:its[j]? = some its[j]:=by simp[h1]
   rw[this] at hu;simpa using Option.some.inj hu
 have e2:its2.toArray[j]=v:=by
   have:its2[j]? = some its2[j]:=by simp[h2]
   rw[this] at hv;simpa using Option.some.inj hv
 rw[e1,e2];exact k j _ _ u v (by simp) (by simp) ru rv
theorem EqD.at(I:Inv X Dy σ H s){n:Nat}{x y:V}{b:Bool}(h:EqD H n x y b):∀{A:Around}{u v:Value},RelV x u->RelV y v->A.units+n+1 < cLine->EqAt A s u v b:=by
 induction h with
 | flat hx hy=>intro A u v rx ry _;exact qaD5 rx ry hx hy
 | same a=>intro A u v rx ry _;cases rx;cases ry;exact EqAt.same _
 | @lsts n a b xs ys e ne ha hb hl he ih =>
   intro A u v rx ry hu;cases rx;cases ry;obtain⟨its,r,p⟩:=I.lstI ha;obtain⟨its2,r2,p2⟩:=I.lstI hb;have hs:its.toArray.size=its2.toArray.size:=by rw[zA3,zA3,<- r.length,<- r2.length,hl]
   have q:=EqAt.of_refs ne (RcAt.lists (A:=A) p p2 hs (by lia) (e:=e) (qJ8 (P:=λ _ _ _=>True) r r2 λ i x y u v e1 e2 ru rv=>ih i x y e1 e2 ru rv (by have:=qq7 A;lia)));rw[zA3,<- r.length] at q;exact q
 | @lens n a b xs ys ne ha hb hl =>
   intro A u v rx ry hu;cases rx;cases ry;obtain⟨its,r,p⟩:=I.lstI ha;obtain⟨its2,r2,p2⟩:=I.lstI hb;exact EqAt.of_refs ne (RcAt.lists_lengths p p2 (by rw[zA3,zA3,<- r.length,<- r2.length];simpa using hl) (by lia))
 | @tups n a b xs ys e ne ha hb he ih =>
   intro A u v rx ry hu;cases rx;cases ry;obtain⟨its,r,p⟩:=I.tupI ha;obtain⟨its2,r2,p2⟩:=I.tupI hb;have q:=EqAt.of_refs ne (RcAt.tuples (A:=A) p p2 (by lia) (e:=e) (qJ8 (P:=λ _ _ _=>True) r r2 λ i x y u v e1 e2 ru rv=>ih i x y e1 e2 ru rv (by have:=qq7 A;lia)));rw[zA3,zA3,<- r.length,<- r2.length] at q;exact q
 | @dcts n a b ne ha hb =>
   intro A u v rx ry hu;cases rx;cases ry;obtain⟨h1,es,m,h2,h3⟩:=I.dK0 ha;obtain⟨k1,es',m',k2,k3⟩:=I.dK0 hb;cases h3 rfl;cases k3 rfl;exact EqAt.of_refs ne (LD.qah3 h1 k1 h2 k2 (by lia)).1
theorem RcD.at(I:Inv X Dy σ H s){x y:V}{b:Bool}(h:RcD H x y b){u v:Value}(rx:RelV x u)(ry:RelV y v)(hu:A.units+60 < cLine):RcAt A s u v b/\RcNeAt A s u v (!b):=by
 cases h with
 | flat hx hy =>
   cases x with
   | non =>
     cases rx;cases y with
     | non=>cases ry;exact⟨RcAt.none_none,RcNeAt.none_none⟩
     | bl b=>cases ry;exact⟨RcAt.none_bool b,RcNeAt.none_bool b⟩
     | int b=>obtain⟨t,rfl⟩:=ry;exact⟨RcAt.none_int b t,RcNeAt.none_int b t⟩
     | str b=>obtain⟨t,rfl⟩:=ry;exact⟨RcAt.none_str b t,RcNeAt.none_str b t⟩
     | _=>exact absurd (show false=true from hy) zAg
   | bl a =>
     cases rx;cases y with
     | non=>cases ry;exact⟨RcAt.bool_none a,RcNeAt.bool_none a⟩
     | bl b=>cases ry;exact⟨RcAt.bool_bool a b,RcNeAt.bool_bool a b⟩
     | int b=>obtain⟨t,rfl⟩:=ry;exact⟨RcAt.bool_int a b t,RcNeAt.bool_int a b t⟩
     | str b=>obtain⟨t,rfl⟩:=ry;exact⟨RcAt.bool_str a b t,RcNeAt.bool_str a b t⟩
     | _=>exact absurd (show false=true from hy) zAg
   | int a =>
     obtain⟨t',rfl⟩:=rx;cases y with
     | non=>cases ry;exact⟨RcAt.int_none a t',RcNeAt.int_none a t'⟩
     | bl b=>cases ry;exact⟨RcAt.int_bool a t' b,RcNeAt.int_bool a t' b⟩
     | int b=>obtain⟨t,rfl⟩:=ry;exact⟨RcAt.int_int a t' b t,RcNeAt.int_int a t' b t⟩
     | str b=>obtain⟨t,rfl⟩:=ry;exact⟨RcAt.int_str a t' b t,RcNeAt.int_str a t' b t⟩
     | _=>exact absurd (show false=true from hy) zAg
   | str a =>
     obtain⟨t',rfl⟩:=rx;cases y with
     | non=>cases ry;exact⟨RcAt.str_none a t',RcNeAt.str_none a t'⟩
     | bl b=>cases ry;exact⟨RcAt.str_bool a t' b,RcNeAt.str_bool a t' b⟩
     | int b=>obtain⟨t,rfl⟩:=ry;exact⟨RcAt.str_int a t' b t,RcNeAt.str_int a t' b t⟩
     | str b=>obtain⟨t,rfl⟩:=ry;exact⟨RcAt.str_str a t' b t,RcNeAt.str_str a t' b t⟩
     | _=>exact absurd (show false=true from hy) zAg
   | _=>exact absurd (show false=true from hx) zAg
 | @lsts a b xs ys e ha hb hl he =>
   cases rx;cases ry;obtain⟨its,r,p⟩:=I.lstI ha;obtain⟨its2,r2,p2⟩:=I.lstI hb;have hs:its.toArray.size=its2.toArray.size:=by rw[zA3,zA3,<- r.length,<- r2.length,hl]
   have k:=qJ8 (P:=λ _ _ _=>True) (e:=e) (A:=A.in1) (s:=s) r r2 λ i x y u v e1 e2 ru rv=>(he i x y e1 e2).at I ru rv (by have:=qq7 A;lia)
   have q1:=RcAt.lists p p2 hs (by lia) k;have q2:=RcNeAt.lists p p2 hs (by lia) k;rw[zA3,<- r.length] at q1 q2;exact⟨q1,q2⟩
 | @lens a b xs ys ha hb hl =>
   cases rx;cases ry;obtain⟨its,r,p⟩:=I.lstI ha;obtain⟨its2,r2,p2⟩:=I.lstI hb;have hs:(its.toArray.size != its2.toArray.size)=true:=by rw[zA3,zA3,<- r.length,<- r2.length];simpa using hl
   exact⟨RcAt.lists_lengths p p2 hs (by lia),RcNeAt.lists_lengths p p2 hs (by lia)⟩
 | @tups a b xs ys e ha hb he =>
   cases rx;cases ry;obtain⟨its,r,p⟩:=I.tupI ha;obtain⟨its2,r2,p2⟩:=I.tupI hb;have k:=qJ8 (P:=λ _ _ _=>True) (e:=e) (A:=A.in1) (s:=s) r r2 λ i x y u v e1 e2 ru rv=>(he i x y e1 e2).at I ru rv (by have:=qq7 A;lia)
   have q1:=RcAt.tuples p p2 (by lia) k;have q2:=RcNeAt.tuples p p2 (by lia) k;rw[zA3,zA3,<- r.length,<- r2.length] at q1 q2;exact⟨q1,q2⟩
 | lt ha hb =>
   cases rx;cases ry;obtain⟨its,r,p⟩:=I.lstI ha;obtain⟨its2,r2,p2⟩:=I.tupI hb;exact⟨RcAt.list_tuple p p2 (by lia),RcNeAt.list_tuple p p2 (by lia)⟩
 | tl ha hb =>
   cases rx;cases ry;obtain⟨its,r,p⟩:=I.tupI ha;obtain⟨its2,r2,p2⟩:=I.lstI hb;exact⟨RcAt.tuple_list p p2 (by lia),RcNeAt.tuple_list p p2 (by lia)⟩
 | lf ha hy =>
   cases rx;obtain⟨its,r,p⟩:=I.lstI ha;cases y with
   | non=>cases ry;exact⟨RcAt.list_none p (by lia),RcNeAt.list_none p (by lia)⟩
   | bl b=>cases ry;exact⟨RcAt.list_bool b p (by lia),RcNeAt.list_bool b p (by lia)⟩
   | int b=>obtain⟨t,rfl⟩:=ry;exact⟨RcAt.list_int b t p (by lia),RcNeAt.list_int b t p (by lia)⟩
   | str b=>obtain⟨t,rfl⟩:=ry;exact⟨RcAt.list_str b t p (by lia),RcNeAt.list_str b t p (by lia)⟩
   | _=>exact absurd (show false=true from hy) zAg
 | fl ha hy =>
   cases ry;obtain⟨its,r,p⟩:=I.lstI ha;cases x with
   | non=>cases rx;exact⟨RcAt.none_list p (by lia),RcNeAt.none_list p (by lia)⟩
   | bl b=>cases rx;exact⟨RcAt.bool_list b p (by lia),RcNeAt.bool_list b p (by lia)⟩
   | int b=>obtain⟨t,rfl⟩:=rx;exact⟨RcAt.int_list b t p (by lia),RcNeAt.int_list b t p (by lia)⟩
   | str b=>obtain⟨t,rfl⟩:=rx;exact⟨RcAt.str_list b t p (by lia),RcNeAt.str_list b t p (by lia)⟩
   | _=>exact absurd (show false=true from hy) zAg
 | tf ha hy =>
   cases rx;obtain⟨its,r,p⟩:=I.tupI ha;cases y with
   | non=>cases ry;exact⟨RcAt.tuple_none p (by lia),RcNeAt.tuple_none p (by lia)⟩
   | bl b=>cases ry;exact⟨RcAt.tuple_bool b p (by lia),RcNeAt.tuple_bool b p (by lia)⟩
   | int b=>obtain⟨t,rfl⟩:=ry;exact⟨RcAt.tuple_int b t p (by lia),RcNeAt.tuple_int b t p (by lia)⟩
   | str b=>obtain⟨t,rfl⟩:=ry;exact⟨RcAt.tuple_str b t p (by lia),RcNeAt.tuple_str b t p (by lia)⟩
   | _=>exact absurd (show false=true from hy) zAg
 | ft ha hy =>
   cases ry;obtain⟨its,r,p⟩:=I.tupI ha;cases x with
   | non=>cases rx;exact⟨RcAt.none_tuple p (by lia),RcNeAt.none_tuple p (by lia)⟩
   | bl b=>cases rx;exact⟨RcAt.bool_tuple b p (by lia),RcNeAt.bool_tuple b p (by lia)⟩
   | int b=>obtain⟨t,rfl⟩:=rx;exact⟨RcAt.int_tuple b t p (by lia),RcNeAt.int_tuple b t p (by lia)⟩
   | str b=>obtain⟨t,rfl⟩:=rx;exact⟨RcAt.str_tuple b t p (by lia),RcNeAt.str_tuple b t p (by lia)⟩
   | _=>exact absurd (show false=true from hy) zAg
 | dcts ha hb =>
   cases rx;cases ry;obtain⟨h1,es,m,h2,h3⟩:=I.dK0 ha;obtain⟨k1,es',m',k2,k3⟩:=I.dK0 hb;cases h3 rfl;cases k3 rfl;exact LD.qah3 h1 k1 h2 k2 (by lia)
 | dt ha hb =>
   cases rx;cases ry;obtain⟨h1,es,m,h2,h3⟩:=I.dK0 ha;obtain⟨its2,r2,p2⟩:=I.tupI hb;exact LD.rc_dt h2 p2 (by lia)
end
def rEqD:R2:=λ x y H Q=>∃ b,RcD H x y b/\Q (.bl b) H
def rNeD:R2:=λ x y H Q=>∃ b,RcD H x y b/\Q (.bl (!b)) H
theorem qi5{X:Cx}(hu:X.A.units+64 < cLine):OpR X (compareOp .Eq) rEqD:=by
 intro Dy s σ H x y v u Q I rx ry ⟨b,hb,q⟩;exact(hb.at I rx ry (A:=X.A) (by lia)).1 X.prog X.w X.xe _ ⟨.bl b,H,I,rfl,q⟩
theorem qh4{X:Cx}(hu:X.A.units+64 < cLine):OpR X (compareOp .NotEq) rNeD:=by
 intro Dy s σ H x y v u Q I rx ry ⟨b,hb,q⟩;exact(hb.at I rx ry (A:=X.A) (by lia)).2 X.prog X.w X.xe _ ⟨.bl (!b),H,I,rfl,q⟩
theorem qt2:∀{x:V},flatV x=true->eqV x x=true:=by
 intro x h;cases x with
 | non=>rfl
 | bl b=>simp[eqV]
 | int b=>simp[eqV]
 | str b=>simp[eqV]
 | _=>exact absurd (show false=true from h) zAg
theorem Room.u64{k:Nat}(hr:Room k A):A.units+64 < cLine:=hr.units
end L2
namespace L2
open PySem PySem.Spec PyProof.Rows
variable{vs:Array Value}
section
variable{X:Cx}
def qah4:V->List V->Hp->VK->Prop:=λ x vs H Q=>∃ l xs y i,x=.ref l/\vs=[.int i,y]/\H l=some (.lst xs)/\0<=i/\i < 2 ^ 63/\xs.length < sizeLine/\Q .non (upd H l (.lst (xs.take i.toNat++y::xs.drop i.toNat)))
theorem qad0:MtM X "list.insert" qah4:=by
 intro Dy s σ H x vs v us Q I rx rv h;obtain⟨l,xs,y,i,rfl,rfl,hH,h0,h1,hz,q⟩:=h;cases rx;obtain⟨ui,u,rfl,ri,ru⟩:=rv.two;obtain⟨t,rfl⟩:=ri;obtain⟨z,its,n,r,hl,e⟩:=I.lstM hH;have hfit:¬ (!Builtin.List.listFitsIndex i)=true:=by
   unfold Builtin.List.listFitsIndex;rw[zA8 (show -(2 ^ 63:Int)<=i by lia),zA8 (show i < 2 ^ 63 by lia)];decide
 refine call_meets F.slot_list_insert ⟨_,e,rfl⟩ F.entry_list_insert (F.args_list_insert_3 _ _ _) (PySem.AutoListH.list_insert_list_int_val_1 l its.toArray n i t u hfit (by rw[zA3];lia)) ⟨e,?_⟩;refine⟨.non,_,I.lset (its':=its.take i.toNat++u::its.drop i.toNat) hH e ?_ ((r.take _).append (.cons ru (r.drop _))) ?_,rfl,q⟩
 . dsimp only
   rw[if_neg (by lia),zA3];apply Array.toList_inj.mp;simp;by_cases hi:i.toNat<=its.length
   . rw[Nat.min_eq_left hi,List.append_cancel_left_eq]
     rw[zBc (by simp)]
   have hg:its.length<=i.toNat:=by lia
   rw[Nat.min_eq_right hg];simp[zBc hg,List.drop_of_length_le hg]
 rw[zAj,zAk,zBs,List.length_drop];lia
end
structure Cl(K:PySem.W.Frag)(mg:Str->Option Value)(x:Str)(C:Addr):Prop where
 cl:Cls K C
 m:mg x=some (.ref C)
structure Md(K:PySem.W.Frag)(C:Addr)(m qual:Str)(st:Stmt)(f:Addr)(fd:FuncData)(ps:List Str):Prop where
 F:Fun K m qual st f fd
 b:Binds K fd ps []
 me:Meth K C m f
 isf:PySem.W.isFn K (.ref f)=true
theorem mdmk{K:PySem.W.Frag}{C:Addr}{m qual:Str}{st:Stmt}{f:Addr}{ps:List Str}{oc:Value}{od an:Option Addr}{osl:Array (Option Value)}{kV doc pm cdv ct:Value}(l:K.lookup f=some ⟨oc,od,.func (PySem.W.fnOf m qual (qf7 st) (qd1 st) (qa3 st) .none kV doc pm an cdv ct),osl⟩)(c:PySem.W.codeIn K cdv qual=true)(k:PySem.W.keepIn K (.ref f)=true)(a:PySem.W.findIn K (.ref C) m=some (some (.ref f)))(i:PySem.W.isFn K (.ref f)=true)(h:∀(kV doc pm:Value)(an:Option Addr)(cdv ct:Value)(us:List Value),us.length=ps.length->bindArgs (PySem.W.fnOf m qual (qf7 st) (qd1 st) (qa3 st) .none kV doc pm an cdv ct) ⟨us,[]⟩=pure (ps.zip us)) :
   Md K C m qual st f (PySem.W.fnOf m qual (qf7 st) (qd1 st) (qa3 st) .none kV doc pm an cdv ct) ps:=⟨qae4 l c k,(qae4 l c k).binds h,⟨a,i,k⟩,i⟩
section
variable{M:Model}{A:Around}{E:Value->Shared->Prop}{s:Shared}
structure Left(h h':Heap)(f:List Addr)(e T:Addr)(oe:Obj)(old:Option Value):Prop where
 new:h.objs.size<=T
 keep:∀ b o,h.get? b=some o->b≠e->old≠some (.ref b)->b∉f->h'.get? b=some o
 slot:∀ b o,h.get? b=some o->b∈f->∃ sl,h'.get? b=some { o with slots:=sl }
 there:∀ b o,h.get? b=some o->∃ o',h'.get? b=some o'
 exc:∃ vs oT ts,h'.get? e=some { oe with data:=.fields vs }/\1 < vs.size/\vs[1]? = some (.ref T)/\T≠e/\h'.get? T=some oT/\oT.data=.fields ts/\ts[3]? = some .none
theorem qai8{o:Obj}(hd:o.data=.fields vs)(g:Array Value->Array Value):Obj.mapFields g o={ o with data:=.fields (g vs) }:=by
 obtain⟨a,b,c,d⟩:=o;cases hd;rfl
theorem qD9{base:Heap}{env:Env}{outer:List Env}{L e:Addr}{oe:Obj}{head:Value}{hn:Bool}{old:Option Value}{Q:Unit->Shared->Prop}(hfr:A.frames=some (env::outer))(hl:s.heap.FunFrames base (env::outer))(hf:env.frame=some L)(he:s.heap.get? e=some oe)(hd:oe.data=.fields vs)(hsz:1 < vs.size)(h:∀ h' T,Left s.heap h' ((env::outer).filterMap (·.frame)) e T oe old->Q () { s with heap:=h' }) :
   wpAny M A (do let a <- frameOf env;let pl <- entryPlaceOf L hn;let b <- EntryCells.newEntry head a .none (rawInt L) .none pl;setField (.ref e) 1 b)
     (λ _ s'=>wpAny M A (setFlight (.ref e) none) Q E s') E s:=by
 have nfr:∀ b o ws,s.heap.get? b=some o->o.data=.fields ws->b∉(env::outer).filterMap (·.frame):=λ b o ws q1 q2 hm=>by
   obtain⟨_,o',q3,q4⟩:=hl.mem hm;rw[q1] at q3;cases q3;exact q4 ws q2
 refine wpAny_bind (wpAny_frameOf_fun hfr hl hf λ g1 q1=>?_);refine wpAny_bind (wpAny_entryPlaceOf λ pl isp=>?_);unfold EntryCells.newEntry newFields;refine wpAny_bind (wpAny_newObj_type ?_ (isp.sizeOk5 _ _ _ _ _));obtain⟨qs,qk,qu⟩:=q1;have e1:g1.get? e=some oe:=(qk e (nfr e oe vs he hd)).trans he;generalize hto:({ cls:=.type "traceback",dict:=none,data:=.fields ([head,.ref L,.none,rawInt L,.none]++(if pl.isEmpty then List.replicate 6 Value.none else pl)).toArray }:Obj)=oT;have dT:∃ ts,oT.data=.fields ts/\3 < ts.size:=by
   refine⟨([head,.ref L,.none,rawInt L,.none]++(if pl.isEmpty then List.replicate 6 Value.none else pl)).toArray,by rw[<- hto],?_⟩;simp only[zA3,zAj,zAk,zBz];lia
 have nf:oT.isFreed=false:=by rw[<- hto];rfl
 obtain⟨ts,dT,d3⟩:=dT;have e2:=zA2 (h:=g1) oT e1;refine wpAny_setField e2 hd hsz ?_;have ne:g1.objs.size≠e:=Nat.ne_of_gt (zA6 e1);have d4:=Obj.data_mapFields hd (·.setIfInBounds 1 (Value.ref g1.objs.size));have e3:=zBj (Obj.mapFields (·.setIfInBounds 1 (Value.ref g1.objs.size))) e2 (Obj.isFreed_of_fields d4);have t3:((g1.push oT).update e (Obj.mapFields (·.setIfInBounds 1 (Value.ref g1.objs.size)))).get? g1.objs.size=some oT:=(zB8 _ _ (Ne.symm ne)).trans (zAw g1 nf);unfold setFlight;refine wpAny_bind (wpAny_field e3 d4 (x:=.ref g1.objs.size) (by simp[hsz]) ?_);rw[if_pos (show (Value.ref g1.objs.size != Value.none)=true from by simp)];refine wpAny_setField t3 dT d3 (h _ g1.objs.size ?_);have keep:∀ b o,b≠e->g1.get? b=some o->(((g1.push oT).update e (Obj.mapFields (·.setIfInBounds 1 (Value.ref g1.objs.size)))).update g1.objs.size (Obj.mapFields (·.setIfInBounds 3 ((none:Option Addr).elim Value.none λ f=>rawInt f)))).get? b=some o:=λ b o n1 n2=>by
   rw[zB8 _ _ (Nat.ne_of_gt (zA6 n2)),zB8 _ _ (Ne.symm n1)];exact zA2 _ n2
 have ee:(((g1.push oT).update e (Obj.mapFields (·.setIfInBounds 1 (Value.ref g1.objs.size)))).update g1.objs.size (Obj.mapFields (·.setIfInBounds 3 ((none:Option Addr).elim Value.none λ f=>rawInt f)))).get? e=some { oe with data:=.fields (vs.setIfInBounds 1 (Value.ref g1.objs.size)) }:=by
   rw[zB8 _ _ ne,e3,qai8 hd]
 refine⟨Nat.le_of_eq qs.symm,λ b o hb n1 n2 n3=>keep b o n1 ((qk b n3).trans hb),λ b o hb hm=>?_,λ b o hb=>?_,_,_,_,ee,by simpa using hsz,by simp[hsz],ne,zBj _ t3 (Obj.isFreed_of_fields (Obj.data_mapFields dT _)),Obj.data_mapFields dT _,by simp[d3]⟩
 . obtain⟨sl,hs⟩:=qu b o hb
   refine⟨sl,keep b _ (λ z=>?_) hs⟩;subst z;rw[he] at hb;cases hb;exact nfr b _ vs he hd hm
 obtain⟨sl,hs⟩:=qu b o hb;by_cases z:b=e
 . subst z;exact⟨_,ee⟩
 exact⟨_,keep b _ z hs⟩
theorem qC9{base:Heap}{env:Env}{outer:List Env}{L e:Addr}{oe:Obj}{Q:Unit->Shared->Prop}(hfr:A.frames=some (env::outer))(hl:s.heap.FunFrames base (env::outer))(hf:env.frame=some L)(he:s.heap.get? e=some oe)(hd:oe.data=.fields vs)(hsz:1 < vs.size)(ht:vs[1]? = some .none∨∃ T oT ts,vs[1]? = some (.ref T)/\T≠e/\s.heap.get? T=some oT/\oT.data=.fields ts/\ts[3]? = some .none)(h:∀ h' T,Left s.heap h' ((env::outer).filterMap (·.frame)) e T oe vs[1]? -> Q () { s with heap:=h' }) :
   wpAny M A (noteFrame (.ref e) env) (λ _ s'=>wpAny M A (setFlight (.ref e) none) Q E s') E s:=by
 unfold noteFrame;simp only[hf];rcases ht with h1 | ⟨T,oT,ts,h1,hTe,hT,dT,h3⟩
 . refine wpAny_bind (wpAny_field he hd h1 ?_)
   rw[if_neg (by decide)];exact qD9 (old:=vs[1]?) hfr hl hf he hd hsz h
 refine wpAny_bind (wpAny_field he hd h1 ?_);rw[if_pos (show (Value.ref T != Value.none)=true from by simp)];refine wpAny_bind (wpAny_field hT dT h3 ?_);rw[if_neg (show ¬ ((Value.none == rawInt L)=true) from by simp[rawInt])];have h4:=(Array.getElem?_eq_some_iff.mp h3).1;refine wpAny_bind (wpAny_setField hT dT h4 ?_);have other:∀ b,b≠T->(s.heap.update T (Obj.mapFields (·.setIfInBounds 3 Value.none))).get? b=s.heap.get? b:=λ b hb=>zB8 _ _ (Ne.symm hb)
 have nT:∀ b∈(env::outer).filterMap (·.frame),b≠T:=λ b hm z=>by
   obtain⟨_,o',q3,q4⟩:=hl.mem hm;subst z;rw[hT] at q3;cases q3;exact q4 ts dT
 have sT:(s.heap.update T (Obj.mapFields (·.setIfInBounds 3 Value.none))).get? T=some { oT with data:=.fields (ts.setIfInBounds 3 .none) }:=by
   rw[zBj _ hT (Obj.isFreed_of_fields (Obj.data_mapFields dT _)),qai8 dT]
 have hl':(s.heap.update T (Obj.mapFields (·.setIfInBounds 3 Value.none))).FunFrames base (env::outer):=hl.of_keeps λ b o hb hnf=>⟨o,(other b λ z=>by subst z;rw[hT] at hb;cases hb;exact hnf ts dT).trans hb,rfl⟩
 refine qD9 (s:={ s with heap:=s.heap.update T (Obj.mapFields (·.setIfInBounds 3 Value.none)) }) (old:=vs[1]?) hfr hl' hf ((other e (Ne.symm hTe)).trans he) hd hsz λ h' T' q=>h h' T' ?_
 obtain⟨q1,q2,q3,q4,q5⟩:=q;refine⟨by rwa[show (s.heap.update T (Obj.mapFields (·.setIfInBounds 3 Value.none))).objs.size=s.heap.objs.size from Heap.size_update _ _ _] at q1,λ b o hb n1 n2 n3=>?_,λ b o hb hm=>q3 b o ((other b (nT b hm)).trans hb) hm,λ b o hb=>?_,q5⟩
 . exact q2 b o ((other b λ z=>n2 (by rw[h1,z])).trans hb) n1 n2 n3
 by_cases z:b=T
 . subst z;exact q4 _ _ sT
 exact q4 b o ((other b z).trans hb)
end
end L2
namespace L2
open PySem PySem.Spec PyProof.Rows Builtin Builtin.ObjectAttr
variable{ox:Obj}
def Hy:List Value->Bool
 | .ref _::r=>Hy r
 | .type n::r=>Value.type n::r == [.type "ValueError",.type "Exception",.type "BaseException",.type "object"]
 | _=>false
theorem qH1(self:Value):∀{l:List Value},Hy l=true->refuseLoop self "__setattr__" l=pure ():=by
 intro l
 induction l with
 | nil=>intro e;cases e
 | cons c r ih =>
   intro e;cases c with
   | ref a=>rw[refuseLoop_ref];exact ih e
   | type n=>rw[show (Value.type n::r)=[.type "ValueError",.type "Exception",.type "BaseException",.type "object"] from zBf.mp e];exact PySem.F.store_ValueError.passes self
   | _=>cases e
structure Exc(K:PySem.W.Frag)(C:Addr):Prop where
 mro:(PySem.W.clsIn K C).any (λ cd=>Hy cd.mro)=true
 hd:PySem.W.hasDictIn K C=true
 kts:PySem.W.ktsIn K C "ValueError" = true
 sa:PySem.W.findIn K (.ref C) "__setattr__" = some (some (.builtin "object.__setattr__"))
 ga:PySem.W.findIn K (.ref C) "__getattribute__" = some (some (.builtin "BaseException.__getattribute__"))
 gt:PySem.W.findIn K (.ref C) "__getattr__" = some none
 be:PySem.W.mroIn K C (.type "BaseException")=some true
 ob:PySem.W.mroIn K C (.type "object")=some true
 ty:PySem.W.typeIn K (.ref C)=some (.type "type")
section
variable{prog:Program}{w:World}{A:Around}{E:Value->Shared->Prop}{s:Shared}{K:PySem.W.Frag}{x C:Addr}{name:Str}{v:Value}
theorem qaj7{R:Result->Shared->Prop}{od:Option Obj}{tk:Tok}(X:K.In s.heap)(I:PySem.W.InstAt s.heap x ox C od)(c:Exc K C)(ht:PySem.W.findIn K (.ref C) name=some none)(h:wpAny (model prog w) A.in1 (storeInOwnDict (.ref x) (.ref C) (.str name tk) name v false)
     (λ fin s'=>match fin with | .done f=>R (.ok f) s' | .again c'=>c'.quiet=true/\codeAny (model prog w) A c' R s') (λ e s'=>R (.error e) s') s) :
   codeAny (model prog w) A (.call (.builtin "object.__setattr__") ⟨[.ref x,.str name tk,v],[]⟩) R s:=by
 have SF:=PySem.F.store_object;obtain⟨cd,hc,ho⟩:=PySem.W.any_some c.mro;have sub:PySem.W.Looks (model prog w) s.heap (isInstance (.ref x) (.type "object")) true:=I.type.andThen (PySem.W.looks_mroIn X c.ob);refine codeAny_call_builtin SF.slot.plain SF.entry (@PySem.W.check_slot (model prog w) _ _ s "object.__setattr__" "object" "__setattr__" (.ref x) [.str name tk,v] [] _ SF.kind SF.split sub (SF.args (.ref x) (.str name tk) v) ?_);have hm:PySem.W.Looks (model prog w) s.heap (mroOf (.ref C)) cd.mro:=(PySem.W.looks_clsIn X hc).andThen .now;rw[PySem.W.osa_eq,refuse_eq];refine wpAny_bind (wpAny_bind (I.type.here (wpAny_bind (hm.here ?_))));rw[qH1 _ ho];exact wpAny_pure (wpAny_bind (I.type.here (wpAny_bind ((PySem.W.looks_findIn X ht).here (wpAny_bind (wpAny_pure h))))))
theorem qas2{Q:Unit->Shared->Prop}{vs:Array Value}(X:K.In s.heap)(c:Exc K C)(hx:s.heap.get? x=some ox)(hcl:ox.cls=.ref C)(hda:ox.data=.fields vs)(hdi:ox.dict=none)(ht:PySem.W.findIn K (.ref C) name=some none)(h:∀ h' tk',h'.get? x=some { ox with dict:=some s.heap.objs.size }->h'.Ns1 s.heap.objs.size (λ y=>if y=name then some v else none)->(∀ b o,b≠x->s.heap.get? b=some o->h'.get? b=some o)->Q () { s with heap:=h',toks:=tk' }) :
   wpAny (model prog w) A (setAttr (.ref x) name v) Q E s:=by
 obtain⟨oc,odi,oda,osl⟩:=ox;dsimp only at hcl hda hdi;subst hcl hda hdi;have I:PySem.W.InstAt s.heap x ⟨.ref C,none,.fields vs,osl⟩ C none:=⟨hx,rfl,rfl,True.intro⟩
 refine PySem.W.set_plain X I c.sa (qaj7 (s:={ s with toks:=s.toks+1 }) X I c ht ?_);obtain⟨cd,hc,hd'⟩:=PySem.W.any_some c.hd;refine wpAny_bind (wpAny_pure (wpAny_bind (wpAny_bind (wpAny_loadPart hx (wpAny_bind (PySem.W.Looks.here (s:={ s with toks:=s.toks+1 }) (PySem.W.looks_clsIn X hc) ?_))))));rw[hd'];have x1:(s.heap.push { cls:=.type "dict",data:=.dict #[] }).get? x=some ⟨.ref C,none,.fields vs,osl⟩:=zA2 _ hx;have ne:x≠s.heap.objs.size:=zAi (zA6 hx);simp only[Bool.not_true,Bool.false_eq_true,if_false];rw[if_neg (by simp[typeHasDict])];refine wpAny_bind (wpAny_alloc ?_);refine wpAny_bind (wpAny_update x1 (wpAny_pure ?_));have gd:((s.heap.push { cls:=.type "dict",data:=.dict #[] }).update x λ o=>{ o with dict:=some s.heap.objs.size }).get? s.heap.objs.size=some { cls:=.type "dict",data:=.dict #[] } :=
   (Heap.get?_update_ne _ _ _ _ (Ne.symm ne)).trans (Heap.get?_push_at rfl rfl)
 have nd:((s.heap.push { cls:=.type "dict",data:=.dict #[] }).update x λ o=>{ o with dict:=some s.heap.objs.size }).Ns s.heap.objs.size (λ _=>none) :=
   ⟨_,#[],_,gd,rfl,λ e he=>absurd he (by simp),λ _=>rfl⟩
 show wpAny _ _ (storeInDict s.heap.objs.size (.str name s.toks) name v) _ _ _;unfold storeInDict newKeyGuard;refine wpAny_bind (wpAny_pure (wpAny_bind (wpAny_nsSet1 (Heap.Ns1.of_empty nd) λ h' n2 s2=>?_)));obtain⟨oD,esD,epD,oD1,oD2,oD3⟩:=n2.count (Within.cons name v Within.nil);refine wpAny_bind (wpAny_lookBehind oD1 (by rw[oD2];exact pastItsLine_dict (zAl oD3 (by rw[zAk,zBz,sizeLine_eq];lia))) ?_);refine wpAny_pure (h h' _ ?_ n2 λ b o hb e=>?_)
 . exact(s2.2 x ne).trans (zBj _ x1 rfl)
 exact(s2.2 b (zAi (zA6 e))).trans ((Heap.get?_update_ne _ _ _ _ hb).trans (zA2 _ e))
theorem qas1{Q:Unit->Shared->Prop}{vs:Array Value}{dx:Addr}{mA:Str->Option Value}{ns:List Str}(X:K.In s.heap)(c:Exc K C)(hx:s.heap.get? x=some ox)(hcl:ox.cls=.ref C)(hda:ox.data=.fields vs)(hdi:ox.dict=some dx)(hn:s.heap.Ns1 dx mA)(hw:Within mA ns)(hz:ns.length<=1000)(ht:PySem.W.findIn K (.ref C) name=some none)(h:∀ h' tk',h'.Ns1 dx (λ y=>if y=name then some v else mA y)->(∀ b o,b≠dx->s.heap.get? b=some o->h'.get? b=some o)->Q () { s with heap:=h',toks:=tk' }) :
   wpAny (model prog w) A (setAttr (.ref x) name v) Q E s:=by
 obtain⟨oc,odi,oda,osl⟩:=ox;dsimp only at hcl hda hdi;subst hcl hda hdi;obtain⟨od,hod,_⟩:=qr0 hn;have I:PySem.W.InstAt s.heap x ⟨.ref C,some dx,.fields vs,osl⟩ C (some od):=⟨hx,rfl,rfl,hod⟩
 refine PySem.W.set_plain X I c.sa (qaj7 (s:={ s with toks:=s.toks+1 }) X I c ht ?_);obtain⟨cd,hc,hd'⟩:=PySem.W.any_some c.hd;refine wpAny_bind (wpAny_pure (wpAny_bind (wpAny_bind (wpAny_loadPart hx (wpAny_bind (PySem.W.Looks.here (s:={ s with toks:=s.toks+1 }) (PySem.W.looks_clsIn X hc) ?_))))));rw[hd'];refine wpAny_pure (a:=some dx) (wpAny_bind (wpAny_pure (wpAny_bind ?_)));refine wpAny_nsSet1 (s:={ s with toks:=s.toks+1 }) hn λ h' n2 s2=>?_
 obtain⟨oD,esD,epD,oD1,oD2,oD3⟩:=n2.count (Within.cons name v hw);refine wpAny_bind (wpAny_lookBehind oD1 (by rw[oD2];exact pastItsLine_dict (zAl oD3 (by rw[zAk,sizeLine_eq];lia))) ?_);exact wpAny_pure (h h' _ n2 λ b o hb e=>(s2.2 b hb).trans e)
theorem qaD1{Q:Value->Shared->Prop}{od:Obj}{expr:Bool}(X:K.In s.heap)(c:Exc K C)(I:PySem.W.InstAt s.heap x ox C (some od))(hf:PySem.W.findObj K C (some od) name=some (.value v))(hh:PySem.W.handedIn v=true)(h:∀ tk',Q v { s with toks:=tk' }):wpAny (model prog w) A (getAttr (.ref x) name expr) Q E s:=by
 have FB:=PySem.F.excAttr_ValueError;obtain⟨h0,g,d,t,os⟩:=s;have L0:=I.type (M:=model prog w);have L1:=PySem.W.looks_findIn (M:=model prog w) X c.ga;have L2:=PySem.W.looks_findIn (M:=model prog w) X c.gt;have L3:=PySem.W.looks_find (M:=model prog w) X I hf;have sub:PySem.W.Looks (model prog w) h0 (isInstance (.ref x) (.type "BaseException")) true:=L0.andThen (PySem.W.looks_mroIn X c.be);have k1:builtinKind "BaseException.__getattribute__" = some .slot:=by decide +kernel
 have k2:splitId "BaseException.__getattribute__" = some ("BaseException", "__getattribute__"):=by decide +kernel
 unfold getAttr getAttrBy;refine wpAny_bind (wpAny_mkText (wpAny_holding (wpAny_bind (L0.at (wpAny_bind (L1.at ?_))))));dsimp only;have ne:(Value.builtin "BaseException.__getattribute__" == Value.builtin "object.__getattribute__")=false:=by decide +kernel
 rw[ne,zBi,if_neg zAg];unfold getAttrByItsOwn hookBefore;refine wpAny_bind ?_;rw[if_pos (by rfl)];refine L2.at ?_;unfold callGetattribute boundAndCalled;rw[if_neg (by cases expr<;>decide)];refine wpAny_bind (wpAny_attempt (wpAny_holding ?_));rw[FB.ga.bind (.ref x)];refine wpAny_bind (wpAny_pure (wpAny_call ?_));refine codeAny_call_builtin FB.ga.plain PySem.F.entry_bexc_ga (@PySem.W.check_slot (model prog w) _ _ _ "BaseException.__getattribute__" "BaseException" "__getattribute__" (.ref x) [.str name t] [] _ k1 k2 sub (PySem.F.args_bexc_ga (.ref x) (.str name t)) ?_);unfold Builtin.«object.__getattribute__»;refine wpAny_bind (wpAny_pure (wpAny_bind (wpAny_pure (wpAny_bind (L0.at (wpAny_bind (L3.at ?_)))))));refine wpAny_pure ?_;show wpAny _ _ (handedOut v) _ _ _;rw[PySem.W.handedOut_of hh];exact wpAny_pure (h _)
end
end L2
namespace L2
open PySem PySem.Spec PyProof.Rows
variable{Q:Unit->Shared->Prop}{fr:Bool}{od:Option Addr}{xe:Value->Shared->Prop}
abbrev mroVE:List Value:=[.type "ValueError",.type "Exception",.type "BaseException",.type "object"]
def F6(K:PySem.W.Frag)(C:Addr):Bool:=match K.lookup C with
 | some ⟨.type "type",_,.cls cd,sl⟩=>(match cd.mro,sl.toList with
   | .ref C'::bm,[_,_,_,_,some (.builtin n),_]=>C' == C&&n == "ValueError.__new__" && !cd.hasDel&&PySem.W.tailIn K mroVE bm
   | _,_=>false)
 | _=>false
theorem qY6{K:PySem.W.Frag}{h:Heap}{C:Addr}(X:K.In h)(q:F6 K C=true):∃ nm qn N bs bm hdct sn sub ab col dd k0 k1 k2 k3 k5,
   h.get? C=some (excClassObj nm qn C N bs bm hdct sn sub ab col dd k0 k1 k2 k3 k5 "ValueError.__new__")/\OwnTail h mroVE bm:=by
 unfold F6 at q;split at q
 . rename_i dd cd sl ho
   split at q
   . rename_i C' bm k0 k1 k2 k3 n k5 hm hs
     simp only[zAv,zBf,Bool.not_eq_true'] at q;obtain⟨⟨⟨rfl,rfl⟩,hdel⟩,ht⟩:=q;obtain⟨nm,bs,mro,ns,qn,hd,sn,sub,ab,col,del⟩:=cd;dsimp only at hm hdel;subst hm hdel;obtain⟨l⟩:=sl;dsimp only at hs;subst hs;exact⟨nm,qn,ns,bs,bm,hd,sn,sub,ab,col,dd,k0,k1,k2,k3,k5,X _ _ ho,PySem.W.tail_of_in X ht⟩
   cases q
 cases q
section
variable{prog:Program}{w:World}{A:Around}{K:PySem.W.Frag}{C fI:Addr}{h:Heap}{g:Array GenState}{d:Drawn}{t:Nat}{os:OsState}
theorem qaf1{rest:List Value}{Q:Fin->Shared->Prop}{E:Value->Shared->Prop}(X:K.In h)(m:F6 K C=true)(hi:PySem.W.findIn K (.ref C) "__init__" = some (some (.ref fI)))(hf:PySem.W.typeIn K (.ref fI)=some (.type "function"))(hrest:rest.length<=sizeLine)(hq:wpAny (model prog w) A (call (.ref fI) (.ref (h.objs.size+1)::rest)) (λ r s'=>r=.none/\Q (.done (.ret (.ref (h.objs.size+1)))) s') E
     ⟨(h.push { cls:=.type "tuple",data:=.seq rest.toArray }).push { cls:=.ref C,data:=.fields #[.ref h.objs.size,.none,.none,.none,.bool false,.none] },g,d,t,os⟩) :
   wpAny (model prog w) A (Builtin.«type.__call__» ⟨.ref C::rest,[]⟩) Q E ⟨h,g,d,t,os⟩:=by
 have F:=PySem.F.excBase_ValueError;obtain⟨nm,qn,N,bs,bm,hdct,sn,sub,ab,col,dd,k0,k1,k2,k3,k5,hC,T⟩:=qY6 X m
 repeat (first | with_reducible refine wpAny_loadPart_at hC ?_ | with_reducible refine wpAny_madeBy_exc hC ?_ | wp_step)
 refine codeAny_call_builtin_code (Code.quiet_builtin _ F.quiet) (wpAny_check_new_subT F T hC ?_);refine codeAny_exc_new_subT F T hC ?_ hrest;show wpAny _ _ _ _ _ _;have kk:∀ b o,h.get? b=some o->((h.push { cls:=.type "tuple",data:=.seq rest.toArray }).push { cls:=.ref C,data:=.fields #[.ref h.objs.size,.none,.none,.none,.bool false,.none] }).get? b=some o:=λ b o e=>zA2 _ (zA2 _ e)
 have c1:=kk _ _ hC;have hg:((h.push { cls:=.type "tuple",data:=.seq rest.toArray }).push { cls:=.ref C,data:=.fields #[.ref h.objs.size,.none,.none,.none,.bool false,.none] }).get? (h.objs.size+1)=some { cls:=.ref C,data:=.fields #[.ref h.objs.size,.none,.none,.none,.bool false,.none] }:=by heap_get
 have cc:(Value.ref C::bm).contains (.ref C)=true:=by simp
 unfold isInstance
 repeat (first | with_reducible refine wpAny_loadPart_at hg ?_ | (with_reducible refine wpAny_isSubtype_exc c1 ?_;rw[cc]) | wp_step)
 show wpAny _ _ (typeLookup (.ref C) _) _ _ _;have i1:=(PySem.W.looks_findIn (M:=model prog w) X hi).keeps kk;have b1:=(PySem.W.bind_fn (M:=model prog w) X (.ref (h.objs.size+1)) hf).keeps kk;refine i1.at (wpAny_holding (wpAny_bind (b1.at (wpAny_bind (wpAny_mono hq (λ r s' z=>?_) λ _ _ z=>z)))));obtain⟨rfl,z⟩:=z;exact wpAny_pure (wpAny_pure z)
theorem qas3{rest:List Value}{Q E:Value->Shared->Prop}(X:K.In h)(m:F6 K C=true)(hi:PySem.W.findIn K (.ref C) "__init__" = some (some (.ref fI)))(hf:PySem.W.typeIn K (.ref fI)=some (.type "function"))(hrest:rest.length<=sizeLine)(hq:wpAny (model prog w) (A.under (.builtin "type.__call__" ⟨.ref C::rest,[]⟩)) (call (.ref fI) (.ref (h.objs.size+1)::rest)) (λ r s'=>r=.none/\Q (.ref (h.objs.size+1)) s') E
     ⟨(h.push { cls:=.type "tuple",data:=.seq rest.toArray }).push { cls:=.ref C,data:=.fields #[.ref h.objs.size,.none,.none,.none,.bool false,.none] },g,d,t,os⟩) :
   wpAny (model prog w) A (call (.ref C) rest) Q E ⟨h,g,d,t,os⟩:=by
 obtain⟨nm,qn,N,bs,bm,hdct,sn,sub,ab,col,dd,k0,k1,k2,k3,k5,hC,T⟩:=qY6 X m;have f1:=tc_lookup;have f2:=tc_bind (.ref C);have hT:(⟨h,g,d,t,os⟩:Shared).TypeIs (.ref C) "type" := ⟨_,hC,rfl⟩
 refine wpAny_call (codeAny_of_tree ?_);show wpAny _ _ (callAny (.ref C) _) _ _ _
 repeat (any_goals (first | assumption | with_reducible refine wpAny_loadPart_at hC ?_ | wp_step))
 refine⟨rfl,?_⟩;exact codeAny_call_builtin_at (Code.quiet_builtin _ (by decide +kernel)) entry_typeCall (wpAny_check_type_call_sub hC (qaf1 X m hi hf hrest hq))
end
section
variable{M:Model}{A:Around}{E:Value->Shared->Prop}{s:Shared}{env:Env}
theorem qT5{K:PySem.W.Frag}{x:Sem Value}{Q:Flow->Shared->Prop}(hh:A.handled=none)(h:wpAny M A x (λ v s₁=>∃ e oe vs C,v=.ref e/\K.In s₁.heap/\Exc K C/\s₁.heap.get? e=some oe/\oe.cls=.ref C/\oe.data=.fields vs/\vs[1]? = some .none/\E (.ref e) s₁) E s) :
   wpAny M A (raiseStmt env (some x) none) Q E s:=by
 unfold raiseStmt;refine wpAny_bind (wpAny_mono h (λ v s₁ q=>?_) λ _ _ x=>x);obtain⟨e,oe,vs,C,rfl,X,c,he,hcl,hda,h1,hE⟩:=q;obtain⟨oc,odi,oda,osl⟩:=oe;dsimp only at hcl hda;subst hcl hda;obtain⟨nm,qn,N,bs,bm,hdct,sn,sub,ab,col,dd,k0,k1,k2,k3,k5,newId,hC,hb,_⟩:=PySem.W.kts_cls X c.kts;obtain⟨hp,g,d,tk,os⟩:=s₁;have hcB:(Value.ref C::bm).contains (.type "BaseException")=true:=by rw[List.contains_cons,hb,Bool.or_true]
 repeat (first | with_reducible refine wpAny_loadPart_at he ?_ | with_reducible refine wpAny_loadPart_at hC ?_ | (with_reducible refine wpAny_isSubtype_exc hC ?_;rw[hcB]) | with_reducible refine wpAny_field he rfl h1 ?_ | wp_step)
 exact wpAny_raiseNew_none hh hE
theorem qaf3{K:PySem.W.Frag}{e C D:Addr}{oe:Obj}{b:Bool}{Q:Bool->Shared->Prop}(X:K.In s.heap)(d:Exc K D)(he:s.heap.get? e=some oe)(hcl:oe.cls=.ref C)(hm:PySem.W.mroIn K C (.ref D)=some b)(h:Q b s) :
   wpAny M A (excMatches (.ref e) (.ref D)) Q E s:=by
 obtain⟨nm,qn,N,bs,bm,hdct,sn,sub,ab,col,dd,k0,k1,k2,k3,k5,newId,hD,hb,_⟩:=PySem.W.kts_cls X d.kts;have L:=PySem.W.looks_mroIn (M:=M) X hm;obtain⟨hp,g,dr,tk,os⟩:=s;have hcB:(Value.ref D::bm).contains (.type "BaseException")=true:=by rw[List.contains_cons,hb,Bool.or_true]
 have f:=tc_notTuple;unfold excMatches
 repeat (first | (with_reducible refine wpAny_loadPart_at he ?_;rw[hcl]) | with_reducible refine wpAny_loadPart_at hD ?_ | (with_reducible refine wpAny_isSubtype_exc hD ?_;rw[hcB]) | with_reducible refine L.at ?_ | wp_step)
 cases b<;>(wp_walk;exact h)
end
def Ia(e C:Addr)(od:Option Addr)(fr:Bool)(h:Heap):Prop:=∃ oe vs,h.get? e=some oe/\oe.cls=.ref C/\oe.dict=od/\oe.data=.fields vs/\1 < vs.size/\(fr=true->vs[1]? = some .none)
abbrev Bb(e C:Addr)(od:Option Addr)(fr:Bool):HO:=.ext (Ia e C od fr)
def xdIs(d:Addr)(fs:List (Str×V))(h:Heap):Prop:=∃ mA,h.Ns1 d mA/\(∀ f,RelO (fs.lookup f) (mA f))/\PySem.Within mA (fs.map (·.1))/\fs.length<=1000
abbrev XD(d:Addr)(fs:List (Str×V)):HO:=.ext (xdIs d fs)
section
variable{P:Program}{w:World}{H:Hp}{h:Heap}
theorem qaf2{e C:Addr}(q:Ia e C od fr h):ObjOk P w H h e (Bb e C od fr) :=
 ⟨q,let ⟨oe,_,a,_⟩:=q;⟨oe,a⟩,λ h1 h2 ⟨oe,vs,a,b⟩ k=>⟨oe,vs,k _ a,b⟩⟩
theorem xd_ok{d:Addr}{fs:List (Str×V)}(q:xdIs d fs h):ObjOk P w H h d (XD d fs) :=
 ⟨q,let ⟨_,⟨o,_,_,a,_⟩,_⟩:=q;⟨o,a⟩,λ h1 h2 ⟨mA,⟨o,es,ep,a,r⟩,b⟩ k=>⟨mA,⟨o,es,ep,k _ a,r⟩,b⟩⟩
theorem qD8{e C:Addr}(ok:HOk P w H h)(q:H e=some (Bb e C od fr)):Ia e C od fr h:=(ok e _ q).1
theorem Ib{d:Addr}{fs:List (Str×V)}(ok:HOk P w H h)(q:H d=some (XD d fs)):xdIs d fs h:=(ok d _ q).1
end
section
variable{X:Cx}{Dy:List (Addr×Obj)}{σ:St}{H:Hp}{s:Shared}{a C dx:Addr}{fs:List (Str×V)}{f:Str}{v:V}{A:Around}{E:Value->Shared->Prop}
theorem qas5{y:V}{u:Value}(I:Inv X Dy σ H s)(e:H a=some (Bb a C none true))(c:Exc X.K C)(n:qd5 X.K C f)(ry:RelV y u)(h:∀ dx s',H dx=none->dx≠a->Inv X Dy σ (upd (upd H dx (XD dx [(f,y)])) a (Bb a C (some dx) true)) s'->Q () s'):wpAny (model X.prog X.w) A (setAttr (.ref a) f u) Q E s:=by
 obtain⟨oe,vs,h1,h2,h3,h4,h5,h6⟩:=qD8 I.hok e;refine qas2 I.kIn c h1 h2 h4 h3 n λ h' tk' q1 q2 q3=>?_
 have na:a≠s.heap.objs.size:=zAi (zA6 h1);have nz:H s.heap.objs.size=none:=I.hok.fresh (zA5 _);have lo:∀ b o,s.heap.get? b=some o->b≠s.heap.objs.size:=λ b o z=>zAi (zA6 z)
 refine h s.heap.objs.size _ nz (Ne.symm na) (I.un (t':=tk') ⟨λ b o z n1 _ _=>q3 b o (λ z'=>?_) z,λ b o z n1 _ _=>⟨o.slots,q3 b o (λ z'=>?_) z⟩,λ b o z n1 _=>?_,λ b o z _=>?_,λ b xs z=>?_,λ b o' xs z=>?_,λ b ps z=>?_⟩ λ b u' z=>?_)
 . rw[z',e] at n1;cases n1
 . rw[z',e] at n1;cases n1
 . rw[qb3 (λ z'=>by rw[z',e] at n1;cases n1),qb3 (lo b o z)];exact n1
 . by_cases z':b=a
   . rw[z'];exact⟨_,q1⟩
   exact⟨o,q3 b o z' z⟩
 . rw[qb3 (λ z'=>by rw[z',e] at z;cases z),qb3 (qb8 z nz)];exact z
 . rw[qb3 (λ z'=>by rw[z',e] at z;cases z),qb3 (qb8 z nz)];exact z
 . exact⟨#[],by rw[qb3 (λ z'=>by rw[z',e] at z;cases z),qb3 (qb8 z nz)];simpa using z⟩
 by_cases z1:b=a
 . subst z1
   rw[qb1] at z;cases z;exact qaf2 ⟨_,vs,q1,h2,rfl,h4,h5,h6⟩
 rw[qb3 z1] at z;by_cases z2:b=s.heap.objs.size
 . subst z2
   rw[qb1] at z;cases z;refine xd_ok ⟨_,q2,λ g=>?_,λ g hg=>?_,by simp⟩
   . show RelO (([(f,y)]:List (Str×V)).lookup g) (if g=f then some u else none)
     by_cases gf:g=f
     . subst gf;rw[if_pos rfl];simp only[List.lookup,zBe];exact ry
     have:(g == f)=false:=zBh.mpr gf
     simp[List.lookup,this,gf,RelO]
   by_cases gf:g=f
   . simp[gf]
   exact absurd (by show (if g=f then some u else none)=none;rw[if_neg gf]) hg
 rw[qb3 z2] at z;refine(I.hok b u' z).stay (λ c' v' hc' r=>q3 c' v' ?_ r) (λ c' r=>?_) λ c' xs r=>?_
 . rcases hc' with rfl | hc'
   . exact z1
   intro z';rw[z',e] at hc';cases hc'
 . rw[qb3 (λ z'=>by rw[z',e] at r;cases r),qb3 (qb8 r nz)];exact r
 rw[qb3 (λ z'=>by rw[z',e] at r;cases r),qb3 (qb8 r nz)];exact r
theorem qas4{y:V}{u:Value}(I:Inv X Dy σ H s)(e:H a=some (Bb a C (some dx) true))(ed:H dx=some (XD dx fs))(hl:fs.length < 1000)(c:Exc X.K C)(n:qd5 X.K C f)(ry:RelV y u)(h:∀ s',Inv X Dy σ (upd H dx (XD dx (Bh f y fs))) s'->Q () s'):wpAny (model X.prog X.w) A (setAttr (.ref a) f u) Q E s:=by
 obtain⟨oe,vs,h1,h2,h3,h4,h5,h6⟩:=qD8 I.hok e;obtain⟨mA,n1,r,wi,_⟩:=Ib I.hok ed;refine qas1 I.kIn c h1 h2 h4 h3 n1 wi (by rw[zAe];lia) n λ h' tk' q1 q2=>h _ ?_
 refine I.write (x:=dx) (e:=dx) (t':=tk') (by rw[ed];exact True.intro) (.inl rfl) q2 (let ⟨o,_,_,z,_⟩:=q1;⟨o,z⟩) (xd_ok ⟨_,q1,λ g=>?_,λ g hg=>?_,?_⟩)
 . show RelO ((Bh f y fs).lookup g) (if g=f then some u else mA g)
   rw[qo4];by_cases q:g=f
   . rw[if_pos q,if_pos q];exact ry
   rw[if_neg q,if_neg q];exact r g
 . by_cases q:g=f
   . rw[q];exact(qm0 f y fs).1
   refine(qm0 f y fs).2 g (wi g λ z=>hg ?_);show (if g=f then some u else mA g)=none;rw[if_neg q];exact z
 have:=qo5 f y fs;lia
theorem qaD8{b:Bool}{Q:Value->Shared->Prop}(I:Inv X Dy σ H s)(e:H a=some (Bb a C (some dx) fr))(ed:H dx=some (XD dx fs))(c:Exc X.K C)(n:qd5 X.K C f)(l:fs.lookup f=some v)(h:∀ u s',Inv X Dy σ H s'->RelV v u->Q u s'):wpAny (model X.prog X.w) A (getAttr (.ref a) f b) Q E s:=by
 obtain⟨oe,vs,h1,h2,h3,h4,_⟩:=qD8 I.hok e;obtain⟨mA,n1,r,wi,_⟩:=Ib I.hok ed;obtain⟨u,hu,ru⟩:=RelO.some_of (v:=v) (o:=mA f) (by rw[<- l];exact r f);obtain⟨od,ho,hlk⟩:=qr0 n1;obtain⟨oc,odi,oda,osl⟩:=oe;dsimp only at h2 h3 h4;subst h2 h3 h4;have J:PySem.W.InstAt s.heap a ⟨.ref C,some dx,.fields vs,osl⟩ C (some od):=⟨h1,rfl,rfl,ho⟩
 exact qaD1 I.kIn c J (PySem.W.findObj_own c.hd n rfl (by rw[hlk,hu])) (qM2 ru) λ tk=>h u _ (I.tok tk) ru
theorem qaD7{d:Value}{Q:Value->Shared->Prop}(I:Inv X Dy σ H s)(e:H a=some (Bb a C od fr))(hk:PySem.W.kitOne X.K (.ref C) d=some true)(h:∀ tk,Q (.bool true) { s with toks:=tk }) :
   wpAny (model X.prog X.w) A (call (.builtin "isinstance") [.ref a,d]) Q E s:=by
 obtain⟨oe,vs,h1,h2,_⟩:=qD8 I.hok e;refine PySem.call_isinstance (S:=λ _ R s'=>(X.K.In s'.heap/\∃ oe,s'.heap.get? a=some oe/\oe.cls=.ref C)/\∀ tk,R (.ok (.ret (.bool true))) { s' with toks:=tk })
   (λ prog w A R s' hs=>PySem.isinstance_outer ?_ (λ z=>nomatch z)) ⟨⟨I.kIn,oe,h1,h2⟩,h⟩
 obtain⟨h0,g,dr,tt,os⟩:=s';obtain⟨⟨KX,oe',q1,q2⟩,hq⟩:=hs;have LT:PySem.W.Looks (model prog w) h0 (typeOf (.ref a)) (.ref C):=q2 ▸ (PySem.W.Looks.ld q1).andThen .now;unfold PySem.W.kitOne at hk;unfold Builtin.«isinstance.nested»;refine wpAny_bind (LT.at ?_);by_cases q:(Value.ref C == d)=true
 . rw[if_pos q]
   first
     | exact wpAny_bind (wpAny_rule (wpAny_pure (hq tt)))
     | exact wpAny_bind (wpAny_rule (hq tt))
 rw[if_neg q] at hk;rw[if_neg q];obtain⟨hty,his,hsub⟩:=PySem.W.kit_cls (M:=model prog w) KX hk;have LI:PySem.W.Looks (model prog w) h0 (isInstance (.ref a) d) true:=LT.andThen hsub;refine wpAny_bind (hty.at ?_);rw[if_pos (by decide)]
 k_delta "plainIsInstance"
 refine wpAny_bind (wpAny_bind (his.at ?_));simp only[Bool.not_true,Bool.false_eq_true,if_false];refine wpAny_bind (LI.at ?_)
 first
   | exact wpAny_pure (wpAny_pure (hq tt))
   | (simp only[if_true];first | exact wpAny_pure (wpAny_pure (hq tt)) | exact wpAny_pure (hq tt) | exact wpAny_bind (wpAny_pure (wpAny_pure (hq tt))))
end
structure Fly(n:Nat)(H:Hp)(h:Heap)(a:Addr):Prop where
 ge:n<=a
 tr:∃ C od,H a=some (Bb a C od false)
 ob:∃ oe vs,h.get? a=some oe/\oe.data=.fields vs/\1 < vs.size/\(vs[1]? = some .none∨∃ T oT ts,vs[1]? = some (.ref T)/\n<=T/\H T=none/\T≠a/\h.get? T=some oT/\oT.data=.fields ts/\ts[3]? = some .none)
theorem Fly.mono{m n:Nat}{H:Hp}{h:Heap}{a:Addr}(F:Fly n H h a)(l:m<=n):Fly m H h a:=by
 obtain⟨oe,vs,h1,h2,h3,h4⟩:=F.ob;refine⟨zAl l F.ge,F.tr,oe,vs,h1,h2,h3,?_⟩;rcases h4 with z | ⟨T,oT,ts,z1,z2,z⟩
 . exact .inl z
 exact .inr ⟨T,oT,ts,z1,zAl l z2,z⟩
def CX1(P:Program)(w:World):CXT:=λ outer H s E e s'=>∃ a H',e=.ref a/\s'.os=s.os/\AllBare s'.gens/\Un (frs outer) [] H H' s.heap s'.heap/\HOk P w H' s'.heap/\Fly s.heap.objs.size H' s'.heap a/\E e none H'
structure Old(X:Cx)(Dy:List (Addr×Obj))(n:Nat):Prop where
 st:X.s₀.heap.objs.size<=n
 loc:X.env.locals < n
 cell:∀ x c,X.env.cells.lookup x=some c->c < n
 pin:∀ p∈X.pn++Dy,p.1 < n
theorem Inv.old{X:Cx}{Dy:List (Addr×Obj)}{σ:St}{H:Hp}{s:Shared}(I:Inv X Dy σ H s):Old X Dy s.heap.objs.size :=
 ⟨I.sz,I.lt,λ x c e=>let ⟨_,_,z,_⟩:=I.cell x c e;zA6 z,λ p hp=>zA6 (I.pin p hp).1⟩
def F7:Option Value->List Addr
 | some (.ref b)=>[b]
 | _=>[]
section
variable{X:Cx}{Dy:List (Addr×Obj)}{σ:St}{H:Hp}{s:Shared}{a T:Addr}{n:Nat}{h':Heap}{oe:Obj}{vs:Array Value}
theorem Inv.left(I:Inv X Dy σ H s)(F:Fly n H s.heap a)(O:Old X Dy n)(he:s.heap.get? a=some oe)(hd:oe.data=.fields vs)(L:Left s.heap h' (frs X.stack) a T oe vs[1]?) :
   Inv X Dy σ H { s with heap:=h' }/\Fly n H h' a:=by
 obtain⟨C,od,tr⟩:=F.tr;obtain⟨oe',vs',q1,q2,q3,q4⟩:=F.ob;rw[he] at q1;cases q1;rw[hd] at q2;cases q2;obtain⟨ws,oT,ts,e1,e2,e3,e4,e5,e6,e7⟩:=L.exc;have old:∀ b,vs[1]? = some (.ref b)->n<=b/\H b=none/\b≠a:=λ b z=>by
   rcases q4 with q | ⟨T',_,_,q,r1,r2,r3,_⟩
   . rw[q] at z;cases z
   rw[q] at z;cases z;exact⟨r1,r2,r3⟩
 have hok:HOk X.prog X.w H h':=λ b u hb=>by
   by_cases z:b=a
   . subst z
     rw[tr] at hb;cases hb;obtain⟨oe',vs',p1,p2,p3,p4,p5,p6⟩:=qD8 I.hok tr;rw[he] at p1;cases p1;exact qaf2 ⟨_,ws,e1,p2,p3,rfl,e2,λ z=>nomatch z⟩
   have nn:∀ c,H c≠none->c∉frs X.stack:=λ c hc hm=>hc (I.stkFree c hm)
   refine(I.hok b u hb).stay (λ c v hc r=>L.keep c v r ?_ (λ z'=>?_) ?_) (λ _ z=>z) λ _ _ z=>z
   . rcases hc with rfl | hc
     . exact z
     intro z';rw[z',tr] at hc;cases hc
   . have:=(old c z').2.1
     rcases hc with rfl | hc
     . rw[this] at hb;cases hb
     rw[this] at hc;cases hc
   rcases hc with rfl | hc
   . exact nn c (by rw[hb];exact λ z=>nomatch z)
   exact nn c (by rw[hc];exact λ z=>nomatch z)
 refine⟨?_,F.ge,⟨C,od,tr⟩,_,ws,e1,rfl,e2,.inr ⟨T,oT,ts,e3,zAl (zAl F.ge (Nat.le_of_lt (zA6 he))) L.new,I.hok.fresh L.new,e4,e5,e6,e7⟩⟩;have hch:∀ b,b∈F7 vs[1]? ↔ vs[1]? = some (.ref b):=λ b=>by
   rcases q4 with q | ⟨T',_,_,q,_⟩
   . rw[q];simp[F7]
   rw[q];simp[F7,eq_comm]
 have U:Un (frs X.stack) (F7 vs[1]?) H H s.heap h':=by
   refine⟨λ b o z n1 n2 n3=>L.keep b o z (λ z'=>?_) (λ z'=>n3 ((hch b).mpr z')) n2,λ b o z n1 n2 n3=>L.slot b o z n2,λ _ _ _ n1 _=>n1,λ b o z _=>L.there b o z,λ _ _ z=>z,λ _ _ _ z=>z,λ b ps z=>⟨#[],by rw[z];simp⟩⟩;rw[z',tr] at n1;cases n1
 exact I.call (g':=s.gens) (t':=s.toks) (d':=s.drawn) (ch:=F7 vs[1]?) U hok I.bare λ b hb=>by
   have g:=(old b ((hch b).mp hb)).1;refine⟨.inr (zAl O.st g),Nat.ne_of_gt (zAa O.loc g),λ x c e=>zAi (zAa (O.cell x c e) g),λ p hp=>zAi (zAa (O.pin p hp) g)⟩
end
def Lands(X:Cx)(E:XK):Prop:=∀(Dy:List (Addr×Obj))(σ:St)(H:Hp)(s:Shared)(a:Addr)(n:Nat),Inv X Dy σ H s->Fly n H s.heap a->Old X Dy n->E (.ref a) none H->X.xe (.ref a) s
theorem Lands.passes{X:Cx}{E:XK}(h:Lands X E):qE8 (CX1 X.prog X.w) X E:=λ Dy σ H s e s' I q=>by
 obtain⟨a,H',rfl,o1,o2,u,ok,F,q⟩:=q;exact h Dy σ H' s' a _ (I.call' (ch:=[]) o1 u ok o2 λ _ z=>nomatch z) F I.old q
theorem qa0{P:Program}{w:World}{K:PySem.W.Frag}{mg:Str->Option Value}{base:Heap}{N:List Str}{qual:Str}{scope:Scope}{f:Addr}{cd:Value}{A:Around}{outer:List Env}{s₀:Shared}{H₀:Hp}{E:XK} :
   Lands (Ef (CX1 P w) P w K mg base N qual scope f cd A outer s₀ H₀ E) E:=λ Dy σ H s a n I F O q=>by
 obtain⟨oe,vs,h1,h2,h3,h4⟩:=id F.ob;show wpAny _ _ (leaving _ _) _ _ s;unfold leaving;refine wpAny_bind (qC9 (base:=base) (vs:=vs) I.ok.frames I.stack rfl h1 h2 h3 ?_ λ h' T L=>?_)
 . rcases h4 with z | ⟨T,oT,ts,z1,_,_,z2,z3,z4,z5⟩
   . exact .inl z
   exact .inr ⟨T,oT,ts,z1,z2,z3,z4,z5⟩
 obtain⟨J,F'⟩:=I.left (T:=T) F O h1 h2 L;exact⟨a,H,rfl,J.os,J.bare,J.base,J.hok,F'.mono O.st,q⟩
section
variable{X:Cx}{o e value:Expr}{pos pos':Pos}{ta tv:TE}{f:Str}
def sEF(K:PySem.W.Frag)(ta tv:TE)(f:Str):TS:=λ D σ H=>tv σ H λ y H1=>ta σ H1 λ x H2=>∃ a C,x=.ref a/\Exc K C/\qd5 K C f /\
 ((H2 a=some (Bb a C none true)/\∀ dx,H2 dx=none->dx≠a->D.nx σ (upd (upd H2 dx (XD dx [(f,y)])) a (Bb a C (some dx) true)))
  ∨ ∃ dx fs,H2 a=some (Bb a C (some dx) true)/\H2 dx=some (XD dx fs)/\fs.length < 1000/\D.nx σ (upd H2 dx (XD dx (Bh f y fs))))
theorem qah7(ha:PE X o ta)(hv:PE X value tv)(hs:swapsWith value (some (.Attribute o f pos')) pos.line X.env=pure false:=by rfl):PS X (.Assign [.Attribute o f pos'] value pos) (sEF X.K ta tv f):=by
 intro Dy s σ H D I h;refine plainObj_wpAny_Assign_Attribute (thn (hv Dy s σ H _ I h) λ u s1 ⟨y,H1,I1,ry,q⟩=>thn (ha Dy s1 σ H1 _ I1 q) λ ov s2 ⟨x,H2,I2,rx,a,C,ex,c,n,q2⟩=>?_) hs;subst ex;obtain rfl:ov=Value.ref a:=rx;rcases q2 with⟨ea,q2⟩ | ⟨dx,fs,ea,ed,hl,q2⟩
 . exact qas5 I2 ea c n ry λ dx s3 n1 n2 I3=>⟨σ,_,I3,q2 dx n1 n2⟩
 exact qas4 I2 ea ed hl c n ry λ s3 I3=>⟨σ,_,I3,q2⟩
def tEF(K:PySem.W.Frag)(ta:TE)(f:Str):TE:=λ σ H Q=>ta σ H λ x H1=>∃ a C dx fr fs v,x=.ref a/\H1 a=some (Bb a C (some dx) fr)/\H1 dx=some (XD dx fs)/\Exc K C/\qd5 K C f/\fs.lookup f=some v/\Q v H1
theorem qai3(he:PE X e ta)(hb:attributeBase e f X.env (eval e X.env)=eval e X.env:=by rfl):PE X (.Attribute e f pos) (tEF X.K ta f):=by
 intro Dy s σ H Q I h;refine qak1 hb (thn (he Dy s σ H _ I h) λ u s1 ⟨x,H1,I1,rx,a,C,dx,fr,fs,v,ex,ea,ed,c,n,l,q⟩=>?_);subst ex;obtain rfl:u=Value.ref a:=rx;exact qaD8 I1 ea ed c n l λ u' s2 I2 ru=>⟨v,H1,I2,ru,q⟩
def rIsE(K:PySem.W.Frag):List V->Hp->VK->Prop:=λ xs H Q=>∃ a d u C od fr,xs=[.ref a,d]/\RelV d u/\(∀ u',RelV d u'->u'=u)/\H a=some (Bb a C od fr)/\PySem.W.kitOne K (.ref C) u=some true/\Q (.bl true) H
theorem qat4:CallR X (.builtin "isinstance") (rIsE X.K):=by
 intro Dy s σ H xs us Q I r h;obtain⟨a,d,u,C,od,fr,rfl,rd,one,ea,hk,q⟩:=h;obtain⟨u1,u2,rfl,r1,r2⟩:=Gz r;obtain rfl:u1=Value.ref a:=r1;obtain rfl:=one _ r2;exact qaD7 I ea hk λ tk=>⟨.bl true,H,I.tok tk,rfl,q⟩
theorem qU3{x:Str}(C:Addr){pos:Pos}(hm:X.mg x=some (.ref C))(hg:Gl X x:=by rfl)(hd:(x == ("__debug__" : Str))=false:=by decide):PE X (.Name x pos) (tC (.ref C)):=qK9 hg hm rfl hd
end
structure MkE(K:PySem.W.Frag)(C f:Addr):Prop where
 exc:Exc K C
 mke:F6 K C=true
 init:PySem.W.findIn K (.ref C) "__init__" = some (some (.ref f))
 fn:PySem.W.isFn K (.ref f)=true
 kp:PySem.W.keepIn K (.ref C)=true
def qaG3(C:Addr)(sp:Sp)(E:XK)(t:TA):TS:=λ D σ H=>t σ H λ vs H1=>vs.length<=1000/\∀ a,H1 a=none->sp (.ref a::vs) (upd H1 a (Bb a C none true)) (λ v H2=>v=.non/\∃ od,H2 a=some (Bb a C od true)/\E (.ref a) none (upd H2 a (Bb a C od false))) E0
section
variable{X:Cx}{k:Nat}{f C:Addr}{fd:FuncData}{ps:List Str}{sp:Sp}{E:XK}{x:Str}{np cpos pos:Pos}{e:Expr}{es:List Expr}{t:TA}
theorem qan4(M:MkE X.K C f)(F:Bi X.prog X.w X.K X.mg X.base CX0 k f fd ps sp)(hr:Room (k+1) X.A)(hm:X.mg x=some (.ref C))(hb:Binds X.K fd ps [])(hl:Lands X E)(ha:PA X (e::es) t)(hg:Gl X x:=by rfl)(hdb:(x == ("__debug__" : Str))=false:=by decide)(he:starEach (e::es) X.env=(false,eval e X.env)::starEach es X.env:=by rfl)(hpl:(backTo cpos (starEach es X.env)).any (·.1)=false:=by rfl) :
   PS X (.Raise (some (.Call (.Name x np) (e::es) [] cpos)) none pos) (qaG3 C sp E t):=by
 intro Dy s σ H D I h;rw[arm_exec_Raise];refine wpAny_bind (wpAny_standAt (qT5 (K:=X.K) hr.hd ?_));refine wpAny_bind (wpAny_Call_Name_kw (qD0 I hg hm ?_ hdb));refine PySem.W.callWith_K (h₀:=X.base) I.ok.mod.kin M.kp (thn (ha cpos Dy s σ H _ I h) λ us s1 ⟨vs,H1,I1,r,hz,q⟩=>⟨I1.kIn,?_⟩) he hpl;obtain⟨h1,g1,d1,t1,o1⟩:=s1;show wpAny _ _ (call (.ref C) us) _ _ _;refine qas3 I1.kIn M.mke M.init (zBf.mp M.fn) (by rw[<- r.length,sizeLine_eq];lia) ?_;have nz:H1 (h1.objs.size+1)=none:=I1.hok.fresh (Nat.le_succ _);have q0:=q (h1.objs.size+1) nz;have I2:=I1.kept (h':=h1.push { cls:=.type "tuple",data:=.seq us.toArray }) (t':=t1) λ b u z=>zA2 _ z
 have g2:((h1.push { cls:=.type "tuple",data:=.seq us.toArray }).push { cls:=.ref C,data:=.fields #[.ref h1.objs.size,.none,.none,.none,.bool false,.none] }).get? (h1.objs.size+1)=some { cls:=.ref C,data:=.fields #[.ref h1.objs.size,.none,.none,.none,.bool false,.none] }:=by heap_get
 have I3:=I2.laid (a:=h1.objs.size+1) (o:=Bb (h1.objs.size+1) C none true) (t':=t1) (h':=(h1.push { cls:=.type "tuple",data:=.seq us.toArray }).push { cls:=.ref C,data:=.fields #[.ref h1.objs.size,.none,.none,.none,.bool false,.none] })
   (λ b u z=>zA2 _ z) (Nat.le_of_eq (Heap.size_push _ _)) (qaf2 ⟨_,_,g2,rfl,rfl,rfl,by simp,λ _=>by simp⟩)
 have r2:Vals (V.ref (h1.objs.size+1)::vs) (Value.ref (h1.objs.size+1)::us):=.cons rfl r;have hln:((Value.ref (h1.objs.size+1)::us)++[]).length=ps.length:=by rw[zA9,<- r2.length];exact F.len _ _ _ _ q0
 have hbn:=hb _ (Value.ref (h1.objs.size+1)::us) I3.kIn hln;rw[zA9] at hbn;refine wpAny_call (codeAny_mono (F.run _ X.stack _ _ ⟨Value.ref (h1.objs.size+1)::us,[]⟩ (Value.ref (h1.objs.size+1)::us) _ _ E0 (hr.make C us []) (I3.env0.make C us []) hbn r2 q0) λ res s' z=>?_);cases res with
 | error e=>exact z.elim
 | ok fl =>
   cases fl with
   | ret u =>
     obtain⟨v,H',I4,rv,ev,od,ea,q4⟩:=I3.after z;subst ev;refine⟨rv,?_⟩;refine wpAny_bind (wpAny_standAt (wpAny_pure ?_));obtain⟨oe,ws,p1,p2,p3,p4,p5,p6⟩:=qD8 I4.hok ea;refine⟨h1.objs.size+1,oe,ws,C,rfl,I4.kIn,M.exc,p1,p2,p4,p6 rfl,?_⟩;have I5:Inv X Dy σ (upd H' (h1.objs.size+1) (Bb (h1.objs.size+1) C od false)) s' :=
       I4.write (x:=h1.objs.size+1) (e:=h1.objs.size+1) (h':=s'.heap) (t':=s'.toks) (by rw[ea];exact True.intro) (.inl rfl) (λ _ _ _ z=>z) ⟨oe,p1⟩ (qaf2 ⟨oe,ws,p1,p2,p3,p4,p5,λ z=>nomatch z⟩)
     exact hl Dy σ _ s' (h1.objs.size+1) h1.objs.size I5 ⟨Nat.le_succ _,⟨C,od,qb1⟩,oe,ws,p1,p4,p5,.inl (p6 rfl)⟩ I1.old q4
   | next=>exact False.elim z
   | brk=>exact False.elim z
   | cont=>exact False.elim z
end
def Xt(X:Cx)(xe:Value->Shared->Prop)(pn:List (Addr×Obj)):Cx:={ X with xe:=xe,pn:=pn }
def Xh(X:Cx)(a:Addr):Cx:={ X with A:=X.A.mark (some (.ref a)),calm:=false,xe:=λ _ _=>False }
section
variable{X:Cx}{Dy:List (Addr×Obj)}{σ:St}{H:Hp}{s:Shared}{a:Addr}{n:Nat}
theorem Cx.Ok.t{pn:List (Addr×Obj)}(ok:X.Ok):(Xt X xe pn).Ok :=
 ⟨ok.mod,ok.kind,ok.glob,ok.blt,ok.above,ok.inj,ok.has,ok.cab,ok.hd,ok.frames,ok.stk,ok.exf,ok.bs,ok.bsz,ok.noex,ok.exfs,ok.funs,ok.frf⟩
theorem Cx.Ok.h(ok:X.Ok):(Xh X a).Ok :=
 ⟨ok.mod,ok.kind,ok.glob,ok.blt,ok.above,ok.inj,ok.has,ok.cab,λ z=>(by cases z),ok.frames,ok.stk,ok.exf,ok.bs,ok.bsz,ok.noex,ok.exfs,ok.funs,ok.frf⟩
theorem Inv.t(I:Inv X Dy σ H s):Inv (Xt X xe (X.pn++Dy)) [] σ H s :=
 ⟨I.ok.t,I.os,I.bare,I.base,I.loc,I.cell,I.free,I.freeC,λ p hp=>I.pin p (by rw[zA9] at hp;exact hp),I.hok,I.len⟩
theorem Inv.unt{pins':List (Addr×Obj)}(ok:X.Ok)(I:Inv (Xt X xe (X.pn++Dy)) pins' σ H s):Inv X Dy σ H s :=
 ⟨ok,I.os,I.bare,I.base,I.loc,I.cell,I.free,I.freeC,λ p hp=>I.pin p (List.mem_append_left _ hp),I.hok,I.len⟩
theorem Inv.h(I:Inv X Dy σ H s):Inv (Xh X a) Dy σ H s:=⟨I.ok.h,I.os,I.bare,I.base,I.loc,I.cell,I.free,I.freeC,I.pin,I.hok,I.len⟩
theorem Inv.unh(ok:X.Ok)(I:Inv (Xh X a) Dy σ H s):Inv X Dy σ H s:=⟨ok,I.os,I.bare,I.base,I.loc,I.cell,I.free,I.freeC,I.pin,I.hok,I.len⟩
theorem qae8{M:Model}{A:Around}{E:Value->Shared->Prop}(I:Inv X Dy σ H s)(F:Fly n H s.heap a)(O:Old X Dy n)(h:∀ s',Inv X Dy σ H s'->Fly n H s'.heap a->Q () s') :
   wpAny M A (setFlight (.ref a) none) Q E s:=by
 obtain⟨oe,vs,h1,h2,h3,h4⟩:=F.ob;unfold setFlight;rcases h4 with z | ⟨T,oT,ts,z1,z2,z3,z4,z5,z6,z7⟩
 . refine wpAny_bind (wpAny_field h1 h2 z ?_)
   rw[if_neg (by decide)];exact wpAny_pure (h s I F)
 refine wpAny_bind (wpAny_field h1 h2 z1 ?_);rw[if_pos (show (Value.ref T != Value.none)=true from by simp)];have h5:=(Array.getElem?_eq_some_iff.mp z7).1;refine wpAny_setField z5 z6 h5 ?_;have other:∀ b,b≠T->(s.heap.update T (Obj.mapFields (·.setIfInBounds 3 ((none:Option Addr).elim Value.none λ f=>rawInt f)))).get? b=s.heap.get? b:=λ b hb=>zB8 _ _ (Ne.symm hb)
 have sT:=zBj (Obj.mapFields (·.setIfInBounds 3 ((none:Option Addr).elim Value.none λ f=>rawInt f))) z5 (Obj.isFreed_of_fields (Obj.data_mapFields z6 _));refine h _ (I.turned (it:=T) (t':=s.toks) (λ b o hb q=>(other b hb).trans q) z3 (Nat.ne_of_gt (zAa O.loc z2)) (.inr (zAl O.st z2)) (λ x c e=>zAi (zAa (O.cell x c e) z2)) λ p hp=>zAi (zAa (O.pin p hp) z2)) ?_;exact⟨F.ge,F.tr,oe,vs,(other a (Ne.symm z4)).trans h1,h2,h3,.inr ⟨T,_,_,z1,z2,z3,z4,sT,Obj.data_mapFields z6 _,by simp[h5]⟩⟩
theorem qM3{M:Model}{A:Around}{E:Value->Shared->Prop}{j:Nat}{x:Str}{pos:Pos}(I:Inv X Dy σ H s)(hN:X.N.Nodup)(hj:X.N[j]? = some x)(hk:X.env.scope.names.lookup x=some .local)(h:∀ s',Inv X Dy (σ.set j none) H s'->Q () s'):wpAny M A (do bindName X.env x .none;unbindBehindTheSuite X.env x pos) Q E s:=by
 obtain⟨m,hn,hl⟩:=id I.loc;have hcls:(X.env.scope.kind == .class||(X.env.scope.kind == .module&&X.env.locals != X.env.globals))=false:=by rw[I.ok.kind];rfl
 have cne:=I.cne;refine wpAny_nameGoes_keeps hk hn hcls λ h' v hn' hs=>?_
 obtain⟨oL,_,_,hoL,_⟩:=id hn;have ap:∀ b o,X.s₀.heap.get? b=some o->b≠X.env.locals:=λ b o e=>zAi (zAa (zA6 e) I.ok.above)
 refine h _ ⟨I.ok,I.os,I.bare,⟨λ b o e n hb hx=>?_,λ b o e n hb hx=>?_,I.base.free,λ b o e hx=>?_,I.base.tups,I.base.frzs,I.base.tbls⟩,⟨_,hn',λ i y w' e1 e2 e3=>?_⟩,λ y c e=>?_,I.free,I.freeC,λ p hp=>?_,λ b ob e=>?_,by simpa using I.len⟩
 . exact(hs.2 b (ap b o e)).trans (I.base.keep b o e n hb hx)
 . obtain⟨sl,q⟩:=I.base.slot b o e n hb hx
   exact⟨sl,(hs.2 b (ap b o e)).trans q⟩
 . obtain⟨o',q⟩:=I.base.there b o e hx
   exact⟨o',(hs.2 b (ap b o e)).trans q⟩
 . have ij:i≠j:=λ z=>by
     subst z;by_cases hi:i < σ.length
     . rw[zB0 hi] at e2;cases e2
     rw[zBl (by rw[List.length_set];lia)] at e2;cases e2
   rw[zB5 (Ne.symm ij)] at e2;obtain⟨u',r',q⟩:=hl i y w' e1 e2 e3;refine⟨u',r',?_⟩;rcases q with⟨k,e⟩ | ⟨k,c,e,z⟩
   . refine .inl ⟨k,?_⟩
     have:y≠x:=λ e=>ij (qH8 hN e1 (e ▸ hj))
     simp[this,e]
   exact .inr ⟨k,c,e,z.sameBut hs (cne y c e)⟩
 . obtain⟨w',z⟩:=I.cell y c e
   exact⟨w',z.sameBut hs (cne y c e)⟩
 . obtain⟨e,n,ne,nf,d⟩:=I.pin p hp
   exact⟨(hs.2 p.1 ne).trans e,n,ne,nf,d⟩
 refine(I.hok b ob e).stay (λ c w' hc q=>(hs.2 c ?_).trans q) (λ _ q=>q) λ _ _ q=>q
 rintro rfl;rcases hc with rfl | hc
 . rw[I.free] at e;cases e
 rw[I.free] at hc;cases hc
end
def PH(X:Cx)(hs:List ExceptHandler)(t:Addr->TS):Prop :=
 ∀(Dy:List (Addr×Obj))(s:Shared)(σ:St)(H:Hp)(D:Bn)(a:Addr)(n:Nat),Inv X Dy σ H s->Fly n H s.heap a->Old X Dy n->t a D σ H->wpAny (model X.prog X.w) X.A (handleBy (.ref a) X.env hs) (SP X Dy D) X.xe s
def qat7(j:Nat)(D:Bn):Bn:={ nx:=λ σ H=>D.nx (σ.set j none) H,rt:=D.rt,bk:=λ σ H=>D.bk (σ.set j none) H,ct:=λ σ H=>D.ct (σ.set j none) H }
def tHd(K:PySem.W.Frag)(C':Addr)(j:Nat)(ts tr:Addr->TS):Addr->TS:=λ a D σ H=>∃ C od b,H a=some (Bb a C od false)/\PySem.W.mroIn K C (.ref C')=some b /\
 if b=true then ts a (qat7 j D) (σ.set j (some (.ref a))) H else tr a D σ H
section
variable{X:Cx}
theorem qax2:PH X [] (λ _ _ _ _=>False):=λ _ _ _ _ _ _ _ _ _ _ h=>h.elim
theorem ph_as(j:Nat){x y:Str}{C':Addr}{np pos:Pos}{b₀:Stmt}{suite:List Stmt}{rest:List ExceptHandler}{ts tr:Addr->TS}(hN:X.N.Nodup)(c:Exc X.K C')(hm:X.mg x=some (.ref C'))(hs:∀ a,PSs (Xh X a) (b₀::suite) (ts a))(hr:PH X rest tr)(hj:X.N[j]? = some y:=by rfl)(hk:X.env.scope.names.lookup y=some .local:=by rfl)(hg:Gl X x:=by rfl)(hd:(x == ("__debug__" : Str))=false:=by decide) :
   PH X (.ExceptHandler (some (.Name x np)) (some y) (b₀::suite) pos::rest) (tHd X.K C' j ts tr):=by
 intro Dy s σ H D a n I F O h;obtain⟨C,od,b,ea,hb,q⟩:=h;obtain⟨oe,vs,p1,p2,_⟩:=qD8 I.hok ea;refine wpAny_handleBy_cons (codeAny_handlers_test (qD0 (X:=Xh X a) I.h hg hm ?_ hd)) (by intro z;cases z);refine qaf3 I.kIn c p1 p2 hb ?_;cases b with
 | false =>
   simp only[Bool.false_eq_true,if_false] at q ⊢;exact hr Dy s σ H D a n I F O q
 | true =>
   simp only[if_true] at q ⊢;refine codeAny_handlers_suite_as (qae8 I F O λ s1 I1 F1=>?_);refine qx7 (X:=Xh X a) (v:=.ref a) I1.h hN hj (.inl hk) rfl (λ s2 I2=>?_) (.inr hk);refine wpAny_mono (hs a Dy s2 (σ.set j (some (.ref a))) H (qat7 j D) I2 q) (λ f s3 z=>?_) λ _ _ z=>z.elim
   cases f with
   | next=>obtain⟨σ',H',J,z⟩:=z;exact qM3 (J.unh I.ok) hN hj hk λ s4 J4=>⟨_,H',J4,z⟩
   | brk=>obtain⟨σ',H',J,z⟩:=z;exact qM3 (J.unh I.ok) hN hj hk λ s4 J4=>⟨_,H',J4,z⟩
   | cont=>obtain⟨σ',H',J,z⟩:=z;exact qM3 (J.unh I.ok) hN hj hk λ s4 J4=>⟨_,H',J4,z⟩
   | ret u=>obtain⟨v,σ',H',J,rv,z⟩:=z;exact qM3 (J.unh I.ok) hN hj hk λ s4 J4=>⟨v,_,H',J4,rv,z⟩
def sTry(tb:XK->TS)(th:Addr->TS):TS:=λ D σ H=>∃ E:XK,tb E D σ H/\∀ a H',E (.ref a) none H'->th a D (List.replicate σ.length none) H'
theorem qaG8{body:List Stmt}{h₀:ExceptHandler}{hs:List ExceptHandler}{pos:Pos}{tb:XK->TS}{th:Addr->TS}(hb:∀ E xe pn,Lands (Xt X xe pn) E->PSs (Xt X xe pn) body (tb E))(hh:PH X (h₀::hs) th)(hst:X.stack=X.env::X.outer:=by rfl)(hfr:X.env.frame=some X.env.locals:=by rfl):PS X (.Try body (h₀::hs) [] [] pos) (sTry tb th):=by
 intro Dy s σ H D I ⟨E,q1,q2⟩;refine wpAny_Try_except ?_
 let xe:Value->Shared->Prop:=λ e s₁=>wpAny (model X.prog X.w) X.A (noteFrame e X.env) (λ _ s₂=>wpAny (model X.prog X.w) X.A (setFlight e none) (λ _ s₃=>wpAny (model X.prog X.w) X.A (handleBy e X.env (h₀::hs)) (SP X Dy D) X.xe s₃) X.xe s₂) X.xe s₁
 have hl:Lands (Xt X xe (X.pn++Dy)) E:=λ pins' σ' H' s' a n I' F O q=>by
   have J:Inv X Dy σ' H' s':=I'.unt I.ok;have O':Old X Dy n:=⟨O.st,O.loc,O.cell,λ p hp=>O.pin p (List.mem_append_left _ hp)⟩
   obtain⟨oe,vs,h1,h2,h3,h4⟩:=id F.ob;show wpAny _ _ (noteFrame _ _) _ _ s';have hfs:X.A.frames=some (X.env::X.outer):=by rw[J.ok.frames,hst]
   have hff:s'.heap.FunFrames X.base (X.env::X.outer):=by have:=J.stack;rwa[hst] at this
   refine qC9 (base:=X.base) (vs:=vs) hfs hff hfr h1 h2 h3 ?_ λ h' T L=>?_
   . rcases h4 with z | ⟨T,oT,ts,z1,_,_,z2,z3,z4,z5⟩
     . exact .inl z
     exact .inr ⟨T,oT,ts,z1,z2,z3,z4,z5⟩
   obtain⟨J2,F2⟩:=J.left (T:=T) F O' h1 h2 (by rw[hst];exact L);have J3:Inv X Dy (List.replicate σ.length none) H' { s' with heap:=h' }:=J2.weak (by rw[List.length_replicate,I.len,J2.len]) λ i v z=>by
     rw[List.getElem?_replicate] at z;split at z<;>cases z
   exact hh Dy _ _ H' D a n J3 F2 O' (q2 a H' q)
 refine wpAny_mono (hb E xe (X.pn++Dy) hl [] s σ H D I.t q1) (λ f s1 z=>?_) λ _ _ z=>z
 cases f with
 | next=>obtain⟨σ',H',J,z⟩:=z;exact wpAny_execs_nil ⟨σ',H',J.unt I.ok,z⟩
 | brk=>obtain⟨σ',H',J,z⟩:=z;exact⟨σ',H',J.unt I.ok,z⟩
 | cont=>obtain⟨σ',H',J,z⟩:=z;exact⟨σ',H',J.unt I.ok,z⟩
 | ret u=>obtain⟨v,σ',H',J,rv,z⟩:=z;exact⟨v,σ',H',J.unt I.ok,rv,z⟩
end
end L2
namespace L2
open PySem PySem.Spec PyProof.Rows PySem.SeqAt
open PySem.AutoSeq1 (wpAny_loadPart')
theorem Fun.okX{P:Program}{w:World}{K:PySem.W.Frag}{mg:Str->Option Value}{base:Heap}{x qual:Str}{st:Stmt}{f:Addr}{fd:FuncData}{N ps:List Str}{k:Nat}{sp:Sp}(F:Fun K x qual st f fd)(S:qa9 N ps (qa3 st))(len:∀ vs H Q E,sp vs H Q E->vs.length=ps.length)(hbody:∀(cdv:Value)(A:Around)(outer:List Env)(s:Shared)(H:Hp)(vs:List V)(Q:VK)(E:XK),Room k (A.deeper (envOfC qual (qa3 st) s.heap.objs.size f cdv))->sp vs H Q E ->
     ∃ t,PSs (Ef (CX1 P w) P w K mg base N qual (qa3 st) f cdv A outer s H E) (qd1 st) t/\t { nx:=λ _ H'=>Q .non H',rt:=Q } (start N vs) H):Bi P w K mg base (CX1 P w) (k+1) f fd ps sp:=by
 obtain⟨oc,od,kV,doc,pm,an,cdv,ct,osl,rfl,lk,hcd⟩:=F.ex;exact Ht lk hcd S len λ A outer s H vs Q E hr hsp=>hbody cdv A outer s H vs Q E hr hsp
theorem qI5(K:PySem.W.Frag)(C:Addr):PySem.W.kitOne K (.ref C) (.ref C)=some true:=by
 unfold PySem.W.kitOne;rw[if_pos (zBe _)]
end L2
namespace L2
open PySem PySem.Spec PyProof.Rows
section
variable{X:Cx}{Dy:List (Addr×Obj)}{σ:St}{H:Hp}{s:Shared}{h':Heap}
theorem Inv.turnedL{t':Nat}{ch:List Addr}(I:Inv X Dy σ H s)(k:∀ b o,b∉ch->s.heap.get? b=some o->h'.get? b=some o)(hf:∀ b∈ch,Fq X Dy H b):Inv X Dy σ H { s with heap:=h',toks:=t' }:=by
 have nit:∀ b u,H b=some u->b∉ch:=λ b u e z=>by rw[(hf b z).1] at e;cases e
 refine I.step (g':=s.gens) (d':=s.drawn) (ch:=ch) (λ b hb=>?_) (λ b o _ _ hc e _=>k b o hc e) (λ b o _ _ hc e _=>⟨o.slots,k b o hc e⟩) (λ _ _ _ _ n=>n)
   (λ b o hc e=>⟨o,k b o hc e⟩) (λ _ _ e=>e) (λ _ _ _ e=>e) (λ b ps e=>⟨#[],by rw[e];simp⟩) (λ m hm=>?_) (λ b u e=>?_) I.bare
 . obtain⟨f0,f1,f2,f3,f4,f5⟩:=hf b hb
   exact⟨f3,f1,f4,f5⟩
 . obtain⟨o,es,ep,ho,r⟩:=hm
   exact⟨o,es,ep,k _ o (λ z=>(hf _ z).2.1 rfl) ho,r⟩
 refine(I.hok b u e).stay (λ c v hc q=>k c v ?_ q) (λ _ q=>q) λ _ _ q=>q
 rcases hc with z | z
 . rw[z];exact nit b u e
 exact nit c _ z
end
def Ite(K:PySem.W.Frag)(a:Addr):It :=
 ⟨λ i H=>∃ xs x,SqL K H a xs/\xs[i]? = some x,λ i H x H'=>∃ t y,x=.ref t/\H t=none/\H'=upd H t (.tup [.int (i:Int),y])/\∀ xs,SqL K H a xs->xs[i]? = some y,λ i H=>∃ xs,SqL K H a xs/\xs.length<=i⟩
theorem qaa8{P:Program}{w:World}{K:PySem.W.Frag}{elts:List Expr}{x1:Nat}{pos:Pos}(a it e:Addr)(hne:e≠it):Hq P w K (.Tuple elts x1 pos) (Ite K a) [e,it] e (λ i h=>(∃ old,IsEnum h e it (i:Nat) old)/\h.IsListIter it a i) where
 mem:=by simp
 obj:=λ i h st b hb=>by
   obtain⟨⟨old,he⟩,o,ho,hc,hd⟩:=st;rcases zAc.mp hb with rfl | hb
   . exact⟨_,he,λ v z=>by
       have z':Data.fields _=Data.cell v:=z;cases z'⟩
   rw[zAn.mp hb];exact⟨o,ho,λ v z=>by rw[hd] at z;cases z⟩
 keep:=λ i h h' st k=>by
   obtain⟨⟨old,he⟩,st⟩:=st;exact⟨⟨old,k e (by simp) _ he⟩,st.at λ o q=>k it (by simp) o q⟩
 item:=by
   intro X hP hw hK hc i Dy s σ H E I hf st hg;subst hP hw hK;obtain⟨xs,x,hq,hx⟩:=hg;obtain⟨⟨old,he⟩,hit⟩:=st;obtain⟨its,rv,p,hz⟩:=I.list hq;obtain⟨u,hu,ru⟩:=rv.get hx;have hfr:H s.heap.objs.size=none:=I.hok.fresh (zA5 _);obtain⟨oi,hoi,_⟩:=id hit;have lt1:e < s.heap.objs.size:=zA6 he;have lt2:it < s.heap.objs.size:=zA6 hoi;refine wpAny_pyNext_enum_item he hit p.isList (x:=u) (by simpa using hu) hne λ h1 heo hit1 ht1 hz1 hk1=>?_
   refine⟨_,rfl,wpAny_letOwnedTupleGo_enum (s:={ s with heap:=h1,toks:=s.toks+1 }) heo λ h2 he2 hs2=>?_⟩
   replace hs2:Heap.SameBut e h1 h2:=hs2
   have I0:Inv X Dy σ (upd H s.heap.objs.size (.tup [.int (i:Int),x])) { s with heap:=s.heap.push { cls:=.type "tuple",data:=.seq #[.int i s.toks,u] },toks:=s.toks+1 } :=
     I.laid (λ b o q=>zA2 _ q) (zA5 _) ⟨by show 2<=sizeLine;decide,[.int i s.toks,u],.cons ⟨_,rfl⟩ (.cons ru .nil),⟨_,zAw _ rfl,rfl,_,rfl⟩⟩
   have I2:Inv X Dy σ (upd H s.heap.objs.size (.tup [.int (i:Int),x])) { s with heap:=h2,toks:=s.toks+1 }:=by
     refine Inv.turnedL (s:={ s with heap:=s.heap.push { cls:=.type "tuple",data:=.seq #[.int i s.toks,u] },toks:=s.toks+1 }) (h':=h2) (ch:=[e,it]) (t':=s.toks+1) I0 (λ b o hb q=>?_) (λ b hb=>?_)
     . have nb1:b≠e:=λ z=>hb (by simp[z])
       have nb2:b≠it:=λ z=>hb (by simp[z])
       refine hs2.extBut b o nb1 ?_;rcases Heap.get?_push_cases (show (s.heap.push { cls:=.type "tuple",data:=.seq #[.int i s.toks,u] }).get? b=some o from q) with⟨rfl,rfl⟩ | q
       . exact ht1
       exact hk1 b o nb1 nb2 q
     refine⟨?_,(hf b hb).2⟩;have hb':b < s.heap.objs.size:=by
       rcases zAc.mp hb with rfl | hb
       . exact lt1
       rw[zAn.mp hb];exact lt2
     rw[qb3 (zAi hb')];exact(hf b hb).1
   refine⟨.ref s.heap.objs.size,_,I2,rfl,⟨_,x,rfl,hfr,rfl,λ ys hy=>by rw[I.list_inj hy hq];exact hx⟩,⟨⟨u,?_⟩,?_⟩,λ b hb=>?_⟩
   . have:((i+1:Nat):Int)=(i:Int)+1:=by push_cast;rfl
     rw[this];exact he2
   . exact hit1.extBut hs2.extBut (Ne.symm hne)
   have hb':b < s.heap.objs.size:=by
     rcases zAc.mp hb with rfl | hb
     . exact lt1
     rw[zAn.mp hb];exact lt2
   rw[qb3 (zAi hb')];exact(hf b hb).1
 done:=by
   intro X hP hw hK hc i Dy s σ H E I hf st hg;subst hP hw hK;obtain⟨xs,hq,hx⟩:=hg;obtain⟨⟨old,he⟩,hit⟩:=st;obtain⟨its,rv,p,hz⟩:=I.list hq;obtain⟨f0,f1,f2,f3,f4,f5⟩:=hf it (by simp);have hl:=rv.length;exact wpAny_pyNext_enum_end (I.ok.hd hc) he hit p.isList (by simp;lia) λ h' eb=>⟨rfl,I.turned (t':=s.toks) (λ b o hb q=>eb b o hb q) f0 f1 f3 f4 f5⟩
 self:=λ _ _ _ _ _ st h=>by
   obtain⟨⟨old,he⟩,_⟩:=st;exact wpAny_pyIter_enum he h
section
variable{X:Cx}
def iEnum(K:PySem.W.Frag)(ta:TA):TI:=λ σ H R=>ta σ H λ vs H1=>∃ a,vs=[.ref a]/\(∃ xs,SqL K H1 a xs)/\R (Ite K a) H1
theorem qax1{l:Expr}{ta:TA}{elts:List Expr}{x1:Nat}{p pos tpos:Pos}(hg:Gl X "enumerate")(hm:X.mg "enumerate" = none)(ha:PA X [l] ta)(hs:starEach [l] X.env=[(false,eval l X.env)]:=by rfl):PI X (.Tuple elts x1 tpos) (.Call (.Name "enumerate" p) [l] [] pos) (iEnum X.K ta):=by
 intro Dy s σ H R I h;refine Call_ (qI3 I hg hm boot_enumerate (PyProof.Rows.callWith_type1 (thn (ha pos Dy s σ H _ I h) λ us s1 ⟨vs,H1,I1,r1,q1⟩=>?_) hs rfl));obtain⟨a,e,⟨xs,hq⟩,q⟩:=q1;subst e;cases r1 with
 | cons r rr =>
   cases rr;cases r;obtain⟨its,rv,pl,hz⟩:=I1.list hq;refine call_enumerate_list pl.isList λ h' hE hI hsz hk=>?_
   refine wpAny_pyIter_enum hE ?_;refine⟨s1.heap.objs.size+1,[s1.heap.objs.size+1,s1.heap.objs.size],_,_,H1,rfl,I1.kept (t':=s1.toks) hk,qaa8 a s1.heap.objs.size (s1.heap.objs.size+1) (Nat.succ_ne_self _),⟨⟨_,hE⟩,hI⟩,λ b hb=>?_,q⟩;have hb':s1.heap.objs.size<=b:=by
     rcases zAc.mp hb with rfl | hb
     . exact Nat.le_succ _
     rw[zAn.mp hb];exact zA5 _
   exact I1.fpOk hb' (I1.hok.fresh hb')
end
theorem qar9{K:PySem.W.Frag}{a:Addr}{xs:List V}{g:TG}{tb:TS}{D:Bn}{σ:St}{H:Hp}(Pv:Nat->St->Hp->Prop)(h0:Pv 0 σ H)(hl:∀ i σ H,i<=xs.length->Pv i σ H->SqL K H a xs)(hs:∀(i:Nat) x σ H t,xs[i]? = some x->Pv i σ H->H t=none->g (.ref t) σ (upd H t (.tup [.int (i:Int),x])) λ σ2 H2=>tb { D with nx:=Pv (i+1),ct:=Pv (i+1),bk:=D.nx } σ2 H2)(hd:∀ σ H,Pv xs.length σ H->D.nx σ H) :
   ∃ W:Nat->Nat->St->Hp->Prop,(∃ m,W 0 m σ H)/\∀ i m σ H,W i m σ H ->
     ((Ite K a).stop i H/\D.nx σ H)∨((Ite K a).go i H/\∃ N:St->Hp->Prop,(∀ σ' H',N σ' H'->∃ m',m' < m/\W (i+1) m' σ' H')/\∀ x H',(Ite K a).yld i H x H'->g x σ H' λ σ2 H2=>tb { D with nx:=N,ct:=N,bk:=D.nx } σ2 H2):=by
 refine⟨λ i m σ H=>m=xs.length - i/\i<=xs.length/\Pv i σ H,⟨xs.length,by simp,Nat.zero_le _,h0⟩,?_⟩;rintro i m σ H ⟨rfl,hi,p⟩;have q:=hl i σ H hi p;by_cases hlt:i < xs.length
 . refine .inr ⟨⟨xs,xs[i],q,by simp[hlt]⟩,Pv (i+1),λ σ' H' p'=>⟨xs.length - (i+1),by lia,rfl,hlt,p'⟩,λ x H' y=>?_⟩
   obtain⟨t,y',e,ht,e',hy⟩:=y;subst e e';exact hs i y' σ _ t (hy xs q) p ht
 have e:i=xs.length:=by lia
 subst e;exact .inl ⟨⟨xs,q,zA5 _⟩,hd σ H p⟩
end L2
namespace L2
open PySem PySem.Spec PyProof.Rows PySem.SeqAt
end L2
namespace L2
open PySem PySem.Spec PyProof.Rows
def qaq8:List String:=["NoneType", "bool", "int", "str", "list", "tuple", "dict"]
structure IsO(K:PySem.W.Frag)(C:Addr):Prop where
 ca:PySem.W.findIn K (.ref C) "__class__" = some (some (.builtin "object.__class__"))
 cn:PySem.W.specialIn K (.builtin "object.__class__") "__get__" = some (some (.builtin "getset_descriptor.__get__"))
 ct:PySem.W.takesIn K (.builtin "object.__class__")=some true
 cm:PySem.W.mroIn K C (.type "object")=some true
 kf:∀ t∈qaq8,PySem.W.kitOne K (.type t) (.ref C)=some false
theorem kf_of{K:PySem.W.Frag}{C:Addr}(h1:PySem.W.kitOne K (.type "NoneType") (.ref C)=some false)(h2:PySem.W.kitOne K (.type "bool") (.ref C)=some false)(h3:PySem.W.kitOne K (.type "int") (.ref C)=some false)(h4:PySem.W.kitOne K (.type "str") (.ref C)=some false)(h5:PySem.W.kitOne K (.type "list") (.ref C)=some false)(h6:PySem.W.kitOne K (.type "tuple") (.ref C)=some false)(h7:PySem.W.kitOne K (.type "dict") (.ref C)=some false) :
   ∀ t∈qaq8,PySem.W.kitOne K (.type t) (.ref C)=some false:=by
 intro t ht;unfold qaq8 at ht;simp only[zAc,zAy,zC1] at ht;rcases ht with rfl | rfl | rfl | rfl | rfl | rfl | rfl<;>assumption
section
variable{X:Cx}
def rIsO(C:Addr):List V->Hp->VK->Prop:=λ xs H Q=>∃ x,xs=[x,.ref C]/\((∃ a dx fs,x=.ref a/\H a=some (.ins C dx fs)/\Q (.bl true) H)∨(∃ t,Dz H x=some t/\Q (.bl false) H))
theorem qat3{C:Addr}(io:IsO X.K C)(cl:Cls X.K C):CallR X (.builtin "isinstance") (rIsO C):=by
 intro Dy s σ H xs us Q I r h;obtain⟨x,rfl,h⟩:=h;obtain⟨u,w',rfl,ru,rw'⟩:=Gz r;cases rw';rcases h with⟨a,dx,fs,rfl,ha,q⟩ | ⟨t,hk,q⟩
 . have e:PySem.W.kitOne X.K (.ref C) (.ref C)=some true:=by
     unfold PySem.W.kitOne;rw[if_pos (by simp)]
   exact qA4 I ru (.ins ha cl io.ca io.cn io.ct io.cm) e λ tk=>⟨.bl true,H,I.tok tk,rfl,q⟩
 obtain⟨ty,ht⟩:=qW8 (K:=X.K) hk;exact qA4 I ru ty (io.kf t ht) λ tk=>⟨.bl false,H,I.tok tk,rfl,q⟩
theorem qaH5{x:Str}(C:Addr){pos:Pos}(hm:X.mg x=some (.ref C))(hg:Gl X x:=by rfl)(hd:(x == ("__debug__" : Str))=false:=by decide):PE X (.Name x pos) (tC (.ref C)):=qK9 hg hm rfl hd
end
end L2
namespace Row
variable{S:List Int}{a i j q s:Nat}{x y:Int}
def Ae(n h r:Nat):Nat:=if h<=r then r - h else r+n - h
def B6(n r:Nat):Nat:=if r=0 then n - 1 else r - 1
def next(n r:Nat):Nat:=if r+1=n then 0 else r+1
def Bc(n:Nat)(hm:Int->Nat)(r:Nat)(x y:Int):Prop:=Ae n (hm y) r < Ae n (hm x) r∨(Ae n (hm x) r=Ae n (hm y) r/\x < y)
theorem qx5{n:Nat}{hm:Int->Nat}{r:Nat}{z:Int}(h:Bc n hm r x y)(h':Bc n hm r y z):Bc n hm r x z:=by
 unfold Bc at *;lia
theorem qag3{n:Nat}{hm:Int->Nat}{r:Nat}(h:x≠y)(h':¬ Bc n hm r x y):Bc n hm r y x:=by
 unfold Bc at *;lia
theorem qC6{n r:Nat}(h:r < n):next n r < n:=by unfold next;split<;>lia
theorem qK7{n r:Nat}(h:r < n):B6 n r < n:=by unfold B6;split<;>lia
theorem qac1{n r:Nat}(h:r < n):B6 n (next n r)=r:=by unfold B6 next;split<;>split<;>lia
theorem qp4{n r:Nat}(h:r < n)(ha:a < n):Ae n a r < n:=by unfold Ae;split<;>lia
theorem ql0{n r:Nat}(ha:a < n)(h:r < n)(h':s < n)(e:Ae n a r=Ae n a s):r=s:=by
 unfold Ae at e;split at e<;>split at e<;>lia
theorem qA9{n r:Nat}(ha:a < n)(h:r < n):Ae n a r=0↔r=a:=by unfold Ae;split<;>lia
theorem qr2{n r:Nat}(ha:a < n)(h:r < n)(hd:0 < Ae n a r):Ae n a (B6 n r)=Ae n a r - 1:=by
 unfold Ae B6 at *;split at hd<;>split<;>split<;>lia
theorem qB0{n r:Nat}(ha:a < n)(h:r < n)(hd:Ae n a r+1 < n):Ae n a (next n r)=Ae n a r+1:=by
 unfold Ae next at *;split at hd<;>split<;>split<;>lia
theorem nor(n s:Nat):(s+1=n/\next n s=0)∨(s+1≠n/\next n s=s+1):=by unfold next;split<;>lia
theorem dor(n a r:Nat):(a<=r/\Ae n a r+a=r)∨(r < a/\(a<=r+n->Ae n a r+a=r+n)):=by
 unfold Ae;split<;>lia
theorem d_sub{n:Nat}(ha:a < n)(hi:i < n)(hs:s < n)(h:Ae n a i<=Ae n a s):Ae n a i+Ae n i s=Ae n a s:=by
 have d1:=dor n a i;have d2:=dor n a s;have d3:=dor n i s;lia
theorem qaM4{n t:Nat}(ha:a < n)(hs:s < n)(ht:t < n)(h:Ae n a s < Ae n a t):Ae n t s+Ae n a t=n+Ae n a s:=by
 have d1:=dor n a s;have d2:=dor n a t;have d3:=dor n t s;lia
theorem qaf7{n b:Nat}(ha:a < n)(hb:b < n)(hj:j < n)(hi:i < n)(h1:Ae n a i<=Ae n a j)(h2:Ae n a j<=Ae n b j):Ae n b i+(Ae n a j - Ae n a i)=Ae n b j:=by
 have e1:=d_sub ha hi hj h1;have l1:=qp4 hi hb;rcases Nat.lt_or_ge (Ae n b j) (Ae n b i) with h3 | h3
 . have:=qaM4 hb hj hi h3
   lia
 have:=d_sub hb hi hj h3
 lia
structure Ord(n:Nat)(hm:Int->Nat)(g:Nat->Option Int):Prop where
 home:∀ k,hm k < n
 inj:∀ i j k,i < n->j < n->g i=some k->g j=some k->i=j
 ord:∀ i k,i < n->g i=some k->0 < Ae n (hm k) i->∃ x,g (B6 n i)=some x/\Bc n hm (B6 n i) x k
def Calm(n:Nat)(hm:Int->Nat)(g:Nat->Option Int):Prop:=∃ i,i < n/\∀ k,g i=some k->hm k=i
theorem Ord.path{n:Nat}{hm:Int->Nat}{g:Nat->Option Int}(O:Ord n hm g):∀(m j i:Nat)(z:Int),j < n->i < n->g j=some z->Ae n (hm z) i+m+1=Ae n (hm z) j->∃ x,g i=some x/\Bc n hm i x z
 | 0,j,i,z,hj,hi,hz,e=>by
   have h1:0 < Ae n (hm z) j:=by lia
   obtain⟨x,hx,ax⟩:=O.ord j z hj hz h1
   have:=qr2 (O.home z) hj h1
   have e1:i=B6 n j:=ql0 (O.home z) hi (qK7 hj) (by lia);rw[e1];exact⟨x,hx,ax⟩
 | m+1,j,i,z,hj,hi,hz,e=>by
   have h1:0 < Ae n (hm z) j:=by lia
   obtain⟨x,hx,ax⟩:=O.ord j z hj hz h1;have h2:=qr2 (O.home z) hj h1;have hp:=qK7 hj;have h3:Ae n (hm z) (B6 n j)<=Ae n (hm x) (B6 n j):=by unfold Bc at ax;lia
   have h4:=qaf7 (O.home z) (O.home x) hp hi (by lia) h3;obtain⟨y,hy,ay⟩:=O.path m (B6 n j) i x hp hi hx (by lia);refine⟨y,hy,qx5 ay ?_⟩;unfold Bc at *;lia
theorem Ord.path'{n:Nat}{hm:Int->Nat}{g:Nat->Option Int}(O:Ord n hm g){z:Int}(hj:j < n)(hi:i < n)(hz:g j=some z)(h:Ae n (hm z) i < Ae n (hm z) j):∃ x,g i=some x/\Bc n hm i x z :=
 O.path (Ae n (hm z) j - Ae n (hm z) i - 1) j i z hj hi hz (by lia)
theorem qN0{α:Type}[DecidableEq α](x:α):∀(S:List α),S.Nodup->S.length<=(S.filter (λ y=>decide (y≠x))).length+1
 | [],_=>by simp
 | a::S,h=>by
   have hn:=zBr.mp h;by_cases e:a=x
   . subst e
     have:S.filter (λ y=>decide (y≠a))=S:=List.filter_eq_self.mpr λ y hy=>by
       simp only[ne_eq,zAu];intro z;subst z;exact hn.1 hy
     rw[List.filter_cons_of_neg (by simp),this];simp
   rw[List.filter_cons_of_pos (by simpa using e)]
   have:=qN0 x S hn.2
   simp only[zAk];lia
theorem qt1{α:Type}[DecidableEq α](x:α):∀(S:List α),x∈S->(S.filter (λ y=>decide (y≠x))).length+1<=S.length
 | [],h=>by simp at h
 | a::S,h=>by
   by_cases e:a=x
   . rw[List.filter_cons_of_neg (by simp[e])]
     have:=List.length_filter_le (λ y=>decide (y≠x)) S
     simp only[zAk];lia
   rw[List.filter_cons_of_pos (by simpa using e)]
   have:=qt1 x S (by rcases zAc.mp h with z | z;exact absurd z.symm e;exact z)
   simp only[zAk];lia
theorem qK8{g:Nat->Option Int}:∀(L:List Nat)(S:List Int),S.Nodup->(∀ k∈S,∃ i∈L,g i=some k)->S.length<=L.length
 | [],S,_,h=>by
   cases S with
   | nil=>simp
   | cons k _=>obtain⟨i,hi,_⟩:=h k (by simp);simp at hi
 | i::L,S,hn,h=>by
   cases hg:g i with
   | none =>
     have:=qK8 L S hn λ k hk=>by
       obtain⟨j,hj,e⟩:=h k hk;rcases zAc.mp hj with z | z
       . rw[z,hg] at e;cases e
       exact⟨j,z,e⟩
     simp only[zAk];lia
   | some x =>
     have h1:=qK8 L (S.filter (λ y=>decide (y≠x))) (hn.filter _) λ k hk=>by
       obtain⟨hk,hkx⟩:=zC0.mp hk;obtain⟨j,hj,e⟩:=h k hk;rcases zAc.mp hj with z | z
       . rw[z,hg] at e
         have e':x=k:=Option.some.inj e;rw[e'] at hkx;simp at hkx
       exact⟨j,z,e⟩
     have h2:=qN0 x S hn;simp only[zAk];lia
theorem qU1{g:Nat->Option Int}:∀(L:List Nat)(S:List Int),L.Nodup->(∀ i∈L,∃ k∈S,g i=some k)->(∀ i∈L,∀ j∈L,∀ k,g i=some k->g j=some k->i=j)->L.length<=S.length
 | [],S,_,_,_=>by simp
 | i::L,S,hn,h,inj=>by
   obtain⟨x,hx,hg⟩:=h i (by simp);have hn:=zBr.mp hn;have h1:=qU1 L (S.filter (λ y=>decide (y≠x))) hn.2 (λ j hj=>by
     obtain⟨k,hk,e⟩:=h j (zA4 _ hj);refine⟨k,zC0.mpr ⟨hk,?_⟩,e⟩;simp only[ne_eq,zAu];intro z;subst z
     have:=inj i (by simp) j (zA4 _ hj) k hg e
     exact hn.1 (this ▸ hj)) λ a ha b hb=>inj a (zA4 _ ha) b (zA4 _ hb)
   have h2:=qt1 x S hx;simp only[zAk];lia
def Holds(n:Nat)(g:Nat->Option Int)(S:List Int):Prop:=S.Nodup/\∀ k,k∈S↔∃ i,i < n/\g i=some k
def set(g:Nat->Option Int)(r:Nat)(c:Int):Nat->Option Int:=λ j=>if j=r then some c else g j
theorem qc8{g:Nat->Option Int}{r:Nat}{c:Int}:set g r c r=some c:=by unfold set;rw[if_pos rfl]
theorem qe9{g:Nat->Option Int}{r:Nat}{c:Int}(h:j≠r):set g r c j=g j:=by unfold set;rw[if_neg h]
structure Walk(n:Nat)(wr:Bool)(hm:Int->Nat)(T:List Int)(k:Int)(e:Nat)(g:Nat->Option Int)(c:Int)(r:Nat):Prop where
 o:Ord n hm g
 nin:∀ i,i < n->g i≠some c
 hr:r < n
 pth:∀ j,j < n->Ae n (hm c) j < Ae n (hm c) r->∃ x,g j=some x/\Bc n hm j x c
 he:e < n
 ge:g e=none
 lim:Ae n (hm k) r<=Ae n (hm k) e
 all:∀ x,x∈T↔(x=c∨∃ i,i < n/\g i=some x)
 ln:wr=false->hm k<=e/\hm c<=r/\∀ i x,i < n->g i=some x->hm x<=i
section
variable{n:Nat}{wr:Bool}{hm:Int->Nat}{T:List Int}{k:Int}{e:Nat}{g:Nat->Option Int}{c:Int}{r:Nat}
theorem Walk.lt(W:Walk n wr hm T k e g c r)(hy:g r=some y):Ae n (hm k) r < Ae n (hm k) e:=by
 have h1:=W.lim
 have:r≠e:=λ z=>by have:=W.ge;rw[<- z,hy] at this;cases this
 have h2:Ae n (hm k) r≠Ae n (hm k) e:=λ z=>this (ql0 (W.o.home k) W.hr W.he z)
 lia
theorem Walk.nx(W:Walk n wr hm T k e g c r)(hy:g r=some y):Ae n (hm k) (next n r)=Ae n (hm k) r+1:=by
 have h1:=W.lt hy;have h2:=qp4 W.he (W.o.home k);exact qB0 (W.o.home k) W.hr (by lia)
theorem way(hx:hm x < n)(hj:j < n)(he:e < n)(ge:g e=none)(hw:∀ i,i < n->Ae n (hm x) i<=Ae n (hm x) j->∃ y,g i=some y):Ae n (hm x) j+1 < n:=by
 have h1:=qp4 hj hx;have h2:=qp4 he hx;by_cases h:Ae n (hm x) e<=Ae n (hm x) j
 . obtain⟨y,q⟩:=hw e he h
   rw[ge] at q;cases q
 lia
theorem Walk.on(W:Walk n wr hm T k e g c r)(hy:g r=some y)(h:¬ Bc n hm r c y):Walk n wr hm T k e g c (next n r):=by
 have nx:=W.nx hy;have lt:=W.lt hy;have hc:=W.o.home c;have ne:c≠y:=λ z=>W.nin r W.hr (by rw[z];exact hy)
 have w:Ae n (hm c) r+1 < n:=way (g:=g) hc W.hr W.he W.ge λ i hi hd=>by
   by_cases q:Ae n (hm c) i=Ae n (hm c) r
   . rw[ql0 hc hi W.hr q];exact⟨y,hy⟩
   obtain⟨x,hx,_⟩:=W.pth i hi (by lia);exact⟨x,hx⟩
 have cn:=qB0 hc W.hr w;refine⟨W.o,W.nin,qC6 W.hr,λ j hj hd=>?_,W.he,W.ge,by lia,W.all,λ hw=>?_⟩
 . by_cases q:Ae n (hm c) j=Ae n (hm c) r
   . rw[ql0 hc hj W.hr q];exact⟨y,hy,qag3 ne h⟩
   exact W.pth j hj (by lia)
 obtain⟨l1,l2,l3⟩:=W.ln hw;refine⟨l1,?_,l3⟩;have d1:=dor n (hm k) r;have d2:=dor n (hm k) e;have d3:=nor n r
 have:=W.hr
 have:=W.he
 have:=W.o.home k
 lia
theorem Walk.swap(W:Walk n wr hm T k e g c r)(hy:g r=some y)(h:Bc n hm r c y):Walk n wr hm T k e (set g r c) y (next n r):=by
 have nx:=W.nx hy;have lt:=W.lt hy;have hc:=W.o.home c;have hyh:=W.o.home y;have ne:c≠y:=λ z=>W.nin r W.hr (by rw[z];exact hy)
 have re:e≠r:=λ z=>by have:=W.ge;rw[z,hy] at this;cases this
 have w:Ae n (hm y) r+1 < n:=way (g:=g) hyh W.hr W.he W.ge λ i hi hd=>by
   by_cases q:Ae n (hm y) i=Ae n (hm y) r
   . rw[ql0 hyh hi W.hr q];exact⟨y,hy⟩
   obtain⟨x,hx,_⟩:=W.o.path' W.hr hi hy (by lia);exact⟨x,hx⟩
 have yn:=qB0 hyh W.hr w;refine⟨⟨W.o.home,λ i j x hi hj gi gj=>?_,λ i x hi gi hd=>?_⟩,λ i hi gi=>?_,qC6 W.hr,λ j hj hd=>?_,W.he,by rw[qe9 re];exact W.ge,by lia,λ x=>?_,λ hw=>?_⟩
 . by_cases e1:i=r
   . by_cases e2:j=r
     . rw[e1,e2]
     rw[e1,qc8] at gi;rw[qe9 e2] at gj;cases gi;exact absurd gj (W.nin j hj)
   rw[qe9 e1] at gi;by_cases e2:j=r
   . rw[e2,qc8] at gj
     cases gj;exact absurd gi (W.nin i hi)
   rw[qe9 e2] at gj;exact W.o.inj i j x hi hj gi gj
 . have hp:=qK7 hi
   by_cases e1:i=r
   . subst e1
     rw[qc8] at gi;cases gi;have d:=qr2 hc hi hd;obtain⟨x,hx,ax⟩:=W.pth (B6 n i) hp (by lia)
     have:B6 n i≠i:=λ z=>by rw[z] at d;lia
     exact⟨x,by rw[qe9 this];exact hx,ax⟩
   rw[qe9 e1] at gi;obtain⟨z,hz,az⟩:=W.o.ord i x hi gi hd;by_cases e2:B6 n i=r
   . rw[e2] at hz az ⊢
     rw[hy] at hz;cases hz;exact⟨c,qc8,qx5 h az⟩
   exact⟨z,by rw[qe9 e2];exact hz,az⟩
 . by_cases e1:i=r
   . rw[e1,qc8] at gi
     exact ne (Option.some.inj gi)
   rw[qe9 e1] at gi;exact e1 (W.o.inj i r y hi W.hr gi hy)
 . by_cases q:Ae n (hm y) j=Ae n (hm y) r
   . rw[ql0 hyh hj W.hr q];exact⟨c,qc8,h⟩
   obtain⟨x,hx,ax⟩:=W.o.path' W.hr hj hy (by lia)
   have:j≠r:=λ z=>q (by rw[z])
   exact⟨x,by rw[qe9 this];exact hx,ax⟩
 . rw[W.all x]
   constructor
   . rintro (z | ⟨i,hi,gi⟩)
     . exact .inr ⟨r,W.hr,by rw[z];exact qc8⟩
     by_cases e1:i=r
     . rw[e1,hy] at gi
       exact .inl (Option.some.inj gi).symm
     exact .inr ⟨i,hi,by rw[qe9 e1];exact gi⟩
   rintro (z | ⟨i,hi,gi⟩)
   . exact .inr ⟨r,W.hr,by rw[z];exact hy⟩
   by_cases e1:i=r
   . rw[e1,qc8] at gi
     exact .inl (Option.some.inj gi).symm
   rw[qe9 e1] at gi;exact .inr ⟨i,hi,gi⟩
 obtain⟨l1,l2,l3⟩:=W.ln hw;have ly:=l3 r y W.hr hy;refine⟨l1,?_,λ i x hi gi=>?_⟩
 . have d1:=dor n (hm k) r
   have d2:=dor n (hm k) e;have d3:=nor n r
   have:=W.hr
   have:=W.he
   have:=W.o.home k
   lia
 by_cases e1:i=r
 . rw[e1,qc8] at gi
   cases gi;lia
 rw[qe9 e1] at gi;exact l3 i x hi gi
structure Kept(n:Nat)(wr:Bool)(hm:Int->Nat)(g:Nat->Option Int)(S:List Int):Prop where
 o:Ord n hm g
 c:Calm n hm g
 h:Holds n g S
 ln:wr=false->∀ i x,i < n->g i=some x->hm x<=i
theorem Walk.done(W:Walk n wr hm T k e g c r)(hT:T.Nodup)(hy:g r=none):Kept n wr hm (set g r c) T:=by
 have hc:=W.o.home c;have hnr:=qC6 W.hr;refine⟨⟨W.o.home,λ i j x hi hj gi gj=>?_,λ i x hi gi hd=>?_⟩,⟨next n r,hnr,λ x gx=>?_⟩,⟨hT,λ x=>?_⟩,λ hw=>?_⟩
 . by_cases e1:i=r
   . by_cases e2:j=r
     . rw[e1,e2]
     rw[e1,qc8] at gi;rw[qe9 e2] at gj;cases gi;exact absurd gj (W.nin j hj)
   rw[qe9 e1] at gi;by_cases e2:j=r
   . rw[e2,qc8] at gj
     cases gj;exact absurd gi (W.nin i hi)
   rw[qe9 e2] at gj;exact W.o.inj i j x hi hj gi gj
 . have hp:=qK7 hi
   by_cases e1:i=r
   . subst e1
     rw[qc8] at gi;cases gi;have d:=qr2 hc hi hd;obtain⟨x,hx,ax⟩:=W.pth (B6 n i) hp (by lia)
     have:B6 n i≠i:=λ z=>by rw[z] at d;lia
     exact⟨x,by rw[qe9 this];exact hx,ax⟩
   rw[qe9 e1] at gi;obtain⟨z,hz,az⟩:=W.o.ord i x hi gi hd;by_cases e2:B6 n i=r
   . rw[e2,hy] at hz;cases hz
   exact⟨z,by rw[qe9 e2];exact hz,az⟩
 . have hx:=W.o.home x
   by_cases e1:next n r=r
   . have:=nor n r
     have:=W.hr
     lia
   rw[qe9 e1] at gx;by_cases hd:0 < Ae n (hm x) (next n r)
   . obtain⟨z,hz,_⟩:=W.o.ord _ x hnr gx hd
     rw[qac1 W.hr,hy] at hz;cases hz
   exact((qA9 hx hnr).mp (by lia)).symm
 . rw[W.all x]
   constructor
   . rintro (z | ⟨i,hi,gi⟩)
     . exact⟨r,W.hr,by rw[z];exact qc8⟩
     exact⟨i,hi,by rw[qe9 (λ z=>by rw[z,hy] at gi;cases gi)];exact gi⟩
   rintro⟨i,hi,gi⟩;by_cases e1:i=r
   . rw[e1,qc8] at gi
     exact .inl (Option.some.inj gi).symm
   rw[qe9 e1] at gi;exact .inr ⟨i,hi,gi⟩
 obtain⟨l1,l2,l3⟩:=W.ln hw;intro i x hi gi;by_cases e1:i=r
 . rw[e1,qc8] at gi
   cases gi;lia
 rw[qe9 e1] at gi;exact l3 i x hi gi
def F8(n:Nat)(wr:Bool)(hm:Int->Nat)(g:Nat->Option Int)(k:Int)(e:Nat):Prop:=e < n/\g e=none/\(wr=false->hm k<=e)
theorem Kept.start(K:Kept n wr hm g S)(hk:¬ k∈S)(F:F8 n wr hm g k e):Walk n wr hm (S++[k]) k e g k (hm k):=by
 have hh:=K.o.home k;have z:=(qA9 hh hh).mpr rfl;refine⟨K.o,λ i hi gi=>hk ((K.h.2 k).mpr ⟨i,hi,gi⟩),hh,λ j _ hd=>by lia,F.1,F.2.1,by lia,λ x=>?_,λ hw=>⟨F.2.2 hw,zA5 _,K.ln hw⟩⟩;rw[zAf,zAn,K.h.2 x];exact⟨Or.symm,Or.symm⟩
def Crowd(n:Nat)(wr:Bool)(hm:Int->Nat)(T:List Int)(q:Nat):Prop:=q < n/\if wr=true then q=0/\n < T.length else n - q < (T.filter (λ k=>decide (q<=hm k))).length
theorem qF4(h:i∈(List.range (n - q)).map (q + ·)):q<=i/\i < n:=by
 obtain⟨j,hj,rfl⟩:=zB6.mp h
 have:=zB2.mp hj
 lia
theorem qaq0(h:q<=i)(h':i < n):i∈(List.range (n - q)).map (q + ·):=zB6.mpr ⟨i - q,zB2.mpr (by lia),by lia⟩
theorem qR4{m:Nat}:((List.range m).map (q + ·)).Nodup:=by
 rw[List.nodup_iff_pairwise_ne,List.pairwise_map];exact(List.nodup_iff_pairwise_ne.mp List.nodup_range).imp λ h=>by lia
theorem Kept.no_crowd(K:Kept n wr hm g S)(q:Nat):¬ Crowd n wr hm S q:=by
 rintro⟨hq,h⟩;cases wr with
 | true =>
   rw[if_pos rfl] at h
   have:=qK8 (g:=g) (List.range n) S K.h.1 λ k hk=>by
     obtain⟨i,hi,gi⟩:=(K.h.2 k).mp hk;exact⟨i,zB2.mpr hi,gi⟩
   rw[zB4] at this;lia
 | false =>
   rw[if_neg (by decide)] at h
   have:=qK8 (g:=g) ((List.range (n - q)).map (q + ·)) (S.filter (λ k=>decide (q<=hm k))) (K.h.1.filter _) λ k hk=>by
     obtain⟨hk,hq⟩:=zC0.mp hk;obtain⟨i,hi,gi⟩:=(K.h.2 k).mp hk
     have:=K.ln rfl i k hi gi
     have hq:=zAo hq;exact⟨i,qaq0 (by lia) hi,gi⟩
   rw[zAe,zB4] at this;lia
theorem Kept.crowd(K:Kept n wr hm g S)(hF:∀ e,¬ F8 n wr hm g k e):∃ q,Crowd n wr hm (S++[k]) q:=by
 have hk0:=K.o.home k;have full:∀ e,e < n->(wr=false->hm k<=e)->∃ x,g e=some x:=λ e he hl=>by
   cases h:g e with
   | some x=>exact⟨x,rfl⟩
   | none=>exact absurd ⟨he,h,hl⟩ (hF e)
 cases wr with
 | true =>
   refine⟨0,by lia,?_⟩;rw[if_pos rfl];refine⟨rfl,?_⟩
   have:=qU1 (g:=g) (List.range n) S List.nodup_range (λ i hi=>by
     obtain⟨x,hx⟩:=full i (zB2.mp hi) (λ z=>by cases z);exact⟨x,(K.h.2 x).mpr ⟨i,zB2.mp hi,hx⟩,hx⟩) λ i hi j hj x=>K.o.inj i j x (zB2.mp hi) (zB2.mp hj)
   rw[zB4] at this;rw[zAj];simp only[zAk,zBz];lia
 | false =>
   have ex:∀ m,m<=hm k->(∀ e,m<=e->e < n->∃ x,g e=some x)->∃ q,q<=hm k/\(∀ e,q<=e->e < n->∃ x,g e=some x)/\(q=0∨g (q - 1)=none):=by
     intro m
     induction m with
     | zero=>exact λ h1 h2=>⟨0,h1,h2,.inl rfl⟩
     | succ m ih =>
       intro h1 h2;cases h:g m with
       | none=>exact⟨m+1,h1,h2,.inr h⟩
       | some x =>
         refine ih (by lia) λ e he hn=>?_
         by_cases q:e=m
         . rw[q];exact⟨x,h⟩
         exact h2 e (by lia) hn
   obtain⟨q,hq,hf,h0⟩:=ex (hm k) (zA5 _) λ e he hn=>full e hn λ _=>he
   refine⟨q,by lia,?_⟩;rw[if_neg (by decide)]
   have:=qU1 (g:=g) ((List.range (n - q)).map (q + ·)) (S.filter (λ k=>decide (q<=hm k))) qR4 (λ i hi=>by
     obtain⟨h1,h2⟩:=qF4 hi;obtain⟨x,hx⟩:=hf i h1 h2;refine⟨x,zC0.mpr ⟨(K.h.2 x).mpr ⟨i,h2,hx⟩,zA8 ?_⟩,hx⟩;have hx0:=K.o.home x;have hl:=K.ln rfl i x h2 hx;refine Nat.le_of_not_lt λ hlt=>?_
     rcases h0 with h0 | h0
     . lia
     obtain⟨y,hy,_⟩:=K.o.path' (i:=q - 1) h2 (by lia) hx (by
       have d1:=dor n (hm x) (q - 1);have d2:=dor n (hm x) i
       lia)
     rw[h0] at hy;cases hy) λ i hi j hj x=>K.o.inj i j x (qF4 hi).2 (qF4 hj).2
   rw[zAe,zB4] at this;have e1:([k].filter (λ k=>decide (q<=hm k))).length=1:=by simp[hq]
   rw[List.filter_append,zAj,e1];lia
theorem Crowd.mono{T:List Int}(h:Crowd n wr hm S q)(hs:S.Sublist T):Crowd n wr hm T q:=by
 obtain⟨hq,h⟩:=h;refine⟨hq,?_⟩;cases wr with
 | true =>
   rw[if_pos rfl] at h ⊢
   have:=hs.length_le
   exact⟨h.1,by lia⟩
 | false =>
   rw[if_neg (by decide)] at h ⊢
   have:=(hs.filter (λ k=>decide (q<=hm k))).length_le
   lia
theorem Kept.none(hn:0 < n)(hh:∀ k,hm k < n):Kept n wr hm (λ _=>none) [] :=
 ⟨⟨hh,(λ _ _ _ _ _ h=>by cases h),λ _ _ _ h=>by cases h⟩,⟨0,hn,λ _ h=>by cases h⟩,⟨List.nodup_nil,λ k=>⟨λ h=>by simp at h,λ ⟨_,_,h⟩=>by cases h⟩⟩,λ _ _ _ _ h=>by cases h⟩
end
def Fh(n:Nat)(hm:Int->Nat)(g:Nat->Option Int)(r i:Nat):Bool:=match g i with
 | some k=>decide (Ae n (hm k) r < Ae n (hm k) i)
 | none=>false
def G0(n:Nat)(hm:Int->Nat)(g:Nat->Option Int)(r:Nat):Nat:=(List.range n).countP (Fh n hm g r)
theorem qaE0{n m:Nat}(ha:a < n)(hm:m < n):∃ r,r < n/\Ae n a r=m:=by
 by_cases h:a+m < n
 . exact⟨a+m,h,by unfold Ae;rw[if_pos (by lia)];lia⟩
 exact⟨a+m - n,by lia,by unfold Ae;rw[if_neg (by lia)];lia⟩
end Row
namespace My
open PySem L2
def bagL(x y z:Int)(L:Addr):HO:=.lst [.int x,.int y,.int z,.ref L]
structure BagAt(H:Hp)(p:Addr)(x y z:Int)(L:Addr)(ns:List Int):Prop where
 at_:H p=some (bagL x y z L)
 li:H L=some (.lst (ns.map V.int))
 x0:0<=x
 y0:0<=y
 y1:y < 2147483647
 z0:0<=z
 nn:∀ n∈ns,0<=n
def Bag(H:Hp)(p L:Addr):Prop:=∃ x y z ns,BagAt H p x y z L ns
theorem qaM9{L:Addr}{x y z:Int}{ns:List Int}:HO.lst (ns.map V.int)≠bagL x y z L:=by
 intro e;have e:ns.map V.int=[.int x,.int y,.int z,.ref L]:=HO.lst.inj e;have e:=congrArg (·[3]?) e;rw[zAx] at e;cases h:ns[3]? <;> rw[h] at e<;>cases e
theorem BagAt.ne{H:Hp}{p L:Addr}{x y z:Int}{ns:List Int}(B:BagAt H p x y z L ns):L≠p:=ne_of B.li B.at_ qaM9
def qaG0(K:PySem.W.Frag):Sp:=λ vs H Q _=>∃(l:Addr)(ns:List Int),vs=[.ref l]/\SqL K H l (ns.map V.int)/\ns.length<=63 /\
 ∀ p L H',H p=none->H L=none->Same H H'->Bag H' p L->Q (.ref p) H'
def G1(K:PySem.W.Frag):Sp:=λ vs H Q _=>∃(l:Addr)(ns:List Int),vs=[.ref l]/\SqL K H l (ns.map V.int)/\ns.length<=63/\∀ H',Q (.bl true) H'
abbrev Pr:=List (Int×Int)
def Al(n:Int):Prop:=0<=n/\n<=1000000000000000000
structure Ic(ps:Pr):Prop where
 len:ps.length<=64
 nd:(ps.map (·.1)).Nodup
 nums:∀ p∈ps,Al p.1/\Al p.2
def qc1(n:Int)(ps:Pr)(k:Int):Int:=((ps.lookup k).getD k) % n
def A7(n:Int)(wr:Bool)(ps:Pr)(k r:Int):Option Int :=
 if wr then some ((r - qc1 n ps k) % n) else if 0<=r - qc1 n ps k then some (r - qc1 n ps k) else none
def qg4(n:Int)(wr:Bool)(ps:Pr)(r one other:Int):Bool :=
 match A7 n wr ps one r,A7 n wr ps other r with
 | none,_=>false
 | some _,none=>true
 | some x,some y=>decide (y < x)||(decide (x=y)&&decide (one < other))
theorem qaj5{n:Int}(h:1<=n)(ps:Pr)(k:Int):0<=qc1 n ps k/\qc1 n ps k < n:=⟨zBo _ (by lia),zBm _ (by lia)⟩
def qq5(k:Int):Prop:=(0<=k/\k<=70000000000000000)∨(999999999999999000<=k/\k<=1000000000000000000)
theorem qq5.num{k:Int}(h:qq5 k):Al k:=by rcases h with h | h<;>exact⟨by lia,by lia⟩
theorem qar1(k:Int)(ks:List Int):inV (.int k) (ks.map V.int)=decide (k∈ks):=by
 unfold inV;rw[List.any_map,Bool.eq_iff_iff,List.any_eq_true,zAu];constructor
 . rintro⟨x,hx,e⟩
   have e:(x == k)=true:=e;rw[<- zBf.mp e];exact hx
 intro h;exact⟨k,h,zBe k⟩
structure Drawn(ks:List Int)(ps:Pr):Prop where
 len:ps.length<=14
 nd:(ps.map (·.1)).Nodup
 key:∀ q∈ps,q.1∈ks∨(300000000000000000<=q.1/\q.1<=300000000000000200)
 num:∀ q∈ps,qq5 q.2
theorem Drawn.good{ks:List Int}{ps:Pr}(D:Drawn ks ps)(h:∀ k∈ks,qq5 k):Ic ps:=by
 refine⟨by have:=D.len;lia,D.nd,λ q hq=>⟨?_,(D.num q hq).num⟩⟩;rcases D.key q hq with z | z
 . exact(h _ z).num
 exact⟨by lia,by lia⟩
end My
namespace My
open PySem L2
open Row
variable{n:Int}{ps:Pr}{r:Nat}
def hmOf(n:Int)(ps:Pr)(k:Int):Nat:=(qc1 n ps k).toNat
theorem Ep(h:1<=n)(k:Int):hmOf n ps k < n.toNat:=by
 have:=qaj5 h ps k
 unfold hmOf;lia
theorem qx1(h:1<=n)(k:Int):((hmOf n ps k:Nat):Int)=qc1 n ps k:=by
 have:=qaj5 h ps k
 unfold hmOf;lia
theorem qaf6(hn:1<=n){h:Nat}(hh:h < n.toNat)(hr:r < n.toNat):((r:Int) - (h:Int)) % n=(Ae n.toNat h r:Nat):=by
 rcases dor n.toNat h r with⟨h1,h2⟩ | ⟨h1,h2⟩
 . rw[Int.emod_eq_of_lt (by lia) (by lia)];lia
 have e:((r:Int) - (h:Int)) % n=((r:Int) - (h:Int)+n) % n:=by rw[Int.add_emod_right]
 rw[e,Int.emod_eq_of_lt (by lia) (by lia)]
 have:=h2 (by lia)
 lia
theorem qY5{wr:Bool}{k:Int}(hn:1<=n)(hr:r < n.toNat)(hl:wr=false->hmOf n ps k<=r):A7 n wr ps k (r:Int)=some ((Ae n.toNat (hmOf n ps k) r:Nat):Int):=by
 have hh:=Ep (ps:=ps) hn k;have hc:=qx1 (ps:=ps) hn k;unfold A7;cases wr with
 | true=>rw[if_pos rfl,<- hc,qaf6 hn hh hr]
 | false =>
   have:=hl rfl
   rw[if_neg (by decide),if_pos (by lia),<- hc]
   have:=dor n.toNat (hmOf n ps k) r
   congr 1;lia
theorem qr3{wr:Bool}{x y:Int}(hn:1<=n)(hr:r < n.toNat)(hx:wr=false->hmOf n ps x<=r)(hy:wr=false->hmOf n ps y<=r):qg4 n wr ps (r:Int) x y=true↔Bc n.toNat (hmOf n ps) r x y:=by
 unfold qg4 Bc;rw[qY5 hn hr hx,qY5 hn hr hy];show (decide _||(decide _&&decide _))=true↔_;simp only[Bool.or_eq_true,zAv,zAu];lia
theorem qz7(hn:1<=n)(hr:r < n.toNat):((r:Int)+1) % n=(Row.next n.toNat r:Nat):=by
 rcases nor n.toNat r with⟨h,e⟩ | ⟨h,e⟩
 . rw[e,show ((r:Int)+1)=n by lia];simp
 rw[e,Int.emod_eq_of_lt (by lia) (by lia)];rfl
end My
namespace LV
open PySem L2
variable{Ael Ao:List Addr}{N:List Str}{P:Program}{Q:VK}{base:Heap}{cd:Expr}{i j n:Nat}{kvs:List (Key×V)}{lo:Int}{mg:Str->Option Value}{op:CmpOp}{v w:V}{vs:List V}{z:Bool}{α:Type}{σ':St}
inductive D where
 | non | bl (b:Bool) | int (i:Int) | str (x:Str) | ty (n:String) | adr (a:Addr)
 | tup (ds:List D) | lst (z:Bool) (ds:List D) | dct (z:Bool) (kvs:List (Key×D)) | ins (z:Bool) (C:Addr) (fs:List (Str×D))
 | scr (ns:List Int)
 | hole (v:V) | unk
mutual
def D.imm:D->Bool
 | .tup ds=>D.imms ds
 | .lst z _=>z
 | .dct z _=>z
 | .ins z _ _=>z
 | _=>true
def D.imms:List D->Bool
 | []=>true
 | d::r=>d.imm&&D.imms r
end
mutual
def D.fz:D->D
 | .tup ds=>.tup (D.fzs ds)
 | .lst _ ds=>.lst true (D.fzs ds)
 | .dct _ kvs=>.dct true (D.fzk kvs)
 | .ins _ C fs=>.ins true C (D.fzf fs)
 | .non=>.non | .bl b=>.bl b | .int i=>.int i | .str x=>.str x | .ty n=>.ty n | .adr a=>.adr a | .scr ns=>.scr ns | .hole v=>.hole v | .unk=>.unk
def D.fzs:List D->List D
 | []=>[]
 | d::r=>d.fz::D.fzs r
def D.fzk:List (Key×D)->List (Key×D)
 | []=>[]
 | (k,d)::r=>(k,d.fz)::D.fzk r
def D.fzf:List (Str×D)->List (Str×D)
 | []=>[]
 | (k,d)::r=>(k,d.fz)::D.fzf r
end
mutual
inductive Rep(F:Addr->Prop)(H:Hp):V->D->List Addr->Prop
 | non:Rep F H .non .non []
 | bl (b:Bool):Rep F H (.bl b) (.bl b) []
 | int (i:Int):Rep F H (.int i) (.int i) []
 | str (x:Str):Rep F H (.str x) (.str x) []
 | ty (n:String):Rep F H (.ty n) (.ty n) []
 | adr (a:Addr):Rep F H (.ref a) (.adr a) []
 | tup {a:Addr} {vs:List V} {ds:List D} {A:List Addr} (h:H a=some (.tup vs)) (r:Reps F H vs ds A):Rep F H (.ref a) (.tup ds) A
 | lst {a:Addr} {vs:List V} {ds:List D} {A:List Addr} (h:H a=some (.lst vs)) (r:Reps F H vs ds A):Rep F H (.ref a) (.lst false ds) (a::A)
 | lstZ {a:Addr} {vs:List V} {ds:List D} (h:H a=some (.lst vs)) (f:F a) (r:Reps F H vs ds []):Rep F H (.ref a) (.lst true ds) []
 | dct {a:Addr} {kvs:List (Key×V)} {kds:List (Key×D)} {A:List Addr} (h:H a=some (.dK kvs)) (e:kvs.map (·.1)=kds.map (·.1)) (r:Reps F H (kvs.map (·.2)) (kds.map (·.2)) A):Rep F H (.ref a) (.dct false kds) (a::A)
 | dctZ {a:Addr} {kvs:List (Key×V)} {kds:List (Key×D)} (h:H a=some (.dK kvs)) (f:F a) (e:kvs.map (·.1)=kds.map (·.1)) (r:Reps F H (kvs.map (·.2)) (kds.map (·.2)) []):Rep F H (.ref a) (.dct true kds) []
 | ins {a C dx:Addr} {fvs:List (Str×V)} {fds:List (Str×D)} {A:List Addr} (h:H a=some (.ins C dx fvs)) (e:fvs.map (·.1)=fds.map (·.1)) (r:Reps F H (fvs.map (·.2)) (fds.map (·.2)) A):Rep F H (.ref a) (.ins false C fds) (a::A)
 | insZ {a C dx:Addr} {fvs:List (Str×V)} {fds:List (Str×D)} (h:H a=some (.ins C dx fvs)) (f:F a) (e:fvs.map (·.1)=fds.map (·.1)) (r:Reps F H (fvs.map (·.2)) (fds.map (·.2)) []):Rep F H (.ref a) (.ins true C fds) []
 | scr {a:Addr} {o:Obj} {ns:List Int} (h:H a=some (.frz o (.lst (ns.map V.int)))):Rep F H (.ref a) (.scr ns) []
 | hole (v:V):Rep F H v (.hole v) []
 | unk (v:V):Rep F H v .unk []
inductive Reps(F:Addr->Prop)(H:Hp):List V->List D->List Addr->Prop
 | nil:Reps F H [] [] []
 | cons {v:V} {d:D} {A:List Addr} {vs:List V} {ds:List D} {B:List Addr} (h:Rep F H v d A) (t:Reps F H vs ds B):Reps F H (v::vs) (d::ds) (A++B)
end
def Eg:HO->Bool
 | .lst _=>true
 | .dK _=>true
 | .ins _ _ _=>true
 | _=>false
section
variable{F F':Addr->Prop}{H H':Hp}
def Cel(H:Hp)(A:List Addr):Prop:=∀ b∈A,∃ o,H b=some o/\Eg o=true
theorem Cel.cons{A:List Addr}{a:Addr}{o:HO}(e:H a=some o)(m:Eg o=true)(h:Cel H A):Cel H (a::A):=λ b hb=>(zAc.mp hb).elim (λ q=>q ▸ ⟨_,e,m⟩) (h b)
theorem Cel.app{A B:List Addr}(h:Cel H A)(g:Cel H B):Cel H (A++B):=λ b hb=>(zAf.mp hb).elim (h b) (g b)
theorem Rep.cells{v:V}{d:D}{A:List Addr}(r:Rep F H v d A):Cel H A:=by
 induction r using Rep.rec (motive_2:=λ _ _ A _=>Cel H A) with
 | tup e r i=>exact i
 | lst e r i=>exact Cel.cons e rfl i
 | dct e _ r i=>exact Cel.cons e rfl i
 | ins e _ r i=>exact Cel.cons e rfl i
 | cons _ _ i j=>exact Cel.app i j
 | _=>nofun
theorem Reps.cells{vs:List V}{ds:List D}{A:List Addr}(r:Reps F H vs ds A):Cel H A:=by
 induction r using Reps.rec (motive_1:=λ _ _ _ _=>True) with
 | cons h _ i j=>exact Cel.app h.cells j
 | nil=>nofun
 | _=>trivial
structure Kp(F:Addr->Prop)(H:Hp)(W F':Addr->Prop)(H':Hp):Prop where
 fr:∀ b o,H b=some o->¬ W b->H' b=some o
 wm:∀ b,W b->∃ o,H b=some o/\Eg o=true
 wf:∀ b,W b->¬ F b
 mF:∀ b,F b->F' b
theorem Kp.tup{W:Addr->Prop}(k:Kp F H W F' H'){a:Addr}{vs:List V}(h:H a=some (.tup vs)):H' a=some (.tup vs):=by
 refine k.fr a _ h λ w=>?_
 obtain⟨o,e,m⟩:=k.wm a w;rw[h] at e;cases e;cases m
theorem Kp.frz{W:Addr->Prop}(k:Kp F H W F' H'){a:Addr}{o:Obj}{u:HO}(h:H a=some (.frz o u)):H' a=some (.frz o u):=by
 refine k.fr a _ h λ w=>?_
 obtain⟨o,e,m⟩:=k.wm a w;rw[h] at e;cases e;cases m
theorem Rep.keep{W:Addr->Prop}(k:Kp F H W F' H'){v:V}{d:D}{A:List Addr}(r:Rep F H v d A):(∀ b∈A,¬ W b)->Rep F' H' v d A:=by
 induction r using Rep.rec (motive_2:=λ vs ds A _=>(∀ b∈A,¬ W b)->Reps F' H' vs ds A) with
 | tup e r i=>exact λ h=>.tup (k.tup e) (i h)
 | lst e r i=>exact λ h=>.lst (k.fr _ _ e (zAt.mp h).1) (i (zAt.mp h).2)
 | lstZ e f r i=>exact λ h=>.lstZ (k.fr _ _ e λ w=>k.wf _ w f) (k.mF _ f) (i h)
 | dct e q r i=>exact λ h=>.dct (k.fr _ _ e (zAt.mp h).1) q (i (zAt.mp h).2)
 | dctZ e f q r i=>exact λ h=>.dctZ (k.fr _ _ e λ w=>k.wf _ w f) (k.mF _ f) q (i h)
 | ins e q r i=>exact λ h=>.ins (k.fr _ _ e (zAt.mp h).1) q (i (zAt.mp h).2)
 | insZ e f q r i=>exact λ h=>.insZ (k.fr _ _ e λ w=>k.wf _ w f) (k.mF _ f) q (i h)
 | scr e=>exact λ _=>.scr (k.frz e)
 | cons _ _ i j h=>exact Reps.cons (i (zB7.mp h).1) (j (zB7.mp h).2)
 | nil=>constructor
 | _=>intro;constructor
theorem Reps.keep{W:Addr->Prop}(k:Kp F H W F' H'){vs:List V}{ds:List D}{A:List Addr}(r:Reps F H vs ds A):(∀ b∈A,¬ W b)->Reps F' H' vs ds A:=by
 induction r using Reps.rec (motive_1:=λ _ _ _ _=>True) with
 | nil=>exact λ _=>Reps.nil
 | cons r _ i j=>exact λ h=>Reps.cons (r.keep k (zB7.mp h).1) (j (zB7.mp h).2)
 | _=>trivial
theorem Kp.same(s:Same H H'):Kp F H (λ _=>False) F H':=⟨λ b o e _=>s b o e,λ _ w=>w.elim,λ _ w=>w.elim,λ _ f=>f⟩
theorem Rep.same{d:D}{A:List Addr}(r:Rep F H v d A)(s:Same H H'):Rep F H' v d A:=r.keep (Kp.same s) λ _ _=>id
theorem Reps.same{ds:List D}{A:List Addr}(r:Reps F H vs ds A)(s:Same H H'):Reps F H' vs ds A:=r.keep (Kp.same s) λ _ _=>id
theorem Kp.more(m:∀ b,F b->F' b):Kp F H (λ _=>False) F' H:=⟨λ b o e _=>e,λ _ w=>w.elim,λ _ w=>w.elim,m⟩
mutual
theorem Rep.imm{v:V}{d:D}{A:List Addr}(r:Rep F H v d A)(h:d.imm=true):A=[]:=by
 cases r with
 | tup e r=>exact r.imms h
 | lst=>cases h
 | dct=>cases h
 | ins=>cases h
 | _=>rfl
theorem Reps.imms{vs:List V}{ds:List D}{A:List Addr}(r:Reps F H vs ds A)(h:D.imms ds=true):A=[]:=by
 cases r with
 | nil=>rfl
 | cons r t =>
   have h:=zAb.mp h;rw[r.imm h.1,t.imms h.2];rfl
end
theorem qM5(kds:List (Key×D)):(D.fzk kds).map (·.1)=kds.map (·.1)/\(D.fzk kds).map (·.2)=D.fzs (kds.map (·.2)):=by
 induction kds with
 | nil=>exact⟨rfl,rfl⟩
 | cons p r ih=>obtain⟨k,d⟩:=p;simp only[D.fzk,D.fzs,zAz,ih.1,ih.2,and_self]
theorem qM6(kds:List (Str×D)):(D.fzf kds).map (·.1)=kds.map (·.1)/\(D.fzf kds).map (·.2)=D.fzs (kds.map (·.2)):=by
 induction kds with
 | nil=>exact⟨rfl,rfl⟩
 | cons p r ih=>obtain⟨k,d⟩:=p;simp only[D.fzf,D.fzs,zAz,ih.1,ih.2,and_self]
theorem Rep.fz{v:V}{d:D}{A:List Addr}(r:Rep F H v d A)(m:∀ b,F b->F' b):(∀ b∈A,F' b)->Rep F' H v d.fz []:=by
 induction r using Rep.rec (motive_2:=λ vs ds A _=>(∀ b∈A,F' b)->Reps F' H vs (D.fzs ds) []) with
 | tup e r i=>exact λ h=>.tup e (i h)
 | lst e r i=>exact λ h=>.lstZ e (zAt.mp h).1 (i (zAt.mp h).2)
 | lstZ e f r i=>exact λ h=>.lstZ e (m _ f) (i h)
 | dct e q r i=>exact λ h=>.dctZ e (zAt.mp h).1 (q.trans (qM5 _).1.symm) ((qM5 _).2 ▸ i (zAt.mp h).2)
 | dctZ e f q r i=>exact λ h=>.dctZ e (m _ f) (q.trans (qM5 _).1.symm) ((qM5 _).2 ▸ i h)
 | ins e q r i=>exact λ h=>.insZ e (zAt.mp h).1 (q.trans (qM6 _).1.symm) ((qM6 _).2 ▸ i (zAt.mp h).2)
 | insZ e f q r i=>exact λ h=>.insZ e (m _ f) (q.trans (qM6 _).1.symm) ((qM6 _).2 ▸ i h)
 | scr e=>exact λ _=>.scr e
 | nil=>exact Reps.nil
 | cons _ _ i j h=>exact Reps.cons (A:=[]) (B:=[]) (i (zB7.mp h).1) (j (zB7.mp h).2)
 | _=>intro;constructor
theorem Reps.fz{vs:List V}{ds:List D}{A:List Addr}(r:Reps F H vs ds A)(m:∀ b,F b->F' b):(∀ b∈A,F' b)->Reps F' H vs (D.fzs ds) []:=by
 induction r using Reps.rec (motive_1:=λ _ _ _ _=>True) with
 | nil=>exact λ _=>Reps.nil
 | cons r _ i j=>exact λ h=>Reps.cons (A:=[]) (B:=[]) (r.fz m (zB7.mp h).1) (j (zB7.mp h).2)
 | _=>trivial
end
theorem ec:∀{us:List Value},us.length=n+1->∃ a vs,us=a::vs/\vs.length=n
 | a::vs,h=>⟨a,vs,rfl,Nat.succ.inj h⟩
inductive Locs(F:Addr->Prop)(H:Hp):List (Option V)->List D->List Addr->Prop
 | nil:Locs F H [] [] []
 | no {σ:List (Option V)} {ds:List D} {A:List Addr} (t:Locs F H σ ds A):Locs F H (none::σ) (.unk::ds) A
 | so {v:V} {d:D} {B:List Addr} {σ:List (Option V)} {ds:List D} {A:List Addr} (h:Rep F H v d B) (t:Locs F H σ ds A):Locs F H (some v::σ) (d::ds) (B++A)
section
variable{F F':Addr->Prop}{H H':Hp}
theorem Locs.cells{σ:List (Option V)}{ds:List D}{A:List Addr}(r:Locs F H σ ds A):∀ b∈A,∃ o,H b=some o/\Eg o=true:=by
 induction r with
 | nil=>intro b h;cases h
 | no t ih=>exact ih
 | so h t ih =>
   intro b hb;rcases zAf.mp hb with hb | hb
   . exact h.cells b hb
   exact ih b hb
theorem Locs.keep{W:Addr->Prop}(k:Kp F H W F' H'){σ:List (Option V)}{ds:List D}{A:List Addr}(r:Locs F H σ ds A):(∀ b∈A,¬ W b)->Locs F' H' σ ds A:=by
 induction r with
 | nil=>exact λ _=>.nil
 | no t ih=>exact λ h=>.no (ih h)
 | so h t ih=>exact λ q=>.so (h.keep k λ b hb=>q b (zAf.mpr (.inl hb))) (ih λ b hb=>q b (zAf.mpr (.inr hb)))
theorem Locs.same{σ:List (Option V)}{ds:List D}{A:List Addr}(r:Locs F H σ ds A)(s:Same H H'):Locs F H' σ ds A:=r.keep (Kp.same s) λ _ _=>id
theorem Locs.len{σ:List (Option V)}{ds:List D}{A:List Addr}(r:Locs F H σ ds A):σ.length=ds.length:=by
 induction r with
 | nil=>rfl
 | no t ih=>simp[ih]
 | so h t ih=>simp[ih]
theorem Locs.append{σ τ:List (Option V)}{ds es:List D}{A B:List Addr}(r:Locs F H σ ds A)(t:Locs F H τ es B):Locs F H (σ++τ) (ds++es) (A++B):=by
 induction r with
 | nil=>exact t
 | no _ ih=>exact .no ih
 | so h _ ih=>rw[zBd];exact .so h ih
inductive G2(F:Addr->Prop)(H:Hp):Option V->D->List Addr->Prop
 | no:G2 F H none .unk []
 | so {v:V} {d:D} {B:List Addr} (h:Rep F H v d B):G2 F H (some v) d B
theorem Locs.cons{o:Option V}{d:D}{B:List Addr}{σ:List (Option V)}{ds:List D}{A:List Addr}(h:G2 F H o d B)(t:Locs F H σ ds A):Locs F H (o::σ) (d::ds) (B++A):=by
 cases h with
 | no=>exact .no t
 | so h=>exact .so h t
theorem Locs.split:∀{ds:List D}{σ:List (Option V)}{A:List Addr}{i:Nat}{d:D},Locs F H σ ds A->ds[i]? = some d ->
   ∃ σ1 o σ2 ds1 ds2 A1 B A2,σ=σ1++o::σ2/\ds=ds1++d::ds2/\σ1.length=i/\ds1.length=i/\A=A1++(B++A2)/\Locs F H σ1 ds1 A1/\G2 F H o d B/\Locs F H σ2 ds2 A2:=by
 intro ds
 induction ds with
 | nil=>intro σ A i d _ h;simp at h
 | cons e r ih =>
   intro σ A i d L h;cases i with
   | zero =>
     have:e=d:=by simpa using h
     subst this;cases L with
     | no t=>exact⟨[],none,_,[],_,[],[],_,rfl,rfl,rfl,rfl,rfl,.nil,.no,t⟩
     | so q t=>exact⟨[],some _,_,[],_,[],_,_,rfl,rfl,rfl,rfl,rfl,.nil,.so q,t⟩
   | succ i =>
     have h:r[i]? = some d:=by simpa using h
     cases L with
     | no t =>
       obtain⟨σ1,o,σ2,ds1,ds2,A1,B,A2,e1,e2,e3,e4,e5,l1,l2,l3⟩:=ih t h;exact⟨none::σ1,o,σ2,_::ds1,ds2,A1,B,A2,by rw[e1];rfl,by rw[e2];rfl,by simp[e3],by simp[e4],e5,.no l1,l2,l3⟩
     | @so v _ B0 _ _ A0 q t =>
       obtain⟨σ1,o,σ2,ds1,ds2,A1,B,A2,e1,e2,e3,e4,e5,l1,l2,l3⟩:=ih t h;exact⟨some v::σ1,o,σ2,_::ds1,ds2,B0++A1,B,A2,by rw[e1];rfl,by rw[e2];rfl,by simp[e3],by simp[e4],by rw[e5,zBd],.so q l1,l2,l3⟩
end
theorem ql4{l1 l2:List α}{x y:α}(h:l1.length=i):(l1++x::l2).set i y=l1++y::l2:=by
 subst h;rw[List.set_append_right _ _ (zA5 _),Nat.sub_self];rfl
theorem qx2{l1 l2:List α}{x:α}(h:l1.length=i):(l1++x::l2)[i]? = some x:=by
 subst h;simp
structure Ok(F:Addr->Prop)(H:Hp)(A:List Addr):Prop where
 sep:∀ b,A.count b<=1
 fro:∀ b,F b->A.count b=0
 ex:∀ b,F b->∃ o,H b=some o
structure Stp(F:Addr->Prop)(H:Hp)(A:List Addr)(F':Addr->Prop)(H':Hp)(A':List Addr):Prop where
 fr:∀ b o,H b=some o->A.count b=0->H' b=some o
 sub:∀ b o,H b=some o->A.count b=0->A'.count b=0
 mono:∀ b,F b->F' b
 fnew:∀ b o,H b=some o->A.count b=0->F' b->F b
section
variable{F F1 F2:Addr->Prop}{H H1 H2:Hp}{A A1 A2 T:List Addr}
theorem Stp.refl:Stp F H A F H A:=⟨λ _ _ e _=>e,λ _ _ _ e=>e,λ _ f=>f,λ _ _ _ _ f=>f⟩
theorem Stp.trans(s:Stp F H A F1 H1 A1)(t:Stp F1 H1 A1 F2 H2 A2):Stp F H A F2 H2 A2 :=
 ⟨λ b o e q=>t.fr b o (s.fr b o e q) (s.sub b o e q),λ b o e q=>t.sub b o (s.fr b o e q) (s.sub b o e q),λ b f=>t.mono b (s.mono b f),λ b o e q f=>s.fnew b o e q (t.fnew b o (s.fr b o e q) (s.sub b o e q) f)⟩
theorem Stp.same(s:Same H H1):Stp F H A F H1 A:=⟨λ b o e _=>s b o e,λ _ _ _ e=>e,λ _ f=>f,λ _ _ _ _ f=>f⟩
theorem qa8{b:Addr}{A:List Addr}:b∈A↔A.count b≠0:=by
 rw[<- List.count_pos_iff];lia
theorem Stp.kp(s:Stp F H A F1 H1 A1)(o:Ok F H A)(c:∀ b∈A,∃ o,H b=some o/\Eg o=true):Kp F H (λ b=>A.count b≠0) F1 H1 :=
 ⟨λ b u e w=>s.fr b u e (by lia),λ b w=>c b (qa8.mpr w),λ b w f=>w (o.fro b f),s.mono⟩
theorem Ok.left(o:Ok F H (T++A)):Ok F H T:=⟨λ b=>by have:=o.sep b;rw[zA0] at this;lia,λ b f=>by have:=o.fro b f;rw[zA0] at this;lia,o.ex⟩
theorem Ok.right(o:Ok F H (T++A)):Ok F H A:=⟨λ b=>by have:=o.sep b;rw[zA0] at this;lia,λ b f=>by have:=o.fro b f;rw[zA0] at this;lia,o.ex⟩
theorem Ok.count(o:Ok F H A)(h:∀ b,A1.count b<=A.count b):Ok F H A1:=⟨λ b=>zAl (h b) (o.sep b),λ b f=>by have:=o.fro b f;have:=h b;lia,o.ex⟩
theorem Stp.frame(s:Stp F H A F1 H1 A1)(o:Ok F H (T++A))(c:∀ b∈T,∃ o,H b=some o/\Eg o=true)(o1:Ok F1 H1 A1):Ok F1 H1 (T++A1)/\Stp F H (T++A) F1 H1 (T++A1):=by
 have key:∀ b,T.count b≠0->∃ u,H b=some u/\A.count b=0:=λ b h=>by
   obtain⟨u,e,_⟩:=c b (qa8.mpr h)
   have:=o.sep b
   rw[zA0] at this;exact⟨u,e,by lia⟩
 refine⟨⟨λ b=>?_,λ b f=>?_,o1.ex⟩,λ b u e q=>?_,λ b u e q=>?_,s.mono,λ b u e q f=>?_⟩
 . rw[zA0]
   by_cases h:T.count b=0
   . have:=o1.sep b;lia
   obtain⟨u,e,q⟩:=key b h;have h1:=s.sub b u e q
   have:=o.sep b
   rw[zA0] at this;lia
 . rw[zA0,o1.fro b f]
   by_cases h:T.count b=0
   . lia
   obtain⟨u,e,q⟩:=key b h
   have:=o.fro b (s.fnew b u e q f)
   rw[zA0] at this;lia
 . rw[zA0] at q;exact s.fr b u e (by lia)
 . rw[zA0] at q ⊢;have:=s.sub b u e (by lia);lia
 rw[zA0] at q;exact s.fnew b u e (by lia) f
theorem Stp.count(s:Stp F H A F1 H1 A1)(h:∀ b,A2.count b<=A1.count b):Stp F H A F1 H1 A2:=⟨s.fr,λ b o e q=>by have:=s.sub b o e q;have:=h b;lia,s.mono,s.fnew⟩
theorem Stp.pre(s:Stp F H A F1 H1 A1)(h:∀ b,A.count b=A2.count b):Stp F H A2 F1 H1 A1:=⟨λ b o e q=>s.fr b o e (by rw[h];exact q),λ b o e q=>s.sub b o e (by rw[h];exact q),s.mono,λ b o e q f=>s.fnew b o e (by rw[h];exact q) f⟩
end
structure New(H:Hp)(B:List Addr):Prop where
 one:∀ b,B.count b<=1
 new:∀ b o,H b=some o->B.count b=0
section
variable{F:Addr->Prop}{H H':Hp}{A B:List Addr}
theorem New.nil:New H []:=⟨λ b=>by simp,λ b o _=>by simp⟩
theorem New.ok(n:New H B)(o:Ok F H A)(c:∀ b∈A,∃ o,H b=some o/\Eg o=true)(s:Same H H'):Ok F H' (B++A):=by
 refine⟨λ b=>?_,λ b f=>?_,λ b f=>?_⟩
 . rw[zA0]
   have h1:=n.one b;have h2:=o.sep b;by_cases h:A.count b=0
   . lia
   obtain⟨u,e,_⟩:=c b (qa8.mpr h)
   have:=n.new b u e
   lia
 . rw[zA0,o.fro b f]
   obtain⟨u,e⟩:=o.ex b f;rw[n.new b u e]
 obtain⟨u,e⟩:=o.ex b f;exact⟨u,s b u e⟩
theorem New.append{H1:Hp}{B1:List Addr}(n:New H B)(s:Same H H1)(c:∀ b∈B,∃ o,H1 b=some o/\Eg o=true)(n1:New H1 B1):New H (B++B1):=by
 refine⟨λ b=>?_,λ b o e=>?_⟩
 . rw[zA0]
   have h1:=n.one b;have h2:=n1.one b;by_cases h:B.count b=0
   . lia
   obtain⟨u,e,_⟩:=c b (qa8.mpr h)
   have:=n1.new b u e
   lia
 rw[zA0,n.new b o e,n1.new b o (s b o e)]
theorem Ok.same(o:Ok F H A)(s:Same H H'):Ok F H' A:=⟨o.sep,o.fro,λ b f=>let ⟨u,e⟩:=o.ex b f;⟨u,s b u e⟩⟩
theorem New.stp(n:New H B)(s:Same H H'):Stp F H A F H' (B++A):=⟨λ b o e _=>s b o e,λ b o e q=>by rw[zA0,n.new b o e,q],λ _ f=>f,λ _ _ _ _ f=>f⟩
end
structure Exn where
 C:Addr
 fs:List (Str×D)
def RepX(F:Addr->Prop)(H:Hp)(e:Addr)(x:Exn):Prop :=
 ∃ od,H e=some (Bb e x.C od false)/\(x.fs=[]∨∃ dx fvs,od=some dx/\H dx=some (XD dx fvs)/\fvs.map (·.1)=x.fs.map (·.1)/\Reps F H (fvs.map (·.2)) (x.fs.map (·.2)) [])
abbrev Ds:=List D
abbrev DK:=D->Ds->Prop
abbrev XKd:=Exn->Ds->Prop
abbrev VT:=Ds->DK->XKd->Prop
abbrev VTT:=Ds->(Bool->Ds->Prop)->XKd->Prop
abbrev VTA:=Ds->(Ds->Ds->Prop)->XKd->Prop
abbrev FV:=Ds->Option D
structure Vc where
 E:XK
 W:Nat->Bool
 av:List (Option V)
 gv:List (Option V)
structure Sta(c:Vc)(F:Addr->Prop)(H:Hp)(σ:St)(ds:Ds)(A:List Addr):Prop where
 loc:Locs F H (σ++c.gv) ds A
 ok:Ok F H A
 len:c.av.length=(σ++c.gv).length
 ag:∀ i,c.W i=true->(σ++c.gv)[i]? = c.av[i]?
theorem Sta.same{c:Vc}{F:Addr->Prop}{H H':Hp}{σ:St}{ds:Ds}{A:List Addr}(S:Sta c F H σ ds A)(s:Same H H'):Sta c F H' σ ds A:=⟨S.loc.same s,S.ok.same s,S.len,S.ag⟩
def Xc(c:Vc)(xe:XKd)(F:Addr->Prop)(H:Hp)(A:List Addr):Prop :=
 ∀ x ds' σ' e H' F' A',xe x ds'->RepX F' H' e x->Sta c F' H' σ' ds' A'->Stp F H A F' H' A'->c.E (.ref e) none H'
theorem Xc.step{c:Vc}{xe:XKd}{F F1:Addr->Prop}{H H1:Hp}{A A1:List Addr}(x:Xc c xe F H A)(s:Stp F H A F1 H1 A1):Xc c xe F1 H1 A1:=λ y ds' σ' e H' F' A' h r S t=>x y ds' σ' e H' F' A' h r S (s.trans t)
def kE(c:Vc)(σ:St)(F:Addr->Prop)(H:Hp)(A:List Addr)(Q:VK):DK:=λ d ds'=>∀ v H' F' T A',Rep F' H' v d T->Sta c F' H' σ ds' A'->Ok F' H' (T++A')->Stp F H A F' H' (T++A')->Q v H'
inductive LiftE(c:Vc)(t:VT)(σ:St)(H:Hp)(Q:VK):Prop
 | mk (F:Addr->Prop) (ds:Ds) (A:List Addr) (xe:XKd) (S:Sta c F H σ ds A) (x:Xc c xe F H A) (q:t ds (kE c σ F H A Q) xe):LiftE c t σ H Q
def Bf(c:Vc)(t:VT):TE:=LiftE c t
inductive LiftV(c:Vc)(own:Bool)(f:FV)(σ:St)(H:Hp)(Q:VK):Prop
 | mk (F:Addr->Prop) (ds:Ds) (A:List Addr) (d:D) (S:Sta c F H σ ds A) (e:f ds=some d) (q:∀ v H' B,Rep F H' v d B->Same H H'->(own=true->New H B)->Q v H'):LiftV c own f σ H Q
def liftV(c:Vc)(own:Bool)(f:FV):TE:=LiftV c own f
inductive qaF2(c:Vc)(own:Bool)(f:Ds->Option Ds)(σ:St)(H:Hp)(Q:List V->Hp->Prop):Prop
 | mk (F:Addr->Prop) (ds:Ds) (A:List Addr) (xs:Ds) (S:Sta c F H σ ds A) (e:f ds=some xs) (q:∀ vs H' B,Reps F H' vs xs B->Same H H'->(own=true->New H B)->Q vs H'):qaF2 c own f σ H Q
def qaA4(c:Vc)(own:Bool)(f:Ds->Option Ds):TA:=qaF2 c own f
inductive qaF4(c:Vc)(t:VTA)(σ:St)(H:Hp)(Q:List V->Hp->Prop):Prop
 | mk (F:Addr->Prop) (ds:Ds) (A:List Addr) (xe:XKd) (S:Sta c F H σ ds A) (x:Xc c xe F H A) (q:t ds (λ xs ds'=>∀ vs H' F' T A',Reps F' H' vs xs T->Sta c F' H' σ ds' A'->Stp F H A F' H' A'->Q vs H') xe):qaF4 c t σ H Q
def qaq4(c:Vc)(t:VTA):TA:=qaF4 c t
inductive LiftT(c:Vc)(t:VTT)(σ:St)(H:Hp)(Q:Bool->Hp->Prop):Prop
 | mk (F:Addr->Prop) (ds:Ds) (A:List Addr) (xe:XKd) (S:Sta c F H σ ds A) (x:Xc c xe F H A) (q:t ds (λ b ds'=>∀ H' F' A',Sta c F' H' σ ds' A'->Stp F H A F' H' A'->Q b H') xe):LiftT c t σ H Q
def Ed(c:Vc)(t:VTT):TT:=LiftT c t
structure VE(c:Vc)(X:Cx)(e:Expr)(t:VT):Prop where
 h:PE X e (Bf c t)
 m:∀ ds (Q Q':DK) (xe xe':XKd),(∀ d ds',Q d ds'->Q' d ds')->(∀ x ds',xe x ds'->xe' x ds')->t ds Q xe->t ds Q' xe'
structure VV(c:Vc)(X:Cx)(e:Expr)(own:Bool)(f:FV):Prop where
 h:PE X e (liftV c own f)
structure VVs(c:Vc)(X:Cx)(es:List Expr)(own:Bool)(f:Ds->Option Ds):Prop where
 h:PA X es (qaA4 c own f)
structure VOs(c:Vc)(X:Cx)(es:List Expr)(t:VTA):Prop where
 h:PA X es (qaq4 c t)
 m:∀ ds (Q Q':Ds->Ds->Prop) (xe xe':XKd),(∀ d ds',Q d ds'->Q' d ds')->(∀ x ds',xe x ds'->xe' x ds')->t ds Q xe->t ds Q' xe'
structure VTe(c:Vc)(X:Cx)(e:Expr)(t:VTT):Prop where
 h:PT X e (Ed c t)
 m:∀ ds (Q Q':Bool->Ds->Prop) (xe xe':XKd),(∀ d ds',Q d ds'->Q' d ds')->(∀ x ds',xe x ds'->xe' x ds')->t ds Q xe->t ds Q' xe'
theorem PE.mono{X:Cx}{e:Expr}{t t':TE}(h:PE X e t)(i:∀ σ H Q,t' σ H Q->t σ H Q):PE X e t':=λ Dy s σ H Q I q=>h Dy s σ H Q I (i σ H Q q)
theorem PT.mono{X:Cx}{e:Expr}{t t':TT}(h:PT X e t)(i:∀ σ H Q,t' σ H Q->t σ H Q):PT X e t':=λ Dy s σ H Q I q=>h Dy s σ H Q I (i σ H Q q)
theorem PW.mono{X:Cx}{e:Expr}{t t':TT}(h:PW X e t)(i:∀ σ H Q,t' σ H Q->t σ H Q):PW X e t':=λ w Dy s σ H Q I q=>h w Dy s σ H Q I (i σ H Q q)
theorem PA.mono{X:Cx}{es:List Expr}{t t':TA}(h:PA X es t)(i:∀ σ H Q,t' σ H Q->t σ H Q):PA X es t':=λ p Dy s σ H Q I q=>h p Dy s σ H Q I (i σ H Q q)
theorem PS.mono{X:Cx}{st:Stmt}{t t':TS}(h:PS X st t)(i:∀ D σ H,t' D σ H->t D σ H):PS X st t':=λ Dy s σ H D I q=>h Dy s σ H D I (i D σ H q)
theorem PSs.mono{X:Cx}{st:List Stmt}{t t':TS}(h:PSs X st t)(i:∀ D σ H,t' D σ H->t D σ H):PSs X st t':=λ Dy s σ H D I q=>h Dy s σ H D I (i D σ H q)
def orF{α:Type}(o:Option α)(k:α->Prop):Prop:=match o with | some a=>k a | none=>False
theorem qa5{o:Option α}{k k':α->Prop}(h:∀ a,k a->k' a):orF o k->orF o k':=by
 cases o with
 | none=>exact id
 | some a=>exact h a
theorem qa6{o:Option α}{k:α->Prop}:orF o k↔∃ a,o=some a/\k a:=by
 cases o with
 | none=>exact⟨λ h=>h.elim,λ ⟨_,e,_⟩=>by cases e⟩
 | some a=>exact⟨λ h=>⟨a,rfl,h⟩,λ ⟨b,e,h⟩=>by cases e;exact h⟩
section
variable{c:Vc}{X:Cx}{e:Expr}{F:Addr->Prop}{H H':Hp}{σ:St}{ds:Ds}{A:List Addr}
theorem Sta.new{B:List Addr}(S:Sta c F H σ ds A)(n:New H B)(s:Same H H'):Ok F H' (B++A):=n.ok S.ok S.loc.cells s
def Ba(f:FV):VT:=λ ds Q _=>orF (f ds) λ d=>Q d ds
def Ee(f:FV):VT:=λ ds Q _=>orF (f ds) λ d=>d.imm=true/\Q d ds
theorem qa4{f:FV}(h:VV c X e true f):VE c X e (Ba f):=by
 refine⟨PE.mono h.h λ σ H Q ⟨F,ds,A,xe,S,x,q⟩=>?_,λ ds Q Q' xe xe' hQ _=>qa5 λ d=>hQ d ds⟩;obtain⟨d,e,q⟩:=qa6.mp q;exact⟨F,ds,A,d,S,e,λ v H' B r s n=>q v H' F B A r (S.same s) (S.new (n rfl) s) ((n rfl).stp s)⟩
theorem qc4{own:Bool}{f:FV}(h:VV c X e own f):VE c X e (Ee f):=by
 refine⟨PE.mono h.h λ σ H Q ⟨F,ds,A,xe,S,x,q⟩=>?_,λ ds Q Q' xe xe' hQ _=>qa5 λ d=>And.imp_right (hQ d ds)⟩;obtain⟨d,e,hi,q⟩:=qa6.mp q;refine⟨F,ds,A,d,S,e,λ v H' B r s _=>?_⟩
 have:=r.imm hi
 subst this;exact q v H' F [] A r (S.same s) (S.ok.same s) (.same s)
theorem Fs{d:D}(h:PE X e (tC v))(r:∀ F H,Rep F H v d []):VV c X e true (λ _=>some d) :=
 ⟨PE.mono h λ σ H Q ⟨F,ds,A,d',S,e,q⟩=>by cases e;exact q v H [] (r F H) (λ _ _ z=>z) λ _=>New.nil⟩
def D.known:D->Bool
 | .unk=>false
 | .hole _=>false
 | _=>true
def rdN(i:Nat):FV:=λ ds=>match ds[i]? with
 | some d=>if d.known=true then some d else none
 | none=>none
theorem qj8{d:D}:rdN i ds=some d↔ds[i]? = some d/\d.known=true:=by
 unfold rdN;cases h:ds[i]? with
 | none=>simp
 | some x =>
   dsimp only;split
   . rename_i hk;constructor
     . intro e;cases e;exact⟨rfl,hk⟩
     rintro⟨e,_⟩;exact e
   rename_i hk;constructor
   . intro e;cases e
   rintro⟨e,h2⟩;cases e;exact absurd h2 hk
theorem Sta.at{d:D}(S:Sta c F H σ ds A)(hi:i < σ.length)(h:ds[i]? = some d)(hk:d.known=true):∃ v B,σ[i]? = some (some v)/\Rep F H v d B/\∀ b,B.count b<=A.count b:=by
 obtain⟨σ1,o,σ2,ds1,ds2,A1,B,A2,e1,e2,e3,e4,e5,l1,l2,l3⟩:=S.loc.split h;cases l2 with
 | no=>cases hk
 | @so v _ _ r =>
   refine⟨v,B,?_,r,λ b=>by rw[e5];simp only[zA0];lia⟩
   have:(σ++c.gv)[i]? = some (some v):=by rw[e1];exact qx2 e3
   rwa[zAr hi] at this
theorem qau2{x:Str}{pos:Pos}(h:PE X (.Name x pos) (Ev i))(hi:∀ Dy σ H s,Inv X Dy σ H s->i < σ.length):VV c X (.Name x pos) false (rdN i):=by
 refine⟨λ Dy s σ H Q I ⟨F,ds,A,d,S,e,q⟩=>h Dy s σ H Q I ?_⟩;obtain⟨e,hk⟩:=qj8.mp e;obtain⟨v,B,h1,r,_⟩:=S.at (hi Dy σ H s I) e hk;exact⟨v,h1,q v H B r (λ _ _ z=>z) λ z=>by cases z⟩
theorem qo3{X:Cx}{x:Str}(hN:X.N[i]? = some x):∀ Dy σ H s,Inv X Dy σ H s->i < σ.length:=λ Dy σ H s I=>by
 rw[I.len];exact(zA7.mp hN).1
end
def Sub(H:Hp)(B B':List Addr):Prop:=∀ b,B'.count b<=B.count b∨(B'.count b<=1/\H b=none)
theorem Sub.new{H H1:Hp}{B B':List Addr}(s:Sub H1 B B')(n:New H B)(q:Same H H1):New H B':=by
 refine⟨λ b=>?_,λ b o e=>?_⟩
 . rcases s b with h | ⟨h,_⟩
   . have:=n.one b;lia
   exact h
 rcases s b with h | ⟨_,h⟩
 . have:=n.new b o e;lia
 rw[q b o e] at h;cases h
def OpS(nw:Bool)(r:List V->Hp->VK->Prop)(g:Ds->Option D):Prop:=∀ F H vs xs B d (Q:VK),Reps F H vs xs B->g xs=some d ->
 (∀ v H' B',Rep F H' v d B'->Same H H'->(if nw=true then New H B' else Sub H B B')->Q v H')->r vs H Q
def Ay(nw:Bool)(r:R2)(g:D->D->Option D):Prop:=∀ F H v w x y B d (Q:VK),Reps F H [v,w] [x,y] B->g x y=some d ->
 (∀ v H' B',Rep F H' v d B'->Same H H'->(if nw=true then New H B' else Sub H B B')->Q v H')->r v w H Q
def f2(g:D->D->Option D)(fa fb:FV):FV:=λ ds=>(fa ds).bind λ x=>(fb ds).bind λ y=>g x y
theorem qaD0{g:D->D->Option D}{fa fb:FV}{ds:Ds}{d:D}:f2 g fa fb ds=some d↔∃ x y,fa ds=some x/\fb ds=some y/\g x y=some d:=by
 unfold f2;cases ha:fa ds with
 | none=>simp
 | some x=>cases hb:fb ds with
   | none=>simp
   | some y=>simp
def f1(g:D->Option D)(fa:FV):FV:=λ ds=>(fa ds).bind g
theorem qas0{g:D->Option D}{fa:FV}{ds:Ds}{d:D}:f1 g fa ds=some d↔∃ x,fa ds=some x/\g x=some d:=by
 unfold f1;cases ha:fa ds with
 | none=>simp
 | some x=>simp
theorem Gp{F:Addr->Prop}{H:Hp}{d e:D}{A B:List Addr}(r:Rep F H v d A)(s:Rep F H w e B):Reps F H [v,w] [d,e] (A++(B++[])):=.cons r (.cons s .nil)
section
variable{c:Vc}{X:Cx}{a b:Expr}{oa ob nw:Bool}{fa fb:FV}{r:R2}{g:D->D->Option D}{ta tb:VT}
theorem op_vv(h:Ay nw r g):∀ σ H Q,liftV c (nw||(oa&&ob)) (f2 g fa fb) σ H Q->tOp r (liftV c oa fa) (liftV c ob fb) σ H Q:=by
 rintro σ H Q ⟨F,ds,A,d,S,e,q⟩;obtain⟨x,y,ea,eb,eg⟩:=qaD0.mp e;refine⟨F,ds,A,x,S,ea,λ v H1 B1 r1 s1 n1=>⟨F,ds,A,y,S.same s1,eb,λ w H2 B2 r2 s2 n2=>?_⟩⟩;refine h F H2 v w x y _ d Q (Gp (r1.same s2) r2) eg λ u H3 B3 r3 s3 h3=>?_
 refine q u H3 B3 r3 ((s1.trans s2).trans s3) λ ho=>?_
 cases nw with
 | true=>rw[if_pos rfl] at h3;exact⟨h3.one,λ b o e=>h3.new b o (s2 b o (s1 b o e))⟩
 | false =>
   rw[if_neg (by decide)] at h3;have ho:=zAb.mp ho
   have:=(n1 ho.1).append s1 r1.cells (n2 ho.2)
   exact h3.new (by rw[zA9];exact this) (s1.trans s2)
def t2(g:D->D->Option D)(ta tb:VT):VT:=λ ds Q xe=>ta ds (λ x ds1=>tb ds1 (λ y ds2=>orF (g x y) λ d=>Q d ds2) xe) xe
theorem qav4(ha:VE c X a ta)(hb:VE c X b tb):∀ ds (Q Q':DK) (xe xe':XKd),(∀ d ds',Q d ds'->Q' d ds')->(∀ x ds',xe x ds'->xe' x ds')->t2 g ta tb ds Q xe->t2 g ta tb ds Q' xe' :=
 λ ds Q Q' xe xe' hQ hx=>ha.m _ _ _ _ _ (λ d ds1=>hb.m _ _ _ _ _ (λ d ds2=>qa5 λ z=>hQ z ds2) hx) hx
theorem op_ee(ha:VE c X a ta)(hb:VE c X b tb)(h:Ay true r g):∀ σ H Q,Bf c (t2 g ta tb) σ H Q->tOp r (Bf c ta) (Bf c tb) σ H Q:=by
 rintro σ H Q ⟨F,ds,A,xe,S,x,q⟩;refine⟨F,ds,A,xe,S,x,ha.m _ _ _ _ _ (λ d1 ds1 q v H1 F1 T A1 r1 S1 o1 s1=>?_) (λ _ _ z=>z) q⟩;have s1':Stp F H A F1 H1 A1:=s1.count λ b=>by rw[zA0];lia
 refine⟨F1,ds1,A1,xe,S1,x.step s1',hb.m _ _ _ _ _ (λ d2 ds2 q w H2 F2 T2 A2 r2 S2 o2 s2=>?_) (λ _ _ z=>z) q⟩;obtain⟨d,eg,q⟩:=qa6.mp q;have s2':Stp F1 H1 A1 F2 H2 A2:=s2.count λ b=>by rw[zA0];lia
 have r1':Rep F2 H2 v d1 T:=r1.keep (s2'.kp S1.ok S1.loc.cells) λ b hb hc=>by
   have:=o1.sep b
   rw[zA0] at this
   have:=qa8.mp hb
   lia
 refine h F2 H2 v w d1 d2 _ d Q (Gp r1' r2) eg λ u H3 B3 r3 s3 n3=>?_
 rw[if_pos rfl] at n3;exact q u H3 F2 B3 A2 r3 (S2.same s3) (S2.new n3 s3) ((s1'.trans s2').trans (n3.stp s3))
def t2v(g:D->D->Option D)(ta:VT)(fb:FV):VT:=λ ds Q xe=>ta ds (λ x ds1=>orF ((fb ds1).bind (g x)) λ d=>Q d ds1) xe
theorem qal4(ha:VE c X a ta):∀ ds (Q Q':DK) (xe xe':XKd),(∀ d ds',Q d ds'->Q' d ds')->(∀ x ds',xe x ds'->xe' x ds')->t2v g ta fb ds Q xe->t2v g ta fb ds Q' xe' :=
 λ ds Q Q' xe xe' hQ hx=>ha.m _ _ _ _ _ (λ d ds1=>qa5 λ z=>hQ z ds1) hx
theorem op_ev(ha:VE c X a ta)(h:Ay true r g):∀ σ H Q,Bf c (t2v g ta fb) σ H Q->tOp r (Bf c ta) (liftV c ob fb) σ H Q:=by
 rintro σ H Q ⟨F,ds,A,xe,S,x,q⟩;refine⟨F,ds,A,xe,S,x,ha.m _ _ _ _ _ (λ d1 ds1 q v H1 F1 T A1 r1 S1 o1 s1=>?_) (λ _ _ z=>z) q⟩;have s1':Stp F H A F1 H1 A1:=s1.count λ b=>by rw[zA0];lia
 obtain⟨d,eg,q⟩:=qa6.mp q;obtain⟨y,eb,eg⟩:=zA1.mp eg;refine⟨F1,ds1,A1,y,S1,eb,λ w H2 B2 r2 s2 _=>?_⟩;refine h F1 H2 v w d1 y _ d Q (Gp (r1.same s2) r2) eg λ u H3 B3 r3 s3 n3=>?_
 rw[if_pos rfl] at n3;have s23:=s2.trans s3;have n3':New H1 B3:=⟨n3.one,λ b o e=>n3.new b o (s2 b o e)⟩
 exact q u H3 F1 B3 A1 r3 (S1.same s23) (S1.new n3' s23) (s1'.trans (n3'.stp s23))
def OpS1(nw:Bool)(r:V->Hp->VK->Prop)(g:D->Option D):Prop:=∀ F H v x B d (Q:VK),Rep F H v x B->g x=some d ->
 (∀ v H' B',Rep F H' v d B'->Same H H'->(if nw=true then New H B' else Sub H B B')->Q v H')->r v H Q
def t1(g:D->Option D)(ta:VT):VT:=λ ds Q xe=>ta ds (λ x ds1=>orF (g x) λ d=>Q d ds1) xe
variable{r1:V->Hp->VK->Prop}{g1:D->Option D}
theorem op_v(h:OpS1 nw r1 g1):∀ σ H Q,liftV c (nw||oa) (f1 g1 fa) σ H Q->liftV c oa fa σ H (λ x H1=>r1 x H1 Q):=by
 rintro σ H Q ⟨F,ds,A,d,S,e,q⟩;obtain⟨x,ea,eg⟩:=qas0.mp e;refine⟨F,ds,A,x,S,ea,λ v H1 B1 r1 s1 n1=>?_⟩;refine h F H1 v x _ d Q r1 eg λ u H3 B3 r3 s3 h3=>?_
 refine q u H3 B3 r3 (s1.trans s3) λ ho=>?_
 cases nw with
 | true=>rw[if_pos rfl] at h3;exact⟨h3.one,λ b o e=>h3.new b o (s1 b o e)⟩
 | false=>rw[if_neg (by decide)] at h3;exact h3.new (n1 ho) s1
end
theorem qad9{F F1:Addr->Prop}{H H1 H3:Hp}{A A1 T B:List Addr}(o1:Ok F1 H1 (T++A1))(s1:Stp F H A F1 H1 (T++A1))(cA:∀ b∈A1,∃ o,H1 b=some o/\Eg o=true)(s3:Same H1 H3)(n3:Sub H1 T B):Ok F1 H3 (B++A1)/\Stp F H A F1 H3 (B++A1):=by
 refine⟨⟨λ b=>?_,λ b f=>?_,λ b f=>let ⟨u,e⟩:=o1.ex b f;⟨u,s3 b u e⟩⟩,λ b o e q=>s3 b o (s1.fr b o e q),λ b o e q=>?_,s1.mono,s1.fnew⟩
 . have:=o1.sep b
   rw[zA0] at this ⊢;rcases n3 b with h | ⟨h,hn⟩
   . lia
   by_cases hA:A1.count b=0
   . lia
   obtain⟨o,e,_⟩:=cA b (qa8.mpr hA);rw[e] at hn;cases hn
 . have:=o1.fro b f
   rw[zA0] at this ⊢;rcases n3 b with h | ⟨h,hn⟩
   . lia
   obtain⟨o,e⟩:=o1.ex b f;rw[e] at hn;cases hn
 have:=s1.sub b o e q
 rw[zA0] at this ⊢;rcases n3 b with h | ⟨h,hn⟩
 . lia
 rw[s1.fr b o e q] at hn;cases hn
section
variable{c:Vc}{X:Cx}{a b:Expr}{oa ob nw:Bool}{fa fb:FV}{r:R2}{g:D->D->Option D}{ta:VT}
def Id(g:D->D->Option D)(ta:VT)(fb:FV):VT:=λ ds Q xe=>ta ds (λ x ds1=>orF (fb ds1) λ y=>y.imm=true/\orF (g x y) λ d=>Q d ds1) xe
theorem qaa9(ha:VE c X a ta):∀ ds (Q Q':DK) (xe xe':XKd),(∀ d ds',Q d ds'->Q' d ds')->(∀ x ds',xe x ds'->xe' x ds')->Id g ta fb ds Q xe->Id g ta fb ds Q' xe' :=
 λ ds Q Q' xe xe' hQ hx=>ha.m _ _ _ _ _ (λ d ds1=>qa5 λ y=>And.imp_right (qa5 λ z=>hQ z ds1)) hx
theorem qaI8(ha:VE c X a ta)(h:Ay false r g):∀ σ H Q,Bf c (Id g ta fb) σ H Q->tOp r (Bf c ta) (liftV c ob fb) σ H Q:=by
 rintro σ H Q ⟨F,ds,A,xe,S,x,q⟩;refine⟨F,ds,A,xe,S,x,ha.m _ _ _ _ _ (λ d1 ds1 q v H1 F1 T A1 r1 S1 o1 s1=>?_) (λ _ _ z=>z) q⟩;obtain⟨y,eb,hy,q⟩:=qa6.mp q;obtain⟨d,eg,q⟩:=qa6.mp q;refine⟨F1,ds1,A1,y,S1,eb,λ w H2 B2 r2 s2 _=>?_⟩
 have:=r2.imm hy
 subst this;refine h F1 H2 v w d1 y _ d Q (Gp (r1.same s2) r2) eg λ u H3 B3 r3 s3 n3=>?_
 rw[if_neg (by decide),zA9,zA9] at n3;have s23:=s2.trans s3;have n4:Sub H1 T B3:=λ b=>(n3 b).imp id λ ⟨h1,h2⟩=>⟨h1,by
   cases e:H1 b with
   | none=>rfl
   | some o=>rw[s2 b o e] at h2;cases h2⟩
 obtain⟨k1,k2⟩:=qad9 o1 s1 S1.loc.cells s23 n4;exact q u H3 F1 B3 A1 r3 (S1.same s23) k1 k2
theorem qa7:VVs c X [] true (λ _=>some []):=⟨PA.mono qq1 λ σ H Q ⟨F,ds,A,xs,S,e,q⟩=>by cases e;exact q [] H [] .nil (λ _ _ z=>z) λ _=>New.nil⟩
def Aw(fa:FV)(fr:Ds->Option Ds):Ds->Option Ds:=λ ds=>(fa ds).bind λ x=>(fr ds).bind λ xs=>some (x::xs)
theorem qaf0{fa:FV}{fr:Ds->Option Ds}{ds xs:Ds}:Aw fa fr ds=some xs↔∃ x r,fa ds=some x/\fr ds=some r/\xs=x::r:=by
 unfold Aw;cases ha:fa ds with
 | none=>simp
 | some x=>cases hb:fr ds with
   | none=>simp
   | some y=>simp[eq_comm]
theorem qa2{e:Expr}{es:List Expr}{own:Bool}{fr:Ds->Option Ds}(ha:VV c X e oa fa)(hr:VVs c X es own fr)(hs:starEach (e::es) X.env=(false,eval e X.env)::starEach es X.env):VVs c X (e::es) (oa&&own) (Aw fa fr):=by
 refine⟨PA.mono (qd3 ha.h hr.h hs) λ σ H Q ⟨F,ds,A,xs,S,e,q⟩=>?_⟩;obtain⟨x,r,e1,e2,rfl⟩:=qaf0.mp e;refine⟨F,ds,A,x,S,e1,λ v H1 B1 r1 s1 n1=>⟨F,ds,A,r,S.same s1,e2,λ vs H2 B2 r2 s2 n2=>?_⟩⟩;refine q (v::vs) H2 (B1++B2) (.cons (r1.same s2) r2) (s1.trans s2) λ ho=>?_
 have ho:=zAb.mp ho;exact(n1 ho.1).append s1 r1.cells (n2 ho.2)
variable{rc:List V->Hp->VK->Prop}{gc:Ds->Option D}
theorem qay8{own:Bool}{f:Ds->Option Ds}(h:OpS nw rc gc):∀ σ H Q,liftV c (nw||own) (λ ds=>(f ds).bind gc) σ H Q->tCB rc (qaA4 c own f) σ H Q:=by
 rintro σ H Q ⟨F,ds,A,d,S,e,q⟩;obtain⟨xs,e1,e2⟩:=zA1.mp e;refine⟨F,ds,A,xs,S,e1,λ vs H1 B1 r1 s1 n1=>h F H1 vs xs B1 d Q r1 e2 λ u H3 B3 r3 s3 h3=>q u H3 B3 r3 (s1.trans s3) λ ho=>?_⟩;cases nw with
 | true=>rw[if_pos rfl] at h3;exact⟨h3.one,λ b o e=>h3.new b o (s1 b o e)⟩
 | false=>rw[if_neg (by decide)] at h3;exact h3.new (n1 ho) s1
def tcO(gc:Ds->Option D)(t:VTA):VT:=λ ds Q xe=>t ds (λ xs ds1=>orF (gc xs) λ d=>Q d ds1) xe
theorem qal2{es:List Expr}{t:VTA}(ha:VOs c X es t):∀ ds (Q Q':DK) (xe xe':XKd),(∀ d ds',Q d ds'->Q' d ds')->(∀ x ds',xe x ds'->xe' x ds')->tcO gc t ds Q xe->tcO gc t ds Q' xe' :=
 λ ds Q Q' xe xe' hQ hx=>ha.m _ _ _ _ _ (λ d ds1=>qa5 λ z=>hQ z ds1) hx
theorem opc_o{es:List Expr}{t:VTA}(ha:VOs c X es t)(h:OpS true rc gc):∀ σ H Q,Bf c (tcO gc t) σ H Q->tCB rc (qaq4 c t) σ H Q:=by
 rintro σ H Q ⟨F,ds,A,xe,S,x,q⟩;refine⟨F,ds,A,xe,S,x,ha.m _ _ _ _ _ (λ xs ds1 q vs H1 F1 T A1 r1 S1 s1=>?_) (λ _ _ z=>z) q⟩;obtain⟨d,eg,q⟩:=qa6.mp q;refine h F1 H1 vs xs T d Q r1 eg λ u H3 B3 r3 s3 n3=>?_
 rw[if_pos rfl] at n3;exact q u H3 F1 B3 A1 r3 (S1.same s3) (S1.new n3 s3) (s1.trans (n3.stp s3))
end
def D.kids:D->List D
 | .tup ds=>ds
 | .lst false ds=>ds
 | .dct false kvs=>kvs.map (·.2)
 | .ins false _ fs=>fs.map (·.2)
 | _=>[]
def Hf{κ:Type}:List (κ×D)->Nat->D->List (κ×D)
 | [],_,_=>[]
 | (k,_)::r,0,x=>(k,x)::r
 | p::r,n+1,x=>p::Hf r n x
theorem qG2{κ:Type}:∀(l:List (κ×D))(n:Nat)(x:D),(Hf l n x).map (·.1)=l.map (·.1)/\(Hf l n x).map (·.2)=(l.map (·.2)).set n x
 | [],_,_=>⟨rfl,rfl⟩
 | (k,_)::r,0,x=>⟨rfl,rfl⟩
 | p::r,n+1,x=>by
   obtain⟨h1,h2⟩:=qG2 r n x;simp only[Hf,zAz,h1,h2,List.set_cons_succ,and_self]
def D.setK:D->Nat->D->D
 | .tup ds,n,x=>.tup (ds.set n x)
 | .lst z ds,n,x=>.lst z (ds.set n x)
 | .dct z kvs,n,x=>.dct z (Hf kvs n x)
 | .ins z C fs,n,x=>.ins z C (Hf fs n x)
 | d,_,_=>d
def Lnk(H:Hp)(u:V)(n:Nat)(w:V):Prop:=∃ a,u=.ref a /\
 ((∃ vs,H a=some (.tup vs)/\vs[n]? = some w)∨(∃ vs,H a=some (.lst vs)/\vs[n]? = some w)∨(∃ kvs,H a=some (.dK kvs)/\(kvs.map (·.2))[n]? = some w)∨∃ C dx fs,H a=some (.ins C dx fs)/\(fs.map (·.2))[n]? = some w)
section
variable{F F':Addr->Prop}{H H':Hp}
theorem Reps.split:∀{ds:List D}{vs:List V}{A:List Addr}{i:Nat}{d:D},Reps F H vs ds A->ds[i]? = some d ->
   ∃ vs1 v vs2 ds1 ds2 A1 B A2,vs=vs1++v::vs2/\ds=ds1++d::ds2/\vs1.length=i/\ds1.length=i/\A=A1++(B++A2)/\Reps F H vs1 ds1 A1/\Rep F H v d B/\Reps F H vs2 ds2 A2:=by
 intro ds
 induction ds with
 | nil=>intro σ A i d _ h;simp at h
 | cons e r ih =>
   intro σ A i d L h;cases i with
   | zero =>
     have:e=d:=by simpa using h
     subst this;cases L with
     | cons q t=>exact⟨[],_,_,[],_,[],_,_,rfl,rfl,rfl,rfl,rfl,.nil,q,t⟩
   | succ i =>
     have h:r[i]? = some d:=by simpa using h
     cases L with
     | @cons v _ B0 _ _ A0 q t =>
       obtain⟨σ1,o,σ2,ds1,ds2,A1,B,A2,e1,e2,e3,e4,e5,l1,l2,l3⟩:=ih t h;exact⟨v::σ1,o,σ2,_::ds1,ds2,B0++A1,B,A2,by rw[e1];rfl,by rw[e2];rfl,by simp[e3],by simp[e4],by rw[e5,zBd],.cons q l1,l2,l3⟩
theorem Reps.append{ws:List V}{ds es:List D}{A B:List Addr}(r:Reps F H vs ds A)(t:Reps F H ws es B):Reps F H (vs++ws) (ds++es) (A++B):=by
 induction vs generalizing ds A with
 | nil=>cases r;exact t
 | cons v vs ih =>
   cases r with
   | cons h t'=>rw[zBd];exact .cons h (ih t')
theorem Reps.kid{ds:List D}{A:List Addr}{d:D}(r:Reps F H vs ds A)(h:ds[n]? = some d):∃(w:V)(B C:List Addr),vs[n]? = some w/\Rep F H w d B/\(∀ b,A.count b=B.count b+C.count b) /\
   ∀{F':Addr->Prop}{H':Hp}{W:Addr->Prop}(d':D)(B':List Addr),Kp F H W F' H'->(∀ b∈C,¬ W b)->Rep F' H' w d' B'->∃ A':List Addr,Reps F' H' vs (ds.set n d') A'/\∀ b,A'.count b=B'.count b+C.count b:=by
 obtain⟨vs1,v,vs2,ds1,ds2,A1,B,A2,e1,e2,e3,e4,e5,l1,l2,l3⟩:=r.split h;refine⟨v,B,A1++A2,by rw[e1];exact qx2 e3,l2,λ b=>by rw[e5];simp only[zA0];lia,λ{F' H' W} d' B' k hc r'=>⟨A1++(B'++A2),?_,λ b=>by simp only[zA0];lia⟩⟩;rw[e1,e2,ql4 e4];exact(l1.keep k λ b hb=>hc b (zAf.mpr (.inl hb))).append (.cons r' (l3.keep k λ b hb=>hc b (zAf.mpr (.inr hb))))
theorem Rep.kid{v0:V}{d0 d:D}{A:List Addr}(r:Rep F H v0 d0 A)(h:d0.kids[n]? = some d):∃(w:V)(B C:List Addr),Lnk H v0 n w/\Rep F H w d B/\(∀ b,A.count b=B.count b+C.count b) /\
   ∀{F':Addr->Prop}{H':Hp}{W:Addr->Prop}(d':D)(B':List Addr),Kp F H W F' H'->(∀ b∈C,¬ W b)->Rep F' H' w d' B'->∃ A':List Addr,Rep F' H' v0 (d0.setK n d') A'/\∀ b,A'.count b=B'.count b+C.count b:=by
 cases r with
 | @tup a vs ds _ e r =>
   obtain⟨w,B,C,h1,h2,h3,h4⟩:=r.kid (n:=n) h;refine⟨w,B,C,⟨a,rfl,.inl ⟨vs,e,h1⟩⟩,h2,h3,λ{F' H' W} d' B' k hc r'=>?_⟩;obtain⟨A',q1,q2⟩:=h4 d' B' k hc r';exact⟨A',.tup (k.tup e) q1,q2⟩
 | @lst a vs ds A e r =>
   obtain⟨w,B,C,h1,h2,h3,h4⟩:=r.kid (n:=n) h;refine⟨w,B,a::C,⟨a,rfl,.inr (.inl ⟨vs,e,h1⟩)⟩,h2,λ b=>by rw[zAh,zAh,h3];lia,λ{F' H' W} d' B' k hc r'=>?_⟩;obtain⟨A',q1,q2⟩:=h4 d' B' k (λ b hb=>hc b (zA4 _ hb)) r';exact⟨a::A',.lst (k.fr a _ e (hc a zAd)) q1,λ b=>by rw[zAh,zAh,q2];lia⟩
 | @dct a kvs kds A e q r =>
   obtain⟨w,B,C,h1,h2,h3,h4⟩:=r.kid (n:=n) h;refine⟨w,B,a::C,⟨a,rfl,.inr (.inr (.inl ⟨kvs,e,h1⟩))⟩,h2,λ b=>by rw[zAh,zAh,h3];lia,λ{F' H' W} d' B' k hc r'=>?_⟩;obtain⟨A',q1,q2⟩:=h4 d' B' k (λ b hb=>hc b (zA4 _ hb)) r';obtain⟨m1,m2⟩:=qG2 kds n d';exact⟨a::A',.dct (k.fr a _ e (hc a zAd)) (q.trans m1.symm) (by rw[m2];exact q1),λ b=>by rw[zAh,zAh,q2];lia⟩
 | @ins a C0 dx fvs fds A e q r =>
   obtain⟨w,B,C,h1,h2,h3,h4⟩:=r.kid (n:=n) h;refine⟨w,B,a::C,⟨a,rfl,.inr (.inr (.inr ⟨C0,dx,fvs,e,h1⟩))⟩,h2,λ b=>by rw[zAh,zAh,h3];lia,λ{F' H' W} d' B' k hc r'=>?_⟩;obtain⟨A',q1,q2⟩:=h4 d' B' k (λ b hb=>hc b (zA4 _ hb)) r';obtain⟨m1,m2⟩:=qG2 fds n d';exact⟨a::A',.ins (k.fr a _ e (hc a zAd)) (q.trans m1.symm) (by rw[m2];exact q1),λ b=>by rw[zAh,zAh,q2];lia⟩
 | _=>simp[D.kids] at h
def D.getP:D->List Nat->Option D
 | d,[]=>some d
 | d,n::p=>match d.kids[n]? with
   | some e=>e.getP p
   | none=>none
def D.setP:D->List Nat->D->D
 | _,[],x=>x
 | d,n::p,x=>match d.kids[n]? with
   | some e=>d.setK n (e.setP p x)
   | none=>d
def Walk(H:Hp):V->List Nat->V->Prop
 | u,[],w=>u=w
 | u,n::p,w=>∃ v,Lnk H u n v/\Walk H v p w
theorem Rep.path:∀{p:List Nat}{v0:V}{d0 d:D}{A:List Addr},Rep F H v0 d0 A->d0.getP p=some d->∃(w:V)(B C:List Addr),Walk H v0 p w/\Rep F H w d B/\(∀ b,A.count b=B.count b+C.count b) /\
   ∀{F':Addr->Prop}{H':Hp}{W:Addr->Prop}(d':D)(B':List Addr),Kp F H W F' H'->(∀ b∈C,¬ W b)->Rep F' H' w d' B'->∃ A':List Addr,Rep F' H' v0 (d0.setP p d') A'/\∀ b,A'.count b=B'.count b+C.count b:=by
 intro p
 induction p with
 | nil =>
   intro v0 d0 d A r h;cases h;exact⟨v0,A,[],rfl,r,λ b=>by simp,λ{F' H' W} d' B' k hc r'=>⟨B',r',λ b=>by simp⟩⟩
 | cons n p ih =>
   intro v0 d0 d A r h;unfold D.getP at h;cases hk:d0.kids[n]? with
   | none=>rw[hk] at h;cases h
   | some e =>
     rw[hk] at h;obtain⟨w1,B1,C1,k1,k2,k3,k4⟩:=r.kid hk;obtain⟨w,B,C,h1,h2,h3,h4⟩:=ih k2 h;refine⟨w,B,C++C1,⟨w1,k1,h1⟩,h2,λ b=>by rw[k3,h3,zA0];lia,λ{F' H' W} d' B' k hc r'=>?_⟩;obtain⟨A1,q1,q2⟩:=h4 d' B' k (λ b hb=>hc b (zAf.mpr (.inl hb))) r';obtain⟨A2,q3,q4⟩:=k4 (e.setP p d') A1 k (λ b hb=>hc b (zAf.mpr (.inr hb))) q1;refine⟨A2,?_,λ b=>by rw[q4,q2,zA0];lia⟩;unfold D.setP;rw[hk];exact q3
def A6(ds:Ds)(i:Nat)(p:List Nat):Option D:=match ds[i]? with
 | some d=>d.getP p
 | none=>none
def Bp(ds:Ds)(i:Nat)(p:List Nat)(x:D):Ds:=match ds[i]? with
 | some d=>ds.set i (d.setP p x)
 | none=>ds
theorem qX7{p:List Nat}{d:D}(h:D.getP .unk p=some d):p=[]/\d=.unk:=by
 cases p with
 | nil=>cases h;exact⟨rfl,rfl⟩
 | cons n p=>simp[D.getP,D.kids] at h
theorem Locs.place{σ:List (Option V)}{ds:Ds}{A:List Addr}{p:List Nat}{d:D}(L:Locs F H σ ds A)(h:A6 ds i p=some d)(hd:d≠.unk):∃(u w:V)(B C:List Addr),σ[i]? = some (some u)/\Walk H u p w/\Rep F H w d B/\(∀ b,A.count b=B.count b+C.count b) /\
   ∀{F':Addr->Prop}{H':Hp}{W:Addr->Prop}(d':D)(B':List Addr),Kp F H W F' H'->(∀ b∈C,¬ W b)->Rep F' H' w d' B'->∃ A':List Addr,Locs F' H' σ (Bp ds i p d') A'/\∀ b,A'.count b=B'.count b+C.count b:=by
 unfold A6 at h;cases hi:ds[i]? with
 | none=>rw[hi] at h;cases h
 | some d0 =>
   rw[hi] at h;obtain⟨σ1,o,σ2,ds1,ds2,A1,B0,A2,e1,e2,e3,e4,e5,l1,l2,l3⟩:=L.split hi;cases l2 with
   | no=>exact absurd (qX7 h).2 hd
   | @so u _ _ r =>
     obtain⟨w,B,C,h1,h2,h3,h4⟩:=r.path h;refine⟨u,w,B,A1++(C++A2),by rw[e1];exact qx2 e3,h1,h2,λ b=>by rw[e5];simp only[zA0,h3];lia,λ{F' H' W} d' B' k hc r'=>?_⟩;obtain⟨A',q1,q2⟩:=h4 d' B' k (λ b hb=>hc b (zAf.mpr (.inr (zAf.mpr (.inl hb))))) r';refine⟨A1++(A'++A2),?_,λ b=>by simp only[zA0,q2];lia⟩;unfold Bp;rw[hi,e1];dsimp only;rw[e2,ql4 e4];exact(l1.keep k λ b hb=>hc b (zAf.mpr (.inl hb))).append (.so q1 (l3.keep k λ b hb=>hc b (zAf.mpr (.inr (zAf.mpr (.inr hb))))))
theorem Lnk.fn{u:V}(h:Lnk H u n v)(h':Lnk H u n w):v=w:=by
 obtain⟨a,rfl,h⟩:=h;obtain⟨b,e,h'⟩:=h';cases e;rcases h with⟨vs,e,h⟩ | ⟨vs,e,h⟩ | ⟨vs,e,h⟩ | ⟨C,dx,vs,e,h⟩<;>rcases h' with⟨vs',e',h'⟩ | ⟨vs',e',h'⟩ | ⟨vs',e',h'⟩ | ⟨C',dx',vs',e',h'⟩<;>rw[e] at e'<;>cases e'<;>rw[h] at h'<;>exact Option.some.inj h'
theorem Walk.fn:∀{p:List Nat}{u v w:V},Walk H u p v->Walk H u p w->v=w
 | [],_,_,_,h,h'=>h.symm.trans h'
 | n::p,_,_,_,⟨x,h1,h2⟩,⟨y,h3,h4⟩=>by
   cases h1.fn h3;exact Walk.fn h2 h4
theorem Lnk.same{u:V}(h:Lnk H u n v)(s:Same H H'):Lnk H' u n v:=by
 obtain⟨a,rfl,h⟩:=h;refine⟨a,rfl,?_⟩;rcases h with⟨vs,e,h⟩ | ⟨vs,e,h⟩ | ⟨vs,e,h⟩ | ⟨C,dx,vs,e,h⟩
 . exact .inl ⟨vs,s _ _ e,h⟩
 . exact .inr (.inl ⟨vs,s _ _ e,h⟩)
 . exact .inr (.inr (.inl ⟨vs,s _ _ e,h⟩))
 exact .inr (.inr (.inr ⟨C,dx,vs,s _ _ e,h⟩))
theorem Walk.same:∀{p:List Nat}{u v:V},Walk H u p v->Same H H'->Walk H' u p v
 | [],_,_,h,_=>h
 | n::p,_,_,⟨x,h1,h2⟩,s=>⟨x,h1.same s,h2.same s⟩
end
section
variable{c:Vc}{X:Cx}{b:Expr}{r:R2}{g:D->D->Option D}{tb:VT}
def t2n(g:D->D->Option D)(i:Nat)(tb:VT):VT:=λ ds Q xe=>(rdN i ds).isSome=true/\tb ds (λ y ds1=>orF ((rdN i ds1).bind λ x=>g x y) λ d=>Q d ds1) xe
theorem qal5(hb:VE c X b tb):∀ ds (Q Q':DK) (xe xe':XKd),(∀ d ds',Q d ds'->Q' d ds')->(∀ x ds',xe x ds'->xe' x ds')->t2n g i tb ds Q xe->t2n g i tb ds Q' xe' :=
 λ ds Q Q' xe xe' hQ hx=>And.imp_right (hb.m _ _ _ _ _ (λ d ds1=>qa5 λ z=>hQ z ds1) hx)
theorem Sta.name{F:Addr->Prop}{H:Hp}{σ:St}{ds:Ds}{A:List Addr}{d:D}(S:Sta c F H σ ds A)(hi:i < σ.length)(h:rdN i ds=some d):∃ v B,σ[i]? = some (some v)/\Rep F H v d B/\∀ b,B.count b<=A.count b :=
 let ⟨e,k⟩:=qj8.mp h
 S.at hi e k
theorem op_ne{σ:St}{H:Hp}(hb:VE c X b tb)(h:Ay true r g)(hi:i < σ.length)(q:Bf c (t2n g i tb) σ H Q):tOp r (Ev i) (Bf c tb) σ H Q:=by
 obtain⟨F,ds,A,xe,S,x,hs,q⟩:=q;obtain⟨d0,hd0⟩:=zB9.mp hs;obtain⟨v,B0,hv,_,_⟩:=S.name hi hd0;refine⟨v,hv,F,ds,A,xe,S,x,hb.m _ _ _ _ _ (λ d1 ds1 q w H1 F1 T A1 r1 S1 o1 s1=>?_) (λ _ _ z=>z) q⟩;have s1':Stp F H A F1 H1 A1:=s1.count λ b=>by rw[zA0];lia
 obtain⟨d,eg,q⟩:=qa6.mp q;obtain⟨y,ey,eg⟩:=zA1.mp eg;obtain⟨v',B,hv',r2,_⟩:=S1.name hi ey;rw[hv] at hv';cases hv';refine h F1 H1 v w y d1 _ d Q (Gp r2 r1) eg λ u H3 B3 r3 s3 n3=>?_
 rw[if_pos rfl] at n3;exact q u H3 F1 B3 A1 r3 (S1.same s3) (S1.new n3 s3) (s1'.trans (n3.stp s3))
end
section
variable{F:Addr->Prop}{H:Hp}{K:PySem.W.Frag}
theorem Rep.lst_inv{ds:List D}{B:List Addr}(r:Rep F H v (.lst z ds) B):∃ a vs A,v=.ref a/\H a=some (.lst vs)/\Reps F H vs ds A/\∀ b,A.count b<=B.count b:=by
 cases r with
 | lst h r=>exact⟨_,_,_,rfl,h,r,λ b=>by rw[zAh];lia⟩
 | lstZ h f r=>exact⟨_,_,_,rfl,h,r,λ b=>zA5 _⟩
theorem Rep.tup_inv{ds:List D}{B:List Addr}(r:Rep F H v (.tup ds) B):∃ a vs,v=.ref a/\H a=some (.tup vs)/\Reps F H vs ds B:=by
 cases r with
 | tup h r=>exact⟨_,_,rfl,h,r⟩
theorem Rep.dct_inv{kds:List (Key×D)}{B:List Addr}(r:Rep F H v (.dct z kds) B):∃ a kvs A,v=.ref a/\H a=some (.dK kvs)/\kvs.map (·.1)=kds.map (·.1)/\Reps F H (kvs.map (·.2)) (kds.map (·.2)) A/\∀ b,A.count b<=B.count b:=by
 cases r with
 | dct h e r=>exact⟨_,_,_,rfl,h,e,r,λ b=>by rw[zAh];lia⟩
 | dctZ h f e r=>exact⟨_,_,_,rfl,h,e,r,λ b=>zA5 _⟩
theorem Rep.ins_inv{C:Addr}{fds:List (Str×D)}{B:List Addr}(r:Rep F H v (.ins z C fds) B):∃ a dx fvs A,v=.ref a/\H a=some (.ins C dx fvs)/\fvs.map (·.1)=fds.map (·.1)/\Reps F H (fvs.map (·.2)) (fds.map (·.2)) A/\∀ b,A.count b<=B.count b:=by
 cases r with
 | ins h e r=>exact⟨_,_,_,_,rfl,h,e,r,λ b=>by rw[zAh];lia⟩
 | insZ h f e r=>exact⟨_,_,_,_,rfl,h,e,r,λ b=>zA5 _⟩
def D.elems:D->Option Ds
 | .lst _ ds=>some ds
 | .tup ds=>some ds
 | _=>none
theorem Rep.elems{d:D}{ds:Ds}{B:List Addr}(r:Rep F H v d B)(h:d.elems=some ds):∃ a vs A,v=.ref a/\(SqL K H a vs∨SqT K H a vs)/\Reps F H vs ds A/\∀ b,A.count b<=B.count b:=by
 cases d with
 | lst z xs=>cases h;obtain⟨a,vs,A,e,h,r,q⟩:=r.lst_inv;exact⟨a,vs,A,e,.inl (.inl (.inl h)),r,q⟩
 | tup xs=>cases h;obtain⟨a,vs,e,h,r⟩:=r.tup_inv;exact⟨a,vs,_,e,.inr (.inl (.inl h)),r,λ _=>zA5 _⟩
 | _=>cases h
theorem Reps.len{ds:List D}{A:List Addr}(r:Reps F H vs ds A):vs.length=ds.length:=by
 induction vs generalizing ds A with
 | nil=>cases r;rfl
 | cons v vs ih=>cases r with | cons h t=>simp[ih t]
theorem qf5{p:Addr}(hp:H p=none):New H [p]:=⟨λ b=>by rw[zAh];simp;split<;>lia,λ b o e=>by
 have:b≠p:=λ z=>by rw[z,hp] at e;cases e
 simp[zAh,Ne.symm this]⟩
theorem qw5{p:Addr}{ds:Ds}(hp:H p=none)(r:Reps F H vs ds []):Rep F (upd H p (.lst vs)) (.ref p) (.lst false ds) [p]:=.lst qb1 (r.same (Same.new hp))
theorem qL1{p:Addr}{ds:Ds}{A:List Addr}(hp:H p=none)(r:Reps F H vs ds A):Rep F (upd H p (.tup vs)) (.ref p) (.tup ds) A:=.tup qb1 (r.same (Same.new hp))
theorem Reps.get{ds:List D}{A:List Addr}{d:D}(r:Reps F H vs ds A)(h:ds[n]? = some d):∃ w B,vs[n]? = some w/\Rep F H w d B/\∀ b,B.count b<=A.count b:=by
 obtain⟨w,B,C,h1,h2,h3,_⟩:=r.kid h;exact⟨w,B,h1,h2,λ b=>by have:=h3 b;lia⟩
theorem Reps.atI{ds:List D}{A:List Addr}{i:Int}{d:D}(r:Reps F H vs ds A)(h:L2.atI ds i=some d):∃ w B,L2.atI vs i=some w/\Rep F H w d B/\∀ b,B.count b<=A.count b:=by
 unfold L2.atI at h ⊢;rw[r.len];cases e:ixN ds.length i with
 | none=>rw[e] at h;cases h
 | some j =>
   rw[e] at h;exact r.get h
theorem Reps.sub{ds:List D}{A:List Addr}(r:Reps F H vs ds A)(n m:Nat):∃ B,Reps F H ((vs.drop n).take m) ((ds.drop n).take m) B/\∀ b,B.count b<=A.count b:=by
 induction n generalizing vs ds A with
 | zero =>
   induction m generalizing vs ds A with
   | zero=>exact⟨[],.nil,λ b=>by simp⟩
   | succ m ih =>
     cases r with
     | nil=>exact⟨[],.nil,λ b=>by simp⟩
     | cons h t =>
       obtain⟨B,q1,q2⟩:=ih t;exact⟨_,.cons h (by simpa using q1),λ b=>by simp only[zA0];have:=q2 b;lia⟩
 | succ n ih =>
   cases r with
   | nil=>exact⟨[],by simpa using Reps.nil,λ b=>by simp⟩
   | cons h t =>
     obtain⟨B,q1,q2⟩:=ih t;exact⟨B,by simpa using q1,λ b=>by simp only[zA0];have:=q2 b;lia⟩
def D.flat:D->Option V
 | .non=>some .non
 | .bl b=>some (.bl b)
 | .int i=>some (.int i)
 | .str x=>some (.str x)
 | _=>none
theorem Rep.flat{d:D}{B:List Addr}(r:Rep F H v d B)(h:d.flat=some w):v=w/\flatV v=true:=by
 cases r<;>cases h<;>exact⟨rfl,rfl⟩
end
def big:Nat:=1000000
theorem qf3:big<=sizeLine:=by decide
section
variable{F:Addr->Prop}{H:Hp}
theorem Reps.imms0{ds:Ds}{A:List Addr}(r:Reps F H vs ds A)(h:D.imms ds=true):Reps F H vs ds []:=by
 have:=r.imms h
 subst this;exact r
theorem Reps.rep{ds:Ds}(r:Reps F H vs ds []):∀ k:Nat,Reps F H (List.replicate k vs).flatten (List.replicate k ds).flatten []
 | 0=>.nil
 | k+1=>by
   rw[zBg,zBg,zBu,zBu];exact r.append (B:=[]) (r.rep k)
end
def gd(p:Prop)[Decidable p](d:D):Option D:=if p then some d else none
theorem qm3{p:Prop}[Decidable p]{d e:D}(h:gd p d=some e):p/\d=e:=by
 unfold gd at h;split at h
 . rename_i hp;exact⟨hp,Option.some.inj h⟩
 cases h
theorem qk8{p:Prop}[Decidable p]{d:D}(h:p):gd p d=some d:=if_pos h
def gAdd:D->D->Option D
 | .int i,.int j=>some (.int (i+j))
 | .str a,.str b=>gd (a.length+b.length<=big) (.str (a++b))
 | .lst _ xs,.lst _ ys=>gd (D.imms xs=true/\D.imms ys=true/\xs.length+ys.length<=big) (.lst false (xs++ys))
 | _,_=>none
def rAddA:R2:=λ x y H Q=>rI0 (λ i j=>.int (i+j)) x y H Q∨(∃ i j,x=.str i/\y=.str j/\i.length+j.length<=sizeLine/\Q (.str (i++j)) H)∨rCat x y H Q
theorem qg2{X:Cx}:OpR X (binaryOp .Add) rAddA:=qaJ0.or (qV1.or qaI9)
theorem qg1:Ay true rAddA gAdd:=by
 intro F H v w x y B d Q r h q;cases r with | @cons _ _ A _ _ _ r1 t=>cases t with | @cons _ _ A2 _ _ _ r2 _ =>
 cases x with
 | int i =>
   cases y with
   | int j=>cases h;cases r1;cases r2;exact .inl ⟨i,j,rfl,rfl,q _ H [] (.int _) (λ _ _ z=>z) New.nil⟩
   | _=>cases h
 | str a =>
   cases y with
   | str b =>
     obtain⟨hl,rfl⟩:=qm3 h;cases r1;cases r2;exact .inr (.inl ⟨a,b,rfl,rfl,zAl hl qf3,q _ H [] (.str _) (λ _ _ z=>z) New.nil⟩)
   | _=>cases h
 | lst z xs =>
   cases y with
   | lst z2 ys =>
     obtain⟨hl,rfl⟩:=qm3 h;obtain⟨a,vs,_,rfl,h1,q1,_⟩:=r1.lst_inv;obtain⟨b,ws,_,rfl,h2,q2,_⟩:=r2.lst_inv;refine .inr (.inr ⟨a,b,vs,ws,rfl,rfl,h1,h2,by rw[q1.len,q2.len];exact zAl hl.2.2 qf3,λ p hp=>?_⟩);exact q _ _ [p] (qw5 hp ((q1.imms0 hl.1).append (q2.imms0 hl.2.1))) (Same.new hp) (qf5 hp)
   | _=>cases h
 | _=>cases h
def E2(i:Int):Bool:=decide (-(2 ^ 64) < i)&&decide (i < 2 ^ 64)
theorem qK4{i:Int}(h:E2 i=true):-(2 ^ 64) < i/\i < 2 ^ 64:=by
 have:=zAb.mp h
 exact⟨zAo this.1,zAo this.2⟩
def Gq:D->D->Option D
 | .int i,.int j=>gd ((E2 i||E2 j)=true) (.int (i * j))
 | .lst _ xs,.int k=>gd (D.imms xs=true/\xs.length * k.toNat<=big/\k < 1000000/\-1000000 < k) (.lst false (List.replicate k.toNat xs).flatten)
 | _,_=>none
def rMulA:R2:=λ x y H Q=>rI CMul (λ i j=>.int (i * j)) x y H Q∨rRep x y H Q
theorem qn9{X:Cx}:OpR X (binaryOp .Mult) rMulA:=qaI5.or qaI3
theorem qn8:Ay true rMulA Gq:=by
 intro F H v w x y B d Q r h q;cases r with | @cons _ _ A _ _ _ r1 t=>cases t with | @cons _ _ A2 _ _ _ r2 _ =>
 cases x with
 | int i =>
   cases y with
   | int j =>
     obtain⟨hl,rfl⟩:=qm3 h;cases r1;cases r2;refine .inl ⟨i,j,rfl,rfl,?_,q _ H [] (.int _) (λ _ _ z=>z) New.nil⟩;rcases Bool.or_eq_true_iff.mp hl with h | h
     . exact .inl (qK4 h)
     exact .inr (qK4 h)
   | _=>cases h
 | lst z xs =>
   cases y with
   | int k =>
     obtain⟨hl,rfl⟩:=qm3 h;obtain⟨a,vs,_,rfl,h1,q1,_⟩:=r1.lst_inv;cases r2;refine .inr ⟨a,k,vs,rfl,rfl,h1,by lia,by lia,by rw[q1.len];exact zAl hl.2.1 qf3,λ p hp=>?_⟩;exact q _ _ [p] (qw5 hp ((q1.imms0 hl.1).rep _)) (Same.new hp) (qf5 hp)
   | _=>cases h
 | _=>cases h
def gI(p:Int->Int->Bool)(f:Int->Int->D):D->D->Option D
 | .int i,.int j=>gd (p i j=true) (f i j)
 | _,_=>none
theorem os_I{C:Int->Int->Prop}{p:Int->Int->Bool}{f:Int->Int->D}{fv:Int->Int->V}(hp:∀ i j,p i j=true->C i j)(hf:∀ F H i j,Rep F H (fv i j) (f i j) []):Ay true (rI C fv) (gI p f):=by
 intro F H v w x y B d Q r h q;cases r with | @cons _ _ A _ _ _ r1 t=>cases t with | @cons _ _ A2 _ _ _ r2 _ =>
 cases x with
 | int i =>
   cases y with
   | int j =>
     obtain⟨hl,rfl⟩:=qm3 h;cases r1;cases r2;exact⟨i,j,rfl,rfl,hp i j hl,q _ H [] (hf F H i j) (λ _ _ z=>z) New.nil⟩
   | _=>cases h
 | _=>cases h
theorem F9{f:Int->Int->D}{fv:Int->Int->V}(hf:∀ F H i j,Rep F H (fv i j) (f i j) []):Ay true (rI0 fv) (gI (λ _ _=>true) f):=by
 intro F H v w x y B d Q r h q;obtain⟨i,j,h1,h2,_,h3⟩:=os_I (C:=λ _ _=>True) (fv:=fv) (λ _ _ _=>trivial) hf F H v w x y B d Q r h q;exact⟨i,j,h1,h2,h3⟩
def gSub:=gI (λ _ _=>true) λ i j=>.int (i - j)
def gDiv:=gI (λ _ j=>decide (0 < j)&&decide (j < 2 ^ 200)) λ i j=>.int (i / j)
def Hg:=gI (λ _ j=>decide (0 < j)) λ i j=>.int (i % j)
def gLt:=gI (λ _ _=>true) λ i j=>.bl (decide (i < j))
def gLe:=gI (λ _ _=>true) λ i j=>.bl (decide (i<=j))
def gGt:=gI (λ _ _=>true) λ i j=>.bl (decide (j < i))
def gGe:=gI (λ _ _=>true) λ i j=>.bl (decide (j<=i))
theorem qq2:Ay true (rI0 λ i j=>.int (i - j)) gSub:=F9 λ _ _ _ _=>.int _
theorem qao8:Ay true (rI CDivB λ i j=>.int (i / j)) gDiv:=os_I (λ i j h=>by
 have:=zAb.mp h
 exact⟨zAo this.1,zAo this.2⟩) λ _ _ _ _=>.int _
theorem qh3:Ay true (rI (λ _ j=>0 < j) λ i j=>.int (i % j)) Hg:=os_I (λ i j h=>zAo h) λ _ _ _ _=>.int _
theorem Fi:Ay true (rI0 λ i j=>.bl (decide (i < j))) gLt:=F9 λ _ _ _ _=>.bl _
theorem Ie:Ay true (rI0 λ i j=>.bl (decide (i<=j))) gLe:=F9 λ _ _ _ _=>.bl _
theorem Ea:Ay true (rI0 λ i j=>.bl (decide (j < i))) gGt:=F9 λ _ _ _ _=>.bl _
theorem G3:Ay true (rI0 λ i j=>.bl (decide (j<=i))) gGe:=F9 λ _ _ _ _=>.bl _
def D.isN:D->Option Bool
 | .non=>some true
 | .unk=>none
 | .hole _=>none
 | _=>some false
theorem Rep.isN{F:Addr->Prop}{H:Hp}{d:D}{B:List Addr}{b:Bool}(r:Rep F H v d B)(h:d.isN=some b):decide (v=.non)=b:=by
 cases r<;>cases h<;>rfl
def gIs:D->D->Option D
 | x,.non=>x.isN.map .bl
 | .bl a,.bl b=>some (.bl (a == b))
 | _,_=>none
def rIs:R2:=λ x y H Q=>(y=.non/\Q (.bl (decide (x=.non))) H)∨(∃ b c,x=.bl b/\y=.bl c/\Q (.bl (b == c)) H)
theorem Ga:Ay true rIs gIs:=by
 intro F H v w x y B d Q r h q;cases r with | @cons _ _ A _ _ _ r1 t=>cases t with | @cons _ _ A2 _ _ _ r2 _ =>
 cases y with
 | non =>
   cases r2;have h:x.isN.map D.bl=some d:=by cases x<;>exact h
   cases e:x.isN with
   | none=>rw[e] at h;cases h
   | some b =>
     rw[e] at h;cases h;refine .inl ⟨rfl,?_⟩;rw[r1.isN e];exact q _ H [] (.bl _) (λ _ _ z=>z) New.nil
 | bl b =>
   cases x with
   | bl a=>cases h;cases r1;cases r2;exact .inr ⟨a,b,rfl,rfl,q _ H [] (.bl _) (λ _ _ z=>z) New.nil⟩
   | _=>cases h
 | _=>cases x<;>cases h
theorem Gb{X:Cx}:OpR X (compareOp .Is) rIs:=qaI6.or qaI7
theorem qaz0{X:Cx}:OpR X (compareOp .IsNot) (λ x y H Q=>∃ b c,x=.bl b/\y=.bl c/\Q (.bl (b != c)) H):=by
 intro Dy s σ H x y v u Q I rx ry ⟨b,c,e1,e2,q⟩;subst e1;subst e2;cases rx;cases ry;exact PyProof.Rows.isnot_bool ⟨.bl (b != c),H,I,rfl,q⟩
def gIsn:D->D->Option D
 | x,.non=>x.isN.map λ b=>.bl (!b)
 | .bl a,.bl b=>some (.bl (a != b))
 | _,_=>none
def rIsn:R2:=λ x y H Q=>(y=.non/\Q (.bl (!decide (x=.non))) H)∨(∃ b c,x=.bl b/\y=.bl c/\Q (.bl (b != c)) H)
theorem qU9:Ay true rIsn gIsn:=by
 intro F H v w x y B d Q r h q;cases r with | @cons _ _ A _ _ _ r1 t=>cases t with | @cons _ _ A2 _ _ _ r2 _ =>
 cases y with
 | non =>
   cases r2;have h:x.isN.map (λ b=>D.bl (!b))=some d:=by cases x<;>exact h
   cases e:x.isN with
   | none=>rw[e] at h;cases h
   | some b =>
     rw[e] at h;cases h;refine .inl ⟨rfl,?_⟩;rw[r1.isN e];exact q _ H [] (.bl _) (λ _ _ z=>z) New.nil
 | bl b =>
   cases x with
   | bl a=>cases h;cases r1;cases r2;exact .inr ⟨a,b,rfl,rfl,q _ H [] (.bl _) (λ _ _ z=>z) New.nil⟩
   | _=>cases h
 | _=>cases x<;>cases h
theorem qV0{X:Cx}:OpR X (compareOp .IsNot) rIsn:=qay9.or qaz0
def Ey(f:D->D->Option Bool):List D->List D->Option Bool
 | [],[]=>some true
 | x::xs,y::ys=>(f x y).bind λ a=>(Ey f xs ys).bind λ b=>some (a&&b)
 | _,_=>some false
def eqF(x y:D):Option Bool:=match x.flat,y.flat with
 | some v,some w=>some (eqV v w)
 | _,_=>none
def D.d0:D->Bool
 | .dct _ []=>true
 | _=>false
def eqZ(x y:D):Option Bool:=if (x.d0&&y.d0)=true then some true else eqF x y
def eqN:Nat->D->D->Option Bool
 | n+1,.lst _ xs,.lst _ ys=>Ey (eqN n) xs ys
 | n+1,.tup xs,.tup ys=>Ey (eqN n) xs ys
 | _,x,y=>eqZ x y
theorem qt3{f:D->D->Option Bool}:∀{xs ys:List D}{b:Bool},Ey f xs ys=some b->∃ e:Nat->Bool,(∀ i x y,xs[i]? = some x->ys[i]? = some y->f x y=some (e i))/\b=((List.range (min xs.length ys.length)).all e&&xs.length == ys.length)
 | [],[],b,h=>by cases h;exact⟨λ _=>true,λ i x y h=>by simp at h,by simp⟩
 | [],y::ys,b,h=>by cases h;exact⟨λ _=>true,λ i x y h=>by simp at h,by simp⟩
 | x::xs,[],b,h=>by cases h;exact⟨λ _=>true,λ i x y _ h=>by simp at h,by simp⟩
 | x::xs,y::ys,b,h=>by
   obtain⟨a,h1,h⟩:=zA1.mp h;obtain⟨b',h2,h⟩:=zA1.mp h;cases h;obtain⟨e,q1,q2⟩:=qt3 h2;refine⟨λ i=>match i with | 0=>a | i+1=>e i,λ i x' y' hx hy=>?_,?_⟩
   . cases i with
     | zero =>
       have e1:x=x':=by simpa using hx
       have e2:y=y':=by simpa using hy
       subst e1;subst e2;exact h1
     | succ i=>exact q1 i x' y' (by simpa using hx) (by simpa using hy)
   rw[q2,zAk,zAk,Nat.add_min_add_right,List.range_succ_eq_map,List.all_cons,List.all_map];show _=(_&&_&&_)
   have:(xs.length+1 == ys.length+1)=(xs.length == ys.length):=by
     by_cases h:xs.length=ys.length
     . simp[h]
     simp[h]
   rw[this,<- Bool.and_assoc];rfl
section
variable{F:Addr->Prop}{H:Hp}
theorem Rep.eqF{x y:D}{A B:List Addr}{b:Bool}(r1:Rep F H v x A)(r2:Rep F H w y B)(h:LV.eqF x y=some b):flatV v=true/\flatV w=true/\eqV v w=b:=by
 unfold LV.eqF at h;cases e1:x.flat with
 | none=>rw[e1] at h;cases h
 | some v' =>
   cases e2:y.flat with
   | none=>rw[e1,e2] at h;cases h
   | some w' =>
     rw[e1,e2] at h;obtain⟨rfl,f1⟩:=r1.flat e1;obtain⟨rfl,f2⟩:=r2.flat e2;exact⟨f1,f2,Option.some.inj h⟩
theorem Rep.d0{x:D}{A:List Addr}(r:Rep F H v x A)(h:x.d0=true):∃ a,v=.ref a/\H a=some (.dK []):=by
 cases x with
 | dct z kvs =>
   cases kvs with
   | nil =>
     cases r with
     | dct e q _=>exact⟨_,rfl,by rw[e,List.map_eq_nil_iff.mp q]⟩
     | dctZ e _ q _=>exact⟨_,rfl,by rw[e,List.map_eq_nil_iff.mp q]⟩
   | cons=>cases h
 | _=>cases h
theorem Rep.eqZ{x y:D}{A B:List Addr}{b:Bool}(r1:Rep F H v x A)(r2:Rep F H w y B)(h:LV.eqZ x y=some b):(flatV v=true/\flatV w=true/\eqV v w=b)∨(b=true/\∃ a a',v=.ref a/\w=.ref a'/\H a=some (.dK [])/\H a'=some (.dK [])):=by
 unfold LV.eqZ at h;split at h
 . rename_i hd
   obtain⟨h1,h2⟩:=zAb.mp hd;obtain⟨a,e1,q1⟩:=r1.d0 h1;obtain⟨a',e2,q2⟩:=r2.d0 h2;cases h;exact .inr ⟨rfl,a,a',e1,e2,q1,q2⟩
 exact .inl (r1.eqF r2 h)
theorem qN4(n:Nat)(x y:D):(eqN (n+1) x y=LV.eqZ x y)∨(∃ z xs z' ys,x=.lst z xs/\y=.lst z' ys)∨∃ xs ys,x=.tup xs/\y=.tup ys:=by
 cases x with
 | lst z xs=>cases y with
   | lst z' ys=>exact .inr (.inl ⟨_,_,_,_,rfl,rfl⟩)
   | _=>exact .inl rfl
 | tup xs=>cases y with
   | tup ys=>exact .inr (.inr ⟨_,_,rfl,rfl⟩)
   | _=>exact .inl rfl
 | _=>exact .inl rfl
theorem qJ1(x y:D):eqN 0 x y=LV.eqZ x y:=by cases x<;>cases y<;>rfl
theorem qN5(ih:∀{v:V}{x y:D}{A B:List Addr}{b:Bool},Rep F H v x A->Rep F H v y B->eqN n x y=some b->b=true):∀{vs:List V}{xs ys:List D}{A B:List Addr}{b:Bool},Reps F H vs xs A->Reps F H vs ys B->Ey (eqN n) xs ys=some b->b=true:=by
 intro vs
 induction vs with
 | nil=>intro xs ys A B b r1 r2 h;cases r1;cases r2;cases h;rfl
 | cons v vs ihv =>
   intro xs ys A B b r1 r2 h;cases r1 with | cons p1 t1=>cases r2 with | cons p2 t2 =>
   obtain⟨a,h1,h⟩:=zA1.mp h;obtain⟨b',h2,h⟩:=zA1.mp h;cases h;rw[ih p1 p2 h1,ihv t1 t2 h2];rfl
theorem qY8:∀{n:Nat}{v:V}{x y:D}{A B:List Addr}{b:Bool},Rep F H v x A->Rep F H v y B->eqN n x y=some b->b=true:=by
 intro n
 induction n with
 | zero =>
   intro v x y A B b r1 r2 h;rw[qJ1] at h;rcases r1.eqZ r2 h with⟨f1,f2,rfl⟩ | ⟨rfl,_⟩
   . exact qt2 f1
   rfl
 | succ n ih =>
   intro v x y A B b r1 r2 h;rcases qN4 n x y with e | ⟨z,xs,z',ys,rfl,rfl⟩ | ⟨xs,ys,rfl,rfl⟩
   . rw[e] at h
     rcases r1.eqZ r2 h with⟨f1,f2,rfl⟩ | ⟨rfl,_⟩
     . exact qt2 f1
     rfl
   . obtain⟨a,vs,_,rfl,h1,q1,_⟩:=r1.lst_inv
     obtain⟨a',vs',_,e,h2,q2,_⟩:=r2.lst_inv;cases e;rw[h1] at h2;cases h2;exact qN5 ih q1 q2 h
   obtain⟨a,vs,rfl,h1,q1⟩:=r1.tup_inv;obtain⟨a',vs',e,h2,q2⟩:=r2.tup_inv;cases e;rw[h1] at h2;cases h2;exact qN5 ih q1 q2 h
theorem Reps.getV{ds:List D}{A:List Addr}(r:Reps F H vs ds A)(h:vs[n]? = some w):∃ d B,ds[n]? = some d/\Rep F H w d B:=by
 have hl:=r.len;have hn:n < vs.length:=(zA7.mp h).1;obtain⟨w',B,h1,h2,_⟩:=r.get (n:=n) (d:=ds[n]'(by lia)) (by simp);rw[h] at h1;cases h1;exact⟨_,B,by simp,h2⟩
theorem qN2{x y:D}{A B:List Addr}{b:Bool}(r1:Rep F H v x A)(r2:Rep F H w y B)(h:LV.eqZ x y=some b):EqD H n v w b:=by
 rcases r1.eqZ r2 h with⟨f1,f2,rfl⟩ | ⟨rfl,a,a',rfl,rfl,q1,q2⟩
 . exact .flat f1 f2
 by_cases ne:a=a'
 . subst ne;exact .same a
 exact .dcts ne q1 q2
theorem qN3:∀{n:Nat}{v w:V}{x y:D}{A B:List Addr}{b:Bool},Rep F H v x A->Rep F H w y B->eqN n x y=some b->EqD H n v w b:=by
 intro n
 induction n with
 | zero =>
   intro v w x y A B b r1 r2 h;rw[qJ1] at h;exact qN2 r1 r2 h
 | succ n ih =>
   intro v w x y A B b r1 r2 h;rcases qN4 n x y with e | ⟨z,xs,z',ys,rfl,rfl⟩ | ⟨xs,ys,rfl,rfl⟩
   . rw[e] at h
     exact qN2 r1 r2 h
   . obtain⟨a,vs,_,rfl,h1,q1,_⟩:=r1.lst_inv
     obtain⟨a',ws,_,rfl,h2,q2,_⟩:=r2.lst_inv;by_cases ne:a=a'
     . subst ne
       cases qY8 (n:=n+1) r1 r2 h;exact .same a
     obtain⟨e,k1,rfl⟩:=qt3 h;rw[<- q1.len,<- q2.len];by_cases hl:vs.length=ws.length
     . rw[hl,Nat.min_self,zBe,Bool.and_true,<- hl]
       refine .lsts ne h1 h2 hl λ i p q e1 e2=>?_
       obtain⟨x,_,ex,rx⟩:=q1.getV e1;obtain⟨y,_,ey,ry⟩:=q2.getV e2;exact ih rx ry (k1 i x y ex ey)
     have:(vs.length == ws.length)=false:=by simpa using hl
     rw[this,zBi];exact .lens ne h1 h2 hl
   obtain⟨a,vs,rfl,h1,q1⟩:=r1.tup_inv;obtain⟨a',ws,rfl,h2,q2⟩:=r2.tup_inv;by_cases ne:a=a'
   . subst ne
     cases qY8 (n:=n+1) r1 r2 h;exact .same a
   obtain⟨e,k1,rfl⟩:=qt3 h;rw[<- q1.len,<- q2.len];refine .tups ne h1 h2 λ i p q e1 e2=>?_
   obtain⟨x,_,ex,rx⟩:=q1.getV e1;obtain⟨y,_,ey,ry⟩:=q2.getV e2;exact ih rx ry (k1 i x y ex ey)
end
def eqT:D->D->Option Bool
 | .lst _ xs,.lst _ ys=>Ey (eqN 20) xs ys
 | .tup xs,.tup ys=>Ey (eqN 20) xs ys
 | .lst _ _,.tup _=>some false
 | .tup _,.lst _ _=>some false
 | .lst _ _,y=>y.flat.map λ _=>false
 | .tup _,y=>y.flat.map λ _=>false
 | x,.lst _ _=>x.flat.map λ _=>false
 | .dct _ _,.tup _=>some false
 | x,.tup _=>x.flat.map λ _=>false
 | x,y=>eqZ x y
theorem Rep.flatV{F:Addr->Prop}{H:Hp}{d:D}{B:List Addr}{b:Bool}(r:Rep F H v d B)(h:(d.flat.map λ _=>false)=some b):L2.flatV v=true/\b=false:=by
 cases e:d.flat with
 | none=>rw[e] at h;cases h
 | some w=>rw[e] at h;cases h;exact⟨(r.flat e).2,rfl⟩
theorem Rep.rc{F:Addr->Prop}{H:Hp}{x y:D}{A B:List Addr}{b:Bool}(r1:Rep F H v x A)(r2:Rep F H w y B)(h:eqT x y=some b):RcD H v w b:=by
 have flat:LV.eqZ x y=some b->RcD H v w b:=λ h=>by
   rcases r1.eqZ r2 h with⟨f1,f2,rfl⟩ | ⟨rfl,a,a',rfl,rfl,q1,q2⟩
   . exact .flat f1 f2
   exact .dcts q1 q2
 cases x with
 | lst z xs =>
   obtain⟨a,vs,_,rfl,h1,q1,_⟩:=r1.lst_inv;cases y with
   | lst z' ys =>
     obtain⟨a',ws,_,rfl,h2,q2,_⟩:=r2.lst_inv;obtain⟨e,k1,rfl⟩:=qt3 h;rw[<- q1.len,<- q2.len];by_cases hl:vs.length=ws.length
     . rw[hl,Nat.min_self,zBe,Bool.and_true,<- hl]
       refine .lsts h1 h2 hl λ i p q e1 e2=>?_
       obtain⟨x,_,ex,rx⟩:=q1.getV e1;obtain⟨y,_,ey,ry⟩:=q2.getV e2;exact qN3 rx ry (k1 i x y ex ey)
     have:(vs.length == ws.length)=false:=by simpa using hl
     rw[this,zBi];exact .lens h1 h2 hl
   | tup ys=>obtain⟨a',ws,rfl,h2,q2⟩:=r2.tup_inv;cases h;exact .lt h1 h2
   | _=>obtain⟨f,rfl⟩:=r2.flatV h;exact .lf h1 f
 | tup xs =>
   obtain⟨a,vs,rfl,h1,q1⟩:=r1.tup_inv;cases y with
   | tup ys =>
     obtain⟨a',ws,rfl,h2,q2⟩:=r2.tup_inv;obtain⟨e,k1,rfl⟩:=qt3 h;rw[<- q1.len,<- q2.len];refine .tups h1 h2 λ i p q e1 e2=>?_
     obtain⟨x,_,ex,rx⟩:=q1.getV e1;obtain⟨y,_,ey,ry⟩:=q2.getV e2;exact qN3 rx ry (k1 i x y ex ey)
   | lst z ys=>obtain⟨a',ws,_,rfl,h2,q2,_⟩:=r2.lst_inv;cases h;exact .tl h1 h2
   | _=>obtain⟨f,rfl⟩:=r2.flatV h;exact .tf h1 f
 | dct z kvs =>
   cases y with
   | lst z ys=>cases h
   | tup ys =>
     obtain⟨a',ws,rfl,h2,q2⟩:=r2.tup_inv;cases h;cases r1 with
     | dct e _ _=>exact .dt e h2
     | dctZ e _ _ _=>exact .dt e h2
   | _=>exact flat h
 | _ =>
   cases y with
   | lst z ys=>obtain⟨a',ws,_,rfl,h2,q2,_⟩:=r2.lst_inv;obtain⟨f,rfl⟩:=r1.flatV h;exact .fl h2 f
   | tup ys=>obtain⟨a',ws,rfl,h2,q2⟩:=r2.tup_inv;obtain⟨f,rfl⟩:=r1.flatV h;exact .ft h2 f
   | _=>exact flat h
def gEq(x y:D):Option D:=(eqT x y).map .bl
def gNe(x y:D):Option D:=(eqT x y).map λ b=>.bl (!b)
theorem Bd:Ay true rEqD gEq:=by
 intro F H v w x y B d Q r h q;cases r with | @cons _ _ A _ _ _ r1 t=>cases t with | @cons _ _ A2 _ _ _ r2 _ =>
 obtain⟨b,e,rfl⟩:=zAm.mp h;exact⟨b,r1.rc r2 e,q _ H [] (.bl _) (λ _ _ z=>z) New.nil⟩
theorem Bu:Ay true rNeD gNe:=by
 intro F H v w x y B d Q r h q;cases r with | @cons _ _ A _ _ _ r1 t=>cases t with | @cons _ _ A2 _ _ _ r2 _ =>
 obtain⟨b,e,rfl⟩:=zAm.mp h;exact⟨b,r1.rc r2 e,q _ H [] (.bl _) (λ _ _ z=>z) New.nil⟩
def flats:List D->Option (List V)
 | []=>some []
 | d::r=>d.flat.bind λ v=>(flats r).bind λ vs=>some (v::vs)
theorem Reps.flats{F:Addr->Prop}{H:Hp}:∀{vs ws:List V}{ds:List D}{A:List Addr},Reps F H vs ds A->LV.flats ds=some ws->vs=ws/\vs.all L2.flatV=true
 | _,_,_,_,.nil,h=>by cases h;exact⟨rfl,rfl⟩
 | _,_,_,_,.cons r t,h=>by
   obtain⟨v,h1,h⟩:=zA1.mp h;obtain⟨vs,h2,h⟩:=zA1.mp h;cases h;obtain⟨rfl,f⟩:=r.flat h1;obtain⟨rfl,g⟩:=t.flats h2;exact⟨rfl,by rw[List.all_cons,f,g];rfl⟩
def gInB(neg:Bool)(x y:D):Option D:=x.flat.bind λ v=>y.elems.bind λ ys=>(flats ys).bind λ ws=>some (.bl (if neg then !inV v ws else inV v ws))
theorem os_in{K:PySem.W.Frag}{neg:Bool}:Ay true (rIn K neg) (gInB neg):=by
 intro F H v w x y B d Q r h q;cases r with | @cons _ _ A _ _ _ r1 t=>cases t with | @cons _ _ A2 _ _ _ r2 _ =>
 obtain⟨v',h1,h⟩:=zA1.mp h;obtain⟨ys,h2,h⟩:=zA1.mp h;obtain⟨ws,h3,h⟩:=zA1.mp h;cases h;obtain⟨rfl,f⟩:=r1.flat h1;obtain⟨a,vs,A3,rfl,hs,rs,_⟩:=r2.elems (K:=K) h2;obtain⟨rfl,g⟩:=rs.flats h3;exact⟨a,vs,rfl,hs,f,g,q _ H [] (.bl _) (λ _ _ z=>z) New.nil⟩
def gIx(x y:D):Option D:=match y with
 | .int i=>x.elems.bind λ ys=>atI ys i
 | _=>none
theorem Aj{K:PySem.W.Frag}:Ay false (rIx K) gIx:=by
 intro F H v w x y B d Q r h q;cases r with | @cons _ _ A _ _ _ r1 t=>cases t with | @cons _ _ A2 _ _ _ r2 _ =>
 cases y with
 | int i =>
   obtain⟨ys,h2,h⟩:=zA1.mp h;cases r2;obtain⟨a,vs,A3,rfl,hs,rs,hc⟩:=r1.elems (K:=K) h2;obtain⟨w',B',hw,rw',hb⟩:=rs.atI h;have key:=q w' H B' rw' (λ _ _ z=>z) (by
     rw[if_neg (by decide)];exact λ b=>.inl (by rw[zA0];have:=hb b;have:=hc b;lia))
   rcases hs with hs | hs
   . exact .inl ⟨a,vs,i,w',rfl,rfl,hs,hw,key⟩
   exact .inr (.inl ⟨a,vs,i,w',rfl,rfl,hs,hw,key⟩)
 | _=>cases h
section
variable{F:Addr->Prop}{H:Hp}
theorem Reps.one_inv{x:D}{B:List Addr}(r:Reps F H vs [x] B):∃ v,vs=[v]/\Rep F H v x B:=by
 cases r with | cons h t=>cases t;exact⟨_,rfl,by rw[zA9];exact h⟩
theorem Reps.two_inv{x y:D}{B:List Addr}(r:Reps F H vs [x,y] B):∃ v w A C,vs=[v,w]/\Rep F H v x A/\Rep F H w y C/\∀ b,B.count b=A.count b+C.count b:=by
 cases r with | cons h t=>cases t with | cons h' t=>cases t;exact⟨_,_,_,_,rfl,h,h',λ b=>by simp[zA0]⟩
end
def fx1(g:D->Option D):Ds->Option D
 | [x]=>g x
 | _=>none
def fx2(g:D->D->Option D):Ds->Option D
 | [x,y]=>g x y
 | _=>none
def CS1(nw:Bool)(r:List V->Hp->VK->Prop)(g:D->Option D):Prop:=∀ F H v x B d (Q:VK),Rep F H v x B->g x=some d ->
 (∀ v H' B',Rep F H' v d B'->Same H H'->(if nw=true then New H B' else Sub H B B')->Q v H')->r [v] H Q
theorem CS1.ops{nw:Bool}{r:List V->Hp->VK->Prop}{g:D->Option D}(h:CS1 nw r g):OpS nw r (fx1 g):=by
 intro F H vs xs B d Q r e q
 match xs,e with
 | [x],e =>
   obtain⟨v,rfl,r'⟩:=r.one_inv;exact h F H v x B d Q r' e q
def Gr(x:D):Option D:=match x with
 | .str z=>gd (z.length<=big) (.int z.length)
 | .dct _ kvs=>some (.int kvs.length)
 | x=>x.elems.map λ ys=>.int ys.length
def Ig(K:PySem.W.Frag):List V->Hp->VK->Prop:=λ xs H Q=>(∃ p ys,xs=[.ref p]/\(SqL K H p ys∨SqT K H p ys)/\Q (.int ys.length) H)∨(∃ z,xs=[.str z]/\z.length<=sizeLine/\Q (.int z.length) H)∨(∃ a kvs,xs=[V.ref a]/\H a=some (.dK kvs)/\Q (.int kvs.length) H)
theorem qB3{X:Cx}:CallR X (.builtin "len") (Ig X.K):=qJ5.or (qJ4.or qag1)
theorem qB2{K:PySem.W.Frag}:CS1 true (Ig K) Gr:=by
 intro F H v x B d Q r h q;have seq:∀ ys,x.elems=some ys->d=.int ys.length->Ig K [v] H Q:=λ ys e hd=>by
   subst hd;obtain⟨a,vs,A,rfl,hs,rs,_⟩:=r.elems (K:=K) e;refine .inl ⟨a,vs,rfl,hs,?_⟩;rw[rs.len];exact q _ H [] (.int _) (λ _ _ z=>z) New.nil
 cases x with
 | str z=>obtain⟨hl,rfl⟩:=qm3 h;cases r;exact .inr (.inl ⟨z,rfl,zAl hl qf3,q _ H [] (.int _) (λ _ _ z=>z) New.nil⟩)
 | dct z kds =>
   cases h;obtain⟨a,kvs,A,rfl,hs,e,rs,_⟩:=r.dct_inv;refine .inr (.inr ⟨a,kvs,rfl,hs,?_⟩)
   have:kvs.length=kds.length:=by have:=congrArg List.length e;simpa using this
   rw[this];exact q _ H [] (.int _) (λ _ _ z=>z) New.nil
 | lst z ys=>cases h;exact seq ys rfl rfl
 | tup ys=>cases h;exact seq ys rfl rfl
 | _=>cases h
def gInt:D->Option D
 | .int i=>some (.int i)
 | .bl b=>some (.int (if b then 1 else 0))
 | _=>none
theorem qaM8:CS1 true (λ xs H Q=>(∃ i,xs=[.int i]/\Q (.int i) H)∨∃ k,xs=[.bl k]/\Q (.int (if k then 1 else 0)) H) gInt:=by
 intro F H v x B d Q r h q;cases x with
 | int i=>cases h;cases r;exact .inl ⟨i,rfl,q _ H [] (.int _) (λ _ _ z=>z) New.nil⟩
 | bl i=>cases h;cases r;exact .inr ⟨i,rfl,q _ H [] (.int _) (λ _ _ z=>z) New.nil⟩
 | _=>cases h
def Ih(x:D):Option D:=x.elems.bind λ ys=>gd (D.imms ys=true) (.lst false ys)
theorem qx3{K:PySem.W.Frag}:CS1 true (λ xs H Q=>∃ p ys,xs=[.ref p]/\(SqL K H p ys∨SqT K H p ys)/\∀ l,H l=none->Q (.ref l) (upd H l (.lst ys))) Ih:=by
 intro F H v x B d Q r h q;obtain⟨ys,e,h⟩:=zA1.mp h;obtain⟨hm,rfl⟩:=qm3 h;obtain⟨a,vs,A,rfl,hs,rs,_⟩:=r.elems (K:=K) e;exact⟨a,vs,rfl,hs,λ p hp=>q _ _ [p] (qw5 hp (rs.imms0 hm)) (Same.new hp) (qf5 hp)⟩
def qaL9(x:D):Option D:=match x with
 | .lst _ ys=>gd (D.imms ys=true) (.tup ys)
 | .tup ys=>gd (D.imms ys=true) (.tup ys)
 | _=>none
theorem qat1{K:PySem.W.Frag}:CS1 true (λ xs H Q=>∃ p ys,xs=[.ref p]/\((SqL K H p ys/\∀ l,H l=none->Q (.ref l) (upd H l (.tup ys)))∨(SqT K H p ys/\Q (.ref p) H))) qaL9:=by
 intro F H v x B d Q r h q;cases x with
 | lst z ys =>
   obtain⟨hm,rfl⟩:=qm3 h;obtain⟨a,vs,A,rfl,hs,rs,_⟩:=r.lst_inv;exact⟨a,vs,rfl,.inl ⟨.inl (.inl hs),λ p hp=>q _ _ [] (qL1 hp (rs.imms0 hm)) (Same.new hp) New.nil⟩⟩
 | tup ys =>
   obtain⟨hm,rfl⟩:=qm3 h;obtain⟨a,vs,rfl,hs,rs⟩:=r.tup_inv;exact⟨a,vs,rfl,.inr ⟨.inl (.inl hs),q _ _ [] (.tup hs (rs.imms0 hm)) (λ _ _ z=>z) New.nil⟩⟩
 | _=>cases h
def pairK:D->Option (Key×D)
 | .tup [.int k,x]=>if x.imm=true then some (.inl k,x) else none
 | .tup [.str k,x]=>if x.imm=true then some (.inr k,x) else none
 | _=>none
def qP6:List D->Option (List (Key×D))
 | []=>some []
 | d::r=>(pairK d).bind λ p=>(qP6 r).bind λ ps=>some (p::ps)
def E3(kvs:List (Key×D))(k:Key)(v:D):List (Key×D) :=
 if (kvs.any λ kv=>decide (kv.1=k))=true then kvs.map (λ kv=>if kv.1=k then (kv.1,v) else kv) else kvs++[(k,v)]
def qp1(kvs more:List (Key×D)):List (Key×D):=more.foldl (λ acc kv=>E3 acc kv.1 kv.2) kvs
abbrev KP(F:Addr->Prop)(H:Hp)(kvs:List (Key×V))(kds:List (Key×D)):Prop:=Paired (λ(p:Key×V)(q:Key×D)=>p.1=q.1/\Rep F H p.2 q.2 []) kvs kds
section
variable{F:Addr->Prop}{H:Hp}
theorem KP.maps{kds:List (Key×D)}(h:KP F H kvs kds):kvs.map (·.1)=kds.map (·.1)/\Reps F H (kvs.map (·.2)) (kds.map (·.2)) []:=by
 induction h with
 | nil=>exact⟨rfl,.nil⟩
 | cons a _ ih=>exact⟨by rw[zAz,zAz,a.1,ih.1],.cons (A:=[]) (B:=[]) a.2 ih.2⟩
theorem KP.any{kds:List (Key×D)}(h:KP F H kvs kds)(k:Key):(kvs.any λ kv=>decide (kv.1=k))=kds.any λ kv=>decide (kv.1=k):=by
 induction h with
 | nil=>rfl
 | cons a _ ih=>rw[List.any_cons,List.any_cons,a.1,ih]
theorem KP.append{kvs':List (Key×V)}{kds kds':List (Key×D)}(h:KP F H kvs kds)(h':KP F H kvs' kds'):KP F H (kvs++kvs') (kds++kds'):=by
 induction h with
 | nil=>exact h'
 | cons a _ ih=>exact .cons a ih
theorem KP.mapk{kds:List (Key×D)}(h:KP F H kvs kds){k:Key}{d:D}(r:Rep F H v d []):KP F H (kvs.map λ kv=>if kv.1=k then (kv.1,v) else kv) (kds.map λ kv=>if kv.1=k then (kv.1,d) else kv):=by
 induction h with
 | nil=>exact .nil
 | @cons p q _ _ a _ ih =>
   refine .cons ?_ ih;show (if p.1=k then (p.1,v) else p).1=(if q.1=k then (q.1,d) else q).1/\Rep F H (if p.1=k then (p.1,v) else p).2 (if q.1=k then (q.1,d) else q).2 [];rw[<- a.1];split
   . exact⟨rfl,r⟩
   exact a
theorem KP.put{kds:List (Key×D)}(h:KP F H kvs kds){k:Key}{d:D}(r:Rep F H v d []):KP F H (putK kvs k v) (E3 kds k d):=by
 unfold putK E3;rw[h.any k];split
 . exact h.mapk r
 exact h.append (.cons ⟨rfl,r⟩ .nil)
theorem KP.merge{more:List (Key×V)}{mored:List (Key×D)}(h:KP F H more mored):∀{kvs:List (Key×V)}{kds:List (Key×D)},KP F H kvs kds->KP F H (qv2 kvs more) (qp1 kds mored):=by
 induction h with
 | nil=>exact λ h=>h
 | @cons p q _ _ a _ ih =>
   intro kvs kds h
   have:=ih (h.put (k:=p.1) a.2)
   rw[a.1] at this;show KP F H (qv2 (putK kvs p.1 p.2) _) (qp1 (E3 kds q.1 q.2) _);rw[a.1];exact this
theorem qao6{ds:Ds}{A:List Addr}{ps:List (Key×D)}(r:Reps F H vs ds A)(h:qP6 ds=some ps):∃ kvs,qak4 H vs kvs/\KP F H kvs ps:=by
 induction ds generalizing vs A ps with
 | nil=>cases r;cases h;exact⟨[],.nil,.nil⟩
 | cons d ds ih =>
   cases r with
   | cons r1 t =>
     obtain⟨p,h1,h⟩:=zA1.mp h;obtain⟨ps,h2,h⟩:=zA1.mp h;cases h;obtain⟨kvs,q1,q2⟩:=ih t h2;unfold pairK at h1;split at h1
     . rename_i k x
       split at h1
       . rename_i hm
         cases h1;obtain⟨a,ws,rfl,ha,rw'⟩:=r1.tup_inv;obtain⟨w1,w2,A1,A2,rfl,r1',r2',_⟩:=rw'.two_inv;cases r1'
         have:=r2'.imm hm
         subst this;exact⟨(.inl k,w2)::kvs,.cons ⟨a,rfl,ha⟩ q1,.cons ⟨rfl,r2'⟩ q2⟩
       cases h1
     . rename_i k x
       split at h1
       . rename_i hm
         cases h1;obtain⟨a,ws,rfl,ha,rw'⟩:=r1.tup_inv;obtain⟨w1,w2,A1,A2,rfl,r1',r2',_⟩:=rw'.two_inv;cases r1'
         have:=r2'.imm hm
         subst this;exact⟨(.inr k,w2)::kvs,.cons ⟨a,rfl,ha⟩ q1,.cons ⟨rfl,r2'⟩ q2⟩
       cases h1
     cases h1
theorem qaz6{p:Addr}{kds:List (Key×D)}(hp:H p=none)(r:KP F H kvs kds):Rep F (upd H p (.dK kvs)) (.ref p) (.dct false kds) [p]:=.dct qb1 r.maps.1 (r.maps.2.same (Same.new hp))
end
def G4(x:D):Option D:=match x with
 | .lst _ ys=>(qP6 ys).map λ ps=>.dct false (qp1 [] ps)
 | _=>none
theorem qaj9:CS1 true qaw4 G4:=by
 intro F H v x B d Q r h q;cases x with
 | lst z ys =>
   obtain⟨ps,h1,rfl⟩:=zAm.mp h;obtain⟨a,vs,A,rfl,hs,rs,_⟩:=r.lst_inv;obtain⟨kvs,q1,q2⟩:=qao6 rs h1;exact⟨a,vs,kvs,rfl,hs,q1,λ p hp=>q _ _ [p] (qaz6 hp (q2.merge .nil)) (Same.new hp) (qf5 hp)⟩
 | _=>cases h
def D.kind:D->Option String
 | .non=>some "NoneType" | .bl _=>some "bool" | .int _=>some "int" | .str _=>some "str" | .lst _ _=>some "list" | .tup _=>some "tuple" | .dct _ _=>some "dict"
 | _=>none
theorem Rep.kind{F:Addr->Prop}{H:Hp}{d:D}{B:List Addr}{t:String}(r:Rep F H v d B)(h:d.kind=some t):Dz H v=some t:=by
 cases r with
 | tup e _=>cases h;exact qaq9 e
 | lst e _=>cases h;exact qW7 e
 | lstZ e _ _=>cases h;exact qW7 e
 | dct e _ _=>cases h;exact qaj1 e
 | dctZ e _ _ _=>cases h;exact qaj1 e
 | _=>cases h<;>rfl
def isTy(n:String):Bool:=n == "bool" || n == "int" || n == "str" || n == "list" || n == "tuple" || n == "dict"
def gIsi(x y:D):Option D:=match y with
 | .ty n=>if isTy n=true then x.kind.map λ t=>.bl (Hx t n) else none
 | _=>none
def CS2(nw:Bool)(r:List V->Hp->VK->Prop)(g:D->D->Option D):Prop:=∀ F H v w x y A B d (Q:VK),Rep F H v x A->Rep F H w y B->g x y=some d ->
 (∀ v H' B',Rep F H' v d B'->Same H H'->(if nw=true then New H B' else Sub H (A++B) B')->Q v H')->r [v,w] H Q
theorem CS2.ops{nw:Bool}{r:List V->Hp->VK->Prop}{g:D->D->Option D}(h:CS2 nw r g):OpS nw r (fx2 g):=by
 intro F H vs xs B d Q r e q
 match xs,e with
 | [x,y],e =>
   obtain⟨v,w,A,C,rfl,r1,r2,hc⟩:=r.two_inv;refine h F H v w x y A C d Q r1 r2 e λ u H' B' ru s hn=>q u H' B' ru s ?_
   cases nw with
   | true=>exact hn
   | false =>
     rw[if_neg (by decide)] at hn ⊢;exact λ b=>(hn b).imp (λ z=>by rw[zA0] at z;have:=hc b;lia) id
theorem qE1:CS2 true rIsi gIsi:=by
 intro F H v w x y A B d Q r1 r2 e q;cases y with
 | ty n =>
   cases r2;have e:(if isTy n=true then x.kind.map λ t=>D.bl (Hx t n) else none)=some d:=e;by_cases hn:isTy n=true
   . rw[if_pos hn] at e
     obtain⟨t,ht,rfl⟩:=zAm.mp e;refine⟨v,n,t,rfl,r1.kind ht,?_,q _ H [] (.bl _) (λ _ _ z=>z) New.nil⟩;simp only[isTy,Bool.or_eq_true,zBf] at hn;simp only[zAc,zAy,zC1];rcases hn with ((((h | h) | h) | h) | h) | h
     . exact .inl h
     . exact .inr (.inl h)
     . exact .inr (.inr (.inl h))
     . exact .inr (.inr (.inr (.inl h)))
     . exact .inr (.inr (.inr (.inr (.inl h))))
     exact .inr (.inr (.inr (.inr (.inr h))))
   rw[if_neg hn] at e;cases e
 | _=>cases e
def D.isC(C:Addr)(x:D):Option D:=match x with
 | .ins _ C' _=>if C'=C then some (.bl true) else none
 | x=>x.kind.map λ _=>.bl false
def gIsO(C:Addr)(x y:D):Option D:=match y with
 | .adr a=>if a=C then x.isC C else none
 | _=>none
theorem qaM7{C:Addr}:CS2 true (rIsO C) (gIsO C):=by
 intro F H v w x y A B d Q r1 r2 e q;cases y with
 | adr a =>
   cases r2;have e:(if a=C then x.isC C else none)=some d:=e;by_cases hc:a=C
   . rw[if_pos hc] at e
     subst hc;have kind:(x.kind.map λ _=>D.bl false)=some d->rIsO a [v,.ref a] H Q:=λ e=>by
       obtain⟨t,ht,rfl⟩:=zAm.mp e;exact⟨_,rfl,.inr ⟨t,r1.kind ht,q _ H [] (.bl _) (λ _ _ z=>z) New.nil⟩⟩
     cases x with
     | ins z C' fs =>
       have e2:(if C'=a then some (D.bl true) else none)=some d:=e;by_cases hc:C'=a
       . rw[if_pos hc] at e2
         cases e2;subst hc;obtain⟨p,dx,fvs,_,rfl,h,_,_,_⟩:=r1.ins_inv;exact⟨_,rfl,.inl ⟨p,dx,fvs,rfl,h,q _ H [] (.bl _) (λ _ _ z=>z) New.nil⟩⟩
       rw[if_neg hc] at e2;cases e2
     | _=>exact kind e
   rw[if_neg hc] at e;cases e
 | _=>cases e
def gMax2:D->D->Option D
 | .int i,.int j=>some (.int (if j > i then j else i))
 | _,_=>none
def bools:List D->Option (List Bool)
 | []=>some []
 | .bl b::r=>(bools r).map λ bs=>b::bs
 | _=>none
theorem Reps.bools{F:Addr->Prop}{H:Hp}:∀{vs:List V}{ds:List D}{A:List Addr}{bs:List Bool},Reps F H vs ds A->LV.bools ds=some bs->vs=bs.map V.bl:=by
 intro vs ds
 induction ds generalizing vs with
 | nil=>intro A bs r h;cases r;cases h;rfl
 | cons d ds ih =>
   intro A bs r h;cases r with
   | cons r1 t =>
     cases d with
     | bl b =>
       obtain⟨bs',h1,rfl⟩:=zAm.mp h;cases r1;rw[ih t h1];rfl
     | _=>cases h
def gAll(x:D):Option D:=match x with
 | .lst _ ys=>(bools ys).map λ bs=>.bl (bs.all id)
 | _=>none
theorem qaE2{K:PySem.W.Frag}:CS1 true (λ xs H Q=>∃(a:Addr)(bs:List Bool),xs=[.ref a]/\SqL K H a (bs.map V.bl)/\Q (.bl (bs.all id)) H) gAll:=by
 intro F H v x B d Q r h q;cases x with
 | lst z ys =>
   obtain⟨bs,h1,rfl⟩:=zAm.mp h;obtain⟨a,vs,A,rfl,hs,rs,_⟩:=r.lst_inv;cases rs.bools h1;exact⟨a,bs,rfl,.inl (.inl hs),q _ H [] (.bl _) (λ _ _ z=>z) New.nil⟩
 | _=>cases h
def intsD:List D->Option (List Int)
 | []=>some []
 | .int i::r=>(intsD r).map λ is=>i::is
 | _=>none
theorem Reps.intsD{F:Addr->Prop}{H:Hp}:∀{vs:List V}{ds:List D}{A:List Addr}{bs:List Int},Reps F H vs ds A->LV.intsD ds=some bs->vs=bs.map V.int:=by
 intro vs ds
 induction ds generalizing vs with
 | nil=>intro A bs r h;cases r;cases h;rfl
 | cons d ds ih =>
   intro A bs r h;cases r with
   | cons r1 t =>
     cases d with
     | int b =>
       obtain⟨bs',h1,rfl⟩:=zAm.mp h;cases r1;rw[ih t h1];rfl
     | _=>cases h
def B7(xs:List D)(lo hi:Option Int):List D:=(xs.drop (HT.sIx xs.length 0 lo)).take (HT.sIx xs.length xs.length hi - HT.sIx xs.length 0 lo)
def gSl(x:D)(lo hi:Option Int):Option D:=match x with
 | .lst _ ys=>gd (D.imms (B7 ys lo hi)=true) (.lst false (B7 ys lo hi))
 | .scr ns=>some (.lst false ((ns.drop (HT.sIx ns.length 0 lo)).take (HT.sIx ns.length ns.length hi - HT.sIx ns.length 0 lo) |>.map .int))
 | .tup ys=>gd (D.imms (B7 ys lo hi)=true/\(B7 ys lo hi).length < ys.length) (.tup (B7 ys lo hi))
 | _=>none
theorem qz0{F:Addr->Prop}{H:Hp}:∀ ns:List Int,Reps F H (ns.map V.int) (ns.map D.int) []
 | []=>.nil
 | n::r=>.cons (A:=[]) (B:=[]) (.int n) (qz0 r)
theorem os_sl{K:PySem.W.Frag}{F:Addr->Prop}{H:Hp}{x d:D}{lo hi:Option Int}{B:List Addr}(r:Rep F H v x B)(h:gSl x lo hi=some d)(hx:∀ ys,x≠.tup ys)(q:∀ v H' B',Rep F H' v d B'->Same H H'->New H B'->Q v H'):rSlL K v lo hi H Q:=by
 cases x with
 | lst z ys =>
   obtain⟨hm,rfl⟩:=qm3 h;obtain⟨a,vs,A,rfl,hs,rs,_⟩:=r.lst_inv;refine⟨a,vs,rfl,.inl (.inl hs),λ p hp=>q _ _ [p] (qw5 hp ?_) (Same.new hp) (qf5 hp)⟩;obtain⟨B',h1,h2⟩:=rs.sub (HT.sIx ys.length 0 lo) (HT.sIx ys.length ys.length hi - HT.sIx ys.length 0 lo);unfold F4;rw[rs.len];exact h1.imms0 hm
 | scr ns =>
   cases h;cases r with
   | scr e =>
     refine⟨_,_,rfl,.inl (.inr ⟨_,e⟩),λ p hp=>q _ _ [p] (qw5 hp ?_) (Same.new hp) (qf5 hp)⟩;unfold F4;rw[<- List.map_drop,<- List.map_take,zAe];exact qz0 _
 | tup ys=>exact absurd rfl (hx ys)
 | _=>cases h
def D.fld(C:Addr)(f:Str):D->Option D
 | .ins _ C' fs=>if C'=C then fs.lookup f else none
 | _=>none
theorem qW4{F:Addr->Prop}{H:Hp}:∀{fvs:List (Str×V)}{fds:List (Str×D)}{A:List Addr}{f:Str}{d:D},fvs.map (·.1)=fds.map (·.1)->Reps F H (fvs.map (·.2)) (fds.map (·.2)) A->fds.lookup f=some d->∃ v B,fvs.lookup f=some v/\Rep F H v d B/\∀ b,B.count b<=A.count b:=by
 intro fvs
 induction fvs with
 | nil=>intro fds A f d e r h;cases fds with
   | nil=>cases h
   | cons _ _=>simp at e
 | cons p fvs ih =>
   intro fds A f d e r h;cases fds with
   | nil=>simp at e
   | cons q fds =>
     obtain⟨k,v⟩:=p;obtain⟨k',d'⟩:=q;have e1:k=k':=by simp at e;exact e.1
     have e2:fvs.map (·.1)=fds.map (·.1):=by simp at e;simpa using e.2
     subst e1;cases r with
     | @cons _ _ A1 _ _ A2 r1 t =>
       rw[zAq] at h ⊢;cases hb:f == k with
       | true=>rw[hb] at h;cases h;exact⟨v,A1,rfl,r1,λ b=>by rw[zA0];lia⟩
       | false =>
         rw[hb] at h;obtain⟨w,B,h1,h2,h3⟩:=ih e2 t h;exact⟨w,B,h1,h2,λ b=>by rw[zA0];have:=h3 b;lia⟩
theorem qaI2{K:PySem.W.Frag}{C:Addr}{f:Str}(c:Cls K C)(n:qd5 K C f):OpS1 false (λ x H Q=>∃ a C dx fs v,x=.ref a/\H a=some (.ins C dx fs)/\Cls K C/\qd5 K C f/\fs.lookup f=some v/\Q v H) (D.fld C f):=by
 intro F H v x B d Q r h q;cases x with
 | ins z C' fs =>
   have h2:(if C'=C then fs.lookup f else none)=some d:=h;by_cases hc:C'=C
   . rw[if_pos hc] at h2
     subst hc;obtain⟨a,dx,fvs,A,rfl,ha,e,rs,hcnt⟩:=r.ins_inv;obtain⟨w,B',h3,h4,h5⟩:=qW4 e rs h2;refine⟨a,C',dx,fvs,w,rfl,ha,c,n,h3,q w H B' h4 (λ _ _ z=>z) ?_⟩;rw[if_neg (by decide)];exact λ b=>.inl (by have:=h5 b;have:=hcnt b;lia)
   rw[if_neg hc] at h2;cases h2
 | _=>cases h
def D.key:D->Option Key
 | .int i=>some (.inl i)
 | .str x=>some (.inr x)
 | _=>none
def Eb(kds:List (Key×D))(k:Key):Option D:=(kds.find? λ kv=>decide (kv.1=k)).map (·.2)
theorem Rep.key{F:Addr->Prop}{H:Hp}{x:D}{B:List Addr}{k:Key}(r:Rep F H v x B)(h:x.key=some k):v=kV k:=by
 cases r<;>cases h<;>rfl
theorem qau5{F:Addr->Prop}{H:Hp}:∀{kvs:List (Key×V)}{kds:List (Key×D)}{A:List Addr}(k:Key),kvs.map (·.1)=kds.map (·.1)->Reps F H (kvs.map (·.2)) (kds.map (·.2)) A ->
   (Eb kds k=none/\Ew kvs k=none)∨∃ v d B,Eb kds k=some d/\Ew kvs k=some v/\Rep F H v d B/\∀ b,B.count b<=A.count b:=by
 intro kvs
 induction kvs with
 | nil=>intro kds A k e r;cases kds with
   | nil=>exact .inl ⟨rfl,rfl⟩
   | cons _ _=>simp at e
 | cons p kvs ih =>
   intro kds A k e r;cases kds with
   | nil=>simp at e
   | cons q kds =>
     obtain⟨k1,v⟩:=p;obtain⟨k2,d⟩:=q;have e1:k1=k2:=by simp at e;exact e.1
     have e2:kvs.map (·.1)=kds.map (·.1):=by simp at e;simpa using e.2
     subst e1;cases r with
     | @cons _ _ A1 _ _ A2 r1 t =>
       by_cases hk:k1=k
       . exact .inr ⟨v,d,A1,by simp[Eb,hk],qF1 hk,r1,λ b=>by rw[zA0];lia⟩
       have h1:Eb ((k1,d)::kds) k=Eb kds k:=by simp[Eb,zBq,hk]
       rw[h1,qF2 (p:=(k1,v)) hk];rcases ih k e2 t with h | ⟨w,d',B,h2,h3,h4,h5⟩
       . exact .inl h
       exact .inr ⟨w,d',B,h2,h3,h4,λ b=>by rw[zA0];have:=h5 b;lia⟩
section
variable{c:Vc}{X:Cx}{a b e:Expr}{oa ob own nw:Bool}{fa fb f:FV}{r:R2}{g:D->D->Option D}{ta tb t:VT}{pos:Pos}
theorem vnm(i:Nat){x:Str}(hN:X.N[i]? = some x:=by rfl)(hv:Vis X.env.scope x:=by first | exact Or.inl rfl | exact Or.inr (Or.inl rfl) | exact Or.inr (Or.inr rfl))(hd:(x == ("__debug__" : Str))=false:=by decide)(hcd:(x == ("__classdict__" : Str))=false:=by decide) :
   VV c X (.Name x pos) false (rdN i):=qau2 (qq0 hN hv hd hcd) (qo3 hN)
def kC(d:D):FV:=λ _=>some d
theorem Ac{i:Int}:VV c X (.Constant (.int i) j pos) true (kC (.int i)):=Fs qC5 λ _ _=>.int _
theorem vbl{i:Bool}:VV c X (.Constant (.bool i) j pos) true (kC (.bl i)):=Fs pe_bl λ _ _=>.bl _
theorem Bl:VV c X (.Constant .none j pos) true (kC .non):=Fs qaH7 λ _ _=>.non
theorem vstr{i:Str}:VV c X (.Constant (.str i) j pos) true (kC (.str i)):=Fs qaH4 λ _ _=>.str _
theorem vgi{x:Str}{n:Int}{k:Tok}(hm:X.mg x=some (.int n k))(hg:Gl X x:=by rfl)(hd:(x == ("__debug__" : Str))=false:=by decide):VV c X (.Name x pos) true (kC (.int n)):=Fs (qay1 hm hg hd) λ _ _=>.int _
theorem vcls{x:Str}(C:Addr)(hm:X.mg x=some (.ref C))(hg:Gl X x:=by rfl)(hd:(x == ("__debug__" : Str))=false:=by decide):VV c X (.Name x pos) true (kC (.adr C)):=Fs (qaH5 C hm hg hd) λ _ _=>.adr _
theorem vty{x:Str}(n:String)(hm:X.mg x=none)(hg:Gl X x:=by rfl)(hv:bootBuiltins x=some (.type n):=by rfl)(hn:x ≠ "__name__" := by decide)(hd:(x == ("__debug__" : Str))=false:=by decide):VV c X (.Name x pos) true (kC (.ty n)):=Fs (qaH9 n hm hg hv hn hd) λ _ _=>.ty _
theorem Hh{i j:Int}(k:Int){m:Nat}{p q:Pos}(hk:i ^ j.toNat=k:=by decide)(h0:0<=j:=by decide)(h1:j<=1000000:=by decide)(h2:i.natAbs < 2 ^ 64:=by decide):VV c X (.BinOp (.Constant (.int i) m p) .Pow (.Constant (.int j) n q) pos) true (kC (.int k)):=Fs (qax6 k hk h0 h1 h2) λ _ _=>.int _
def P2(X:Cx)(e a b:Expr)(r:R2):Prop:=∀ ta tb,PE X a ta->PE X b tb->PE X e (tOp r ta tb)
def T2(X:Cx)(e a b:Expr)(r:R2):Prop:=∀ ta tb,PE X a ta->PE X b tb->PT X e (Hs (tOp r ta tb))
theorem Ag{op:Operator}(ho:OpR X (binaryOp op) r):P2 X (.BinOp a op b pos) a b r:=λ _ _ ha hb=>pe_op ho ha hb
theorem Au(ho:OpR X (compareOp op) r)(hm:behindInMarks op b=false):P2 X (.Compare a [op] [b] pos) a b r:=λ _ _ ha hb=>qay2 ho ha hb hm
theorem Ap(ho:OpR X (compareOp op) r)(hm:behindInMarks op b=false):T2 X (.Compare a [op] [b] pos) a b r:=λ _ _ ha hb=>qaw7 ho ha hb hm
theorem As(ho:IxR X r)(hs:qO7 b:=by exact λ _ _=>rfl):P2 X (.Subscript a b pos) a b r:=λ _ _ ha hb=>Hu ho ha hb hs
theorem v2(p:P2 X e a b r)(h:Ay nw r g)(ha:VV c X a oa fa)(hb:VV c X b ob fb):VV c X e (nw||(oa&&ob)) (f2 g fa fb):=⟨PE.mono (p _ _ ha.h hb.h) (op_vv h)⟩
theorem e2(p:P2 X e a b r)(h:Ay true r g)(ha:VE c X a ta)(hb:VE c X b tb):VE c X e (t2 g ta tb):=⟨PE.mono (p _ _ ha.h hb.h) (op_ee ha hb h),qav4 ha hb⟩
theorem e2v(p:P2 X e a b r)(h:Ay true r g)(ha:VE c X a ta)(hb:VV c X b ob fb):VE c X e (t2v g ta fb):=⟨PE.mono (p _ _ ha.h hb.h) (op_ev ha h),qal4 ha⟩
theorem e2vP(p:P2 X e a b r)(h:Ay false r g)(ha:VE c X a ta)(hb:VV c X b ob fb):VE c X e (Id g ta fb):=⟨PE.mono (p _ _ ha.h hb.h) (qaI8 ha h),qaa9 ha⟩
theorem e2n(i:Nat){x:Str}{p0:Pos}(p:P2 X e (.Name x p0) b r)(h:Ay true r g)(hb:VE c X b tb)(hN:X.N[i]? = some x:=by rfl)(hv:Vis X.env.scope x:=by first | exact Or.inl rfl | exact Or.inr (Or.inl rfl) | exact Or.inr (Or.inr rfl))(hd:(x == ("__debug__" : Str))=false:=by decide)(hcd:(x == ("__classdict__" : Str))=false:=by decide) :
   VE c X e (t2n g i tb):=⟨λ Dy s σ H Q I q=>p _ _ (qq0 hN hv hd hcd) hb.h Dy s σ H Q I (op_ne hb h (qo3 hN Dy σ H s I) q),qal5 hb⟩
def D.asB:D->Option Bool
 | .bl b=>some b
 | _=>none
theorem Rep.asB{F:Addr->Prop}{H:Hp}{d:D}{B:List Addr}{k:Bool}(r:Rep F H v d B)(h:d.asB=some k):v=.bl k:=by
 cases r<;>cases h<;>rfl
def ttV(f:FV):VTT:=λ ds Q _=>orF ((f ds).bind D.asB) λ b=>Q b ds
def ttE(t:VT):VTT:=λ ds Q xe=>t ds (λ d ds'=>orF d.asB λ b=>Q b ds') xe
theorem qal1:∀ σ H Q,Ed c (ttV f) σ H Q->liftV c own f σ H (λ x H'=>∃ k,x=.bl k/\Q k H'):=by
 rintro σ H Q ⟨F,ds,A,xe,S,x,q⟩;obtain⟨b,e,q⟩:=qa6.mp q;obtain⟨d,e1,e2⟩:=zA1.mp e;exact⟨F,ds,A,d,S,e1,λ v H' B r s _=>⟨b,r.asB e2,q H' F A (S.same s) (.same s)⟩⟩
theorem qav0(h:VE c X e t):∀ σ H Q,Ed c (ttE t) σ H Q->Bf c t σ H (λ x H'=>∃ k,x=.bl k/\Q k H'):=by
 rintro σ H Q ⟨F,ds,A,xe,S,x,q⟩;refine⟨F,ds,A,xe,S,x,h.m _ _ _ _ _ (λ d ds1 q v H1 F1 T A1 r1 S1 o1 s1=>?_) (λ _ _ z=>z) q⟩;obtain⟨b,e,q⟩:=qa6.mp q;exact⟨b,r1.asB e,q H1 F1 A1 S1 (s1.count λ b=>by rw[zA0];lia)⟩
theorem qF3:∀ ds (Q Q':Bool->Ds->Prop) (xe xe':XKd),(∀ d ds',Q d ds'->Q' d ds')->(∀ x ds',xe x ds'->xe' x ds')->ttV f ds Q xe->ttV f ds Q' xe':=λ ds Q Q' xe xe' hQ _=>qa5 λ d=>hQ d ds
theorem qR1(h:VE c X e t):∀ ds (Q Q':Bool->Ds->Prop) (xe xe':XKd),(∀ d ds',Q d ds'->Q' d ds')->(∀ x ds',xe x ds'->xe' x ds')->ttE t ds Q xe->ttE t ds Q' xe':=λ ds Q Q' xe xe' hQ hx=>h.m _ _ _ _ _ (λ d ds'=>qa5 λ z=>hQ z ds') hx
theorem tv(h:VV c X e own f)(he:∀ whole,isTrue e X.env whole=(do let v <- whole;standAt e.pos;holding [v] (truthy v)):=by intro _;rfl):VTe c X e (ttV f):=⟨PT.mono (qT7 h.h he) qal1,qF3⟩
theorem te(h:VE c X e t)(he:∀ whole,isTrue e X.env whole=(do let v <- whole;standAt e.pos;holding [v] (truthy v)):=by intro _;rfl):VTe c X e (ttE t):=⟨PT.mono (qT7 h.h he) (qav0 h),qR1 h⟩
theorem q2(p:T2 X e a b r)(h:Ay nw r g)(ha:VV c X a oa fa)(hb:VV c X b ob fb):VTe c X e (ttV (f2 g fa fb)):=⟨PT.mono (p _ _ ha.h hb.h) λ σ H Q q=>op_vv h σ H _ (qal1 σ H Q q),qF3⟩
theorem q2v(p:P2 X e a b r)(p':T2 X e a b r)(h:Ay true r g)(ha:VE c X a ta)(hb:VV c X b ob fb):VTe c X e (ttE (t2v g ta fb)):=⟨PT.mono (p' _ _ ha.h hb.h) λ σ H Q q=>op_ev ha h σ H _ (qav0 (e2v p h ha hb) σ H Q q),qR1 (e2v p h ha hb)⟩
variable{qa qb:VTT}{rest:List Expr}
def Eh(t:VTT):VTT:=λ ds Q xe=>t ds (λ b ds'=>Q (!b) ds') xe
theorem Bm(h:VTe c X a qa):VTe c X (.UnaryOp .Not a pos) (Eh qa):=by
 refine⟨PT.mono (qaw6 h.h) λ σ H Q ⟨F,ds,A,xe,S,x,q⟩=>⟨F,ds,A,xe,S,x,q⟩,λ ds Q Q' xe xe' hQ hx=>h.m _ _ _ _ _ (λ b ds'=>hQ _ ds') hx⟩
structure VTw(c:Vc)(X:Cx)(e:Expr)(t:VTT):Prop where
 h:PW X e (Ed c t)
 m:∀ ds (Q Q':Bool->Ds->Prop) (xe xe':XKd),(∀ d ds',Q d ds'->Q' d ds')->(∀ x ds',xe x ds'->xe' x ds')->t ds Q xe->t ds Q' xe'
theorem VTw.te(h:VTw c X e qa):VTe c X e qa:=⟨h.h.pt,h.m⟩
theorem G5(h:VTe c X a qa):VTw c X (.BoolOp .And [a] pos) qa:=⟨qah6 h.h,h.m⟩
theorem Gs(h:VTe c X a qa):VTw c X (.BoolOp .Or [a] pos) qa:=⟨qaG7 h.h,h.m⟩
def ttAnd(t u:VTT):VTT:=λ ds Q xe=>t ds (λ k ds1=>if k=true then u ds1 Q xe else Q false ds1) xe
def ttOr(t u:VTT):VTT:=λ ds Q xe=>t ds (λ k ds1=>if k=true then Q true ds1 else u ds1 Q xe) xe
theorem qL5{k:Bool->St->Hp->(Bool->Hp->Prop)->Prop}{K:Bool->Ds->(Bool->Ds->Prop)->XKd->Prop}(ha:VTe c X a qa)(hk:∀(b:Bool) F ds A xe σ H (Q:Bool->Hp->Prop),Sta c F H σ ds A->Xc c xe F H A->K b ds (λ b' ds'=>∀ H' F' A',Sta c F' H' σ ds' A'->Stp F H A F' H' A'->Q b' H') xe->k b σ H Q)(hm:∀(b:Bool) ds (Q Q':Bool->Ds->Prop) (xe:XKd),(∀ d ds',Q d ds'->Q' d ds')->K b ds Q xe->K b ds Q' xe):∀ σ H Q,Ed c (λ ds Q xe=>qa ds (λ b ds1=>K b ds1 Q xe) xe) σ H Q->Ed c qa σ H (λ b H1=>k b σ H1 Q):=by
 rintro σ H Q ⟨F,ds,A,xe,S,x,q⟩;refine⟨F,ds,A,xe,S,x,ha.m _ _ _ _ _ (λ b ds1 q H1 F1 A1 S1 s1=>?_) (λ _ _ z=>z) q⟩;exact hk b F1 ds1 A1 xe σ H1 Q S1 (x.step s1) (hm b ds1 _ _ xe (λ b' ds' q H' F' A' S' s'=>q H' F' A' S' (s1.trans s')) q)
theorem tand(ha:VTe c X a qa)(hb:VTw c X (.BoolOp .And (b::rest) pos) qb):VTw c X (.BoolOp .And (a::b::rest) pos) (ttAnd qa qb):=by
 refine⟨PW.mono (qaw5 ha.h hb.h) ?_,λ ds Q Q' xe xe' hQ hx=>ha.m _ _ _ _ _ (λ k ds1 q=>?_) hx⟩
 . refine qL5 (k:=λ b σ H Q=>if b=true then Ed c qb σ H Q else Q false H) (K:=λ b ds Q xe=>if b=true then qb ds Q xe else Q false ds) ha ?_ ?_
   . intro b F ds A xe σ H Q S x q
     cases b with
     | true=>rw[if_pos rfl] at q ⊢;exact⟨F,ds,A,xe,S,x,q⟩
     | false=>rw[if_neg (by decide)] at q ⊢;exact q H F A S Stp.refl
   intro b ds Q Q' xe hQ;cases b with
   | true=>rw[if_pos rfl,if_pos rfl];exact hb.m _ _ _ _ _ hQ λ _ _ z=>z
   | false=>rw[if_neg (by decide),if_neg (by decide)];exact hQ _ _
 cases k with
 | true=>rw[if_pos rfl] at q ⊢;exact hb.m _ _ _ _ _ hQ hx q
 | false=>rw[if_neg (by decide)] at q ⊢;exact hQ _ _ q
theorem tor(ha:VTe c X a qa)(hb:VTw c X (.BoolOp .Or (b::rest) pos) qb):VTw c X (.BoolOp .Or (a::b::rest) pos) (ttOr qa qb):=by
 refine⟨PW.mono (pw_or ha.h hb.h) ?_,λ ds Q Q' xe xe' hQ hx=>ha.m _ _ _ _ _ (λ k ds1 q=>?_) hx⟩
 . refine qL5 (k:=λ b σ H Q=>if b=true then Q true H else Ed c qb σ H Q) (K:=λ b ds Q xe=>if b=true then Q true ds else qb ds Q xe) ha ?_ ?_
   . intro b F ds A xe σ H Q S x q
     cases b with
     | false=>rw[if_neg (by decide)] at q ⊢;exact⟨F,ds,A,xe,S,x,q⟩
     | true=>rw[if_pos rfl] at q ⊢;exact q H F A S Stp.refl
   intro b ds Q Q' xe hQ;cases b with
   | false=>rw[if_neg (by decide),if_neg (by decide)];exact hb.m _ _ _ _ _ hQ λ _ _ z=>z
   | true=>rw[if_pos rfl,if_pos rfl];exact hQ _ _
 cases k with
 | false=>rw[if_neg (by decide)] at q ⊢;exact hb.m _ _ _ _ _ hQ hx q
 | true=>rw[if_pos rfl] at q ⊢;exact hQ _ _ q
end
section
variable{c:Vc}{X:Cx}{a b e:Expr}{oa ob own nw:Bool}{fa fb f:FV}{ta tb t:VT}{pos:Pos}{rest:List Expr}
def tSeqE(ta:VT)(k:D->VT):VT:=λ ds Q xe=>ta ds (λ x ds1=>k x ds1 Q xe) xe
theorem qaq3{k:V->St->Hp->VK->Prop}{K:D->VT}(ha:VE c X a ta)(hm:∀ x ds (Q Q':DK) (xe xe':XKd),(∀ d ds',Q d ds'->Q' d ds')->(∀ x ds',xe x ds'->xe' x ds')->K x ds Q xe->K x ds Q' xe')(hk:∀ F H σ v x T,Rep F H v x T->∀ Q,(∃ ds A xe,Sta c F H σ ds A/\Xc c xe F H A/\K x ds (λ d ds'=>∀ v H' F' T A',Rep F' H' v d T->Sta c F' H' σ ds' A'->Ok F' H' (T++A')->Stp F H A F' H' (T++A')->Q v H') xe)->k v σ H Q) :
   ∀ σ H Q,Bf c (tSeqE ta K) σ H Q->Bf c ta σ H (λ x H1=>k x σ H1 Q):=by
 rintro σ H Q ⟨F,ds,A,xe,S,x,q⟩;refine⟨F,ds,A,xe,S,x,ha.m _ _ _ _ _ (λ d ds1 q v H1 F1 T A1 r1 S1 o1 s1=>?_) (λ _ _ z=>z) q⟩;have s1':Stp F H A F1 H1 A1:=s1.count λ b=>by rw[zA0];lia
 exact hk F1 H1 σ v d T r1 Q ⟨ds1,A1,xe,S1,x.step s1',hm d ds1 _ _ _ _ (λ d' ds' q w H' F' T' A' r S' o s=>q w H' F' T' A' r S' o (s1'.trans s)) (λ _ _ z=>z) q⟩
def Ii(ta tb:VT):VT:=tSeqE ta λ x ds Q xe=>orF x.asB λ k=>if k=true then tb ds Q xe else Q (.bl false) ds
theorem qD1{k:Bool}{p q p' q':Prop}(h1:p->p')(h2:q->q'):(if k=true then p else q)->(if k=true then p' else q'):=by
 cases k with
 | true=>rw[if_pos rfl,if_pos rfl];exact h1
 | false=>rw[if_neg (by decide),if_neg (by decide)];exact h2
theorem qaa3(hb:VE c X e tb):∀(x:D) ds (Q Q':DK) (xe xe':XKd),(∀ d ds',Q d ds'->Q' d ds')->(∀ x ds',xe x ds'->xe' x ds')->(orF x.asB λ k=>if k=true then tb ds Q xe else Q (.bl false) ds)->(orF x.asB λ k=>if k=true then tb ds Q' xe' else Q' (.bl false) ds) :=
 λ x ds Q Q' xe xe' hQ hx=>qa5 λ k=>qD1 (hb.m _ _ _ _ _ hQ hx) (hQ _ _)
theorem Ij{op:PySem.BoolOp}(h:VE c X a ta):VE c X (.BoolOp op [a] pos) ta:=⟨qax7 h.h,h.m⟩
theorem Gu(ha:VE c X a ta)(hb:VE c X (.BoolOp .And (b::rest) pos) tb):VE c X (.BoolOp .And (a::b::rest) pos) (Ii ta tb):=by
 refine⟨PE.mono (qay4 ha.h hb.h) ?_,λ ds Q Q' xe xe' hQ hx=>ha.m _ _ _ _ _ (λ d ds1=>qaa3 hb d ds1 Q Q' xe xe' hQ hx) hx⟩;refine qaq3 (k:=λ v σ H Q=>∃ c',v=.bl c'/\if c'=true then Bf c tb σ H Q else Q (.bl false) H) ha (qaa3 hb) ?_;rintro F H σ v x T r Q ⟨ds,A,xe,S,xc,q⟩;obtain⟨k,ek,q⟩:=qa6.mp q;refine⟨k,r.asB ek,?_⟩;cases k with
 | true=>rw[if_pos rfl] at q ⊢;exact⟨F,ds,A,xe,S,xc,q⟩
 | false=>rw[if_neg (by decide)] at q ⊢;exact q _ H F [] A (.bl _) S S.ok Stp.refl
variable{qc:VTT}
def tIfE(qc:VTT)(ta tb:VT):VT:=λ ds Q xe=>qc ds (λ k ds1=>if k=true then ta ds1 Q xe else tb ds1 Q xe) xe
theorem eif(hc:VTe c X cd qc)(ha:VE c X a ta)(hb:VE c X b tb):VE c X (.IfExp cd a b pos) (tIfE qc ta tb):=by
 refine⟨PE.mono (qao1 hc.h ha.h hb.h) ?_,λ ds Q Q' xe xe' hQ hx=>hc.m _ _ _ _ _ (λ k ds1=>qD1 (ha.m _ _ _ _ _ hQ hx) (hb.m _ _ _ _ _ hQ hx)) hx⟩;rintro σ H Q ⟨F,ds,A,xe,S,x,q⟩;refine⟨F,ds,A,xe,S,x,hc.m _ _ _ _ _ (λ k ds1 q H1 F1 A1 S1 s1=>?_) (λ _ _ z=>z) q⟩;cases k with
 | true=>rw[if_pos rfl] at q ⊢;exact⟨F1,ds1,A1,xe,S1,x.step s1,ha.m _ _ _ _ _ (λ d ds' q v H' F' T A' r S' o s=>q v H' F' T A' r S' o (s1.trans s)) (λ _ _ z=>z) q⟩
 | false=>rw[if_neg (by decide)] at q ⊢;exact⟨F1,ds1,A1,xe,S1,x.step s1,hb.m _ _ _ _ _ (λ d ds' q v H' F' T A' r S' o s=>q v H' F' T A' r S' o (s1.trans s)) (λ _ _ z=>z) q⟩
def fAnd(fa fb:FV):FV:=λ ds=>(fa ds).bind λ x=>x.asB.bind λ k=>if k=true then fb ds else some (.bl false)
def fOr(fa fb:FV):FV:=λ ds=>(fa ds).bind λ x=>x.asB.bind λ k=>if k=true then some (.bl true) else fb ds
def fNot(fa:FV):FV:=λ ds=>(fa ds).bind λ x=>x.asB.map λ k=>.bl (!k)
theorem Gv{op:PySem.BoolOp}(h:VV c X a oa fa):VV c X (.BoolOp op [a] pos) oa fa:=⟨qax7 h.h⟩
theorem Ik(ha:VV c X a oa fa)(hb:VV c X (.BoolOp .And (b::rest) pos) ob fb):VV c X (.BoolOp .And (a::b::rest) pos) ob (fAnd fa fb):=by
 refine⟨PE.mono (qay4 ha.h hb.h) λ σ H Q ⟨F,ds,A,d,S,e,q⟩=>?_⟩;obtain⟨x,h1,e⟩:=zA1.mp e;obtain⟨k,h2,e⟩:=zA1.mp e;refine⟨F,ds,A,x,S,h1,λ v H1 B1 r1 s1 n1=>⟨k,r1.asB h2,?_⟩⟩;cases k with
 | true=>rw[if_pos rfl] at e ⊢;exact⟨F,ds,A,d,S.same s1,e,λ w H2 B2 r2 s2 n2=>q w H2 B2 r2 (s1.trans s2) λ ho=>⟨(n2 ho).one,λ b o e=>(n2 ho).new b o (s1 b o e)⟩⟩
 | false=>rw[if_neg (by decide)] at e ⊢;cases e;exact q _ H1 [] (.bl _) s1 λ _=>New.nil
theorem vor(ha:VV c X a oa fa)(hb:VV c X (.BoolOp .Or (b::rest) pos) ob fb):VV c X (.BoolOp .Or (a::b::rest) pos) ob (fOr fa fb):=by
 refine⟨PE.mono (pe_or ha.h hb.h) λ σ H Q ⟨F,ds,A,d,S,e,q⟩=>?_⟩;obtain⟨x,h1,e⟩:=zA1.mp e;obtain⟨k,h2,e⟩:=zA1.mp e;refine⟨F,ds,A,x,S,h1,λ v H1 B1 r1 s1 n1=>⟨k,r1.asB h2,?_⟩⟩;cases k with
 | false=>rw[if_neg (by decide)] at e ⊢;exact⟨F,ds,A,d,S.same s1,e,λ w H2 B2 r2 s2 n2=>q w H2 B2 r2 (s1.trans s2) λ ho=>⟨(n2 ho).one,λ b o e=>(n2 ho).new b o (s1 b o e)⟩⟩
 | true=>rw[if_pos rfl] at e ⊢;cases e;exact q _ H1 [] (.bl _) s1 λ _=>New.nil
theorem vnot(ha:VV c X a oa fa):VV c X (.UnaryOp .Not a pos) true (fNot fa):=by
 refine⟨PE.mono (qaH6 ha.h) λ σ H Q ⟨F,ds,A,d,S,e,q⟩=>?_⟩;obtain⟨x,h1,e⟩:=zA1.mp e;obtain⟨k,h2,rfl⟩:=zAm.mp e;exact⟨F,ds,A,x,S,h1,λ v H1 B1 r1 s1 n1=>⟨k,r1.asB h2,q _ H1 [] (.bl _) s1 λ _=>New.nil⟩⟩
def gNeg:D->Option D
 | .int i=>some (.int (-i))
 | _=>none
theorem qaI1:OpS1 true (rU λ i=>.int (-i)) gNeg:=by
 intro F H v x B d Q r h q;cases x with
 | int i=>cases h;cases r;exact⟨i,rfl,q _ H [] (.int _) (λ _ _ z=>z) New.nil⟩
 | _=>cases h
theorem Hi(ha:VV c X a oa fa):VV c X (.UnaryOp .USub a pos) true (f1 gNeg fa):=⟨PE.mono (pe_un qau7 ha.h) (op_v (nw:=true) qaI1)⟩
theorem Ec{f:Str}{C:Addr}{K:PySem.W.Frag}(hK:X.K=K)(ha:VV c X a oa fa)(cl:Cls K C)(n:qd5 K C f)(hb:attributeBase a f X.env (eval a X.env)=eval a X.env:=by rfl):VV c X (.Attribute a f pos) oa (f1 (D.fld C f) fa):=by
 subst hK;exact⟨PE.mono (qaH8 ha.h hb) (op_v (nw:=false) (qaI2 cl n))⟩
variable{rc:List V->Hp->VK->Prop}{gc:Ds->Option D}{x:Str}{p:Pos}{es:List Expr}{fs:Ds->Option Ds}{tos:VTA}
def Ax(gc:Ds->Option D)(fs:Ds->Option Ds):FV:=λ ds=>(fs ds).bind gc
theorem vbi{id:String}(hc:CallR X (.builtin id) rc)(h:OpS nw rc gc)(hm:X.mg x=none)(ha:VVs c X (e::es) own fs)(hg:Gl X x:=by rfl)(hv:bootBuiltins x=some (.builtin id):=by rfl)(hn:x ≠ "__name__" := by decide)(hdb:(x == ("__debug__" : Str))=false:=by decide)(he:starEach (e::es) X.env=(false,eval e X.env)::starEach es X.env:=by rfl)(hpl:((backTo pos (starEach es X.env)).any λ x=>x.1)=false:=by rfl) :
   VV c X (.Call (.Name x p) (e::es) [] pos) (nw||own) (Ax gc fs):=⟨PE.mono (cbi hc hm ha.h hg hv hn hdb he hpl) (qay8 h)⟩
theorem Fa{id:String}(hc:CallR X (.type id) rc)(h:OpS nw rc gc)(hm:X.mg x=none)(ha:VVs c X (e::es) own fs)(hg:Gl X x:=by rfl)(hv:bootBuiltins x=some (.type id):=by rfl)(hn:x ≠ "__name__" := by decide)(hdb:(x == ("__debug__" : Str))=false:=by decide)(he:starEach (e::es) X.env=(false,eval e X.env)::starEach es X.env:=by rfl)(hpl:((backTo pos (starEach es X.env)).any λ x=>x.1)=false:=by rfl) :
   VV c X (.Call (.Name x p) (e::es) [] pos) (nw||own) (Ax gc fs):=⟨PE.mono (cty hc hm ha.h hg hv hn hdb he hpl) (qay8 h)⟩
theorem ebi{id:String}(hc:CallR X (.builtin id) rc)(h:OpS true rc gc)(hm:X.mg x=none)(ha:VOs c X (e::es) tos)(hg:Gl X x:=by rfl)(hv:bootBuiltins x=some (.builtin id):=by rfl)(hn:x ≠ "__name__" := by decide)(hdb:(x == ("__debug__" : Str))=false:=by decide)(he:starEach (e::es) X.env=(false,eval e X.env)::starEach es X.env:=by rfl)(hpl:((backTo pos (starEach es X.env)).any λ x=>x.1)=false:=by rfl) :
   VE c X (.Call (.Name x p) (e::es) [] pos) (tcO gc tos):=⟨PE.mono (cbi hc hm ha.h hg hv hn hdb he hpl) (opc_o ha h),qal2 ha⟩
def gLst(xs:Ds):Option D:=gd (D.imms xs=true/\xs.length<=big) (.lst false xs)
def gTup(xs:Ds):Option D:=gd (D.imms xs=true/\xs.length<=big) (.tup xs)
theorem Bj(ha:VVs c X es own fs):VV c X (.List es pos) true (Ax gLst fs):=by
 refine⟨PE.mono (qao0 ha.h) λ σ H Q ⟨F,ds,A,d,S,e,q⟩=>?_⟩;obtain⟨xs,e1,e2⟩:=zA1.mp e;obtain⟨hm,rfl⟩:=qm3 e2;refine⟨F,ds,A,xs,S,e1,λ vs H1 B1 r1 s1 n1=>⟨by rw[r1.len];exact zAl hm.2 qf3,λ p hp=>?_⟩⟩;exact q _ _ [p] (qw5 hp (r1.imms0 hm.1)) (s1.trans (Same.new hp)) λ _=>⟨(qf5 hp).one,λ b o e=>(qf5 hp).new b o (s1 b o e)⟩
theorem vtup{k:Nat}(ha:VVs c X es own fs):VV c X (.Tuple es k pos) true (Ax gTup fs):=by
 refine⟨PE.mono (qax5 ha.h) λ σ H Q ⟨F,ds,A,d,S,e,q⟩=>?_⟩;obtain⟨xs,e1,e2⟩:=zA1.mp e;obtain⟨hm,rfl⟩:=qm3 e2;refine⟨F,ds,A,xs,S,e1,λ vs H1 B1 r1 s1 n1=>⟨by rw[r1.len];exact zAl hm.2 qf3,λ p hp=>?_⟩⟩;exact q _ _ [] (qL1 hp (r1.imms0 hm.1)) (s1.trans (Same.new hp)) λ _=>New.nil
def FO:=Ds->Option (Option Int)
inductive qaF3(c:Vc)(f:FO)(σ:St)(H:Hp)(Q:Option Int->Hp->Prop):Prop
 | mk (F:Addr->Prop) (ds:Ds) (A:List Addr) (i:Option Int) (S:Sta c F H σ ds A) (e:f ds=some i) (q:∀ H',Same H H'->Q i H'):qaF3 c f σ H Q
def qaJ6(c:Vc)(f:FO):TO:=qaF3 c f
structure VPO(c:Vc)(X:Cx)(e:Option Expr)(f:FO):Prop where
 h:PO X e (qaJ6 c f)
theorem PO.mono{X:Cx}{e:Option Expr}{t t':TO}(h:PO X e t)(i:∀ σ H Q,t' σ H Q->t σ H Q):PO X e t':=λ Dy s σ H Q I q=>h Dy s σ H Q I (i σ H Q q)
def foN:FO:=λ _=>some none
def D.asI:D->Option Int
 | .int i=>some i
 | _=>none
theorem Rep.asI{F:Addr->Prop}{H:Hp}{d:D}{B:List Addr}{k:Int}(r:Rep F H v d B)(h:d.asI=some k):v=.int k:=by
 cases r<;>cases h<;>rfl
def foS(f:FV):FO:=λ ds=>(f ds).bind λ d=>d.asI.map some
theorem G6:VPO c X none foN:=⟨PO.mono qai1 λ σ H Q ⟨F,ds,A,i,S,e,q⟩=>by cases e;exact q H λ _ _ z=>z⟩
theorem G7(h:VV c X e own f):VPO c X (some e) (foS f):=by
 refine⟨PO.mono (qai0 h.h) λ σ H Q ⟨F,ds,A,i,S,e,q⟩=>?_⟩;obtain⟨d,e1,e2⟩:=zA1.mp e;obtain⟨j,e3,rfl⟩:=zAm.mp e2;exact⟨F,ds,A,d,S,e1,λ v H' B r s _=>⟨j,r.asI e3,q H' s⟩⟩
def noT:D->Bool
 | .tup _=>false
 | _=>true
def fsl(fa:FV)(lo hi:FO):FV:=λ ds=>(fa ds).bind λ x=>(lo ds).bind λ l=>(hi ds).bind λ h=>if noT x=true then gSl x l h else none
theorem vsl{lo hi:Option Expr}{fl fh:FO}{p2:Pos}(ha:VV c X a oa fa)(hl:VPO c X lo fl)(hh:VPO c X hi fh):VV c X (.Subscript a (.Slice lo hi none p2) pos) true (fsl fa fl fh):=by
 refine⟨PE.mono (qU2 qag7 ha.h hl.h hh.h) λ σ H Q ⟨F,ds,A,d,S,e,q⟩=>?_⟩;obtain⟨x,e1,e⟩:=zA1.mp e;obtain⟨l,e2,e⟩:=zA1.mp e;obtain⟨h,e3,e⟩:=zA1.mp e;by_cases hx:noT x=true
 . rw[if_pos hx] at e
   refine⟨F,ds,A,x,S,e1,λ v H1 B1 r1 s1 _=>⟨F,ds,A,l,S.same s1,e2,λ H2 s2=>⟨F,ds,A,h,(S.same s1).same s2,e3,λ H3 s3=>?_⟩⟩⟩;have s13:=(s1.trans s2).trans s3;refine os_sl ((r1.same s2).same s3) e (λ ys z=>by subst z;cases hx) λ w H' B' r' s' n'=>q w H' B' r' (s13.trans s') λ _=>⟨n'.one,λ b o e=>n'.new b o (s13 b o e)⟩
 rw[if_neg hx] at e;cases e
def fget(fa fk fz:FV):FV:=λ ds=>(fa ds).bind λ x=>(fk ds).bind λ y=>(fz ds).bind λ z=>match x with
 | .dct _ kvs=>y.key.bind λ k=>gd (((Eb kvs k).getD z).imm=true) ((Eb kvs k).getD z)
 | _=>none
theorem vget{k z:Expr}{ok oz:Bool}{fk fz:FV}{apos cpos:Pos}(hu:X.A.units+1 < cLine)(ha:VV c X a oa fa)(hk:VV c X k ok fk)(hz:VV c X z oz fz)(m:M2 X a "get" apos k z cpos):VV c X (.Call (.Attribute a "get" apos) [k,z] [] cpos) true (fget fa fk fz):=by
 refine⟨PE.mono (qao2 hu ha.h hk.h hz.h m) λ σ H Q ⟨F,ds,A,d,S,e,q⟩=>?_⟩;obtain⟨x,e1,e⟩:=zA1.mp e;obtain⟨y,e2,e⟩:=zA1.mp e;obtain⟨w,e3,e⟩:=zA1.mp e;cases x with
 | dct z kds =>
   obtain⟨ky,e4,e⟩:=zA1.mp e;obtain⟨hm,rfl⟩:=qm3 e;refine⟨F,ds,A,_,S,e1,λ v H1 B1 r1 s1 _=>?_⟩;obtain⟨a,kvs,A2,rfl,hs,ek,rs,_⟩:=r1.dct_inv;refine⟨a,rfl,.inl ⟨kvs,.inl hs⟩,F,ds,A,y,S.same s1,e2,λ u H2 B2 r2 s2 _=>⟨F,ds,A,w,(S.same s1).same s2,e3,λ u3 H3 B3 r3 s3 _=>?_⟩⟩;have hs3:=s3 _ _ (s2 _ _ hs);refine⟨Ew kvs ky,.inl ⟨kvs,ky,.inl hs3,(r2.key e4),rfl⟩,?_⟩;have s13:=(s1.trans s2).trans s3;rcases qau5 ky ek rs with⟨n1,n2⟩ | ⟨vv,dd,BB,n1,n2,n3,n4⟩
   . rw[n1] at hm q;rw[n2]
     have:=r3.imm hm
     subst this;exact q _ H3 [] r3 s13 λ _=>New.nil
   rw[n1] at hm q;rw[n2]
   have:=n3.imm hm
   subst this;exact q _ H3 [] ((n3.same s2).same s3) s13 λ _=>New.nil
 | _=>cases e
end
section
variable{c:Vc}{X:Cx}{a b e:Expr}{pos:Pos}{F F':Addr->Prop}{H H':Hp}{σ:St}{ds:Ds}{A:List Addr}
theorem Sta.put1{d:D}(S:Sta c F H σ ds A)(h:ds[i]? = some d)(hd:d≠.unk):∃(v:V)(B C:List Addr),(σ++c.gv)[i]? = some (some v)/\Rep F H v d B/\(∀ b,A.count b=B.count b+C.count b) /\
   ∀{F':Addr->Prop}{H':Hp}{W:Addr->Prop}(d':D)(B':List Addr),Kp F H W F' H'->(∀ b∈C,¬ W b)->Rep F' H' v d' B'->∃ A':List Addr,Locs F' H' (σ++c.gv) (ds.set i d') A'/\∀ b,A'.count b=B'.count b+C.count b:=by
 have hg:A6 ds i []=some d:=by unfold A6;rw[h];rfl
 obtain⟨u,w,B,C,h1,h2,h3,h4,h5⟩:=S.loc.place hg hd;cases h2;refine⟨u,B,C,h1,h3,h4,λ{F' H' W} d' B' k hc r=>?_⟩;obtain⟨A',q1,q2⟩:=h5 d' B' k hc r;refine⟨A',?_,q2⟩;unfold Bp at q1;rw[h] at q1;exact q1
theorem qI4{d:D}(h:d.known=true):d≠.unk:=λ z=>by subst z;cases h
def tMv(i:Nat):VT:=λ ds Q _=>orF (rdN i ds) λ d=>Q d (ds.set i .unk)
theorem emv(i:Nat){x:Str}(hN:X.N[i]? = some x:=by rfl)(hv:Vis X.env.scope x:=by first | exact Or.inl rfl | exact Or.inr (Or.inl rfl) | exact Or.inr (Or.inr rfl))(hd:(x == ("__debug__" : Str))=false:=by decide)(hcd:(x == ("__classdict__" : Str))=false:=by decide) :
   VE c X (.Name x pos) (tMv i):=by
 refine⟨λ Dy s σ H Q I ⟨F,ds,A,xe,S,x,q⟩=>qq0 hN hv hd hcd Dy s σ H Q I ?_,λ ds Q Q' xe xe' hQ _=>qa5 λ d=>hQ _ _⟩;obtain⟨d,ed,q⟩:=qa6.mp q;obtain⟨ed,hk⟩:=qj8.mp ed;obtain⟨v,B,C,h1,h2,h3,h4⟩:=S.put1 ed (qI4 hk);have hi:=qo3 hN Dy σ H s I;rw[zAr hi] at h1;obtain⟨A',q1,q2⟩:=h4 .unk [] (Kp.same (λ _ _ z=>z)) (λ _ _ z=>z) (.unk v);refine⟨v,h1,q v H F B A' h2 ⟨q1,S.ok.count λ b=>by rw[q2,h3];simp,S.len,S.ag⟩ (S.ok.count λ b=>by rw[zA0,q2,h3];simp) ?_⟩;exact⟨λ _ _ e _=>e,λ b o e z=>by rw[zA0,q2];have:=h3 b;simp;lia,λ _ f=>f,λ _ _ _ _ f=>f⟩
theorem share{B C:List Addr}(o:Ok F H A)(hc:∀ b,A.count b=B.count b+C.count b)(cb:∀ b∈B,∃ o,H b=some o/\Eg o=true){A':List Addr}(ha:∀ b,A'.count b=C.count b) :
   Ok (λ b=>F b∨b∈B) H A'/\Stp F H A (λ b=>F b∨b∈B) H A':=by
 refine⟨⟨λ b=>by rw[ha];have:=o.sep b;have:=hc b;lia,λ b f=>?_,λ b f=>?_⟩,λ _ _ e _=>e,λ b o e z=>by rw[ha];have:=hc b;lia,λ b f=>.inl f,λ b u e z f=>?_⟩
 . rw[ha]
   rcases f with f | f
   . have:=o.fro b f;have:=hc b;lia
   have:=qa8.mp f;have:=o.sep b;have:=hc b;lia
 . rcases f with f | f
   . exact o.ex b f
   exact let ⟨u,e,_⟩:=cb b f;⟨u,e⟩
 rcases f with f | f
 . exact f
 have:=qa8.mp f;have:=hc b;lia
abbrev PF:=Ds->Option (Nat×List Nat)
inductive LiftP(c:Vc)(pf:PF)(σ:St)(H:Hp)(Q:VK):Prop
 | mk (F:Addr->Prop) (ds:Ds) (A:List Addr) (i:Nat) (p:List Nat) (d:D) (S:Sta c F H σ ds A) (e:pf ds=some (i,p)) (g:A6 ds i p=some d) (n:d≠.unk) (q:∀ u w H',(σ++c.gv)[i]? = some (some u)->Walk H' u p w->Same H H'->Q w H'):LiftP c pf σ H Q
def liftP(c:Vc)(pf:PF):TE:=LiftP c pf
structure VP(c:Vc)(X:Cx)(e:Expr)(pf:PF):Prop where
 h:PE X e (liftP c pf)
theorem vpn(i:Nat){x:Str}(hN:X.N[i]? = some x:=by rfl)(hv:Vis X.env.scope x:=by first | exact Or.inl rfl | exact Or.inr (Or.inl rfl) | exact Or.inr (Or.inr rfl))(hd:(x == ("__debug__" : Str))=false:=by decide)(hcd:(x == ("__classdict__" : Str))=false:=by decide) :
   VP c X (.Name x pos) (λ _=>some (i,[])):=by
 refine⟨λ Dy s σ H Q I ⟨F,ds,A,j,p,d,S,e,hg,hd',q⟩=>qq0 hN hv hd hcd Dy s σ H Q I ?_⟩;cases e;obtain⟨u,w,B,C,h1,h2,h3,h4,h5⟩:=S.loc.place hg hd';cases h2;have hi:=qo3 hN Dy σ H s I;have h1':=h1;rw[zAr hi] at h1';exact⟨u,h1',q u u H h1 rfl λ _ _ z=>z⟩
theorem qD5:∀{p:List Nat}{d x:D}{q:List Nat},d.getP (p++q)=some x->∃ e,d.getP p=some e/\e.getP q=some x
 | [],d,x,q,h=>⟨d,rfl,h⟩
 | n::p,d,x,q,h=>by
   have h:D.getP d (n::(p++q))=some x:=h;unfold D.getP at h;cases hk:d.kids[n]? with
   | none=>rw[hk] at h;cases h
   | some y =>
     rw[hk] at h;obtain⟨e,h1,h2⟩:=qD5 (p:=p) h;exact⟨e,by unfold D.getP;rw[hk];exact h1,h2⟩
theorem qX8{p q:List Nat}{x:D}(h:A6 ds i (p++q)=some x):∃ e,A6 ds i p=some e/\e.getP q=some x:=by
 unfold A6 at h ⊢;cases hi:ds[i]? with
 | none=>rw[hi] at h;cases h
 | some d=>rw[hi] at h;exact qD5 h
theorem Walk.snoc:∀{p:List Nat}{u v w:V}{n:Nat},Walk H u p v->Lnk H v n w->Walk H u (p++[n]) w
 | [],_,_,w,n,h,l=>by cases h;exact⟨w,l,rfl⟩
 | m::p,_,_,_,_,⟨x,h1,h2⟩,l=>⟨x,h1,h2.snoc l⟩
theorem qaK0{d e:D}(h:d.getP [n]=some e):d≠.unk:=λ z=>by subst z;simp[D.getP,D.kids] at h
theorem Sta.place{p:List Nat}{d:D}{u:V}(S:Sta c F H σ ds A)(h:A6 ds i p=some d)(hd:d≠.unk)(hu:(σ++c.gv)[i]? = some (some u))(hw:Walk H u p w):∃(B C:List Addr),Rep F H w d B/\(∀ b,A.count b=B.count b+C.count b) /\
   ∀{F':Addr->Prop}{H':Hp}{W:Addr->Prop}(d':D)(B':List Addr),Kp F H W F' H'->(∀ b∈C,¬ W b)->Rep F' H' w d' B'->∃ A':List Addr,Locs F' H' (σ++c.gv) (Bp ds i p d') A'/\∀ b,A'.count b=B'.count b+C.count b:=by
 obtain⟨u',w',B,C,h1,h2,h3,h4,h5⟩:=S.loc.place h hd;rw[hu] at h1;cases h1;cases hw.fn h2;exact⟨B,C,h3,h4,h5⟩
def pfIx(pf:PF)(fb:FV):PF:=λ ds=>(pf ds).bind λ q=>(A6 ds q.1 q.2).bind λ d=>d.elems.bind λ ys=>(fb ds).bind λ y=>y.asI.bind λ k=>(ixN ys.length k).map λ n=>(q.1,q.2++[n])
theorem vpix{pf:PF}{ob:Bool}{fb:FV}(ha:VP c X a pf)(hb:VV c X b ob fb)(hs:qO7 b:=by exact λ _ _=>rfl):VP c X (.Subscript a b pos) (pfIx pf fb):=by
 refine⟨PE.mono (Hu qb4 ha.h hb.h hs) λ σ H Q ⟨F,ds,A,i,p,d,S,e,hg,hd,q⟩=>?_⟩;obtain⟨⟨j,p0⟩,e1,e⟩:=zA1.mp e;obtain⟨d0,e2,e⟩:=zA1.mp e;obtain⟨ys,e3,e⟩:=zA1.mp e;obtain⟨y,e4,e⟩:=zA1.mp e;obtain⟨k,e5,e⟩:=zA1.mp e;obtain⟨n,e6,e⟩:=zAm.mp e;cases e;obtain⟨d0',g1,g2⟩:=qX8 hg;rw[e2] at g1;cases g1;have hne:=qaK0 g2;refine⟨F,ds,A,j,p0,d0,S,e1,e2,hne,λ u w H1 hu hw s=>?_⟩;refine⟨F,ds,A,y,S.same s,e4,λ v2 H2 B2 r2 s2 _=>?_⟩;have s12:=s.trans s2;have hw2:=hw.same s2;obtain⟨B,C0,r,_,_⟩:=(S.same s12).place e2 hne hu hw2;cases r2.asI e5;have hn:n < ys.length:=(qL8 e6).2.1;cases d0 with
 | lst z ys' =>
   cases e3;obtain⟨a,vs,A3,rfl,ha,rs,_⟩:=r.lst_inv;obtain⟨vn,hv⟩:∃ x,vs[n]? = some x:=⟨_,zBn (by rw[rs.len];exact hn)⟩
   refine .inl ⟨a,vs,k,_,rfl,rfl,.inl (.inl ha),?_,q u _ H2 hu (hw2.snoc ⟨a,rfl,.inr (.inl ⟨vs,ha,hv⟩)⟩) s12⟩;unfold atI;rw[rs.len,e6];exact hv
 | tup ys' =>
   cases e3;obtain⟨a,vs,rfl,ha,rs⟩:=r.tup_inv;obtain⟨vn,hv⟩:∃ x,vs[n]? = some x:=⟨_,zBn (by rw[rs.len];exact hn)⟩
   refine .inr (.inl ⟨a,vs,k,_,rfl,rfl,.inl (.inl ha),?_,q u _ H2 hu (hw2.snoc ⟨a,rfl,.inl ⟨vs,ha,hv⟩⟩) s12⟩);unfold atI;rw[rs.len,e6];exact hv
 | _=>cases e3
end
inductive Pl where
 | no
 | sl (i:Nat)
 | pl (i:Nat) (p:List Nat) (w:V)
abbrev VTB:=Ds->(Ds->List Pl->Ds->Prop)->XKd->Prop
inductive Fb(τ:List (Option V)):List V->List Pl->Prop
 | nil:Fb τ [] []
 | no {v:V} {vs:List V} {ps:List Pl} (t:Fb τ vs ps):Fb τ (v::vs) (.no::ps)
 | sl {v:V} {vs:List V} {ps:List Pl} {i:Nat} (h:τ[i]? = some (some v)) (t:Fb τ vs ps):Fb τ (v::vs) (.sl i::ps)
 | so {v:V} {vs:List V} {ps:List Pl} {i:Nat} {p:List Nat} (t:Fb τ vs ps):Fb τ (v::vs) (.pl i p v::ps)
inductive LiftA(c:Vc)(t:VTB)(σ:St)(H:Hp)(Q:List V->Hp->Prop):Prop
 | mk (F:Addr->Prop) (ds:Ds) (A:List Addr) (xe:XKd) (S:Sta c F H σ ds A) (x:Xc c xe F H A) (q:t ds (λ xs pls ds'=>∀ vs H' F' T A',Reps F' H' vs xs T->Fb (σ++c.gv) vs pls->Sta c F' H' σ ds' A'->Ok F' H' (T++A')->Stp F H A F' H' (T++A')->Q vs H') xe):LiftA c t σ H Q
def E4(c:Vc)(t:VTB):TA:=LiftA c t
structure VAs(c:Vc)(X:Cx)(es:List Expr)(t:VTB):Prop where
 h:PA X es (E4 c t)
 m:∀ ds (Q Q':Ds->List Pl->Ds->Prop) (xe xe':XKd),(∀ d p ds',Q d p ds'->Q' d p ds')->(∀ x ds',xe x ds'->xe' x ds')->t ds Q xe->t ds Q' xe'
section
variable{c:Vc}{X:Cx}{e:Expr}{es:List Expr}{ta:VT}{tr:VTB}{F F':Addr->Prop}{H H':Hp}{σ:St}{ds:Ds}{A:List Addr}
def A4:VTB:=λ ds Q _=>Q [] [] ds
theorem Aa:VAs c X [] A4:=⟨PA.mono qq1 λ σ H Q ⟨F,ds,A,xe,S,x,q⟩=>q [] H F [] A .nil .nil S S.ok Stp.refl,λ ds Q Q' xe xe' hQ _=>hQ _ _ _⟩
def tbV(ta:VT)(tr:VTB):VTB:=λ ds Q xe=>ta ds (λ x ds1=>tr ds1 (λ xs ps ds2=>Q (x::xs) (.no::ps) ds2) xe) xe
theorem vaV(ha:VE c X e ta)(hr:VAs c X es tr)(hs:starEach (e::es) X.env=(false,eval e X.env)::starEach es X.env:=by rfl):VAs c X (e::es) (tbV ta tr):=by
 refine⟨PA.mono (qd3 ha.h hr.h hs) λ σ H Q ⟨F,ds,A,xe,S,x,q⟩=>?_,λ ds Q Q' xe xe' hQ hx=>ha.m _ _ _ _ _ (λ d ds1=>hr.m _ _ _ _ _ (λ xs ps ds2=>hQ _ _ _) hx) hx⟩;refine⟨F,ds,A,xe,S,x,ha.m _ _ _ _ _ (λ d1 ds1 q v H1 F1 T A1 r1 S1 o1 s1=>?_) (λ _ _ z=>z) q⟩;have s1':Stp F H A F1 H1 A1:=s1.count λ b=>by rw[zA0];lia
 refine⟨F1,ds1,A1,xe,S1,x.step s1',hr.m _ _ _ _ _ (λ xs ps ds2 q vs H2 F2 T2 A2 r2 pk S2 o2 s2=>?_) (λ _ _ z=>z) q⟩;have r1':Rep F2 H2 v d1 T:=r1.keep (s2.kp S1.ok S1.loc.cells) λ b hb hc=>by
   have:=o1.sep b
   rw[zA0] at this
   have:=qa8.mp hb
   lia
 obtain⟨o3,s3⟩:=s2.frame o1 r1.cells o2;exact q (v::vs) H2 F2 (T++T2) A2 (.cons r1' r2) (.no pk) S2 (by rw[zBd];exact o3) (by rw[zBd];exact s1.trans s3)
def tbN(i:Nat)(tr:VTB):VTB:=λ ds Q xe=>(rdN i ds).isSome=true/\tr ds (λ xs ps ds1=>orF (rdN i ds1) λ d=>Q (d::xs) (.sl i::ps) (ds1.set i .unk)) xe
theorem vaN(i:Nat){x:Str}{p:Pos}(hr:VAs c X es tr)(hs:starEach (.Name x p::es) X.env=(false,eval (.Name x p) X.env)::starEach es X.env:=by rfl)(hN:X.N[i]? = some x:=by rfl)(hv:Vis X.env.scope x:=by first | exact Or.inl rfl | exact Or.inr (Or.inl rfl) | exact Or.inr (Or.inr rfl))(hd:(x == ("__debug__" : Str))=false:=by decide)(hcd:(x == ("__classdict__" : Str))=false:=by decide) :
   VAs c X (.Name x p::es) (tbN i tr):=by
 refine⟨λ pos Dy s σ H Q I ⟨F,ds,A,xe,S,x,hs',q⟩=>qd3 (qq0 hN hv hd hcd) hr.h hs pos Dy s σ H Q I ?_,λ ds Q Q' xe xe' hQ hx=>And.imp_right (hr.m _ _ _ _ _ (λ xs ps ds1=>qa5 λ d=>hQ _ _ _) hx)⟩;have hi:=qo3 hN Dy σ H s I;obtain⟨d0,e0⟩:=zB9.mp hs';obtain⟨v,B0,hv0,_,_⟩:=S.name hi e0;refine⟨v,hv0,F,ds,A,xe,S,x,hr.m _ _ _ _ _ (λ xs ps ds1 q vs H2 F2 T2 A2 r2 pk S2 o2 s2=>?_) (λ _ _ z=>z) q⟩;obtain⟨d,ed,q⟩:=qa6.mp q;obtain⟨ed,hk⟩:=qj8.mp ed;obtain⟨v',B,C,h1,h2,h3,h4⟩:=S2.put1 ed (qI4 hk);have h1':=h1;rw[zAr hi,hv0] at h1;cases h1;obtain⟨A3,q1,q2⟩:=h4 .unk [] (Kp.same (F:=F2) λ _ _ z=>z) (λ _ _ z=>z) (.unk v);have hc:∀ b,((B++T2)++A3).count b<=(T2++A2).count b:=λ b=>by simp only[zA0,q2,h3];simp;lia
 exact q (v::vs) H2 F2 (B++T2) A3 (.cons h2 r2) (.sl h1' pk) ⟨q1,(o2.count hc).right,S.len,S.ag⟩ (o2.count hc) (s2.count hc)
def An:List Pl->Ds->Ds->Option Ds
 | [],_,ds=>some ds
 | .no::ps,_::ys,ds=>An ps ys ds
 | .sl i::ps,y::ys,ds=>An ps ys (ds.set i y)
 | .pl i p v::ps,y::ys,ds=>match A6 ds i p with
   | some (.hole w)=>if w=v then An ps ys (Bp ds i p y) else none
   | _=>none
 | _::_,[],_=>none
theorem qy1{τ:List (Option V)}{ds:Ds}{C B:List Addr}{y:D}(L:Locs F H τ ds C)(hi:τ[i]? = some (some v))(r:Rep F H v y B):∃ A':List Addr,Locs F H τ (ds.set i y) A'/\∀ b,A'.count b<=B.count b+C.count b:=by
 have hl:=L.len;have hlt:i < τ.length:=(zA7.mp hi).1;obtain⟨d,hd⟩:∃ d,ds[i]? = some d:=⟨_,zBn (by lia)⟩
 obtain⟨σ1,o,σ2,ds1,ds2,A1,B0,A2,e1,e2,e3,e4,e5,l1,l2,l3⟩:=L.split hd;have ho:τ[i]? = some o:=by rw[e1];exact qx2 e3
 rw[hi] at ho;cases ho;have e6:ds.set i y=ds1++y::ds2:=by
   have:=congrArg (λ l=>l.set i y) e2
   rw[this,ql4 e4]
 exact⟨A1++(B++A2),by rw[e1,e6];exact l1.append (.so r l3),λ b=>by rw[e5];simp only[zA0];lia⟩
theorem qp5{pls:List Pl}{ys ds ds':Ds}{σ:List (Option V)}{B C:List Addr}{more:List V}(pk:Fb σ vs pls)(r:Reps F H (vs++more) ys B)(L:Locs F H σ ds C)(h:An pls ys ds=some ds'):∃ A':List Addr,Locs F H σ ds' A'/\∀ b,A'.count b<=B.count b+C.count b:=by
 induction pk generalizing ys ds B C with
 | nil =>
   have h:some ds=some ds':=by cases ys<;>exact h
   cases h;exact⟨C,L,λ b=>by lia⟩
 | no pk ih =>
   cases r with
   | @cons _ _ A1 _ _ B1 r1 t =>
     obtain⟨A',q1,q2⟩:=ih t L h;exact⟨A',q1,λ b=>by rw[zA0];have:=q2 b;lia⟩
 | sl hi pk ih =>
   cases r with
   | @cons _ _ A1 _ _ B1 r1 t =>
     obtain⟨A2,q1,q2⟩:=qy1 L hi r1;obtain⟨A',q3,q4⟩:=ih t q1 h;exact⟨A',q3,λ b=>by rw[zA0];have:=q4 b;have:=q2 b;lia⟩
 | @so v _ _ i p pk ih =>
   cases r with
   | @cons _ y A1 _ _ B1 r1 t =>
     unfold An at h;split at h
     . rename_i w hg
       by_cases hw:w=v
       . rw[if_pos hw] at h
         subst hw;obtain⟨u,w',B2,C2,h1,h2,h3,h4,h5⟩:=L.place hg (by intro z;cases z);cases h3;obtain⟨A2,q1,q2⟩:=h5 y A1 (Kp.same (F:=F) λ _ _ z=>z) (λ _ _ z=>z) r1;obtain⟨A',q3,q4⟩:=ih t q1 h;refine⟨A',q3,λ b=>?_⟩
         have:=q4 b
         have:=q2 b
         have:=h4 b
         simp only[List.count_nil,zA0] at *
         lia
       rw[if_neg hw] at h;cases h
     cases h
abbrev VSp:=Ds->DK->XKd->Prop
inductive LiftF(s:VSp)(vs:List V)(H:Hp)(Q:VK)(E:XK):Prop
 | mk (F:Addr->Prop) (ds:Ds) (A:List Addr) (r:Reps F H vs ds A) (o:Ok F H A) (q:s ds (λ d ys=>∀ v H' F' T A',Rep F' H' v d T->Reps F' H' vs ys A'->Ok F' H' (T++A')->Stp F H A F' H' (T++A')->Q v H')
   (λ x ys=>∀ e H' F' A',RepX F' H' e x->Reps F' H' vs ys A'->Ok F' H' A'->Stp F H A F' H' A'->E (.ref e) none H')):LiftF s vs H Q E
def Fj(s:VSp):Sp:=LiftF s
def Be(s:VSp):Prop:=∀ ds (Q Q':DK) (xe xe':XKd),(∀ d ds',Q d ds'->Q' d ds')->(∀ x ds',xe x ds'->xe' x ds')->s ds Q xe->s ds Q' xe'
def qg5(s:VSp)(dv:Ds)(tr:VTB):VT:=λ ds Q xe=>tr ds (λ xs ps ds1=>s (xs++dv) (λ d ys=>orF (An ps ys ds1) λ ds2=>Q d ds2) (λ x ys=>orF (An ps ys ds1) λ ds2=>xe x ds2)) xe
theorem qO0{s:VSp}{dv:Ds}(hs:Be s)(ha:VAs c X es tr):∀ ds (Q Q':DK) (xe xe':XKd),(∀ d ds',Q d ds'->Q' d ds')->(∀ x ds',xe x ds'->xe' x ds')->qg5 s dv tr ds Q xe->qg5 s dv tr ds Q' xe' :=
 λ ds Q Q' xe xe' hQ hx=>ha.m _ _ _ _ _ (λ xs ps ds1=>hs _ _ _ _ _ (λ d ys=>qa5 λ z=>hQ _ _) (λ x ys=>qa5 λ z=>hx _ _)) hx
def Il(dvs:List V)(dv:Ds):Prop:=∀ F H,Reps F H dvs dv []
theorem qB1:Il [] []:=λ _ _=>.nil
theorem qak0{s:VSp}{dvs:List V}{dv:Ds}(hd:Il dvs dv)(hs:Be s)(ha:VAs c X es tr):∀ σ H Q,Bf c (qg5 s dv tr) σ H Q->Fy (Fj s) dvs c.E (E4 c tr) σ H Q:=by
 rintro σ H Q ⟨F,ds,A,xe,S,x,q⟩;refine⟨F,ds,A,xe,S,x,ha.m _ _ _ _ _ (λ xs ps ds1 q vs H1 F1 T A1 r1 pk S1 o1 s1=>?_) (λ _ _ z=>z) q⟩;have rall:Reps F1 H1 (vs++dvs) (xs++dv) (T++[]):=r1.append (hd F1 H1);rw[zA9] at rall;refine⟨F1,xs++dv,T,rall,o1.left,hs _ _ _ _ _ (λ d ys q v H2 F2 T2 A2 r2 ra o2 s2=>?_) (λ y ys q e H2 F2 A2 rx ra o2 s2=>?_) q⟩
 . obtain⟨ds2,eb,q⟩:=qa6.mp q
   have o1':Ok F1 H1 (A1++T):=o1.count λ b=>by simp only[zA0];lia
   obtain⟨o3,s3⟩:=s2.frame o1' S1.loc.cells o2;have L1:Locs F2 H2 (σ++c.gv) ds1 A1:=S1.loc.keep (s2.kp o1.left rall.cells) λ b hb hc=>by
     have:=o1.sep b
     rw[zA0] at this
     have:=qa8.mp hb
     lia
   obtain⟨A3,q1,q2⟩:=qp5 pk ra L1 eb;have hc:∀ b,(T2++A3).count b<=(A1++(T2++A2)).count b:=λ b=>by simp only[zA0];have:=q2 b;lia
   have o4:Ok F2 H2 (T2++A3):=o3.count hc;have s4:Stp F H A F2 H2 (T2++A3):=(s1.trans (s3.pre λ b=>by simp only[zA0];lia)).count hc;exact q v H2 F2 T2 A3 r2 ⟨q1,o4.right,S.len,S.ag⟩ o4 s4
 obtain⟨ds2,eb,q⟩:=qa6.mp q;have o1':Ok F1 H1 (A1++T):=o1.count λ b=>by simp only[zA0];lia
 obtain⟨o3,s3⟩:=s2.frame o1' S1.loc.cells o2;have L1:Locs F2 H2 (σ++c.gv) ds1 A1:=S1.loc.keep (s2.kp o1.left rall.cells) λ b hb hc=>by
   have:=o1.sep b
   rw[zA0] at this
   have:=qa8.mp hb
   lia
 obtain⟨A3,q1,q2⟩:=qp5 pk ra L1 eb;have hc:∀ b,A3.count b<=(A1++A2).count b:=λ b=>by simp only[zA0];have:=q2 b;lia
 have o4:Ok F2 H2 A3:=o3.count hc;have s4:Stp F H A F2 H2 A3:=(s1.trans (s3.pre λ b=>by simp only[zA0];lia)).count hc;exact x y ds2 σ e H2 F2 A3 q rx ⟨q1,o4,S.len,S.ag⟩ s4
end
structure VFn(P:Program)(w:World)(K:PySem.W.Frag)(mg:Str->Option Value)(base:Heap)(k:Nat)(f:Addr)(fd:FuncData)(ps:List Str)(s:VSp):Prop where
 ok:Bi P w K mg base (CX1 P w) k f fd ps (Fj s)
 m:Be s
section
variable{c:Vc}{X:Cx}{a e:Expr}{es:List Expr}{tr:VTB}{F F1:Addr->Prop}{H H1:Hp}{σ:St}{ds ds1:Ds}{A A1 T:List Addr}{pos p apos:Pos}{x qual m:Str}{st:Stmt}{f C:Addr}{fd:FuncData}{ps:List Str}{k:Nat}{s:VSp}{dvs:List V}{dv:Ds}
theorem Ah(D:Df X.K X.mg x qual st f fd ps)(G:VFn X.prog X.w X.K X.mg X.base k f fd ps s)(hl:Lands X c.E)(hr:Room k X.A)(ha:VAs c X (e::es) tr)(hg:Gl X x:=by rfl)(hdb:(x == ("__debug__" : Str))=false:=by decide)(he:starEach (e::es) X.env=(false,eval e X.env)::starEach es X.env:=by rfl)(hpl:(backTo pos (starEach es X.env)).any (·.1)=false:=by rfl):VE c X (.Call (.Name x p) (e::es) [] pos) (qg5 s [] tr) :=
 ⟨PE.mono (qU5 G.ok hr hg D.m D.F.kp D.b .nil hl.passes ha.h hdb he hpl) (qak0 qB1 G.m ha),qO0 G.m ha⟩
theorem qaE7{xs:Ds}{pls:List Pl}{xe:XKd}{K:DK}(hd:Il dvs dv)(hs:Be s)(S:Sta c F H σ ds A)(x:Xc c xe F H A)(r1:Reps F1 H1 vs xs T)(pk:Fb (σ++c.gv) vs pls)(S1:Sta c F1 H1 σ ds1 A1)(o1:Ok F1 H1 (T++A1))(s1:Stp F H A F1 H1 (T++A1))(hK:∀ d ds',K d ds'->∀ v H' F' T A',Rep F' H' v d T->Sta c F' H' σ ds' A'->Ok F' H' (T++A')->Stp F H A F' H' (T++A')->Q v H')(q:s (xs++dv) (λ d ys=>orF (An pls ys ds1) λ ds2=>K d ds2) (λ x ys=>orF (An pls ys ds1) λ ds2=>xe x ds2)):Fj s (vs++dvs) H1 Q c.E:=by
 have rall:Reps F1 H1 (vs++dvs) (xs++dv) (T++[]):=r1.append (hd F1 H1);rw[zA9] at rall;refine⟨F1,xs++dv,T,rall,o1.left,hs _ _ _ _ _ (λ d ys q v H2 F2 T2 A2 r2 ra o2 s2=>?_) (λ y ys q e H2 F2 A2 rx ra o2 s2=>?_) q⟩
 . obtain⟨ds2,eb,q⟩:=qa6.mp q
   have o1':Ok F1 H1 (A1++T):=o1.count λ b=>by simp only[zA0];lia
   obtain⟨o3,s3⟩:=s2.frame o1' S1.loc.cells o2;have L1:Locs F2 H2 (σ++c.gv) ds1 A1:=S1.loc.keep (s2.kp o1.left rall.cells) λ b hb hc=>by
     have:=o1.sep b
     rw[zA0] at this
     have:=qa8.mp hb
     lia
   obtain⟨A3,q1,q2⟩:=qp5 pk ra L1 eb;have hc:∀ b,(T2++A3).count b<=(A1++(T2++A2)).count b:=λ b=>by simp only[zA0];have:=q2 b;lia
   have o4:Ok F2 H2 (T2++A3):=o3.count hc;have s4:Stp F H A F2 H2 (T2++A3):=(s1.trans (s3.pre λ b=>by simp only[zA0];lia)).count hc;exact hK d ds2 q v H2 F2 T2 A3 r2 ⟨q1,o4.right,S.len,S.ag⟩ o4 s4
 obtain⟨ds2,eb,q⟩:=qa6.mp q;have o1':Ok F1 H1 (A1++T):=o1.count λ b=>by simp only[zA0];lia
 obtain⟨o3,s3⟩:=s2.frame o1' S1.loc.cells o2;have L1:Locs F2 H2 (σ++c.gv) ds1 A1:=S1.loc.keep (s2.kp o1.left rall.cells) λ b hb hc=>by
   have:=o1.sep b
   rw[zA0] at this
   have:=qa8.mp hb
   lia
 obtain⟨A3,q1,q2⟩:=qp5 pk ra L1 eb;have hc:∀ b,A3.count b<=(A1++A2).count b:=λ b=>by simp only[zA0];have:=q2 b;lia
 have o4:Ok F2 H2 A3:=o3.count hc;have s4:Stp F H A F2 H2 A3:=(s1.trans (s3.pre λ b=>by simp only[zA0];lia)).count hc;exact x y ds2 σ e H2 F2 A3 q rx ⟨q1,o4,S.len,S.ag⟩ s4
def D.isM(C:Addr)(m:Str):D->Bool
 | .ins _ C' fs=>decide (C'=C)&&(fs.lookup m).isNone
 | _=>false
theorem qw8{α β:Type}:∀{fs:List (Str×α)}{gs:List (Str×β)}{f:Str},fs.map (·.1)=gs.map (·.1)->(fs.lookup f).isNone=(gs.lookup f).isNone
 | [],[],_,_=>rfl
 | [],_::_,_,h=>by simp at h
 | _::_,[],_,h=>by simp at h
 | (k,_)::r,(k',_)::r',f,h=>by
   have h1:k=k':=by simp at h;exact h.1
   have h2:r.map (·.1)=r'.map (·.1):=by simp at h;simpa using h.2
   subst h1;rw[zAq,zAq];cases f == k with
   | true=>rfl
   | false=>exact qw8 h2
theorem Rep.isM{d:D}{B:List Addr}(r:Rep F H v d B)(h:d.isM C m=true):∃ a dx fs,v=.ref a/\H a=some (.ins C dx fs)/\fs.lookup m=none:=by
 cases d with
 | ins z C' fds =>
   have h:=zAb.mp h;obtain⟨a,dx,fvs,A,rfl,ha,e,rs,_⟩:=r.ins_inv
   have:=zAo h.1
   subst this;refine⟨a,dx,fvs,rfl,ha,?_⟩;have h2:=h.2;rw[<- qw8 e] at h2;exact Option.isNone_iff_eq_none.mp h2
 | _=>cases h
def qB6(C:Addr)(m:Str)(s:VSp)(dv:Ds)(i:Nat)(tr:VTB):VT:=λ ds Q xe=>(orF (rdN i ds) λ d=>d.isM C m=true)/\tr ds (λ xs ps ds1=>orF (rdN i ds1) λ d=>s (d::(xs++dv)) (λ r ys=>orF (An (.sl i::ps) ys (ds1.set i .unk)) λ ds2=>Q r ds2) (λ x ys=>orF (An (.sl i::ps) ys (ds1.set i .unk)) λ ds2=>xe x ds2)) xe
theorem qW0(hs:Be s)(ha:VAs c X es tr):∀ ds (Q Q':DK) (xe xe':XKd),(∀ d ds',Q d ds'->Q' d ds')->(∀ x ds',xe x ds'->xe' x ds')->qB6 C m s dv i tr ds Q xe->qB6 C m s dv i tr ds Q' xe' :=
 λ ds Q Q' xe xe' hQ hx=>And.imp_right (ha.m _ _ _ _ _ (λ xs ps ds1=>qa5 λ d=>hs _ _ _ _ _ (λ d ys=>qa5 λ z=>hQ _ _) (λ x ys=>qa5 λ z=>hx _ _)) hx)
theorem qap9{σ:St}{H:Hp}(hd:Il dvs dv)(hs:Be s)(ha:VAs c X es tr)(hi:i < σ.length)(q:Bf c (qB6 C m s dv i tr) σ H Q):tMeth C m (Fj s) dvs c.E (Ev i) (E4 c tr) σ H Q:=by
 obtain⟨F,ds,A,xe,S,x,hk,q⟩:=q;obtain⟨d0,e0,hk⟩:=qa6.mp hk;obtain⟨v,B0,hv0,r0,_⟩:=S.name hi e0;obtain⟨a,dx,fs,rfl,ha1,ha2⟩:=r0.isM hk;refine⟨.ref a,hv0,a,dx,fs,rfl,ha1,ha2,F,ds,A,xe,S,x,ha.m _ _ _ _ _ (λ xs ps ds2 q vs H2 F2 T2 A2 r2 pk S2 o2 s2=>?_) (λ _ _ z=>z) q⟩;obtain⟨d,ed,q⟩:=qa6.mp q;obtain⟨ed,hkn⟩:=qj8.mp ed;obtain⟨v',B,C0,h1,h2,h3,h4⟩:=S2.put1 ed (qI4 hkn);have h1':=h1;rw[zAr hi,hv0] at h1;cases h1;obtain⟨A3,q1,q2⟩:=h4 .unk [] (Kp.same (F:=F2) λ _ _ z=>z) (λ _ _ z=>z) (.unk _);have hc:∀ b,((B++T2)++A3).count b<=(T2++A2).count b:=λ b=>by simp only[zA0,q2,h3];simp;lia
 exact qaE7 (vs:=.ref a::vs) (xs:=d::xs) hd hs S x (.cons h2 r2) (.sl h1' pk) ⟨q1,(o2.count hc).right,S.len,S.ag⟩ (o2.count hc) (s2.count hc) (λ d ds' h=>h) q
theorem qq6{pl:Sem Bool}(i:Nat){xn:Str}{p0:Pos}(D:Md X.K C m qual st f fd ps)(cl:Cls X.K C)(G:VFn X.prog X.w X.K X.mg X.base k f fd ps s)(hl:Lands X c.E)(hr:Room k X.A)(ha:VAs c X (e::es) tr)(hN:X.N[i]? = some xn:=by rfl)(hv:Vis X.env.scope xn:=by first | exact Or.inl rfl | exact Or.inr (Or.inl rfl) | exact Or.inr (Or.inr rfl))(hd:(xn == ("__debug__" : Str))=false:=by decide)(hcd:(xn == ("__classdict__" : Str))=false:=by decide)(hst:starEach (e::es) X.env=(false,eval e X.env)::starEach es X.env:=by rfl)(hpl:(backTo pos (starEach es X.env)).any (·.1)=false:=by rfl)(ht:eval (.Call (.Attribute (.Name xn p0) m apos) (e::es) [] pos) X.env=(do
     let ov <- eval (.Name xn p0) X.env
     standAt apos.atName
     let (f,first) <- holding [ov] (getMethod ov m pl)
     callWith pos f first (backTo pos (starEach (e::es) X.env)) (backToKw pos (keywordEach [] X.env))):=by rfl):VE c X (.Call (.Attribute (.Name xn p0) m apos) (e::es) [] pos) (qB6 C m s [] i tr) :=
 ⟨λ Dy s σ H Q I q=>qax9 (qq0 hN hv hd hcd) cl D.me G.ok hr D.b .nil hl.passes ha.h hst hpl ht Dy s σ H Q I (qap9 qB1 G.m ha (qo3 hN Dy σ H s I) q),qW0 G.m ha⟩
def qR5(C:Addr)(s:VSp)(dv:Ds)(tr:VTB):VT:=λ ds Q xe=>tr ds (λ xs ps ds1=>s (.ins false C []::(xs++dv)) (λ d ys=>d.isN=some true/\orF ys.head? λ self=>orF (An ps ys.tail ds1) λ ds2=>Q self ds2) (λ x ys=>orF (An ps ys.tail ds1) λ ds2=>xe x ds2)) xe
theorem qad3(hs:Be s)(ha:VAs c X es tr):∀ ds (Q Q':DK) (xe xe':XKd),(∀ d ds',Q d ds'->Q' d ds')->(∀ x ds',xe x ds'->xe' x ds')->qR5 C s dv tr ds Q xe->qR5 C s dv tr ds Q' xe' :=
 λ ds Q Q' xe xe' hQ hx=>ha.m _ _ _ _ _ (λ xs ps ds1=>hs _ _ _ _ _ (λ d ys=>And.imp_right (qa5 λ z=>qa5 λ w=>hQ _ _)) (λ x ys=>qa5 λ z=>hx _ _)) hx
theorem qaA3(hd:Il dvs dv)(hs:Be s)(ha:VAs c X es tr):∀ σ H Q,Bf c (qR5 C s dv tr) σ H Q->tMake C (Fj s) dvs c.E (E4 c tr) σ H Q:=by
 rintro σ H Q ⟨F,ds,A,xe,S,x,q⟩;refine⟨F,ds,A,xe,S,x,ha.m _ _ _ _ _ (λ xs ps ds1 q vs H1 F1 T A1 r1 pk S1 o1 s1=>?_) (λ _ _ z=>z) q⟩;intro y dy hy hdy hne;have same:Same H1 (upd (upd H1 dy (.own y)) y (.ins C dy [])):=(Same.new hdy).trans (Same.new (by rw[qb3 (Ne.symm hne)];exact hy));have rall:Reps F1 (upd (upd H1 dy (.own y)) y (.ins C dy [])) (.ref y::(vs++dvs)) (.ins false C []::(xs++dv)) ([y]++(T++[])) :=
   .cons (.ins qb1 rfl .nil) ((r1.append (hd F1 H1)).same same)
 rw[zA9] at rall;have oN:Ok F1 (upd (upd H1 dy (.own y)) y (.ins C dy [])) ([y]++(T++A1)):=(qf5 hy).ok o1 (λ b hb=>by
   rcases zAf.mp hb with hb | hb
   . exact r1.cells b hb
   exact S1.loc.cells b hb) same
 have oT:Ok F1 (upd (upd H1 dy (.own y)) y (.ins C dy [])) ([y]++T):=oN.count λ b=>by simp only[zA0];lia
 have sN:Stp F H A F1 (upd (upd H1 dy (.own y)) y (.ins C dy [])) ([y]++(T++A1)):=s1.trans ((qf5 hy).stp same);have S1':=S1.same same;refine⟨F1,_,[y]++T,rall,oT,hs _ _ _ _ _ (λ d ys q v H2 F2 T2 A2 r2 ra o2 s2=>?_) (λ ex ys q e H2 F2 A2 rx ra o2 s2=>?_) q⟩
 . obtain⟨hn,q⟩:=q
   have hv:v=.non:=by
     cases d with
     | non=>cases r2;rfl
     | _=>cases hn
   refine⟨hv,?_⟩;obtain⟨self,eh,q⟩:=qa6.mp q;obtain⟨ds2,eb,qf⟩:=qa6.mp q;have o1':Ok F1 _ (A1++([y]++T)):=oN.count λ b=>by simp only[zA0];lia
   obtain⟨o3,s3⟩:=s2.frame o1' S1'.loc.cells o2;have L1:Locs F2 H2 (σ++c.gv) ds1 A1:=S1'.loc.keep (s2.kp oT rall.cells) λ b hb hc=>by
     have:=oN.sep b
     simp only[zA0] at this hc
     have:=qa8.mp hb
     lia
   cases ra with
   | @cons _ d0 Aself _ ys' B' rself rrest =>
     cases eh;obtain⟨A3,q1,q2⟩:=qp5 pk rrest L1 eb;have hc:∀ b,(Aself++A3).count b<=(A1++(T2++(Aself++B'))).count b:=λ b=>by simp only[zA0];have:=q2 b;lia
     have o4:=o3.count hc;have s4:Stp F H A F2 H2 (Aself++A3):=(sN.trans (s3.pre λ b=>by simp only[zA0];lia)).count hc;exact qf (.ref y) H2 F2 Aself A3 rself ⟨q1,o4.right,S.len,S.ag⟩ o4 s4
 obtain⟨ds2,eb,qf⟩:=qa6.mp q;have o1':Ok F1 _ (A1++([y]++T)):=oN.count λ b=>by simp only[zA0];lia
 obtain⟨o3,s3⟩:=s2.frame o1' S1'.loc.cells o2;have L1:Locs F2 H2 (σ++c.gv) ds1 A1:=S1'.loc.keep (s2.kp oT rall.cells) λ b hb hc=>by
   have:=oN.sep b
   simp only[zA0] at this hc
   have:=qa8.mp hb
   lia
 cases ra with
 | @cons _ d0 Aself _ ys' B' rself rrest =>
   obtain⟨A3,q1,q2⟩:=qp5 pk rrest L1 eb;have hc:∀ b,A3.count b<=(A1++(Aself++B')).count b:=λ b=>by simp only[zA0];have:=q2 b;lia
   have o4:=o3.count hc;have s4:Stp F H A F2 H2 A3:=(sN.trans (s3.pre λ b=>by simp only[zA0];lia)).count hc;exact x ex ds2 σ e H2 F2 A3 qf rx ⟨q1,o4,S.len,S.ag⟩ s4
theorem emake(cl:Cl X.K X.mg x C)(M:Mk X.K C f)(D:Md X.K C m qual st f fd ps)(G:VFn X.prog X.w X.K X.mg X.base k f fd ps s)(hl:Lands X c.E)(hr:Room (k+1) X.A)(ha:VAs c X (e::es) tr)(hg:Gl X x:=by rfl)(hdb:(x == ("__debug__" : Str))=false:=by decide)(he:starEach (e::es) X.env=(false,eval e X.env)::starEach es X.env:=by rfl)(hpl:(backTo pos (starEach es X.env)).any (·.1)=false:=by rfl):VE c X (.Call (.Name x p) (e::es) [] pos) (qR5 C s [] tr) :=
 ⟨PE.mono (qay0 M G.ok hr hg cl.m D.b .nil hl.passes ha.h hdb he hpl) (qaA3 qB1 G.m ha),qad3 G.m ha⟩
def tLstV(tr:VTB):VT:=λ ds Q xe=>tr ds (λ xs ps ds1=>xs.length<=big/\Q (.lst false xs) ds1) xe
def tTupV(tr:VTB):VT:=λ ds Q xe=>tr ds (λ xs ps ds1=>xs.length<=big/\Q (.tup xs) ds1) xe
theorem Gc(ha:VAs c X es tr):VE c X (.List es pos) (tLstV tr):=by
 refine⟨PE.mono (qao0 ha.h) λ σ H Q ⟨F,ds,A,xe,S,x,q⟩=>?_,λ ds Q Q' xe xe' hQ hx=>ha.m _ _ _ _ _ (λ xs ps ds1=>And.imp_right (hQ _ _)) hx⟩;refine⟨F,ds,A,xe,S,x,ha.m _ _ _ _ _ (λ xs ps ds1 q vs H1 F1 T A1 r1 pk S1 o1 s1=>⟨by rw[r1.len];exact zAl q.1 qf3,λ y hy=>?_⟩) (λ _ _ z=>z) q⟩;have same:=Same.new (u:=.lst vs) hy;have oN:=(qf5 hy).ok o1 (λ b hb=>by
   rcases zAf.mp hb with hb | hb
   . exact r1.cells b hb
   exact S1.loc.cells b hb) same
 exact q.2 (.ref y) _ F1 (y::T) A1 (.lst qb1 (r1.same same)) (S1.same same) oN (s1.trans ((qf5 hy).stp same))
theorem etup(ha:VAs c X es tr):VE c X (.Tuple es n pos) (tTupV tr):=by
 refine⟨PE.mono (qax5 ha.h) λ σ H Q ⟨F,ds,A,xe,S,x,q⟩=>?_,λ ds Q Q' xe xe' hQ hx=>ha.m _ _ _ _ _ (λ xs ps ds1=>And.imp_right (hQ _ _)) hx⟩;refine⟨F,ds,A,xe,S,x,ha.m _ _ _ _ _ (λ xs ps ds1 q vs H1 F1 T A1 r1 pk S1 o1 s1=>⟨by rw[r1.len];exact zAl q.1 qf3,λ y hy=>?_⟩) (λ _ _ z=>z) q⟩;have same:=Same.new (u:=.tup vs) hy;exact q.2 (.ref y) _ F1 T A1 (qL1 hy r1) (S1.same same) (o1.same same) (s1.trans (.same same))
end
structure VEnds where
 nx:Ds->Prop
 rt:DK
 bk:Ds->Prop
 ct:Ds->Prop
 xe:XKd
abbrev VTS:=VEnds->Ds->Prop
structure VEnds.Le(e e':VEnds):Prop where
 nx:∀ ds,e.nx ds->e'.nx ds
 rt:∀ d ds,e.rt d ds->e'.rt d ds
 bk:∀ ds,e.bk ds->e'.bk ds
 ct:∀ ds,e.ct ds->e'.ct ds
 xe:∀ x ds,e.xe x ds->e'.xe x ds
structure Lk(c:Vc)(E:Bn)(F:Addr->Prop)(H:Hp)(A:List Addr)(e:VEnds):Prop where
 nx:∀ ds' σ' H' F' A',e.nx ds'->Sta c F' H' σ' ds' A'->Stp F H A F' H' A'->E.nx σ' H'
 rt:∀ d ds' v σ' H' F' T A',e.rt d ds'->Rep F' H' v d T->Sta c F' H' σ' ds' A'->Ok F' H' (T++A')->Stp F H A F' H' (T++A')->E.rt v H'
 bk:∀ ds' σ' H' F' A',e.bk ds'->Sta c F' H' σ' ds' A'->Stp F H A F' H' A'->E.bk σ' H'
 ct:∀ ds' σ' H' F' A',e.ct ds'->Sta c F' H' σ' ds' A'->Stp F H A F' H' A'->E.ct σ' H'
 xe:Xc c e.xe F H A
theorem Lk.step{c:Vc}{E:Bn}{F F1:Addr->Prop}{H H1:Hp}{A A1:List Addr}{e:VEnds}(l:Lk c E F H A e)(s:Stp F H A F1 H1 A1):Lk c E F1 H1 A1 e :=
 ⟨λ ds' σ' H' F' A' h S t=>l.nx ds' σ' H' F' A' h S (s.trans t),λ d ds' v σ' H' F' T A' h r S o t=>l.rt d ds' v σ' H' F' T A' h r S o (s.trans t),λ ds' σ' H' F' A' h S t=>l.bk ds' σ' H' F' A' h S (s.trans t),λ ds' σ' H' F' A' h S t=>l.ct ds' σ' H' F' A' h S (s.trans t),l.xe.step s⟩
inductive LiftS(c:Vc)(t:VTS)(E:Bn)(σ:St)(H:Hp):Prop
 | mk (F:Addr->Prop) (ds:Ds) (A:List Addr) (e:VEnds) (S:Sta c F H σ ds A) (l:Lk c E F H A e) (q:t e ds):LiftS c t E σ H
def Ei(c:Vc)(t:VTS):TS:=LiftS c t
structure VS(c:Vc)(X:Cx)(st:Stmt)(t:VTS):Prop where
 h:PS X st (Ei c t)
 m:∀(e e':VEnds) ds,e.Le e'->t e ds->t e' ds
structure VSs(c:Vc)(X:Cx)(st:List Stmt)(t:VTS):Prop where
 h:PSs X st (Ei c t)
 m:∀(e e':VEnds) ds,e.Le e'->t e ds->t e' ds
section
variable{c:Vc}{X:Cx}{a b e:Expr}{st:Stmt}{rest:List Stmt}{t u:VTS}{te:VT}{pos:Pos}
def E5:VTS:=λ e ds=>e.nx ds
def E6(t u:VTS):VTS:=λ e ds=>t { e with nx:=u e } ds
theorem At:VSs c X [] E5:=⟨PSs.mono qT8 λ E σ H ⟨F,ds,A,e,S,l,q⟩=>l.nx ds σ H F A q S Stp.refl,λ e e' ds h=>h.nx ds⟩
theorem Ab(h1:VS c X st t)(h2:VSs c X rest u):VSs c X (st::rest) (E6 t u):=by
 refine⟨PSs.mono (qH0 h1.h h2.h) λ E σ H ⟨F,ds,A,e,S,l,q⟩=>?_,λ e e' ds h=>h1.m _ _ _ ⟨λ ds=>h2.m _ _ _ h,h.rt,h.bk,h.ct,h.xe⟩⟩;exact⟨F,ds,A,{ e with nx:=u e },S,⟨λ ds' σ' H' F' A' q S' s=>⟨F',ds',A',e,S',l.step s,q⟩,l.rt,l.bk,l.ct,l.xe⟩,q⟩
theorem Af(h1:VS c X st t):VSs c X [st] t:=⟨qo9 h1.h,h1.m⟩
def sRet(te:VT):VTS:=λ e ds=>te ds e.rt e.xe
theorem Am(h:VE c X e te):VS c X (.Return (some e) pos) (sRet te):=by
 refine⟨PS.mono (qT9 h.h) λ E σ H ⟨F,ds,A,e,S,l,q⟩=>⟨F,ds,A,e.xe,S,l.xe,h.m _ _ _ _ _ (λ d ds' q v H' F' T A' r S' o s=>l.rt d ds' v σ H' F' T A' q r S' o s) (λ _ _ z=>z) q⟩,λ e e' ds hl=>h.m _ _ _ _ _ hl.rt hl.xe⟩
def sExpr(te:VT):VTS:=λ e ds=>te ds (λ _ ds'=>e.nx ds') e.xe
theorem Bw(h:VE c X e te)(hs:swapsWith e none pos.line X.env=pure false:=by rfl):VS c X (.Expr e pos) (sExpr te):=by
 refine⟨PS.mono (qaw9 h.h hs) λ E σ H ⟨F,ds,A,e,S,l,q⟩=>⟨F,ds,A,e.xe,S,l.xe,h.m _ _ _ _ _ (λ d ds' q v H' F' T A' r S' o s=>l.nx ds' σ H' F' A' q S' (s.count λ b=>by rw[zA0];lia)) (λ _ _ z=>z) q⟩,λ e e' ds hl=>h.m _ _ _ _ _ (λ _=>hl.nx) hl.xe⟩
def sIf(qc:VTT)(t u:VTS):VTS:=λ e ds=>qc ds (λ k ds'=>if k=true then t e ds' else u e ds') e.xe
theorem sif{x y:List Stmt}{qc:VTT}(hc:VTe c X cd qc)(ha:VSs c X x t)(hb:VSs c X y u):VS c X (.If cd x y pos) (sIf qc t u):=by
 refine⟨PS.mono (Hn hc.h ha.h hb.h) λ E σ H ⟨F,ds,A,e,S,l,q⟩=>⟨F,ds,A,e.xe,S,l.xe,hc.m _ _ _ _ _ (λ k ds' q H' F' A' S' s=>?_) (λ _ _ z=>z) q⟩,λ e e' ds hl=>hc.m _ _ _ _ _ (λ k ds'=>qD1 (ha.m _ _ _ hl) (hb.m _ _ _ hl)) hl.xe⟩;cases k with
 | true=>rw[if_pos rfl] at q ⊢;exact⟨F',ds',A',e,S',l.step s,q⟩
 | false=>rw[if_neg (by decide)] at q ⊢;exact⟨F',ds',A',e,S',l.step s,q⟩
abbrev VTG:=D->Ds->(Ds->Prop)->Prop
inductive LiftG(c:Vc)(g:VTG)(v:V)(σ:St)(H:Hp)(Q:St->Hp->Prop):Prop
 | mk (F:Addr->Prop) (ds:Ds) (A T:List Addr) (d:D) (r:Rep F H v d T) (S:Sta c F H σ ds A) (o:Ok F H (T++A)) (q:g d ds (λ ds'=>∀ σ' H' F' A',Sta c F' H' σ' ds' A'->Stp F H (T++A) F' H' A'->Q σ' H')):LiftG c g v σ H Q
def E7(c:Vc)(g:VTG):TG:=LiftG c g
structure VG(c:Vc)(X:Cx)(e:Expr)(g:VTG):Prop where
 h:PG X e (E7 c g)
 m:∀ d ds (Q Q':Ds->Prop),(∀ ds',Q ds'->Q' ds')->g d ds Q->g d ds Q'
theorem PG.mono{g g':TG}(h:PG X e g)(i:∀ v σ H Q,g' v σ H Q->g v σ H Q):PG X e g':=λ Dy s σ H v u Q I r q=>h Dy s σ H v u Q I r (i v σ H Q q)
theorem Sta.store{F:Addr->Prop}{H:Hp}{σ:St}{ds:Ds}{A T:List Addr}{d:D}(S:Sta c F H σ ds A)(hW:c.W i=false)(hi:i < σ.length)(r:Rep F H v d T)(o:Ok F H (T++A)) :
   ∃ A',Sta c F H (σ.set i (some v)) (ds.set i d) A'/\Stp F H (T++A) F H A':=by
 have hl:=S.loc.len;rw[zAj] at hl;obtain⟨σ1,o1,σ2,ds1,ds2,A1,B,A2,e1,e2,e3,e4,e5,l1,l2,l3⟩:=S.loc.split (i:=i) (d:=ds[i]'(by lia)) (by simp);have hσ:σ.set i (some v)++c.gv=σ1++some v::σ2:=by
   rw[<- List.set_append_left _ _ hi,e1,ql4 e3]
 have hds:ds.set i d=ds1++d::ds2:=by
   have:=congrArg (λ l=>l.set i d) e2
   rw[this,ql4 e4]
 have cnt:∀ b,(A1++(T++A2)).count b<=(T++A).count b:=λ b=>by rw[e5];simp only[zA0];lia
 refine⟨A1++(T++A2),⟨by rw[hσ,hds];exact l1.append (.so r l3),o.count cnt,?_,λ j hj=>?_⟩,Stp.refl.count cnt⟩
 . rw[S.len,zAj,zAj,List.length_set]
 have hne:i≠j:=λ z=>by subst z;rw[hW] at hj;cases hj
 rw[<- S.ag j hj,<- List.set_append_left _ _ hi,zB5 hne]
def gNm(i:Nat):VTG:=λ d ds Q=>Q (ds.set i d)
theorem A9(i:Nat){x:Str}(hN:X.N.Nodup)(hW:c.W i=false:=by rfl)(hi:X.N[i]? = some x:=by rfl)(hx:Loc X.env.scope x:=by first | exact Or.inl rfl | exact Or.inr rfl)(hf:X.fn x=true∨X.env.scope.names.lookup x=some .local:=by first | exact .inl rfl | exact .inr rfl | assumption):VG c X (.Name x pos) (gNm i):=by
 refine⟨λ Dy s σ H v u0 Q I r0 ⟨F,ds,A,T,d,r,S,o,q⟩=>qai2 hN hi hx hf Dy s σ H v u0 Q I r0 ?_,λ d ds Q Q' hQ=>hQ _⟩;obtain⟨A',S',s'⟩:=S.store hW (qo3 hi Dy σ H s I) r o;exact q _ H F A' S' s'
def Ej(te:VT)(g:VTG):VTS:=λ e ds=>te ds (λ d ds'=>g d ds' e.nx) e.xe
theorem qaN2{tg:Expr}{g:VTG}(h:VE c X e te)(hg:VG c X tg g):∀ E σ H,Ei c (Ej te g) E σ H->Hd (Bf c te) (E7 c g) E σ H:=by
 rintro E σ H ⟨F,ds,A,en,S,l,q⟩;refine⟨F,ds,A,en.xe,S,l.xe,h.m _ _ _ _ _ (λ d ds' q v H' F' T A' r S' o s=>?_) (λ _ _ z=>z) q⟩;exact⟨F',ds',A',T,d,r,S',o,hg.m _ _ _ _ (λ ds2 q σ2 H2 F2 A2 S2 s2=>l.nx ds2 σ2 H2 F2 A2 q S2 (s.trans s2)) q⟩
theorem qaa2{tg:Expr}{g:VTG}(h:VE c X e te)(hg:VG c X tg g):∀(en en':VEnds) ds,en.Le en'->Ej te g en ds->Ej te g en' ds:=λ en en' ds hl=>h.m _ _ _ _ _ (λ d ds'=>hg.m _ _ _ _ hl.nx) hl.xe
theorem Gd{tg:Expr}{g:VTG}(h:VE c X e te)(hg:VG c X tg g)(hs:swapsWithSole [tg] e pos.line X.env=pure false:=by rfl)(hw:swappedStores [tg] e X.env=pure none:=by rfl)(h1:(assignEach [tg] X.env).map (·.2)=[assign tg X.env]:=by rfl):VS c X (.Assign [tg] e pos) (Ej te g) :=
 ⟨PS.mono (qaH0 h.h hg.h hs hw h1) (qaN2 h hg),qaa2 h hg⟩
theorem Ak(i:Nat){x:Str}{pos':Pos}(hN:X.N.Nodup)(h:VE c X e te)(hW:c.W i=false:=by rfl)(hi:X.N[i]? = some x:=by rfl)(hx:Loc X.env.scope x:=by first | exact Or.inl rfl | exact Or.inr rfl)(hs:swapsWith e (some (.Name x pos')) pos.line X.env=pure false:=by rfl)(hf:X.fn x=true∨X.env.scope.names.lookup x=some .local:=by first | exact .inl rfl | exact .inr rfl | assumption) :
   VS c X (.Assign [.Name x pos'] e pos) (Ej te (gNm i)):=by
 have hg:VG c X (.Name x pos') (gNm i):=A9 i hN hW hi hx hf;refine⟨λ Dy s σ H E I q=>qaw8 hN hi hx h.h hs hf Dy s σ H E I ?_,qaa2 h hg⟩;obtain⟨F,ds,A,en,S,l,q⟩:=q;refine⟨F,ds,A,en.xe,S,l.xe,h.m _ _ _ _ _ (λ d ds' q v H' F' T A' r S' o s0=>?_) (λ _ _ z=>z) q⟩;obtain⟨A2,S2,s2⟩:=S'.store hW (qo3 hi Dy σ H s I) r o;exact l.nx _ _ H' F' A2 q S2 (s0.trans s2)
abbrev Ft:=Ds->Ds->(Ds->Prop)->Prop
inductive qaF5(c:Vc)(g:Ft)(vs:List V)(σ:St)(H:Hp)(Q:St->Hp->Prop):Prop
 | mk (F:Addr->Prop) (ds:Ds) (A T:List Addr) (xs:Ds) (r:Reps F H vs xs T) (S:Sta c F H σ ds A) (o:Ok F H (T++A)) (q:g xs ds (λ ds'=>∀ σ' H' F' A',Sta c F' H' σ' ds' A'->Stp F H (T++A) F' H' A'->Q σ' H')):qaF5 c g vs σ H Q
def qaJ7(c:Vc)(g:Ft):TGs:=qaF5 c g
structure VGs(c:Vc)(X:Cx)(es:List Expr)(g:Ft):Prop where
 h:PGs X es (qaJ7 c g)
 m:∀ xs ds (Q Q':Ds->Prop),(∀ ds',Q ds'->Q' ds')->g xs ds Q->g xs ds Q'
theorem PGs.mono{es:List Expr}{g g':TGs}(h:PGs X es g)(i:∀ v σ H Q,g' v σ H Q->g v σ H Q):PGs X es g':=λ Dy s σ H v u Q I r q=>h Dy s σ H v u Q I r (i v σ H Q q)
def Ge:Ft:=λ xs ds Q=>match xs with | []=>Q ds | _=>False
def qD6(g:VTG)(gs:Ft):Ft:=λ xs ds Q=>match xs with | x::r=>g x ds λ ds'=>gs r ds' Q | []=>False
theorem gnilV:VGs c X [] Ge:=by
 refine⟨PGs.mono qax3 λ vs σ H Q ⟨F,ds,A,T,xs,r,S,o,q⟩=>?_,λ xs ds Q Q' hQ q=>by cases xs with | nil=>exact hQ _ q | cons _ _=>exact q.elim⟩;cases xs with
 | nil=>cases r;exact⟨rfl,q σ H F A S Stp.refl⟩
 | cons _ _=>exact q.elim
theorem qae3{tg:Expr}{es:List Expr}{g:VTG}{gs:Ft}(h1:VG c X tg g)(h2:VGs c X es gs)(hs:(assignEach (tg::es) X.env).map (·.2)=assign tg X.env::(assignEach es X.env).map (·.2):=by rfl):VGs c X (tg::es) (qD6 g gs):=by
 refine⟨PGs.mono (qan9 h1.h h2.h hs) λ vs σ H Q ⟨F,ds,A,T,xs,r,S,o,q⟩=>?_,λ xs ds Q Q' hQ q=>by
   cases xs with
   | nil=>exact q.elim
   | cons x r=>exact h1.m _ _ _ _ (λ ds'=>h2.m _ _ _ _ hQ) q⟩
 cases xs with
 | nil=>exact q.elim
 | cons x xs =>
   cases r with
   | @cons v _ T1 vs _ T2 r1 rt =>
     refine⟨v,vs,rfl,F,ds,A,T1,x,r1,S,o.count λ b=>by simp only[zA0];lia,h1.m _ _ _ _ (λ ds1 q σ1 H1 F1 A1 S1 s1=>?_) q⟩;have o':Ok F H (T2++(T1++A)):=o.count λ b=>by simp only[zA0];lia
     obtain⟨o1,s2⟩:=s1.frame o' rt.cells S1.ok;have o1A:Ok F H (T1++A):=o'.right;have rt':Reps F1 H1 vs xs T2:=rt.keep (s1.kp o1A λ b hb=>by
       rcases zAf.mp hb with hb | hb
       . exact r1.cells b hb
       exact S.loc.cells b hb) λ b hb hc=>by
       have:=o'.sep b
       rw[zA0] at this
       have:=qa8.mp hb
       lia
     exact⟨F1,ds1,A1,T2,xs,rt',S1,o1,h2.m _ _ _ _ (λ ds2 q σ2 H2 F2 A2 S2 s3=>q σ2 H2 F2 A2 S2 ((s2.pre λ b=>by simp only[zA0];lia).trans s3)) q⟩
def G8(n:Nat)(gs:Ft):VTG:=λ d ds Q=>match d with | .tup xs=>xs.length=n/\gs xs ds Q | _=>False
theorem gtupV{es:List Expr}{k:Nat}{gs:Ft}(hc:X.calm=true)(h:VGs c X es gs)(hn:(assignEach es X.env).length=n:=by rfl)(hst:(assignEach es X.env).findIdx? (·.1)=none:=by rfl):VG c X (.Tuple es k pos) (G8 n gs):=by
 refine⟨PG.mono (qaH1 hc h.h hn hst) λ v σ H Q ⟨F,ds,A,T,d,r,S,o,q⟩=>?_,λ d ds Q Q' hQ q=>by
   cases d with
   | tup xs=>exact⟨q.1,h.m _ _ _ _ hQ q.2⟩
   | _=>exact q.elim⟩
 cases d with
 | tup xs =>
   obtain⟨a,vs,rfl,ha,rs⟩:=r.tup_inv;exact⟨a,vs,rfl,.inl (.inl ha),by rw[rs.len];exact q.1,F,ds,A,T,xs,rs,S,o,q.2⟩
 | _=>exact q.elim
end
section
variable{c:Vc}{F:Addr->Prop}{H:Hp}{σ:St}{ds:Ds}{A T:List Addr}
theorem qE9{a:Addr}{o o':HO}(h:H a=some o)(hm:Eg o=true)(hf:¬ F a):Kp F H (λ b=>b=a) F (upd H a o') :=
 ⟨λ b u e w=>by rw[qb3 w];exact e,λ b w=>by subst w;exact⟨o,h,hm⟩,λ b w=>by subst w;exact hf,λ _ f=>f⟩
theorem Reps.setAt{ys:List D}{Tv:List Addr}{d:D}(r:Reps F H vs ys Ael)(hn:n < ys.length)(rv:Rep F H v d Tv):∃ B,Reps F H (vs.set n v) (ys.set n d) B/\∀ b,B.count b<=Ael.count b+Tv.count b:=by
 obtain⟨vs1,w,vs2,ys1,ys2,A1,B,A2,e1,e2,e3,e4,e5,l1,l2,l3⟩:=r.split (i:=n) (d:=ys[n]) (by simp);have e6:ys.set n d=ys1++d::ys2:=by
   have:=congrArg (λ l=>l.set n d) e2
   rw[this,ql4 e4]
 rw[e1,ql4 e3,e6];exact⟨A1++(Tv++A2),l1.append (.cons rv l3),λ b=>by rw[e5];simp only[zA0];lia⟩
theorem qv3{ys:List D}{B:List Addr}(r:Rep F H v (.lst false ys) B):∃ a vs Ael,v=.ref a/\H a=some (.lst vs)/\Reps F H vs ys Ael/\B=a::Ael:=by
 cases r with
 | lst h r=>exact⟨_,_,_,rfl,h,r,rfl⟩
theorem qj0{p:List Nat}{ys:List D}{u:V}(S:Sta c F H σ ds A)(h:A6 ds i p=some (.lst false ys))(hu:(σ++c.gv)[i]? = some (some u))(hw:Walk H u p w) :
   ∃(a:Addr)(vs:List V)(Ael:List Addr),w=.ref a/\H a=some (.lst vs)/\Reps F H vs ys Ael /\
   ∀(vs':List V)(ys':List D)(B' R T:List Addr),Ok F H (T++A)->Reps F H vs' ys' B'->(∀ b,B'.count b+R.count b<=Ael.count b+T.count b) ->
     (∃ A',Sta c F (upd H a (.lst vs')) σ (Bp ds i p (.lst false ys')) A'/\Ok F (upd H a (.lst vs')) (R++A')/\Stp F H (T++A) F (upd H a (.lst vs')) (R++A'))/\∀ v d,Rep F H v d R->Rep F (upd H a (.lst vs')) v d R:=by
 obtain⟨B,C,r,h3,h4⟩:=S.place h (by intro z;cases z) hu hw;obtain⟨a,vs,Ael,rfl,ha,rs,rfl⟩:=qv3 r;refine⟨a,vs,Ael,rfl,ha,rs,λ vs' ys' B' R T ok r' hc=>?_⟩;have h3':∀ b,A.count b=(if b=a then 1 else 0)+Ael.count b+C.count b:=λ b=>by
   rw[h3,zAh];by_cases hb:b=a
   . subst hb;simp;lia
   simp[hb,Ne.symm hb]
 have ha3:=h3' a;rw[if_pos rfl] at ha3;have sa:=ok.sep a;rw[zA0] at sa;have hca:=hc a;have hf:¬ F a:=λ f=>by have:=ok.fro a f;rw[zA0] at this;lia
 have k:=qE9 (F:=F) (o':=.lst vs') ha rfl hf;have rep':Rep F (upd H a (.lst vs')) (.ref a) (.lst false ys') (a::B'):=.lst qb1 (r'.keep k λ b hb w=>by subst w;have:=qa8.mp hb;lia);obtain⟨A',q1,q2⟩:=h4 _ _ k (λ b hb w=>by subst w;have:=qa8.mp hb;lia) rep';have q2':∀ b,A'.count b=(if b=a then 1 else 0)+B'.count b+C.count b:=λ b=>by
   rw[q2,zAh];by_cases hb:b=a
   . subst hb;simp;lia
   simp[hb,Ne.symm hb]
 have hcnt:∀ b,(R++A').count b<=(T++A).count b:=λ b=>by rw[zA0,zA0,q2',h3'];have:=hc b;lia
 have ex:∀ b,F b->∃ o,upd H a (.lst vs') b=some o:=λ b f=>by
   obtain⟨x,e⟩:=ok.ex b f;exact⟨x,by rw[qb3 (show b≠a from λ w=>hf (w ▸ f))];exact e⟩
 have o4:Ok F (upd H a (.lst vs')) (R++A'):=⟨λ b=>zAl (hcnt b) (ok.sep b),λ b f=>by have:=ok.fro b f;have:=hcnt b;lia,ex⟩
 refine⟨⟨A',⟨q1,o4.right,S.len,S.ag⟩,o4,λ b u e z=>?_,λ b u e z=>by have:=hcnt b;lia,λ _ f=>f,λ _ _ _ _ f=>f⟩,λ v d rv=>rv.keep k λ b hb w=>by subst w;have:=qa8.mp hb;lia⟩;rw[qb3 λ w=>?_]
 . exact e
 subst w;have:=h3' b;rw[if_pos rfl] at this;rw[zA0] at z;lia
def Gf(r:V->List V->Hp->VK->Prop)(g:Ds->Ds->Option (Ds×D)):Prop:=∀ F H a vs ys Ael ws xs T ys' d (Q:VK),H a=some (.lst vs)->Reps F H vs ys Ael->Reps F H ws xs T->g ys xs=some (ys',d) ->
 (∀ vs' v B' R,Reps F H vs' ys' B'->Rep F H v d R->(∀ b,B'.count b+R.count b<=Ael.count b+T.count b)->Q v (upd H a (.lst vs')))->r (.ref a) ws H Q
def Hj(ys xs:Ds):Option (Ds×D):=match xs with
 | [x]=>if ys.length < big then some (ys++[x],.non) else none
 | _=>none
theorem qac9:Gf qah5 Hj:=by
 intro F H a vs ys Ael ws xs T ys' d Q ha r rx h q
 match xs,h with
 | [x],h =>
   obtain⟨w,rfl,rw'⟩:=rx.one_inv;have h:(if ys.length < big then some (ys++[x],D.non) else none)=some (ys',d):=h;by_cases hl:ys.length < big
   . rw[if_pos hl] at h
     cases h;refine⟨a,vs,w,rfl,rfl,ha,by rw[r.len];exact zAa hl qf3,?_⟩;exact q _ .non (Ael++(T++[])) [] (r.append (.cons rw' .nil)) .non λ b=>by simp[zA0]
   rw[if_neg hl] at h;cases h
def gPop(ys xs:Ds):Option (Ds×D):=match xs with
 | []=>(ys[ys.length - 1]?).map λ d=>(ys.dropLast,d)
 | _=>none
theorem Reps.last{ys:Ds}{d:D}(r:Reps F H vs ys Ael)(h:ys[ys.length - 1]? = some d):∃ v B R,vs[vs.length - 1]? = some v/\Reps F H vs.dropLast ys.dropLast B/\Rep F H v d R/\∀ b,B.count b+R.count b<=Ael.count b:=by
 obtain⟨vs1,v,vs2,ys1,ys2,A1,B,A2,e1,e2,e3,e4,e5,l1,l2,l3⟩:=r.split h;have hy:ys2=[]:=by
   have:=congrArg List.length e2
   rw[zAj,zAk,e4] at this;cases ys2 with
   | nil=>rfl
   | cons _ _=>simp at this;lia
 subst hy;cases l3;refine⟨v,A1,B,?_,?_,l2,λ b=>by rw[e5];simp only[zA0,List.count_nil];lia⟩
 . rw[e1]
   simp
 rw[e1,e2,List.dropLast_concat,List.dropLast_concat];exact l1
theorem qaJ2:Gf rPop gPop:=by
 intro F H a vs ys Ael ws xs T ys' d Q ha r rx h q
 match xs,h with
 | [],h =>
   cases rx;obtain⟨e,h1,h2⟩:=zAm.mp h;cases h2;obtain⟨v,B,R,h3,h4,h5,h6⟩:=r.last h1;exact⟨a,vs,v,rfl,rfl,ha,h3,q _ v B R h4 h5 λ b=>by have:=h6 b;lia⟩
def gIns(ys xs:Ds):Option (Ds×D):=match xs with
 | [.int i,x]=>if 0<=i/\i < 1000000/\ys.length < big then some (ys.take i.toNat++x::ys.drop i.toNat,.non) else none
 | _=>none
theorem Reps.cut{ys:Ds}(r:Reps F H vs ys Ael)(n:Nat):∃ B C,Reps F H (vs.take n) (ys.take n) B/\Reps F H (vs.drop n) (ys.drop n) C/\∀ b,Ael.count b=B.count b+C.count b:=by
 induction n generalizing vs ys Ael with
 | zero=>exact⟨[],Ael,.nil,r,λ b=>by simp⟩
 | succ n ih =>
   cases r with
   | nil=>exact⟨[],[],.nil,.nil,λ b=>by simp⟩
   | cons h t =>
     obtain⟨B,C,q1,q2,q3⟩:=ih t;exact⟨_++B,C,.cons h q1,q2,λ b=>by simp only[zA0,q3];lia⟩
theorem qaJ3:Gf qah4 gIns:=by
 intro F H a vs ys Ael ws xs T ys' d Q ha r rx h q;unfold gIns at h;split at h
 . rename_i i x
   obtain⟨w1,w2,T1,T2,rfl,r1,r2,hc⟩:=rx.two_inv;cases r1;have h:(if 0<=i/\i < 1000000/\ys.length < big then some (ys.take i.toNat++x::ys.drop i.toNat,D.non) else none)=some (ys',d):=h;by_cases hl:0<=i/\i < 1000000/\ys.length < big
   . rw[if_pos hl] at h
     cases h;obtain⟨B,C,q1,q2,q3⟩:=r.cut i.toNat;refine⟨a,vs,w2,i,rfl,rfl,ha,hl.1,by lia,by rw[r.len];exact zAa hl.2.2 qf3,?_⟩;exact q _ .non (B++(T2++C)) [] (q1.append (.cons r2 q2)) .non λ b=>by simp only[zA0,List.count_nil];have:=q3 b;have:=hc b;lia
   rw[if_neg hl] at h;cases h
 cases h
end
section
variable{c:Vc}{X:Cx}{a b e o:Expr}{pf:PF}{tr:VTB}{es:List Expr}{r:V->List V->Hp->VK->Prop}{g:Ds->Ds->Option (Ds×D)}
def D.own:D->Option Ds
 | .lst false ys=>some ys
 | _=>none
theorem qU8{d:D}{ys:Ds}(h:d.own=some ys):d=.lst false ys:=by
 cases d with
 | lst z xs=>cases z with
   | false=>cases h;rfl
   | true=>cases h
 | _=>cases h
def Er(g:Ds->Ds->Option (Ds×D))(i:Nat)(tr:VTB):VT:=λ ds Q xe=>((rdN i ds).bind D.own).isSome=true/\tr ds (λ xs _ ds1=>orF ((rdN i ds1).bind D.own) λ ys=>orF (g ys xs) λ z=>Q z.2 (ds1.set i (.lst false z.1))) xe
theorem qA6{ds:Ds}{d:D}(h:ds[i]? = some d):A6 ds i []=some d:=by unfold A6;rw[h];rfl
theorem qy2{ds:Ds}{d x:D}(h:ds[i]? = some d):Bp ds i [] x=ds.set i x:=by unfold Bp;rw[h];rfl
theorem qai7{T:String}(hT:T = "list"){σ:St}{H:Hp}(hm:Gf r g)(ha:VAs c X es tr)(hi:i < σ.length)(q:Bf c (Er g i tr) σ H Q):tBM X.K T r (Ev i) (E4 c tr) σ H Q:=by
 subst hT;obtain⟨F,ds,A,xe,S,x,hs,q⟩:=q;obtain⟨ys0,hys0⟩:=zB9.mp hs;obtain⟨d0,e0,e0'⟩:=zA1.mp hys0;cases qU8 e0';obtain⟨v,B0,hv,r0,_⟩:=S.name hi e0;obtain⟨a,vs0,A0,rfl,ha0,_,_⟩:=r0.lst_inv;refine⟨.ref a,hv,.inl ⟨rfl,vs0,.inl (.inl ha0)⟩,F,ds,A,xe,S,x,ha.m _ _ _ _ _ (λ xs ps ds1 q vs H1 F1 T A1 r1 pk S1 o1 s1=>?_) (λ _ _ z=>z) q⟩;obtain⟨ys,e1,q⟩:=qa6.mp q;obtain⟨d1,e2,e3⟩:=zA1.mp e1;cases qU8 e3;obtain⟨⟨ys',d⟩,e4,q⟩:=qa6.mp q;obtain⟨e5,hk⟩:=qj8.mp e2;have hu:(σ++c.gv)[i]? = some (some (.ref a)):=by rw[zAr hi];exact hv
 obtain⟨a2,vs2,Ael,ea,ha2,rs,wr⟩:=qj0 S1 (qA6 e5) hu (p:=[]) (w:=.ref a) rfl;cases ea;refine hm F1 H1 a vs2 ys Ael vs xs T ys' d Q ha2 rs r1 e4 λ vs' v B' R h1 h2 h3=>?_
 obtain⟨⟨A',S2,o2,s2⟩,kr⟩:=wr vs' ys' B' R T o1 h1 h3;rw[qy2 e5] at S2;exact q v _ F1 R A' (kr v d h2) S2 o2 (s1.trans s2)
theorem qL2(ha:VAs c X es tr):∀ ds (Q Q':DK) (xe xe':XKd),(∀ d ds',Q d ds'->Q' d ds')->(∀ x ds',xe x ds'->xe' x ds')->Er g i tr ds Q xe->Er g i tr ds Q' xe' :=
 λ ds Q Q' xe xe' hQ hx=>And.imp_right (ha.m _ _ _ _ _ (λ xs ps ds1=>qa5 λ y=>qa5 λ z=>hQ _ _) hx)
theorem qaa5{F F':Addr->Prop}{H H':Hp}{W:Addr->Prop}(k:Kp F H W F' H'):∀{p:List Nat}{v0:V}{d0 d:D}{B:List Addr}{w w':V},(∀ b∈B,¬ W b)->Rep F H v0 d0 B->d0.getP p=some d->Walk H v0 p w->Walk H' v0 p w'->w'=w:=by
 intro p
 induction p with
 | nil=>intro v0 d0 d B w w' _ _ _ h h';cases h;cases h';rfl
 | cons n p ih =>
   intro v0 d0 d B w w' hB r hg h h';unfold D.getP at hg;cases hk:d0.kids[n]? with
   | none=>rw[hk] at hg;cases hg
   | some e =>
     rw[hk] at hg;obtain⟨x,l1,h1⟩:=h;obtain⟨x',l1',h1'⟩:=h';obtain⟨y,B1,C1,m1,m2,m3,_⟩:=r.kid hk;obtain⟨y',B1',C1',m1',_,_,_⟩:=(r.keep k hB).kid hk;cases l1.fn m1;cases l1'.fn m1';have hlk:Lnk H' v0 n x:=by
       obtain⟨a,rfl,hh⟩:=m1;refine⟨a,rfl,?_⟩;cases r with
       | tup e0 _ =>
         rcases hh with⟨vs,e,h⟩ | ⟨vs,e,h⟩ | ⟨vs,e,h⟩ | ⟨C,dx,vs,e,h⟩
         . exact .inl ⟨vs,k.tup e,h⟩
         . rw[e0] at e;cases e
         . rw[e0] at e;cases e
         rw[e0] at e;cases e
       | lst e0 _ =>
         have k0:=k.fr _ _ e0 (hB _ zAd);rcases hh with⟨vs,e,h⟩ | ⟨vs,e,h⟩ | ⟨vs,e,h⟩ | ⟨C,dx,vs,e,h⟩
         . rw[e0] at e;cases e
         . rw[e0] at e;cases e;exact .inr (.inl ⟨_,k0,h⟩)
         . rw[e0] at e;cases e
         rw[e0] at e;cases e
       | dct e0 _ _ =>
         have k0:=k.fr _ _ e0 (hB _ zAd);rcases hh with⟨vs,e,h⟩ | ⟨vs,e,h⟩ | ⟨vs,e,h⟩ | ⟨C,dx,vs,e,h⟩
         . rw[e0] at e;cases e
         . rw[e0] at e;cases e
         . rw[e0] at e;cases e;exact .inr (.inr (.inl ⟨_,k0,h⟩))
         rw[e0] at e;cases e
       | ins e0 _ _ =>
         have k0:=k.fr _ _ e0 (hB _ zAd);rcases hh with⟨vs,e,h⟩ | ⟨vs,e,h⟩ | ⟨vs,e,h⟩ | ⟨C,dx,vs,e,h⟩
         . rw[e0] at e;cases e
         . rw[e0] at e;cases e
         . rw[e0] at e;cases e
         rw[e0] at e;cases e;exact .inr (.inr (.inr ⟨_,_,_,k0,h⟩))
       | _=>simp[D.kids] at hk
     cases hlk.fn m1';exact ih (B:=B1) (λ b hb=>hB b (qa8.mpr (by have:=m3 b;have:=qa8.mp hb;lia))) m2 hg h1 h1'
def Fk(g:Ds->Ds->Option (Ds×D))(pf:PF)(tr:VTB):VT:=λ ds Q xe=>orF (pf ds) λ q=>orF ((A6 ds q.1 q.2).bind D.own) λ ys=>orF ds[q.1]? λ d0=>tr (ds.set q.1 .unk) (λ xs _ ds1=>orF (g ys xs) λ z=>Q z.2 (Bp (ds1.set q.1 d0) q.1 q.2 (.lst false z.1))) xe
theorem qac8(ha:VAs c X es tr):∀ ds (Q Q':DK) (xe xe':XKd),(∀ d ds',Q d ds'->Q' d ds')->(∀ x ds',xe x ds'->xe' x ds')->Fk g pf tr ds Q xe->Fk g pf tr ds Q' xe' :=
 λ ds Q Q' xe xe' hQ hx=>qa5 λ q=>qa5 λ ys=>qa5 λ d0=>ha.m _ _ _ _ _ (λ xs ps ds1=>qa5 λ z=>hQ _ _) hx
theorem qaz9(hm:Gf r g)(ha:VAs c X es tr):∀ σ H Q,Bf c (Fk g pf tr) σ H Q->tBM X.K "list" r (liftP c pf) (E4 c tr) σ H Q:=by
 rintro σ H Q ⟨F,ds,A,xe,S,x,q⟩;obtain⟨⟨i,p⟩,e1,q⟩:=qa6.mp q;obtain⟨ys,e2,q⟩:=qa6.mp q;obtain⟨dl,e3,e4⟩:=zA1.mp e2;cases qU8 e4;obtain⟨d0,e5,q⟩:=qa6.mp q;refine⟨F,ds,A,i,p,_,S,e1,e3,D.noConfusion,λ u w H1 hu hw s0=>?_⟩;have S0:=S.same s0;obtain⟨a,vs0,Ael0,rfl,ha0,rs0,_⟩:=qj0 S0 e3 hu hw;refine⟨.inl ⟨rfl,vs0,.inl (.inl ha0)⟩,?_⟩;have hd0:d0≠.unk:=λ z=>by
   subst z;have e3':=e3;unfold A6 at e3';rw[e5] at e3';cases (qX7 e3').2
 obtain⟨u',B,C,h1,h2,h3,h4⟩:=S0.put1 e5 hd0;rw[hu] at h1;cases h1;obtain⟨A1,q1,q2⟩:=h4 .unk [] (Kp.same (F:=F) λ _ _ z=>z) (λ _ _ z=>z) (.unk u);have o1:Ok F H1 (B++A1):=S0.ok.count λ b=>by rw[zA0,q2,h3];simp
 have s1:Stp F H A F H1 (B++A1):=⟨λ b o e _=>s0 b o e,λ b o e z=>by rw[zA0,q2];have:=h3 b;simp;lia,λ _ f=>f,λ _ _ _ _ f=>f⟩
 have S1:Sta c F H1 σ (ds.set i .unk) A1:=⟨q1,o1.right,S.len,S.ag⟩
 have s1':Stp F H A F H1 A1:=s1.count λ b=>by rw[zA0];lia
 refine⟨F,_,A1,xe,S1,x.step s1',ha.m _ _ _ _ _ (λ xs ps ds2 q vs H2 F2 T2 A2 r2 pk S2 o2 s2=>?_) (λ _ _ z=>z) q⟩;obtain⟨⟨ys',d⟩,e7,q⟩:=qa6.mp q;have kp:=s2.kp S1.ok S1.loc.cells;have hBout:∀ b∈B,¬ (A1.count b≠0):=λ b hb hc=>by
   have:=o1.sep b
   rw[zA0] at this
   have:=qa8.mp hb
   lia
 have r1':Rep F2 H2 u d0 B:=h2.keep kp hBout;obtain⟨o3,s3⟩:=s2.frame o1 h2.cells o2;obtain⟨A3,k1,k2⟩:=qy1 S2.loc hu r1';have hc3:∀ b,A3.count b<=B.count b+A2.count b:=k2;have o4:Ok F2 H2 (T2++A3):=o3.count λ b=>by simp only[zA0];have:=hc3 b;lia
 have s4:Stp F H A F2 H2 (T2++A3):=(s1.trans s3).count λ b=>by simp only[zA0];have:=hc3 b;lia
 have S3:Sta c F2 H2 σ (ds2.set i d0) A3:=⟨k1,o4.right,S.len,S.ag⟩
 have hlen:i < ds2.length:=by rw[<- S2.loc.len];exact(zA7.mp hu).1
 have e8:A6 (ds2.set i d0) i p=some (.lst false ys):=by
   unfold A6 at e3 ⊢;rw[e5] at e3;rw[zB0 hlen];exact e3
 have hw2:Walk H2 u p (.ref a):=by
   obtain⟨w',_,_,w1,_,_,_⟩:=h2.path (p:=p) (d:=.lst false ys) (by unfold A6 at e3;rw[e5] at e3;exact e3);cases hw.fn w1;obtain⟨w2,_,_,w3,_,_,_⟩:=r1'.path (p:=p) (d:=.lst false ys) (by unfold A6 at e3;rw[e5] at e3;exact e3)
   have:w2=.ref a:=by
     refine qaa5 (d:=.lst false ys) kp hBout h2 ?_ w1 w3;unfold A6 at e3;rw[e5] at e3;exact e3
   rw[<- this];exact w3
 obtain⟨a2,vs2,Ael,ea,ha2,rs,wr⟩:=qj0 S3 e8 hu hw2;cases ea;refine hm F2 H2 a vs2 ys Ael vs xs T2 ys' d Q ha2 rs r2 e7 λ vs' v B' R z1 z2 z3=>?_
 obtain⟨⟨A',S4,o5,s5⟩,kr⟩:=wr vs' ys' B' R T2 o4 z1 z3;exact q v _ F2 R A' (kr v d z2) S4 o5 (s4.trans s5)
end
section
variable{c:Vc}{X:Cx}{a b e o:Expr}{pos cpos apos:Pos}{pf:PF}{tr:VTB}{es:List Expr}{fb:FV}{ob:Bool}{r:V->List V->Hp->VK->Prop}{g:Ds->Ds->Option (Ds×D)}{name:Str}{id:String}
theorem Im(i:Nat){x:Str}{p0:Pos}(hg:Gf r g)(pa:PlainAttrs "list")(slot:Slot "list" name id)(hty:typeOf (.builtin id)=pure (.type "method_descriptor"))(hm:MtM X id r)(ha:VAs c X (e::es) tr)(hN:X.N[i]? = some x:=by rfl)(hv:Vis X.env.scope x:=by first | exact Or.inl rfl | exact Or.inr (Or.inl rfl) | exact Or.inr (Or.inr rfl))(hd:(x == ("__debug__" : Str))=false:=by decide)(hcd:(x == ("__classdict__" : Str))=false:=by decide)(hbase:attributeBase (.Name x p0) name X.env (eval (.Name x p0) X.env)=eval (.Name x p0) X.env:=by rfl)(hfew:((backTo cpos (starEach (e::es) X.env)).all (λ x=>!x.1)&&(backToKw cpos (keywordEach [] X.env)).all (λ x=>x.1.isSome)
     && decide ((e::es).length+([]:List Keyword).length+(if ([]:List Keyword).isEmpty then 0 else 1) < 30))=true:=by rfl)(hline:(apos.endLine == cpos.line)=true:=by rfl)(hs:starEach (e::es) X.env=(false,eval e X.env)::starEach es X.env:=by rfl)(hplain:(backTo cpos (starEach es X.env)).any (·.1)=false:=by rfl) :
   VE c X (.Call (.Attribute (.Name x p0) name apos) (e::es) [] cpos) (Er g i tr) :=
 ⟨λ Dy s σ H Q I q=>pe_bm pa slot hty hm (qq0 hN hv hd hcd) ha.h hbase hfew hline hs hplain Dy s σ H Q I (qai7 rfl hg ha (qo3 hN Dy σ H s I) q),qL2 ha⟩
theorem qaM3(i:Nat){x:Str}{p0:Pos}(hg:Gf r g)(pa:PlainAttrs "list")(slot:Slot "list" name id)(hty:typeOf (.builtin id)=pure (.type "method_descriptor"))(hm:MtM X id r)(hN:X.N[i]? = some x:=by rfl)(hv:Vis X.env.scope x:=by first | exact Or.inl rfl | exact Or.inr (Or.inl rfl) | exact Or.inr (Or.inr rfl))(hd:(x == ("__debug__" : Str))=false:=by decide)(hcd:(x == ("__classdict__" : Str))=false:=by decide)(hbase:attributeBase (.Name x p0) name X.env (eval (.Name x p0) X.env)=eval (.Name x p0) X.env:=by rfl)(hline:(apos.endLine == cpos.line)=true:=by rfl) :
   VE c X (.Call (.Attribute (.Name x p0) name apos) [] [] cpos) (Er g i A4) :=
 ⟨λ Dy s σ H Q I q=>qaI0 pa slot hty hm (qq0 hN hv hd hcd) hbase hline Dy s σ H Q I (by
   obtain⟨v,hv,hty,F,ds,A,xe,S,x,q⟩:=qai7 (X:=X) rfl hg Aa (qo3 hN Dy σ H s I) q;exact⟨v,hv,hty,q [] H F [] A .nil .nil S S.ok Stp.refl⟩),qL2 (c:=c) (X:=X) Aa⟩
theorem emutP(hg:Gf r g)(pa:PlainAttrs "list")(slot:Slot "list" name id)(hty:typeOf (.builtin id)=pure (.type "method_descriptor"))(hm:MtM X id r)(ho:VP c X o pf)(ha:VAs c X (e::es) tr)(hbase:attributeBase o name X.env (eval o X.env)=eval o X.env:=by rfl)(hfew:((backTo cpos (starEach (e::es) X.env)).all (λ x=>!x.1)&&(backToKw cpos (keywordEach [] X.env)).all (λ x=>x.1.isSome)
     && decide ((e::es).length+([]:List Keyword).length+(if ([]:List Keyword).isEmpty then 0 else 1) < 30))=true:=by rfl)(hline:(apos.endLine == cpos.line)=true:=by rfl)(hs:starEach (e::es) X.env=(false,eval e X.env)::starEach es X.env:=by rfl)(hplain:(backTo cpos (starEach es X.env)).any (·.1)=false:=by rfl) :
   VE c X (.Call (.Attribute o name apos) (e::es) [] cpos) (Fk g pf tr) :=
 ⟨PE.mono (pe_bm pa slot hty hm ho.h ha.h hbase hfew hline hs hplain) (qaz9 hg ha),qac8 ha⟩
def Es(pf:PF)(fb:FV):VTG:=λ d ds Q=>orF (pf ds) λ q=>orF ((A6 ds q.1 q.2).bind D.own) λ ys=>orF ((fb ds).bind D.asI) λ k=>orF (ixN ys.length k) λ n=>Q (Bp ds q.1 q.2 (.lst false (ys.set n d)))
theorem Et(ho:VP c X o pf)(hi:VV c X b ob fb)(ha:∀ v,assign (.Subscript o b pos) X.env v=(do
     let ov <- holding [v] (eval o X.env)
     let iv <- holding [v,ov] (eval b X.env)
     standAt pos
     holding [v,ov,iv] (setItem ov iv v)
     release [v,ov,iv] []):=by intro _;rfl):VG c X (.Subscript o b pos) (Es pf fb):=by
 refine⟨PG.mono (qaH2 ho.h hi.h qS8 ha) λ v σ H Q ⟨F,ds,A,T,d,r,S,ok,q⟩=>?_,λ d ds Q Q' hQ=>qa5 λ _=>qa5 λ _=>qa5 λ _=>qa5 λ _=>hQ _⟩;obtain⟨⟨i,p⟩,e1,q⟩:=qa6.mp q;obtain⟨ys,e2,q⟩:=qa6.mp q;obtain⟨dl,e3,e4⟩:=zA1.mp e2;cases qU8 e4;obtain⟨k,e5,q⟩:=qa6.mp q;obtain⟨dk,e6,e7⟩:=zA1.mp e5;obtain⟨n,e8,q⟩:=qa6.mp q;refine⟨F,ds,A,i,p,_,S,e1,e3,D.noConfusion,λ u w H1 hu hw s1=>⟨F,ds,A,dk,S.same s1,e6,λ vk H2 B2 r2 s2 _=>?_⟩⟩;have s12:=s1.trans s2;have S2:=S.same s12;cases r2.asI e7;obtain⟨a,vs,Ael,rfl,ha,rs,wr⟩:=qj0 S2 e3 hu (hw.same s2);have hn:n < ys.length:=(qL8 e8).2.1;obtain⟨B',r3,h3⟩:=rs.setAt hn (r.same s12);obtain⟨⟨A',S3,o3,s3⟩,_⟩:=wr _ _ B' [] T (ok.same s12) r3 λ b=>by have:=h3 b;simp;lia
 exact⟨a,vs,k,n,rfl,rfl,ha,by rw[rs.len];exact e8,q σ _ F A' S3 ((Stp.same s12).trans s3)⟩
def sAugV(f:Int->Int->Int)(pf:PF)(fb fe:FV):VTS:=λ e ds=>orF (pf ds) λ q=>orF ((A6 ds q.1 q.2).bind D.own) λ ys=>orF ((fb ds).bind D.asI) λ k=>0<=k/\orF ((ys[k.toNat]?).bind D.asI) λ x=>orF ((fe ds).bind D.asI) λ y=>e.nx (Bp ds q.1 q.2 (.lst false (ys.set k.toNat (.int (f x y)))))
theorem saug{op:Operator}{f:Int->Int->Int}{fe:FV}{oe:Bool}{tpos:Pos}(ho:VP c X o pf)(hi:VV c X b ob fb)(he:VV c X e oe fe)(hp:PIp X op (ipI f))(ha:∀ ov iv new,augStore b ov iv new=(do holding [new,ov,iv] (setItem ov iv new);release [new,ov,iv] [];pure .next):=by intros;rfl):VS c X (.AugAssign (.Subscript o b tpos) op e pos) (sAugV f pf fb fe):=by
 refine⟨PS.mono (qax0 ho.h hi.h qar7 he.h hp qS8 ha) λ E σ H ⟨F,ds,A,en,S,l,q⟩=>?_,λ en en' ds hl=>qa5 λ _=>qa5 λ _=>qa5 λ _=>And.imp_right (qa5 λ _=>qa5 λ _=>hl.nx _)⟩;obtain⟨⟨i,p⟩,e1,q⟩:=qa6.mp q;obtain⟨ys,e2,q⟩:=qa6.mp q;obtain⟨dl,e3,e4⟩:=zA1.mp e2;cases qU8 e4;obtain⟨k,e5,h0,q⟩:=qa6.mp q;obtain⟨dk,e6,e7⟩:=zA1.mp e5;obtain⟨x,e8,q⟩:=qa6.mp q;obtain⟨dx,e9,e10⟩:=zA1.mp e8;obtain⟨y,e11,q⟩:=qa6.mp q;obtain⟨dy,e12,e13⟩:=zA1.mp e11;refine⟨F,ds,A,i,p,_,S,e1,e3,D.noConfusion,λ u w H1 hu hw s1=>⟨F,ds,A,dk,S.same s1,e6,λ vk H2 B2 r2 s2 _=>?_⟩⟩;have s12:=s1.trans s2;cases r2.asI e7;obtain⟨a,vs,Ael,rfl,ha2,rs2,_⟩:=qj0 (S.same s12) e3 hu (hw.same s2);obtain⟨vx,Bx,hx,rx,_⟩:=rs2.get e9;cases rx.asI e10;refine⟨a,vs,k,_,rfl,rfl,ha2,h0,hx,F,ds,A,dy,S.same s12,e12,λ vy H3 B3 r3 s3 _=>?_⟩;cases r3.asI e13;have s13:=s12.trans s3;have S3:=S.same s13;obtain⟨a',vs',Ael',ea,ha3,rs3,wr⟩:=qj0 S3 e3 hu ((hw.same s2).same s3);cases ea;have hn:k.toNat < ys.length:=(zA7.mp e9).1;obtain⟨B',r4,h4⟩:=rs3.setAt hn (.int (f x y));obtain⟨⟨A',S4,o4,s4⟩,_⟩:=wr _ _ B' [] [] S3.ok r4 λ b=>by have:=h4 b;simpa using this
 refine⟨x,y,rfl,rfl,a,vs',k,k.toNat,rfl,rfl,ha3,?_,l.nx _ σ _ F A' q S4 ((Stp.same s13).trans s4)⟩;rw[rs3.len];unfold ixN;rw[if_pos h0,if_pos (by lia)]
def Fl(f:Str)(d:D):List (Str×D)->List (Str×D)
 | []=>[(f,d)]
 | (g,x)::r=>if g=f then (g,d)::r else (g,x)::Fl f d r
end
section
variable{c:Vc}{X:Cx}{F:Addr->Prop}{H:Hp}{σ:St}{ds:Ds}{A T:List Addr}{a b e o:Expr}{pos:Pos}{te:VT}{pf:PF}
theorem qK6:∀{fvs:List (Str×V)}{fds:List (Str×D)}{B Tv:List Addr}{f:Str}{v:V}{d:D},fvs.map (·.1)=fds.map (·.1)->Reps F H (fvs.map (·.2)) (fds.map (·.2)) B->Rep F H v d Tv->(Bh f v fvs).map (·.1)=(Fl f d fds).map (·.1)/\∃ B',Reps F H ((Bh f v fvs).map (·.2)) ((Fl f d fds).map (·.2)) B'/\∀ b,B'.count b<=B.count b+Tv.count b
 | [],[],B,Tv,f,v,d,_,r,rv=>⟨rfl,Tv++[],.cons rv .nil,λ b=>by simp⟩
 | [],_::_,_,_,_,_,_,h,_,_=>by simp at h
 | _::_,[],_,_,_,_,_,h,_,_=>by simp at h
 | (k,w)::r,(k',x)::r',B,Tv,f,v,d,h,rs,rv=>by
   have h1:k=k':=by simp at h;exact h.1
   have h2:r.map (·.1)=r'.map (·.1):=by simp at h;simpa using h.2
   subst h1;cases rs with
   | @cons _ _ B1 _ _ B2 q t =>
     by_cases hk:k=f
     . simp only[Bh,Fl,if_pos hk,zAz,h2,true_and]
       exact⟨Tv++B2,.cons rv t,λ b=>by simp only[zA0];lia⟩
     obtain⟨m1,B',m2,m3⟩:=qK6 (f:=f) h2 t rv;simp only[Bh,Fl,if_neg hk,zAz,m1,true_and];exact⟨B1++B',.cons q m2,λ b=>by simp only[zA0];have:=m3 b;lia⟩
def D.ownI(C:Addr):D->Option (List (Str×D))
 | .ins false C' fs=>if C'=C then some fs else none
 | _=>none
theorem qay7{d:D}{C:Addr}{fs:List (Str×D)}(h:d.ownI C=some fs):d=.ins false C fs:=by
 cases d with
 | ins z C' xs=>cases z with
   | false =>
     have h:(if C'=C then some xs else none)=some fs:=h;by_cases hc:C'=C
     . rw[if_pos hc] at h;cases h;rw[hc]
     rw[if_neg hc] at h;cases h
   | true=>cases h
 | _=>cases h
theorem qay6{p:List Nat}{C:Addr}{fds:List (Str×D)}{u:V}(S:Sta c F H σ ds A)(h:A6 ds i p=some (.ins false C fds))(hu:(σ++c.gv)[i]? = some (some u))(hw:Walk H u p w) :
   ∃(a dx:Addr)(fvs:List (Str×V))(Ael:List Addr),w=.ref a/\H a=some (.ins C dx fvs)/\fvs.map (·.1)=fds.map (·.1)/\Reps F H (fvs.map (·.2)) (fds.map (·.2)) Ael /\
   ∀(fvs':List (Str×V))(fds':List (Str×D))(B' T:List Addr),Ok F H (T++A)->fvs'.map (·.1)=fds'.map (·.1)->Reps F H (fvs'.map (·.2)) (fds'.map (·.2)) B'->(∀ b,B'.count b<=Ael.count b+T.count b) ->
     ∃ A',Sta c F (upd H a (.ins C dx fvs')) σ (Bp ds i p (.ins false C fds')) A'/\Stp F H (T++A) F (upd H a (.ins C dx fvs')) A':=by
 obtain⟨B,C0,r,h3,h4⟩:=S.place h D.noConfusion hu hw;cases r with
 | @ins a _ dx fvs _ Ael ha hk rs =>
 refine⟨a,dx,fvs,Ael,rfl,ha,hk,rs,λ fvs' fds' B' T ok hk' r' hc=>?_⟩;have h3':∀ b,A.count b=(if b=a then 1 else 0)+Ael.count b+C0.count b:=λ b=>by
   rw[h3,zAh];by_cases hb:b=a
   . subst hb;simp;lia
   simp[hb,Ne.symm hb]
 have ha3:=h3' a;rw[if_pos rfl] at ha3;have sa:=ok.sep a;rw[zA0] at sa;have hca:=hc a;have hf:¬ F a:=λ f=>by have:=ok.fro a f;rw[zA0] at this;lia
 have k:=qE9 (F:=F) (o':=.ins C dx fvs') ha rfl hf;have rep':Rep F (upd H a (.ins C dx fvs')) (.ref a) (.ins false C fds') (a::B'):=.ins qb1 hk' (r'.keep k λ b hb w=>by subst w;have:=qa8.mp hb;lia);obtain⟨A',q1,q2⟩:=h4 _ _ k (λ b hb w=>by subst w;have:=qa8.mp hb;lia) rep';have q2':∀ b,A'.count b=(if b=a then 1 else 0)+B'.count b+C0.count b:=λ b=>by
   rw[q2,zAh];by_cases hb:b=a
   . subst hb;simp;lia
   simp[hb,Ne.symm hb]
 have hcnt:∀ b,A'.count b<=(T++A).count b:=λ b=>by rw[zA0,q2',h3'];have:=hc b;lia
 have ex:∀ b,F b->∃ o,upd H a (.ins C dx fvs') b=some o:=λ b f=>by
   obtain⟨x,e⟩:=ok.ex b f;exact⟨x,by rw[qb3 (show b≠a from λ w=>hf (w ▸ f))];exact e⟩
 refine⟨A',⟨q1,⟨λ b=>zAl (hcnt b) (ok.sep b),λ b f=>by have:=ok.fro b f;have:=hcnt b;lia,ex⟩,S.len,S.ag⟩,λ b u e z=>?_,λ b u e z=>by have:=hcnt b;lia,λ _ f=>f,λ _ _ _ _ f=>f⟩;rw[qb3 λ w=>?_]
 . exact e
 subst w;have:=h3' b;rw[if_pos rfl] at this;rw[zA0] at z;lia
def sFldV(C:Addr)(f:Str)(te:VT)(pf:PF):VTS:=λ e ds=>te ds (λ d ds1=>orF (pf ds1) λ q=>orF ((A6 ds1 q.1 q.2).bind (D.ownI C)) λ fs=>fs.length < 100/\e.nx (Bp ds1 q.1 q.2 (.ins false C (Fl f d fs)))) e.xe
theorem sfld{C:Addr}{f:Str}{K:PySem.W.Frag}{pos':Pos}(hK:X.K=K)(ho:VP c X o pf)(hv:VE c X e te)(cl:Cls K C)(na:qd5 K C f)(hs:swapsWith e (some (.Attribute o f pos')) pos.line X.env=pure false:=by rfl):VS c X (.Assign [.Attribute o f pos'] e pos) (sFldV C f te pf):=by
 subst hK;refine⟨PS.mono (qaG9 ho.h hv.h hs) λ E σ H ⟨F,ds,A,en,S,l,q⟩=>?_,λ en en' ds hl=>hv.m _ _ _ _ _ (λ d ds1=>qa5 λ _=>qa5 λ _=>And.imp_right (hl.nx _)) hl.xe⟩;refine⟨F,ds,A,en.xe,S,l.xe,hv.m _ _ _ _ _ (λ d ds1 q v H1 F1 T A1 r1 S1 o1 s1=>?_) (λ _ _ z=>z) q⟩;obtain⟨⟨i,p⟩,e1,q⟩:=qa6.mp q;obtain⟨fs,e2,hl,q⟩:=qa6.mp q;obtain⟨dl,e3,e4⟩:=zA1.mp e2;cases qay7 e4;refine⟨F1,ds1,A1,i,p,_,S1,e1,e3,D.noConfusion,λ u w H2 hu hw s2=>?_⟩;have S2:=S1.same s2;obtain⟨a,dx,fvs,Ael,rfl,ha,hk,rs,wr⟩:=qay6 S2 e3 hu hw;have hlen:fvs.length=fs.length:=by have:=congrArg List.length hk;simpa using this
 refine⟨a,C,dx,fvs,rfl,ha,cl,na,by lia,?_⟩;obtain⟨m1,B',m2,m3⟩:=qK6 (f:=f) hk rs (r1.same s2);obtain⟨A',S3,s3⟩:=wr _ _ B' T (o1.same s2) m1 m2 m3;exact l.nx _ σ _ F1 A' q S3 (s1.trans ((Stp.same s2).trans s3))
end
def Bq(g:VTG)(t:VTS)(e:VEnds):List D->Ds->Prop
 | [],ds=>e.nx ds
 | x::xs,ds=>g x ds λ ds1=>t { e with nx:=Bq g t e xs,ct:=Bq g t e xs,bk:=e.nx } ds1
def whN(qc:VTT)(t:VTS)(e:VEnds):Nat->Ds->Prop
 | 0,_=>False
 | n+1,ds=>qc ds (λ b ds1=>if b=true then t { e with nx:=whN qc t e n,ct:=whN qc t e n,bk:=e.nx } ds1 else e.nx ds1) e.xe
def qaw2(qc:VTT)(t:VTS):VTS:=λ e ds=>∃ n,whN qc t e n ds
section
variable{c:Vc}{X:Cx}{a b e tg:Expr}{body:List Stmt}{g:VTG}{t:VTS}{te:VT}{qc:VTT}{pos:Pos}
theorem qj1(hg:VG c X tg g)(ht:VSs c X body t){en en':VEnds}(hl:en.Le en'):∀(xs:List D) ds,Bq g t en xs ds->Bq g t en' xs ds
 | [],ds=>hl.nx ds
 | x::xs,ds=>hg.m _ _ _ _ λ ds1=>ht.m _ _ _ ⟨qj1 hg ht hl xs,hl.rt,hl.nx,qj1 hg ht hl xs,hl.xe⟩
theorem qF0{cd:Expr}(hc:VTe c X cd qc)(ht:VSs c X body t){en en':VEnds}(hl:en.Le en'):∀(n:Nat) ds,whN qc t en n ds->whN qc t en' n ds
 | 0,ds=>id
 | n+1,ds=>hc.m _ _ _ _ _ (λ b ds1=>qD1 (ht.m _ _ _ ⟨qF0 hc ht hl n,hl.rt,hl.nx,qF0 hc ht hl n,hl.xe⟩) (hl.nx _)) hl.xe
theorem qav5(hp:PassesOwn (model X.prog X.w) X.A X.env X.xe)(hc:VTe c X cd qc)(ht:VSs c X body t):VS c X (.While cd body [] pos) (qaw2 qc t):=by
 refine⟨PS.mono (qan3 hp hc.h ht.h) λ E σ H ⟨F,ds,A,en,S,l,n,q⟩=>?_,λ en en' ds hl ⟨n,q⟩=>⟨n,qF0 hc ht hl n ds q⟩⟩;refine⟨λ m σ H=>∃ F ds A,Sta c F H σ ds A/\Lk c E F H A en/\whN qc t en m ds,⟨n,F,ds,A,S,l,q⟩,?_⟩;rintro m σ H ⟨F,ds,A,S,l,q⟩;cases m with
 | zero=>exact q.elim
 | succ m =>
   refine⟨F,ds,A,en.xe,S,l.xe,hc.m _ _ _ _ _ (λ b ds1 q H1 F1 A1 S1 s1=>?_) (λ _ _ z=>z) q⟩;cases b with
   | false=>rw[if_neg (by decide)] at q ⊢;exact l.nx _ _ _ _ _ q S1 s1
   | true =>
     rw[if_pos rfl] at q ⊢;have l1:=l.step s1;refine⟨λ σ' H'=>∃ F' ds' A',Sta c F' H' σ' ds' A'/\Lk c E F' H' A' en/\whN qc t en m ds',λ σ' H' h=>⟨m,by lia,h⟩,F1,ds1,A1,{ en with nx:=whN qc t en m,ct:=whN qc t en m,bk:=en.nx },S1,⟨?_,l1.rt,l1.nx,?_,l1.xe⟩,q⟩
     . exact λ ds' σ' H' F' A' q S' s'=>⟨F',ds',A',S',l1.step s',q⟩
     exact λ ds' σ' H' F' A' q S' s'=>⟨F',ds',A',S',l1.step s',q⟩
theorem qJ9{E:Bn}{en:VEnds}{F:Addr->Prop}{H:Hp}{σ:St}{ds:Ds}{A:List Addr}{x:V}{y:D}{N:St->Hp->Prop}{nxt:Ds->Prop}(hg:VG c X tg g)(S:Sta c F H σ ds A)(l:Lk c E F H A en)(r:Rep F H x y [])(hN:∀ ds' σ' H' F' A',nxt ds'->Sta c F' H' σ' ds' A'->Stp F H A F' H' A'->N σ' H')(q:g y ds λ ds1=>t { en with nx:=nxt,ct:=nxt,bk:=en.nx } ds1) :
   E7 c g x σ H λ σ2 H2=>Ei c t { E with nx:=N,ct:=N,bk:=E.nx } σ2 H2:=by
 refine⟨F,ds,A,[],y,r,S,S.ok,hg.m _ _ _ _ (λ ds1 q σ1 H1 F1 A1 S1 s1=>?_) q⟩;have l1:=l.step s1;exact⟨F1,ds1,A1,{ en with nx:=nxt,ct:=nxt,bk:=en.nx },S1,⟨λ ds' σ' H' F' A' q S' s'=>hN ds' σ' H' F' A' q S' (Stp.trans s1 s'),l1.rt,l1.nx,λ ds' σ' H' F' A' q S' s'=>hN ds' σ' H' F' A' q S' (Stp.trans s1 s'),l1.xe⟩,q⟩
def D.lstOf:D->Option Ds
 | .lst _ ys=>some ys
 | _=>none
theorem qz9{d:D}{ys:Ds}(h:d.lstOf=some ys):∃ z,d=.lst z ys:=by
 cases d with
 | lst z xs=>cases h;exact⟨z,rfl⟩
 | _=>cases h
theorem qA5:∀{ys:List D}{i:Nat}{y:D},D.imms ys=true->ys[i]? = some y->y.imm=true
 | [],i,y,_,h=>by simp at h
 | d::r,0,y,hm,h=>by
   have:d=y:=by simpa using h
   subst this;exact(zAb.mp hm).1
 | d::r,i+1,y,hm,h=>qA5 (zAb.mp hm).2 (by simpa using h)
theorem qj3{xs:List α}{x:α}(h:xs[i]? = some x):xs.drop i=x::xs.drop (i+1):=by
 obtain⟨hi,rfl⟩:=zA7.mp h;exact List.drop_eq_getElem_cons hi
def sForL(te:VT)(g:VTG)(t:VTS):VTS:=λ e ds=>te ds (λ d ds1=>orF d.lstOf λ ys=>D.imms ys=true/\Bq g t e ys ds1) e.xe
theorem Gg(hp:PassesOwn (model X.prog X.w) X.A X.env X.xe)(hi:VE c X e te)(hg:VG c X tg g)(ht:VSs c X body t)(hc:X.calm=true:=by rfl)(hfs:∀ v,foldedSetIterable e X.env v=pure v:=by intro _;rfl):VS c X (.For tg e body [] pos) (sForL te g t):=by
 refine⟨PS.mono (qac0 hp hc (qC4 hi.h) hg.h ht.h hfs) λ E σ H ⟨F,ds,A,en,S,l,q⟩=>?_,λ en en' ds hl=>hi.m _ _ _ _ _ (λ d ds1=>qa5 λ ys=>And.imp_right (qj1 hg ht hl ys ds1)) hl.xe⟩;refine⟨F,ds,A,en.xe,S,l.xe,hi.m _ _ _ _ _ (λ d ds1 q v H1 F1 T A1 r1 S1 o1 s1=>?_) (λ _ _ z=>z) q⟩;obtain⟨ys,ey,hm,qf⟩:=qa6.mp q;obtain⟨z,rfl⟩:=qz9 ey;obtain⟨a,vs,Ael,rfl,ha,rs,_⟩:=r1.lst_inv;have s1':Stp F H A F1 H1 A1:=s1.count λ b=>by rw[zA0];lia
 refine⟨a,rfl,⟨vs,.inl (.inl ha)⟩,qY1 (K:=X.K) (a:=a) (xs:=vs) (λ i σ H=>∃ F ds A,Sta c F H σ ds A/\Lk c E F H A en/\Rep F H (.ref a) (.lst z ys) T/\H a=some (.lst vs)/\Ok F H (T++A)/\Bq g t en (ys.drop i) ds) ⟨F1,ds1,A1,S1,l.step s1',r1,ha,o1,qf⟩ ?_ ?_ ?_⟩
 . rintro i σ H _ ⟨F,ds,A,S,l,r,ha,o,q⟩
   exact .inl (.inl ha)
 . rintro i x σ H hx ⟨F,ds,A,S,l,r,ha,o,q⟩
   obtain⟨a',vs',Ael',ea,ha',rs',_⟩:=r.lst_inv;cases ea;rw[ha] at ha';cases ha';obtain⟨y,B,hy,ry⟩:=rs'.getV hx
   have:=ry.imm (qA5 hm hy)
   subst this;rw[qj3 hy] at q;refine qJ9 hg S l ry (λ ds' σ' H' F' A' q' S' s'=>?_) q;have kp:=s'.kp S.ok S.loc.cells;have hT:∀ b∈T,¬ (A.count b≠0):=λ b hb hc=>by
     have:=o.sep b
     rw[zA0] at this
     have:=qa8.mp hb
     lia
   have r':=r.keep kp hT;obtain⟨o',_⟩:=s'.frame o r.cells S'.ok;have ha2:H' a=some (.lst vs):=by
     cases r with
     | lst h _=>exact kp.fr _ _ ha (hT _ zAd)
     | lstZ h f _=>exact kp.fr _ _ ha λ w=>kp.wf _ w f
   exact⟨F',ds',A',S',l.step s',r',ha2,o',q'⟩
 rintro σ H ⟨F,ds,A,S,l,r,ha,o,q⟩;rw[rs.len,List.drop_length] at q;exact l.nx _ _ _ _ _ q S Stp.refl
def Av(lo:Int)(n:Nat):List D:=(List.range n).map λ(i:Nat)=>.int (lo+(i:Int))
theorem qT4(h:i < n):(Av lo n)[i]? = some (.int (lo+(i:Int))):=by
 unfold Av;rw[zAx,List.getElem?_range h];rfl
theorem qah2(lo:Int)(n:Nat):(Av lo n).length=n:=by simp[Av]
def Fv(i:Int):Bool:=decide (-(2 ^ 62)<=i)&&decide (i < 2 ^ 62)
theorem qV9{i:Int}(h:Fv i=true):-(2 ^ 62)<=i/\i < 2 ^ 62:=by
 have:=zAb.mp h
 exact⟨zAo this.1,zAo this.2⟩
theorem qaC6{E:Bn}{en:VEnds}{F:Addr->Prop}{H:Hp}{σ:St}{ds:Ds}{A:List Addr}(hg:VG c X tg g)(S:Sta c F H σ ds A)(l:Lk c E F H A en)(q:Bq g t en (Av lo n) ds) :
   ∃ W:Nat->Nat->St->Hp->Prop,(∃ m,W 0 m σ H)/\∀ i m σ H,W i m σ H ->
     ((Itr lo n).stop i H/\E.nx σ H)∨((Itr lo n).go i H/\∃ N:St->Hp->Prop,(∀ σ' H',N σ' H'->∃ m',m' < m/\W (i+1) m' σ' H')/\∀ x H',(Itr lo n).yld i H x H'->E7 c g x σ H' λ σ2 H2=>Ei c t { E with nx:=N,ct:=N,bk:=E.nx } σ2 H2):=by
 refine qae5 (λ i σ H=>∃ F ds A,Sta c F H σ ds A/\Lk c E F H A en/\Bq g t en ((Av lo n).drop i) ds) ⟨F,ds,A,S,l,q⟩ ?_ ?_
 . rintro i σ H hi ⟨F,ds,A,S,l,q⟩
   rw[qj3 (qT4 hi)] at q;exact qJ9 hg S l (.int _) (λ ds' σ' H' F' A' q' S' s'=>⟨F',ds',A',S',l.step s',q'⟩) q
 rintro σ H ⟨F,ds,A,S,l,q⟩;rw[List.drop_of_length_le (by rw[qah2];exact zA5 _)] at q;exact l.nx _ _ _ _ _ q S Stp.refl
def Iq:Ds->Option Int
 | [.int j]=>some j
 | _=>none
theorem qai4{xs:Ds}{j:Int}(h:Iq xs=some j):xs=[.int j]:=by
 unfold Iq at h;split at h
 . cases h;rfl
 cases h
def qab6(tr:VTA)(g:VTG)(t:VTS):VTS:=λ e ds=>tr ds (λ xs ds1=>orF (Iq xs) λ j=>Fv j=true/\Bq g t e (Av 0 j.toNat) ds1) e.xe
theorem qS6{tr:VTA}{p cpos:Pos}(hp:PassesOwn (model X.prog X.w) X.A X.env X.xe)(hm:X.mg "range" = none)(ha:VOs c X [a] tr)(hg:VG c X tg g)(ht:VSs c X body t)(hgl:Gl X "range" := by rfl)(hs:starEach [a] X.env=[(false,eval a X.env)]:=by rfl)(hc:X.calm=true:=by rfl) :
   VS c X (.For tg (.Call (.Name "range" p) [a] [] cpos) body [] pos) (qab6 tr g t):=by
 refine⟨PS.mono (qac0 hp hc (qz1 hgl hm ha.h hs) hg.h ht.h) λ E σ H ⟨F,ds,A,en,S,l,q⟩=>?_,λ en en' ds hl=>ha.m _ _ _ _ _ (λ xs ds1=>qa5 λ j=>And.imp_right (qj1 hg ht hl _ ds1)) hl.xe⟩;refine⟨F,ds,A,en.xe,S,l.xe,ha.m _ _ _ _ _ (λ xs ds1 q vs H1 F1 T A1 r1 S1 s1=>?_) (λ _ _ z=>z) q⟩;obtain⟨j,ej,hm,qf⟩:=qa6.mp q;cases qai4 ej;obtain⟨v,rfl,rv⟩:=r1.one_inv;cases rv
 have:=qV9 hm
 exact⟨j,rfl,this.1,this.2,qaC6 hg S1 (l.step s1) qf⟩
def tFzV(te:VT):VT:=λ ds Q xe=>te ds (λ d ds1=>Q d.fz ds1) xe
theorem Ek(h:VE c X e te):VE c X e (tFzV te):=by
 refine⟨PE.mono h.h λ σ H Q ⟨F,ds,A,xe,S,x,q⟩=>⟨F,ds,A,xe,S,x,h.m _ _ _ _ _ (λ d ds1 q v H1 F1 T A1 r1 S1 o1 s1=>?_) (λ _ _ z=>z) q⟩,λ ds Q Q' xe xe' hQ hx=>h.m _ _ _ _ _ (λ d ds1=>hQ _ _) hx⟩;have rz:=r1.fz (F':=λ b=>F1 b∨b∈T) (λ b f=>.inl f) λ b hb=>.inr hb
 obtain⟨o',s'⟩:=share (A:=T++A1) (B:=T) (C:=A1) o1 (λ b=>by rw[zA0]) r1.cells (A':=A1) (λ b=>rfl);have L:=S1.loc.keep (Kp.more (H:=H1) λ b f=>Or.inl (b:=b∈T) f) λ _ _ z=>z
 exact q v H1 _ [] A1 rz ⟨L,o',S1.len,S1.ag⟩ o' (s1.trans s')
end
def bk1(i:Nat)(p:List Nat)(w:V)(d0:D)(ds:Ds):Option Ds:=An [.pl i p w] [d0] ds
def Gh(i:Nat)(p:List Nat)(w:V)(d0:D)(e:VEnds):VEnds where
 nx ds:=orF (bk1 i p w d0 ds) e.nx
 rt d ds:=orF (bk1 i p w d0 ds) (e.rt d)
 bk ds:=orF (bk1 i p w d0 ds) e.bk
 ct ds:=orF (bk1 i p w d0 ds) e.ct
 xe x ds:=orF (bk1 i p w d0 ds) (e.xe x)
section
variable{c:Vc}{X:Cx}{a b e tg o:Expr}{body:List Stmt}{g:VTG}{t:VTS}{pos:Pos}{pf:PF}{F F1:Addr->Prop}{H H1:Hp}{σ:St}{ds ds1:Ds}{A A1 B:List Addr}{E:Bn}{en:VEnds}
theorem ql9{p:List Nat}{d0:D}{F':Addr->Prop}{H':Hp}{ds' ds2:Ds}{A':List Addr}(o1:Ok F1 H1 (B++A1))(S1:Sta c F1 H1 σ ds1 A1)(r:Rep F1 H1 w d0 B)(S':Sta c F' H' σ' ds' A')(s':Stp F1 H1 A1 F' H' A')(h:bk1 i p w d0 ds'=some ds2) :
   ∃ A2,Sta c F' H' σ' ds2 A2/\Ok F' H' (B++A')/\Stp F1 H1 (B++A1) F' H' (B++A')/\∀ b,A2.count b<=B.count b+A'.count b:=by
 obtain⟨o2,s2⟩:=s'.frame o1 r.cells S'.ok;have r':Rep F' H' w d0 B:=r.keep (s'.kp S1.ok S1.loc.cells) λ b hb hc=>by
   have:=o1.sep b
   rw[zA0] at this
   have:=qa8.mp hb
   lia
 obtain⟨A2,q1,q2⟩:=qp5 (pls:=[.pl i p w]) (vs:=[w]) (more:=[]) (ys:=[d0]) (.so .nil) (.cons r' .nil) S'.loc h;have hc:∀ b,A2.count b<=B.count b+A'.count b:=λ b=>by have:=q2 b;simp only[zA9] at this;exact this
 exact⟨A2,⟨q1,o2.count λ b=>by rw[zA0];exact hc b,S'.len,S'.ag⟩,o2,s2,hc⟩
theorem Lk.lend{p:List Nat}{d0:D}(l:Lk c E F H A en)(s1:Stp F H A F1 H1 (B++A1))(o1:Ok F1 H1 (B++A1))(S1:Sta c F1 H1 σ ds1 A1)(r:Rep F1 H1 w d0 B):Lk c E F1 H1 A1 (Gh i p w d0 en) where
 nx ds' σ' H' F' A' q S' s':=by
   obtain⟨ds2,eb,q⟩:=qa6.mp q;obtain⟨A2,S2,o2,s2,hc⟩:=ql9 o1 S1 r S' s' eb;exact l.nx _ _ _ _ A2 q S2 ((s1.trans s2).count λ b=>by rw[zA0];exact hc b)
 bk ds' σ' H' F' A' q S' s':=by
   obtain⟨ds2,eb,q⟩:=qa6.mp q;obtain⟨A2,S2,o2,s2,hc⟩:=ql9 o1 S1 r S' s' eb;exact l.bk _ _ _ _ A2 q S2 ((s1.trans s2).count λ b=>by rw[zA0];exact hc b)
 ct ds' σ' H' F' A' q S' s':=by
   obtain⟨ds2,eb,q⟩:=qa6.mp q;obtain⟨A2,S2,o2,s2,hc⟩:=ql9 o1 S1 r S' s' eb;exact l.ct _ _ _ _ A2 q S2 ((s1.trans s2).count λ b=>by rw[zA0];exact hc b)
 xe x ds' σ' e H' F' A' q rx S' s':=by
   obtain⟨ds2,eb,q⟩:=qa6.mp q;obtain⟨A2,S2,o2,s2,hc⟩:=ql9 o1 S1 r S' s' eb;exact l.xe x ds2 σ' e H' F' A2 q rx S2 ((s1.trans s2).count λ b=>by rw[zA0];exact hc b)
 rt d ds' v σ' H' F' T A' q rv S' oT s':=by
   obtain⟨ds2,eb,q⟩:=qa6.mp q;have s'':Stp F1 H1 A1 F' H' A':=s'.count λ b=>by rw[zA0];lia
   obtain⟨A2,S2,o2,s2,hc⟩:=ql9 o1 S1 r S' s'' eb;obtain⟨o3,s3⟩:=s'.frame o1 r.cells oT;have hcc:∀ b,(T++A2).count b<=(B++(T++A')).count b:=λ b=>by simp only[zA0];have:=hc b;lia
   exact l.rt d ds2 v σ' H' F' T A2 q rv S2 (o3.count hcc) ((s1.trans s3).count hcc)
theorem qaj0{p:List Nat}{d0:D}{en en':VEnds}(hl:en.Le en'):(Gh i p w d0 en).Le (Gh i p w d0 en') :=
 ⟨λ ds=>qa5 hl.nx,λ d ds=>qa5 (hl.rt d),λ ds=>qa5 hl.bk,λ ds=>qa5 hl.ct,λ x ds=>qa5 (hl.xe x)⟩
structure Held(F:Addr->Prop)(H:Hp)(a:Addr)(vs:List V)(z:Bool)(ys:Ds)(T A:List Addr):Prop where
 r:Rep F H (.ref a) (.lst z ys) T
 h:H a=some (.lst vs)
 o:Ok F H (T++A)
theorem Held.step{ys:Ds}{T:List Addr}{a:Addr}{F':Addr->Prop}{H':Hp}{ds':Ds}{A':List Addr}(h:Held F H a vs z ys T A)(S:Sta c F H σ ds A)(S':Sta c F' H' σ' ds' A')(s':Stp F H A F' H' A'):Held F' H' a vs z ys T A':=by
 obtain⟨r,ha,o⟩:=h;have kp:=s'.kp S.ok S.loc.cells;have hT:∀ b∈T,¬ (A.count b≠0):=λ b hb hc=>by
   have:=o.sep b
   rw[zA0] at this
   have:=qa8.mp hb
   lia
 refine⟨r.keep kp hT,?_,(s'.frame o r.cells S'.ok).1⟩;cases r with
 | lst h _=>exact kp.fr _ _ ha (hT _ zAd)
 | lstZ h f _=>exact kp.fr _ _ ha λ w=>kp.wf _ w f
theorem Held.get{ys:Ds}{T:List Addr}{a:Addr}{x:V}(h:Held F H a vs z ys T A)(hm:D.imms ys=true)(hx:vs[i]? = some x):∃ y,ys[i]? = some y/\Rep F H x y []:=by
 obtain⟨a',vs',Ael',ea,ha',rs',_⟩:=h.r.lst_inv;cases ea
 have:=h.h
 rw[ha'] at this;cases this;obtain⟨y,B,hy,ry⟩:=rs'.getV hx
 have:=ry.imm (qA5 hm hy)
 subst this;exact⟨y,hy,ry⟩
theorem Held.len{ys:Ds}{T:List Addr}{a:Addr}(h:Held F H a vs z ys T A):vs.length=ys.length:=by
 obtain⟨a',vs',Ael',ea,ha',rs',_⟩:=h.r.lst_inv;cases ea
 have:=h.h
 rw[ha'] at this;cases this;exact rs'.len
theorem qI9{K:PySem.W.Frag}{ys:Ds}{T:List Addr}{a:Addr}(hg:VG c X tg g)(S:Sta c F H σ ds A)(l:Lk c E F H A en)(hd:Held F H a vs z ys T A)(hm:D.imms ys=true)(q:Bq g t en ys ds) :
   ∃ W:Nat->Nat->St->Hp->Prop,(∃ m,W 0 m σ H)/\∀ i m σ H,W i m σ H ->
     ((Itl K a).stop i H/\E.nx σ H)∨((Itl K a).go i H/\∃ N:St->Hp->Prop,(∀ σ' H',N σ' H'->∃ m',m' < m/\W (i+1) m' σ' H')/\∀ x H',(Itl K a).yld i H x H'->E7 c g x σ H' λ σ2 H2=>Ei c t { E with nx:=N,ct:=N,bk:=E.nx } σ2 H2):=by
 refine qY1 (xs:=vs) (λ i σ H=>∃ F ds A,Sta c F H σ ds A/\Lk c E F H A en/\Held F H a vs z ys T A/\Bq g t en (ys.drop i) ds) ⟨F,ds,A,S,l,hd,q⟩ ?_ ?_ ?_
 . rintro i σ H _ ⟨F,ds,A,S,l,hd,q⟩
   exact .inl (.inl hd.h)
 . rintro i x σ H hx ⟨F,ds,A,S,l,hd,q⟩
   obtain⟨y,hy,ry⟩:=hd.get hm hx;rw[qj3 hy] at q;exact qJ9 hg S l ry (λ ds' σ' H' F' A' q' S' s'=>⟨F',ds',A',S',l.step s',hd.step S S' s',q'⟩) q
 rintro σ H ⟨F,ds,A,S,l,hd,q⟩;rw[hd.len,List.drop_length] at q;exact l.nx _ _ _ _ _ q S Stp.refl
def sForP(pf:PF)(g:VTG)(t:VTS):VTS:=λ e ds=>orF (pf ds) λ q=>orF (A6 ds q.1 q.2) λ d=>orF d.lstOf λ ys=>D.imms ys=true/\∀ w,Bq g t (Gh q.1 q.2 w d e) ys (Bp ds q.1 q.2 (.hole w))
theorem Ir(hp:PassesOwn (model X.prog X.w) X.A X.env X.xe)(hi:VP c X o pf)(hg:VG c X tg g)(ht:VSs c X body t)(hc:X.calm=true:=by rfl)(hfs:∀ v,foldedSetIterable o X.env v=pure v:=by intro _;rfl):VS c X (.For tg o body [] pos) (sForP pf g t):=by
 refine⟨PS.mono (qac0 hp hc (qC4 hi.h) hg.h ht.h hfs) λ E σ H ⟨F,ds,A,en,S,l,q⟩=>?_,λ en en' ds hl=>qa5 λ q=>qa5 λ d=>qa5 λ ys=>And.imp_right λ h w=>qj1 hg ht (qaj0 hl) _ _ (h w)⟩;obtain⟨⟨i,p⟩,e1,q⟩:=qa6.mp q;obtain⟨d,e2,q⟩:=qa6.mp q;obtain⟨ys,ey,hm,q⟩:=qa6.mp q;obtain⟨z,rfl⟩:=qz9 ey;refine⟨F,ds,A,i,p,_,S,e1,e2,D.noConfusion,λ u w H1 hu hw s0=>?_⟩;obtain⟨B,C,r,h3,h4⟩:=(S.same s0).place e2 D.noConfusion hu hw;obtain⟨A1,q1,q2⟩:=h4 (.hole w) [] (Kp.same (F:=F) λ _ _ z=>z) (λ _ _ z=>z) (.hole w);have o1:Ok F H1 (B++A1):=(S.same s0).ok.count λ b=>by rw[zA0,q2,h3];simp
 have s1:Stp F H A F H1 (B++A1):=⟨λ b o e _=>s0 b o e,λ b o e z=>by rw[zA0,q2];have:=h3 b;simp;lia,λ _ f=>f,λ _ _ _ _ f=>f⟩
 have S1:Sta c F H1 σ (Bp ds i p (.hole w)) A1:=⟨q1,o1.right,S.len,S.ag⟩
 obtain⟨a,vs,Ael,rfl,ha,rs,_⟩:=r.lst_inv;exact⟨a,rfl,⟨vs,.inl (.inl ha)⟩,qI9 hg S1 (l.lend s1 o1 S1 r) ⟨r,ha,o1⟩ hm (q _)⟩
def enD(ys:Ds):List D:=ys.zipIdx.map λ p=>.tup [.int (p.2:Int),p.1]
theorem qaM2{ys:Ds}{y:D}(h:ys[i]? = some y):(enD ys)[i]? = some (.tup [.int (i:Int),y]):=by
 unfold enD;rw[zAx,List.getElem?_zipIdx,h];simp
theorem qaM1(ys:Ds):(enD ys).length=ys.length:=by simp[enD]
theorem qD7{K:PySem.W.Frag}{ys:Ds}{T:List Addr}{a:Addr}(hg:VG c X tg g)(S:Sta c F H σ ds A)(l:Lk c E F H A en)(hd:Held F H a vs z ys T A)(hm:D.imms ys=true)(q:Bq g t en (enD ys) ds) :
   ∃ W:Nat->Nat->St->Hp->Prop,(∃ m,W 0 m σ H)/\∀ i m σ H,W i m σ H ->
     ((Ite K a).stop i H/\E.nx σ H)∨((Ite K a).go i H/\∃ N:St->Hp->Prop,(∀ σ' H',N σ' H'->∃ m',m' < m/\W (i+1) m' σ' H')/\∀ x H',(Ite K a).yld i H x H'->E7 c g x σ H' λ σ2 H2=>Ei c t { E with nx:=N,ct:=N,bk:=E.nx } σ2 H2):=by
 refine qar9 (xs:=vs) (λ i σ H=>∃ F ds A,Sta c F H σ ds A/\Lk c E F H A en/\Held F H a vs z ys T A/\Bq g t en ((enD ys).drop i) ds) ⟨F,ds,A,S,l,hd,q⟩ ?_ ?_ ?_
 . rintro i σ H _ ⟨F,ds,A,S,l,hd,q⟩
   exact .inl (.inl hd.h)
 . rintro i x σ H tt hx ⟨F,ds,A,S,l,hd,q⟩ htt
   obtain⟨y,hy,ry⟩:=hd.get hm hx;rw[qj3 (qaM2 hy)] at q;have sm:=Same.new (u:=.tup [.int (i:Int),x]) htt;have ry2:Rep F (upd H tt (.tup [.int (i:Int),x])) (.ref tt) (.tup [.int (i:Int),y]) []:=qL1 htt (.cons (A:=[]) (B:=[]) (.int _) (.cons (A:=[]) (B:=[]) ry .nil));have S1:=S.same sm;have l1:=l.step (Stp.same (F:=F) (A:=A) sm);have hd1:Held F (upd H tt (.tup [.int (i:Int),x])) a vs z ys T A:=hd.step S S1 (Stp.same sm);exact qJ9 hg S1 l1 ry2 (λ ds' σ' H' F' A' q' S' s'=>⟨F',ds',A',S',l1.step s',hd1.step S1 S' s',q'⟩) q
 rintro σ H ⟨F,ds,A,S,l,hd,q⟩;rw[List.drop_of_length_le (by rw[qaM1,hd.len];exact zA5 _)] at q;exact l.nx _ _ _ _ _ q S Stp.refl
def qaG4(pf:PF)(g:VTG)(t:VTS):VTS:=λ e ds=>orF (pf ds) λ q=>orF (A6 ds q.1 q.2) λ d=>orF d.lstOf λ ys=>D.imms ys=true/\∀ w,Bq g t (Gh q.1 q.2 w d e) (enD ys) (Bp ds q.1 q.2 (.hole w))
theorem qaG1{elts:List Expr}{x1:Nat}{p cpos tpos:Pos}(hp:PassesOwn (model X.prog X.w) X.A X.env X.xe)(hm:X.mg "enumerate" = none)(hi:VP c X o pf)(hg:VG c X (.Tuple elts x1 tpos) g)(ht:VSs c X body t)(hgl:Gl X "enumerate" := by rfl)(hs:starEach [o] X.env=[(false,eval o X.env)]:=by rfl)(hc:X.calm=true:=by rfl):VS c X (.For (.Tuple elts x1 tpos) (.Call (.Name "enumerate" p) [o] [] cpos) body [] pos) (qaG4 pf g t):=by
 refine⟨PS.mono (qac0 hp hc (qax1 hgl hm (qd3 hi.h qq1 hs) hs) hg.h ht.h) λ E σ H ⟨F,ds,A,en,S,l,q⟩=>?_,λ en en' ds hl=>qa5 λ q=>qa5 λ d=>qa5 λ ys=>And.imp_right λ h w=>qj1 hg ht (qaj0 hl) _ _ (h w)⟩;obtain⟨⟨i,p⟩,e1,q⟩:=qa6.mp q;obtain⟨d,e2,q⟩:=qa6.mp q;obtain⟨ys,ey,hmm,q⟩:=qa6.mp q;obtain⟨z,rfl⟩:=qz9 ey;refine⟨F,ds,A,i,p,_,S,e1,e2,D.noConfusion,λ u w H1 hu hw s0=>?_⟩;obtain⟨B,C,r,h3,h4⟩:=(S.same s0).place e2 D.noConfusion hu hw;obtain⟨A1,q1,q2⟩:=h4 (.hole w) [] (Kp.same (F:=F) λ _ _ z=>z) (λ _ _ z=>z) (.hole w);have o1:Ok F H1 (B++A1):=(S.same s0).ok.count λ b=>by rw[zA0,q2,h3];simp
 have s1:Stp F H A F H1 (B++A1):=⟨λ b o e _=>s0 b o e,λ b o e z=>by rw[zA0,q2];have:=h3 b;simp;lia,λ _ f=>f,λ _ _ _ _ f=>f⟩
 have S1:Sta c F H1 σ (Bp ds i p (.hole w)) A1:=⟨q1,o1.right,S.len,S.ag⟩
 obtain⟨a,vs,Ael,rfl,ha,rs,_⟩:=r.lst_inv;exact⟨a,rfl,⟨vs,.inl (.inl ha)⟩,qD7 hg S1 (l.lend s1 o1 S1 r) ⟨r,ha,o1⟩ hmm (q _)⟩
end
def fin(W:Nat->Bool):Nat->Ds->Ds->Ds
 | k,d::r,d'::r'=>(if W k=true then d' else d)::fin W (k+1) r r'
 | _,_,_=>[]
def Gi(W:Nat->Bool):Nat->Ds->Bool
 | _,[]=>true
 | k,d::r=>(W k||d.imm)&&Gi W (k+1) r
def qaf5(W:Nat->Bool)(ds:Ds)(Q:DK)(xe:XKd):VEnds where
 nx ds':=Q .non (fin W 0 ds ds')
 rt d ds':=Q d (fin W 0 ds ds')
 bk _:=False
 ct _:=False
 xe x ds':=xe x (fin W 0 ds ds')
section
variable{F F':Addr->Prop}{H H':Hp}
theorem qaM0{W:Nat->Bool}{Wr:Addr->Prop}(kp:Kp F H Wr F' H'):∀{vs:List V}{ds:Ds}{A:List Addr}{k:Nat}{σ':List (Option V)}{ds':Ds}{A':List Addr},Reps F H vs ds A->Gi W k ds=true->Locs F' H' σ' ds' A'->vs.length<=σ'.length->(∀ i,i < vs.length->W (k+i)=true->σ'[i]? = (vs.map some)[i]?) ->
   ∃ A2,Reps F' H' vs (fin W k ds ds') A2/\∀ b,A2.count b<=A'.count b:=by
 intro vs
 induction vs with
 | nil =>
   intro ds A k σ' ds' A' r hm L hl ag;cases r;exact⟨[],by cases ds'<;>exact .nil,λ b=>by simp⟩
 | cons v vs ih =>
   intro ds A k σ' ds' A' r hm L hl ag;cases r with
   | @cons _ d B _ ds B2 r1 t =>
     have hm:=zAb.mp hm;have step:∀{σ2:List (Option V)}{ds2:Ds}{A2:List Addr}(o:Option V),σ'=o::σ2->Locs F' H' σ2 ds2 A2->∃ A3,Reps F' H' vs (fin W (k+1) ds ds2) A3/\∀ b,A3.count b<=A2.count b:=λ{σ2 ds2 A2} o e L2=>by
       subst e;refine ih t hm.2 L2 (by simpa using hl) λ i hi hw=>?_
       have:=ag (i+1) (by simpa using hi) (by rw[<- hw];congr 1;lia)
       simpa using this
     cases L with
     | nil=>simp at hl
     | no L2 =>
       obtain⟨A3,q1,q2⟩:=step none rfl L2;by_cases hw:W k=true
       . have:=ag 0 (by simp) (by simpa using hw)
         simp at this
       have hi:d.imm=true:=by
         rcases Bool.or_eq_true_iff.mp hm.1 with h | h
         . exact absurd h hw
         exact h
       have:=r1.imm hi
       subst this;refine⟨[]++A3,?_,λ b=>by simpa using q2 b⟩;show Reps F' H' (v::vs) ((if W k=true then _ else d)::_) _;rw[if_neg hw];exact .cons (r1.keep kp λ b hb=>by cases hb) q1
     | @so v' d' B' σ2 ds2 A2 rr L2 =>
       obtain⟨A3,q1,q2⟩:=step (some v') rfl L2;by_cases hw:W k=true
       . have:=ag 0 (by simp) (by simpa using hw)
         simp at this;subst this;refine⟨B'++A3,?_,λ b=>by simp only[zA0];have:=q2 b;lia⟩;show Reps F' H' (v'::vs) ((if W k=true then d' else d)::_) _;rw[if_pos hw];exact .cons rr q1
       have hi:d.imm=true:=by
         rcases Bool.or_eq_true_iff.mp hm.1 with h | h
         . exact absurd h hw
         exact h
       have:=r1.imm hi
       subst this;refine⟨[]++A3,?_,λ b=>by simp only[zBk,zA0];have:=q2 b;lia⟩;show Reps F' H' (v::vs) ((if W k=true then d' else d)::_) _;rw[if_neg hw];exact .cons (r1.keep kp λ b hb=>by cases hb) q1
theorem Reps.locs{ds:Ds}{A:List Addr}(r:Reps F H vs ds A):Locs F H (vs.map some) ds A:=by
 induction vs generalizing ds A with
 | nil=>cases r;exact .nil
 | cons v vs ih=>cases r with | cons h t=>exact .so h (ih t)
theorem qr1:∀ n:Nat,Locs F H (List.replicate n none) (List.replicate n .unk) []
 | 0=>.nil
 | n+1=>.no (qr1 n)
end
structure FunE(K:PySem.W.Frag)(x qual:Str)(st:Stmt)(f:Addr)(fd:FuncData):Prop where
 ex:∃(oc:Value)(od:Option Addr)(dV kV doc pm:Value)(an:Option Addr)(cdv ct:Value)(osl:Array (Option Value)),
   fd=PySem.W.fnOf x qual (qf7 st) (qd1 st) (qa3 st) dV kV doc pm an cdv ct/\K.lookup f=some ⟨oc,od,.func fd,osl⟩/\PySem.W.codeIn K cdv qual=true
theorem FunE.of{K:PySem.W.Frag}{x qual:Str}{st:Stmt}{f:Addr}{fd:FuncData}(F:Fun K x qual st f fd):FunE K x qual st f fd :=
 let ⟨oc,od,kV,doc,pm,an,cdv,ct,osl,e,lk,hcd⟩:=F.ex
 ⟨⟨oc,od,.none,kV,doc,pm,an,cdv,ct,osl,e,lk,hcd⟩⟩
theorem FunE.okX{w:World}{K:PySem.W.Frag}{x qual:Str}{st:Stmt}{f:Addr}{fd:FuncData}{ps:List Str}{k:Nat}{sp:Sp}(F:FunE K x qual st f fd)(S:qa9 N ps (qa3 st))(len:∀ vs H Q E,sp vs H Q E->vs.length=ps.length)(hbody:∀(cdv:Value)(A:Around)(outer:List Env)(s:Shared)(H:Hp)(vs:List V)(Q:VK)(E:XK),Room k (A.deeper (PyProof.Rows.envOfC qual (qa3 st) s.heap.objs.size f cdv))->sp vs H Q E ->
     ∃ t,PSs (Ef (CX1 P w) P w K mg base N qual (qa3 st) f cdv A outer s H E) (qd1 st) t/\t { nx:=λ _ H'=>Q .non H',rt:=Q } (L2.start N vs) H):Bi P w K mg base (CX1 P w) (k+1) f fd ps sp:=by
 obtain⟨oc,od,dV,kV,doc,pm,an,cdv,ct,osl,rfl,lk,hcd⟩:=F.ex;exact Ht lk hcd S len λ A outer s H vs Q E hr hsp=>hbody cdv A outer s H vs Q E hr hsp
theorem VFn.mkE{w:World}{K:PySem.W.Frag}{x qual:Str}{st:Stmt}{f:Addr}{fd:FuncData}{ps:List Str}{k:Nat}{s:VSp}(Fu:FunE K x qual st f fd)(Sc:qa9 N ps (qa3 st))(W:Nat->Bool)(hs:Be s)(hlen:∀ ds Q xe,s ds Q xe->ds.length=ps.length)(himm:∀ ds Q xe,s ds Q xe->Gi W 0 ds=true)(hbody:∀(cdv:Value)(A:Around)(outer:List Env)(sh:Shared)(H:Hp)(E:XK)(av:List (Option V)),Room k (A.deeper (PyProof.Rows.envOfC qual (qa3 st) sh.heap.objs.size f cdv)) ->
     ∃ t,VSs ⟨E,W,av,[]⟩ (Ef (CX1 P w) P w K mg base N qual (qa3 st) f cdv A outer sh H E) (qd1 st) t/\∀ ds Q xe,s ds Q xe->t (qaf5 W ds Q xe) (ds++List.replicate (N.length - ds.length) .unk)) :
   VFn P w K mg base (k+1) f fd ps s:=by
 refine⟨Fu.okX Sc (λ vs H Q E ⟨F,ds,A,r,o,h⟩=>by rw[r.len];exact hlen _ _ _ h) λ cdv Ar outer sh H vs Q E hr ⟨F,ds,A,r,o,h⟩=>?_,hs⟩;obtain⟨t,hv,ht⟩:=hbody cdv Ar outer sh H E (L2.start N vs) hr;have hl:=hlen _ _ _ h;have hi:=himm _ _ _ h;have hN:ps.length<=N.length:=by have:=congrArg List.length Sc.pre;rw[zBs] at this;lia
 have L0:Locs F H (L2.start N vs++[]) (ds++List.replicate (N.length - ds.length) .unk) A:=by
   rw[zA9];unfold L2.start;rw[r.len]
   have:=r.locs.append (qr1 (F:=F) (H:=H) (N.length - ds.length))
   rwa[zA9] at this
 have S0:Sta ⟨E,W,L2.start N vs,[]⟩ F H (L2.start N vs) (ds++List.replicate (N.length - ds.length) .unk) A:=⟨L0,o,by simp,λ i _=>by simp⟩
 have key:∀{σ':St}{H':Hp}{F':Addr->Prop}{ds':Ds}{A' A2:List Addr},Sta ⟨E,W,L2.start N vs,[]⟩ F' H' σ' ds' A'->Stp F H A F' H' A2->∃ A3,Reps F' H' vs (fin W 0 ds ds') A3/\∀ b,A3.count b<=A'.count b:=λ{σ' H' F' ds' A' A2} S' s'=>by
   have hlen':=S'.len;simp only[zA9] at hlen';refine qaM0 (s'.kp o r.cells) r hi (by have:=S'.loc;simpa using this) ?_ λ i hiv hw=>?_
   . rw[<- hlen'];unfold L2.start;simp
   have:=S'.ag i (by simpa using hw)
   simp only[zA9] at this;rw[this];show (L2.start N vs)[i]? = _;unfold L2.start;rw[zAr (by simpa using hiv)]
 refine⟨_,hv.h,F,_,A,qaf5 W ds _ _,S0,⟨?_,?_,λ _ _ _ _ _ z=>False.elim z,λ _ _ _ _ _ z=>False.elim z,?_⟩,ht _ _ _ h⟩
 . intro ds' σ' H' F' A' q S' s'
   obtain⟨A3,q1,q2⟩:=key S' s';have hc:∀ b,([]++A3).count b<=A'.count b:=λ b=>by simpa using q2 b
   exact q .non H' F' [] A3 .non q1 (S'.ok.count hc) (s'.count hc)
 . intro d ds' v σ' H' F' T A' q rv S' oT s'
   obtain⟨A3,q1,q2⟩:=key S' s';have hc:∀ b,(T++A3).count b<=(T++A').count b:=λ b=>by simp only[zA0];have:=q2 b;lia
   exact q v H' F' T A3 rv q1 (oT.count hc) (s'.count hc)
 intro y ds' σ' e H' F' A' q rx S' s';obtain⟨A3,q1,q2⟩:=key S' s';exact q e H' F' A3 rx q1 (S'.ok.count q2) (s'.count q2)
theorem VFn.mk'{w:World}{K:PySem.W.Frag}{x qual:Str}{st:Stmt}{f:Addr}{fd:FuncData}{ps:List Str}{k:Nat}{s:VSp}(Fu:Fun K x qual st f fd)(Sc:qa9 N ps (qa3 st))(W:Nat->Bool)(hs:Be s)(hlen:∀ ds Q xe,s ds Q xe->ds.length=ps.length)(himm:∀ ds Q xe,s ds Q xe->Gi W 0 ds=true)(hbody:∀(cdv:Value)(A:Around)(outer:List Env)(sh:Shared)(H:Hp)(E:XK)(av:List (Option V)),Room k (A.deeper (PyProof.Rows.envOfC qual (qa3 st) sh.heap.objs.size f cdv)) ->
     ∃ t,VSs ⟨E,W,av,[]⟩ (Ef (CX1 P w) P w K mg base N qual (qa3 st) f cdv A outer sh H E) (qd1 st) t/\∀ ds Q xe,s ds Q xe->t (qaf5 W ds Q xe) (ds++List.replicate (N.length - ds.length) .unk)) :
   VFn P w K mg base (k+1) f fd ps s:=VFn.mkE (FunE.of Fu) Sc W hs hlen himm hbody
def By:List (Option Nat)->Ds->Ds×Ds
 | [],ds=>([],ds)
 | none::r,ds=>(.unk::(By r ds).1,(By r ds).2)
 | some j::r,ds=>((ds[j]?).getD .unk::(By r (ds.set j .unk)).1,(By r (ds.set j .unk)).2)
def Fm:List (Option Nat)->Ds->Ds->Ds
 | none::r,_::i,o=>Fm r i o
 | some j::r,d::i,o=>Fm r i (o.set j d)
 | _,_,o=>o
def E8(g:VTG)(qf:VTT)(te:VT)(K:Ds->Ds->Prop):List D->Ds->Ds->Prop
 | [],acc,ι=>K acc ι
 | x::xs,acc,ι=>g x ι λ ι1=>qf ι1 (λ b ι2=>if b=true then te ι2 (λ d ι3=>acc.length < big/\E8 g qf te K xs (acc++[d]) ι3) (λ _ _=>False) else E8 g qf te K xs acc ι2) (λ _ _=>False)
def capW(src:List (Option Nat)):Nat->Bool:=λ i=>match src[i]? with | some (some _)=>true | _=>false
abbrev cIn(src:List (Option Nat))(av:List (Option V)):Vc:=⟨λ _ _ _=>False,capW src,av,[]⟩
structure VF(c:Vc)(X:Cx)(ifs:List Expr)(t:VTT):Prop where
 h:PFs X ifs (Ed c t)
 m:∀ ds (Q Q':Bool->Ds->Prop) (xe xe':XKd),(∀ d ds',Q d ds'->Q' d ds')->(∀ x ds',xe x ds'->xe' x ds')->t ds Q xe->t ds Q' xe'
def qYes:VTT:=λ ds Q _=>Q true ds
theorem Eu{c:Vc}{X:Cx}:VF c X [] qYes:=⟨λ Dy s σ H Q I ⟨F,ds,A,xe,S,x,q⟩=>qax4 Dy s σ H Q I (q H F A S Stp.refl),λ ds Q Q' xe xe' hQ _=>hQ _ _⟩
theorem Iu{c:Vc}{X:Cx}{e:Expr}{t:VTT}(h:VTe c X e t):VF c X [e] t:=⟨qaH3 h.h,h.m⟩
section
variable{F F':Addr->Prop}{H H':Hp}
theorem qR2:∀{src:List (Option Nat)}{σ gv:List (Option V)}{ds:Ds}{A:List Addr},Locs F H (σ++gv) ds A->(∀ j,some j∈src->j < σ.length) ->
   ∃ Ai Ao,Locs F H (B9 σ src) (By src ds).1 Ai/\Locs F H (σ++gv) (By src ds).2 Ao/\∀ b,A.count b=Ai.count b+Ao.count b
 | [],σ,gv,ds,A,L,_=>⟨[],A,.nil,L,λ b=>by simp⟩
 | none::r,σ,gv,ds,A,L,h=>by
   obtain⟨Ai,Ao,q1,q2,q3⟩:=qR2 (src:=r) L λ j hj=>h j (zA4 _ hj)
   exact⟨Ai,Ao,.no q1,q2,q3⟩
 | some j::r,σ,gv,ds,A,L,h=>by
   have hj:=h j zAd;have hl:=L.len;rw[zAj] at hl;obtain⟨dj,hds⟩:∃ d,ds[j]? = some d:=⟨_,zBn (by lia)⟩
   obtain⟨σ1,o,σ2,ds1,ds2,A1,B,A2,e1,e2,e3,e4,e5,l1,l2,l3⟩:=L.split hds;have ho:(σ++gv)[j]? = some o:=by rw[e1];exact qx2 e3
   rw[zAr hj] at ho;have e6:ds.set j .unk=ds1++.unk::ds2:=by
     have:=congrArg (λ l=>l.set j .unk) e2
     rw[this,ql4 e4]
   have L':Locs F H (σ++gv) (ds.set j .unk) (A1++A2):=by
     rw[e1,e6];cases l2 with
     | no=>exact l1.append (.no l3)
     | @so v _ _ _=>exact l1.append (.so (B:=[]) (.unk v) l3)
   obtain⟨Ai,Ao,q1,q2,q3⟩:=qR2 (src:=r) L' λ j hj=>h j (zA4 _ hj)
   refine⟨B++Ai,Ao,?_,q2,λ b=>by rw[e5];have:=q3 b;simp only[zA0] at *;lia⟩;show Locs F H (((σ[j]?).getD none)::B9 σ r) ((ds[j]?).getD .unk::_) _;rw[ho,hds];exact Locs.cons l2 q1
theorem qD3:∀{src:List (Option Nat)}{σ gv σ':List (Option V)}{ι o:Ds}{Ai Ao:List Addr},Locs F H σ' ι Ai->Locs F H (σ++gv) o Ao->(∀ j,some j∈src->j < σ.length)->(∀(i j:Nat),src[i]? = some (some j)->σ'[i]? = some ((σ[j]?).getD none))->σ'.length=src.length ->
   ∃ A',Locs F H (σ++gv) (Fm src ι o) A'/\∀ b,A'.count b<=Ai.count b+Ao.count b
 | [],σ,gv,σ',ι,o,Ai,Ao,L,Lo,_,_,_=>⟨Ao,by cases ι<;>exact Lo,λ b=>by lia⟩
 | none::r,σ,gv,σ',ι,o,Ai,Ao,L,Lo,h,ag,hl=>by
   cases L with
   | nil=>simp at hl
   | no L2 =>
     obtain⟨A',q1,q2⟩:=qD3 (src:=r) L2 Lo (λ j hj=>h j (zA4 _ hj)) (λ i j e=>by simpa using ag (i+1) j (by simpa using e)) (by simpa using hl);exact⟨A',q1,q2⟩
   | so r1 L2 =>
     obtain⟨A',q1,q2⟩:=qD3 (src:=r) L2 Lo (λ j hj=>h j (zA4 _ hj)) (λ i j e=>by simpa using ag (i+1) j (by simpa using e)) (by simpa using hl);exact⟨A',q1,λ b=>by rw[zA0];have:=q2 b;lia⟩
 | some j::r,σ,gv,σ',ι,o,Ai,Ao,L,Lo,h,ag,hl=>by
   have hj:=h j zAd;have hlo:=Lo.len;rw[zAj] at hlo;obtain⟨oj,hoj⟩:∃ d,o[j]? = some d:=⟨_,zBn (by lia)⟩
   obtain⟨σ1,ov,σ2,ds1,ds2,A1,B,A2,e1,e2,e3,e4,e5,l1,l2,l3⟩:=Lo.split hoj;have ho:(σ++gv)[j]? = some ov:=by rw[e1];exact qx2 e3
   rw[zAr hj] at ho;have h0:=ag 0 j rfl;rw[ho] at h0;have e6:∀ d,o.set j d=ds1++d::ds2:=λ d=>by
     have:=congrArg (λ l=>l.set j d) e2
     rw[this,ql4 e4]
   cases L with
   | nil=>simp at hl
   | no L2 =>
     have:ov=none:=by simpa using h0.symm
     subst this;have Lo':Locs F H (σ++gv) (o.set j .unk) (A1++A2):=by rw[e1,e6];exact l1.append (.no l3)
     obtain⟨A',q1,q2⟩:=qD3 (src:=r) L2 Lo' (λ j hj=>h j (zA4 _ hj)) (λ i j e=>by simpa using ag (i+1) j (by simpa using e)) (by simpa using hl);exact⟨A',q1,λ b=>by rw[e5];have:=q2 b;simp only[zA0] at *;lia⟩
   | @so v d Bv _ _ _ r1 L2 =>
     have:ov=some v:=by simpa using h0.symm
     subst this;have Lo':Locs F H (σ++gv) (o.set j d) (A1++(Bv++A2)):=by rw[e1,e6];exact l1.append (.so r1 l3)
     obtain⟨A',q1,q2⟩:=qD3 (src:=r) L2 Lo' (λ j hj=>h j (zA4 _ hj)) (λ i j e=>by simpa using ag (i+1) j (by simpa using e)) (by simpa using hl);exact⟨A',q1,λ b=>by rw[e5];have:=q2 b;simp only[zA0] at *;lia⟩
theorem qan7(σ:St)(src:List (Option Nat)):(B9 σ src).length=src.length:=by simp[B9]
theorem qan8{σ:St}{src:List (Option Nat)}(h:src[i]? = some (some j)):(B9 σ src)[i]? = some ((σ[j]?).getD none):=by
 unfold B9;rw[zAx,h];rfl
structure Hk(Pp:(Addr->Prop)->Hp->Prop)(T:List Addr):Prop where
 keep:∀{F F':Addr->Prop}{H H':Hp}{W:Addr->Prop},Kp F H W F' H'->(∀ b∈T,¬ W b)->Pp F H->Pp F' H'
 cells:∀{F:Addr->Prop}{H:Hp},Pp F H->∀ b∈T,∃ o,H b=some o/\Eg o=true
end
section
variable{c:Vc}{F F':Addr->Prop}{H H':Hp}{Pp:(Addr->Prop)->Hp->Prop}{τ:List (Option V)}{o:Ds}{Dd:Addr}{acc:Ds}{T A A' Tv:List Addr}{σ:St}{ds:Ds}
def Tot(B T Ao A:List Addr):List Addr:=B++(T++(Ao++A))
theorem qz2(st:Hk Pp T){B:List Addr}(r:Rep F H (.ref Dd) (.lst false acc) B)(hp:Pp F H)(L:Locs F H τ o Ao)(ok:Ok F H (Tot B T Ao A))(S:Sta c F H σ ds A)(s:Stp F H A F' H' A')(o':Ok F' H' A') :
   Rep F' H' (.ref Dd) (.lst false acc) B/\Pp F' H'/\Locs F' H' τ o Ao/\Ok F' H' (Tot B T Ao A')/\Stp F H (Tot B T Ao A) F' H' (Tot B T Ao A'):=by
 unfold Tot at *
 have kp:=s.kp S.ok S.loc.cells;have hc:∀ b,(B++(T++(Ao++A))).count b=((B++(T++Ao))++A).count b:=λ b=>by simp only[zA0];lia
 have hout:∀ b,b∈B∨b∈T∨b∈Ao->¬ (A.count b≠0):=λ b hb hcn=>by
   have:=ok.sep b
   simp only[zA0] at this;rcases hb with hb | hb | hb<;>have:=qa8.mp hb<;>lia
 have cT:∀ b∈B++(T++Ao),∃ o,H b=some o/\Eg o=true:=λ b hb=>by
   rcases zAf.mp hb with hb | hb
   . exact r.cells b hb
   rcases zAf.mp hb with hb | hb
   . exact st.cells hp b hb
   exact L.cells b hb
 obtain⟨o2,s2⟩:=s.frame (T:=B++(T++Ao)) (ok.count λ b=>by rw[hc];exact zA5 _) cT o';have hc':∀ b,(B++(T++(Ao++A'))).count b=((B++(T++Ao))++A').count b:=λ b=>by simp only[zA0];lia
 exact⟨r.keep kp λ b hb=>hout b (.inl hb),st.keep kp (λ b hb=>hout b (.inr (.inl hb))) hp,L.keep kp λ b hb=>hout b (.inr (.inr hb)),o2.count λ b=>by rw[hc'];exact zA5 _,(s2.pre λ b=>by rw[hc]).count λ b=>by rw[hc'];exact zA5 _⟩
theorem qao7(st:Hk Pp T){B:List Addr}{d:D}(r:Rep F H (.ref Dd) (.lst false acc) B)(hp:Pp F H)(L:Locs F H τ o Ao)(S:Sta c F H σ ds A)(rv:Rep F H v d Tv)(ok:Ok F H (Tot B T Ao (Tv++A))) :
   ∃ vs B',H Dd=some (.lst vs)/\vs.length=acc.length/\Rep F (upd H Dd (.lst (vs++[v]))) (.ref Dd) (.lst false (acc++[d])) B'/\Pp F (upd H Dd (.lst (vs++[v])))/\Locs F (upd H Dd (.lst (vs++[v]))) τ o Ao/\Sta c F (upd H Dd (.lst (vs++[v]))) σ ds A/\Ok F (upd H Dd (.lst (vs++[v]))) (Tot B' T Ao A)/\Stp F H (Tot B T Ao (Tv++A)) F (upd H Dd (.lst (vs++[v]))) (Tot B' T Ao A):=by
 unfold Tot at *
 obtain⟨a,vs,Ael,ea,ha,rs,rfl⟩:=qv3 r;cases ea;have hs:=ok.sep Dd;simp only[zA0,zAh,zBe,if_true] at hs;have hf:¬ F Dd:=λ f=>by have:=ok.fro Dd f;simp only[zA0,zAh,zBe,if_true] at this;lia
 have k:=qE9 (F:=F) (o':=.lst (vs++[v])) ha rfl hf;have no:∀ X:List Addr,X.count Dd=0->∀ b∈X,¬ b=Dd:=λ X hx b hb w=>by subst w;exact(qa8.mp hb) hx
 have hcnt:∀ b,(Dd::(Ael++(Tv++[]))++(T++(Ao++A))).count b<=(Dd::Ael++(T++(Ao++(Tv++A)))).count b:=λ b=>by simp only[zA0,zAh,List.count_nil];lia
 have ex:∀ b,F b->∃ o,upd H Dd (.lst (vs++[v])) b=some o:=λ b f=>by
   obtain⟨x,e⟩:=ok.ex b f;exact⟨x,by rw[qb3 (show b≠Dd from λ w=>hf (w ▸ f))];exact e⟩
 refine⟨vs,Dd::(Ael++(Tv++[])),ha,rs.len,?_,st.keep k (no T (by lia)) hp,L.keep k (no Ao (by lia)),⟨S.loc.keep k (no A (by lia)),⟨S.ok.sep,S.ok.fro,ex⟩,S.len,S.ag⟩,⟨λ b=>zAl (hcnt b) (ok.sep b),λ b f=>by have:=ok.fro b f;have:=hcnt b;lia,ex⟩,λ b u e z=>?_,λ b u e z=>by have:=hcnt b;lia,λ _ f=>f,λ _ _ _ _ f=>f⟩
 . exact .lst qb1 ((rs.append (.cons rv .nil)).keep k (no _ (by simp only[zA0,List.count_nil];lia)))
 rw[qb3 λ w=>?_]
 . exact e
 subst w;simp only[zA0,zAh,zBe,if_true] at z;lia
end
def qA1(src:List (Option Nat))(g:VTG):TG:=λ v σ H Q=>∃ av,E7 (cIn src av) g v σ H Q
def qA0(src:List (Option Nat))(q:VTT):TT:=λ σ H Q=>∃ av,Ed (cIn src av) q σ H Q
def El(src:List (Option Nat))(t:VT):TE:=λ σ H Q=>∃ av,Bf (cIn src av) t σ H Q
structure Blk(X:Cx)(NY:List Str)(sc:Scope)(src:List (Option Nat))(tg:Expr)(ifs:List Expr)(elt:Expr)(g:VTG)(qf:VTT)(te:VT):Prop where
 g:∀ av C s0 H0 ex,VG (cIn src av) (qg3 X NY sc C s0 H0 ex) tg g
 f:∀ av C s0 H0 ex,VF (cIn src av) (qg3 X NY sc C s0 H0 ex) ifs qf
 e:∀ av C s0 H0 ex,VE (cIn src av) (qg3 X NY sc C s0 H0 ex) elt te
 lt:∀ Dy σ H s,Inv X Dy σ H s->∀ j,some j∈src->j < σ.length
section
variable{c:Vc}{X:Cx}{NY:List Str}{sc:Scope}{src:List (Option Nat)}{tg elt e:Expr}{ifs:List Expr}{g:VTG}{qf:VTT}{te:VT}
theorem Blk.pg(b:Blk X NY sc src tg ifs elt g qf te):∀ C s0 H0 ex,PG (qg3 X NY sc C s0 H0 ex) tg (qA1 src g):=λ C s0 H0 ex Dy s σ H v u Q I r ⟨av,q⟩=>(b.g av C s0 H0 ex).h Dy s σ H v u Q I r q
theorem Blk.pf(b:Blk X NY sc src tg ifs elt g qf te):∀ C s0 H0 ex,PFs (qg3 X NY sc C s0 H0 ex) ifs (qA0 src qf):=λ C s0 H0 ex Dy s σ H Q I ⟨av,q⟩=>(b.f av C s0 H0 ex).h Dy s σ H Q I q
theorem Blk.pe(b:Blk X NY sc src tg ifs elt g qf te):∀ C s0 H0 ex,PE (qg3 X NY sc C s0 H0 ex) elt (El src te):=λ C s0 H0 ex Dy s σ H Q I ⟨av,q⟩=>(b.e av C s0 H0 ex).h Dy s σ H Q I q
theorem Blk.gm(b:Blk X NY sc src tg ifs elt g qf te):∀ d ds (Q Q':Ds->Prop),(∀ ds',Q ds'->Q' ds')->g d ds Q->g d ds Q':=(b.g [] 0 {} (λ _=>none) []).m
theorem Blk.fm(b:Blk X NY sc src tg ifs elt g qf te):∀ ds (Q Q':Bool->Ds->Prop) (xe xe':XKd),(∀ d ds',Q d ds'->Q' d ds')->(∀ x ds',xe x ds'->xe' x ds')->qf ds Q xe->qf ds Q' xe':=(b.f [] 0 {} (λ _=>none) []).m
theorem Blk.em(b:Blk X NY sc src tg ifs elt g qf te):∀ ds (Q Q':DK) (xe xe':XKd),(∀ d ds',Q d ds'->Q' d ds')->(∀ x ds',xe x ds'->xe' x ds')->te ds Q xe->te ds Q' xe':=(b.e [] 0 {} (λ _=>none) []).m
theorem qo6(b:Blk X NY sc src tg ifs elt g qf te){K K':Ds->Ds->Prop}(h:∀ acc ι,K acc ι->K' acc ι):∀(xs:List D) acc ι,E8 g qf te K xs acc ι->E8 g qf te K' xs acc ι
 | [],acc,ι=>h acc ι
 | x::xs,acc,ι=>b.gm _ _ _ _ λ ι1=>b.fm _ _ _ _ _ (λ k ι2=>qD1 (b.em _ _ _ _ _ (λ d ι3=>And.imp_right (qo6 b h xs _ _)) λ _ _ z=>z) (qo6 b h xs _ _)) λ _ _ z=>z
variable{F F0:Addr->Prop}{H H0:Hp}{Pp:(Addr->Prop)->Hp->Prop}{τ:List (Option V)}{o0:Ds}{Dd:Addr}{acc:Ds}{T A A0:List Addr}{σ:St}{ds ι:Ds}{av:List (Option V)}{K:Ds->Ds->Prop}
def Mid(src:List (Option Nat))(av:List (Option V))(Pp:(Addr->Prop)->Hp->Prop)(T:List Addr)(τ:List (Option V))(o0:Ds)(Dd:Addr)(F0:Addr->Prop)(H0:Hp)(A0:List Addr)(g:VTG)(qf:VTT)(te:VT)(K:Ds->Ds->Prop)(xs:List D)(σ:St)(H:Hp):Prop :=
 ∃ F ι A acc B Ao,Sta (cIn src av) F H σ ι A/\Rep F H (.ref Dd) (.lst false acc) B/\Pp F H/\Locs F H τ o0 Ao/\Ok F H (Tot B T Ao A)/\Stp F0 H0 A0 F H (Tot B T Ao A)/\E8 g qf te K xs acc ι
theorem qN7(b:Blk X NY sc src tg ifs elt g qf te)(st:Hk Pp T){B:List Addr}{x:V}{y:D}{xs:List D}(S:Sta (cIn src av) F H σ ι A)(r:Rep F H (.ref Dd) (.lst false acc) B)(hp:Pp F H)(L:Locs F H τ o0 Ao)(ok:Ok F H (Tot B T Ao A))(s0:Stp F0 H0 A0 F H (Tot B T Ao A))(ry:Rep F H x y [])(q:E8 g qf te K (y::xs) acc ι) :
   qA1 src g x σ H λ σ2 H2=>qA0 src qf σ2 H2 λ okk H3=>if okk=true then El src te σ2 H3 λ v H4=>∃ ys,H4 Dd=some (.lst ys)/\ys.length < sizeLine/\Mid src av Pp T τ o0 Dd F0 H0 A0 g qf te K xs σ2 (upd H4 Dd (.lst (ys++[v]))) else Mid src av Pp T τ o0 Dd F0 H0 A0 g qf te K xs σ2 H3:=by
 have noX:∀(F:Addr->Prop)(H:Hp)(A:List Addr),Xc (cIn src av) (λ _ _=>False) F H A:=λ F H A x ds' σ' e H' F' A' z=>z.elim
 refine⟨av,F,ι,A,[],y,ry,S,S.ok,b.gm _ _ _ _ (λ ι1 q σ1 H1 F1 A1 S1 s1=>?_) q⟩;obtain⟨r1,hp1,L1,ok1,t1⟩:=qz2 st r hp L ok S (show Stp F H A F1 H1 A1 from s1) S1.ok;refine⟨av,F1,ι1,A1,_,S1,noX _ _ _,b.fm _ _ _ _ _ (λ k ι2 q H2 F2 A2 S2 s2=>?_) (λ _ _ z=>z) q⟩;obtain⟨r2,hp2,L2,ok2,t2⟩:=qz2 st r1 hp1 L1 ok1 S1 s2 S2.ok;cases k with
 | false =>
   rw[if_neg (by decide)] at q ⊢;exact⟨F2,ι2,A2,acc,B,Ao,S2,r2,hp2,L2,ok2,(s0.trans t1).trans t2,q⟩
 | true =>
   rw[if_pos rfl] at q ⊢;refine⟨av,F2,ι2,A2,_,S2,noX _ _ _,b.em _ _ _ _ _ (λ d ι3 q v H3 F3 Tv A3 rv S3 o3 s3=>?_) (λ _ _ z=>z) q⟩;obtain⟨r3,hp3,L3,ok3,t3⟩:=qz2 st r2 hp2 L2 ok2 S2 s3 o3;obtain⟨vs,B',e1,e2,r4,hp4,L4,S4,ok4,t4⟩:=qao7 st r3 hp3 L3 S3 rv ok3;exact⟨vs,e1,by rw[e2];exact zAa q.1 qf3,F3,ι3,A3,acc++[d],B',Ao,S4,r4,hp4,L4,ok4,((s0.trans t1).trans t2).trans (t3.trans t4),q.2⟩
theorem qZ1{xs:List D}(hlt:∀ j,some j∈src->j < σ.length)(S:Sta c F H σ ds A)(ok:Ok F H (T++A))(hp:Pp F H)(st:Hk Pp T)(hD:H Dd=none)(q:E8 g qf te K xs [] (By src ds).1) :
   Mid src (B9 σ src) Pp T (σ++c.gv) (By src ds).2 Dd F H (T++A) g qf te K xs (B9 σ src) (upd H Dd (.lst [])):=by
 obtain⟨Ai,Ao,q1,q2,q3⟩:=qR2 S.loc hlt;have sm:=Same.new (u:=.lst []) hD;have kp:=Kp.same (F:=F) sm;have okN:Ok F (upd H Dd (.lst [])) ([Dd]++(T++A)):=(qf5 hD).ok ok (λ b hb=>by
   rcases zAf.mp hb with hb | hb
   . exact st.cells hp b hb
   exact S.loc.cells b hb) sm
 have hc:∀ b,(Tot [Dd] T Ao Ai).count b=([Dd]++(T++A)).count b:=λ b=>by unfold Tot;simp only[zA0,q3];lia
 have okT:Ok F (upd H Dd (.lst [])) (Tot [Dd] T Ao Ai):=okN.count λ b=>by rw[hc];exact zA5 _
 have okI:Ok F (upd H Dd (.lst [])) Ai:=okT.count λ b=>by unfold Tot;simp only[zA0];lia
 refine⟨F,_,Ai,[],[Dd],Ao,⟨by rw[zA9];exact q1.same sm,okI,by simp,λ i _=>by simp⟩,.lst qb1 .nil,st.keep kp (λ _ _=>id) hp,q2.same sm,okT,((qf5 hD).stp sm).count λ b=>by rw[hc];exact zA5 _,q⟩
theorem qZ2{H':Hp}{Fz:Addr->Prop}{Hz:Hp}{Az:List Addr}(hlt:∀ j,some j∈src->j < σ.length)(S:Sta c Fz Hz σ ds Az)(m:Mid src (B9 σ src) Pp T (σ++c.gv) o0 Dd F0 H0 A0 g qf te (λ acc ι'=>∀ v H' F' B A',Rep F' H' v (.lst false acc) B->Sta c F' H' σ (Fm src ι' o0) A'->Pp F' H'->Ok F' H' (B++(T++A'))->Stp F0 H0 A0 F' H' (B++(T++A'))->Q v H') [] σ' H'):Q (.ref Dd) H':=by
 obtain⟨F,ι,A,acc,B,Ao,S1,r,hp,L,ok,s,q⟩:=m;have hl1:=S1.len;simp only[zA9] at hl1;obtain⟨A',k1,k2⟩:=qD3 (src:=src) (by have:=S1.loc;simpa using this) L hlt (λ i j e=>by
   have:=S1.ag i (by show capW src i=true;unfold capW;rw[e])
   simp only[zA9] at this;rw[this];exact qan8 e) (by rw[<- hl1,qan7])
 have hc:∀ b,(B++(T++A')).count b<=(Tot B T Ao A).count b:=λ b=>by unfold Tot;simp only[zA0];have:=k2 b;lia
 have o1:=ok.count hc;exact q (.ref Dd) H' F B A' r ⟨k1,o1.right.right,S.len,S.ag⟩ hp o1 (s.count hc)
theorem qS2{a:Addr}{ys:Ds}{T:List Addr}:Hk (λ F H=>Rep F H (.ref a) (.lst z ys) T/\H a=some (.lst vs)) T where
 keep:=λ{F F' H H' W} k h p=>by
   refine⟨p.1.keep k h,?_⟩;cases p.1 with
   | lst _ _=>exact k.fr _ _ p.2 (h _ zAd)
   | lstZ _ f _=>exact k.fr _ _ p.2 λ w=>k.wf _ w f
 cells:=λ p=>p.1.cells
theorem qK3:Hk (λ _ _=>True) [] where
 keep:=λ _ _ p=>p
 cells:=λ _ b hb=>by cases hb
theorem qaL8{a:Addr}{ys:Ds}{T:List Addr}{x:V}(r:Rep F H (.ref a) (.lst z ys) T)(h:H a=some (.lst vs))(hm:D.imms ys=true)(hx:vs[i]? = some x):∃ y,ys[i]? = some y/\Rep F H x y []:=by
 obtain⟨a',vs',Ael',ea,ha',rs',_⟩:=r.lst_inv;cases ea;rw[h] at ha';cases ha';obtain⟨y,B,hy,ry⟩:=rs'.getV hx
 have:=ry.imm (qA5 hm hy)
 subst this;exact⟨y,hy,ry⟩
theorem qaJ9{a:Addr}{ys:Ds}{T:List Addr}(r:Rep F H (.ref a) (.lst z ys) T)(h:H a=some (.lst vs)):vs.length=ys.length:=by
 obtain⟨a',vs',Ael',ea,ha',rs',_⟩:=r.lst_inv;cases ea;rw[h] at ha';cases ha';exact rs'.len
theorem qak8{K':PySem.W.Frag}{a:Addr}{ys:Ds}{Q:Hp->Prop}(b:Blk X NY sc src tg ifs elt g qf te)(hm:D.imms ys=true)(m:Mid src av (λ F H=>Rep F H (.ref a) (.lst z ys) T/\H a=some (.lst vs)) T τ o0 Dd F0 H0 A0 g qf te K ys σ' H)(hQ:∀ σ2 H2,Mid src av (λ F H=>Rep F H (.ref a) (.lst z ys) T/\H a=some (.lst vs)) T τ o0 Dd F0 H0 A0 g qf te K [] σ2 H2->Q H2):qB7 (Itl K' a) (qA1 src g) (qA0 src qf) (El src te) Dd Q σ' H:=by
 obtain⟨_,_,_,_,_,_,_,_,hp0,_⟩:=id m;have hlen:=qaJ9 hp0.1 hp0.2;refine qN8 (xs:=vs) (λ i σ H=>Mid src av (λ F H=>Rep F H (.ref a) (.lst z ys) T/\H a=some (.lst vs)) T τ o0 Dd F0 H0 A0 g qf te K (ys.drop i) σ H) m ?_ ?_ ?_
 . rintro i σ H _ ⟨_,_,_,_,_,_,_,_,hp,_⟩
   exact .inl (.inl hp.2)
 . rintro i x σ H hx ⟨F,ι,A,acc,B,Ao,S1,r,hp,L,ok,s,q⟩
   obtain⟨y,hy,ry⟩:=qaL8 hp.1 hp.2 hm hx;rw[qj3 hy] at q;exact qN7 b qS2 S1 r hp L ok s ry q
 intro σ H m;rw[hlen,List.drop_length] at m;exact hQ _ _ m
theorem qak7{Q:Hp->Prop}(b:Blk X NY sc src tg ifs elt g qf te)(m:Mid src av (λ _ _=>True) [] τ o0 Dd F0 H0 A0 g qf te K (Av lo n) σ' H)(hQ:∀ σ2 H2,Mid src av (λ _ _=>True) [] τ o0 Dd F0 H0 A0 g qf te K [] σ2 H2->Q H2):qB7 (Itr lo n) (qA1 src g) (qA0 src qf) (El src te) Dd Q σ' H:=by
 refine qZ0 (λ i σ H=>Mid src av (λ _ _=>True) [] τ o0 Dd F0 H0 A0 g qf te K ((Av lo n).drop i) σ H) m ?_ ?_
 . rintro i σ H hi ⟨F,ι,A,acc,B,Ao,S1,r,hp,L,ok,s,q⟩
   rw[qj3 (qT4 hi)] at q;exact qN7 b qK3 S1 r hp L ok s (.int _) q
 intro σ H m;rw[List.drop_of_length_le (by rw[qah2];exact zA5 _)] at m;exact hQ _ _ m
end
def Imp(c:Vc)(X:Cx)(t:VT)(tc:TE):Prop:=∀ Dy s σ H Q,Inv X Dy σ H s->Bf c t σ H Q->tc σ H Q
def G9(t:VT):Prop:=∀ ds (Q Q':DK) (xe xe':XKd),(∀ d ds',Q d ds'->Q' d ds')->(∀ x ds',xe x ds'->xe' x ds')->t ds Q xe->t ds Q' xe'
section
variable{c:Vc}{X:Cx}{NY:List Str}{sc:Scope}{src:List (Option Nat)}{tg elt e o:Expr}{ifs:List Expr}{g:VTG}{qf:VTT}{te:VT}
theorem qau4{tc:TE}{t:VT}(h:PE X e tc)(i:Imp c X t tc)(m:G9 t):VE c X e t:=⟨λ Dy s σ H Q I q=>h Dy s σ H Q I (i Dy s σ H Q I q),m⟩
theorem qau3{tc:TE}{t:VT}{x:Str}{px spos:Pos}(h:PS X (.Assign [.Name x px] e spos) (Hd tc (Ez i)))(im:Imp c X t tc)(m:G9 t)(hW:c.W i=false)(hi:X.N[i]? = some x):VS c X (.Assign [.Name x px] e spos) (Ej t (gNm i)):=by
 refine⟨λ Dy s σ H E I q=>h Dy s σ H E I (im Dy s σ H _ I ?_),λ en en' ds hl=>m _ _ _ _ _ (λ d ds'=>hl.nx _) hl.xe⟩;obtain⟨F,ds,A,en,S,l,q⟩:=q;refine⟨F,ds,A,en.xe,S,l.xe,m _ _ _ _ _ (λ d ds' q v H' F' T A' r S' o s0=>?_) (λ _ _ z=>z) q⟩;obtain⟨A2,S2,s2⟩:=S'.store hW (qo3 hi Dy σ H s I) r o;exact l.nx _ _ H' F' A2 q S2 (s0.trans s2)
def Gj(src:List (Option Nat))(g:VTG)(qf:VTT)(te:VT)(ys:List D):Ds->DK->Prop:=λ ds1 Q=>E8 g qf te (λ acc ι'=>Q (.lst false acc) (Fm src ι' (By src ds1).2)) ys [] (By src ds1).1
theorem qR6(b:Blk X NY sc src tg ifs elt g qf te){ys:List D}{ds1:Ds}{Q Q':DK}(h:∀ d ds',Q d ds'->Q' d ds'):Gj src g qf te ys ds1 Q->Gj src g qf te ys ds1 Q':=qo6 b (λ acc ι=>h _ _) _ _ _
def Iv(src:List (Option Nat))(tr:VTA)(g:VTG)(qf:VTT)(te:VT):VT:=λ ds Q xe=>tr ds (λ xs ds1=>orF (Iq xs) λ j=>Fv j=true/\Gj src g qf te (Av 0 j.toNat) ds1 Q) xe
theorem qK1{es:List Expr}{tr:VTA}(b:Blk X NY sc src tg ifs elt g qf te)(hi:VOs c X es tr):G9 (Iv src tr g qf te):=λ ds Q Q' xe xe' hQ hx=>hi.m _ _ _ _ _ (λ d ds1=>qa5 λ ys=>And.imp_right (qR6 b hQ)) hx
theorem qam9{F:Addr->Prop}{H:Hp}{A:List Addr}{F1:Addr->Prop}{H1:Hp}{A1:List Addr}{σ:St}{ds1:Ds}(b:Blk X NY sc src tg ifs elt g qf te)(hlt:∀ j,some j∈src->j < σ.length)(S1:Sta c F1 H1 σ ds1 A1)(s1:Stp F H A F1 H1 A1)(q:Gj src g qf te (Av lo n) ds1 (λ d ds'=>∀ v H' F' T A',Rep F' H' v d T->Sta c F' H' σ ds' A'->Ok F' H' (T++A')->Stp F H A F' H' (T++A')->Q v H')):∀ Dd,H1 Dd=none->qB7 (Itr lo n) (qA1 src g) (qA0 src qf) (El src te) Dd (λ H'=>Q (.ref Dd) H') (B9 σ src) (upd H1 Dd (.lst [])):=λ Dd hD =>
 qak7 b (qZ1 (T:=[]) hlt S1 S1.ok trivial qK3 hD (qo6 b (λ acc ι q v H' F' B A' r S' _ ok s=>q v H' F' B A' r S' ok (s1.trans s)) _ _ _ q)) λ σ2 H2 m=>qZ2 hlt S1 m
theorem qaj4{es:List Expr}{tr:VTA}(b:Blk X NY sc src tg ifs elt g qf te)(hi:VOs c X es tr):Imp c X (Iv src tr g qf te) (F5 (iRng1 (qaq4 c tr)) src (qA1 src g) (qA0 src qf) (El src te)):=by
 rintro Dy s σ H Q I ⟨F,ds,A,xe,S,x,q⟩;have hlt:=b.lt Dy σ H s I;refine⟨F,ds,A,xe,S,x,hi.m _ _ _ _ _ (λ xs ds1 q vs H1 F1 T A1 r1 S1 s1=>?_) (λ _ _ z=>z) q⟩;obtain⟨j,ej,hm,qf'⟩:=qa6.mp q;cases qai4 ej;obtain⟨v,rfl,rv⟩:=r1.one_inv;cases rv
 have:=qV9 hm
 exact⟨j,rfl,this.1,this.2,qam9 b hlt S1 s1 qf'⟩
def capOk(X:Cx)(src:List (Option Nat)):Bool:=src.all λ o=>match o with | none=>true | some j=>decide (j < X.N.length)
theorem blk(hg:∀ av C s0 H0 ex,VG (cIn src av) (qg3 X NY sc C s0 H0 ex) tg g)(hf:∀ av C s0 H0 ex,VF (cIn src av) (qg3 X NY sc C s0 H0 ex) ifs qf)(he:∀ av C s0 H0 ex,VE (cIn src av) (qg3 X NY sc C s0 H0 ex) elt te)(hs:capOk X src=true:=by rfl):Blk X NY sc src tg ifs elt g qf te :=
 ⟨hg,hf,he,λ Dy σ H s I j hj=>by
   have:=zB1.mp hs _ hj
   rw[I.len];exact zAo this⟩
end
theorem qi6{X:Cx}{NY:List Str}{sc:Scope}{C:Addr}{s0:Shared}{H0:Hp}{ex:List Addr}{src:List (Option Nat)}{av:List (Option V)}:Lands (qg3 X NY sc C s0 H0 ex) (cIn src av).E:=λ _ _ _ _ _ _ _ _ _ z=>z.elim
section
variable{c:Vc}{X:Cx}{NY:List Str}{sc:Scope}{src:List (Option Nat)}{tg elt a:Expr}{ifs:List Expr}{g:VTG}{qf:VTT}{te:VT}{pos px spos:Pos}{pf:PF}{x:Str}
theorem ecR1{tr:VTA}{p cpos:Pos}(hm:X.mg "range" = none)(ha:VOs c X [a] tr)(bl:Blk X NY sc src tg ifs elt g qf te)(hgl:Gl X "range" := by rfl)(hs1:starEach [a] X.env=[(false,eval a X.env)]:=by rfl)(hc:X.calm=true:=by rfl)(ck:qv7 X NY src sc=true:=by rfl)(hs:∀ x,foldedSetIterable (.Call (.Name "range" p) [a] [] cpos) X.env x=pure x:=by intro _;rfl):VE c X (.ListComp elt [⟨tg,.Call (.Name "range" p) [a] [] cpos,ifs,0⟩] sc pos) (Iv src tr g qf te) :=
 qau4 (qU4 NY src (qz1 hgl hm ha.h hs1) bl.pg bl.pf bl.pe hc ck hs) (qaj4 bl ha) (qK1 bl ha)
theorem scR1{tr:VTA}{p cpos:Pos}(i:Nat)(hN:X.N.Nodup)(hm:X.mg "range" = none)(ha:VOs c X [a] tr)(bl:Blk X NY sc src tg ifs elt g qf te)(hW:c.W i=false:=by rfl)(hgl:Gl X "range" := by rfl)(hs1:starEach [a] X.env=[(false,eval a X.env)]:=by rfl)(hix:X.N[i]? = some x:=by rfl)(hx:Loc X.env.scope x:=by first | exact Or.inl rfl | exact Or.inr rfl)(hc:X.calm=true:=by rfl)(ck:qv7 X NY src sc=true:=by rfl)(hsw:swapsWith (.ListComp elt [⟨tg,.Call (.Name "range" p) [a] [] cpos,ifs,0⟩] sc pos) (some (.Name x px)) spos.line X.env=pure true:=by rfl)(hs:∀ x,foldedSetIterable (.Call (.Name "range" p) [a] [] cpos) X.env x=pure x:=by intro _;rfl)(hfn:X.fn x=true∨X.env.scope.names.lookup x=some .local:=by first | exact .inl rfl | exact .inr rfl | assumption):VS c X (.Assign [.Name x px] (.ListComp elt [⟨tg,.Call (.Name "range" p) [a] [] cpos,ifs,0⟩] sc pos) spos) (Ej (Iv src tr g qf te) (gNm i)) :=
 qau3 (qah8 i NY src hN (qz1 hgl hm ha.h hs1) bl.pg bl.pf bl.pe hix hx hc ck hsw hs hfn) (qaj4 bl ha) (qK1 bl ha) hW hix
end
section
variable{c:Vc}{X:Cx}{es:List Expr}{tb:VTB}
def Gw(tb:VTB):VTA:=λ ds Q xe=>tb ds (λ xs _ ds1=>Q xs ds1) xe
theorem Eo(h:VAs c X es tb):VOs c X es (Gw tb):=⟨PA.mono h.h λ σ H Q ⟨F,ds,A,xe,S,x,q⟩=>⟨F,ds,A,xe,S,x,h.m _ _ _ _ _ (λ xs ps ds1 q vs H' F' T A' r _ S' o s=>q vs H' F' T A' r S' (s.count λ b=>by rw[zA0];lia)) (λ _ _ z=>z) q⟩,λ ds Q Q' xe xe' hQ hx=>h.m _ _ _ _ _ (λ xs ps ds1=>hQ _ _) hx⟩
end
structure Bg(x y z:Int)(ns:List Int):Prop where
 x0:0<=x
 y0:0<=y
 y1:y < 2147483647
 z0:0<=z
 nn:∀ n∈ns,0<=n
def bagD(x y z:Int)(ns:List Int):D:=.lst false [.int x,.int y,.int z,.lst false (ns.map .int)]
def lawE:VEnds where
 nx _:=False
 rt d _:=d.asB=some true
 bk _:=False
 ct _:=False
 xe _ _:=False
theorem qad6{c:Vc}{X:Cx}{rest:List Stmt}{t:VTS}{H:Hp}{E:Bn}{p L:Addr}{x y z:Int}{ns:List Int}(hav:c.av.length=2+n)(hW:∀ i,c.W i=false)(hgv:c.gv=[])(hp:H p=some (.lst [.int x,.int y,.int z,.ref L]))(hL:H L=some (.lst (ns.map V.int)))(ne:L≠p)(hE:∀ H',E.rt (.bl true) H')(ht:t lawE (.hole w::bagD x y z ns::List.replicate n .unk)):Ei c t E (some w::some (.ref p)::List.replicate n none) H:=by
 have L0:Locs (λ _=>False) H (some w::some (.ref p)::List.replicate n none) (.hole w::bagD x y z ns::List.replicate n .unk) ([]++((p::([]++([]++([]++((L::[])++[])))))++[])) :=
   .so (.hole w) (.so (.lst hp (.cons (.int x) (.cons (.int y) (.cons (.int z) (.cons (.lst hL (qz0 ns)) .nil))))) (qr1 n))
 refine⟨λ _=>False,_,_,lawE,⟨by rw[hgv,zA9];exact L0,⟨λ b=>?_,λ b f=>f.elim,λ b f=>f.elim⟩,by rw[hgv,hav];simp;lia,λ i hi=>by rw[hW i] at hi;cases hi⟩,⟨λ _ _ _ _ _ z=>False.elim z,λ d ds' v σ' H' F' T A' q r _ _ _=>by rw[r.asB q];exact hE H',λ _ _ _ _ _ z=>False.elim z,λ _ _ _ _ _ z=>False.elim z,λ _ _ _ _ _ _ _ z=>False.elim z⟩,ht⟩;simp only[zBk,zA9,zAh,List.count_nil];by_cases h1:p=b
 . subst h1;simp[ne]
 by_cases h2:L=b
 . subst h2;simp[h1]
 simp[h1,h2]
section
variable{c:Vc}{b d e o:Expr}{oa ob oc:Bool}{fa fb fc:FV}
def f3(g g':D->D->Option D)(fa fb fc:FV):FV:=λ ds=>(fa ds).bind λ x=>(fb ds).bind λ y=>(g x y).bind λ z=>z.asB.bind λ k=>if k=true then (fc ds).bind λ u=>g' y u else some (.bl false)
theorem qZ5{r r':R2}{g g':D->D->Option D}(h:Ay true r g)(h':Ay true r' g'):∀ σ H Q,liftV c true (f3 g g' fa fb fc) σ H Q->qal3 r r' (liftV c oa fa) (liftV c ob fb) (liftV c oc fc) σ H Q:=by
 rintro σ H Q ⟨F,ds,A,d,S,e,q⟩;obtain⟨x,e1,e⟩:=zA1.mp e;obtain⟨y,e2,e⟩:=zA1.mp e;obtain⟨z,e3,e⟩:=zA1.mp e;obtain⟨k,e4,e⟩:=zA1.mp e;refine⟨F,ds,A,x,S,e1,λ v H1 B1 r1 s1 n1=>⟨F,ds,A,y,S.same s1,e2,λ w H2 B2 r2 s2 n2=>?_⟩⟩;have s12:=s1.trans s2;refine h F H2 v w x y _ z _ (Gp (r1.same s2) r2) e3 λ u H3 B3 r3 s3 h3=>⟨k,r3.asB e4,?_⟩
 have s13:=s12.trans s3;cases k with
 | false=>rw[if_neg (by decide)] at e ⊢;cases e;exact q _ H3 [] (.bl _) s13 λ _=>New.nil
 | true =>
   rw[if_pos rfl] at e ⊢;obtain⟨uu,e5,e6⟩:=zA1.mp e;refine⟨F,ds,A,uu,S.same s13,e5,λ w4 H4 B4 r4 s4 n4=>?_⟩;refine h' F H4 w w4 y uu _ d Q (Gp ((r2.same s3).same s4) r4) e6 λ u5 H5 B5 r5 s5 h5=>q u5 H5 B5 r5 ((s13.trans s4).trans s5) λ _=>⟨h5.one,λ b o e=>h5.new b o (s4 b o (s13 b o e))⟩
end
section
variable{c:Vc}{X:Cx}{a b d e:Expr}{pos:Pos}{oa ob oc:Bool}{fa fb fc:FV}
theorem vch{op':CmpOp}{r r':R2}{g g':D->D->Option D}(ho:OpR X (compareOp op) r)(h:Ay true r g)(ho':OpR X (compareOp op') r')(h':Ay true r' g')(ha:VV c X a oa fa)(hb:VV c X b ob fb)(hc:VV c X d oc fc)(hm:lastMarks [op,op'] [b,d]=false:=by with_unfolding_all rfl) :
   VV c X (.Compare a [op,op'] [b,d] pos) true (f3 g g' fa fb fc):=⟨PE.mono (qao3 ho ho' ha.h hb.h hc.h hm) (qZ5 h h')⟩
theorem qch{op':CmpOp}{r r':R2}{g g':D->D->Option D}(ho:OpR X (compareOp op) r)(h:Ay true r g)(ho':OpR X (compareOp op') r')(h':Ay true r' g')(ha:VV c X a oa fa)(hb:VV c X b ob fb)(hc:VV c X d oc fc)(hm:lastMarks [op,op'] [b,d]=false:=by with_unfolding_all rfl) :
   VTe c X (.Compare a [op,op'] [b,d] pos) (ttV (f3 g g' fa fb fc)):=⟨PT.mono (qan2 ho ho' ha.h hb.h hc.h hm) λ σ H Q q=>qZ5 h h' σ H _ (qal1 (own:=true) σ H Q q),qF3⟩
def Ha(x:D):Option D:=match x with
 | .lst _ ys=>(intsD ys).bind λ ns=>gd (ns.length<=1000) (.int (qi8 ns))
 | _=>none
theorem vlenS{p p2 cpos:Pos}(hml:X.mg "len" = none)(hms:X.mg "set" = none)(ha:VV c X a oa fa)(hgl:Gl X "len" := by rfl)(hgs:Gl X "set" := by rfl)(hc:X.calm=true:=by rfl)(he:starEach [a] X.env=(false,eval a X.env)::starEach [] X.env:=by rfl)(hpl:((backTo cpos (starEach [] X.env)).any λ x=>x.1)=false:=by rfl)(he2:starEach [.Call (.Name "set" p2) [a] [] cpos] X.env=(false,eval (.Call (.Name "set" p2) [a] [] cpos) X.env)::starEach [] X.env:=by rfl)(hpl2:((backTo pos (starEach [] X.env)).any λ x=>x.1)=false:=by rfl) :
   VV c X (.Call (.Name "len" p) [.Call (.Name "set" p2) [a] [] cpos] [] pos) true (f1 Ha fa):=by
 refine⟨PE.mono (cbi qag0 hml (qd3 (cty (qaf9 hc) hms (qd3 ha.h qq1 he) hgs (by rfl) (by decide) (by decide) he hpl) qq1 he2) hgl (by rfl) (by decide) (by decide) he2 hpl2) λ σ H Q ⟨F,ds,A,d,S,e,q⟩=>?_⟩;obtain⟨x,e1,e2⟩:=qas0.mp e;cases x with
 | lst z ys =>
   obtain⟨ns,e3,e4⟩:=zA1.mp e2;obtain⟨hl,rfl⟩:=qm3 e4;refine⟨F,ds,A,_,S,e1,λ v H1 B1 r1 s1 n1=>?_⟩;obtain⟨a,vs,A2,rfl,hs,rs,_⟩:=r1.lst_inv;cases rs.intsD e3;refine⟨a,ns,rfl,.inl (.inl hs),hl,λ p St hp=>⟨p,St,_,rfl,qb1,?_⟩⟩;exact q _ _ [] (.int _) (s1.trans (Same.new hp)) λ _=>New.nil
 | _=>cases e2
def Br(f:Ds->Option D):VSp:=λ ds Q _=>orF (f ds) λ d=>Q d ds
theorem qq9{f:Ds->Option D}:Be (Br f):=λ ds Q Q' xe xe' hQ _=>qa5 λ d=>hQ d ds
def wOf(l:List Bool)(i:Nat):Bool:=l.getD i false
end
section
variable{c:Vc}{X:Cx}{NY:List Str}{sc:Scope}{src:List (Option Nat)}{tg elt e o a b:Expr}{ifs:List Expr}{g:VTG}{qf:VTT}{te:VT}{pos px spos p0:Pos}{x xn:Str}
def Iw(en:Ds->List D)(src:List (Option Nat))(i:Nat)(g:VTG)(qf:VTT)(te:VT):VT:=λ ds Q xe=>orF (rdN i ds) λ d=>orF d.lstOf λ ys=>D.imms ys=true/\E8 g qf te (λ acc ι'=>Q (.lst false acc) ((Fm src ι' (By src (ds.set i .unk)).2).set i d)) (en ys) [] (By src (ds.set i .unk)).1
theorem qK2{en:Ds->List D}(bl:Blk X NY sc src tg ifs elt g qf te):G9 (Iw en src i g qf te):=λ ds Q Q' xe xe' hQ hx=>qa5 λ d=>qa5 λ ys=>And.imp_right (qo6 bl (λ acc ι=>hQ _ _) _ _ _)
theorem qaE5{K:PySem.W.Frag}{en:Ds->List D}{wi:TI}{J:Addr->It}(bl:Blk X NY sc src tg ifs elt g qf te)(hN:X.N[i]? = some xn)(hw:∀{a:Addr}{vs:List V}{z:Bool}{ys:Ds}{T:List Addr}{τ:List (Option V)}{o0:Ds}{Dd:Addr}{F0:Addr->Prop}{H0 H:Hp}{A0:List Addr}{K0:Ds->Ds->Prop}{av:List (Option V)}{Q:Hp->Prop}{σ':St},D.imms ys=true->Mid src av (λ F H=>Rep F H (.ref a) (.lst z ys) T/\H a=some (.lst vs)) T τ o0 Dd F0 H0 A0 g qf te K0 (en ys) σ' H ->
     (∀ σ2 H2,Mid src av (λ F H=>Rep F H (.ref a) (.lst z ys) T/\H a=some (.lst vs)) T τ o0 Dd F0 H0 A0 g qf te K0 [] σ2 H2->Q H2)->qB7 (J a) (qA1 src g) (qA0 src qf) (El src te) Dd Q σ' H)(hwi:∀ σ H R,Ev i σ H (λ x H1=>∃ a,x=.ref a/\(∃ xs,SqL K H1 a xs)/\R (J a) H1)->wi σ H R):Imp c X (Iw en src i g qf te) (F5 wi src (qA1 src g) (qA0 src qf) (El src te)):=by
 rintro Dy s σ H Q I ⟨F,ds,A,xe,S,x,q⟩;have hlt:=bl.lt Dy σ H s I;have hi:=qo3 hN Dy σ H s I;refine hwi σ H _ ?_;obtain⟨d,ed,q⟩:=qa6.mp q;obtain⟨ed,hk⟩:=qj8.mp ed;obtain⟨ys,ey,hm,q⟩:=qa6.mp q;obtain⟨z,rfl⟩:=qz9 ey;obtain⟨v,B,C,h1,h2,h3,h4⟩:=S.put1 ed D.noConfusion;have h1':=h1;rw[zAr hi] at h1;obtain⟨A1,q1,q2⟩:=h4 .unk [] (Kp.same (F:=F) λ _ _ z=>z) (λ _ _ z=>z) (.unk v);have o1:Ok F H (B++A1):=S.ok.count λ b=>by rw[zA0,q2,h3];simp
 have s1:Stp F H A F H (B++A1):=⟨λ b o e _=>e,λ b o e z=>by rw[zA0,q2];have:=h3 b;simp;lia,λ _ f=>f,λ _ _ _ _ f=>f⟩
 have S1:Sta c F H σ (ds.set i .unk) A1:=⟨q1,o1.right,S.len,S.ag⟩
 obtain⟨a,vs,Ael,rfl,ha,rs,_⟩:=h2.lst_inv;refine⟨.ref a,h1,a,rfl,⟨vs,.inl (.inl ha)⟩,λ Dd hD=>hw hm (qZ1 hlt S1 o1 ⟨h2,ha⟩ qS2 hD (qo6 bl (λ acc ι q v H' F' B' A' rv S' hp ok s=>?_) _ _ _ q)) λ σ2 H2 m=>qZ2 hlt S1 m⟩;obtain⟨A2,k1,k2⟩:=qy1 S'.loc h1' hp.1;have hc:∀ b,(B'++A2).count b<=(B'++(B++A')).count b:=λ b=>by have:=k2 b;simp only[zA0] at *;lia
 exact q v H' F' B' A2 rv ⟨k1,(ok.count hc).right,S.len,S.ag⟩ (ok.count hc) ((s1.trans s).count hc)
theorem qaB4{K:PySem.W.Frag}(bl:Blk X NY sc src tg ifs elt g qf te)(hN:X.N[i]? = some xn):Imp c X (Iw (λ ys=>ys) src i g qf te) (F5 (iList K (Ev i)) src (qA1 src g) (qA0 src qf) (El src te)) :=
 qaE5 (K:=K) (J:=Itl K) bl hN (λ hm m hQ=>qak8 bl hm m hQ) λ σ H R h=>h
theorem ecN(i:Nat)(bl:Blk X NY sc src tg ifs elt g qf te)(hN:X.N[i]? = some xn:=by rfl)(hv:Vis X.env.scope xn:=by first | exact Or.inl rfl | exact Or.inr (Or.inl rfl) | exact Or.inr (Or.inr rfl))(hd:(xn == ("__debug__" : Str))=false:=by decide)(hcd:(xn == ("__classdict__" : Str))=false:=by decide)(hc:X.calm=true:=by rfl)(ck:qv7 X NY src sc=true:=by rfl)(hs:∀ x,foldedSetIterable (.Name xn p0) X.env x=pure x:=by intro _;rfl):VE c X (.ListComp elt [⟨tg,.Name xn p0,ifs,0⟩] sc pos) (Iw (λ ys=>ys) src i g qf te) :=
 qau4 (qU4 NY src (qC4 (qq0 hN hv hd hcd)) bl.pg bl.pf bl.pe hc ck hs) (qaB4 bl hN) (qK2 bl)
theorem scN(i j:Nat)(hN0:X.N.Nodup)(bl:Blk X NY sc src tg ifs elt g qf te)(hW:c.W i=false:=by rfl)(hN:X.N[j]? = some xn:=by rfl)(hv:Vis X.env.scope xn:=by first | exact Or.inl rfl | exact Or.inr (Or.inl rfl) | exact Or.inr (Or.inr rfl))(hd:(xn == ("__debug__" : Str))=false:=by decide)(hcd:(xn == ("__classdict__" : Str))=false:=by decide)(hix:X.N[i]? = some x:=by rfl)(hx:Loc X.env.scope x:=by first | exact Or.inl rfl | exact Or.inr rfl)(hc:X.calm=true:=by rfl)(ck:qv7 X NY src sc=true:=by rfl)(hsw:swapsWith (.ListComp elt [⟨tg,.Name xn p0,ifs,0⟩] sc pos) (some (.Name x px)) spos.line X.env=pure true:=by rfl)(hs:∀ x,foldedSetIterable (.Name xn p0) X.env x=pure x:=by intro _;rfl)(hfn:X.fn x=true∨X.env.scope.names.lookup x=some .local:=by first | exact .inl rfl | exact .inr rfl | assumption):VS c X (.Assign [.Name x px] (.ListComp elt [⟨tg,.Name xn p0,ifs,0⟩] sc pos) spos) (Ej (Iw (λ ys=>ys) src j g qf te) (gNm i)) :=
 qau3 (qah8 i NY src hN0 (qC4 (qq0 hN hv hd hcd)) bl.pg bl.pf bl.pe hix hx hc ck hsw hs hfn) (qaB4 bl hN) (qK2 bl) hW hix
theorem qE6{d0:D}{ds:Ds}(h:ds[i]? = some (.hole w)):bk1 i [] w d0 ds=some (ds.set i d0):=by
 unfold bk1 An;rw[qA6 h];simp only[if_true];unfold An;rw[qy2 h]
theorem qh9{g:VTG}{qf:VTT}{te:VT}{K:Ds->Ds->Prop}(I:Ds->Prop)(f:D->Option D):∀(xs:List D)(acc ι:Ds),acc.length+xs.length < big->I ι->(∀ x∈xs,∀ ι acc,I ι->∀ R:Ds->Ds->Prop,(∀ ι',I ι'->R (acc++(f x).toList) ι')->acc.length < big->g x ι λ ι1=>qf ι1 (λ b ι2=>if b=true then te ι2 (λ d ι3=>acc.length < big/\R (acc++[d]) ι3) (λ _ _=>False) else R acc ι2) (λ _ _=>False))->(∀ ι',I ι'->K (acc++xs.filterMap f) ι')->E8 g qf te K xs acc ι
 | [],acc,ι,_,h,_,hK=>by
   have:=hK ι h
   rw[List.filterMap_nil,zA9] at this;exact this
 | x::xs,acc,ι,hl,h,hs,hK=>by
   refine hs x zAd ι acc h (λ a i=>E8 g qf te K xs a i) (λ ι' hι=>?_) (by simp at hl;lia);refine qh9 I f xs _ ι' ?_ hι (λ y hy=>hs y (zA4 _ hy)) λ ι2 h2=>?_
   . cases hf:f x with
     | none=>simp at hl ⊢;lia
     | some y=>simp at hl ⊢;lia
   have:=hK ι2 h2
   rw[zBw] at this;cases hf:f x with
   | none=>rw[hf] at this;simpa using this
   | some y=>rw[hf] at this;simpa using this
end
def spX1(C:Addr)(fl:Str):Sp:=λ vs H Q _=>∃(e:Addr)(v:V),vs=[.ref e,v]/\H e=some (Bb e C none true)/\∀ dx,H dx=none->dx≠e->Q .non (upd (upd H dx (XD dx [(fl,v)])) e (Bb e C (some dx) true))
section
variable{c:Vc}{X:Cx}{e:Expr}{te:VT}{pos cpos np:Pos}{k:Nat}{f C:Addr}{fd:FuncData}{ps:List Str}{x fl:Str}{t:VTS}
def qs2(C:Addr)(fl:Str)(te:VT):VTS:=λ e ds=>te ds (λ d ds'=>d.imm=true/\e.xe ⟨C,[(fl,d)]⟩ ds') e.xe
theorem qm7(M:MkE X.K C f)(Fn:Bi X.prog X.w X.K X.mg X.base CX0 k f fd ps (spX1 C fl))(hr:Room (k+1) X.A)(hm:X.mg x=some (.ref C))(hb:Binds X.K fd ps [])(hl:Lands X c.E)(ha:VE c X e te)(hg:Gl X x:=by rfl)(hdb:(x == ("__debug__" : Str))=false:=by decide)(he:starEach [e] X.env=(false,eval e X.env)::starEach [] X.env:=by rfl)(hpl:(backTo cpos (starEach [] X.env)).any (·.1)=false:=by rfl) :
   VS c X (.Raise (some (.Call (.Name x np) [e] [] cpos)) none pos) (qs2 C fl te):=by
 refine⟨PS.mono (qan4 M Fn hr hm hb hl (qd3 ha.h qq1 he) hg hdb he hpl) λ E σ H ⟨F,ds,A,ends,S,l,q⟩=>?_,λ e e' ds h=>ha.m _ _ _ _ _ (λ d ds' z=>⟨z.1,h.xe _ _ z.2⟩) h.xe⟩;refine⟨F,ds,A,ends.xe,S,l.xe,ha.m _ _ _ _ _ (λ d ds' ⟨hi,q⟩ v H' F' T A' r S' o s=>?_) (λ _ _ z=>z) q⟩;refine⟨by show 1<=1000;decide,λ a na=>⟨a,v,rfl,qb1,λ dx h1 h2=>⟨rfl,some dx,qb1,?_⟩⟩⟩;have nx:H' dx=none:=by rwa[qb3 h2] at h1
 obtain rfl:=r.imm hi;have sm:Same H' (upd (upd (upd (upd H' a (Bb a C none true)) dx (XD dx [(fl,v)])) a (Bb a C (some dx) true)) a (Bb a C (some dx) false)):=λ b u eb=>by
   have b1:b≠a:=λ z=>by rw[z,na] at eb;cases eb
   have b2:b≠dx:=λ z=>by rw[z,nx] at eb;cases eb
   rw[qb3 b1,qb3 b1,qb3 b2,qb3 b1];exact eb
 refine l.xe ⟨C,[(fl,d)]⟩ ds' σ a _ F' A' q ⟨some dx,qb1,.inr ⟨dx,[(fl,v)],rfl,?_,rfl,?_⟩⟩ (S'.same sm) ((s.count λ b=>by rw[zA0];lia).trans (Stp.same sm))
 . rw[qb3 h2,qb3 h2,qb1]
 exact .cons (A:=[]) (B:=[]) (r.same sm) .nil
def Ix(t:VTS)(hd:Exn->VEnds->Ds->Prop):VTS:=λ e ds=>t { e with xe:=λ x ds'=>hd x e (List.replicate ds.length .unk) } ds
theorem stry{body:List Stmt}{h₀:ExceptHandler}{hs:List ExceptHandler}{th:Addr->TS}{hd:Exn->VEnds->Ds->Prop}(hg:c.gv=[])(hW:∀ i,c.W i=false)(hb:∀ E xe pn,Lands (Xt X xe pn) E->VSs { c with E:=E } (Xt X xe pn) body t)(hh:PH X (h₀::hs) th)(hm:∀ x (e e':VEnds) ds,e.Le e'->hd x e ds->hd x e' ds)(hth:∀ x a (e:VEnds) D F H (σ:St) ds,RepX F H a x->Sta c F H σ ds []->Lk c D F H [] e->σ=List.replicate σ.length none->hd x e ds->th a D σ H)(hst:X.stack=X.env::X.outer:=by rfl)(hfr:X.env.frame=some X.env.locals:=by rfl):VS c X (.Try body (h₀::hs) [] [] pos) (Ix t hd):=by
 refine⟨PS.mono (qaG8 (tb:=λ E=>Ei { c with E:=E } t) (λ E xe pn hl=>(hb E xe pn hl).h) hh hst hfr) λ D σ H ⟨F,ds,A,e,S,l,q⟩=>?_,λ e e' ds h=>(hb (λ _ _ _=>False) (λ _ _=>True) [] λ _ _ _ _ _ _ _ _ _ z=>z.elim).m _ _ _ ⟨h.nx,h.rt,h.bk,h.ct,λ x ds'=>hm x _ _ _ h⟩⟩;have hlen:σ.length=ds.length:=by
   have:=S.loc.len
   rw[hg,zA9] at this;exact this
 refine⟨λ ev _ H'=>∃ x a ds' σ' F' A',ev=.ref a/\hd x e (List.replicate ds.length .unk)/\RepX F' H' a x/\Sta c F' H' σ' ds' A'/\Stp F H A F' H' A',⟨F,ds,A,_,⟨S.loc,S.ok,S.len,S.ag⟩,⟨?_,?_,?_,?_,?_⟩,q⟩,λ a H' ⟨x,a',ds',σ',F',A',ea,qh,rx,S',s'⟩=>?_⟩
 . exact λ ds' σ' H' F' A' q S'=>l.nx ds' σ' H' F' A' q ⟨S'.loc,S'.ok,S'.len,S'.ag⟩
 . exact λ d ds' v σ' H' F' T A' q r S'=>l.rt d ds' v σ' H' F' T A' q r ⟨S'.loc,S'.ok,S'.len,S'.ag⟩
 . exact λ ds' σ' H' F' A' q S'=>l.bk ds' σ' H' F' A' q ⟨S'.loc,S'.ok,S'.len,S'.ag⟩
 . exact λ ds' σ' H' F' A' q S'=>l.ct ds' σ' H' F' A' q ⟨S'.loc,S'.ok,S'.len,S'.ag⟩
 . exact λ x ds' σ' a H' F' A' q rx S' s'=>⟨x,a,ds',σ',F',A',rfl,q,rx,⟨S'.loc,S'.ok,S'.len,S'.ag⟩,s'⟩
 cases ea;have S2:Sta c F' H' (List.replicate σ.length none) (List.replicate ds.length .unk) []:=by
   refine⟨?_,S'.ok.count λ b=>by simp,?_,λ i hi=>by rw[hW i] at hi;cases hi⟩
   . rw[hg,zA9,hlen];exact qr1 _
   rw[S.len,hg];simp
 have s2:Stp F H A F' H' []:=s'.count λ b=>by simp
 exact hth x a e D F' H' _ _ rx S2 (l.step s2) (by simp) qh
end
def hdAt(C:Addr)(fl:Str)(j:Nat):Exn->VEnds->Ds->Prop:=λ x e ds=>j < ds.length/\x.C=C/\∃ d,x.fs=[(fl,d)]/\e.rt d ds
theorem qaL6{C:Addr}{fl:Str}:∀ x (e e':VEnds) ds,e.Le e'->hdAt C fl j x e ds->hdAt C fl j x e' ds:=λ x e e' ds h ⟨h1,h2,d,h3,q⟩=>⟨h1,h2,d,h3,h.rt _ _ q⟩
theorem qaB9{c:Vc}{K:PySem.W.Frag}{CH C:Addr}{fl:Str}{tu:TS}{tr:Addr->TS}(hg:c.gv=[])(ex:Exc K C)(n:qd5 K C fl)(r:PySem.W.mroIn K C (.ref CH)=some true) :
   ∀ x a (e:VEnds) D F H (σ:St) ds,RepX F H a x->Sta c F H σ ds []->Lk c D F H [] e->σ=List.replicate σ.length none->hdAt C fl j x e ds ->
     tHd K CH j (λ _=>tIfS (tB (tCB (rIsE K) (Fx (Ev j) (Fx (tC (.ref C)) tNil)))) (tRet (tEF K (Ev j) fl)) tu) tr a D σ H:=by
 rintro⟨C',fs⟩ a e D F H σ ds ⟨od,he,hfs⟩ S l hσ ⟨hj,hc,d,hf,q⟩;have hc:C'=C:=hc;have hf:fs=[(fl,d)]:=hf;subst hc hf;rcases hfs with hfs | ⟨dx,fvs,rfl,hd,hm,rs⟩
 . cases hfs
 have hlen:σ.length=ds.length:=by
   have:=S.loc.len
   rw[hg,zA9] at this;exact this
 have hget:(σ.set j (some (.ref a)))[j]? = some (some (.ref a)):=zB0 (by rw[hlen];exact hj);obtain⟨v,rfl,rv⟩:∃ v,fvs=[(fl,v)]/\Rep F H v d []:=by
   match fvs,hm,rs with
   | [(k,v)],hm,rs =>
     have hm:[k]=[fl]:=hm;cases hm;generalize hN:([]:List Addr)=N at rs;cases rs with
     | @cons _ _ B _ _ B' h t =>
       obtain⟨rfl,rfl⟩:=List.append_eq_nil_iff.mp hN.symm;exact⟨v,rfl,h⟩
 refine⟨C',some dx,true,he,r,iteT ?_⟩;refine⟨_,hget,a,.ref C',.ref C',C',some dx,false,rfl,rfl,λ _ z=>z,he,qI5 _ _,_,rfl,?_⟩;exact iteT ⟨_,hget,a,C',dx,false,_,v,rfl,he,hd,ex,n,by simp,l.rt d ds v σ H F [] [] q rv S S.ok Stp.refl⟩
section
variable{X:Cx}{a:Expr}{p p2 pos pos2:Pos}
def Fw(n:Nat):List V:=(List.range n).map λ i=>V.int (i:Nat)
def tLR(ta:TA):TE:=λ σ H Q=>ta σ H λ vs H1=>∃ j:Int,vs=[.int j]/\0<=j/\j<=2 ^ 20/\∀ l,H1 l=none->Q (.ref l) (upd H1 l (.lst (Fw j.toNat)))
theorem qQ8:∀{xs:List V}{us:List Value},xs.length=us.length->(∀(i:Nat)(x:V)(u:Value),xs[i]? = some x->us[i]? = some u->RelV x u)->Vals xs us
 | [],[],_,_=>.nil
 | x::xs,u::us,hl,h=>.cons (h 0 x u rfl rfl) (qQ8 (Nat.succ.inj hl) λ i y v h1 h2=>h (i+1) y v h1 h2)
theorem qab7{acc:Array Value}(h:ItemsOf (λ i v=>∃ t,v=Value.int (0+(i:Int) * 1) t) acc n):Vals (Fw n) acc.toList:=by
 refine qQ8 (by unfold Fw;rw[zAe,zB4,Array.length_toList];exact h.1.symm) λ i x u hx hu=>?_
 obtain⟨t,rfl⟩:=h.2 i u (by rw[<- hu,Array.getElem?_toList]);unfold Fw at hx;rw[zAx] at hx;cases e:(List.range n)[i]? with
 | none=>rw[e] at hx;cases hx
 | some j =>
   rw[e] at hx;obtain⟨h1,h2⟩:=zA7.mp e;rw[List.getElem_range] at h2;subst h2;cases hx;exact⟨t,by simp⟩
theorem qac3{ta:TA}(hl:X.mg "list" = none)(hm:X.mg "range" = none)(hc:X.calm=true)(ha:PA X [a] ta)(hg1:Gl X "list" := by rfl)(hg2:Gl X "range" := by rfl)(hs:starEach [a] X.env=[(false,eval a X.env)]:=by rfl)(hs2:starEach [.Call (.Name "range" p2) [a] [] pos2] X.env=[(false,eval (.Call (.Name "range" p2) [a] [] pos2) X.env)]:=by rfl):PE X (.Call (.Name "list" p) [.Call (.Name "range" p2) [a] [] pos2] [] pos) (tLR ta):=by
 intro Dy s σ H Q I h;refine wpAny_Call_Name_kw (qI3 I hg1 hl (by rfl:bootBuiltins "list" = some (.type "list")) (PyProof.Rows.callWith_type1 ?_ hs2 rfl));show wpAny _ _ (spliced ((false,eval _ X.env)::[])) _ _ s;refine Calls.spliced_cons ?_;refine wpAny_Call_Name_kw (qI3 I hg2 hm (by rfl:bootBuiltins "range" = some (.type "range")) (PyProof.Rows.callWith_type1 (thn (ha pos2 Dy s σ H _ I h) λ us s1 ⟨vs,H1,I1,r1,q1⟩=>?_) hs rfl));obtain⟨j,e,j0,j1,q⟩:=q1;subst e;obtain⟨u,rfl,t,rfl⟩:=Bo r1;refine call_range_1 ?_;refine Calls.spliced_nil ?_;have hh:=I1.ok.hd hc;refine call_list_range hh (IsRange.new ..) (small_one (by lia) (by lia) (by lia) (by lia)) (n:=j.toNat) ?_ ?_ λ h' tk acc c' kp e it=>?_
 . rw[rangeSize_one];split<;>lia
 . lia
 have sz:=Heap.size_push s1.heap { cls:=.type "range",data:=.fields #[.int 0 s1.toks,.int j t,.int 1 (s1.toks+1)] };refine⟨.ref _,_,I1.laid (t':=tk) (λ b o eb=>kp b o (zA2 _ eb)) ?_ (show ObjOk X.prog X.w _ h' _ (.lst (Fw j.toNat)) from⟨?_,acc.toList,c',qab7 it,by simpa using e⟩),rfl,q _ (I1.hok.fresh ?_)⟩
 . exact Nat.le_of_lt (Nat.lt_of_lt_of_eq (zBx _) sz.symm)
 . unfold Fw;rw[zAe,zB4,sizeLine_eq];lia
 exact Nat.le_of_lt (Nat.lt_of_lt_of_eq (zBx _) sz.symm)
theorem qab8{F:Addr->Prop}{H:Hp}(n:Nat):Reps F H (Fw n) (Av 0 n) []:=by
 unfold Fw Av
 induction List.range n with
 | nil=>exact .nil
 | cons i r ih =>
   have:=Reps.cons (A:=[]) (B:=[]) (Rep.int (F:=F) (H:=H) ((i:Nat):Int)) ih
   simpa using this
def tLRV(t:VTA):VT:=λ ds Q xe=>t ds (λ xs ds1=>∃ j:Int,xs=[.int j]/\0<=j/\j<=2 ^ 20/\Q (.lst false (Av 0 j.toNat)) ds1) xe
theorem qaD6{c:Vc}{t:VTA}(hl:X.mg "list" = none)(hm:X.mg "range" = none)(ha:VOs c X [a] t)(hc:X.calm=true:=by rfl)(hg1:Gl X "list" := by rfl)(hg2:Gl X "range" := by rfl)(hs:starEach [a] X.env=[(false,eval a X.env)]:=by rfl)(hs2:starEach [.Call (.Name "range" p2) [a] [] pos2] X.env=[(false,eval (.Call (.Name "range" p2) [a] [] pos2) X.env)]:=by rfl):VE c X (.Call (.Name "list" p) [.Call (.Name "range" p2) [a] [] pos2] [] pos) (tLRV t):=by
 refine⟨PE.mono (qac3 hl hm hc ha.h hg1 hg2 hs hs2) λ σ H Q ⟨F,ds,A,xe,S,x,q⟩=>⟨F,ds,A,xe,S,x,ha.m _ _ _ _ _ (λ xs ds' ⟨j,e,j0,j1,q⟩ vs H' F' T A' r S' s=>?_) (λ _ _ z=>z) q⟩,λ ds Q Q' xe xe' hQ hx=>ha.m _ _ _ _ _ (λ xs ds' ⟨j,e,j0,j1,q⟩=>⟨j,e,j0,j1,hQ _ _ q⟩) hx⟩;subst e;obtain rfl:vs=[V.int j]:=by
   cases r with | cons h t=>cases h;cases t;rfl
 refine⟨j,rfl,j0,j1,λ l hn=>?_⟩;have sm:Same H' (upd H' l (.lst (Fw j.toNat))):=Same.new hn;have nw:New H' [l]:=⟨λ b=>by simp[zAh];split<;>lia,λ b o e=>by
   have:b≠l:=λ z=>by rw[z,hn] at e;cases e
   simp[zAh,Ne.symm this]⟩
 refine q (.ref l) _ F' [l] A' (.lst qb1 (qab8 _)) (S'.same sm) (nw.ok S'.ok S'.loc.cells sm) (s.trans (nw.stp sm))
end
end LV
namespace L2
open PySem PySem.Spec PyProof.Rows
section
variable{prog:Program}{w:World}{A:Around}{E:Value->Shared->Prop}{s:Shared}{K:PySem.W.Frag}{x C:Addr}
theorem qaf4{Q:Option Value->Shared->Prop}{ox:Obj}{odo:Option Obj}(X:K.In s.heap)(c:Exc K C)(I:PySem.W.InstAt s.heap x ox C odo)(hf:PySem.W.findObj K C odo "__class__" = some (.bind (.builtin "getset_descriptor.__get__") (.builtin "object.__class__")))(hm:PySem.W.mroIn K C (.type "object")=some true)(h:Q (some (.ref C)) { s with toks:=s.toks+1 }):wpAny (model prog w) A (getAttr? (.ref x) "__class__") Q E s:=by
 have FB:=PySem.F.excAttr_ValueError;obtain⟨h0,g,d,t,os⟩:=s;have L0:=I.type (M:=model prog w);have L1:=PySem.W.looks_findIn (M:=model prog w) X c.ga;have L2:=PySem.W.looks_findIn (M:=model prog w) X c.gt;have L3:=PySem.W.looks_find (M:=model prog w) X I hf;have sub:PySem.W.Looks (model prog w) h0 (isInstance (.ref x) (.type "BaseException")) true:=L0.andThen (PySem.W.looks_mroIn X c.be);have k1:builtinKind "BaseException.__getattribute__" = some .slot:=by decide +kernel
 have k2:splitId "BaseException.__getattribute__" = some ("BaseException", "__getattribute__"):=by decide +kernel
 unfold getAttr? getAttrBy? getAttrBy;refine wpAny_bind (wpAny_mkText (wpAny_bind (wpAny_attempt (wpAny_holding (wpAny_bind (L0.at (wpAny_bind (L1.at ?_))))))));dsimp only;have ne:(Value.builtin "BaseException.__getattribute__" == Value.builtin "object.__getattribute__")=false:=by decide +kernel
 rw[ne,zBi,if_neg zAg];unfold getAttrByItsOwn hookBefore;refine wpAny_bind ?_;rw[if_pos (by rfl)];refine L2.at ?_;unfold callGetattribute boundAndCalled;rw[if_neg (by decide)];refine wpAny_bind (wpAny_attempt (wpAny_holding ?_));rw[FB.ga.bind (.ref x)];refine wpAny_bind (wpAny_pure (wpAny_call ?_));refine codeAny_call_builtin FB.ga.plain PySem.F.entry_bexc_ga (@PySem.W.check_slot (model prog w) _ _ _ "BaseException.__getattribute__" "BaseException" "__getattribute__" (.ref x) [.str "__class__" t] [] _ k1 k2 sub (PySem.F.args_bexc_ga (.ref x) (.str "__class__" t)) ?_);unfold Builtin.«object.__getattribute__»;refine wpAny_bind (wpAny_pure (wpAny_bind (wpAny_pure (wpAny_bind (L0.at (wpAny_bind (L3.at ?_)))))));dsimp only;show wpAny _ _ (holding [Value.builtin "object.__class__"] (call (Value.builtin "getset_descriptor.__get__") [Value.builtin "object.__class__",.ref x,.ref C]) >>= ret) _ _ _;refine wpAny_bind (wpAny_holding (wpAny_call (PySem.W.class_get (s:=⟨h0,g,d,t+1,os⟩) (ox:=ox) (od:=odo) X I hm ?_)));refine wpAny_pure ?_;exact PySem.W.handed_on rfl (wpAny_pure h)
end
structure IsX(K:PySem.W.Frag)(C:Addr):Prop where
 ex:Exc K C
 ca:PySem.W.findIn K (.ref C) "__class__" = some (some (.builtin "object.__class__"))
 cn:PySem.W.specialIn K (.builtin "object.__class__") "__get__" = some (some (.builtin "getset_descriptor.__get__"))
 ct:PySem.W.takesIn K (.builtin "object.__class__")=some true
theorem qaq7{K:PySem.W.Frag}{x C:Addr}{ox od:Obj}(i:IsX K C):PySem.W.KitX K (.ref x) (.ref C) (λ h=>PySem.W.InstAt h x ox C (some od)) where
 ty:=λ _ _ _ I=>I.type
 it:=λ _ _ X _=>by
   obtain⟨cdD,hcD,_⟩:=PySem.W.any_some i.ex.hd;unfold PySem.W.clsIn at hcD;split at hcD
   . rename_i c' d' cd' sl' ho
     intro A' Q' E' s' k q;unfold isType loadHead;exact wpAny_bind (wpAny_loadPart (k _ _ (X _ _ ho)) (wpAny_pure q))
   cases hcD
 ne:=λ h tp dd its n sl X htp=>by
   obtain⟨cdD,hcD,_⟩:=PySem.W.any_some i.ex.hd;refine Bool.eq_false_iff.mpr λ q=>?_
   have e:C=tp:=Value.ref.inj (zBf.mp q);subst e;unfold PySem.W.clsIn at hcD;split at hcD
   . rename_i c' d' cd' sl' ho
     have z:=(X _ _ ho).symm.trans htp;cases z
   cases hcD
 ca:=λ X I k=>qaf4 X i.ex I (PySem.W.findObj_data (by obtain⟨cd,hc,_⟩:=PySem.W.any_some i.ex.hd;rw[hc];rfl) i.ca i.cn i.ct) i.ex.ob k
def rIsX(K:PySem.W.Frag):List V->Hp->VK->Prop:=λ xs H Q=>∃ a d u C dx fr fs b,xs=[.ref a,d]/\RelV d u/\(∀ u',RelV d u'->u'=u)/\H a=some (Bb a C (some dx) fr)/\H dx=some (XD dx fs)/\IsX K C/\PySem.W.kitOne K (.ref C) u=some b/\Q (.bl b) H
theorem qZ8{X:Cx}:CallR X (.builtin "isinstance") (rIsX X.K):=by
 intro Dy s σ H xs us Q I r h;obtain⟨a,d,u,C,dx,fr,fs,b,rfl,rd,one,ea,ed,ix,hk,q⟩:=h;obtain⟨u1,u2,rfl,r1,r2⟩:=Gz r;obtain rfl:u1=Value.ref a:=r1;obtain rfl:=one _ r2;obtain⟨oe,vs,h1,h2,h3,h4,_⟩:=qD8 I.hok ea;obtain⟨mA,n1,r,wi,_⟩:=Ib I.hok ed;obtain⟨od,ho,hlk⟩:=qr0 n1;obtain⟨oc,odi,oda,osl⟩:=oe;dsimp only at h2 h3 h4;subst h2 h3 h4;have J:PySem.W.InstAt s.heap a ⟨.ref C,some dx,.fields vs,osl⟩ C (some od):=⟨h1,rfl,rfl,ho⟩
 exact PySem.W.kia_one (qaq7 ix) I.kIn J hk (λ z=>nomatch z) λ tk=>⟨.bl b,H,I.tok tk,rfl,q⟩
end L2
namespace LV
open PySem L2
variable{CH:Addr}{t:TS}{tt:TT}
def Iy(K:PySem.W.Frag)(x:Exn):Prop:=IsX K x.C/\x.fs≠[]
section
variable{c:Vc}{K:PySem.W.Frag}{j:Nat}
abbrev XQ:=Exn->(Bool->Prop)->Prop
abbrev XV:=Exn->(D->Prop)->Prop
abbrev XH:=Exn->VEnds->Ds->Prop
structure HTs(K:PySem.W.Frag)(j:Nat)(tt:TT)(q:XQ):Prop where
 ok:∀ x a F H (σ:St) (Q:Bool->Hp->Prop),RepX F H a x->Iy K x->σ[j]? = some (some (.ref a))->q x (λ k=>Q k H)->tt σ H Q
 m:∀ x (Q Q':Bool->Prop),(∀ k,Q k->Q' k)->q x Q->q x Q'
def qIs(K:PySem.W.Frag)(u:Value):XQ:=λ x Q=>∃ k,PySem.W.kitOne K (.ref x.C) u=some k/\Q k
theorem RepX.fields{F:Addr->Prop}{H:Hp}{a:Addr}{x:Exn}(r:RepX F H a x)(h:x.fs≠[]):∃ dx fvs,H a=some (Bb a x.C (some dx) false)/\H dx=some (XD dx fvs)/\fvs.map (·.1)=x.fs.map (·.1)/\Reps F H (fvs.map (·.2)) (x.fs.map (·.2)) []:=by
 obtain⟨od,e,q⟩:=r;rcases q with q | ⟨dx,fvs,rfl,h1,h2,h3⟩
 . exact absurd q h
 exact⟨dx,fvs,e,h1,h2,h3⟩
theorem ht_is{d:V}{u:Value}(rd:RelV d u)(one:∀ u',RelV d u'->u'=u):HTs K j (tB (tCB (rIsX K) (Fx (Ev j) (Fx (tC d) tNil)))) (qIs K u) :=
 ⟨λ x a F H σ Q r ix hs ⟨k,hk,q⟩=>by
   obtain⟨dx,fvs,e,h1,h2,h3⟩:=r.fields ix.2;exact⟨_,hs,a,d,u,x.C,dx,false,fvs,k,rfl,rd,one,e,h1,ix.1,hk,k,rfl,q⟩,λ x Q Q' h ⟨k,hk,q⟩=>⟨k,hk,h k q⟩⟩
def qNot(q:XQ):XQ:=λ x Q=>q x λ k=>Q (!k)
theorem qaL2{q:XQ}(h:HTs K j tt q):HTs K j (tNot tt) (qNot q):=⟨λ x a F H σ Q r ix hs z=>h.ok x a F H σ _ r ix hs z,λ x Q Q' hQ=>h.m x _ _ λ k=>hQ _⟩
def qAnd(q q':XQ):XQ:=λ x Q=>q x λ k=>if k=true then q' x Q else Q false
theorem qaL3{tt':TT}{q q':XQ}(h:HTs K j tt q)(h':HTs K j tt' q'):HTs K j (tAnd tt tt') (qAnd q q') :=
 ⟨λ x a F H σ Q r ix hs z=>h.ok x a F H σ _ r ix hs (h.m x _ _ (λ k z=>by
   cases k with
   | true=>exact h'.ok x a F H σ Q r ix hs z
   | false=>exact z) z),λ x Q Q' hQ=>h.m x _ _ λ k=>by
   cases k with
   | true=>exact h'.m x _ _ hQ
   | false=>exact hQ false⟩
structure HVs(K:PySem.W.Frag)(j:Nat)(te:TE)(g:XV):Prop where
 ok:∀ x a F H (σ:St) (Q:VK),RepX F H a x->Iy K x->σ[j]? = some (some (.ref a))->g x (λ d=>∀ v H',Same H H'->Rep F H' v d []->Q v H')->te σ H Q
 m:∀ x (Q Q':D->Prop),(∀ d,Q d->Q' d)->g x Q->g x Q'
def vFld(K:PySem.W.Frag)(f:Str):XV:=λ x Q=>qd5 K x.C f/\∃ d,x.fs.lookup f=some d/\Q d
theorem qw7{F:Addr->Prop}{H:Hp}{f:Str}{d:D}:∀(fvs:List (Str×V))(fds:List (Str×D)),fvs.map (·.1)=fds.map (·.1)->Reps F H (fvs.map (·.2)) (fds.map (·.2)) []->fds.lookup f=some d->∃ v,fvs.lookup f=some v/\Rep F H v d []
 | [],[],_,_,h=>by cases h
 | [],_::_,e,_,_=>by cases e
 | _::_,[],e,_,_=>by cases e
 | (k,v)::fvs,(k',d')::fds,e,r,h=>by
   have e1:k=k':=(List.cons.inj e).1;subst e1;have r:Reps F H (v::fvs.map (·.2)) (d'::fds.map (·.2)) []:=r;generalize hN:([]:List Addr)=N at r;cases r with
   | @cons _ _ B _ _ B' h1 t =>
     obtain⟨rfl,rfl⟩:=List.append_eq_nil_iff.mp hN.symm;rw[zAq] at h ⊢;cases hk:f == k with
     | true =>
       rw[hk] at h;cases h;exact⟨v,rfl,h1⟩
     | false =>
       rw[hk] at h;exact qw7 fvs fds (List.cons.inj e).2 t h
theorem qaL1{f:Str}:HVs K j (tEF K (Ev j) f) (vFld K f) :=
 ⟨λ x a F H σ Q r ix hs ⟨n,d,hd,q⟩=>by
   obtain⟨dx,fvs,e,h1,h2,h3⟩:=r.fields ix.2;obtain⟨v,hv,rv⟩:=qw7 fvs x.fs h2 h3 hd;exact⟨_,hs,a,x.C,dx,false,fvs,v,rfl,e,h1,ix.1.ex,n,hv,q v H (λ _ _ z=>z) rv⟩,λ x Q Q' h ⟨n,d,hd,q⟩=>⟨n,d,hd,h d q⟩⟩
def vCon(d:D):XV:=λ _ Q=>Q d
theorem qaL0{i:Int}:HVs K j (tC (.int i)) (vCon (.int i)):=⟨λ x a F H σ Q r ix hs q=>q _ H (λ _ _ z=>z) (.int i),λ x Q Q' h=>h _⟩
structure HSs(c:Vc)(K:PySem.W.Frag)(j:Nat)(t:TS)(h:XH):Prop where
 ok:∀ x a (e:VEnds) (D D2:Bn) F H (σ:St) ds,RepX F H a x->Iy K x->Sta c F H σ ds []->Lk c D F H [] e->σ=List.replicate σ.length none->j < σ.length->D2.rt=D.rt->D2.nx=(λ σ H=>D.nx (σ.set j none) H)->h x e ds->t D2 (σ.set j (some (.ref a))) H
 m:∀ x (e e':VEnds) ds,e.Le e'->h x e ds->h x e' ds
structure HRs(c:Vc)(K:PySem.W.Frag)(j:Nat)(t:TS)(h:XH):Prop where
 ok:∀ x a (e:VEnds) (D D2:Bn) F H (σ:St) ds,RepX F H a x->Iy K x->Sta c F H σ ds []->Lk c D F H [] e->σ=List.replicate σ.length none->j < σ.length->D2.rt=D.rt->h x e ds->t D2 (σ.set j (some (.ref a))) H
 m:∀ x (e e':VEnds) ds,e.Le e'->h x e ds->h x e' ds
def hRet(g:XV):XH:=λ x e ds=>g x λ d=>e.rt d ds
theorem qaB8{te:TE}{g:XV}(h:HVs K j te g):HRs c K j (tRet te) (hRet g) :=
 ⟨λ x a e D D2 F H σ ds r ix S l hσ hj hD q=>h.ok x a F H _ _ r ix (zB0 hj) (h.m x _ _ (λ d q v H' s rv=>by
   rw[hD];exact l.rt d ds v σ H' F [] [] q rv (S.same s) (S.ok.same s) (Stp.same s)) q),λ x e e' ds hl=>h.m x _ _ λ d=>hl.rt _ _⟩
theorem qaL4{h:XH}(r:HRs c K j t h):HSs c K j t h:=⟨λ x a e D D2 F H σ ds rx ix S l hσ hj hD _ q=>r.ok x a e D D2 F H σ ds rx ix S l hσ hj hD q,r.m⟩
def hIf(q:XQ)(h h':XH):XH:=λ x e ds=>q x λ k=>if k=true then h x e ds else h' x e ds
theorem hif_m{q:XQ}{h h':XH}(hq:HTs K j tt q)(m:∀ x (e e':VEnds) ds,e.Le e'->h x e ds->h x e' ds)(m':∀ x (e e':VEnds) ds,e.Le e'->h' x e ds->h' x e' ds):∀ x (e e':VEnds) ds,e.Le e'->hIf q h h' x e ds->hIf q h h' x e' ds:=λ x e e' ds hl=>hq.m x _ _ λ k=>by
 cases k with
 | true=>exact m x e e' ds hl
 | false=>exact m' x e e' ds hl
theorem qaL5{q:XQ}{u:TS}{h h':XH}(hq:HTs K j tt q)(hr:HRs c K j t h)(hu:HSs c K j u h'):HSs c K j (tSeq (tIfS tt t tNext) u) (hIf q h h') :=
 ⟨λ x a e D D2 F H σ ds rx ix S l hσ hj hD hN z=>hq.ok x a F H _ _ rx ix (zB0 hj) (hq.m x _ _ (λ k z=>by
   cases k with
   | true=>exact hr.ok x a e D _ F H σ ds rx ix S l hσ hj hD z
   | false=>exact hu.ok x a e D D2 F H σ ds rx ix S l hσ hj hD hN z) z),hif_m hq hr.m hu.m⟩
def hTop(K:PySem.W.Frag)(CH:Addr)(j:Nat)(h:XH):XH:=λ x e ds=>j < ds.length/\Iy K x/\PySem.W.mroIn K x.C (.ref CH)=some true/\h x e ds
theorem qaL7{h:XH}(hs:HSs c K j t h):∀ x (e e':VEnds) ds,e.Le e'->hTop K CH j h x e ds->hTop K CH j h x e' ds:=λ x e e' ds hl ⟨h1,h2,h3,h4⟩=>⟨h1,h2,h3,hs.m x e e' ds hl h4⟩
theorem qaC0{h:XH}{tr:Addr->TS}(hg:c.gv=[])(hs:HSs c K j t h):∀ x a (e:VEnds) D F H (σ:St) ds,RepX F H a x->Sta c F H σ ds []->Lk c D F H [] e->σ=List.replicate σ.length none->hTop K CH j h x e ds->tHd K CH j (λ _=>t) tr a D σ H:=by
 intro x a e D F H σ ds rx S l hσ ⟨hj,ix,hm,q⟩;have hlen:σ.length=ds.length:=by
   have:=S.loc.len
   rw[hg,zA9] at this;exact this
 obtain⟨dx,fvs,he,_⟩:=rx.fields ix.2;exact⟨x.C,some dx,true,he,hm,iteT (hs.ok x a e D (qat7 j D) F H σ ds rx ix S l hσ (by lia) rfl rfl q)⟩
end
theorem stryH{c:Vc}{X:Cx}{pos:Pos}{j:Nat}{h:XH}{tr:Addr->TS}{u:VTS}{body:List Stmt}{h₀:ExceptHandler}{hs:List ExceptHandler}(hg:c.gv=[])(hW:∀ i,c.W i=false)(hb:∀ E xe pn,Lands (Xt X xe pn) E->VSs { c with E:=E } (Xt X xe pn) body u)(hh:PH X (h₀::hs) (tHd X.K CH j (λ _=>t) tr))(hh':HSs c X.K j t h)(hst:X.stack=X.env::X.outer:=by rfl)(hfr:X.env.frame=some X.env.locals:=by rfl):VS c X (.Try body (h₀::hs) [] [] pos) (Ix u (hTop X.K CH j h)) :=
 stry hg hW hb hh (qaL7 hh') (qaC0 hg hh') hst hfr
theorem rm{j k:Nat}{A:Around}(r:Room k A)(h:j<=k:=by decide):Room j A:=r.mono h
theorem VFn.mk2{P:Program}{w:World}{K:PySem.W.Frag}{mg:Str->Option Value}{base:Heap}{x qual:Str}{st:Stmt}{f:Addr}{fd:FuncData}{N ps:List Str}{k:Nat}{s:VSp}(Fu:Fun K x qual st f fd)(Sc:qa9 N ps (qa3 st))(W:Nat->Bool)(hs:Be s)(h:∀ ds Q xe,s ds Q xe->ds.length=ps.length/\Gi W 0 ds=true)(hbody:∀(cdv:Value)(A:Around)(outer:List Env)(sh:Shared)(H:Hp)(E:XK)(av:List (Option V)),Room k (A.deeper (PyProof.Rows.envOfC qual (qa3 st) sh.heap.objs.size f cdv)) ->
     ∃ t,VSs ⟨E,W,av,[]⟩ (Ef (CX1 P w) P w K mg base N qual (qa3 st) f cdv A outer sh H E) (qd1 st) t/\∀ ds Q xe,s ds Q xe->t (qaf5 W ds Q xe) (ds++List.replicate (N.length - ds.length) .unk)) :
   VFn P w K mg base (k+1) f fd ps s:=VFn.mk' Fu Sc W hs (λ ds Q xe z=>(h ds Q xe z).1) (λ ds Q xe z=>(h ds Q xe z).2) hbody
mutual
def D.plain:D->Bool
 | .tup ds=>D.plains ds
 | .lst z ds=>!z&&D.plains ds
 | .non=>true | .bl _=>true | .int _=>true | .str _=>true
 | _=>false
def D.plains:List D->Bool
 | []=>true
 | d::r=>d.plain&&D.plains r
end
theorem Rep.plain{F F':Addr->Prop}{H:Hp}{v:V}{d:D}{A:List Addr}(r:Rep F H v d A):d.plain=true->Rep F' H v d A:=by
 induction r using Rep.rec (motive_2:=λ vs ds A _=>D.plains ds=true->Reps F' H vs ds A) with
 | tup e r i=>exact λ h=>.tup e (i h)
 | lst e r i=>exact λ h=>.lst e (i h)
 | non=>exact λ _=>.non
 | bl b=>exact λ _=>.bl b
 | int i=>exact λ _=>.int i
 | str x=>exact λ _=>.str x
 | nil=>exact Reps.nil
 | cons _ _ i j h=>exact Reps.cons (i (zAb.mp h).1) (j (zAb.mp h).2)
 | _=>nofun
section
variable{c:Vc}{X:Cx}{e:Expr}{es:List Expr}{tr:VTB}{pos p:Pos}{x qual:Str}{st:Stmt}{f:Addr}{fd:FuncData}{ps:List Str}{k:Nat}{s:VSp}
def qav3(s:VSp)(tr:VTB):VT:=λ ds Q xe=>tr ds (λ xs ps ds1=>s (D.fzs xs) (λ d _=>d.plain=true/\orF (An ps xs ds1) λ ds2=>Q d ds2) (λ _ _=>False)) xe
theorem qat6(hs:Be s)(ha:VAs c X es tr):∀ σ H Q,Bf c (qav3 s tr) σ H Q->Fy (Fj s) [] c.E (E4 c tr) σ H Q:=by
 rintro σ H Q ⟨F,ds,A,xe,S,x,q⟩;refine⟨F,ds,A,xe,S,x,ha.m _ _ _ _ _ (λ xs ps ds1 q vs H1 F1 T A1 r1 pk S1 o1 s1=>?_) (λ _ _ z=>z) q⟩;rw[zA9];refine⟨λ b=>F1 b∨b∈T,D.fzs xs,[],r1.fz (λ _=>.inl) (λ _=>.inr),⟨λ b=>by simp,λ b _=>by simp,λ b h=>h.elim (o1.ex b) λ h=>let ⟨o,e,_⟩:=r1.cells b h;⟨o,e⟩⟩,hs _ _ _ _ _ (λ d ys q v H2 F2 T2 A2 r2 ra o2 s2=>?_) (λ y ys q=>q.elim) q⟩;obtain⟨hp,q⟩:=q;obtain⟨ds2,eb,q⟩:=qa6.mp q;have sm:Same H1 H2:=λ b o e=>s2.fr b o e (by simp)
 have nw:New H1 T2:=⟨λ b=>by have:=o2.sep b;rw[zA0] at this;lia,λ b o e=>by have:=s2.sub b o e (by simp);rw[zA0] at this;lia⟩
 obtain⟨A3,q1,q2⟩:=qp5 (more:=[]) pk (by rw[zA9];exact r1.same sm) (S1.loc.same sm) eb;have cl:∀ b∈T++A1,∃ o,H1 b=some o/\Eg o=true:=λ b hb=>(zAf.mp hb).elim (r1.cells b) (S1.loc.cells b)
 have hc:∀ b,(T2++A3).count b<=(T2++(T++A1)).count b:=λ b=>by simp only[zA0];have:=q2 b;lia
 have o4:Ok F1 H2 (T2++A3):=(nw.ok o1 cl sm).count hc;exact q v H2 F1 T2 A3 (r2.plain hp) ⟨q1,o4.right,S.len,S.ag⟩ o4 ((s1.trans (nw.stp sm)).count hc)
theorem qE0(D:Df X.K X.mg x qual st f fd ps)(G:VFn X.prog X.w X.K X.mg X.base k f fd ps s)(hl:Lands X c.E)(hr:Room k X.A)(ha:VAs c X (e::es) tr)(hg:Gl X x:=by rfl)(hdb:(x == ("__debug__" : Str))=false:=by decide)(he:starEach (e::es) X.env=(false,eval e X.env)::starEach es X.env:=by rfl)(hpl:(backTo pos (starEach es X.env)).any (·.1)=false:=by rfl):VE c X (.Call (.Name x p) (e::es) [] pos) (qav3 s tr) :=
 ⟨PE.mono (qU5 G.ok hr hg D.m D.F.kp D.b .nil hl.passes ha.h hdb he hpl) (qat6 G.m ha),λ ds Q Q' xe xe' hQ hx=>ha.m _ _ _ _ _ (λ xs ps ds1=>G.m _ _ _ _ _ (λ d ys=>And.imp_right (qa5 λ z=>hQ _ _)) (λ _ _ z=>z)) hx⟩
end
end LV
namespace LV
open PySem L2 PyProof.Rows
section
variable{X:Cx}{e:Expr}{es:List Expr}{pos p:Pos}{x:Str}{f:Addr}{fd:FuncData}{ps:List Str}{k:Nat}{sp:Sp}{t:TA}{dvs:List V}{us:List Value}{CX:Addr->Hp->Prop}{E:XK}
theorem qao4{CX}{E}{ds:List Value}(i:Nat)(F:Bi X.prog X.w X.K X.mg X.base CX k f fd ps sp)(hr:Room k X.A)(hk:PySem.W.keepIn X.K (.ref f)=true)(hb:Binds X.K fd ps ds)(hd:Vals dvs ds)(hx:qE8 CX X E)(ha:PA X (e::es) t)(hN:X.N[i]? = some x:=by rfl)(hv:Vis X.env.scope x:=by first | exact Or.inl rfl | exact Or.inr (Or.inl rfl) | exact Or.inr (Or.inr rfl))(hdb:(x == ("__debug__" : Str))=false:=by decide)(hcd:(x == ("__classdict__" : Str))=false:=by decide)(he:starEach (e::es) X.env=(false,eval e X.env)::starEach es X.env:=by rfl)(hpl:(backTo pos (starEach es X.env)).any (·.1)=false:=by rfl) :
   PE X (.Call (.Name x p) (e::es) [] pos) (λ σ H Q=>σ[i]? = some (some (.ref f))/\Fy sp dvs E t σ H Q):=by
 intro Dy s σ H Q I ⟨h0,h⟩;refine wpAny_Call_Name_kw (thn (qq0 hN hv hdb hcd Dy s σ H (λ v H1=>v=.ref f/\H1=H) I ⟨_,h0,rfl,rfl⟩) λ u s1 ⟨v,H1,I1,r,e1,e2⟩=>?_);subst e1 e2;cases r;refine PySem.W.callWith_K (h₀:=X.base) I1.ok.mod.kin hk (thn (ha pos Dy s1 σ _ _ I1 h) λ us s2 ⟨vs,H2,I2,r,q⟩=>⟨I2.kIn,?_⟩) he hpl;exact qam8 F hr hb hd hx I2 r q
end
section
variable{c:Vc}{X:Cx}{e:Expr}{es:List Expr}{tr:VTB}{ta tb:VT}{pos p:Pos}{x qual nm:Str}{st:Stmt}{f:Addr}{fd:FuncData}{ps:List Str}{k:Nat}{s:VSp}
def qaF8(i:Nat)(f:Addr)(s:VSp)(tr:VTB):VT:=λ ds Q xe=>rdN i ds=some (.adr f)/\qg5 s [] tr ds Q xe
theorem qaD9(i:Nat)(D:Df X.K X.mg nm qual st f fd ps)(G:VFn X.prog X.w X.K X.mg X.base k f fd ps s)(hl:Lands X c.E)(hr:Room k X.A)(ha:VAs c X (e::es) tr)(hN:X.N[i]? = some x:=by rfl)(hv:Vis X.env.scope x:=by first | exact Or.inl rfl | exact Or.inr (Or.inl rfl) | exact Or.inr (Or.inr rfl))(hdb:(x == ("__debug__" : Str))=false:=by decide)(hcd:(x == ("__classdict__" : Str))=false:=by decide)(he:starEach (e::es) X.env=(false,eval e X.env)::starEach es X.env:=by rfl)(hpl:(backTo pos (starEach es X.env)).any (·.1)=false:=by rfl):VE c X (.Call (.Name x p) (e::es) [] pos) (qaF8 i f s tr):=by
 refine⟨λ Dy s0 σ H Q I ⟨F,ds,A,xe,S,hx,q⟩=>qao4 i G.ok hr D.F.kp D.b .nil hl.passes ha.h hN hv hdb hcd he hpl Dy s0 σ H Q I ⟨?_,qak0 qB1 G.m ha σ H Q ⟨F,ds,A,xe,S,hx,q.2⟩⟩,λ ds Q Q' xe xe' hQ hx=>And.imp_right (qO0 G.m ha ds Q Q' xe xe' hQ hx)⟩;obtain⟨v,B,hv0,r,_⟩:=S.name (qo3 hN Dy σ H s0 I) q.1;cases r;exact hv0
def tOrT(ta tb:VT):VT:=λ ds Q xe=>ta ds Q xe∨tb ds Q xe
theorem eAlt(ha:VE c X e ta)(hb:VE c X e tb):VE c X e (tOrT ta tb):=by
 refine⟨λ Dy s σ H Q I ⟨F,ds,A,xe,S,hx,q⟩=>?_,λ ds Q Q' xe xe' hQ hx=>Or.imp (ha.m _ _ _ _ _ hQ hx) (hb.m _ _ _ _ _ hQ hx)⟩;rcases q with q | q
 . exact ha.h Dy s σ H Q I ⟨F,ds,A,xe,S,hx,q⟩
 exact hb.h Dy s σ H Q I ⟨F,ds,A,xe,S,hx,q⟩
theorem vgf{x:Str}(hm:X.mg x=some (.ref f))(hg:Gl X x:=by rfl)(hd:(x == ("__debug__" : Str))=false:=by decide):VV c X (.Name x pos) true (kC (.adr f)):=Fs (qK9 (v:=.ref f) hg hm rfl hd) λ _ _=>.adr f
end
end LV
namespace LV
open PySem L2
theorem qax8{X:Cx}{i:Int}{j:Nat}{p pos:Pos}:PE X (.UnaryOp .USub (.Constant (.int i) j p) pos) (tC (.int (-i))):=PE.mono (pe_un qau7 qC5) λ σ H Q q=>⟨_,rfl,q⟩
end LV
namespace LV.My
open PySem L2 Row _root_.My
variable{CW:Addr}{L ds ys:Ds}{N i j l r:Nat}{Q:DK}{R:Ds->D->Prop}{S T ks ns:List Int}{b z':Bool}{d v x y:D}{e:VEnds}{f fa fb:FV}{fl:Str}{fs:List (Str×D)}{g:Nat->Option Int}{hm:Int->Nat}{k m:Int}{p:Nat->Nat}{qc:VTT}{s:VSp}{t u:VTS}{ta tb te:VT}{tr:VTB}{xe:XKd}{α:Type}
def _root_.LV.D.whole:D->Bool
 | .int _=>true
 | _=>false
def _root_.LV.D.within(l m:Int):D->Bool
 | .int i=>decide (l<=i)&&decide (i<=m)
 | _=>false
def _root_.LV.D.num:D->Bool:=D.within 0 1000000000000000000
def fx3(g:D->D->D->Option D):Ds->Option D
 | [x,y,z]=>g x y z
 | _=>none
theorem qW6{g:D->Option D}(h:Br (fx1 g) ds Q xe):ds.length=1:=by
 match ds,h with
 | [_],_=>rfl
theorem qaA6{g:D->D->D->Option D}(h:Br (fx3 g) ds Q xe):ds.length=3:=by
 match ds,h with
 | [_,_,_],_=>rfl
theorem imm1{g:D->Option D}(h:Br (fx1 g) ds Q xe):Gi (wOf [true]) 0 ds=true:=by
 match ds,h with
 | [_],_=>rfl
theorem imm3{g:D->D->D->Option D}(h:Br (fx3 g) ds Q xe):Gi (wOf [true,true,true]) 0 ds=true:=by
 match ds,h with
 | [_,_,_],_=>rfl
theorem Iz{g:D->Option D}(h:Br (fx1 g) ds Q xe):∃ x d,ds=[x]/\g x=some d/\Q d [x]:=by
 match ds,h with
 | [x],h=>obtain⟨d,e,q⟩:=qa6.mp h;exact⟨x,d,rfl,e,q⟩
theorem pure3{g:D->D->D->Option D}(h:Br (fx3 g) ds Q xe):∃ x y z d,ds=[x,y,z]/\g x y z=some d/\Q d [x,y,z]:=by
 match ds,h with
 | [x,y,z],h=>obtain⟨d,e,q⟩:=qa6.mp h;exact⟨x,y,z,d,rfl,e,q⟩
theorem qf1{t:String}(h:x.kind=some t):x.known=true:=by
 cases x<;>first | rfl | cases h
def A5(P:Ds->D->Prop):VSp:=λ ds Q _=>∃ d,P ds d/\Q d ds
theorem qc2{P:Ds->D->Prop}:Be (A5 P):=λ _ _ _ _ _ hQ _ ⟨d,p,q⟩=>⟨d,p,hQ _ _ q⟩
def prD(ps:Pr):Ds:=ps.map λ p=>.tup [.int p.1,.int p.2]
def kvD(ps:Pr):List (Key×D):=ps.map λ p=>(.inl p.1,.int p.2)
def planD(z:Bool)(C:Addr)(n:Int)(wr:Bool)(ps:Pr):D:=.ins z C [("rooms",.int n),("wraps",.bl wr),("homes",.lst z (prD ps)),("home_numbers",.dct z (kvD ps))]
def caseD(n:Int)(wr:Bool)(ps:Pr):D:=.lst false [.int n,.bl wr,.lst false (prD ps)]
def Gx:Option Int->D
 | none=>.non
 | some k=>.int k
def rlD(n:Nat)(g:Nat->Option Int):Ds:=(List.range n).map λ i=>Gx (g i)
def ksD(ks:List Int):Ds:=ks.map .int
theorem qM1:∀ ps:Pr,D.imms (prD ps)=true
 | []=>rfl
 | p::r=>by show (D.imms [.int p.1,.int p.2]&&D.imms (prD r))=true;rw[qM1 r];rfl
theorem qf2:∀ ks:List Int,D.imms (ksD ks)=true
 | []=>rfl
 | k::r=>by show (true&&D.imms (ksD r))=true;rw[qf2 r];rfl
theorem qI7{α:Type}{f:α->D}(h:∀ a,(f a).imm=true):∀ l:List α,D.imms (l.map f)=true
 | []=>rfl
 | a::r=>by show ((f a).imm&&D.imms (r.map f))=true;rw[h a,qI7 h r];rfl
theorem qaB7(o:Option Int):(Gx o).imm=true:=by cases o<;>rfl
theorem qaB5(n:Nat)(g:Nat->Option Int):D.imms (rlD n g)=true:=qI7 (λ i=>qaB7 _) _
theorem qaj3:∀ ks:List Int,intsD (ksD ks)=some ks
 | []=>rfl
 | k::r=>by show (intsD (ksD r)).map (λ is=>k::is)=some (k::r);rw[qaj3 r];rfl
theorem qY3:∀ ks:List Int,flats (ksD ks)=some (ks.map V.int)
 | []=>rfl
 | k::r=>by show (Option.bind (some (V.int k)) λ v=>(flats (ksD r)).bind λ vs=>some (v::vs))=_;rw[qY3 r];rfl
theorem qi1(ks:List Int):(ksD ks).length=ks.length:=zAe _
theorem qx0(n:Nat)(g:Nat->Option Int):(rlD n g).length=n:=by simp[rlD]
theorem qM4{n:Nat}(h:i < n):(rlD n g)[i]? = some (Gx (g i)):=by
 unfold rlD;rw[zAx,List.getElem?_range h];rfl
theorem qav9{n:Nat}{o:Option Int}:(rlD n g).set i (Gx o)=rlD n (λ j=>if j=i then o else g j):=by
 apply List.ext_getElem?;intro j;by_cases hj:j < n
 . rw[qM4 hj]
   by_cases e:i=j
   . subst e
     rw[zB0 (by rw[qx0];exact hj),if_pos rfl]
   rw[zB5 e,qM4 hj,if_neg (Ne.symm e)]
 rw[zBl (by rw[List.length_set,qx0];lia),zBl (by rw[qx0];lia)]
theorem qU7:∀ ps:Pr,qP6 (prD ps)=some (kvD ps)
 | []=>rfl
 | p::r=>by
   show (Option.bind (some ((Sum.inl p.1:Key),D.int p.2)) λ q=>(qP6 (prD r)).bind λ ps=>some (q::ps))=_;rw[qU7 r];rfl
theorem qab9{ps:Pr}(h:¬ k∈ps.map (·.1)):E3 (kvD ps) (.inl k) (.int m)=kvD (ps++[(k,m)]):=by
 unfold E3;rw[if_neg]
 . unfold kvD;rw[zBp];rfl
 intro e;obtain⟨q,hq,e⟩:=List.any_eq_true.mp e;obtain⟨r,hr,rfl⟩:=zB6.mp hq;have e:(Sum.inl r.1:Key)=Sum.inl k:=zAo e;exact h (zB6.mpr ⟨r,hr,Sum.inl.inj e⟩)
theorem qL3:∀(qs ps:Pr),((ps++qs).map (·.1)).Nodup->qp1 (kvD ps) (kvD qs)=kvD (ps++qs)
 | [],ps,_=>by rw[zA9];rfl
 | q::qs,ps,h=>by
   show qp1 (E3 (kvD ps) (.inl q.1) (.int q.2)) (kvD qs)=_;have hn:¬ q.1∈ps.map (·.1):=by
     rw[zBp,zAz,zBt] at h;exact λ z=>h.2.2 _ z _ zAd rfl
   rw[qab9 hn,qL3 qs (ps++[(q.1,q.2)]) (by rw[zBd];exact h),zBd];rfl
theorem qad2{ps:Pr}(h:(ps.map (·.1)).Nodup):qp1 [] (kvD ps)=kvD ps:=qL3 ps [] h
theorem qaj8{z:Bool}{ps:Pr}(h:(ps.map (·.1)).Nodup):G4 (.lst z (prD ps))=some (.dct false (kvD ps)):=by
 show (qP6 (prD ps)).map (λ ps=>D.dct false (qp1 [] ps))=_;rw[qU7];show some (D.dct false (qp1 [] (kvD ps)))=_;rw[qad2 h]
theorem qag4(k:Int):∀ ps:Pr,Eb (kvD ps) (.inl k)=(ps.lookup k).map .int
 | []=>rfl
 | (p,m)::r=>by
   show Eb ((.inl p,.int m)::kvD r) _=_;by_cases e:p=k
   . subst e
     simp[Eb,zAq]
   have h1:Eb ((.inl p,D.int m)::kvD r) (.inl k)=Eb (kvD r) (.inl k):=by simp[Eb,zBq,e]
   rw[h1,qag4 k r]
   have:(k == p)=false:=by simpa using λ z=>e z.symm
   simp only[zAq,this]
theorem qa1{o:Option α}{a:α}{k:α->Prop}(e:o=some a)(h:k a):orF o k:=by rw[e];exact h
theorem ite_t{p:Prop}[Decidable p]{a b:Prop}(h:p)(x:a):if p then a else b:=by rw[if_pos h];exact x
theorem ite_f{p:Prop}[Decidable p]{a b:Prop}(h:¬ p)(x:b):if p then a else b:=by rw[if_neg h];exact x
theorem ite_b{p:Bool}{a b:Prop}(h1:p=true->a)(h2:p=false->b):if p=true then a else b:=by cases p with | true=>exact h1 rfl | false=>exact h2 rfl
def Fc:Option Int->D
 | some f=>.int f
 | none=>.non
theorem qZ9(hx:rdN i ds=some x)(h:s [x] (λ d ys=>orF (An [.sl i] ys (ds.set i .unk)) λ ds2=>Q d ds2) (λ e ys=>orF (An [.sl i] ys (ds.set i .unk)) λ ds2=>xe e ds2)):qg5 s [] (tbN i A4) ds Q xe :=
 ⟨by rw[hx];rfl,by show orF (rdN i ds) _;rw[hx];exact h⟩
theorem qs3{f:Ds->Option D}(e:f ds=some d)(q:Q d ds):Br f ds Q xe:=qa1 e q
theorem qh8(e:R ds d)(q:Q d ds):A5 R ds Q xe:=⟨d,e,q⟩
theorem qb5{K:Ds->List Pl->Ds->Prop}(hx:rdN i ds=some x)(h:tr ds (λ xs ps ds1=>orF (rdN i ds1) λ d=>K (d::xs) (.sl i::ps) (ds1.set i .unk)) xe):tbN i tr ds K xe:=⟨by rw[hx];rfl,h⟩
theorem qc0{K:Ds->List Pl->Ds->Prop}(hf:f ds=some y)(h:tr ds (λ xs ps ds2=>K (y::xs) (.no::ps) ds2) xe):tbV (Ba f) tr ds K xe:=qa1 (k:=λ y=>tr ds (λ xs ps ds2=>K (y::xs) (.no::ps) ds2) xe) hf h
theorem rd0{r:Ds}(h:d.known=true):rdN 0 (d::r)=some d:=qj8.mpr ⟨rfl,h⟩
theorem qae7{β:Type}(f:α->β)(l:List α):l.filterMap (λ a=>some (f a))=l.map f:=by simp
section
variable{z:Bool}{C:Addr}{n:Int}{wr:Bool}{ps:Pr}
theorem qM9{f:Str}(h:fs.lookup f=some d):D.fld C f (.ins z C fs)=some d:=by
 show (if C=C then fs.lookup f else none)=some d;rw[if_pos rfl,h]
theorem qd4:D.fld C "rooms" (planD z C n wr ps)=some (.int n):=qM9 (by rfl)
theorem qA8:D.fld C "wraps" (planD z C n wr ps)=some (.bl wr):=qM9 (by rfl)
theorem qae9:D.fld C "homes" (planD z C n wr ps)=some (.lst z (prD ps)):=qM9 (by rfl)
theorem qQ5:D.fld C "home_numbers" (planD z C n wr ps)=some (.dct z (kvD ps)):=qM9 (by rfl)
theorem qaB2{m:Str}(h:fs.lookup m=none):(D.ins z C fs).isM C m=true:=by
 show (decide (C=C)&&(fs.lookup m).isNone)=true;rw[zA8 rfl,h];rfl
theorem qe6{m:Str}(h:([("rooms",.int n),("wraps",.bl wr),("homes",.lst z (prD ps)),("home_numbers",.dct z (kvD ps))]:List (Str×D)).lookup m=none):(planD z C n wr ps).isM C m=true:=qaB2 h
theorem Bs{g:D->Option D}(h:fa ds=some x)(h':g x=some y):f1 g fa ds=some y:=qas0.mpr ⟨x,h,h'⟩
theorem Ad{g:D->D->Option D}(h:fa ds=some x)(h':fb ds=some y)(h2:g x y=some d):f2 g fa fb ds=some d:=qaD0.mpr ⟨x,y,h,h',h2⟩
theorem qq8:(D.ins false C fs).ownI C=some fs:=by
 show (if C=C then some fs else none)=some fs;rw[if_pos rfl]
end
theorem qad1{C:Addr}{m:Str}{p:D}(hp:rdN i ds=some p)(hm:p.isM C m=true)(h:tr ds (λ xs ps ds1=>orF (rdN i ds1) λ d=>s (d::(xs++[])) (λ r ys=>orF (An (.sl i::ps) ys (ds1.set i .unk)) λ ds2=>Q r ds2) (λ x ys=>orF (An (.sl i::ps) ys (ds1.set i .unk)) λ ds2=>xe x ds2)) xe):qB6 C m s [] i tr ds Q xe:=⟨qa1 hp hm,h⟩
theorem qan1{f:Ds->Option D}(hx:rdN i ds=some x)(e:f [x]=some d)(hb:An [.sl i] [x] (ds.set i .unk)=some ds)(q:Q d ds):qg5 (Br f) [] (tbN i A4) ds Q xe:=qZ9 hx (qs3 e (qa1 hb q))
theorem qad4(hx:rdN i ds=some x)(r:R [x] d)(hb:An [.sl i] [x] (ds.set i .unk)=some ds)(q:Q d ds):qg5 (A5 R) [] (tbN i A4) ds Q xe:=qZ9 hx (qh8 r (qa1 hb q))
theorem qW5(hx:rdN i ds=some x)(hy:rdN j ds=some y)(hx':rdN i (ds.set j .unk)=some x)(r:R [x,y] d)(hb:An [.sl i,.sl j] [x,y] ((ds.set j .unk).set i .unk)=some ds)(q:Q d ds):qg5 (A5 R) [] (tbN i (tbN j A4)) ds Q xe :=
 qb5 hx (qb5 hy (qa1 hy (qa1 hx' (qh8 r (qa1 hb q)))))
theorem qC8{w:D}(hx:rdN i ds=some x)(hy:rdN j ds=some y)(hw:rdN l ds=some w)(hy':rdN j (ds.set l .unk)=some y)(hx':rdN i ((ds.set l .unk).set j .unk)=some x)(r:R [x,y,w] d)(hb:An [.sl i,.sl j,.sl l] [x,y,w] (((ds.set l .unk).set j .unk).set i .unk)=some ds)(q:Q d ds):qg5 (A5 R) [] (tbN i (tbN j (tbN l A4))) ds Q xe :=
 qb5 hx (qb5 hy (qb5 hw (qa1 hw (qa1 hy' (qa1 hx' (qh8 r (qa1 hb q)))))))
theorem qH9{C:Addr}{m:Str}{p:D}(hp:rdN i ds=some p)(hm:p.isM C m=true)(hx:rdN j ds=some x)(hp':rdN i (ds.set j .unk)=some p)(r:R [p,x] d)(hb:An [.sl i,.sl j] [p,x] ((ds.set j .unk).set i .unk)=some ds)(q:Q d ds):qB6 C m (A5 R) [] i (tbN j A4) ds Q xe :=
 qad1 hp hm (qb5 hx (qa1 hx (qa1 hp' (qh8 r (qa1 hb q)))))
theorem qaq2{C:Addr}{m:Str}{p:D}(hp:rdN i ds=some p)(hm:p.isM C m=true)(hx:rdN j ds=some x)(hy:rdN l ds=some y)(hx':rdN j (ds.set l .unk)=some x)(hp':rdN i ((ds.set l .unk).set j .unk)=some p)(r:R [p,x,y] d)(hb:An [.sl i,.sl j,.sl l] [p,x,y] (((ds.set l .unk).set j .unk).set i .unk)=some ds)(q:Q d ds):qB6 C m (A5 R) [] i (tbN j (tbN l A4)) ds Q xe :=
 qad1 hp hm (qb5 hx (qb5 hy (qa1 hy (qa1 hx' (qa1 hp' (qh8 r (qa1 hb q)))))))
theorem Gk{t:VT}{n:VTS}(h:∀(Q:DK)(xe:XKd),Q (.bl true) ds->t ds Q xe)(h2:u e ds):E6 (sIf (Eh (ttE t)) n E5) u e ds:=h _ _ h2
theorem I8{t:VT}{v:VTS}(h:∀(Q:DK)(xe:XKd),Q (.bl b) ds->t ds Q xe)(h1:b=true->u e ds)(h2:b=false->v e ds):sIf (ttE t) u v e ds:=h _ _ (by
 show if b=true then u e ds else v e ds
 exact ite_b h1 h2)
theorem if_v{v:VTS}(h:f ds=some (.bl b))(h1:b=true->u e ds)(h2:b=false->v e ds):sIf (ttV f) u v e ds:=by
 show orF ((f ds).bind D.asB) _;rw[h];exact ite_b h1 h2
theorem ife_v{u v:VT}(h:f ds=some (.bl b))(h1:b=true->u ds Q xe)(h2:b=false->v ds Q xe):tIfE (ttV f) u v ds Q xe:=by
 show orF ((f ds).bind D.asB) _;rw[h];exact ite_b h1 h2
theorem qQ0(e:f ds=some d)(q:Q d ds):Ba f ds Q xe:=qa1 e q
theorem qm2{w:VTS}(b:Bool)(h:f ds=some (.bl b))(h1:b=true->u { e with nx:=w e } ds)(h2:b=false->w e ds):E6 (sIf (ttV f) u E5) w e ds:=if_v (u:=u) (v:=E5) h h1 h2
theorem qp9{t:VT}(h:t ds e.rt e.xe):sRet t e ds:=h
theorem qg0(d:D)(h:f ds=some d)(q:e.rt d ds):sRet (Ba f) e ds:=qa1 h q
theorem Aq(ds':Ds)(h:ds=ds')(q:t e ds'):t e ds:=h ▸ q
theorem qar0{z:Bool}(h:rdN i ds=some (.lst z ys)):Ax (fx2 gIsi) (Aw (rdN i) (Aw (kC (D.ty "list")) λ _=>some [])) ds=some (.bl true):=by
 unfold Ax Aw;rw[h];rfl
theorem qI2{z:Bool}(h:rdN i ds=some (.lst z ys)):Ax (fx1 Gr) (Aw (rdN i) λ _=>some []) ds=some (.int (ys.length:Nat)):=by
 unfold Ax Aw;rw[h];rfl
theorem qi0{Q:Bool->Ds->Prop}(h:f ds=some (.bl b))(q:Q b ds):ttV f ds Q xe:=by
 show orF ((f ds).bind D.asB) _;rw[h];exact q
theorem qc6{Q:Bool->Ds->Prop}(h:f ds=some (.bl b))(q:Q (!b) ds):Eh (ttV f) ds Q xe:=qi0 (Q:=λ b ds=>Q (!b) ds) h q
theorem qv8{t u:VTT}{Q:Bool->Ds->Prop}(b c:Bool)(h1:∀ Q:Bool->Ds->Prop,Q b ds->t ds Q xe)(h2:b=false->∀ Q:Bool->Ds->Prop,Q c ds->u ds Q xe)(q:Q (b||c) ds):ttOr t u ds Q xe:=h1 _ (by
 cases b with
 | false=>exact h2 rfl _ q
 | true=>exact q)
theorem qi2{t u:VTT}{Q:Bool->Ds->Prop}(b c:Bool)(h1:∀ Q:Bool->Ds->Prop,Q b ds->t ds Q xe)(h2:b=true->∀ Q:Bool->Ds->Prop,Q c ds->u ds Q xe)(q:Q (b&&c) ds):ttAnd t u ds Q xe:=h1 _ (by
 cases b with
 | false=>exact q
 | true=>exact h2 rfl _ q)
theorem Fo(b:Bool)(h:∀ Q:Bool->Ds->Prop,Q b ds->qc ds Q e.xe)(h1:b=true->t e ds)(h2:b=false->u e ds):sIf qc t u e ds:=h _ (ite_b h1 h2)
theorem qe2{w:VTS}(b:Bool)(h:∀ Q:Bool->Ds->Prop,Q b ds->qc ds Q e.xe)(h1:b=true->t { e with nx:=w e } ds)(h2:b=false->w e ds):E6 (sIf qc t E5) w e ds:=h _ (ite_b h1 h2)
theorem qak3(h:∀ k∈ks,Al k):(ksD ks).all D.num=true:=by
 rw[zB1];intro y hy;obtain⟨k,hk,rfl⟩:=zB6.mp hy
 have:=h k hk
 show (decide (0<=k)&&decide (k<=1000000000000000000))=true;rw[zA8 this.1,zA8 this.2];rfl
theorem qX2{t:VT}{n:VTS}(h:∀(Q:DK)(xe:XKd),Q (.bl true) ds->t ds Q xe)(h2:e.nx ds):sIf (Eh (ttE t)) n E5 e ds:=h _ _ h2
theorem qaC1{n:VTS}(h:f ds=some (.bl true))(h2:u e ds):E6 (sIf (Eh (ttV f)) n E5) u e ds:=qc6 (Q:=λ k ds'=>if k=true then n { e with nx:=u e } ds' else u e ds') (xe:=e.xe) h h2
theorem qc5{g:VTG}{t:VTS}{e:VEnds}(I:Nat->Ds->Prop):∀(xs:List D)(i:Nat)(ds:Ds),I i ds->(∀(j:Nat)(x:D),xs[j]? = some x->∀ ds,I (i+j) ds->∀ K:Ds->Prop,(∀ ds',I (i+j+1) ds'->K ds')->g x ds λ ds1=>t { e with nx:=K,ct:=K,bk:=e.nx } ds1)->(∀ ds',I (i+xs.length) ds'->e.nx ds')->Bq g t e xs ds
 | [],_,ds,h,_,hn=>hn ds h
 | x::xs,i,ds,h,hs,hn=>hs 0 x rfl ds h _ λ ds' h'=>qc5 I xs (i+1) ds' h' (λ j y hy ds2 h2 K hK=>hs (j+1) y hy ds2 (by rw[show i+(j+1)=i+1+j by lia];exact h2) K λ ds3 h3=>hK ds3 (by rw[show i+1+j+1=i+(j+1)+1 by lia];exact h3)) λ ds2 h2=>hn ds2 (by rw[zAk,show i+(xs.length+1)=i+1+xs.length by lia];exact h2)
theorem qA7{g:VTG}{n:Int}(h:f ds=some (.int n))(h0:Fv n=true)(k:Bq g t e (Av 0 n.toNat) ds):qab6 (Gw (tbV (Ee f) A4)) g t e ds:=by
 show orF (f ds) _;rw[h];exact⟨rfl,h0,k⟩
theorem qz8{n:Int}(h0:0<=n)(h1:n<=1000):Fv n=true:=by
 unfold Fv;rw[zA8 (by lia),zA8 (by lia)];rfl
theorem qP3{m:Nat}(h:(Av 0 m)[j]? = some x):j < m/\x=.int (j:Int):=by
 by_cases hj:j < m
 . rw[qT4 hj] at h
   cases h;exact⟨hj,by rw[Int.zero_add]⟩
 rw[zBl (by unfold Av;rw[zAe,zB4];lia)] at h;cases h
def E9(p:Int->Bool)(y:D):Option D:=y.asI.bind λ k=>if p k=true then some (.int k) else none
theorem qW9{p:Int->Bool}(h:p k=true):E9 p (.int k)=some (.int k):=if_pos h
theorem qX0{p:Int->Bool}(h:p k=false):E9 p (.int k)=none:=if_neg (by rw[h];decide)
theorem qA3(p:Int->Bool):∀ ks:List Int,(ksD ks).filterMap (E9 p)=ksD (ks.filter p)
 | []=>rfl
 | k::ks=>by
   show List.filterMap (E9 p) (D.int k::ksD ks)=_;rw[zBw];cases h:p k with
   | true=>rw[qW9 h,List.filter_cons_of_pos h];show D.int k::(ksD ks).filterMap (E9 p)=_;rw[qA3 p ks];rfl
   | false=>rw[qX0 h,List.filter_cons_of_neg (by rw[h];decide),qA3 p ks]
theorem qaC9{a:Bool}(h1:fa ds=some (.bl a))(h2:fb ds=some (.bl b)):fOr fa fb ds=some (.bl (a||b)):=by
 unfold fOr;rw[h1,h2];cases a<;>rfl
theorem qN1{a:Bool}(h1:fa ds=some (.bl a))(h2:fb ds=some (.bl b)):fAnd fa fb ds=some (.bl (a&&b)):=by
 unfold fAnd;rw[h1,h2];cases a<;>rfl
theorem qb9(ds1:Ds)(h1:∀ K:Ds->Prop,K ds1->t { e with nx:=K } ds)(h2:u e ds1):E6 t u e ds:=h1 (u e) h2
theorem qb7(R:Ds->Prop)(h1:∀ K:Ds->Prop,(∀ ds1,R ds1->K ds1)->t { e with nx:=K } ds)(h2:∀ ds1,R ds1->u e ds1):E6 t u e ds:=h1 (u e) h2
theorem qak6(I:Nat->Ds->Prop)(n:Nat)(h:I n ds)(hs:∀ n ds,I n ds->∀ K:Ds->Prop,(∀ m ds',m < n->I m ds'->K ds')->qc ds (λ b ds1=>if b=true then t { e with nx:=K,ct:=K,bk:=e.nx } ds1 else e.nx ds1) e.xe):qaw2 qc t e ds:=by
 have go:∀ N n ds,n < N->I n ds->whN qc t e N ds:=by
   intro N
   induction N with
   | zero=>intro n ds h;exact absurd h (Nat.not_lt_zero _)
   | succ N ih=>intro n ds hn h;exact hs n ds h _ λ m ds' hm h'=>ih m ds' (by lia) h'
 exact⟨n+1,go (n+1) n ds (zBx n) h⟩
theorem qB4(hx:rdN i ds=some x)(hy:rdN j ds=some y)(hx':rdN i (ds.set j .unk)=some x)(h:s [x,y] (λ d ys=>orF (An [.sl i,.sl j] ys ((ds.set j .unk).set i .unk)) λ ds2=>Q d ds2) (λ e ys=>orF (An [.sl i,.sl j] ys ((ds.set j .unk).set i .unk)) λ ds2=>xe e ds2)):qg5 s [] (tbN i (tbN j A4)) ds Q xe :=
 qb5 hx (qb5 hy (qa1 hy (qa1 hx' h)))
theorem qJ6{w:D}(hx:rdN i ds=some x)(hy:rdN j ds=some y)(hw:rdN l ds=some w)(hy':rdN j (ds.set l .unk)=some y)(hx':rdN i ((ds.set l .unk).set j .unk)=some x)(h:s [x,y,w] (λ d ys=>orF (An [.sl i,.sl j,.sl l] ys (((ds.set l .unk).set j .unk).set i .unk)) λ ds2=>Q d ds2) (λ e ys=>orF (An [.sl i,.sl j,.sl l] ys (((ds.set l .unk).set j .unk).set i .unk)) λ ds2=>xe e ds2)):qg5 s [] (tbN i (tbN j (tbN l A4))) ds Q xe :=
 qb5 hx (qb5 hy (qb5 hw (qa1 hw (qa1 hy' (qa1 hx' h)))))
theorem qaJ5{C:Addr}{m:Str}{k:Nat}{p w:D}(hp:rdN i ds=some p)(hm:p.isM C m=true)(hx:rdN j ds=some x)(hy:rdN l ds=some y)(hw:rdN k ds=some w)(hy':rdN l (ds.set k .unk)=some y)(hx':rdN j ((ds.set k .unk).set l .unk)=some x)(hp':rdN i (((ds.set k .unk).set l .unk).set j .unk)=some p)(r:R [p,x,y,w] d)(hb:An [.sl i,.sl j,.sl l,.sl k] [p,x,y,w] ((((ds.set k .unk).set l .unk).set j .unk).set i .unk)=some ds)(q:Q d ds):qB6 C m (A5 R) [] i (tbN j (tbN l (tbN k A4))) ds Q xe :=
 qad1 hp hm (qb5 hx (qb5 hy (qb5 hw (qa1 hw (qa1 hy' (qa1 hx' (qa1 hp' (qh8 r (qa1 hb q)))))))))
theorem qam1(h:ds[j]? = some d):ds.set j d=ds:=by
 obtain⟨hj,e⟩:=zA7.mp h;rw[<- e];exact List.set_getElem_self hj
theorem qb6(h:ds[i]? = some d)(hk:d.known=true):rdN i ds=some d:=qj8.mpr ⟨h,hk⟩
def isBag(ns:List Int)(b:D):Prop:=∃ x y z,b=bagD x y z ns/\Bg x y z ns
theorem isBag.known{b:D}(h:isBag ns b):b.known=true:=by obtain⟨x,y,z,rfl,_⟩:=h;rfl
def qy0:VSp:=λ ds Q _=>∃ b m ns,ds=[b,.int m]/\isBag ns b/\0 < m/\m < 2 ^ 200/\∀ v b',0<=v->v < m->isBag ns b'->Q (.int v) [b',.int m]
theorem qe3{b:D}(hx:ds[i]? = some b)(B:isBag ns b)(hf:f ds=some (.int m))(h0:0 < m)(h1:m < 2 ^ 200)(q:∀ v b',0<=v->v < m->isBag ns b'->Q (.int v) (ds.set i b')):qg5 qy0 [] (tbN i (tbV (Ba f) A4)) ds Q xe:=by
 have hb:=qb6 hx B.known;refine qb5 hb (qc0 hf (qa1 hb ⟨b,m,ns,rfl,B,h0,h1,λ v b' v0 v1 B'=>?_⟩));show Q (.int v) ((ds.set i .unk).set i b');rw[List.set_set];exact q v b' v0 v1 B'
theorem qR3{b:D}(hx:ds[i]? = some b)(B:isBag ns b)(hf:f ds=some (.int m))(h0:0 < m)(h1:m < 2 ^ 200)(q:∀ v b',0<=v->v < m->isBag ns b'->Q (.int v) (ds.set i b')):qg5 qy0 [] (tbN i (tbV (Ee f) A4)) ds Q xe:=by
 have hb:=qb6 hx B.known;refine qb5 hb (qa1 hf ⟨rfl,qa1 hb ⟨b,m,ns,rfl,B,h0,h1,λ v b' v0 v1 B'=>?_⟩⟩);show Q (.int v) ((ds.set i .unk).set i b');rw[List.set_set];exact q v b' v0 v1 B'
theorem qK0{b:D}(hx:ds[i]? = some b)(B:isBag ns b)(hy:ds[j]? = some (.int m))(ne:i≠j)(h0:0 < m)(h1:m < 2 ^ 200)(q:∀ v b',0<=v->v < m->isBag ns b'->Q (.int v) (ds.set i b')):qg5 qy0 [] (tbN i (tbN j A4)) ds Q xe:=by
 have hb:=qb6 hx B.known;have hm:rdN j ds=some (.int m):=qb6 hy rfl;have hj:j < ds.length:=(zA7.mp hy).1;refine qB4 hb hm (qb6 (by rw[zB5 (Ne.symm ne)];exact hx) B.known) ⟨b,m,ns,rfl,B,h0,h1,λ v b' v0 v1 B'=>?_⟩;show Q (.int v) ((((ds.set j .unk).set i .unk).set i b').set j (.int m));have e:(((ds.set j .unk).set i .unk).set i b').set j (.int m)=ds.set i b':=by
   rw[List.set_set,List.set_comm _ _ (Ne.symm ne),List.set_set];exact qam1 (by rw[zB5 ne];exact hy)
 rw[e];exact q v b' v0 v1 B'
theorem mulR{i j:Int}(h:E2 j=true):Gq (.int i) (.int j)=some (.int (i * j)):=qk8 (by rw[h,Bool.or_true])
theorem Hl{i j:Int}(h:E2 i=true):Gq (.int i) (.int j)=some (.int (i * j)):=qk8 (by rw[h,Bool.true_or])
theorem qas7{i j:Int}(h:0 < j)(h1:j < 2 ^ 200):gDiv (.int i) (.int j)=some (.int (i / j)):=qk8 (by show (decide (0 < j)&&decide (j < 2 ^ 200))=true;rw[zA8 h,zA8 h1];rfl)
theorem Bt{x n:Int}(h:0 < n):Hg (.int x) (.int n)=some (.int (x % n)):=qk8 (zA8 h)
theorem qG0{i:Int}(h:-(2 ^ 64) < i)(h':i < 2 ^ 64):E2 i=true:=by unfold E2;rw[zA8 h,zA8 h'];rfl
theorem Bk{z:Bool}(h:r < N):gIx (.lst z (rlD N g)) (.int (r:Int))=some (Gx (g r)):=qaa0 (qM4 h)
theorem qI6(h:r < N):ixN (rlD N g).length (r:Int)=some r:=by
 rw[qx0];unfold ixN;simp[h]
theorem qk4{n:Nat}{c:Int}:(rlD n g).set i (.int c)=rlD n (Row.set g i c):=qav9 (o:=some c)
theorem qap6(N:Nat):(List.replicate N [D.non]).flatten=rlD N (λ _=>none):=by
 unfold rlD
 induction N with
 | zero=>rfl
 | succ N ih=>rw[List.replicate_succ',List.flatten_append,ih,List.range_succ,zBp];rfl
theorem qV6{n:Int}(h0:0<=n)(h1:n<=64):Gq (.lst false [.non]) (.int n)=some (.lst false (rlD n.toNat λ _=>none)):=by
 show gd _ _=_;rw[<- qap6];exact qk8 ⟨rfl,by show 1 * n.toNat<=1000000;lia,by lia,by lia⟩
theorem qM7{g:VTG}{n:Int}(h:f ds=some (.int n))(h0:Fv n=true)(k:Bq g t e (Av 0 n.toNat) ds):qab6 (Gw (tbV (Ba f) A4)) g t e ds:=by
 show orF (f ds) _;rw[h];exact⟨h0,k⟩
theorem qae6{g:VTG}{n:Int}(h:rdN i ds=some (.int n))(h0:Fv n=true)(k:Bq g t e (Av 0 n.toNat) (ds.set i .unk)):qab6 (Gw (tbN i A4)) g t e ds:=by
 refine⟨by rw[h];rfl,?_⟩;exact qa1 h ⟨h0,k⟩
theorem qap4{z:Bool}:gInB true (.int k) (.lst z (ksD ks))=some (.bl (!decide (k∈ks))):=by
 show ((flats (ksD ks)).bind λ ws=>some (D.bl (if true=true then !inV (.int k) ws else inV (.int k) ws)))=_;rw[qY3];show some (D.bl (!inV (.int k) (ks.map V.int)))=_;rw[qar1]
theorem qw9(lo:Int)(n:Nat):(Av lo n).length=n:=by unfold Av;rw[zAe,zB4]
theorem qI8(e:f ds=some d)(hi:d.imm=true)(q:Q d ds):Ee f ds Q xe:=qa1 (a:=d) (k:=λ(d:D)=>d.imm=true/\Q d ds) e ⟨hi,q⟩
theorem qo8(h:f ds=some d)(hi:d.imm=true)(q:e.nx (ds.set i d)):Ej (Ee f) (gNm i) e ds:=qI8 (Q:=λ d ds'=>gNm i d ds' e.nx) h hi q
theorem qo7(h:f ds=some d)(q:e.nx (ds.set i d)):Ej (Ba f) (gNm i) e ds:=qQ0 (Q:=λ d ds'=>gNm i d ds' e.nx) h q
theorem qX4{n:Nat}{K:Ds->Prop}(hi:ds[i]? = some (.lst false ys))(hk:fb ds=some (.int k))(hn:ixN ys.length k=some n)(q:K (ds.set i (.lst false (ys.set n d)))):Es (λ _=>some (i,[])) fb d ds K:=by
 refine qa1 (a:=(i,([]:List Nat))) rfl ?_;refine qa1 (a:=ys) (by show (A6 ds i []).bind D.own=_;rw[qA6 hi];rfl) ?_;refine qa1 (a:=k) (by rw[hk];rfl) ?_;refine qa1 hn ?_;show K (Bp ds i [] (.lst false (ys.set n d)));rw[qy2 hi];exact q
theorem qB8{n:Nat}(hf:f ds=some d)(hd:d.imm=true)(hi:ds[i]? = some (.lst false ys))(hk:fb ds=some (.int k))(hn:ixN ys.length k=some n)(q:e.nx (ds.set i (.lst false (ys.set n d)))):Ej (Ee f) (Es (λ _=>some (i,[])) fb) e ds :=
 qI8 (Q:=λ d ds'=>Es (λ _=>some (i,[])) fb d ds' e.nx) hf hd (qX4 hi hk hn q)
theorem qR9{n:Nat}(hf:f ds=some d)(hi:ds[i]? = some (.lst false ys))(hk:fb ds=some (.int k))(hn:ixN ys.length k=some n)(q:e.nx (ds.set i (.lst false (ys.set n d)))):Ej (Ba f) (Es (λ _=>some (i,[])) fb) e ds :=
 qQ0 (Q:=λ d ds'=>Es (λ _=>some (i,[])) fb d ds' e.nx) hf (qX4 hi hk hn q)
theorem qj5{K:Ds->List Pl->Ds->Prop}(hf:f ds=some y)(hi:y.imm=true)(h:tr ds (λ xs ps ds2=>K (y::xs) (.no::ps) ds2) xe):tbV (Ee f) tr ds K xe:=qI8 (Q:=λ y ds1=>tr ds1 (λ xs ps ds2=>K (y::xs) (.no::ps) ds2) xe) hf hi h
theorem qak2(hi:ds[i]? = some (.lst false ys))(hf:f ds=some d)(hl:ys.length < big)(q:Q .non (ds.set i (.lst false (ys++[d])))):Er Hj i (tbV (Ba f) A4) ds Q xe:=by
 have e:(rdN i ds).bind D.own=some ys:=by rw[qb6 hi rfl];rfl
 refine⟨by rw[e];rfl,qc0 hf ?_⟩;refine qa1 (k:=λ ys=>orF (Hj ys [d]) λ z=>Q z.2 (ds.set i (.lst false z.1))) e ?_;exact qa1 (a:=(ys++[d],D.non)) (if_pos hl) q
theorem qaN3(hi:ds[i]? = some (.lst false ys))(hj:ds[j]? = some d)(hd:d.known=true)(ne:i≠j)(hl:ys.length < big)(q:Q .non ((ds.set j .unk).set i (.lst false (ys++[d])))):Er Hj i (tbN j A4) ds Q xe:=by
 have e:(rdN i ds).bind D.own=some ys:=by rw[qb6 hi rfl];rfl
 have e2:(rdN i (ds.set j .unk)).bind D.own=some ys:=by rw[qb6 (d:=.lst false ys) (by rw[zB5 (Ne.symm ne)];exact hi) rfl];rfl
 refine⟨by rw[e];rfl,qb5 (qb6 hj hd) ?_⟩;refine qa1 (k:=λ d=>orF ((rdN i (ds.set j .unk)).bind D.own) λ ys=>orF (Hj ys [d]) λ z=>Q z.2 ((ds.set j .unk).set i (.lst false z.1))) (qb6 hj hd) ?_;refine qa1 (k:=λ ys=>orF (Hj ys [d]) λ z=>Q z.2 ((ds.set j .unk).set i (.lst false z.1))) e2 ?_;exact qa1 (a:=(ys++[d],D.non)) (if_pos hl) q
theorem qai6{g:Ds->Ds->Option (Ds×D)}{pf:PF}{p:List Nat}{d0:D}(h1:pf ds=some (i,p))(h2:(A6 ds i p).bind D.own=some ys)(h3:ds[i]? = some d0)(h:tr (ds.set i .unk) (λ xs _ ds1=>orF (g ys xs) λ z=>Q z.2 (Bp (ds1.set i d0) i p (.lst false z.1))) xe):Fk g pf tr ds Q xe:=by
 unfold Fk;rw[h1];show orF ((A6 ds i p).bind D.own) _;rw[h2];show orF ds[i]? _;rw[h3];exact h
theorem qaN0{f:Int->Int->Int}{fe:FV}{x y:Int}(hi:ds[i]? = some (.lst false ys))(hk:fb ds=some (.int k))(k0:0<=k)(hx:ys[k.toNat]? = some (.int x))(hy:fe ds=some (.int y))(q:e.nx (ds.set i (.lst false (ys.set k.toNat (.int (f x y)))))):sAugV f (λ _=>some (i,[])) fb fe e ds:=by
 refine qa1 (a:=(i,([]:List Nat))) rfl ?_;refine qa1 (a:=ys) (by show (A6 ds i []).bind D.own=_;rw[qA6 hi];rfl) ?_;refine qa1 (a:=k) (by rw[hk];rfl) ⟨k0,?_⟩;refine qa1 (a:=x) (by rw[hx];rfl) ?_;refine qa1 (a:=y) (by rw[hy];rfl) ?_;show e.nx (Bp ds i [] _);rw[qy2 hi];exact q
theorem qi7{K:Ds->Prop}(h:K (ds.set i d)):gNm i d ds K:=h
theorem qd0{K:Ds->List Pl->Ds->Prop}(h:K [] [] ds):A4 ds K xe:=h
theorem qm4(h:te ds (λ _ ds'=>e.nx ds') e.xe):sExpr te e ds:=h
theorem qar4{K:Ds->Prop}(h:K ((ds.set i x).set j y)):G8 2 (qD6 (gNm i) (qD6 (gNm j) Ge)) (.tup [x,y]) ds K:=⟨rfl,h⟩
theorem qR8{ft:FV}{n:Nat}(hf:ft ds=some (.tup [x,y]))(hi:ds[i]? = some (.lst false ys))(hk:fb ds=some (.int k))(hn:ixN ys.length k=some n)(q:e.nx ((ds.set i (.lst false (ys.set n x))).set j y)):Ej (Ba ft) (G8 2 (qD6 (Es (λ _=>some (i,[])) fb) (qD6 (gNm j) Ge))) e ds :=
 qQ0 (Q:=λ d ds'=>G8 2 (qD6 (Es (λ _=>some (i,[])) fb) (qD6 (gNm j) Ge)) d ds' e.nx) hf ⟨rfl,qX4 (K:=λ ds'=>qD6 (gNm j) Ge [y] ds' e.nx) hi hk hn q⟩
theorem qaA8:ksD S++[.int k]=ksD (S++[k]):=by unfold ksD;rw[zBp];rfl
theorem qag5{tr2:VTB}{K:Ds->List Pl->Ds->Prop}(h:tr ds (λ xs _ ds1=>xs.length<=big/\tr2 ds1 (λ ys qs ds2=>K (.tup xs::ys) (.no::qs) ds2) xe) xe):tbV (tTupV tr) tr2 ds K xe:=h
theorem qp6{K:Ds->List Pl->Ds->Prop}(h:ta ds (λ x ds1=>tr ds1 (λ xs ps ds2=>K (x::xs) (.no::ps) ds2) xe) xe):tbV ta tr ds K xe:=h
theorem qR0(ha:fa ds=some x)(hb:fb ds=some y)(hx:x.imm=true)(hy:y.imm=true):Ax gTup (Aw fa (Aw fb λ _=>some [])) ds=some (.tup [x,y]):=by
 unfold Ax Aw;rw[ha,hb];show gd (D.imms [x,y]=true/\[x,y].length<=big) (.tup [x,y])=_;refine qk8 ⟨?_,by show 2<=1000000;decide⟩;show (x.imm&&(y.imm&&true))=true;rw[hx,hy];rfl
theorem qN6:B7 ys none (some (r:Int))=ys.take r:=by
 unfold B7;have e1:HT.sIx ys.length ys.length (some ((r:Nat):Int))=min r ys.length:=HT.qT3 _ _ r;rw[e1,HT.qy9,List.drop_zero,Nat.sub_zero];by_cases h:r<=ys.length
 . rw[Nat.min_eq_left h]
 rw[Nat.min_eq_right (by lia),List.take_length,zBc (by lia)]
theorem qC3{g:D->D->Option D}{Q:Bool->Ds->Prop}(h:ta ds (λ x ds1=>orF ((fb ds1).bind (g x)) λ d=>orF d.asB λ b=>Q b ds1) xe):ttE (t2v g ta fb) ds Q xe:=h
theorem qZ7(h:tr ds (λ xs ps ds1=>s (xs++[]) (λ d ys=>orF (An ps ys ds1) λ ds2=>Q d ds2) (λ x ys=>orF (An ps ys ds1) λ ds2=>xe x ds2)) xe):qg5 s [] tr ds Q xe:=h
theorem qal6{g:D->D->Option D}(hf:fa ds=some x)(h:tb ds (λ y ds2=>orF (g x y) λ d=>Q d ds2) xe):t2 g (Ba fa) tb ds Q xe:=qQ0 (xe:=xe) (Q:=λ x ds1=>tb ds1 (λ y ds2=>orF (g x y) λ d=>Q d ds2) xe) hf h
theorem qR7{g:D->D->Option D}(h:ta ds (λ x ds1=>orF ((fb ds1).bind (g x)) λ d=>Q d ds1) xe):t2v g ta fb ds Q xe:=h
theorem qag6{g:D->D->Option D}(h:ta ds (λ x ds1=>orF (fb ds1) λ y=>y.imm=true/\orF (g x y) λ d=>Q d ds1) xe):Id g ta fb ds Q xe:=h
theorem qv3(h:tr ds (λ xs _ ds1=>xs.length<=big/\Q (.lst false xs) ds1) xe):tLstV tr ds Q xe:=h
theorem qm6(h:te ds (λ d ds'=>e.nx (ds'.set i d)) e.xe):Ej te (gNm i) e ds:=h
theorem qaN4(h:ta ds (λ x ds1=>orF x.asB λ k=>if k=true then tb ds1 Q xe else Q (.bl false) ds1) xe):Ii ta tb ds Q xe:=h
theorem qaA2{C:Addr}(h:tr ds (λ xs ps ds1=>s (.ins false C []::(xs++[])) (λ d ys=>d.isN=some true/\orF ys.head? λ self=>orF (An ps ys.tail ds1) λ ds2=>Q self ds2) (λ x ys=>orF (An ps ys.tail ds1) λ ds2=>xe x ds2)) xe):qR5 C s [] tr ds Q xe:=h
theorem qL4{z:Bool}(h:rdN i ds=some (.lst z (ksD S)):=by rfl):Ax (fx1 Ih) (Aw (rdN i) λ _=>some []) ds=some (.lst false (ksD S)):=by
 unfold Ax Aw;rw[h];exact qk8 (qf2 S)
def psD(n:Nat)(p:Nat->Nat):Ds:=(List.range n).map λ i=>.int ((p i:Nat):Int)
theorem qad5(n:Nat)(p:Nat->Nat):(psD n p).length=n:=by simp[psD]
theorem qar5{n:Nat}(h:i < n):(psD n p)[i]? = some (.int ((p i:Nat):Int)):=by
 unfold psD;rw[zAx,List.getElem?_range h];rfl
theorem ix_ps{z:Bool}(h:r < N):gIx (.lst z (psD N p)) (.int (r:Int))=some (.int ((p r:Nat):Int)):=qaa0 (qar5 h)
theorem qaK5(h:r < N):ixN (psD N p).length (r:Int)=some r:=by
 rw[qad5];unfold ixN;simp[h]
theorem qan5{q:Nat->Nat}(h:∀ i,i < N->p i=q i):psD N p=psD N q:=by
 unfold psD;apply List.map_congr_left;intro i hi;rw[h i (zB2.mp hi)]
theorem qaG2:(psD N p).set r (.int (((p r:Nat):Int)+1))=psD N (λ i=>if i=r then p i+1 else p i):=by
 apply List.ext_getElem?;intro j;by_cases hj:j < N
 . rw[qar5 hj]
   by_cases e:r=j
   . subst e
     rw[zB0 (by rw[qad5];exact hj),if_pos rfl];exact congrArg (λ x=>some (D.int x)) (by lia)
   rw[zB5 e,qar5 hj,if_neg (Ne.symm e)]
 rw[zBl (by rw[List.length_set,qad5];lia),zBl (by rw[qad5];lia)]
theorem qat9(N:Nat):(List.replicate N [D.int 0]).flatten=psD N (λ _=>0):=by
 unfold psD
 induction N with
 | zero=>rfl
 | succ N ih=>rw[List.replicate_succ',List.flatten_append,ih,List.range_succ,zBp];rfl
theorem qap8{n:Int}(h0:0<=n)(h1:n<=64):Gq (.lst false [.int 0]) (.int n)=some (.lst false (psD n.toNat λ _=>0)):=by
 show gd _ _=_;rw[<- qat9];exact qk8 ⟨rfl,by show 1 * n.toNat<=1000000;lia,by lia,by lia⟩
theorem eq_ks:∀ ks ls:List Int,Ey (eqN 20) (ksD ks) (ksD ls)=some (decide (ks=ls))
 | [],[]=>rfl
 | [],_::_=>rfl
 | _::_,[]=>rfl
 | k::ks,l::ls=>by
   show ((some (k == l)).bind λ a=>(Ey (eqN 20) (ksD ks) (ksD ls)).bind λ b=>some (a&&b))=_;rw[eq_ks ks ls];show some ((k == l)&&decide (ks=ls))=_;by_cases h:k=l
   . subst h;simp
   simp[h]
theorem qaC4{z:Bool}(ks ls:List Int):gNe (.lst z (ksD ks)) (.lst z' (ksD ls))=some (.bl (!decide (ks=ls))):=by
 show (Ey (eqN 20) (ksD ks) (ksD ls)).map (λ b=>D.bl (!b))=_;rw[eq_ks];rfl
def Bz(N a m:Nat)(p:Nat->Nat):Nat->Nat:=λ r=>p r+(decide (Ae N a r < m)).toNat
theorem qS0{a:Nat}:Bz N a 0 p=p:=by
 funext r;unfold Bz;rw[zAp (by lia)];rfl
theorem qS1{a s:Nat}(ha:a < N)(hs:s < N):∀ r,r < N->(if r=s then Bz N a (Ae N a s) p r+1 else Bz N a (Ae N a s) p r)=Bz N a (Ae N a s+1) p r:=λ r hr=>by
 unfold Bz;by_cases e:r=s
 . subst e
   rw[if_pos rfl,zAp (by lia),zA8 (by lia)];rfl
 have:Ae N a r≠Ae N a s:=λ q=>e (ql0 ha hr hs q)
 rw[if_neg e];by_cases h:Ae N a r < Ae N a s
 . rw[zA8 h,zA8 (by lia)]
 rw[zAp h,zAp (by lia)]
def ql5(N:Nat)(hm:Int->Nat)(g:Nat->Option Int)(i:Nat):Nat->Nat:=λ r=>(List.range i).countP (Fh N hm g r)
theorem qw4:ql5 N hm g (i+1) r=ql5 N hm g i r+(Fh N hm g r i).toNat:=by
 unfold ql5;rw[List.range_succ,List.countP_append,List.countP_singleton];cases Fh N hm g r i<;>rfl
theorem qP5(h:g i=none):ql5 N hm g (i+1)=ql5 N hm g i:=by
 funext r;rw[qw4];unfold Fh;rw[h];rfl
theorem qP4(h:g i=some k):ql5 N hm g (i+1)=Bz N (hm k) (Ae N (hm k) i) (ql5 N hm g i):=by
 funext r;rw[qw4];unfold Fh Bz;rw[h]
theorem qU6:ql5 N hm g N=G0 N hm g:=rfl
theorem qaA7(ys:Ds):(enD ys).length=ys.length:=by unfold enD;simp
theorem en_at(h:(enD (rlD N g))[i]? = some v):i < N/\v=.tup [.int (i:Nat),Gx (g i)]:=by
 have hi:i < N:=by
   have:=(zA7.mp h).1
   rwa[qaA7,qx0] at this
 refine⟨hi,?_⟩;unfold enD at h;rw[zAx,List.getElem?_zipIdx,qM4 hi] at h;simp at h;exact h.symm
theorem ql2{K:Ds->List Pl->Ds->Prop}(hf:f ds=some y)(h:tr ds (λ xs ps ds2=>K (y.fz::xs) (.no::ps) ds2) xe):tbV (tFzV (Ba f)) tr ds K xe:=qa1 (k:=λ(y:D)=>tr ds (λ xs ps ds2=>K (y.fz::xs) (.no::ps) ds2) xe) hf h
theorem qav1{K:Ds->List Pl->Ds->Prop}(hf:f ds=some y)(hi:y.imm=true)(h:tr ds (λ xs ps ds2=>K (y.fz::xs) (.no::ps) ds2) xe):tbV (tFzV (Ee f)) tr ds K xe:=qI8 (xe:=xe) (Q:=λ(y:D) ds1=>tr ds1 (λ xs ps ds2=>K (y.fz::xs) (.no::ps) ds2) xe) hf hi h
theorem Hb(h:te ds (λ d ds1=>Q d.fz ds1) xe):tFzV te ds Q xe:=h
def okN:Nat->D->Bool
 | n+1,.lst _ xs=>xs.all (okN n)
 | n+1,.tup xs=>xs.all (okN n)
 | _,x=>x.d0||x.flat.isSome
theorem qj2{f:D->D->Option Bool}:∀{xs:List D},(∀ x∈xs,f x x=some true)->Ey f xs xs=some true
 | [],_=>rfl
 | x::xs,h=>by
   show ((f x x).bind λ a=>(Ey f xs xs).bind λ b=>some (a&&b))=_;rw[h x zAd,qj2 λ y hy=>h y (zA4 _ hy)];rfl
theorem qJ0(h:(x.d0||x.flat.isSome)=true):eqZ x x=some true:=by
 unfold eqZ;split
 . rfl
 rename_i hn
 have hd:x.d0=false:=by
   cases e:x.d0 with
   | false=>rfl
   | true=>rw[e] at hn;exact absurd rfl hn
 rw[hd,Bool.false_or] at h;cases x with
 | non=>rfl
 | bl b=>show some (eqV (.bl b) (.bl b))=_;rw[qt2 rfl]
 | int i=>show some (eqV (.int i) (.int i))=_;rw[qt2 rfl]
 | str i=>show some (eqV (.str i) (.str i))=_;rw[qt2 rfl]
 | _=>cases h
theorem qk9:∀{n:Nat}{x:D},okN n x=true->eqN n x x=some true
 | 0,x,h=>by
   rw[qJ1];refine qJ0 ?_;cases x<;>exact h
 | n+1,x,h=>by
   cases x with
   | lst z xs=>exact qj2 λ y hy=>qk9 (zB1.mp h y hy)
   | tup xs=>exact qj2 λ y hy=>qk9 (zB1.mp h y hy)
   | _=>exact qJ0 h
theorem qar8(h:okN 21 x=true):gNe x x=some (.bl false):=by
 have e:eqT x x=some true:=by
   cases x with
   | lst z xs=>exact qj2 λ y hy=>qk9 (zB1.mp h y hy)
   | tup xs=>exact qj2 λ y hy=>qk9 (zB1.mp h y hy)
   | _=>exact qJ0 h
 unfold gNe;rw[e];rfl
theorem qaE4{src:List (Option Nat)}{g:VTG}{qf:VTT}(h:tr ds (λ xs _ ds1=>orF (Iq xs) λ j=>Fv j=true/\Gj src g qf te (Av 0 j.toNat) ds1 Q) xe):Iv src (Gw tr) g qf te ds Q xe:=h
theorem qaq6(h:(ksD ks)[i]? = some y):∃ z,ks[i]? = some z/\y=.int z:=by
 unfold ksD at h;rw[zAx] at h;cases e:ks[i]? with
 | none=>rw[e] at h;cases h
 | some z=>rw[e] at h;exact⟨z,rfl,(Option.some.inj h).symm⟩
theorem ql3(h:ks[i]? = some k):ks.take (i+1)=ks.take i++[k]:=by rw[List.take_add_one,h];rfl
theorem qs6(nd:ks.Nodup)(h:ks[i]? = some k):¬ k∈ks.take i:=λ z=>by
 obtain⟨j,hj⟩:=List.getElem?_of_mem z;rw[List.getElem?_take] at hj;split at hj
 . rename_i hlt
   obtain⟨h1,e1⟩:=zA7.mp h;obtain⟨h2,e2⟩:=zA7.mp hj
   have:=(List.getElem_inj nd).mp (e2.trans e1.symm)
   lia
 cases hj
theorem _root_.Row.Kept.free{n:Nat}{wr:Bool}(KP:Kept n wr hm g S)(hs:(S++[k]).Sublist ks)(nc:∀ q,¬ Crowd n wr hm ks q):∃ e,F8 n wr hm g k e:=by
 by_cases h:∃ e,F8 n wr hm g k e
 . exact h
 obtain⟨q,c⟩:=KP.crowd λ e z=>h ⟨e,z⟩
 exact absurd (c.mono hs) (nc q)
theorem qY0:∀ ks:List Int,D.fzs (ksD ks)=ksD ks
 | []=>rfl
 | k::r=>congrArg (D.int k::·) (qY0 r)
theorem qaj6:∀ ps:Pr,D.fzs (prD ps)=prD ps
 | []=>rfl
 | p::r=>congrArg (D.tup [.int p.1,.int p.2]::·) (qaj6 r)
theorem qaC5:∀ ps:Pr,D.fzk (kvD ps)=kvD ps
 | []=>rfl
 | p::r=>congrArg ((Sum.inl p.1,D.int p.2)::·) (qaC5 r)
theorem qt0{z:Bool}{C:Addr}{n:Int}{wr:Bool}{ps:Pr}:(planD z C n wr ps).fz=planD true C n wr ps:=by
 show D.ins true C [("rooms",.int n),("wraps",.bl wr),("homes",.lst true (D.fzs (prD ps))),("home_numbers",.dct true (D.fzk (kvD ps)))]=_;rw[qaj6,qaC5];rfl
theorem Em{z:Bool}(ks:List Int):(D.lst z (ksD ks)).fz=.lst true (ksD ks):=congrArg (D.lst true) (qY0 ks)
theorem qah9:∀{ps qs:Pr},prD ps=prD qs->ps=qs
 | [],[],_=>rfl
 | [],_::_,h=>by cases h
 | _::_,[],h=>by cases h
 | (x,y)::ps,(x',y')::qs,h=>by
   have h:D.tup [.int x,.int y]::prD ps=D.tup [.int x',.int y']::prD qs:=h;obtain⟨h1,h2⟩:=List.cons.inj h;cases h1;rw[qah9 h2]
theorem qX9{z:Bool}(S:List Int):gNe (.lst z (ksD S)) (.lst z' (ksD S))=some (.bl false):=by
 rw[qaC4,zA8 rfl];rfl
theorem qas9{z:Bool}{lo hi:FO}{l h:Option Int}(hx:rdN i ds=some (.lst z (ksD S)))(h1:lo ds=some l)(h2:hi ds=some h)(e:B7 (ksD S) l h=ksD T):fsl (rdN i) lo hi ds=some (.lst false (ksD T)):=by
 unfold fsl;rw[hx,Option.bind_some,h1,Option.bind_some,h2,Option.bind_some,if_pos (show noT (D.lst z (ksD S))=true from rfl)];show gd (D.imms (B7 (ksD S) l h)=true) (D.lst false (B7 (ksD S) l h))=_;rw[e];exact qk8 (qf2 T)
theorem qaE1(S:List Int):B7 (ksD S) none (some 1)=ksD (S.take 1):=by
 rw[show (some (1:Int))=some ((1:Nat):Int) from rfl,qN6];unfold ksD;rw[List.map_take]
theorem qas8(S:List Int):B7 (ksD S) (some 1) none=ksD (S.drop 1):=by
 unfold B7;rw[show (some (1:Int))=some ((1:Nat):Int) from rfl,HT.qT3,HT.qy9,qi1];unfold ksD;rw[<- List.map_drop,<- List.map_take];congr 1;cases S with
 | nil=>rfl
 | cons k r =>
   rw[Nat.min_eq_left (by simp),List.drop_one];show List.take (r.length+1 - 1) r=r;exact zBc (by lia)
theorem qat0(h:S≠[]):B7 (ksD S) none (some (-1))=ksD S.dropLast:=by
 have hl:=List.length_pos_iff.mpr h;have e:HT.sIx S.length S.length (some (-1))=S.length - 1:=by
   have:=HT.qaE6 (-1) S.length S.length
   rw[if_pos (by decide)] at this;lia
 unfold B7;rw[qi1,e,HT.qy9,List.drop_zero,Nat.sub_zero,List.dropLast_eq_take];unfold ksD;rw[List.map_take]
theorem qaF1{z:Bool}{A B:List Int}(h:A.length+B.length<=1000):gAdd (.lst z (ksD A)) (.lst z' (ksD B))=some (.lst false (ksD (A++B))):=by
 show gd _ (D.lst false (ksD A++ksD B))=_;rw[show ksD (A++B)=ksD A++ksD B from zBp];exact qk8 ⟨qf2 A,qf2 B,by rw[qi1,qi1];unfold big;lia⟩
theorem co_to{gc:Ds->Option D}(h:tr ds (λ xs _ ds1=>orF (gc xs) λ d=>Q d ds1) xe):tcO gc (Gw tr) ds Q xe:=h
theorem qm1{C:Addr}(h:x.isC C=some d):x.known=true:=by
 cases x with
 | unk=>cases h
 | hole v=>cases h
 | _=>rfl
theorem qaw3{C:Addr}{n:Int}(h:f ds=some (.bl false))(q:e.xe ⟨C,[(fl,.int n)]⟩ ds):E6 (sIf (Eh (ttV f)) (qs2 C fl (Ba (kC (.int n)))) E5) u e ds :=
 qc6 (Q:=λ k ds'=>if k=true then qs2 C fl (Ba (kC (.int n))) { e with nx:=u e } ds' else u e ds') (xe:=e.xe) h ⟨rfl,q⟩
theorem qT6{t:VT}{C:Addr}{n:Int}(h:∀(Q:DK)(xe:XKd),Q (.bl false) ds->t ds Q xe)(q:e.xe ⟨C,[(fl,.int n)]⟩ ds):sIf (Eh (ttE t)) (qs2 C fl (Ba (kC (.int n)))) E5 e ds:=h _ _ ⟨rfl,q⟩
theorem qX3{t:VT}{C:Addr}{n:Int}(b:Bool)(h:∀(Q:DK)(xe:XKd),Q (.bl b) ds->t ds Q xe)(h1:b=true->u e ds)(h2:b=false->e.xe ⟨C,[(fl,.int n)]⟩ ds):E6 (sIf (Eh (ttE t)) (qs2 C fl (Ba (kC (.int n)))) E5) u e ds:=h _ _ (by
 cases b with
 | true=>exact h1 rfl
 | false=>exact⟨rfl,h2 rfl⟩)
theorem qaC2{C:Addr}{n:Int}(b:Bool)(h:f ds=some (.bl b))(h1:b=true->u e ds)(h2:b=false->e.xe ⟨C,[(fl,.int n)]⟩ ds):E6 (sIf (Eh (ttV f)) (qs2 C fl (Ba (kC (.int n)))) E5) u e ds :=
 qc6 (Q:=λ k ds'=>if k=true then qs2 C fl (Ba (kC (.int n))) { e with nx:=u e } ds' else u e ds') (xe:=e.xe) h (by
   cases b with
   | true=>exact h1 rfl
   | false=>exact⟨rfl,h2 rfl⟩)
theorem qx6{l n:Int}(h1:l<=n)(h2:n<=m):(D.int n).within l m=true:=by
 show (decide (l<=n)&&decide (n<=m))=true;rw[zA8 h1,zA8 h2];rfl
theorem numD(h:(D.int k).num=true):Al k:=by
 have h:(decide (0<=k)&&decide (k<=1000000000000000000))=true:=h;rw[zAv,zAu,zAu] at h;exact h
theorem qau9{hd:XH}(h:t { e with nx:=u e,xe:=λ x _=>hd x { e with nx:=u e } (List.replicate ds.length .unk) } ds):E6 (Ix t hd) u e ds:=h
theorem qaF9{g:D->D->Option D}(h:ta ds (λ x ds1=>tb ds1 (λ y ds2=>orF (g x y) λ d=>Q d ds2) xe) xe):t2 g ta tb ds Q xe:=h
local macro_rules | `(tactic| walk_at "s")=>`(tactic| exact⟨rfl,rfl,rfl,by decide +kernel,rfl,by decide +kernel,by decide +kernel⟩)
def top(i:Nat):Stmt:=PySem.Challenge.pw_homeward_k24_crowds.main.body.getD i (.Pass ⟨0,0,0,0⟩)
abbrev qah0:Stmt:=top 0
abbrev qk7:Stmt:=qp3 (top 3) 0
abbrev qi4:Stmt:=qp3 (top 4) 0
abbrev qr7:Stmt:=top 10
abbrev qe4:Stmt:=top 11
abbrev qn3:Stmt:=top 12
abbrev qk6:Stmt:=top 13
abbrev qi3:Stmt:=top 14
abbrev qf0:Stmt:=top 15
abbrev qg9:Stmt:=top 16
abbrev qn6:Stmt:=qp3 (top 17) 0
abbrev qh2:Stmt:=qp3 (top 17) 2
abbrev qf8:Stmt:=qp3 (top 17) 3
abbrev qn7:Stmt:=qp3 (top 17) 4
abbrev qs0:Stmt:=qp3 (top 17) 5
abbrev qe5:Stmt:=qp3 (top 17) 6
abbrev qg7:Stmt:=top 19
abbrev qn5:Stmt:=top 20
abbrev qr8:Stmt:=top 21
abbrev qh1:Stmt:=top 22
abbrev qg8:Stmt:=top 23
abbrev qr9:Stmt:=top 24
abbrev qn4:Stmt:=top 25
abbrev qh0:Stmt:=top 26
abbrev qg6:Stmt:=top 27
abbrev qn2:Stmt:=top 28
abbrev qam6:Stmt:=top 30
abbrev qS9:Stmt:=top 31
abbrev qT2:Stmt:=top 32
abbrev qam4:Stmt:=top 33
abbrev qT0:Stmt:=top 34
abbrev qT1:Stmt:=top 35
abbrev qam5:Stmt:=top 36
abbrev qG9:Stmt:=top 37
abbrev qam3:Stmt:=top 38
abbrev qy8:Stmt:=top 39
abbrev qG8:Stmt:=top 40
abbrev qs1:Stmt:=top 41
abbrev qG7:Stmt:=top 42
abbrev qy7:Stmt:=top 43
abbrev Gm:Stmt:=top 44
set_option genInjectivity false in
set_option genSizeOf false in
structure Adr where
 f0:Addr
 d0:FuncData
 f1:Addr
 d1:FuncData
 f2:Addr
 d2:FuncData
 f3:Addr
 d3:FuncData
 f4:Addr
 d4:FuncData
 f5:Addr
 d5:FuncData
 f6:Addr
 d6:FuncData
 f7:Addr
 d7:FuncData
 f8:Addr
 d8:FuncData
 f9:Addr
 d9:FuncData
 f10:Addr
 d10:FuncData
 f11:Addr
 d11:FuncData
 f12:Addr
 d12:FuncData
 f13:Addr
 d13:FuncData
 f14:Addr
 d14:FuncData
 f15:Addr
 d15:FuncData
 f16:Addr
 d16:FuncData
 f17:Addr
 d17:FuncData
 f18:Addr
 d18:FuncData
 f19:Addr
 d19:FuncData
 f20:Addr
 d20:FuncData
 f21:Addr
 d21:FuncData
 f22:Addr
 d22:FuncData
 f23:Addr
 d23:FuncData
 f24:Addr
 d24:FuncData
 f25:Addr
 d25:FuncData
 f26:Addr
 d26:FuncData
 f27:Addr
 d27:FuncData
 f28:Addr
 d28:FuncData
 f29:Addr
 d29:FuncData
 f30:Addr
 d30:FuncData
 f31:Addr
 d31:FuncData
 f32:Addr
 d32:FuncData
 f33:Addr
 d33:FuncData
 f34:Addr
 d34:FuncData
 f35:Addr
 d35:FuncData
 f36:Addr
 d36:FuncData
 f37:Addr
 d37:FuncData
 f38:Addr
 d38:FuncData
 f39:Addr
 d39:FuncData
 f40:Addr
 d40:FuncData
 Cd:Tok
 Ci:Tok
 Cf:Tok
 Ck:Tok
 C4:Addr
 Ca:Addr
 C7:Addr
 C6:Addr
structure Txt(K:PySem.W.Frag)(mg:Str->Option Value)(a:Adr):Prop where
 d0:Df K mg "_wall" "_wall" qah0 a.f0 a.d0 ["k"]
 d1:Md K a.C7 "__init__" "Wrong.__init__" qk7 a.f1 a.d1 ["self", "at"]
 d2:Md K a.C6 "__init__" "NoRoom.__init__" qi4 a.f2 a.d2 ["self", "room"]
 d3:Df K mg "is_whole" "is_whole" qr7 a.f3 a.d3 ["thing"]
 d4:Df K mg "is_whole_within" "is_whole_within" qe4 a.f4 a.d4 ["thing", "least", "most"]
 d5:Df K mg "is_number" "is_number" qn3 a.f5 a.d5 ["thing"]
 d6:Df K mg "are_parted" "are_parted" qk6 a.f6 a.d6 ["numbers"]
 d7:Df K mg "is_key_list" "is_key_list" qi3 a.f7 a.d7 ["thing"]
 d8:Df K mg "is_number_pair" "is_number_pair" qf0 a.f8 a.d8 ["thing"]
 d9:Df K mg "is_home_list" "is_home_list" qg9 a.f9 a.d9 ["thing"]
 d10:Md K a.C4 "__init__" "Plan.__init__" qn6 a.f10 a.d10 ["self", "rooms", "wraps", "homes"]
 d11:Md K a.C4 "is_room" "Plan.is_room" qh2 a.f11 a.d11 ["self", "thing"]
 d12:Md K a.C4 "rooms_on" "Plan.rooms_on" qf8 a.f12 a.d12 ["self", "first", "many"]
 d13:Md K a.C4 "home" "Plan.home" qn7 a.f13 a.d13 ["self", "key"]
 d14:Md K a.C4 "far" "Plan.far" qs0 a.f14 a.d14 ["self", "key", "room"]
 d15:Md K a.C4 "goes_ahead" "Plan.goes_ahead" qe5 a.f15 a.d15 ["self", "room", "one", "other"]
 d16:Df K mg "refuse_wrong" "refuse_wrong" qg7 a.f16 a.d16 ["plan", "keys"]
 d17:Df K mg "are_crowd" "are_crowd" qn5 a.f17 a.d17 ["plan", "keys", "room"]
 d18:Df K mg "is_crowd" "is_crowd" qr8 a.f18 a.d18 ["plan", "keys", "room"]
 d19:Df K mg "crowded_room" "crowded_room" qh1 a.f19 a.d19 ["plan", "keys"]
 d20:Df K mg "refuse_crowd" "refuse_crowd" qg8 a.f20 a.d20 ["plan", "keys"]
 d21:Df K mg "bring_in" "bring_in" qr9 a.f21 a.d21 ["plan", "rooms", "key"]
 d22:Df K mg "house_all" "house_all" qn4 a.f22 a.d22 ["plan", "keys"]
 d23:Df K mg "housed_rooms" "housed_rooms" qh0 a.f23 a.d23 ["plan", "keys"]
 d24:Df K mg "rooms_passed" "rooms_passed" qg6 a.f24 a.d24 ["plan", "key", "room"]
 d25:Df K mg "passes_on" "passes_on" qn2 a.f25 a.d25 ["plan", "keys"]
 d26:Df K mg "_law_bag" "_law_bag" qam6 a.f26 a.d26 ["_law_script"]
 d27:Df K mg "_law_take" "_law_take" qS9 a.f27 a.d27 ["_law_bag_here", "_law_many"]
 d28:Df K mg "_law_case" "_law_case" qT2 a.f28 a.d28 ["_law_bag_here", "_law_most"]
 d29:Df K mg "_law_key" "_law_key" qam4 a.f29 a.d29 ["_law_bag_here", "_law_rooms", "_law_home_here"]
 d30:Df K mg "_law_keys" "_law_keys" qT0 a.f30 a.d30 ["_law_bag_here", "_law_case_here", "_law_many"]
 d31:Df K mg "_law_home" "_law_home" qT1 a.f31 a.d31 ["_law_case_here", "_law_key_here"]
 d32:Df K mg "_law_far" "_law_far" qam5 a.f32 a.d32 ["_law_case_here", "_law_key_here", "_law_room"]
 d33:Df K mg "_law_ahead" "_law_ahead" qG9 a.f33 a.d33 ["_law_case_here", "_law_room", "_law_one", "_law_other"]
 d34:Df K mg "_law_put" "_law_put" qam3 a.f34 a.d34 ["_law_case_here", "_law_rooms", "_law_key_here"]
 d35:Df K mg "_law_housed" "_law_housed" qy8 a.f35 a.d35 ["_law_case_here", "_law_keys_here"]
 d36:Df K mg "_law_crowd" "_law_crowd" qG8 a.f36 a.d36 ["_law_case_here", "_law_keys_here", "_law_room"]
 d37:Df K mg "_law_refused" "_law_refused" qs1 a.f37 a.d37 ["_law_asked", "_law_plan", "_law_keys_here"]
 d38:Df K mg "_law_wrong" "_law_wrong" qG7 a.f38 a.d38 ["_law_plan", "_law_keys_here", "_law_room"]
 d39:Df K mg "_law_others" "_law_others" qy7 a.f39 a.d39 ["_law_bag_here", "_law_plan", "_law_case_here", "_law_keys_here"]
 d40:Df K mg "law" "law" Gm a.f40 a.d40 ["_law_script"]
 Cv:mg "MOST_NUMBER" = some (.int 1000000000000000000 a.Cd)
 D0:mg "MOST_ROOMS" = some (.int 64 a.Ci)
 Cz:mg "MOST_HOMES" = some (.int 64 a.Cf)
 D5:mg "MOST_KEYS" = some (.int 100 a.Ck)
 Dw:mg "abs" = none
 Dp:mg "all" = none
 Cy:mg "bool" = none
 Dk:mg "dict" = none
 D4:mg "enumerate" = none
 Dq:mg "int" = none
 C9:mg "isinstance" = none
 Cp:mg "len" = none
 Cn:mg "list" = none
 Ch:mg "range" = none
 Dx:mg "set" = none
 Da:mg "tuple" = none
 C5:Cl K mg "Plan" a.C4
 Do:Mk K a.C4 a.f10
 C8:qd5 K a.C4 "rooms"
 Cg:qd5 K a.C4 "wraps"
 Cr:qd5 K a.C4 "homes"
 Ce:qd5 K a.C4 "home_numbers"
 Dn:IsO K a.C4
 Ct:mg "HomeError" = some (.ref a.Ca)
 Cs:Exc K a.Ca
 Dm:W.kitOne K (.ref a.Ca) (.type "ValueError")=some true
 D1:W.mroIn K a.Ca (.ref a.Ca)=some true
 Db:W.mroIn K a.Ca (.ref a.C7)=some false
 D8:W.mroIn K a.Ca (.ref a.C6)=some false
 Cc:mg "Wrong" = some (.ref a.C7)
 D6:Exc K a.C7
 Du:W.kitOne K (.ref a.C7) (.type "ValueError")=some true
 Cb:MkE K a.C7 a.f1
 Cu:qd5 K a.C7 "at"
 Dv:IsX K a.C7
 D9:W.kitOne K (.ref a.C7) (.ref a.Ca)=some true
 Dg:W.kitOne K (.ref a.C7) (.ref a.C6)=some false
 Cq:W.mroIn K a.C7 (.ref a.Ca)=some true
 Dl:W.mroIn K a.C7 (.ref a.C7)=some true
 Dj:W.mroIn K a.C7 (.ref a.C6)=some false
 D3:mg "NoRoom" = some (.ref a.C6)
 De:Exc K a.C6
 Dt:W.kitOne K (.ref a.C6) (.type "ValueError")=some true
 Dc:MkE K a.C6 a.f2
 Cm:qd5 K a.C6 "room"
 Cw:IsX K a.C6
 D7:W.kitOne K (.ref a.C6) (.ref a.Ca)=some true
 Co:W.kitOne K (.ref a.C6) (.ref a.C7)=some false
 Cj:W.mroIn K a.C6 (.ref a.Ca)=some true
 Di:W.mroIn K a.C6 (.ref a.C7)=some false
 Dh:W.mroIn K a.C6 (.ref a.C6)=some true
section
variable{P:Program}{w:World}{K:PySem.W.Frag}{mg:Str->Option Value}{base:Heap}{a:Adr}
theorem qC2:qa9 ["self", "at"] ["self", "at"] (qa3 qk7):=by walk_at "s"
theorem qb2(T:Txt K mg a):Bi P w K mg base CX0 1 a.f1 a.d1 ["self", "at"] (spX1 a.C7 "at"):=by
 refine T.d1.F.ok qC2 (λ vs H Q E h=>?_) (λ cdv A outer s H vs Q E hr h=>?_)
 . obtain⟨e,v,rfl,_⟩:=h
   rfl
 obtain⟨e,v,rfl,he,k⟩:=h;exact⟨_,(qo9 (qah7 (pv 0) (pv 1))),_,rfl,_,rfl,e,a.C7,rfl,T.D6,T.Cu,.inl ⟨he,λ dx h1 h2=>k dx h1 h2⟩⟩
theorem qP1:qa9 ["thing"] ["thing"] (qa3 qr7):=by walk_at "s"
def qO8:VSp:=Br (fx1 λ x=>x.kind.map λ _=>.bl x.whole)
theorem qP7(T:Txt K mg a):VFn P w K mg base 1 a.f3 a.d3 ["thing"] qO8:=by
 refine VFn.mk' T.d3.F qP1 (wOf [true]) qq9 (λ _ _ _=>qW6) (λ _ _ _=>imm1) (λ cdv A outer sh H E av hr=>⟨_,(Af (Am (qa4 (Ik (vbi qi9 qE1.ops T.C9 (qa2 (vnm 0) (qa2 (vty "int" T.Dq) qa7 rfl) rfl)) (Gv (vnot (vbi qi9 qE1.ops T.C9 (qa2 (vnm 0) (qa2 (vty "bool" T.Cy) qa7 rfl) rfl)))))))),λ ds Q xe h=>?_⟩);obtain⟨x,d,rfl,e,q⟩:=Iz h;obtain⟨t,ht,rfl⟩:=zAm.mp e;cases x<;>first | exact q | cases ht
theorem qn0:qa9 ["thing", "least", "most"] ["thing", "least", "most"] (qa3 qe4):=by walk_at "s"
def qm8:VSp:=Br (fx3 λ x l m=>x.kind.bind λ _=>l.asI.bind λ i=>m.asI.map λ j=>.bl (x.within i j))
theorem qd8(T:Txt K mg a):VFn P w K mg base 2 a.f4 a.d4 ["thing", "least", "most"] qm8:=by
 refine VFn.mk' T.d4.F qn0 (wOf [true,true,true]) qq9 (λ _ _ _=>qaA6) (λ _ _ _=>imm3) (λ cdv A outer sh H E av hr=>⟨_,(Af (Am (Gu (Ah T.d3 (qP7 T) qa0 (rm hr) (vaN 0 Aa)) (Ij (qa4 (vch Hr Ie Hr Ie (vnm 1) (vnm 0) (vnm 2))))))),λ ds Q xe h=>?_⟩);obtain⟨x,l,m,d,rfl,e,q⟩:=pure3 h;obtain⟨t,ht,e⟩:=zA1.mp e;obtain⟨i,hi,e⟩:=zA1.mp e;obtain⟨j,hj,rfl⟩:=zAm.mp e;cases l<;>cases hi
 cases m<;>cases hj
 cases x with
 | int n =>
   refine⟨rfl,?_⟩;show orF (f3 gLe gLe (rdN 1) (rdN 0) (rdN 2) [.int n,.int i,.int j]) _;have e3:f3 gLe gLe (rdN 1) (rdN 0) (rdN 2) [.int n,.int i,.int j]=some (.bl (decide (i<=n)&&decide (n<=j))):=by
     show (if decide (i<=n)=true then some (D.bl (decide (n<=j))) else some (.bl false))=_;cases decide (i<=n)<;>rfl
   rw[e3];exact q
 | _=>first | exact⟨rfl,q⟩ | cases ht
theorem qC1:qa9 ["numbers"] ["numbers"] (qa3 qk6):=by walk_at "s"
def qB9:VSp:=A5 λ ds d=>∃ z ks,ds=[.lst z (ksD ks)]/\ks.length<=1000/\d=.bl (decide ks.Nodup)
theorem qp0(T:Txt K mg a):VFn P w K mg base 1 a.f6 a.d6 ["numbers"] qB9:=by
 refine VFn.mk2 T.d6.F qC1 (wOf [true]) qc2 (λ ds Q xe h=>by obtain⟨d,⟨z,ks,e,_⟩,_⟩:=h;rw[e];exact⟨rfl,rfl⟩) (λ cdv A outer sh H E av hr=>⟨_,(Af (Am (qa4 (v2 (Au (qi5 hr.u64) (qb0 _)) Bd (vlenS T.Cp T.Dx (vnm 0)) (vbi qB3 qB2.ops T.Cp (qa2 (vnm 0) qa7 rfl)))))),λ ds Q xe h=>?_⟩);obtain⟨d,⟨z,ks,rfl,hl,rfl⟩,q⟩:=h;have e1:f1 Ha (rdN 0) [.lst z (ksD ks)]=some (.int (qi8 ks)):=by
   show ((intsD (ksD ks)).bind λ ns=>gd (ns.length<=1000) (.int (qi8 ns)))=_;rw[qaj3];exact qk8 hl
 have e2:f2 gEq (f1 Ha (rdN 0)) (Ax (fx1 Gr) (Aw (rdN 0) λ x=>some [])) [.lst z (ksD ks)]=some (.bl (decide ks.Nodup)):=by
   show ((f1 Ha (rdN 0) [.lst z (ksD ks)]).bind λ x=>gEq x (.int (ksD ks).length))=_;rw[e1,qi1];show some (D.bl ((qi8 ks:Int) == (ks.length:Int)))=_
   have:=qJ2 ks
   by_cases h:ks.Nodup
   . rw[zA8 h,this.mpr h,zBe]
   have hn:¬ ((qi8 ks:Int)=(ks.length:Int)):=λ z=>h (this.mp (by exact_mod_cast z))
   rw[zAp h];simp[hn]
 exact qa1 e2 q
theorem qG3:qa9 ["thing"] ["thing"] (qa3 qn3):=by walk_at "s"
def qk3:VSp:=Br (fx1 λ x=>x.kind.map λ _=>.bl x.num)
theorem qc9(T:Txt K mg a):VFn P w K mg base 3 a.f5 a.d5 ["thing"] qk3:=by
 refine VFn.mk' T.d5.F qG3 (wOf [true]) qq9 (λ _ _ _=>qW6) (λ _ _ _=>imm1) (λ cdv A outer sh H E av hr=>⟨_,(Af (Am (Ah T.d4 (qd8 T) qa0 (rm hr) (vaN 0 (vaV (qa4 Ac) (vaV (qa4 (vgi T.Cv)) Aa)))))),λ ds Q xe h=>?_⟩);obtain⟨x,d,rfl,e,q⟩:=Iz h;obtain⟨t,ht,rfl⟩:=zAm.mp e;cases x<;>first | exact⟨rfl,q⟩ | cases ht
theorem qp8:qa9 ["thing"] ["thing"] (qa3 qf0):=by walk_at "s"
def _root_.LV.D.pairB:D->Bool
 | .tup [x,y]=>x.num&&y.num
 | _=>false
def _root_.LV.D.kinded:D->Bool
 | .tup ds=>(ds.all λ d=>d.kind.isSome&&d.imm)&&decide (ds.length<=1000)
 | _=>true
def qp7:VSp:=Br (fx1 λ x=>if x.kinded=true then x.kind.map λ _=>.bl x.pairB else none)
theorem qq4(T:Txt K mg a):VFn P w K mg base 4 a.f8 a.d8 ["thing"] qp7:=by
 refine VFn.mk' T.d8.F qp8 (wOf [true]) qq9 (λ _ _ _=>qW6) (λ _ _ _=>imm1) (λ cdv A outer sh H E av hr=>⟨_,(Af (Am (Gu (qa4 (vbi qi9 qE1.ops T.C9 (qa2 (vnm 0) (qa2 (vty "tuple" T.Da) qa7 rfl) rfl))) (Gu (qa4 (v2 (Au (qi5 hr.u64) (qb0 _)) Bd (vbi qB3 qB2.ops T.Cp (qa2 (vnm 0) qa7 rfl)) Ac)) (Gu (Ah T.d5 (qc9 T) qa0 (rm hr) (vaV (qc4 (v2 (As qb4) Aj (vnm 0) Ac)) Aa)) (Ij (Ah T.d5 (qc9 T) qa0 (rm hr) (vaV (qc4 (v2 (As qb4) Aj (vnm 0) Ac)) Aa)))))))),λ ds Q xe h=>?_⟩);obtain⟨x,d,rfl,e,q⟩:=Iz h;cases x with
 | tup ds =>
   by_cases hk:(D.tup ds).kinded=true
   . rw[if_pos hk] at e
     cases e;have hk:=zAb.mp hk;have ha:=zB1.mp hk.1
     match ds with
     | []=>exact q
     | [_]=>exact q
     | [x,y] =>
       have hx:=zAb.mp (ha x (by simp));have hy:=zAb.mp (ha y (by simp));obtain⟨t,ht⟩:=zB9.mp hx.1;obtain⟨u,hu⟩:=zB9.mp hy.1;refine⟨hx.2,?_⟩;refine qa1 (a:=D.bl x.num) (by show (x.kind.map _)=_;rw[ht];rfl) ?_;refine ite_b (λ hn=>⟨hy.2,qa1 (a:=D.bl y.num) (by show (y.kind.map _)=_;rw[hu];rfl) ?_⟩) λ hn=>?_
       . have:(D.tup [x,y]).pairB=y.num:=by show (x.num&&y.num)=_;rw[hn];rfl
         rw[this] at q;exact q
       have:(D.tup [x,y]).pairB=false:=by show (x.num&&y.num)=_;rw[hn];rfl
       rw[this] at q;exact q
     | x::y::z::r =>
       have e2:f2 gEq (Ax (fx1 Gr) (Aw (rdN 0) λ x=>some [])) (kC (D.int 2)) [.tup (x::y::z::r)]=some (.bl false):=by
         show some (D.bl (((x::y::z::r).length:Int) == 2))=_
         have:(((x::y::z::r).length:Int) == 2)=false:=by
           have:((x::y::z::r).length:Int)≠2:=by simp;lia
           simpa using this
         rw[this]
       have:orF (f2 gEq (Ax (fx1 Gr) (Aw (rdN 0) λ x=>some [])) (kC (D.int 2)) [.tup (x::y::z::r)]) (λ d=>orF d.asB λ k=>if k=true then Ii (qg5 qk3 [] (tbV (Ee (f2 gIx (rdN 0) (kC (D.int 0)))) A4)) (qg5 qk3 [] (tbV (Ee (f2 gIx (rdN 0) (kC (D.int 1)))) A4)) [.tup (x::y::z::r)] (λ d ds=>Q d (fin (wOf [true]) 0 [.tup (x::y::z::r)] ds)) (λ x1 ds=>xe x1 (fin (wOf [true]) 0 [.tup (x::y::z::r)] ds)) else Q (.bl false) [.tup (x::y::z::r)]):=by
         rw[e2];exact q
       exact this
   rw[if_neg hk] at e;cases e
 | _=>first | (cases e;exact q) | cases e
theorem qu5:qa9 ["thing"] ["thing"] (qa3 qg9):=by walk_at "s"
def Gn:D->Option Int
 | .tup (.int k::_)=>some k
 | _=>none
def _root_.LV.D.homesB:D->Bool
 | .lst _ ys=>decide (ys.length<=64)&&(ys.all D.pairB&&decide (ys.filterMap Gn).Nodup)
 | _=>false
def _root_.LV.D.lstOk(p:D->Bool):D->Bool
 | .lst _ ys=>D.imms ys&&ys.all p&&decide (ys.length<=1000)
 | x=>x.kind.isSome
def Gy(y:D):Bool:=y.kind.isSome&&y.kinded
theorem qaz5(h:x.num=true):∃ n,x=.int n/\Al n:=by
 cases x with
 | int n =>
   have:=zAb.mp h
   exact⟨n,rfl,zAo this.1,zAo this.2⟩
 | _=>cases h
theorem qz6{n:Int}(h:Al n):(D.int n).num=true:=by
 show (decide (0<=n)&&decide (n<=1000000000000000000))=true;rw[zA8 h.1,zA8 h.2];rfl
theorem qay5(h:y.pairB=true):∃ k m,y=.tup [.int k,.int m]/\Al k/\Al m:=by
 cases y with
 | tup ds =>
   match ds,h with
   | [x,y],h =>
     have h:=zAb.mp h;obtain⟨k,rfl,hk⟩:=qaz5 h.1;obtain⟨m,rfl,hm⟩:=qaz5 h.2;exact⟨k,m,rfl,hk,hm⟩
 | _=>cases h
theorem qan6:∀{ys:Ds},ys.all D.pairB=true->∃ ps:Pr,ys=prD ps/\∀ p∈ps,Al p.1/\Al p.2
 | [],_=>⟨[],rfl,λ p h=>by simp at h⟩
 | y::r,h=>by
   rw[List.all_cons,zAv] at h;obtain⟨k,m,rfl,hk,hm⟩:=qay5 h.1;obtain⟨ps,rfl,hp⟩:=qan6 h.2;refine⟨(k,m)::ps,rfl,λ p hp'=>?_⟩;rcases zAc.mp hp' with rfl | hp'
   . exact⟨hk,hm⟩
   exact hp p hp'
theorem qL7:∀ ps:Pr,(prD ps).filterMap Gn=ps.map (·.1)
 | []=>rfl
 | p::r=>by show p.1::(prD r).filterMap Gn=_;rw[qL7 r];rfl
theorem qaE8:∀{ps:Pr},(∀ p∈ps,Al p.1/\Al p.2)->(prD ps).all D.pairB=true
 | [],_=>rfl
 | p::r,h=>by
   show (((D.int p.1).num&&(D.int p.2).num)&&(prD r).all D.pairB)=true;rw[qz6 (h p zAd).1,qz6 (h p zAd).2,qaE8 λ q hq=>h q (zA4 _ hq)];rfl
theorem qaE9:∀ ps:Pr,(prD ps).all Gy=true
 | []=>rfl
 | p::r=>by show (true&&(prD r).all Gy)=true;rw[qaE9 r];rfl
theorem qD2{z:Bool}{ps:Pr}(h:Ic ps):(D.lst z (prD ps)).homesB=true/\(D.lst z (prD ps)).lstOk Gy=true:=by
 have hl:(prD ps).length<=64:=by simpa[prD] using h.len
 constructor
 . show (decide ((prD ps).length<=64)&&((prD ps).all D.pairB&&decide ((prD ps).filterMap Gn).Nodup))=true
   rw[zA8 hl,qaE8 h.nums,qL7,zA8 h.nd];rfl
 show (D.imms (prD ps)&&(prD ps).all Gy&&decide ((prD ps).length<=1000))=true;rw[qM1,qaE9,zA8 (by lia)];rfl
theorem qO2{α:Type}(f:α->Bool):∀ l:List α,bools (l.map λ a=>.bl (f a))=some (l.map f)
 | []=>rfl
 | a::r=>by show (bools (r.map λ a=>D.bl (f a))).map (λ bs=>f a::bs)=_;rw[qO2 f r];rfl
theorem qaF0(f:α->Bool)(l:List α):gAll (.lst false (l.map λ a=>.bl (f a)))=some (.bl (l.all f)):=by
 show (bools (l.map λ a=>D.bl (f a))).map (λ bs=>D.bl (bs.all id))=_;rw[qO2];show some (D.bl ((l.map f).all id))=_;rw[List.all_map];rfl
def qt9:VSp:=A5 λ ds d=>∃ x,ds=[x]/\x.lstOk Gy=true/\d=.bl x.homesB
theorem qv0(T:Txt K mg a):VFn P w K mg base 5 a.f9 a.d9 ["thing"] qt9:=by
 refine VFn.mk2 T.d9.F qu5 (wOf [true]) qc2 (λ ds Q xe ⟨d,⟨x,e,_⟩,_⟩=>by rw[e];exact⟨rfl,rfl⟩) (λ cdv A outer sh H E av hr=>⟨_,(Ab (sif (tor (Bm (tv (vbi qi9 qE1.ops T.C9 (qa2 (vnm 0) (qa2 (vty "list" T.Cn) qa7 rfl) rfl)))) (Gs (q2 (Ap B8 (qb0 _)) Ea (vbi qB3 qB2.ops T.Cp (qa2 (vnm 0) qa7 rfl)) (vgi T.Cz)))).te
     (Af (Am (qa4 vbl)))
     At)
     (Af (Am (Gu (ebi (qO1 rfl) qaE2.ops T.Dp (Eo (vaV (ecN (NY:=["pair"]) (src:=[none]) 0 (blk (λ av C s0 H0 ex=>(A9 0 (show (["pair"]:List Str).Nodup by decide +kernel))) (λ av C s0 H0 ex=>Eu) (λ av C s0 H0 ex=>(Ah T.d8 (qq4 T) qi6 (rm hr) (vaN 0 Aa))))) Aa))) (Ij (Ah T.d6 (qp0 T) qa0 (rm hr) (vaV (ecN (NY:=["pair"]) (src:=[none]) 0 (blk (λ av C s0 H0 ex=>(A9 0 (show (["pair"]:List Str).Nodup by decide +kernel))) (λ av C s0 H0 ex=>Eu) (λ av C s0 H0 ex=>(qc4 (v2 (As qb4) Aj (vnm 0) Ac))))) Aa))))))),λ ds Q xe h=>?_⟩)
 obtain⟨d,⟨x,rfl,hk,rfl⟩,q⟩:=h;cases x with
 | lst z ys =>
   have hk:=zAb.mp hk;have hk1:=zAb.mp hk.1;have hlen:=zAo hk.2;refine ite_b (p:=decide ((64:Int) < (ys.length:Nat))) (λ h=>?_) (λ h=>?_)
   . have hn:¬ ys.length<=64:=by have:=zAo h;lia
     have:(D.lst z ys).homesB=false:=by
       show (decide (ys.length<=64)&&_)=false;rw[zAp hn];rfl
     rw[this] at q;exact q
   have hn:ys.length<=64:=by have:=zBy h;lia
   have hb:(D.lst z ys).homesB=(ys.all D.pairB&&decide (ys.filterMap Gn).Nodup):=by
     show (decide (ys.length<=64)&&_)=_;rw[zA8 hn];rfl
   have hall:=zB1.mp hk1.2;refine⟨hk1.1,?_⟩;refine qh9 (λ ι=>∃ d,ι=[d]) (λ y=>some (.bl y.pairB)) ys [] _ (by show 0+ys.length < big;unfold big;lia) ⟨_,rfl⟩ ?_ ?_
   . rintro y hy ι acc ⟨d,rfl⟩ R hR hacc
     have h1:=zAb.mp (hall y hy);obtain⟨t,ht⟩:=zB9.mp h1.1;refine qZ9 (x:=y) (rd0 (qf1 ht)) (qa1 (a:=D.bl y.pairB) ?_ ?_)
     . show (if y.kinded=true then y.kind.map _ else none)=_
       rw[if_pos h1.2,ht];rfl
     exact⟨hacc,hR _ ⟨_,rfl⟩⟩
   rintro ι ⟨d,rfl⟩;rw[zBk,qae7];refine qa1 (qaF0 D.pairB ys) (ite_b (λ ha=>?_) λ ha=>?_)
   . obtain⟨ps,rfl,hp⟩:=qan6 ha
     refine⟨qM1 ps,qh9 (λ ι=>∃ d,ι=[d]) (λ y=>(Gn y).map .int) (prD ps) [] _ (by show 0+(prD ps).length < big;unfold big;lia) ⟨_,rfl⟩ ?_ ?_⟩
     . rintro y hy ι acc ⟨d,rfl⟩ R hR hacc
       obtain⟨p,hp',rfl⟩:=zB6.mp hy;exact⟨rfl,hacc,hR _ ⟨_,rfl⟩⟩
     rintro ι ⟨d,rfl⟩;have e:[]++(prD ps).filterMap (λ y=>(Gn y).map D.int)=ksD (ps.map (·.1)):=by
       rw[zBk];unfold prD ksD;rw[List.filterMap_map,List.map_map];exact qae7 _ _
     rw[e];rw[hb,ha,qL7] at q;exact⟨_,⟨false,_,rfl,by simp;simp[prD] at hn;lia,rfl⟩,q⟩
   rw[hb,ha] at q;exact q
 | _=>first | exact q | cases hk
theorem qG5:qa9 ["self", "rooms", "wraps", "homes"] ["self", "rooms", "wraps", "homes"] (qa3 qn6):=by walk_at "s"
def _root_.LV.D.isB:D->Bool
 | .bl _=>true
 | _=>false
theorem qai9{z:Bool}{ps:Pr}:Ih (.lst z (prD ps))=some (.lst false (prD ps)):=qk8 (qM1 ps)
theorem qB5{l:Int}(h:x.within l m=true):∃ n,x=.int n/\l<=n/\n<=m:=by
 cases x with
 | int n =>
   have h:(decide (l<=n)&&decide (n<=m))=true:=h;rw[zAv,zAu,zAu] at h;exact⟨n,rfl,h⟩
 | _=>cases h
theorem qae1{h:D}(e:h.homesB=true):∃ z ps,h=.lst z (prD ps)/\Ic ps:=by
 cases h with
 | lst z ys =>
   have e:(decide (ys.length<=64)&&(ys.all D.pairB&&decide (ys.filterMap Gn).Nodup))=true:=e;rw[zAv,zAv,zAu,zAu] at e;obtain⟨ps,rfl,hp⟩:=qan6 e.2.1;rw[qL7] at e;exact⟨z,ps,rfl,⟨by simpa[prD] using e.1,e.2.2,hp⟩⟩
 | _=>cases e
def qF8(C CW:Addr):VSp:=λ ds Q xe=>∃ x y h,ds=[.ins false C [],x,y,h]/\(∃ t,x.kind=some t)/\(∃ t,y.kind=some t)/\h.lstOk Gy=true /\
 (x.within 1 64=false->xe ⟨CW,[("at",.int 0)]⟩ ds)/\(x.within 1 64=true->y.isB=false->xe ⟨CW,[("at",.int 1)]⟩ ds)/\(x.within 1 64=true->y.isB=true->h.homesB=false->xe ⟨CW,[("at",.int 2)]⟩ ds) /\
 ∀ n wr z ps,x=.int n->y=.bl wr->h=.lst z (prD ps)->1<=n->n<=64->Ic ps->Q .non [planD false C n wr ps,.int n,.bl wr,.lst z (prD ps)]
theorem qQ3{h:D}(k:h.lstOk Gy=true):h.known=true:=by
 cases h with
 | unk=>cases k
 | hole v=>cases k
 | _=>rfl
theorem qH6(T:Txt K mg a):VFn P w K mg base 6 a.f10 a.d10 ["self", "rooms", "wraps", "homes"] (qF8 a.C4 a.C7):=by
 refine VFn.mk2 T.d10.F qG5 (wOf [true,true,true,true]) (λ ds Q Q' xe xe' hQ hx h=>by obtain⟨x,y,h,e,h1,h2,h3,q0,q1,q2,q3⟩:=h;exact⟨x,y,h,e,h1,h2,h3,λ a=>hx _ _ (q0 a),λ a b=>hx _ _ (q1 a b),λ a b c=>hx _ _ (q2 a b c),λ n wr z ps a b c d f g=>hQ _ _ (q3 n wr z ps a b c d f g)⟩) (λ ds Q xe ⟨x,y,h,e,_⟩=>by rw[e];exact⟨rfl,rfl⟩) (λ cdv A outer sh H E av hr=>⟨_,(Ab (sif (Bm (te (Ah T.d4 (qd8 T) qa0 (rm hr) (vaN 1 (vaV (qa4 Ac) (vaV (qa4 (vgi T.D0)) Aa))))))
     (Af (qm7 T.Cb (qb2 T) (rm hr) T.Cc T.d1.b qa0 (qa4 Ac)))
     At)
     (Ab (sif (Bm (tv (vbi qi9 qE1.ops T.C9 (qa2 (vnm 2) (qa2 (vty "bool" T.Cy) qa7 rfl) rfl))))
     (Af (qm7 T.Cb (qb2 T) (rm hr) T.Cc T.d1.b qa0 (qa4 Ac)))
     At)
     (Ab (sif (Bm (te (Ah T.d9 (qv0 T) qa0 (rm hr) (vaN 3 Aa))))
     (Af (qm7 T.Cb (qb2 T) (rm hr) T.Cc T.d1.b qa0 (qa4 Ac)))
     At)
     (Ab (sfld rfl (vpn 0) (qc4 (vnm 1)) T.C5.cl T.C8)
     (Ab (sfld rfl (vpn 0) (qc4 (vnm 2)) T.C5.cl T.Cg)
     (Ab (sfld rfl (vpn 0) (qa4 (Fa qd9 qx3.ops T.Cn (qa2 (vnm 3) qa7 rfl))) T.C5.cl T.Cr)
     (Af (sfld rfl (vpn 0) (qa4 (Fa (qE5 rfl) qaj9.ops T.Dk (qa2 (vnm 3) qa7 rfl))) T.C5.cl T.Ce)))))))),λ ds Q xe h=>?_⟩)
 obtain⟨x,y,h,rfl,⟨tx,hx⟩,⟨ty,hy⟩,hh,q0,q1,q2,q3⟩:=h;have kx:=qf1 hx;have ky:=qf1 hy;have kh:=qQ3 hh;refine Aq [.ins false a.C4 [],x,y,h] rfl ?_;refine qX3 (x.within 1 64) (λ Q xe q=>?_) (λ b0=>?_) λ b0=>q0 b0
 . refine qZ7 (qb5 (x:=x) (qb6 rfl kx) (qc0 (y:=.int 1) rfl (qc0 (y:=.int 64) rfl (qd0 ?_))))
   refine qa1 (qb6 rfl kx) (qs3 (d:=.bl (x.within 1 64)) (by show (x.kind.bind λ _=>some (D.bl (x.within 1 64)))=_;rw[hx];rfl) ?_);exact q
 refine qaC2 y.isB ?_ (λ b1=>?_) λ b1=>q1 b0 b1
 . unfold Ax Aw
   rw[qb6 (ds:=[.ins false a.C4 [],x,y,h]) (i:=2) (d:=y) rfl ky];show (y.kind.map λ t=>D.bl (Hx t "bool"))=_;cases y<;>first | rfl | cases hy
 refine qX3 h.homesB (λ Q xe q=>?_) (λ b2=>?_) λ b2=>q2 b0 b1 b2
 . exact qad4 (x:=h) (qb6 rfl kh) ⟨h,rfl,hh,rfl⟩ rfl q
 obtain⟨n,rfl,n1,n2⟩:=qB5 b0;obtain⟨wr,rfl⟩:∃ wr,y=.bl wr:=by cases y<;>first | exact⟨_,rfl⟩ | cases b1
 obtain⟨z,ps,rfl,hp⟩:=qae1 b2;have q:=q3 n wr z ps rfl rfl rfl n1 n2 hp;refine qb9 [.ins false a.C4 [("rooms",.int n)],.int n,.bl wr,.lst z (prD ps)] (λ K hK=>⟨rfl,qa1 (a:=(0,[])) rfl (qa1 qq8 ⟨by decide,hK⟩)⟩) ?_;refine qb9 [.ins false a.C4 [("rooms",.int n),("wraps",.bl wr)],.int n,.bl wr,.lst z (prD ps)] (λ K hK=>⟨rfl,qa1 (a:=(0,[])) rfl (qa1 qq8 ⟨by show 1 < 100;decide,hK⟩)⟩) ?_;refine qb9 [.ins false a.C4 [("rooms",.int n),("wraps",.bl wr),("homes",.lst false (prD ps))],.int n,.bl wr,.lst z (prD ps)] (λ K hK=>?_) ?_
 . refine qa1 (qai9 (z:=z)) ?_
   exact qa1 (a:=(0,[])) rfl (qa1 qq8 ⟨by show 2 < 100;decide,hK⟩)
 refine qa1 (qaj8 (z:=z) hp.nd) ?_;exact qa1 (a:=(0,[])) rfl (qa1 qq8 ⟨by show 3 < 100;decide,q⟩)
theorem qy3:qa9 ["thing"] ["thing"] (qa3 qi3):=by walk_at "s"
theorem qap2(h:(D.int k).num=true):Al k:=by
 have h:(decide (0<=k)&&decide (k<=1000000000000000000))=true:=h;rw[zAv,zAu,zAu] at h;exact h
def _root_.LV.D.keyL:D->Bool
 | .lst _ ys=>decide (ys.length<=100)&&(ys.all D.num&&decide (ys.filterMap D.asI).Nodup)
 | _=>false
def okK(y:D):Prop:=(∃ t,y.kind=some t)/\∀ z ys,y=.lst z ys->D.imms ys=true/\ys.length<=1000/\∀ x∈ys,∃ t,x.kind=some t
theorem qaj2:∀{ys:Ds},ys.all D.num=true->ys=ksD (ys.filterMap D.asI)/\∀ k∈ys.filterMap D.asI,Al k
 | [],_=>⟨rfl,λ _ h=>by simp at h⟩
 | y::ys,h=>by
   obtain⟨h1,h2⟩:=zAb.mp (show (y.num&&ys.all D.num)=true from h);obtain⟨e,hk⟩:=qaj2 h2;cases y with
   | int k =>
     refine⟨?_,λ x hx=>?_⟩
     . show D.int k::ys=D.int k::ksD (ys.filterMap D.asI)
       rw[<- e]
     rcases zAc.mp (show x∈k::ys.filterMap D.asI from hx) with rfl | hx
     . exact qap2 h1
     exact hk x hx
   | _=>cases h1
theorem fm_ks:∀ ks:List Int,(ksD ks).filterMap D.asI=ks
 | []=>rfl
 | k::r=>congrArg (k::·) (fm_ks r)
theorem qL6{z:Bool}:(D.lst z (ksD ks)).keyL=(decide (ks.length<=100)&&((ksD ks).all D.num&&decide ks.Nodup)):=by
 show (decide ((ksD ks).length<=100)&&((ksD ks).all D.num&&decide ((ksD ks).filterMap D.asI).Nodup))=_;rw[fm_ks,qi1]
def qx8:VSp:=A5 λ ds d=>∃ x,ds=[x]/\okK x/\d=.bl x.keyL
theorem qz3(T:Txt K mg a):VFn P w K mg base 4 a.f7 a.d7 ["thing"] qx8:=by
 refine VFn.mk2 T.d7.F qy3 (wOf [true]) qc2 (λ ds Q xe ⟨d,⟨x,e,_⟩,_⟩=>by rw[e];exact⟨rfl,rfl⟩) (λ cdv A outer sh H E av hr=>⟨_,(Ab (sif (tor (Bm (tv (vbi qi9 qE1.ops T.C9 (qa2 (vnm 0) (qa2 (vty "list" T.Cn) qa7 rfl) rfl)))) (Gs (q2 (Ap B8 (qb0 _)) Ea (vbi qB3 qB2.ops T.Cp (qa2 (vnm 0) qa7 rfl)) (vgi T.D5)))).te
     (Af (Am (qa4 vbl)))
     At)
     (Af (Am (Gu (ebi (qO1 rfl) qaE2.ops T.Dp (Eo (vaV (ecN (NY:=["key"]) (src:=[none]) 0 (blk (λ av C s0 H0 ex=>(A9 0 (show (["key"]:List Str).Nodup by decide +kernel))) (λ av C s0 H0 ex=>Eu) (λ av C s0 H0 ex=>(Ah T.d5 (qc9 T) qi6 (rm hr) (vaN 0 Aa))))) Aa))) (Ij (Ah T.d6 (qp0 T) qa0 (rm hr) (vaN 0 Aa))))))),λ ds Q xe h=>?_⟩)
 obtain⟨d,⟨x,rfl,⟨⟨t,ht⟩,hx⟩,rfl⟩,q⟩:=h;cases x with
 | lst z ys =>
   obtain⟨hi,hl,hk⟩:=hx z ys rfl;refine Aq [.lst z ys] rfl ?_;have hg:f2 gGt (Ax (fx1 Gr) (Aw (rdN 0) λ _=>some [])) (kC (D.int 100)) [.lst z ys]=some (.bl (decide ((100:Int) < (ys.length:Nat)))):=Ad (qI2 rfl) rfl rfl;refine qe2 (decide ((100:Int) < (ys.length:Nat))) (λ Q q=>qv8 false (decide ((100:Int) < (ys.length:Nat))) (λ Q q=>qc6 (qar0 rfl) q) (λ _ Q q=>qi0 hg q) q) (λ h=>?_) λ h=>qp9 ?_
   . have hn:¬ ys.length<=100:=by have:=zAo h;lia
     have:(D.lst z ys).keyL=false:=by
       show (decide (ys.length<=100)&&_)=false;rw[zAp hn];rfl
     rw[this] at q;exact q
   have hn:ys.length<=100:=by have:=zBy h;lia
   refine⟨hi,?_⟩;refine qh9 (λ ι=>∃ d,ι=[d]) (λ y=>some (.bl y.num)) ys [] _ (by show 0+ys.length < big;unfold big;lia) ⟨_,rfl⟩ ?_ ?_
   . rintro y hy ι acc ⟨d,rfl⟩ R hR hacc
     obtain⟨t',ht'⟩:=hk y hy;exact qZ9 (x:=y) (rd0 (qf1 ht')) (qs3 (d:=.bl y.num) (by show y.kind.map _=_;rw[ht'];rfl) ⟨hacc,hR _ ⟨_,rfl⟩⟩)
   rintro ι ⟨d,rfl⟩;rw[zBk,qae7];refine qa1 (qaF0 D.num ys) (ite_b (λ ha=>?_) λ ha=>?_)
   . obtain⟨ks,rfl⟩:∃ ks,ys=ksD ks:=⟨_,(qaj2 ha).1⟩
     rw[qL6,ha] at q;rw[qi1] at hn;rw[zA8 hn] at q;exact qad4 (x:=.lst z (ksD ks)) rfl ⟨z,ks,rfl,by lia,rfl⟩ rfl q
   have:(D.lst z ys).keyL=false:=by
     show (_&&(ys.all D.num&&_))=false;rw[ha,Bool.false_and,zBi]
   rw[this] at q;exact q
 | _=>first | exact q | cases ht
theorem qu4:qa9 ["plan", "keys"] ["plan", "keys"] (qa3 qg7):=by walk_at "s"
def qau0(C CW:Addr)(G:Ds->DK->Prop):VSp:=λ ds Q xe=>∃ x y bp,ds=[x,y]/\x.isC C=some (.bl bp)/\y.known=true/\(bp=false->xe ⟨CW,[("at",.int 0)]⟩ ds)/\(bp=true->okK y/\(y.keyL=false->xe ⟨CW,[("at",.int 1)]⟩ ds)/\(y.keyL=true->G ds Q))
theorem qV7{C:Addr}{G:Ds->DK->Prop}(h:∀ ds (Q Q':DK),(∀ d ds',Q d ds'->Q' d ds')->G ds Q->G ds Q'):Be (qau0 C CW G) :=
 λ ds Q Q' xe xe' hQ hx ⟨x,y,bp,e,h1,h0,h2,h3⟩=>⟨x,y,bp,e,h1,h0,λ b=>hx _ _ (h2 b),λ b=>⟨(h3 b).1,λ k=>hx _ _ ((h3 b).2.1 k),λ k=>h _ _ _ hQ ((h3 b).2.2 k)⟩⟩
def qt7(C CW:Addr):VSp:=qau0 C CW λ ds Q=>Q .non ds
theorem qj9(T:Txt K mg a):VFn P w K mg base 5 a.f16 a.d16 ["plan", "keys"] (qt7 a.C4 a.C7):=by
 refine VFn.mk2 T.d16.F qu4 (wOf [true,true]) (qV7 λ ds Q Q' h q=>h _ _ q) (λ ds Q xe ⟨x,y,bp,e,_⟩=>by rw[e];exact⟨rfl,rfl⟩) (λ cdv A outer sh H E av hr=>⟨_,(Ab (sif (Bm (tv (vbi (qat3 T.Dn T.C5.cl) qaM7.ops T.C9 (qa2 (vnm 0) (qa2 (vcls a.C4 T.C5.m) qa7 rfl) rfl))))
     (Af (qm7 T.Cb (qb2 T) (rm hr) T.Cc T.d1.b qa0 (qa4 Ac)))
     At)
     (Af (sif (Bm (te (Ah T.d7 (qz3 T) qa0 (rm hr) (vaN 1 Aa))))
     (Af (qm7 T.Cb (qb2 T) (rm hr) T.Cc T.d1.b qa0 (qa4 Ac)))
     At))),λ ds Q xe h=>?_⟩)
 obtain⟨x,y,bp,rfl,hC,hy,h0,h1⟩:=h;have hx:=qm1 hC;refine Aq [x,y] rfl ?_;have hO:Ax (fx2 (gIsO a.C4)) (Aw (rdN 0) (Aw (kC (D.adr a.C4)) λ _=>some [])) [x,y]=some (.bl bp):=by
   unfold Ax Aw;rw[rd0 hx];show (if a.C4=a.C4 then x.isC a.C4 else none)=_;rw[if_pos rfl,hC]
 cases bp with
 | false =>
   exact qaw3 hO (h0 rfl)
 | true =>
   obtain⟨hk,hF,hT⟩:=h1 rfl;refine qaC1 hO ?_;cases hb:y.keyL with
   | true=>exact qX2 (λ Q xe q=>qad4 (x:=y) (qb6 rfl hy) ⟨y,rfl,hk,by rw[hb]⟩ rfl q) (hT hb)
   | false=>exact qT6 (λ Q xe q=>qad4 (x:=y) (qb6 rfl hy) ⟨y,rfl,hk,by rw[hb]⟩ rfl q) (hF hb)
theorem qy4:qa9 ["self", "room"] ["self", "room"] (qa3 qi4):=by walk_at "s"
theorem qz4(T:Txt K mg a):Bi P w K mg base CX0 1 a.f2 a.d2 ["self", "room"] (spX1 a.C6 "room"):=by
 refine T.d2.F.ok qy4 (λ vs H Q E h=>?_) (λ cdv A outer s H vs Q E hr h=>?_)
 . obtain⟨e,v,rfl,_⟩:=h
   rfl
 obtain⟨e,v,rfl,he,k⟩:=h;exact⟨_,(qo9 (qah7 (pv 0) (pv 1))),_,rfl,_,rfl,e,a.C6,rfl,T.De,T.Cm,.inl ⟨he,λ dx h1 h2=>k dx h1 h2⟩⟩
theorem qG6:qa9 ["self", "key"] ["self", "key"] (qa3 qn7):=by walk_at "s"
def qF9(C:Addr):VSp:=A5 λ ds d=>∃ z n wr ps k,ds=[planD z C n wr ps,.int k]/\1<=n/\Al k/\d=.int (qc1 n ps k)
theorem qX6{z:Bool}{ps:Pr}(h:fa ds=some (.dct z (kvD ps)))(hk:rdN i ds=some (.int k)):fget fa (rdN i) (rdN i) ds=some (.int ((ps.lookup k).getD k)):=by
 unfold fget;rw[h,hk];show gd (((Eb (kvD ps) (.inl k)).getD (.int k)).imm=true) ((Eb (kvD ps) (.inl k)).getD (.int k))=_;rw[qag4];cases ps.lookup k<;>rfl
theorem qaA1{x n:Int}(h:1<=n):Hg (.int x) (.int n)=some (.int (x % n)):=qk8 (zA8 (by lia))
theorem qh6(T:Txt K mg a):VFn P w K mg base 4 a.f13 a.d13 ["self", "key"] (qF9 a.C4):=by
 refine VFn.mk2 T.d13.F qG6 (wOf [true,true]) qc2 (λ ds Q xe h=>by obtain⟨d,⟨z,n,wr,ps,k,e,_⟩,_⟩:=h;rw[e];exact⟨rfl,rfl⟩) (λ cdv A outer sh H E av hr=>⟨_,(Ab (sif (Bm (te (Ah T.d5 (qc9 T) qa0 (rm hr) (vaN 1 Aa))))
     (Af (qm7 T.Cb (qb2 T) (rm hr) T.Cc T.d1.b qa0 (qa4 Ac)))
     At)
     (Af (Am (qa4 (v2 (Ag qh5) qh3 (vget (hu_of hr) (Ec rfl (vnm 0) T.C5.cl T.Ce) (vnm 1) (vnm 1) ⟨rfl,rfl,rfl,rfl⟩) (Ec rfl (vnm 0) T.C5.cl T.C8)))))),λ ds Q xe h=>?_⟩)
 obtain⟨d,⟨z,n,wr,ps,k,rfl,h1,hk,rfl⟩,q⟩:=h;have key:orF (f2 Hg (fget (f1 (D.fld a.C4 "home_numbers") (rdN 0)) (rdN 1) (rdN 1)) (f1 (D.fld a.C4 "rooms") (rdN 0)) [planD z a.C4 n wr ps,.int k]) (λ d=>Q d [planD z a.C4 n wr ps,.int k]):=qa1 (Ad (qX6 (Bs rfl qQ5) rfl) (Bs rfl qd4) (qaA1 h1)) q;exact qZ9 rfl (qs3 (d:=D.bl true) (by show some (D.bl (D.int k).num)=_;rw[qz6 hk]) (qa1 rfl (qa1 (a:=true) rfl key)))
theorem qG4:qa9 ["plan", "keys", "room"] ["plan", "keys", "room"] (qa3 qn5):=by walk_at "s"
def qF7(C:Addr):VSp:=A5 λ ds d=>∃ z n wr ps z' ks r,ds=[planD z C n wr ps,.lst z' (ksD ks),.int r]/\1<=n/\(∀ k∈ks,Al k)/\ks.length<=1000/\d=.bl (if wr=true then decide (r=0)&&decide (n < (ks.length:Int)) else decide (n - r < ((ks.filter λ k=>decide (r<=qc1 n ps k)).length:Int)))
theorem qs4(T:Txt K mg a):VFn P w K mg base 5 a.f17 a.d17 ["plan", "keys", "room"] (qF7 a.C4):=by
 refine VFn.mk2 T.d17.F qG4 (wOf [true,true,true]) qc2 (λ ds Q xe h=>by obtain⟨d,⟨z,n,wr,ps,z',ks,r,e,_⟩,_⟩:=h;rw[e];exact⟨rfl,rfl⟩) (λ cdv A outer sh H E av hr=>⟨_,(Ab (sif (tv (Ec rfl (vnm 0) T.C5.cl T.Cg))
     (Af (Am (qa4 (Ik (v2 (Au (qi5 hr.u64) (qb0 _)) Bd (vnm 2) Ac) (Gv (v2 (Au B8 (qb0 _)) Ea (vbi qB3 qB2.ops T.Cp (qa2 (vnm 1) qa7 rfl)) (Ec rfl (vnm 0) T.C5.cl T.C8)))))))
     At)
     (Af (Am (e2v (Au B8 (qb0 _)) Ea (ebi qB3 qB2.ops T.Cp (Eo (vaV (ecN (NY:=["key", "room", "plan"]) (src:=[none,some 2,some 0]) 1 (blk (λ av C s0 H0 ex=>(A9 0 (show (["key", "room", "plan"]:List Str).Nodup by decide +kernel))) (λ av C s0 H0 ex=>(Iu (q2v (Au Fg (qb0 _)) (Ap Fg (qb0 _)) G3 (qq6 2 T.d13 T.C5.cl (qh6 T) qi6 (rm hr) (vaN 0 Aa)) (vnm 1)))) (λ av C s0 H0 ex=>(qc4 (vnm 0))))) Aa))) (v2 (Ag qq3) qq2 (Ec rfl (vnm 0) T.C5.cl T.C8) (vnm 2)))))),λ ds Q xe h=>?_⟩)
 obtain⟨d,⟨z,n,wr,ps,z',ks,r,rfl,h1,hk,hl,rfl⟩,q⟩:=h;refine Aq [planD z a.C4 n wr ps,.lst z' (ksD ks),.int r] rfl ?_;refine qm2 wr (Bs rfl qA8) (λ h=>?_) λ h=>?_
 . rw[if_pos h] at q
   have hl2:f2 gGt (Ax (fx1 Gr) (Aw (rdN 1) λ _=>some [])) (f1 (D.fld a.C4 "rooms") (rdN 0)) [planD z a.C4 n wr ps,.lst z' (ksD ks),.int r]=some (.bl (decide (n < (ks.length:Int)))):=Ad (qI2 rfl) (Bs rfl qd4) (by rw[qi1];rfl);exact qg0 _ (qN1 (a:=decide (r=0)) rfl hl2) q
 rw[if_neg (by rw[h];decide)] at q;refine qp9 ?_;refine⟨qf2 ks,?_⟩;refine qh9 (λ ι=>∃ d,ι=[d,.int r,planD z a.C4 n wr ps]) (E9 λ k=>decide (r<=qc1 n ps k)) (ksD ks) [] _ (by show 0+(ksD ks).length < big;rw[qi1];unfold big;lia) ⟨_,rfl⟩ ?_ ?_
 . rintro y hy ι acc ⟨d,rfl⟩ R hR hacc
   obtain⟨k,hk',rfl⟩:=zB6.mp hy;refine qH9 (p:=planD z a.C4 n wr ps) (x:=.int k) (d:=.int (qc1 n ps k)) rfl (qe6 rfl) rfl rfl ⟨z,n,wr,ps,k,rfl,h1,hk k hk',rfl⟩ rfl ?_;have this:=hR _ ⟨.int k,rfl⟩;refine qa1 (a:=D.bl (decide (r<=qc1 n ps k))) rfl (qa1 (a:=decide (r<=qc1 n ps k)) rfl (ite_b (λ h=>?_) λ h=>?_))
   . rw[qW9 (p:=λ k=>decide (r<=qc1 n ps k)) h] at this
     exact⟨rfl,hacc,this⟩
   rw[qX0 (p:=λ k=>decide (r<=qc1 n ps k)) h] at this;have this:R (acc++[]) _:=this;rw[zA9] at this;exact this
 rintro ι ⟨d,rfl⟩;rw[zBk,qA3];refine qa1 (a:=D.bl (decide (n - r < ((ks.filter λ k=>decide (r<=qc1 n ps k)).length:Int)))) ?_ q;show (f2 gSub (f1 (D.fld a.C4 "rooms") (rdN 0)) (rdN 2) [planD z a.C4 n wr ps,.lst z' (ksD ks),.int r]).bind (gGt (D.int ((ksD (ks.filter λ k=>decide (r<=qc1 n ps k))).length:Nat)))=_;rw[Ad (Bs rfl qd4) rfl rfl,qi1];rfl
theorem qj7:qa9 ["plan", "keys", "room"] ["plan", "keys"] (qa3 qh1):=by walk_at "s"
def qf4(n:Int)(wr:Bool)(ps:Pr)(ks:List Int)(r:Int):Bool:=if wr=true then decide (r=0)&&decide (n < (ks.length:Int)) else decide (n - r < ((ks.filter λ k=>decide (r<=qc1 n ps k)).length:Int))
def qx4(n:Int)(wr:Bool)(ps:Pr)(ks:List Int):Option Nat:=(List.range n.toNat).find? λ r=>qf4 n wr ps ks (r:Int)
def natD:Option Nat->D
 | none=>.non
 | some k=>.int (k:Int)
def qu1(C:Addr):VSp:=A5 λ ds d=>∃ z n wr ps z' ks,ds=[planD z C n wr ps,.lst z' (ksD ks)]/\1<=n/\n<=64/\(∀ k∈ks,Al k)/\ks.length<=1000/\d=natD (qx4 n wr ps ks)
theorem qv1(T:Txt K mg a):VFn P w K mg base 6 a.f19 a.d19 ["plan", "keys"] (qu1 a.C4):=by
 refine VFn.mk2 T.d19.F qj7 (wOf [true,true]) qc2 (λ ds Q xe h=>by obtain⟨d,⟨z,n,wr,ps,z',ks,e,_⟩,_⟩:=h;rw[e];exact⟨rfl,rfl⟩) (λ cdv A outer sh H E av hr=>⟨_,(Ab (qS6 PassesOwn.leaving T.Ch (Eo (vaV (qc4 (Ec rfl (vnm 0) T.C5.cl T.C8)) Aa)) (A9 2 qj7.nd)
     (Af (sif (te (Ah T.d17 (qs4 T) qa0 (rm hr) (vaN 0 (vaN 1 (vaN 2 Aa)))))
     (Af (Am (emv 2)))
     At)))
     (Af (Am (qa4 Bl)))),λ ds Q xe h=>?_⟩)
 obtain⟨d,⟨z,n,wr,ps,z',ks,rfl,h1,h2,hk,hl,rfl⟩,q⟩:=h;refine Aq [planD z a.C4 n wr ps,.lst z' (ksD ks),.unk] rfl ?_;refine qb7 (λ ds=>(∀ i,i < n.toNat->qf4 n wr ps ks (i:Int)=false)/\∃ d,ds=[planD z a.C4 n wr ps,.lst z' (ksD ks),d]) (λ K hK=>?_) ?_
 . refine qA7 (Bs rfl qd4) (qz8 (by lia) (by lia)) ?_
   refine qc5 (λ i ds=>(∀ j,j < i->qf4 n wr ps ks (j:Int)=false)/\∃ d,ds=[planD z a.C4 n wr ps,.lst z' (ksD ks),d]) _ 0 _ ⟨λ j hj=>absurd hj (Nat.not_lt_zero _),_,rfl⟩ ?_ ?_
   . rintro j x hx ds ⟨hf,d,rfl⟩ K hK
     rw[zB3] at hf hK;obtain⟨hj,rfl⟩:=qP3 hx;refine I8 (b:=qf4 n wr ps ks (j:Int)) (λ Q xe q=>qC8 (x:=planD z a.C4 n wr ps) (y:=.lst z' (ksD ks)) (w:=.int (j:Int)) rfl rfl rfl rfl rfl ⟨z,n,wr,ps,z',ks,_,rfl,h1,hk,hl,rfl⟩ rfl q) (λ hb=>?_) (λ hb=>?_)
     . have e:qx4 n wr ps ks=some j:=List.find?_range_eq_some.mpr ⟨hb,zB2.mpr hj,λ i hi=>by rw[hf i hi];rfl⟩
       rw[e] at q;exact q
     refine hK _ ⟨λ i hi=>?_,_,rfl⟩;rcases Nat.lt_succ_iff_lt_or_eq.mp hi with h | rfl
     . exact hf i h
     exact hb
   rintro ds ⟨hf,hd⟩;refine hK _ ⟨λ i hi=>hf i ?_,hd⟩;unfold Av;rw[zAe,zB4,zB3];exact hi
 rintro ds ⟨hf,d,rfl⟩;have e:qx4 n wr ps ks=none:=List.find?_range_eq_none.mpr λ i hi=>by rw[hf i hi];rfl
 rw[e] at q;exact q
theorem qj6:qa9 ["plan", "keys", "room"] ["plan", "keys"] (qa3 qg8):=by walk_at "s"
def qk1(n:Int)(wr:Bool)(ps:Pr)(ks:List Int):Prop:=∀ r:Nat,r < n.toNat->qf4 n wr ps ks (r:Int)=false
theorem qm5{n:Int}{wr:Bool}{ps:Pr}(h1:1<=n)(hr:r < n.toNat):qf4 n wr ps ks (r:Int)=true↔Crowd n.toNat wr (hmOf n ps) ks r:=by
 unfold qf4 Crowd;cases wr with
 | true =>
   simp only[if_true,zAv,zAu];lia
 | false =>
   have e:(ks.filter λ k=>decide ((r:Int)<=qc1 n ps k))=ks.filter λ k=>decide (r<=hmOf n ps k):=by
     apply List.filter_congr;intro k _
     have:=qx1 (ps:=ps) h1 k
     apply decide_eq_decide.mpr;lia
   simp only[Bool.false_eq_true,if_false,e,zAu];lia
theorem qk1.no{n:Int}{wr:Bool}{ps:Pr}(h:qk1 n wr ps ks)(h1:1<=n)(q:Nat):¬ Crowd n.toNat wr (hmOf n ps) ks q:=λ z=>by
 have:=h q z.1
 rw[(qm5 h1 z.1).mpr z] at this;cases this
theorem qk1.of{n:Int}{wr:Bool}{ps:Pr}(h1:1<=n)(h:∀ q,¬ Crowd n.toNat wr (hmOf n ps) ks q):qk1 n wr ps ks:=λ r hr=>by
 cases e:qf4 n wr ps ks (r:Int) with
 | false=>rfl
 | true=>exact absurd ((qm5 h1 hr).mp e) (h r)
def qt8(C CN:Addr):VSp:=λ ds Q xe=>∃ z n wr ps z' ks,ds=[planD z C n wr ps,.lst z' (ksD ks)]/\1<=n/\n<=64/\(∀ k∈ks,Al k)/\ks.length<=1000/\(qk1 n wr ps ks->Q .non ds)/\(∀ r:Nat,Crowd n.toNat wr (hmOf n ps) ks r->xe ⟨CN,[("room",.int (r:Nat))]⟩ ds)
theorem qu9(T:Txt K mg a):VFn P w K mg base 7 a.f20 a.d20 ["plan", "keys"] (qt8 a.C4 a.C6):=by
 refine VFn.mk2 T.d20.F qj6 (wOf [true,true]) (λ ds Q Q' xe xe' hQ hx h=>by obtain⟨z,n,wr,ps,z',ks,e,h1,h2,h3,h4,h5,h6⟩:=h;exact⟨z,n,wr,ps,z',ks,e,h1,h2,h3,h4,λ c=>hQ _ _ (h5 c),λ r c=>hx _ _ (h6 r c)⟩) (λ ds Q xe h=>by obtain⟨z,n,wr,ps,z',ks,e,_⟩:=h;rw[e];exact⟨rfl,rfl⟩) (λ cdv A outer sh H E av hr=>⟨_,(Ab (Ak 2 qj6.nd (Ah T.d19 (qv1 T) qa0 (rm hr) (vaN 0 (vaN 1 Aa))))
     (Af (sif (q2 (Ap qV0 (qb0 _)) qU9 (vnm 2) Bl)
     (Af (qm7 T.Dc (qz4 T) (rm hr) T.D3 T.d2.b qa0 (qc4 (vnm 2))))
     At))),λ ds Q xe h=>?_⟩)
 obtain⟨z,n,wr,ps,z',ks,rfl,h1,h2,hk,hl,q,qx⟩:=h;refine Aq [planD z a.C4 n wr ps,.lst z' (ksD ks),.unk] rfl ?_;refine qb9 [planD z a.C4 n wr ps,.lst z' (ksD ks),natD (qx4 n wr ps ks)] (λ K hK=>?_) ?_
 . exact qW5 (x:=planD z a.C4 n wr ps) (y:=.lst z' (ksD ks)) (d:=natD (qx4 n wr ps ks)) rfl rfl rfl ⟨z,n,wr,ps,z',ks,rfl,h1,h2,hk,hl,rfl⟩ rfl hK
 cases e:qx4 n wr ps ks with
 | none=>exact if_v (b:=false) rfl (λ h=>nomatch h) λ _=>q λ r hr=>by simpa using List.find?_range_eq_none.mp e r hr
 | some r =>
   have hb:=List.find?_some e;have hr:=zB2.mp (List.mem_of_find?_eq_some e);refine if_v (b:=true) rfl (λ _=>?_) λ h=>nomatch h
   exact qI8 (d:=.int (r:Nat)) rfl rfl ⟨rfl,qx r ((qm5 h1 hr).mp hb)⟩
theorem qu7:qa9 ["self", "thing"] ["self", "thing"] (qa3 qh2):=by walk_at "s"
def qu2(C:Addr):VSp:=A5 λ ds d=>∃ z n wr ps x t,ds=[planD z C n wr ps,x]/\x.kind=some t/\d=.bl (x.within 0 (n - 1))
theorem qf9(T:Txt K mg a):VFn P w K mg base 3 a.f11 a.d11 ["self", "thing"] (qu2 a.C4):=by
 refine VFn.mk2 T.d11.F qu7 (wOf [true,true]) qc2 (λ ds Q xe h=>by obtain⟨d,⟨z,n,wr,ps,x,t,e,_⟩,_⟩:=h;rw[e];exact⟨rfl,rfl⟩) (λ cdv A outer sh H E av hr=>⟨_,(Af (Am (Ah T.d4 (qd8 T) qa0 (rm hr) (vaN 1 (vaV (qa4 Ac) (vaV (qa4 (v2 (Ag qq3) qq2 (Ec rfl (vnm 0) T.C5.cl T.C8) Ac)) Aa)))))),λ ds Q xe h=>?_⟩);obtain⟨d,⟨z,n,wr,ps,x,t,rfl,hk,rfl⟩,q⟩:=h;have hx:rdN 1 [planD z a.C4 n wr ps,x]=some x:=qj8.mpr ⟨rfl,qf1 hk⟩;have e1:f2 gSub (f1 (D.fld a.C4 "rooms") (rdN 0)) (kC (.int 1)) [planD z a.C4 n wr ps,x]=some (.int (n - 1)):=Ad (Bs rfl qd4) rfl rfl;show qg5 _ _ (tbN 1 _) [planD z a.C4 n wr ps,x] _ _;refine qb5 hx ?_;refine qc0 (y:=.int 0) rfl ?_;refine qc0 e1 ?_;refine qa1 hx ?_;refine qs3 (d:=.bl (x.within 0 (n - 1))) ?_ (qa1 rfl q);show x.kind.bind _=_;rw[hk];rfl
theorem qw1:qa9 ["self", "key", "room", "steps"] ["self", "key", "room"] (qa3 qs0):=by walk_at "s"
def qP0(C:Addr):VSp:=A5 λ ds d=>∃ z n wr ps k r,ds=[planD z C n wr ps,.int k,.int r]/\1<=n/\Al k/\0<=r/\r < n/\d=Fc (A7 n wr ps k r)
theorem qap3(hk:Al k):fx1 (λ x=>x.kind.map λ _=>.bl x.num) [.int k]=some (.bl true):=by
 show some (D.bl (D.int k).num)=_;rw[qz6 hk]
theorem qah1{C:Addr}{z:Bool}{n:Int}{wr:Bool}{ps:Pr}{r:Int}(h0:0<=r)(h1:r < n):∃ z' n' wr' ps' x t,[planD z C n wr ps,.int r]=[planD z' C n' wr' ps',x]/\x.kind=some t/\D.bl true=.bl (x.within 0 (n' - 1)) :=
 ⟨z,n,wr,ps,_,_,rfl,rfl,by rw[qx6 h0 (by lia)]⟩
theorem qo2(T:Txt K mg a):VFn P w K mg base 5 a.f14 a.d14 ["self", "key", "room"] (qP0 a.C4):=by
 refine VFn.mk2 T.d14.F qw1 (wOf [true,true,true]) qc2 (λ ds Q xe h=>by obtain⟨d,⟨z,n,wr,ps,k,r,e,_⟩,_⟩:=h;rw[e];exact⟨rfl,rfl⟩) (λ cdv A outer sh H E av hr=>⟨_,(Ab (sif (Bm (te (Ah T.d5 (qc9 T) qa0 (rm hr) (vaN 1 Aa))))
     (Af (qm7 T.Cb (qb2 T) (rm hr) T.Cc T.d1.b qa0 (qa4 Ac)))
     At)
     (Ab (sif (Bm (te (qq6 0 T.d11 T.C5.cl (qf9 T) qa0 (rm hr) (vaN 2 Aa))))
     (Af (qm7 T.Cb (qb2 T) (rm hr) T.Cc T.d1.b qa0 (qa4 Ac)))
     At)
     (Ab (Ak 3 qw1.nd (e2n 2 (Ag qq3) qq2 (qq6 0 T.d13 T.C5.cl (qh6 T) qa0 (rm hr) (vaN 1 Aa))))
     (Ab (sif (tv (Ec rfl (vnm 0) T.C5.cl T.Cg))
     (Af (Am (qa4 (v2 (Ag qh5) qh3 (vnm 3) (Ec rfl (vnm 0) T.C5.cl T.C8)))))
     At)
     (Af (Am (eif (q2 (Ap Fg (qb0 _)) G3 (vnm 3) Ac) (qc4 (vnm 3)) (qa4 Bl)))))))),λ ds Q xe h=>?_⟩)
 obtain⟨d,⟨z,n,wr,ps,k,r,rfl,h1,hk,hr0,hrn,rfl⟩,q⟩:=h;refine Gk (λ Q xe q=>qan1 (x:=.int k) rfl (qap3 hk) rfl q) ?_;refine Gk (λ Q xe q=>qH9 (p:=planD z a.C4 n wr ps) (x:=.int r) rfl (qe6 rfl) rfl rfl (qah1 hr0 hrn) rfl q) ?_;refine qb9 [planD z a.C4 n wr ps,.int k,.int r,.int (r - qc1 n ps k)] (λ K hK=>?_) ?_
 . exact⟨rfl,qH9 (p:=planD z a.C4 n wr ps) (x:=.int k) (d:=.int (qc1 n ps k)) rfl (qe6 rfl) rfl rfl ⟨z,n,wr,ps,k,rfl,h1,hk,rfl⟩ rfl (qa1 (a:=D.int (r - qc1 n ps k)) rfl hK)⟩
 unfold A7 at q;refine qm2 wr (Bs rfl qA8) (λ h=>?_) (λ h=>?_)
 . subst h
   exact qg0 (.int ((r - qc1 n ps k) % n)) (Ad rfl (Bs rfl qd4) (qaA1 h1)) q
 subst h;refine qp9 (ife_v (b:=decide (0<=r - qc1 n ps k)) rfl (λ h=>?_) (λ h=>?_))
 . rw[if_neg (by decide),if_pos (zAo h)] at q
   exact⟨rfl,q⟩
 rw[if_neg (by decide),if_neg (zBy h)] at q;exact q
theorem qd7:qa9 ["self", "room", "one", "other", "one_far", "other_far"] ["self", "room", "one", "other"] (qa3 qe5):=by walk_at "s"
def qm9(C:Addr):VSp:=A5 λ ds d=>∃ z n wr ps r x y,ds=[planD z C n wr ps,.int r,.int x,.int y]/\1<=n/\0<=r/\r < n/\Al x/\Al y/\d=.bl (qg4 n wr ps r x y)
theorem qaC8{C:Addr}{z:Bool}{n:Int}{wr:Bool}{ps:Pr}{r:Int}(h1:1<=n)(hk:Al k)(h0:0<=r)(hn:r < n):∃ z' n' wr' ps' k' r',[planD z C n wr ps,.int k,.int r]=[planD z' C n' wr' ps',.int k',.int r']/\1<=n'/\Al k'/\0<=r'/\r' < n'/\Fc (A7 n wr ps k r)=Fc (A7 n' wr' ps' k' r') :=
 ⟨z,n,wr,ps,k,r,rfl,h1,hk,h0,hn,rfl⟩
theorem qo1(T:Txt K mg a):VFn P w K mg base 6 a.f15 a.d15 ["self", "room", "one", "other"] (qm9 a.C4):=by
 refine VFn.mk2 T.d15.F qd7 (wOf [true,true,true,true]) qc2 (λ ds Q xe h=>by obtain⟨d,⟨z,n,wr,ps,r,x,y,e,_⟩,_⟩:=h;rw[e];exact⟨rfl,rfl⟩) (λ cdv A outer sh H E av hr=>⟨_,(Ab (sif (Bm (te (qq6 0 T.d11 T.C5.cl (qf9 T) qa0 (rm hr) (vaN 1 Aa))))
     (Af (qm7 T.Cb (qb2 T) (rm hr) T.Cc T.d1.b qa0 (qa4 Ac)))
     At)
     (Ab (sif (Bm (te (Ah T.d5 (qc9 T) qa0 (rm hr) (vaN 2 Aa))))
     (Af (qm7 T.Cb (qb2 T) (rm hr) T.Cc T.d1.b qa0 (qa4 Ac)))
     At)
     (Ab (sif (Bm (te (Ah T.d5 (qc9 T) qa0 (rm hr) (vaN 3 Aa))))
     (Af (qm7 T.Cb (qb2 T) (rm hr) T.Cc T.d1.b qa0 (qa4 Ac)))
     At)
     (Ab (Ak 4 qd7.nd (qq6 0 T.d14 T.C5.cl (qo2 T) qa0 (rm hr) (vaN 2 (vaN 1 Aa))))
     (Ab (Ak 5 qd7.nd (qq6 0 T.d14 T.C5.cl (qo2 T) qa0 (rm hr) (vaN 3 (vaN 1 Aa))))
     (Ab (sif (q2 (Ap Gb (qb0 _)) Ga (vnm 4) Bl)
     (Af (Am (qa4 vbl)))
     At)
     (Ab (sif (q2 (Ap Gb (qb0 _)) Ga (vnm 5) Bl)
     (Af (Am (qa4 vbl)))
     At)
     (Af (Am (qa4 (vor (v2 (Au B8 (qb0 _)) Ea (vnm 4) (vnm 5)) (Gv (Ik (v2 (Au (qi5 hr.u64) (qb0 _)) Bd (vnm 4) (vnm 5)) (Gv (v2 (Au Ff (qb0 _)) Fi (vnm 2) (vnm 3)))))))))))))))),λ ds Q xe h=>?_⟩)
 obtain⟨d,⟨z,n,wr,ps,r,x,y,rfl,h1,hr0,hrn,hx,hy,rfl⟩,q⟩:=h;refine Gk (λ Q xe q=>qH9 (p:=planD z a.C4 n wr ps) (x:=.int r) rfl (qe6 rfl) rfl rfl (qah1 hr0 hrn) rfl q) ?_;refine Gk (λ Q xe q=>qan1 (x:=.int x) rfl (qap3 hx) rfl q) ?_;refine Gk (λ Q xe q=>qan1 (x:=.int y) rfl (qap3 hy) rfl q) ?_;refine qb9 [planD z a.C4 n wr ps,.int r,.int x,.int y,Fc (A7 n wr ps x r),.unk] (λ K hK=>?_) ?_
 . exact qaq2 (p:=planD z a.C4 n wr ps) (x:=.int x) (y:=.int r) rfl (qe6 rfl) rfl rfl rfl rfl (qaC8 h1 hx hr0 hrn) rfl hK
 refine qb9 [planD z a.C4 n wr ps,.int r,.int x,.int y,Fc (A7 n wr ps x r),Fc (A7 n wr ps y r)] (λ K hK=>?_) ?_
 . exact qaq2 (p:=planD z a.C4 n wr ps) (x:=.int y) (y:=.int r) rfl (qe6 rfl) rfl rfl rfl rfl (qaC8 h1 hy hr0 hrn) rfl hK
 unfold qg4 at q;cases ex:A7 n wr ps x r with
 | none =>
   rw[ex] at q;exact q
 | some f =>
   rw[ex] at q;cases ey:A7 n wr ps y r with
   | none =>
     rw[ey] at q;exact q
   | some g =>
     rw[ey] at q;refine qm2 false rfl (λ h=>nomatch h) λ _=>?_
     refine qm2 false rfl (λ h=>nomatch h) λ _=>?_
     exact qg0 _ (qaC9 (a:=decide (g < f)) rfl (qN1 (a:=decide (f=g)) (b:=decide (x < y)) rfl rfl)) q
theorem qe8:qa9 ["plan", "rooms", "key", "came", "room", "held"] ["plan", "rooms", "key"] (qa3 qr9):=by walk_at "s"
def qO9(C:Addr):VSp:=λ ds Q _=>∃ z n wr ps g S key,ds=[planD z C n wr ps,.lst false (rlD n.toNat g),.int key]/\1<=n/\n<=64/\Al key/\(∀ k∈S,Al k)/\Kept n.toNat wr (hmOf n ps) g S/\¬ key∈S/\(∃ e,F8 n.toNat wr (hmOf n ps) g key e) /\
 ∀ came g',Kept n.toNat wr (hmOf n ps) g' (S++[key])->Q (.lst false came) [planD z C n wr ps,.lst false (rlD n.toNat g'),.int key]
theorem qP8(T:Txt K mg a):VFn P w K mg base 7 a.f21 a.d21 ["plan", "rooms", "key"] (qO9 a.C4):=by
 refine VFn.mk2 T.d21.F qe8 (wOf [true,true,false]) (λ ds Q Q' xe xe' hQ _ h=>by obtain⟨z,n,wr,ps,g,S,key,e,h1,h2,h3,h4,h5,h6,h7,q⟩:=h;exact⟨z,n,wr,ps,g,S,key,e,h1,h2,h3,h4,h5,h6,h7,λ c g' K=>hQ _ _ (q c g' K)⟩) (λ ds Q xe h=>by obtain⟨z,n,wr,ps,g,S,key,e,_⟩:=h;rw[e];exact⟨rfl,rfl⟩) (λ cdv A outer sh H E av hr=>⟨_,(Ab (Ak 3 qe8.nd (qa4 (Bj qa7)))
     (Ab (Ak 4 qe8.nd (qq6 0 T.d13 T.C5.cl (qh6 T) qa0 (rm hr) (vaN 2 Aa)))
     (Ab (qav5 PassesOwn.leaving (q2 (Ap qV0 (qb0 _)) qU9 (v2 (As qb4) Aj (vnm 1) (vnm 4)) Bl)
     (Ab (Ak 5 qe8.nd (qc4 (v2 (As qb4) Aj (vnm 1) (vnm 4))))
     (Ab (sif (te (qq6 0 T.d15 T.C5.cl (qo1 T) qa0 (rm hr) (vaN 4 (vaN 2 (vaN 5 Aa)))))
     (Ab (Bw (Im 3 qac9 PySem.F.plainAttrs_list PySem.F.slot_list_append PySem.F.type_list_append ql6 (vaV (qa4 (vtup (qa2 (vnm 2) (qa2 (vnm 4) qa7 rfl) rfl))) Aa)))
     (Ab (Gd (qc4 (vnm 2)) (Et (vpn 1) (vnm 4)))
     (Af (Ak 2 qe8.nd (qc4 (vnm 5))))))
     At)
     (Af (Ak 4 qe8.nd (qa4 (v2 (Ag qh5) qh3 (v2 (Ag qg2) qg1 (vnm 4) Ac) (Ec rfl (vnm 0) T.C5.cl T.C8))))))))
     (Ab (Bw (Im 3 qac9 PySem.F.plainAttrs_list PySem.F.slot_list_append PySem.F.type_list_append ql6 (vaV (qa4 (vtup (qa2 (vnm 2) (qa2 (vnm 4) qa7 rfl) rfl))) Aa)))
     (Ab (Gd (qc4 (vnm 2)) (Et (vpn 1) (vnm 4)))
     (Af (Am (emv 3)))))))),λ ds Q xe h=>?_⟩)
 obtain⟨z,n,wr,ps,g,S,key,rfl,n1,n2,hkey,hS,KP,nin,⟨e,Fr⟩,q⟩:=h;have hh:=Ep (ps:=ps) n1 key;have hT:∀ x∈S++[key],Al x:=λ x hx=>by
   rcases zAf.mp hx with h | h
   . exact hS x h
   rw[zAn.mp h];exact hkey
 have hnd:(S++[key]).Nodup:=zBt.mpr ⟨KP.h.1,(by simp),λ x hx y hy e=>nin (by rw[<- zAn.mp hy,<- e];exact hx)⟩;refine Aq [planD z a.C4 n wr ps,.lst false (rlD n.toNat g),.int key,.unk,.unk,.unk] rfl ?_;refine qb9 [planD z a.C4 n wr ps,.lst false (rlD n.toNat g),.int key,.lst false [],.unk,.unk] (λ K hK=>hK) ?_;refine qb9 [planD z a.C4 n wr ps,.lst false (rlD n.toNat g),.int key,.lst false [],.int (hmOf n ps key:Nat),.unk] (λ K hK=>?_) ?_
 . exact qH9 (p:=planD z a.C4 n wr ps) (x:=.int key) (d:=.int (hmOf n ps key:Nat)) rfl (qe6 rfl) rfl rfl ⟨z,n,wr,ps,key,rfl,n1,hkey,by rw[qx1 n1]⟩ rfl hK
 refine qb7 (λ ds=>∃ g2 c r came d5,ds=[planD z a.C4 n wr ps,.lst false (rlD n.toNat g2),.int c,.lst false came,.int (r:Nat),d5]/\Row.Walk n.toNat wr (hmOf n ps) (S++[key]) key e g2 c r/\g2 r=none/\came.length<=64) (λ K hK=>?_) ?_
 . have W0:=KP.start nin Fr
   refine qak6 (λ m ds=>∃ g2 c r came d5,ds=[planD z a.C4 n wr ps,.lst false (rlD n.toNat g2),.int c,.lst false came,.int (r:Nat),d5]/\Row.Walk n.toNat wr (hmOf n ps) (S++[key]) key e g2 c r/\m=Ae n.toNat (hmOf n ps key) e - Ae n.toNat (hmOf n ps key) r/\came.length+m<=64) _ ⟨g,key,hmOf n ps key,[],_,rfl,W0,rfl,by have:=qp4 Fr.1 hh;show 0+_<=64;lia⟩ ?_;rintro m ds ⟨g2,c,r,came,d5,rfl,W,rfl,hc⟩ K2 hK2;have hr:=W.hr;cases hg:g2 r with
   | none =>
     refine qi0 (b:=false) (Ad (Ad rfl rfl (Bk hr)) rfl (by rw[hg];rfl)) ?_;exact hK _ ⟨g2,c,r,came,d5,rfl,W,hg,by lia⟩
   | some y =>
     refine qi0 (b:=true) (Ad (Ad rfl rfl (Bk hr)) rfl (by rw[hg];rfl)) ?_;have hx:wr=false->hmOf n ps c<=r:=λ h=>(W.ln h).2.1
     have hy:wr=false->hmOf n ps y<=r:=λ h=>(W.ln h).2.2 r y hr hg
     have cT:Al c:=hT c ((W.all c).mpr (.inl rfl));have yT:Al y:=hT y ((W.all y).mpr (.inr ⟨r,hr,hg⟩));have lt:=W.lt hg;have nx:=W.nx hg;refine ite_t rfl ?_;refine qb9 [planD z a.C4 n wr ps,.lst false (rlD n.toNat g2),.int c,.lst false came,.int (r:Nat),.int y] (λ K hK=>?_) ?_
     . exact qo8 (d:=.int y) (Ad rfl rfl (by rw[Bk hr,hg];rfl)) rfl hK
     refine qb7 (λ ds=>∃ g3 c3 came3,ds=[planD z a.C4 n wr ps,.lst false (rlD n.toNat g3),.int c3,.lst false came3,.int (r:Nat),.int y]/\Row.Walk n.toNat wr (hmOf n ps) (S++[key]) key e g3 c3 (Row.next n.toNat r)/\came3.length<=came.length+1) (λ K hK=>?_) ?_
     . refine I8 (b:=qg4 n wr ps (r:Nat) c y) (λ Q xe q=>qaJ5 (p:=planD z a.C4 n wr ps) (x:=.int (r:Nat)) (y:=.int c) (w:=.int y) rfl (qe6 rfl) rfl rfl rfl rfl rfl rfl ⟨z,n,wr,ps,(r:Nat),c,y,rfl,n1,by lia,by lia,cT,yT,rfl⟩ rfl q) (λ hb=>?_) (λ hb=>?_)
       . have ha:=(qr3 n1 hr hx hy).mp hb
         refine qb9 [planD z a.C4 n wr ps,.lst false (rlD n.toNat g2),.int c,.lst false (came++[.tup [.int c,.int (r:Nat)]]),.int (r:Nat),.int y] (λ K hK=>?_) ?_
         . exact qak2 (ys:=came) (d:=.tup [.int c,.int (r:Nat)]) rfl rfl (by show came.length < 1000000;lia) hK
         refine qb9 [planD z a.C4 n wr ps,.lst false (rlD n.toNat (Row.set g2 r c)),.int c,.lst false (came++[.tup [.int c,.int (r:Nat)]]),.int (r:Nat),.int y] (λ K hK=>?_) ?_
         . refine qB8 (d:=.int c) (ys:=rlD n.toNat g2) rfl rfl rfl rfl (qI6 hr) ?_
           rw[qk4];exact hK
         exact qo8 (d:=.int y) rfl rfl (hK _ ⟨Row.set g2 r c,y,_,rfl,W.swap hg ha,by rw[zAj];exact zA5 _⟩)
       exact hK _ ⟨g2,c,came,rfl,W.on hg (λ h=>by rw[(qr3 n1 hr hx hy).mpr h] at hb;cases hb),by lia⟩
     rintro ds ⟨g3,c3,came3,rfl,W3,hc3⟩;refine qo7 (d:=.int (Row.next n.toNat r:Nat)) (Ad (Ad rfl rfl rfl) (Bs rfl qd4) (by rw[Bt (by lia),qz7 n1 hr])) ?_;exact hK2 _ _ (by rw[nx];lia) ⟨g3,c3,_,came3,_,rfl,W3,rfl,by rw[nx];lia⟩
 rintro ds ⟨g2,c,r,came,d5,rfl,W,hg,hc⟩;have hr:=W.hr;refine qb9 [planD z a.C4 n wr ps,.lst false (rlD n.toNat g2),.int c,.lst false (came++[.tup [.int c,.int (r:Nat)]]),.int (r:Nat),d5] (λ K hK=>?_) ?_
 . exact qak2 (ys:=came) (d:=.tup [.int c,.int (r:Nat)]) rfl rfl (by show came.length < 1000000;lia) hK
 refine qb9 [planD z a.C4 n wr ps,.lst false (rlD n.toNat (Row.set g2 r c)),.int c,.lst false (came++[.tup [.int c,.int (r:Nat)]]),.int (r:Nat),d5] (λ K hK=>?_) ?_
 . refine qB8 (d:=.int c) (ys:=rlD n.toNat g2) rfl rfl rfl rfl (qI6 hr) ?_
   rw[qk4];exact hK
 exact q _ _ (W.done hnd hg)
theorem qk5:qa9 ["plan", "keys", "rooms", "key"] ["plan", "keys"] (qa3 qn4):=by walk_at "s"
def qF6(C CN:Addr):VSp:=λ ds Q xe=>∃ z n wr ps z' ks,ds=[planD z C n wr ps,.lst z' (ksD ks)]/\1<=n/\n<=64/\(∀ k∈ks,Al k)/\ks.Nodup/\ks.length<=1000/\(qk1 n wr ps ks->∀ g,Kept n.toNat wr (hmOf n ps) g ks->Q (.lst false (rlD n.toNat g)) ds)/\(∀ r:Nat,Crowd n.toNat wr (hmOf n ps) ks r->xe ⟨CN,[("room",.int (r:Nat))]⟩ ds)
theorem qH5(T:Txt K mg a):VFn P w K mg base 8 a.f22 a.d22 ["plan", "keys"] (qF6 a.C4 a.C6):=by
 refine VFn.mk2 T.d22.F qk5 (wOf [true,true]) (λ ds Q Q' xe xe' hQ hx h=>by obtain⟨z,n,wr,ps,z',ks,e,h1,h2,h3,h4,h5,q,h6⟩:=h;exact⟨z,n,wr,ps,z',ks,e,h1,h2,h3,h4,h5,λ c g K=>hQ _ _ (q c g K),λ r c=>hx _ _ (h6 r c)⟩) (λ ds Q xe h=>by obtain⟨z,n,wr,ps,z',ks,e,_⟩:=h;rw[e];exact⟨rfl,rfl⟩) (λ cdv A outer sh H E av hr=>⟨_,(Ab (Bw (Ah T.d20 (qu9 T) qa0 (rm hr) (vaN 0 (vaN 1 Aa))))
     (Ab (Ak 2 qk5.nd (qa4 (v2 (Ag qn9) qn8 (Bj (qa2 Bl qa7 rfl)) (Ec rfl (vnm 0) T.C5.cl T.C8))))
     (Ab (Ir PassesOwn.leaving (vpn 1) (A9 3 qk5.nd)
     (Af (Bw (Ah T.d21 (qP8 T) qa0 (rm hr) (vaN 0 (vaN 2 (vaN 3 Aa)))))))
     (Af (Am (emv 2)))))),λ ds Q xe h=>?_⟩)
 obtain⟨z,n,wr,ps,z',ks,rfl,n1,n2,hk,nd,hl,q,qx⟩:=h;refine Aq [planD z a.C4 n wr ps,.lst z' (ksD ks),.unk,.unk] rfl ?_;refine qb7 (λ ds=>ds=[planD z a.C4 n wr ps,.lst z' (ksD ks),.unk,.unk]/\qk1 n wr ps ks) (λ K hK=>?_) ?_
 . exact qm4 (qB4 (x:=planD z a.C4 n wr ps) (y:=.lst z' (ksD ks)) rfl rfl rfl ⟨z,n,wr,ps,z',ks,rfl,n1,n2,hk,hl,λ nc=>qa1 (a:=[planD z a.C4 n wr ps,.lst z' (ksD ks),.unk,.unk]) rfl (hK _ ⟨rfl,nc⟩),λ r c=>qa1 (a:=[planD z a.C4 n wr ps,.lst z' (ksD ks),.unk,.unk]) rfl (qx r c)⟩)
 rintro ds ⟨rfl,nc⟩;refine qb9 [planD z a.C4 n wr ps,.lst z' (ksD ks),.lst false (rlD n.toNat λ _=>none),.unk] (λ K hK=>qa1 (Ad rfl (Bs rfl qd4) (qV6 (by lia) n2)) hK) ?_;refine qb7 (λ ds=>∃ d g,ds=[planD z a.C4 n wr ps,.lst z' (ksD ks),.lst false (rlD n.toNat g),d]/\Kept n.toNat wr (hmOf n ps) g ks) (λ K hK=>?_) ?_
 . refine qa1 (a:=(1,[])) rfl (qa1 (a:=D.lst z' (ksD ks)) rfl (qa1 (a:=ksD ks) rfl ⟨qf2 ks,λ w=>?_⟩))
   refine qc5 (λ i ds=>∃ d g,ds=[planD z a.C4 n wr ps,.hole w,.lst false (rlD n.toNat g),d]/\Kept n.toNat wr (hmOf n ps) g (ks.take i)) _ 0 _ ⟨_,_,rfl,Kept.none (by lia) (Ep n1)⟩ ?_ ?_
   . rintro i y hy ds ⟨d,g,rfl,KP⟩ K2 hK2
     rw[zB3] at KP hK2;obtain⟨k,hi,rfl⟩:=qaq6 hy;refine qJ6 (x:=planD z a.C4 n wr ps) (y:=.lst false (rlD n.toNat g)) (w:=.int k) rfl rfl rfl rfl rfl ⟨z,n,wr,ps,g,ks.take i,k,rfl,n1,n2,hk k (zBb hi),λ x hx=>hk x (List.mem_of_mem_take hx),KP,qs6 nd hi,KP.free (by rw[<- ql3 hi];exact zBv _ _) (nc.no n1),λ came g' K'=>?_⟩;refine hK2 _ ⟨_,g',rfl,?_⟩;rw[ql3 hi];exact K'
   rintro ds ⟨d,g,rfl,KP⟩;rw[zB3,qi1,List.take_length] at KP;exact qa1 (qE6 rfl) (hK _ ⟨d,g,rfl,KP⟩)
 rintro ds ⟨d,g,rfl,KP⟩;exact q nc g KP
theorem qu6:qa9 ["plan", "keys"] ["plan", "keys"] (qa3 qh0):=by walk_at "s"
def qak5(C CW:Addr)(G:Ds->DK->XKd->Prop):VSp:=λ ds Q xe=>∃ x y bp,ds=[x,y]/\x.isC C=some (.bl bp)/\y.known=true/\(bp=false->xe ⟨CW,[("at",.int 0)]⟩ ds)/\(bp=true->okK y/\(y.keyL=false->xe ⟨CW,[("at",.int 1)]⟩ ds)/\(y.keyL=true->G ds Q xe))
theorem qw6{C:Addr}{G:Ds->DK->XKd->Prop}(h:∀ ds (Q Q':DK) (xe xe':XKd),(∀ d ds',Q d ds'->Q' d ds')->(∀ x ds',xe x ds'->xe' x ds')->G ds Q xe->G ds Q' xe'):Be (qak5 C CW G) :=
 λ ds Q Q' xe xe' hQ hx ⟨x,y,bp,e,h1,h0,h2,h3⟩=>⟨x,y,bp,e,h1,h0,λ b=>hx _ _ (h2 b),λ b=>⟨(h3 b).1,λ k=>hx _ _ ((h3 b).2.1 k),λ k=>h _ _ _ _ _ hQ hx ((h3 b).2.2 k)⟩⟩
def Hc(C CN:Addr)(R:Int->Pr->(Nat->Option Int)->D):Ds->DK->XKd->Prop:=λ ds Q xe=>∃ z n wr ps z' ks,ds=[planD z C n wr ps,.lst z' (ksD ks)]/\1<=n/\n<=64/\(∀ k∈ks,Al k)/\ks.Nodup/\ks.length<=100/\(qk1 n wr ps ks->∀ g,Kept n.toNat wr (hmOf n ps) g ks->Q (R n ps g) ds)/\(∀ r:Nat,Crowd n.toNat wr (hmOf n ps) ks r->xe ⟨CN,[("room",.int (r:Nat))]⟩ ds)
theorem qC7{C CN:Addr}{R:Int->Pr->(Nat->Option Int)->D}(ds:Ds)(Q Q':DK)(xe xe':XKd)(hQ:∀ d ds',Q d ds'->Q' d ds')(hx:∀ x ds',xe x ds'->xe' x ds'):Hc C CN R ds Q xe->Hc C CN R ds Q' xe' :=
 λ ⟨z,n,wr,ps,z',ks,e,h1,h2,h3,h4,h5,q,h6⟩=>⟨z,n,wr,ps,z',ks,e,h1,h2,h3,h4,h5,λ c g K=>hQ _ _ (q c g K),λ r c=>hx _ _ (h6 r c)⟩
def qu0(C CW CN:Addr):VSp:=qak5 C CW (Hc C CN λ n _ g=>.lst false (rlD n.toNat g))
theorem qk0(T:Txt K mg a):VFn P w K mg base 9 a.f23 a.d23 ["plan", "keys"] (qu0 a.C4 a.C7 a.C6):=by
 refine VFn.mk2 T.d23.F qu6 (wOf [true,true]) (qw6 qC7) (λ ds Q xe ⟨x,y,bp,e,_⟩=>by rw[e];exact⟨rfl,rfl⟩) (λ cdv A outer sh H E av hr=>⟨_,(Ab (Bw (Ah T.d16 (qj9 T) qa0 (rm hr) (vaN 0 (vaN 1 Aa))))
     (Af (Am (Ah T.d22 (qH5 T) qa0 (rm hr) (vaN 0 (vaN 1 Aa)))))),λ ds Q xe h=>?_⟩)
 obtain⟨x,y,bp,rfl,hC,hy,h0,h1⟩:=h;have hx:=qm1 hC;refine Aq [x,y] rfl ?_;refine qm4 ?_;refine qB4 (x:=x) (y:=y) (rd0 hx) (qb6 rfl hy) (rd0 hx) ⟨x,y,bp,rfl,hC,hy,λ b=>h0 b,λ b=>⟨(h1 b).1,λ k=>(h1 b).2.1 k,λ k=>?_⟩⟩;obtain⟨z,n,wr,ps,z',ks,e,n1,n2,hk,nd,hl,q,qx⟩:=(h1 b).2.2 k;cases e;exact qB4 (x:=planD z a.C4 n wr ps) (y:=.lst z' (ksD ks)) rfl rfl rfl ⟨z,n,wr,ps,z',ks,rfl,n1,n2,hk,nd,by lia,λ nc g K=>q nc g K,λ r c=>qx r c⟩
theorem qr5:qa9 ["self", "first", "many"] ["self", "first", "many"] (qa3 qf8):=by walk_at "s"
def onD(n h:Int)(m:Nat):Ds:=(List.range m).map λ(s:Nat)=>D.int ((h+(0+(s:Int))) % n)
theorem qaB6(n h:Int)(m:Nat):D.imms (onD n h m)=true:=qI7 (λ _=>rfl) _
theorem on_at{n h:Int}{m:Nat}(e:(onD n h m)[j]? = some x):j < m/\x=.int ((h+(j:Int)) % n):=by
 unfold onD at e;rw[zAx] at e;cases e1:(List.range m)[j]? with
 | none=>rw[e1] at e;cases e
 | some y =>
   obtain⟨h1,h2⟩:=zA7.mp e1;rw[List.getElem_range] at h2;subst h2;rw[e1] at e;refine⟨by simpa using h1,?_⟩;rw[<- Option.some.inj e];show D.int ((h+(0+(j:Int))) % n)=_;rw[Int.zero_add]
theorem qaJ8(n h:Int)(m:Nat):(onD n h m).length=m:=by unfold onD;rw[zAe,zB4]
theorem qaG5{n h:Int}{m:Nat}:((Av 0 m).map λ x=>match x with | .int s=>.int ((h+s) % n) | d=>d)=onD n h m:=by unfold Av onD;rw[List.map_map];rfl
def qr4(C:Addr):VSp:=λ ds Q _=>∃ z n wr ps h m,ds=[planD z C n wr ps,.int h,.int m]/\1<=n/\0<=m/\m<=64/\Q (.lst false (onD n h m.toNat)) [planD z C n wr ps,.int h,.unk]
theorem qs5(T:Txt K mg a):VFn P w K mg base 1 a.f12 a.d12 ["self", "first", "many"] (qr4 a.C4):=by
 refine VFn.mk2 T.d12.F qr5 (wOf [true,true,true]) (λ ds Q Q' xe xe' hQ _ h=>by obtain⟨z,n,wr,ps,h,m,e,h1,h2,h3,q⟩:=h;exact⟨z,n,wr,ps,h,m,e,h1,h2,h3,hQ _ _ q⟩) (λ ds Q xe h=>by obtain⟨z,n,wr,ps,h,m,e,_⟩:=h;rw[e];exact⟨rfl,rfl⟩) (λ cdv A outer sh H E av hr=>⟨_,(Af (Am (ecR1 (NY:=["step", "first", "self"]) (src:=[none,some 1,some 0]) T.Ch (Eo (vaN 2 Aa)) (blk (λ av C s0 H0 ex=>(A9 0 (show (["step", "first", "self"]:List Str).Nodup by decide +kernel))) (λ av C s0 H0 ex=>Eu) (λ av C s0 H0 ex=>(qa4 (v2 (Ag qh5) qh3 (v2 (Ag qg2) qg1 (vnm 1) (vnm 0)) (Ec rfl (vnm 2) T.C5.cl T.C8)))))))),λ ds Q xe h=>?_⟩);obtain⟨z,n,wr,ps,h,m,rfl,n1,m0,m1,q⟩:=h;refine Aq [planD z a.C4 n wr ps,.int h,.int m] rfl ?_;refine qp9 ?_;refine⟨rfl,qd0 (qa1 (a:=D.int m) rfl (qa1 (a:=m) rfl ⟨qz8 m0 (by lia),?_⟩))⟩;refine qh9 (λ ι=>∃ d,ι=[d,.int h,planD z a.C4 n wr ps]) (λ x=>some (match x with | .int s=>.int ((h+s) % n) | d=>d)) (Av 0 m.toNat) [] _ (by show 0+_ < big;rw[qw9];unfold big;lia) ⟨_,rfl⟩ ?_ ?_
 . rintro y hy ι acc ⟨d,rfl⟩ R hR hacc
   obtain⟨s,hs,rfl⟩:=zB6.mp hy;have this:=hR _ ⟨.int (0+(s:Nat)),rfl⟩;refine qa1 (a:=D.int ((h+(0+(s:Nat))) % n)) (Ad (x:=.int (h+(0+(s:Nat)))) rfl (Bs rfl qd4) (Bt (by lia))) ⟨hacc,this⟩
 rintro ι ⟨d,rfl⟩;rw[zBk,qae7,qaG5];exact q
theorem qu3:qa9 ["plan", "key", "room"] ["plan", "key", "room"] (qa3 qg6):=by walk_at "s"
def qt6(C:Addr):VSp:=A5 λ ds d=>∃ z n wr ps k r,ds=[planD z C n wr ps,.int k,.int (r:Nat)]/\1<=n/\n<=64/\Al k/\r < n.toNat/\(wr=false->hmOf n ps k<=r)/\d=.lst false (onD n (hmOf n ps k:Nat) (Ae n.toNat (hmOf n ps k) r))
theorem qu8(T:Txt K mg a):VFn P w K mg base 6 a.f24 a.d24 ["plan", "key", "room"] (qt6 a.C4):=by
 refine VFn.mk2 T.d24.F qu3 (wOf [true,true,true]) qc2 (λ ds Q xe h=>by obtain⟨d,⟨z,n,wr,ps,k,r,e,_⟩,_⟩:=h;rw[e];exact⟨rfl,rfl⟩) (λ cdv A outer sh H E av hr=>⟨_,(Af (Am (qq6 0 T.d12 T.C5.cl (qs5 T) qa0 (rm hr) (vaV (qq6 0 T.d13 T.C5.cl (qh6 T) qa0 (rm hr) (vaN 1 Aa)) (vaV (qq6 0 T.d14 T.C5.cl (qo2 T) qa0 (rm hr) (vaN 1 (vaN 2 Aa))) Aa))))),λ ds Q xe h=>?_⟩);obtain⟨d,⟨z,n,wr,ps,k,r,rfl,n1,n2,hk,hr',hl,rfl⟩,q⟩:=h;refine Aq [planD z a.C4 n wr ps,.int k,.int (r:Nat)] rfl ?_;refine qp9 ?_;have hh:=Ep (ps:=ps) n1 k;have hd:=qp4 hr' hh;refine qad1 (p:=planD z a.C4 n wr ps) rfl (qe6 rfl) (qp6 ?_);refine qH9 (p:=planD z a.C4 n wr ps) (x:=.int k) (d:=.int (hmOf n ps k:Nat)) rfl (qe6 rfl) rfl rfl ⟨z,n,wr,ps,k,rfl,n1,hk,by rw[qx1 n1]⟩ rfl ?_;refine qp6 ?_;refine qaq2 (p:=planD z a.C4 n wr ps) (x:=.int k) (y:=.int (r:Nat)) (d:=.int (Ae n.toNat (hmOf n ps k) r:Nat)) rfl (qe6 rfl) rfl rfl rfl rfl ⟨z,n,wr,ps,k,r,rfl,n1,hk,by lia,by lia,by rw[qY5 n1 hr' hl];rfl⟩ rfl ?_;refine qd0 ?_;refine qa1 (a:=planD z a.C4 n wr ps) rfl ?_;refine⟨z,n,wr,ps,_,_,rfl,n1,by lia,by lia,?_⟩;rw[Int.toNat_natCast];exact qa1 (a:=[planD z a.C4 n wr ps,.int k,.int (r:Nat)]) rfl q
theorem qd6:qa9 ["plan", "keys", "rooms", "passes", "room", "key", "passed"] ["plan", "keys"] (qa3 qn2):=by walk_at "s"
def qF5(C CW CN:Addr):VSp:=qak5 C CW (Hc C CN λ n ps g=>.lst false (psD n.toNat (G0 n.toNat (hmOf n ps) g)))
theorem qaz1{n:Int}{a s:Nat}(n1:1<=n)(ha:a < n.toNat)(hs:s < n.toNat):∃ r,r < n.toNat/\((a:Nat)+(s:Nat):Int) % n=(r:Nat)/\Ae n.toNat a r=s:=by
 obtain⟨r,hr,e⟩:=qaE0 ha hs;refine⟨r,hr,?_,e⟩;have h1:=dor n.toNat a r;rcases h1 with⟨h,q⟩ | ⟨h,q⟩
 . rw[show ((a:Nat)+(s:Nat):Int)=(r:Nat) by lia]
   exact Int.emod_eq_of_lt (by lia) (by lia)
 have q:=q (by lia);rw[show ((a:Nat)+(s:Nat):Int)=(r:Nat)+n by lia,Int.add_emod_right];exact Int.emod_eq_of_lt (by lia) (by lia)
theorem qH4(T:Txt K mg a):VFn P w K mg base 10 a.f25 a.d25 ["plan", "keys"] (qF5 a.C4 a.C7 a.C6):=by
 refine VFn.mk2 T.d25.F qd6 (wOf [true,true]) (qw6 qC7) (λ ds Q xe ⟨x,y,bp,e,_⟩=>by rw[e];exact⟨rfl,rfl⟩) (λ cdv A outer sh H E av hr=>⟨_,(Ab (Ak 2 qd6.nd (Ah T.d23 (qk0 T) qa0 (rm hr) (vaN 0 (vaN 1 Aa))))
     (Ab (Ak 3 qd6.nd (qa4 (v2 (Ag qn9) qn8 (Bj (qa2 Ac qa7 rfl)) (Ec rfl (vnm 0) T.C5.cl T.C8))))
     (Ab (qaG1 PassesOwn.leaving T.D4 (vpn 2) (gtupV (n:=2) rfl (qae3 (A9 4 qd6.nd) (qae3 (A9 5 qd6.nd) gnilV)))
     (Af (sif (q2 (Ap qV0 (qb0 _)) qU9 (vnm 5) Bl)
     (Af (Gg PassesOwn.leaving (Ah T.d24 (qu8 T) qa0 (rm hr) (vaN 0 (vaN 5 (vaN 4 Aa)))) (A9 6 qd6.nd)
     (Af (Gd (qa4 (v2 (Ag qg2) qg1 (v2 (As qb4) Aj (vnm 3) (vnm 6)) Ac)) (Et (vpn 3) (vnm 6))))))
     At)))
     (Af (Am (emv 3)))))),λ ds Q xe h=>?_⟩)
 obtain⟨x,y,bp,rfl,hC,hy,h0,h1⟩:=h;have hx:=qm1 hC;refine Aq [x,y,.unk,.unk,.unk,.unk,.unk] rfl ?_;refine qb7 (λ ds=>∃ z n wr ps z' ks g,1<=n/\n<=64/\(∀ k∈ks,Al k)/\Kept n.toNat wr (hmOf n ps) g ks/\[x,y]=[planD z a.C4 n wr ps,.lst z' (ksD ks)]/\ds=[planD z a.C4 n wr ps,.lst z' (ksD ks),.lst false (rlD n.toNat g),.unk,.unk,.unk,.unk]/\Q (.lst false (psD n.toNat (G0 n.toNat (hmOf n ps) g))) [planD z a.C4 n wr ps,.lst z' (ksD ks)]) (λ K hK=>qm6 ?_) ?_
 . refine qB4 (x:=x) (y:=y) (rd0 hx) (qb6 rfl hy) (rd0 hx) ⟨x,y,bp,rfl,hC,hy,λ b=>h0 b,λ b=>⟨(h1 b).1,λ k=>(h1 b).2.1 k,λ k=>?_⟩⟩
   obtain⟨z,n,wr,ps,z',ks,e,n1,n2,hk,nd,hl,q,qx⟩:=(h1 b).2.2 k;cases e;refine⟨z,n,wr,ps,z',ks,rfl,n1,n2,hk,nd,hl,λ nc g KP=>?_,λ r c=>qx r c⟩;exact qa1 (a:=[planD z a.C4 n wr ps,.lst z' (ksD ks),.unk,.unk,.unk,.unk,.unk]) rfl (hK _ ⟨z,n,wr,ps,z',ks,g,n1,n2,hk,KP,rfl,rfl,q nc g KP⟩)
 rintro ds ⟨z,n,wr,ps,z',ks,g,n1,n2,hk,KP,e,rfl,q⟩;cases e;refine qb9 [planD z a.C4 n wr ps,.lst z' (ksD ks),.lst false (rlD n.toNat g),.lst false (psD n.toNat λ _=>0),.unk,.unk,.unk] (λ K hK=>qo7 (Ad rfl (Bs rfl qd4) (qap8 (by lia) n2)) hK) ?_;refine qb7 (λ ds=>∃ d4 d5 d6,ds=[planD z a.C4 n wr ps,.lst z' (ksD ks),.lst false (rlD n.toNat g),.lst false (psD n.toNat (G0 n.toNat (hmOf n ps) g)),d4,d5,d6]) (λ K hK=>?_) ?_
 . refine qa1 (a:=(2,[])) rfl (qa1 (a:=D.lst false (rlD n.toNat g)) rfl (qa1 (a:=rlD n.toNat g) rfl ⟨qaB5 _ _,λ w=>?_⟩))
   refine qc5 (λ i ds=>∃ d4 d5 d6,ds=[planD z a.C4 n wr ps,.lst z' (ksD ks),.hole w,.lst false (psD n.toNat (ql5 n.toNat (hmOf n ps) g i)),d4,d5,d6]) _ 0 _ ⟨_,_,_,rfl⟩ ?_ ?_
   . rintro i v hv ds ⟨d4,d5,d6,e⟩ K2 hK2
     rw[zB3] at e hK2;subst e;obtain⟨hi,rfl⟩:=en_at hv;refine qar4 (Aq [planD z a.C4 n wr ps,.lst z' (ksD ks),.hole w,.lst false (psD n.toNat (ql5 n.toNat (hmOf n ps) g i)),.int (i:Nat),Gx (g i),d6] rfl ?_);cases hg:g i with
     | none =>
       refine if_v (b:=false) (Ad rfl rfl rfl) (λ h=>nomatch h) λ _=>?_
       exact hK2 _ ⟨_,_,_,by rw[qP5 hg]⟩
     | some k =>
       have hh:=Ep (ps:=ps) n1 k;have hd:=qp4 hi hh;have hkn:Al k:=hk k ((KP.h.2 k).mpr ⟨i,hi,hg⟩);refine if_v (b:=true) (Ad rfl rfl rfl) (λ _=>?_) λ h=>nomatch h
       refine qC8 (x:=planD z a.C4 n wr ps) (y:=.int k) (w:=.int (i:Nat)) (d:=.lst false (onD n (hmOf n ps k:Nat) (Ae n.toNat (hmOf n ps k) i))) rfl rfl rfl rfl rfl ⟨z,n,wr,ps,k,i,rfl,n1,n2,hkn,hi,λ hw=>KP.ln hw i k hi hg,rfl⟩ rfl ?_;refine qa1 (a:=onD n (hmOf n ps k:Nat) (Ae n.toNat (hmOf n ps k) i)) rfl ⟨qaB6 _ _ _,?_⟩;refine qc5 (λ s ds=>∃ d6,ds=[planD z a.C4 n wr ps,.lst z' (ksD ks),.hole w,.lst false (psD n.toNat (Bz n.toNat (hmOf n ps k) s (ql5 n.toNat (hmOf n ps) g i))),.int (i:Nat),.int k,d6]) _ 0 _ ⟨d6,by rw[qS0];rfl⟩ ?_ ?_
       . rintro s v hv ds ⟨d6,e⟩ K3 hK3
         rw[zB3] at e hK3;subst e;obtain⟨hs,rfl⟩:=on_at hv;obtain⟨r,hr,er,ed⟩:=qaz1 n1 hh (show s < n.toNat by lia);rw[er];subst ed;refine qi7 (Aq [planD z a.C4 n wr ps,.lst z' (ksD ks),.hole w,.lst false (psD n.toNat (Bz n.toNat (hmOf n ps k) (Ae n.toNat (hmOf n ps k) r) (ql5 n.toNat (hmOf n ps) g i))),.int (i:Nat),.int k,.int (r:Nat)] rfl ?_);refine qR9 (ys:=psD n.toNat (Bz n.toNat (hmOf n ps k) (Ae n.toNat (hmOf n ps k) r) (ql5 n.toNat (hmOf n ps) g i))) (d:=.int ((Bz n.toNat (hmOf n ps k) (Ae n.toNat (hmOf n ps k) r) (ql5 n.toNat (hmOf n ps) g i) r:Nat)+1)) (Ad (Ad rfl rfl (ix_ps hr)) rfl rfl) rfl rfl (qaK5 hr) ?_;rw[qaG2,qan5 (qS1 hh hr)];exact hK3 _ ⟨_,rfl⟩
       rintro ds ⟨d6,e⟩;rw[zB3,qaJ8] at e;subst e;exact hK2 _ ⟨_,_,_,by rw[qP4 hg]⟩
   rintro ds ⟨d4,d5,d6,e⟩;rw[zB3,qaA7,qx0,qU6] at e;subst e;exact qa1 (qE6 rfl) (hK _ ⟨d4,d5,d6,rfl⟩)
 rintro ds ⟨d4,d5,d6,rfl⟩;exact q
theorem qP2:qa9 ["plan", "keys", "room"] ["plan", "keys", "room"] (qa3 qr8):=by walk_at "s"
def qv9(C CW:Addr):VSp:=λ ds Q xe=>∃ x y v bp,ds=[x,y,v]/\x.isC C=some (.bl bp)/\y.known=true/\(∃ t,v.kind=some t)/\(bp=false->xe ⟨CW,[("at",.int 0)]⟩ ds) /\
 (bp=true->okK y/\(y.keyL=false->xe ⟨CW,[("at",.int 1)]⟩ ds)/\(y.keyL=true->∃ z n wr ps z' ks,x=planD z C n wr ps/\y=.lst z' (ksD ks)/\1<=n/\n<=64/\(∀ k∈ks,Al k)/\ks.length<=1000 /\
   (v.within 0 (n - 1)=false->xe ⟨CW,[("at",.int 2)]⟩ ds)/\(∀ r:Int,v=.int r->0<=r->r < n->Q (.bl (qf4 n wr ps ks r)) ds)))
theorem qo0(T:Txt K mg a):VFn P w K mg base 6 a.f18 a.d18 ["plan", "keys", "room"] (qv9 a.C4 a.C7):=by
 refine VFn.mk2 T.d18.F qP2 (wOf [true,true,true]) (λ ds Q Q' xe xe' hQ hx h=>by obtain⟨x,y,v,bp,e,h1,h2,h3,h4,h5⟩:=h;exact⟨x,y,v,bp,e,h1,h2,h3,λ b=>hx _ _ (h4 b),λ b=>⟨(h5 b).1,λ k=>hx _ _ ((h5 b).2.1 k),λ k=>let ⟨z,n,wr,ps,z',ks,a1,a2,a3,a4,a5,a6,a7,a8⟩:=(h5 b).2.2 k;⟨z,n,wr,ps,z',ks,a1,a2,a3,a4,a5,a6,λ q=>hx _ _ (a7 q),λ r e1 e2 e3=>hQ _ _ (a8 r e1 e2 e3)⟩⟩⟩) (λ ds Q xe h=>by obtain⟨x,y,v,bp,e,_⟩:=h;rw[e];exact⟨rfl,rfl⟩) (λ cdv A outer sh H E av hr=>⟨_,(Ab (Bw (Ah T.d16 (qj9 T) qa0 (rm hr) (vaN 0 (vaN 1 Aa))))
     (Ab (sif (Bm (te (qq6 0 T.d11 T.C5.cl (qf9 T) qa0 (rm hr) (vaN 2 Aa))))
     (Af (qm7 T.Cb (qb2 T) (rm hr) T.Cc T.d1.b qa0 (qa4 Ac)))
     At)
     (Af (Am (Ah T.d17 (qs4 T) qa0 (rm hr) (vaN 0 (vaN 1 (vaN 2 Aa)))))))),λ ds Q xe h=>?_⟩)
 obtain⟨x,y,v,bp,rfl,hC,hy,⟨t,hv⟩,h0,h1⟩:=h;have hx:=qm1 hC;have hvk:=qf1 hv;refine Aq [x,y,v] rfl ?_;refine qb7 (λ ds=>ds=[x,y,v]/\bp=true/\y.keyL=true) (λ K hK=>?_) ?_
 . refine qm4 (qB4 (x:=x) (y:=y) (rd0 hx) (qb6 rfl hy) (rd0 hx) ⟨x,y,bp,rfl,hC,hy,λ b=>?_,λ b=>⟨(h1 b).1,λ k=>?_,λ k=>?_⟩⟩)
   . exact qa1 (a:=[x,y,v]) rfl (h0 b)
   . exact qa1 (a:=[x,y,v]) rfl ((h1 b).2.1 k)
   exact qa1 (a:=[x,y,v]) rfl (hK _ ⟨rfl,b,k⟩)
 rintro ds ⟨rfl,b,k⟩;obtain⟨z,n,wr,ps,z',ks,rfl,rfl,n1,n2,hk,hl,q2,q⟩:=(h1 b).2.2 k;refine qX3 (v.within 0 (n - 1)) (λ Q xe q=>?_) (λ h=>?_) q2
 . exact qH9 (p:=planD z a.C4 n wr ps) (x:=v) (d:=.bl (v.within 0 (n - 1))) rfl (qe6 rfl) (qb6 rfl hvk) rfl ⟨z,n,wr,ps,v,t,rfl,hv,rfl⟩ rfl q
 obtain⟨r,rfl,r0,r1⟩:=qB5 h;exact qp9 (qC8 (x:=planD z a.C4 n wr ps) (y:=.lst z' (ksD ks)) (w:=.int r) (d:=.bl (qf4 n wr ps ks r)) rfl rfl rfl rfl rfl ⟨z,n,wr,ps,z',ks,r,rfl,n1,hk,hl,rfl⟩ rfl (q r rfl r0 (by lia)))
theorem qaw1:qa9 ["_law_script"] ["_law_script"] (qa3 qam6):=by walk_at "s"
theorem qaz3(T:Txt K mg a):Bi P w K mg base CX0 1 a.f26 a.d26 ["_law_script"] (qaG0 K):=by
 refine T.d26.F.ok qaw1 (λ vs H Q E h=>?_) (λ cdv A outer s H vs Q E hr h=>?_)
 . obtain⟨l,ns,rfl,_⟩:=h
   rfl
 obtain⟨l,ns,rfl,hS,hl,k⟩:=h;refine⟨_,(qo9 (qT9 (qao0 (qd3 qC5 (qd3 qC5 (qd3 qC5 (qd3 (qU4 ["_law_cell"] [none] (qC4 (qU2 qag7 (pv 0) qai1 (qai0 qC5))) (λ C s0 H0 ex=>(gnm 0 (show (["_law_cell"]:List Str).Nodup by decide +kernel))) (λ C s0 H0 ex=>qax4) (λ C s0 H0 ex=>(cbi qat5 T.Dw (qd3 (pv 0) qq1)))) qq1))))))),?_⟩;refine⟨_,rfl,_,rfl,l,_,rfl,hS,λ c hc=>?_⟩;have ec:F4 (ns.map V.int) none (some 63)=ns.map V.int:=by
   unfold F4;have e63:HT.sIx (ns.map V.int).length (ns.map V.int).length (some (63:Int))=min 63 (ns.map V.int).length:=HT.qT3 _ _ 63;rw[e63,HT.qy9,List.drop_zero,Nat.sub_zero];apply zBc;rw[zAe];lia
 rw[ec];refine⟨c,rfl,⟨_,SqL.of qb1⟩,λ D hD=>?_⟩;have nD:D≠c:=λ z=>by rw[z,qb1] at hD;cases hD
 have hD':H D=none:=by rw[qb3 nD] at hD;exact hD
 refine qN8 (K:=K) (xs:=ns.map V.int) (λ i σ H1=>∃ v,σ=[v]/\H1=upd (upd H c (.lst (ns.map V.int))) D (.lst (((ns.take i).map λ n=>if n < 0 then -n else n).map V.int))) ⟨none,rfl,rfl⟩ ?_ ?_ ?_
 . rintro i σ H1 _ ⟨v,rfl,rfl⟩
   refine SqL.of ?_;rw[qb3 nD.symm,qb1]
 . rintro i x σ H1 hi ⟨v,rfl,rfl⟩
   obtain⟨n,hn,rfl⟩:∃ n,ns[i]? = some n/\V.int n=x:=by
     rw[zAx] at hi;cases e:ns[i]? with
     | none=>rw[e] at hi;cases hi
     | some z=>rw[e] at hi;exact⟨z,rfl,Option.some.inj hi⟩
   refine⟨_,rfl,_,rfl,_,qb1,?_,_,rfl,?_⟩
   . rw[zAe,zAe,zBs]
     exact qab3 (by lia)
   rw[qau6];congr 1;rw[List.take_add_one,hn];simp
 rintro σ H1 ⟨v,rfl,rfl⟩;rw[zAe,zBc (zA5 _)];refine⟨by show 4<=sizeLine;decide,λ p hp=>?_⟩;have npD:p≠D:=λ z=>by rw[z,qb1] at hp;cases hp
 rw[qb3 npD] at hp;have npc:p≠c:=λ z=>by rw[z,qb1] at hp;cases hp
 rw[qb3 npc] at hp;refine k p D _ hp hD' (λ b o e=>?_) ⟨0,1234567891,0,ns.map λ n=>if n < 0 then -n else n,qb1,?_,by decide,by decide,by decide,by decide,?_⟩
 . rw[qb3 (qb8 e hp),qb3 (qb8 e hD'),qb3 (qb8 e hc)]
   exact e
 . rw[qb3 npD.symm,qb1]
 intro n hn;obtain⟨m,_,rfl⟩:=zB6.mp hn
 split<;>lia
theorem qn1:qa9 ["_law_bag_here", "_law_many", "_law_cell", "_law_value", "_law_first", "_law_second"] ["_law_bag_here", "_law_many"] (qa3 qS9):=by walk_at "s"
theorem qc3(T:Txt K mg a):VFn P w K mg base 1 a.f27 a.d27 ["_law_bag_here", "_law_many"] qy0:=by
 refine VFn.mk' T.d27.F qn1 (wOf [true,true]) (λ ds Q Q' xe xe' hQ _ h=>by obtain⟨b,m,ns,e,h1,h2,h3,q⟩:=h;exact⟨b,m,ns,e,h1,h2,h3,λ v b' v0 v1 B=>hQ _ _ (q v b' v0 v1 B)⟩) (λ ds Q xe ⟨b,m,ns,e,_⟩=>by rw[e];rfl) (λ ds Q xe h=>by obtain⟨b,m,ns,e,⟨x,y,z,eb,_⟩,_⟩:=h;rw[e,eb];rfl) (λ cdv A outer sh H E av hr=>⟨_,(Ab (sif (q2 (Ap (qi5 hr.u64) (qb0 _)) Bd (v2 (As qb4) Aj (vnm 0) Ac) Ac)
     (Ab (Ak 2 qn1.nd (qa4 Ac))
     (Ab (sif (q2 (Ap Ff (qb0 _)) Fi (v2 (As qb4) Aj (vnm 0) Ac) (vbi qB3 qB2.ops T.Cp (qa2 (v2 (As qb4) Aj (vnm 0) Ac) qa7 rfl)))
     (Af (Ak 2 qn1.nd (qc4 (v2 (As qb4) Aj (v2 (As qb4) Aj (vnm 0) Ac) (v2 (As qb4) Aj (vnm 0) Ac)))))
     At)
     (Ab (saug (vpn 0) Ac Ac qaK9)
     (Ab (sif (q2 (Ap Fg (qb0 _)) G3 (vnm 2) Ac)
     (Af (Gd (qc4 (vnm 2)) (Et (vpn 0) Ac)))
     At)
     (Af (Gd (qa4 (v2 (Ag qh5) qh3 (v2 (Ag qg2) qg1 (v2 (Ag qg2) qg1 (v2 (Ag qn9) qn8 (v2 (As qb4) Aj (vnm 0) Ac) Ac) (v2 (Ag qh5) qh3 (vnm 2) Ac)) (v2 (Ag qn9) qn8 Ac (v2 (As qb4) Aj (vnm 0) Ac))) Ac)) (Et (vpn 0) Ac)))))))
     At)
     (Ab (sif (q2 (Ap B8 (qb0 _)) Ea (v2 (As qb4) Aj (vnm 0) Ac) Ac)
     (Ab (Ak 3 qn1.nd (qa4 (v2 (Ag qh5) qh3 (v2 (As qb4) Aj (vnm 0) Ac) (vnm 1))))
     (Ab (Gd (qa4 (v2 (Ag qH3) qao8 (v2 (As qb4) Aj (vnm 0) Ac) (vnm 1))) (Et (vpn 0) Ac))
     (Af (Am (emv 3)))))
     At)
     (Ab (Ak 4 qn1.nd (qa4 (v2 (Ag qh5) qh3 (v2 (Ag qn9) qn8 (v2 (Ag qg2) qg1 (v2 (As qb4) Aj (vnm 0) Ac) Ac) Ac) Ac)))
     (Ab (Ak 5 qn1.nd (qa4 (v2 (Ag qh5) qh3 (v2 (Ag qn9) qn8 (v2 (Ag qh5) qh3 (v2 (Ag qn9) qn8 (vnm 4) (vnm 4)) Ac) Ac) Ac)))
     (Ab (sif (q2 (Ap B8 (qb0 _)) Ea (vnm 1) Ac)
     (Af (Am (qa4 (v2 (Ag qh5) qh3 (v2 (Ag qg2) qg1 (v2 (Ag qn9) qn8 (vnm 5) Ac) (vnm 4)) (vnm 1)))))
     At)
     (Af (Am (qa4 (v2 (Ag qh5) qh3 (v2 (Ag qH3) qao8 (vnm 5) Ac) (vnm 1)))))))))),λ ds Q xe h=>?_⟩)
 obtain⟨b,m,ns,rfl,⟨x,y,z,rfl,B⟩,hm0,hm1,k⟩:=h;refine Aq [bagD x y z ns,.int m,.unk,.unk,.unk,.unk] rfl ?_;refine qb7 (λ ds=>∃ x' y' z' c,ds=[bagD x' y' z' ns,.int m,c,.unk,.unk,.unk]/\Bg x' y' z' ns) (λ K hK=>?_) ?_
 . refine if_v (b:=decide (x=0)) rfl (λ _=>?_) (λ _=>hK _ ⟨x,y,z,_,rfl,B⟩)
   refine qb9 [bagD x y z ns,.int m,.int 0,.unk,.unk,.unk] (λ K hK=>hK) ?_;refine qb7 (λ ds=>∃ c:Int,0<=c/\ds=[bagD x y z ns,.int m,.int c,.unk,.unk,.unk]) (λ K hK=>?_) ?_
   . refine if_v (b:=decide (z < (((ns.map D.int).length:Nat):Int))) rfl (λ h2=>?_) (λ _=>hK _ ⟨0,by decide,rfl⟩)
     obtain⟨v,hv,e⟩:=qt5 (xs:=ns.map D.int) (i:=z) B.z0 (zAo h2);obtain⟨c,hc,rfl⟩:=zB6.mp hv;exact qo8 (Ad (y:=.int z) (x:=.lst false (ns.map .int)) rfl rfl e) rfl (hK _ ⟨c,B.nn c hc,rfl⟩)
   rintro ds ⟨c,hc,rfl⟩;refine qb9 [bagD x y (z+1) ns,.int m,.int c,.unk,.unk,.unk] (λ K hK=>?_) ?_
   . exact qaN0 (k:=2) (x:=z) (y:=1) (ys:=[.int x,.int y,.int z,.lst false (ns.map .int)]) rfl rfl (by decide) rfl rfl hK
   refine qb7 (λ ds=>∃ x':Int,0<=x'/\ds=[bagD x' y (z+1) ns,.int m,.int c,.unk,.unk,.unk]) (λ K hK=>?_) ?_
   . refine if_v (b:=decide (1000000000000000000<=c)) rfl (λ _=>?_) (λ _=>hK _ ⟨x,B.x0,rfl⟩)
     exact qB8 (d:=.int c) (ys:=[.int x,.int y,.int (z+1),.lst false (ns.map .int)]) (k:=0) (n:=0) rfl rfl rfl rfl rfl (hK _ ⟨c,hc,rfl⟩)
   rintro ds ⟨x',hx',rfl⟩;have e1:f2 Hg (f2 gAdd (f2 gAdd (f2 Gq (f2 gIx (rdN 0) (kC (.int 1))) (kC (.int 48271))) (f2 Hg (rdN 2) (kC (.int 2147483647)))) (f2 Gq (kC (.int 7919)) (f2 gIx (rdN 0) (kC (.int 2))))) (kC (.int 2147483647)) [bagD x' y (z+1) ns,.int m,.int c,.unk,.unk,.unk]=some (.int ((y * 48271+c % 2147483647+7919 * (z+1)) % 2147483647)) :=
     Ad (Ad (Ad (Ad (x:=.int y) rfl rfl (mulR (by decide))) (Ad rfl rfl (Bt (by decide))) rfl) (Ad (y:=.int (z+1)) rfl rfl (Hl (by decide))) rfl) rfl (Bt (by decide))
   exact qR9 (ys:=[.int x',.int y,.int (z+1),.lst false (ns.map .int)]) (k:=1) (n:=1) e1 rfl rfl rfl (hK _ ⟨x',_,z+1,_,rfl,hx',zBo _ (by decide),zBm _ (by decide),by have:=B.z0;lia,B.nn⟩)
 rintro ds ⟨x',y',z',c,rfl,B'⟩;refine qm2 (decide (0 < x')) rfl (λ h1=>?_) λ _=>?_
 . refine qb9 [bagD x' y' z' ns,.int m,c,.int (x' % m),.unk,.unk] (λ K hK=>qa1 (Ad (x:=.int x') rfl rfl (Bt hm0)) hK) ?_
   refine qb9 [bagD (x' / m) y' z' ns,.int m,c,.int (x' % m),.unk,.unk] (λ K hK=>?_) ?_
   . exact qR9 (ys:=[.int x',.int y',.int z',.lst false (ns.map .int)]) (k:=0) (n:=0) (Ad (x:=.int x') rfl rfl (qas7 hm0 hm1)) rfl rfl rfl hK
   exact k (x' % m) _ (zBo _ (by lia)) (zBm _ hm0) ⟨_,_,_,rfl,Int.ediv_nonneg B'.x0 (by lia),B'.y0,B'.y1,B'.z0,B'.nn⟩
 have f0:0<=(y'+1) * 39373 % 1000000007:=zBo _ (by decide);have f1:(y'+1) * 39373 % 1000000007 < 1000000007:=zBm _ (by decide);refine qb9 [bagD x' y' z' ns,.int m,c,.unk,.int ((y'+1) * 39373 % 1000000007),.unk] (λ K hK=>qa1 (Ad (Ad (Ad (x:=.int y') rfl rfl rfl) rfl (mulR (by decide))) rfl (Bt (by decide))) hK) ?_;generalize (y'+1) * 39373 % 1000000007=f at f0 f1;refine qb9 [bagD x' y' z' ns,.int m,c,.unk,.int f,.int (f * f % 998244353 * 30011 % 998244353)] (λ K hK=>qa1 (Ad (Ad (Ad (Ad rfl rfl (Hl (qG0 (by lia) (by lia)))) rfl (Bt (by decide))) rfl (mulR (by decide))) rfl (Bt (by decide))) hK) ?_;generalize f * f % 998244353 * 30011 % 998244353=s;have kk:∀ v,Q (.int (v % m)) [bagD x' y' z' ns,.int m]:=λ v=>k _ _ (zBo _ (by lia)) (zBm _ hm0) ⟨_,_,_,rfl,B'⟩
 refine qm2 (decide (1000000 < m)) rfl (λ _=>?_) λ _=>?_
 . exact qg0 _ (Ad (Ad (Ad rfl rfl (mulR (by decide))) rfl rfl) rfl (Bt hm0)) (kk _)
 exact qg0 _ (Ad (Ad rfl rfl (qas7 (by decide) (by decide))) rfl (Bt hm0)) (kk _)
theorem qy5:qa9 ["_law_bag_here", "_law_most", "_law_way", "_law_rooms"] ["_law_bag_here", "_law_most"] (qa3 qT2):=by walk_at "s"
def qam0:VSp:=λ ds Q _=>∃ b ns,ds=[b,.int 64]/\isBag ns b/\∀ b' n wr,isBag ns b'->1<=n->n<=64->Q (caseD n wr []) [b',.int 64]
theorem qap0(T:Txt K mg a):VFn P w K mg base 2 a.f28 a.d28 ["_law_bag_here", "_law_most"] qam0:=by
 refine VFn.mk' T.d28.F qy5 (wOf [true,true]) (λ ds Q Q' xe xe' hQ _ ⟨b,ns,e,h1,q⟩=>⟨b,ns,e,h1,λ b' n wr a1 a2 a3=>hQ _ _ (q b' n wr a1 a2 a3)⟩) (λ ds Q xe ⟨b,ns,e,_⟩=>by rw[e];rfl) (λ ds Q xe h=>by obtain⟨b,ns,e,⟨x,y,z,eb,_⟩,_⟩:=h;rw[e,eb];rfl) (λ cdv A outer sh H E av hr=>⟨_,(Ab (Ak 2 qy5.nd (Ah T.d27 (qc3 T) qa0 (rm hr) (vaN 0 (vaV (qa4 Ac) Aa))))
     (Ab (Ak 3 qy5.nd (qc4 (vnm 1)))
     (Ab (sif (q2 (Ap Ff (qb0 _)) Fi (vnm 2) Ac)
     (Af (Ak 3 qy5.nd (e2 (Ag qg2) qg1 (qa4 Ac) (Ah T.d27 (qc3 T) qa0 (rm hr) (vaN 0 (vaV (qc4 (v2 (As qb4) Aj (Bj (qa2 Ac (qa2 Ac (qa2 (vnm 1) qa7 rfl) rfl) rfl)) (vnm 2))) Aa))))))
     At)
     (Af (Am (Gc (vaV (qc4 (vnm 3)) (vaV (e2v (Au (qi5 hr.u64) (qb0 _)) Bd (Ah T.d27 (qc3 T) qa0 (rm hr) (vaN 0 (vaV (qa4 Ac) Aa))) Ac) (vaV (qa4 (Bj qa7)) Aa))))))))),λ ds Q xe h=>?_⟩)
 obtain⟨b,ns,rfl,B,k⟩:=h;refine Aq [b,.int 64,.unk,.unk] rfl ?_;refine qb7 (λ ds=>∃ b w,ds=[b,.int 64,.int w,.unk]/\isBag ns b/\0<=w/\w < 4) (λ K hK=>?_) ?_
 . exact qe3 rfl B rfl (by decide) (by decide) λ v b' v0 v1 B'=>hK _ ⟨b',v,rfl,B',v0,v1⟩
 rintro ds ⟨b,way,rfl,B,w0,w1⟩;refine qb9 [b,.int 64,.int way,.int 64] (λ K hK=>qo8 (d:=.int 64) rfl rfl hK) ?_;refine qb7 (λ ds=>∃ b n,ds=[b,.int 64,.int way,.int n]/\isBag ns b/\1<=n/\n<=64) (λ K hK=>?_) ?_
 . refine if_v (b:=decide (way < 3)) rfl (λ hb=>?_) λ _=>hK _ ⟨b,64,rfl,B,by decide,by decide⟩
   have hb:way < 3:=zAo hb;obtain⟨d,hd,ed⟩:=qt5 (xs:=[D.int 4,D.int 8,D.int 64]) (i:=way) w0 hb;obtain⟨m,rfl,m0,m1⟩:∃ m:Int,d=.int m/\1<=m/\m<=64:=by
     simp only[zAc,zAy,zC1] at hd;rcases hd with rfl | rfl | rfl
     . exact⟨_,rfl,by decide,by decide⟩
     . exact⟨_,rfl,by decide,by decide⟩
     exact⟨_,rfl,by decide,by decide⟩
   refine qm6 (qal6 (x:=.int 1) rfl ?_);refine qR3 (ds:=[b,.int 64,.int way,.int 64]) (m:=m) rfl B (Ad rfl rfl ed) (by lia) (by lia) λ v b' v0 v1 B'=>?_
   exact qa1 (a:=D.int (1+v)) rfl (hK _ ⟨b',1+v,rfl,B',by lia,by lia⟩)
 rintro ds ⟨b,n,rfl,B,n1,n2⟩;refine qp9 (qv3 (qj5 (y:=.int n) rfl rfl (qp6 (qR7 ?_))));refine qe3 (ds:=[b,.int 64,.int way,.int n]) rfl B rfl (by decide) (by decide) λ v b' v0 v1 B'=>?_
 refine qa1 (a:=D.bl (decide (v=1))) rfl ?_;refine qc0 (y:=.lst false []) rfl (qd0 ⟨by show 3<=1000000;decide,?_⟩);exact k b' n (decide (v=1)) B' n1 n2
theorem qag8:qa9 ["_law_bag_here", "_law_rooms", "_law_home_here", "_law_way"] ["_law_bag_here", "_law_rooms", "_law_home_here"] (qa3 qam4):=by walk_at "s"
def qav7:VSp:=λ ds Q _=>∃ b n h ns,ds=[b,.int n,.int h]/\isBag ns b/\1<=n/\n<=64/\0<=h/\h < n/\∀ k b',qq5 k->isBag ns b'->Q (.int k) [b',.int n,.int h]
theorem qV3(T:Txt K mg a):VFn P w K mg base 2 a.f29 a.d29 ["_law_bag_here", "_law_rooms", "_law_home_here"] qav7:=by
 refine VFn.mk' T.d29.F qag8 (wOf [true,true,true]) (λ ds Q Q' xe xe' hQ _ h=>by obtain⟨b,n,h,ns,e,h1,h2,h3,h4,h5,q⟩:=h;exact⟨b,n,h,ns,e,h1,h2,h3,h4,h5,λ k b' l B=>hQ _ _ (q k b' l B)⟩) (λ ds Q xe h=>by obtain⟨b,n,h,ns,e,_⟩:=h;rw[e];rfl) (λ ds Q xe h=>by obtain⟨b,n,h,ns,e,⟨x,y,z,eb,_⟩,_⟩:=h;rw[e,eb];rfl) (λ cdv A outer sh H E av hr=>⟨_,(Ab (Ak 3 qag8.nd (Ah T.d27 (qc3 T) qa0 (rm hr) (vaN 0 (vaV (qa4 Ac) Aa))))
     (Ab (sif (q2 (Ap (qi5 hr.u64) (qb0 _)) Bd (vnm 3) Ac)
     (Af (Am (e2 (Ag qq3) qq2 (qa4 (v2 (Ag qq3) qq2 (Hh 1000000000000000000) (v2 (Ag qh5) qh3 (v2 (Ag qq3) qq2 (Hh 1000000000000000000) (vnm 2)) (vnm 1)))) (e2n 1 (Ag qn9) qn8 (Ah T.d27 (qc3 T) qa0 (rm hr) (vaN 0 (vaV (qa4 Ac) Aa)))))))
     At)
     (Af (Am (e2n 2 (Ag qg2) qg1 (e2n 1 (Ag qn9) qn8 (Ah T.d27 (qc3 T) qa0 (rm hr) (vaN 0 (vaV (qa4 (v2 (As qb4) Aj (Bj (qa2 Ac (qa2 Ac (qa2 Ac (qa2 Ac (qa2 (Hh 1000000000000000) qa7 rfl) rfl) rfl) rfl) rfl)) (v2 (Ag qq3) qq2 (vnm 3) Ac))) Aa))))))))),λ ds Q xe h=>?_⟩)
 obtain⟨b,n,h,ns,rfl,B,n1,n2,h0,h1,k⟩:=h;refine Aq [b,.int n,.int h,.unk] rfl ?_;refine qb7 (λ ds=>∃ b w,ds=[b,.int n,.int h,.int w]/\isBag ns b/\0<=w/\w < 6) (λ K hK=>?_) ?_
 . exact qe3 rfl B rfl (by decide) (by decide) λ v b' v0 v1 B'=>hK _ ⟨b',v,rfl,B',v0,v1⟩
 rintro ds ⟨b,way,rfl,B,w0,w1⟩;refine qm2 (decide (way=0)) rfl (λ _=>?_) λ hw=>?_
 . refine qp9 ?_
   have e0:0<=(1000000000000000000 - h) % n:=zBo _ (by lia);have e1:(1000000000000000000 - h) % n < n:=zBm _ (by lia);refine qa1 (a:=D.int (1000000000000000000 - (1000000000000000000 - h) % n)) (Ad rfl (Ad rfl rfl (Bt (by lia))) rfl) ?_;refine⟨rfl,qe3 (ds:=[b,.int n,.int h,.int way]) rfl B rfl (by decide) (by decide) λ v b' v0 v1 B'=>?_⟩;have e2:0<=n * v:=Int.mul_nonneg (by lia) v0;have e3:n * v<=64 * 8:=by
     have q1:n * v<=64 * v:=Int.mul_le_mul_of_nonneg_right n2 v0;lia
   refine qa1 (a:=D.int (n * v)) (Hl (qG0 (by lia) (by lia))) (qa1 (a:=D.int (1000000000000000000 - (1000000000000000000 - h) % n - n * v)) rfl ?_);exact k _ _ (.inr ⟨by lia,by lia⟩) B'
 have hw:¬ way=0:=zBy hw;obtain⟨f,hf,ef⟩:=qt5 (xs:=[D.int 9,D.int 9,D.int 9,D.int 9,D.int 1000000000000000]) (i:=way - 1) (by lia) (by show way - 1 < 5;lia);obtain⟨g,rfl,g0,g1⟩:∃ g:Int,f=.int g/\0 < g/\g<=1000000000000000:=by
   simp only[zAc,zAy,zC1] at hf;rcases hf with rfl | rfl | rfl | rfl | rfl
   . exact⟨9,rfl,by decide,by decide⟩
   . exact⟨9,rfl,by decide,by decide⟩
   . exact⟨9,rfl,by decide,by decide⟩
   . exact⟨9,rfl,by decide,by decide⟩
   exact⟨_,rfl,by decide,by decide⟩
 refine qp9 ⟨rfl,rfl,?_⟩;refine qe3 (ds:=[b,.int n,.int h,.int way]) (m:=g) rfl B (Ad (x:=.lst false [.int 9,.int 9,.int 9,.int 9,.int 1000000000000000]) (y:=.int (way - 1)) rfl rfl ef) g0 (Int.lt_of_le_of_lt g1 (by decide)) λ v b' v0 v1 B'=>?_
 have e2:0<=n * v:=Int.mul_nonneg (by lia) v0;have e3:n * v<=64 * 1000000000000000:=by
   have q1:n * v<=64 * v:=Int.mul_le_mul_of_nonneg_right n2 v0;lia
 refine qa1 (a:=D.int (n * v)) (Hl (qG0 (by lia) (by lia))) (qa1 (a:=D.int (h+n * v)) rfl ?_);exact k _ _ (.inl ⟨by lia,by lia⟩) B'
theorem qd2:qa9 ["_law_bag_here", "_law_case_here", "_law_many", "_law_rooms", "_law_way", "_law_homes", "_law_found", "_law_k", "_law_home_here", "_law_key_here", "_law_told"] ["_law_bag_here", "_law_case_here", "_law_many"] (qa3 qT0):=by walk_at "s"
def qal8:VSp:=λ ds Q _=>∃ b n wr m ns,ds=[b,caseD n wr [],.int m]/\isBag ns b/\1<=n/\n<=64/\0<=m/\m<=100 /\
 ∀ b' ks ps,isBag ns b'->ks.Nodup->(∀ k∈ks,qq5 k)->(ks.length:Int)<=m->(1<=m->ks≠[])->Drawn ks ps->Q (.lst false (ksD ks)) [b',caseD n wr ps,.unk]
theorem qaM6{j:Int}(h:0<=j):gSl (.lst false (ksD ks)) none (some j)=some (.lst false (ksD (ks.take j.toNat))):=by
 have e:B7 (ksD ks) none (some j)=ksD (ks.take j.toNat):=by
   rw[show j=((j.toNat:Nat):Int) by lia,qN6,Int.toNat_natCast];unfold ksD;rw[List.map_take]
 show gd (D.imms (B7 (ksD ks) none (some j))=true) (.lst false (B7 (ksD ks) none (some j)))=_;rw[e];exact qk8 (qf2 _)
theorem qao9(T:Txt K mg a):VFn P w K mg base 3 a.f30 a.d30 ["_law_bag_here", "_law_case_here", "_law_many"] qal8:=by
 refine VFn.mk' T.d30.F qd2 (wOf [true,true,true]) (λ ds Q Q' xe xe' hQ _ h=>by obtain⟨b,n,wr,m,ns,e,h1,h2,h3,h4,h5,q⟩:=h;exact⟨b,n,wr,m,ns,e,h1,h2,h3,h4,h5,λ b' ks ps a1 a2 a3 a4 a5 a6=>hQ _ _ (q b' ks ps a1 a2 a3 a4 a5 a6)⟩) (λ ds Q xe h=>by obtain⟨b,n,wr,m,ns,e,_⟩:=h;rw[e];rfl) (λ ds Q xe h=>by obtain⟨b,n,wr,m,ns,e,⟨x,y,z,eb,_⟩,_⟩:=h;rw[e,eb];rfl) (λ cdv A outer sh H E av hr=>⟨_,(Ab (Ak 3 qd2.nd (qc4 (v2 (As qb4) Aj (vnm 1) Ac)))
     (Ab (Ak 4 qd2.nd (Ah T.d27 (qc3 T) qa0 (rm hr) (vaN 0 (vaV (qa4 Ac) Aa))))
     (Ab (Ak 5 qd2.nd (Gc (vaV (Ah T.d27 (qc3 T) qa0 (rm hr) (vaN 0 (vaN 3 Aa))) (vaV (Ah T.d27 (qc3 T) qa0 (rm hr) (vaN 0 (vaN 3 Aa))) Aa))))
     (Ab (Ak 6 qd2.nd (qa4 (Bj qa7)))
     (Ab (qS6 PassesOwn.leaving T.Ch (Eo (vaN 2 Aa)) (A9 7 qd2.nd)
     (Ab (Ak 8 qd2.nd (Ah T.d27 (qc3 T) qa0 (rm hr) (vaN 0 (vaN 3 Aa))))
     (Ab (sif (q2 (Ap (qi5 hr.u64) (qb0 _)) Bd (vnm 4) Ac)
     (Af (Ak 8 qd2.nd (qa4 (v2 (Ag qq3) qq2 (v2 (Ag qq3) qq2 (vnm 3) Ac) (v2 (Ag qH3) qao8 (vnm 8) Ac)))))
     At)
     (Ab (sif (q2 (Ap (qi5 hr.u64) (qb0 _)) Bd (vnm 4) Ac)
     (Af (Ak 8 qd2.nd (qc4 (v2 (As qb4) Aj (vnm 5) (v2 (Ag qh5) qh3 (vnm 8) Ac)))))
     At)
     (Ab (sif (tand (q2 (Ap (qi5 hr.u64) (qb0 _)) Bd (vnm 4) Ac) (G5 (q2 (Ap B8 (qb0 _)) Ea (v2 (Ag qh5) qh3 (vnm 8) Ac) Ac))).te
     (Af (Ak 8 qd2.nd (qc4 (v2 (As qb4) Aj (vnm 5) Ac))))
     At)
     (Ab (Ak 9 qd2.nd (Ah T.d29 (qV3 T) qa0 (rm hr) (vaN 0 (vaN 3 (vaN 8 Aa)))))
     (Af (sif (q2 (Ap qH2 (by with_unfolding_all rfl)) os_in (vnm 9) (vnm 6))
     (Af (Bw (Im 6 qac9 PySem.F.plainAttrs_list PySem.F.slot_list_append PySem.F.type_list_append ql6 (vaN 9 Aa))))
     At))))))))
     (Ab (Ak 10 qd2.nd (Ah T.d27 (qc3 T) qa0 (rm hr) (vaN 0 (vaV (qa4 Ac) Aa))))
     (Ab (Gg PassesOwn.leaving (qa4 (vsl (vnm 6) G6 (G7 (v2 (As qb4) Aj (Bj (qa2 Ac (qa2 Ac (qa2 Ac (qa2 Ac (qa2 Ac (qa2 Ac (qa2 Ac (qa2 Ac (qa2 Ac (qa2 Ac qa7 rfl) rfl) rfl) rfl) rfl) rfl) rfl) rfl) rfl) rfl)) (vnm 10))))) (A9 9 qd2.nd)
     (Af (Bw (emutP qac9 PySem.F.plainAttrs_list PySem.F.slot_list_append PySem.F.type_list_append ql6 (vpix (vpn 1) Ac) (vaV (etup (vaV (qc4 (vnm 9)) (vaV (Ah T.d29 (qV3 T) qa0 (rm hr) (vaN 0 (vaN 3 (vaV (Ah T.d27 (qc3 T) qa0 (rm hr) (vaN 0 (vaN 3 Aa))) Aa)))) Aa))) Aa)))))
     (Ab (qS6 PassesOwn.leaving T.Ch (Eo (vaV (qa4 (v2 (Ag qh5) qh3 (vnm 10) Ac)) Aa)) (A9 7 qd2.nd)
     (Af (Bw (emutP qaJ3 PySem.F.plainAttrs_list PySem.F.slot_list_insert PySem.F.type_list_insert qad0 (vpix (vpn 1) Ac) (vaV (qa4 Ac) (vaV (etup (vaV (qa4 (v2 (Ag qg2) qg1 (v2 (Ag qg2) qg1 (v2 (Ag qn9) qn8 Ac (Hh 100000000000000000)) (v2 (Ag qn9) qn8 Ac (vnm 7))) (vnm 10))) (vaV (Ah T.d29 (qV3 T) qa0 (rm hr) (vaN 0 (vaN 3 (vaV (qa4 Ac) Aa)))) Aa))) Aa))))))
     (Af (Am (emv 6))))))))))),λ ds Q xe h=>?_⟩)
 obtain⟨b,n,wr,m,ns,rfl,B,n1,n2,m0,m1,q⟩:=h;refine Aq [b,caseD n wr [],.int m,.unk,.unk,.unk,.unk,.unk,.unk,.unk,.unk] rfl ?_;refine qb9 [b,caseD n wr [],.int m,.int n,.unk,.unk,.unk,.unk,.unk,.unk,.unk] (λ K hK=>qo8 (d:=.int n) rfl rfl hK) ?_;refine qb7 (λ ds=>∃ b w,ds=[b,caseD n wr [],.int m,.int n,.int w,.unk,.unk,.unk,.unk,.unk,.unk]/\isBag ns b/\0<=w/\w < 4) (λ K hK=>?_) ?_
 . exact qe3 rfl B rfl (by decide) (by decide) λ v b' v0 v1 B'=>hK _ ⟨b',v,rfl,B',v0,v1⟩
 rintro ds ⟨b,way,rfl,B,w0,w1⟩;refine qb7 (λ ds=>∃ b g1 g2,ds=[b,caseD n wr [],.int m,.int n,.int way,.lst false [.int g1,.int g2],.unk,.unk,.unk,.unk,.unk]/\isBag ns b/\0<=g1/\g1 < n/\0<=g2/\g2 < n) (λ K hK=>?_) ?_
 . refine qK0 (ds:=[b,caseD n wr [],.int m,.int n,.int way,.unk,.unk,.unk,.unk,.unk,.unk]) (m:=n) rfl B rfl (by decide) (by lia) (by lia) λ g1 b1 a0 a1 B1=>?_
   refine qK0 (ds:=[b1,caseD n wr [],.int m,.int n,.int way,.unk,.unk,.unk,.unk,.unk,.unk]) (m:=n) rfl B1 rfl (by decide) (by lia) (by lia) λ g2 b2 c0 c1 B2=>?_
   exact⟨by show 2<=1000000;decide,hK _ ⟨b2,g1,g2,rfl,B2,a0,a1,c0,c1⟩⟩
 rintro ds ⟨b,g1,g2,rfl,B,a0,a1,c0,c1⟩;refine qb9 [b,caseD n wr [],.int m,.int n,.int way,.lst false [.int g1,.int g2],.lst false (ksD []),.unk,.unk,.unk,.unk] (λ K hK=>hK) ?_;refine qb7 (λ ds=>∃ b ks d7 d8 d9,ds=[b,caseD n wr [],.unk,.int n,.int way,.lst false [.int g1,.int g2],.lst false (ksD ks),d7,d8,d9,.unk]/\isBag ns b/\ks.Nodup/\(∀ k∈ks,qq5 k)/\ks.length<=m.toNat/\(1<=m.toNat->ks≠[])) (λ K hK=>?_) ?_
 . refine qae6 (n:=m) rfl (qz8 (by lia) (by lia)) ?_
   refine qc5 (λ i ds=>∃ b ks d7 d8 d9,ds=[b,caseD n wr [],.unk,.int n,.int way,.lst false [.int g1,.int g2],.lst false (ksD ks),d7,d8,d9,.unk]/\isBag ns b/\ks.Nodup/\(∀ k∈ks,qq5 k)/\ks.length<=i/\(1<=i->ks≠[])) _ 0 _ ⟨b,[],_,_,_,rfl,B,List.nodup_nil,λ _ h=>by simp at h,zA5 _,λ h=>absurd h (by decide)⟩ ?_ ?_
   . rintro i x hx ds ⟨b,ks,d7,d8,d9,rfl,B,nd,lk,hlen,hne⟩ K2 hK2
     rw[zB3] at hlen hne hK2;obtain⟨hi,rfl⟩:=qP3 hx;refine Aq [b,caseD n wr [],.unk,.int n,.int way,.lst false [.int g1,.int g2],.lst false (ksD ks),.int (i:Nat),d8,d9,.unk] rfl ?_;refine qb7 (λ ds=>∃ b h,ds=[b,caseD n wr [],.unk,.int n,.int way,.lst false [.int g1,.int g2],.lst false (ksD ks),.int (i:Nat),.int h,d9,.unk]/\isBag ns b/\0<=h/\h < n) (λ K hK=>?_) ?_
     . exact qK0 (m:=n) rfl B rfl (by decide) (by lia) (by lia) λ v b' v0 v1 B'=>hK _ ⟨b',v,rfl,B',v0,v1⟩
     rintro ds ⟨b,h,rfl,B,h0,h1⟩;refine qb7 (λ ds=>∃ h,ds=[b,caseD n wr [],.unk,.int n,.int way,.lst false [.int g1,.int g2],.lst false (ksD ks),.int (i:Nat),.int h,d9,.unk]/\0<=h/\h < n) (λ K hK=>?_) ?_
     . refine if_v (b:=decide (way=1)) rfl (λ _=>?_) λ _=>hK _ ⟨h,rfl,h0,h1⟩
       exact qo7 (d:=.int (n - 1 - h / 3)) (Ad (x:=.int (n - 1)) rfl (Ad (x:=.int h) (y:=.int 3) rfl rfl (qas7 (by decide) (by decide))) rfl) (hK _ ⟨_,rfl,by lia,by lia⟩)
     rintro ds ⟨h,rfl,h0,h1⟩;refine qb7 (λ ds=>∃ h,ds=[b,caseD n wr [],.unk,.int n,.int way,.lst false [.int g1,.int g2],.lst false (ksD ks),.int (i:Nat),.int h,d9,.unk]/\0<=h/\h < n) (λ K hK=>?_) ?_
     . refine if_v (b:=decide (way=2)) rfl (λ _=>?_) λ _=>hK _ ⟨h,rfl,h0,h1⟩
       obtain⟨v,hv,ev⟩:=qt5 (xs:=[D.int g1,D.int g2]) (i:=h % 2) (zBo _ (by decide)) (by show h % 2 < 2;lia);simp only[zAc,zAy,zC1] at hv;rcases hv with rfl | rfl
       . exact qo8 (Ad (x:=.lst false [.int g1,.int g2]) rfl (Ad (x:=.int h) (y:=.int 2) rfl rfl (Bt (by decide))) ev) rfl (hK _ ⟨g1,rfl,a0,a1⟩)
       exact qo8 (Ad (x:=.lst false [.int g1,.int g2]) rfl (Ad (x:=.int h) (y:=.int 2) rfl rfl (Bt (by decide))) ev) rfl (hK _ ⟨g2,rfl,c0,c1⟩)
     rintro ds ⟨h,rfl,h0,h1⟩;refine qb7 (λ ds=>∃ h,ds=[b,caseD n wr [],.unk,.int n,.int way,.lst false [.int g1,.int g2],.lst false (ksD ks),.int (i:Nat),.int h,d9,.unk]/\0<=h/\h < n) (λ K hK=>?_) ?_
     . refine Fo (decide (way=3)&&decide (0 < h % 3)) (λ Q q=>qi2 (decide (way=3)) (decide (0 < h % 3)) (λ Q q=>qi0 rfl q) (λ _ Q q=>qi0 (Ad (Ad (x:=.int h) (y:=.int 3) rfl rfl (Bt (by decide))) rfl rfl) q) q) (λ _=>?_) λ _=>hK _ ⟨h,rfl,h0,h1⟩
       exact qo8 (d:=.int g1) rfl rfl (hK _ ⟨g1,rfl,a0,a1⟩)
     rintro ds ⟨h,rfl,h0,h1⟩;refine qb7 (λ ds=>∃ b kk,ds=[b,caseD n wr [],.unk,.int n,.int way,.lst false [.int g1,.int g2],.lst false (ksD ks),.int (i:Nat),.int h,.int kk,.unk]/\isBag ns b/\qq5 kk) (λ K hK=>?_) ?_
     . exact qJ6 (x:=b) (y:=.int n) (w:=.int h) (qb6 rfl B.known) rfl rfl rfl (qb6 rfl B.known) ⟨b,n,h,ns,rfl,B,n1,n2,h0,h1,λ kk b' l B'=>hK _ ⟨b',kk,rfl,B',l⟩⟩
     rintro ds ⟨b,kk,rfl,B,l⟩;refine if_v (b:=!decide (kk∈ks)) (Ad rfl rfl qap4) (λ hb=>?_) λ hb=>?_
     . have hm:¬ kk∈ks:=λ z=>by rw[zA8 z] at hb;cases hb
       refine qaN3 (ys:=ksD ks) (d:=.int kk) rfl rfl rfl (by decide) (by rw[qi1];unfold big;lia) ?_;rw[qaA8];refine hK2 _ ⟨b,ks++[kk],_,_,_,rfl,B,zBt.mpr ⟨nd,(by simp),λ x hx y hy e=>hm (by rw[<- zAn.mp hy,<- e];exact hx)⟩,λ x hx=>?_,by rw[zAj];exact Nat.add_le_add_right hlen 1,λ _=>by simp⟩;rcases zAf.mp hx with h | h
       . exact lk x h
       rw[zAn.mp h];exact l
     have hm:kk∈ks:=by
       by_cases z:kk∈ks
       . exact z
       rw[zAp z] at hb;cases hb
     exact hK2 _ ⟨b,ks,_,_,_,rfl,B,nd,lk,by lia,λ _ e=>by rw[e] at hm;simp at hm⟩
   rintro ds ⟨b,ks,d7,d8,d9,rfl,h⟩;rw[zB3,qw9] at h;exact hK _ ⟨b,ks,d7,d8,d9,rfl,h⟩
 rintro ds ⟨b,ks,d7,d8,d9,rfl,B,nd,lk,hlen,hne⟩;refine qb7 (λ ds=>∃ b told,ds=[b,caseD n wr [],.unk,.int n,.int way,.lst false [.int g1,.int g2],.lst false (ksD ks),d7,d8,d9,.int told]/\isBag ns b/\0<=told/\told < 10) (λ K hK=>?_) ?_
 . exact qe3 rfl B rfl (by decide) (by decide) λ v b' v0 v1 B'=>hK _ ⟨b',v,rfl,B',v0,v1⟩
 rintro ds ⟨b,told,rfl,B,t0,t1⟩;obtain⟨v,hv,ev⟩:=qt5 (xs:=[D.int 0,.int 0,.int 0,.int 0,.int 1,.int 1,.int 2,.int 3,.int 3,.int 12]) t0 t1;obtain⟨j,rfl,j0,j1⟩:∃ j:Int,v=.int j/\0<=j/\j<=12:=by
   simp only[zAc,zAy,zC1] at hv;rcases hv with rfl | rfl | rfl | rfl | rfl | rfl | rfl | rfl | rfl | rfl
   all_goals exact⟨_,rfl,by decide,by decide⟩
 have hlj:(ks.take j.toNat).length<=12:=by rw[zBs];lia
 refine qb7 (λ ds=>∃ b ps d9,ds=[b,caseD n wr ps,.unk,.int n,.int way,.lst false [.int g1,.int g2],.lst false (ksD ks),d7,d8,d9,.int told]/\isBag ns b/\ps.map (·.1)=ks.take j.toNat/\∀ q∈ps,qq5 q.2) (λ K hK=>?_) ?_
 . refine qa1 (a:=D.lst false (ksD (ks.take j.toNat))) ?_ (qa1 (a:=ksD (ks.take j.toNat)) rfl ⟨qf2 _,?_⟩)
   . show (((f2 gIx (Ax gLst _) (rdN 10) [b,caseD n wr [],.unk,.int n,.int way,.lst false [.int g1,.int g2],.lst false (ksD ks),d7,d8,d9,.int told]).bind λ d=>d.asI.map some).bind λ h=>gSl (.lst false (ksD ks)) none h)=_
     rw[Ad (x:=.lst false [D.int 0,.int 0,.int 0,.int 0,.int 1,.int 1,.int 2,.int 3,.int 3,.int 12]) (y:=.int told) rfl rfl ev];exact qaM6 j0
   refine qc5 (λ i ds=>∃ b ps d9,ds=[b,caseD n wr ps,.unk,.int n,.int way,.lst false [.int g1,.int g2],.lst false (ksD ks),d7,d8,d9,.int told]/\isBag ns b/\ps.map (·.1)=(ks.take j.toNat).take i/\∀ q∈ps,qq5 q.2) _ 0 _ ⟨b,[],d9,rfl,B,rfl,λ _ h=>by simp at h⟩ ?_ ?_
   . rintro i x hx ds ⟨b,ps,d9,rfl,B,hps,hq2⟩ K2 hK2
     rw[zB3] at hps hK2;obtain⟨key,hkey,rfl⟩:=qaq6 hx;have hpl:ps.length<=12:=by
       have q2:=congrArg List.length hps;rw[zAe,zBs] at q2;lia
     refine qi7 (qm4 ?_);refine qai6 (i:=1) (p:=[2]) (ys:=prD ps) (d0:=caseD n wr ps) rfl rfl rfl ?_;refine qag5 (qj5 (y:=.int key) rfl rfl (qp6 ?_));refine qb5 (x:=b) (qb6 rfl B.known) (qb5 (x:=.int n) rfl (qK0 (m:=n) rfl B rfl (by decide) (by lia) (by lia) λ h b1 h0 h1 B1=>?_));refine qd0 ?_;refine qa1 (a:=D.int n) rfl ?_;refine qa1 (a:=b1) (qb6 rfl B1.known) ⟨b1,n,h,ns,rfl,B1,n1,n2,h0,h1,λ kk b2 l B2=>?_⟩;refine⟨by show 2<=1000000;decide,qa1 (a:=(prD ps++[D.tup [D.int key,D.int kk]],D.non)) (if_pos (by unfold prD;rw[zAe];unfold big;lia)) ?_⟩;have e:prD ps++[.tup [.int key,.int kk]]=prD (ps++[(key,kk)]):=by unfold prD;rw[zBp];rfl
     rw[e];refine hK2 _ ⟨b2,ps++[(key,kk)],_,rfl,B2,?_,?_⟩
     . rw[zBp,hps,List.take_add_one,hkey]
       rfl
     intro q hq;rcases zAf.mp hq with hq | hq
     . exact hq2 q hq
     rw[zAn.mp hq];exact l
   rintro ds ⟨b,ps,d9,rfl,B,hps,hq2⟩;rw[zB3,qi1,List.take_length] at hps;exact hK _ ⟨b,ps,d9,rfl,B,hps,hq2⟩
 rintro ds ⟨b,ps,d9,rfl,B,hps,hq2⟩;have hpl:ps.length<=12:=by
   have q2:=congrArg List.length hps;rw[zAe] at q2;lia
 have hnd:(ps.map (·.1)).Nodup:=by
   rw[hps];exact nd.sublist (zBv _ _)
 have h3:0<=told % 3:=zBo told (by decide);have h4:told % 3 < 3:=zBm told (by decide);refine qb7 (λ ds=>∃ b ps d7,ds=[b,caseD n wr ps,.unk,.int n,.int way,.lst false [.int g1,.int g2],.lst false (ksD ks),d7,d8,d9,.int told]/\isBag ns b/\Drawn ks ps) (λ K hK=>?_) ?_
 . refine qM7 (n:=told % 3) (Ad rfl rfl (Bt (by decide))) (qz8 (by lia) (by lia)) ?_
   refine qc5 (λ i ds=>∃ b ps d7,ds=[b,caseD n wr ps,.unk,.int n,.int way,.lst false [.int g1,.int g2],.lst false (ksD ks),d7,d8,d9,.int told]/\isBag ns b/\ps.length<=12+i/\(ps.map (·.1)).Nodup/\(∀ q∈ps,qq5 q.2)/\(∀ q∈ps,q.1∈ks∨(300000000000000000<=q.1/\q.1 < 300000000000000000+64 * (i:Int)+told))) _ 0 _ ⟨b,ps,d7,rfl,B,by lia,hnd,hq2,λ q hq=>.inl ?_⟩ ?_ ?_
   . have:q.1∈ps.map (·.1):=zB6.mpr ⟨q,hq,rfl⟩
     rw[hps] at this;exact List.mem_of_mem_take this
   . rintro i x hx ds ⟨b,ps,d7,rfl,B,hlen9,hnd9,hq9,hk9⟩ K2 hK2
     rw[zB3] at hlen9 hk9 hK2;obtain⟨hi,rfl⟩:=qP3 hx;refine qi7 (qm4 ?_);refine qai6 (i:=1) (p:=[2]) (ys:=prD ps) (d0:=caseD n wr ps) rfl rfl rfl ?_;refine qc0 (y:=.int 0) rfl (qag5 (qc0 (y:=.int (3 * 100000000000000000+64 * (i:Int)+told)) (Ad (x:=.int (3 * 100000000000000000+64 * (i:Int))) (Ad (Ad (x:=.int 3) rfl rfl (Hl (by decide))) (Ad (x:=.int 64) rfl rfl (Hl (by decide))) rfl) rfl rfl) (qp6 ?_)));refine qb5 (x:=b) (qb6 rfl B.known) (qb5 (x:=.int n) rfl (qc0 (y:=.int 0) rfl ?_));refine qd0 ?_;refine qa1 (a:=D.int n) rfl ?_;refine qa1 (a:=b) (qb6 rfl B.known) ⟨b,n,0,ns,rfl,B,n1,n2,by decide,by lia,λ kk b2 l B2=>?_⟩;refine⟨by show 2<=1000000;decide,qa1 (a:=(D.tup [D.int (3 * 100000000000000000+64 * (i:Int)+told),D.int kk]::prD ps,D.non)) (if_pos ⟨by decide,by decide,by unfold prD;rw[zAe];unfold big;lia⟩) ?_⟩;have hnew:¬ (3 * 100000000000000000+64 * (i:Int)+told)∈ps.map (·.1):=λ z=>by
       obtain⟨q,hq,e⟩:=zB6.mp z;rcases hk9 q hq with hh | hh
       . have:=lk _ hh
         rw[e] at this;rcases this with w | w<;>lia
       lia
     refine hK2 _ ⟨b2,(3 * 100000000000000000+64 * (i:Int)+told,kk)::ps,_,rfl,B2,by rw[zAk];lia,by rw[zAz];exact zBr.mpr ⟨hnew,hnd9⟩,?_,?_⟩
     . intro q hq
       rcases zAc.mp hq with rfl | hq
       . exact l
       exact hq9 q hq
     intro q hq;rcases zAc.mp hq with rfl | hq
     . refine .inr ⟨?_,?_⟩
       . show 300000000000000000<=3 * 100000000000000000+64 * (i:Int)+told
         lia
       show 3 * 100000000000000000+64 * (i:Int)+told < 300000000000000000+64 * ((i+1:Nat):Int)+told;lia
     rcases hk9 q hq with z | z
     . exact .inl z
     exact .inr ⟨z.1,by lia⟩
   rintro ds ⟨b,ps,d7,rfl,B,hlen9,hnd9,hq9,hk9⟩;rw[zB3,qw9] at hlen9 hk9;refine hK _ ⟨b,ps,d7,rfl,B,by lia,hnd9,λ q hq=>?_,hq9⟩;rcases hk9 q hq with z | z
   . exact .inl z
   exact .inr ⟨z.1,by lia⟩
 rintro ds ⟨b,ps,d7,rfl,B,Dr⟩;exact q b ks ps B nd lk (by lia) (λ h=>hne (by lia)) Dr
theorem qam2:qa9 ["_law_case_here", "_law_key_here"] ["_law_case_here", "_law_key_here"] (qa3 qT1):=by walk_at "s"
def qal9:VSp:=A5 λ ds d=>∃ n wr ps k,ds=[caseD n wr ps,.int k]/\1<=n/\(ps.map (·.1)).Nodup/\d=.int (qc1 n ps k)
theorem qH7(T:Txt K mg a):VFn P w K mg base 1 a.f31 a.d31 ["_law_case_here", "_law_key_here"] qal9:=by
 refine VFn.mk2 T.d31.F qam2 (wOf [true,true]) qc2 (λ ds Q xe h=>by obtain⟨d,⟨n,wr,ps,k,e,_⟩,_⟩:=h;rw[e];exact⟨rfl,rfl⟩) (λ cdv A outer sh H E av hr=>⟨_,(Af (Am (qa4 (v2 (Ag qh5) qh3 (vget (hu_of hr) (Fa (qE5 rfl) qaj9.ops T.Dk (qa2 (v2 (As qb4) Aj (vnm 0) Ac) qa7 rfl)) (vnm 1) (vnm 1) ⟨rfl,rfl,rfl,rfl⟩) (v2 (As qb4) Aj (vnm 0) Ac))))),λ ds Q xe h=>?_⟩);obtain⟨d,⟨n,wr,ps,k,rfl,n1,nd,rfl⟩,q⟩:=h;have ed:Ax (fx1 G4) (Aw (f2 gIx (rdN 0) (kC (.int 2))) λ _=>some []) [caseD n wr ps,.int k]=some (.dct false (kvD ps)):=by
   show G4 (.lst false (prD ps))=_;exact qaj8 nd
 exact qg0 _ (Ad (qX6 ed rfl) (y:=.int n) rfl (Bt (by lia))) q
theorem qag9:qa9 ["_law_case_here", "_law_key_here", "_law_room", "_law_way"] ["_law_case_here", "_law_key_here", "_law_room"] (qa3 qam5):=by walk_at "s"
def qav8:VSp:=A5 λ ds d=>∃ n wr ps k r,ds=[caseD n wr ps,.int k,.int r]/\1<=n/\(ps.map (·.1)).Nodup/\d=Fc (A7 n wr ps k r)
theorem qai5(T:Txt K mg a):VFn P w K mg base 2 a.f32 a.d32 ["_law_case_here", "_law_key_here", "_law_room"] qav8:=by
 refine VFn.mk2 T.d32.F qag9 (wOf [true,true,true]) qc2 (λ ds Q xe h=>by obtain⟨d,⟨n,wr,ps,k,r,e,_⟩,_⟩:=h;rw[e];exact⟨rfl,rfl⟩) (λ cdv A outer sh H E av hr=>⟨_,(Ab (Ak 3 qag9.nd (e2n 2 (Ag qq3) qq2 (Ah T.d31 (qH7 T) qa0 (rm hr) (vaN 0 (vaN 1 Aa)))))
     (Ab (sif (tv (v2 (As qb4) Aj (vnm 0) Ac))
     (Af (Am (qa4 (v2 (Ag qh5) qh3 (vnm 3) (v2 (As qb4) Aj (vnm 0) Ac)))))
     At)
     (Af (Am (qa4 (v2 (As qb4) Aj (Bj (qa2 (vnm 3) (qa2 Bl qa7 rfl) rfl)) (Fa qag2 qaM8.ops T.Dq (qa2 (v2 (Au Ff (qb0 _)) Fi (vnm 3) Ac) qa7 rfl)))))))),λ ds Q xe h=>?_⟩)
 obtain⟨d,⟨n,wr,ps,k,r,rfl,n1,nd,rfl⟩,q⟩:=h;refine Aq [caseD n wr ps,.int k,.int r,.unk] rfl ?_;refine qb9 [caseD n wr ps,.int k,.int r,.int (r - qc1 n ps k)] (λ K hK=>⟨rfl,qW5 (x:=caseD n wr ps) (y:=.int k) (d:=.int (qc1 n ps k)) rfl rfl rfl ⟨n,wr,ps,k,rfl,n1,nd,rfl⟩ rfl (qa1 (a:=D.int (r - qc1 n ps k)) rfl hK)⟩) ?_;unfold A7 at q;refine qm2 wr rfl (λ h=>?_) (λ h=>?_)
 . subst h
   exact qg0 (.int ((r - qc1 n ps k) % n)) (Ad rfl (y:=.int n) rfl (Bt (by lia))) q
 subst h;rw[if_neg (by decide)] at q;by_cases h0:0<=r - qc1 n ps k
 . rw[if_pos h0] at q
   refine qg0 (.int (r - qc1 n ps k)) (Ad (x:=.lst false [.int (r - qc1 n ps k),.non]) (y:=.int 0) rfl ?_ rfl) q;show some (D.int (if decide (r - qc1 n ps k < 0)=true then 1 else 0))=_;rw[if_neg (by simpa using h0)]
 rw[if_neg h0] at q;refine qg0 .non (Ad (x:=.lst false [.int (r - qc1 n ps k),.non]) (y:=.int 1) rfl ?_ rfl) q;show some (D.int (if decide (r - qc1 n ps k < 0)=true then 1 else 0))=_;rw[if_pos (zA8 (by lia))]
theorem qy6:qa9 ["_law_case_here", "_law_room", "_law_one", "_law_other", "_law_mine", "_law_others_here"] ["_law_case_here", "_law_room", "_law_one", "_law_other"] (qa3 qG9):=by walk_at "s"
def qab2:VSp:=A5 λ ds d=>∃ n wr ps r x y,ds=[caseD n wr ps,.int r,.int x,.int y]/\1<=n/\(ps.map (·.1)).Nodup/\d=.bl (qg4 n wr ps r x y)
theorem qac6(T:Txt K mg a):VFn P w K mg base 3 a.f33 a.d33 ["_law_case_here", "_law_room", "_law_one", "_law_other"] qab2:=by
 refine VFn.mk2 T.d33.F qy6 (wOf [true,true,true,true]) qc2 (λ ds Q xe h=>by obtain⟨d,⟨n,wr,ps,r,x,y,e,_⟩,_⟩:=h;rw[e];exact⟨rfl,rfl⟩) (λ cdv A outer sh H E av hr=>⟨_,(Ab (Ak 4 qy6.nd (Ah T.d32 (qai5 T) qa0 (rm hr) (vaN 0 (vaN 2 (vaN 1 Aa)))))
     (Ab (Ak 5 qy6.nd (Ah T.d32 (qai5 T) qa0 (rm hr) (vaN 0 (vaN 3 (vaN 1 Aa)))))
     (Ab (sif (tor (q2 (Ap Gb (qb0 _)) Ga (vnm 4) Bl) (Gs (q2 (Ap Gb (qb0 _)) Ga (vnm 5) Bl))).te
     (Af (Am (qa4 (v2 (Au qV0 (qb0 _)) qU9 (vnm 4) Bl))))
     At)
     (Af (Am (qa4 (vor (v2 (Au B8 (qb0 _)) Ea (vnm 4) (vnm 5)) (Gv (Ik (v2 (Au (qi5 hr.u64) (qb0 _)) Bd (vnm 4) (vnm 5)) (Gv (v2 (Au Ff (qb0 _)) Fi (vnm 2) (vnm 3)))))))))))),λ ds Q xe h=>?_⟩)
 obtain⟨d,⟨n,wr,ps,r,x,y,rfl,n1,nd,rfl⟩,q⟩:=h;refine Aq [caseD n wr ps,.int r,.int x,.int y,.unk,.unk] rfl ?_;refine qb9 [caseD n wr ps,.int r,.int x,.int y,Fc (A7 n wr ps x r),.unk] (λ K hK=>qC8 (x:=caseD n wr ps) (y:=.int x) (w:=.int r) rfl rfl rfl rfl rfl ⟨n,wr,ps,x,r,rfl,n1,nd,rfl⟩ rfl hK) ?_;refine qb9 [caseD n wr ps,.int r,.int x,.int y,Fc (A7 n wr ps x r),Fc (A7 n wr ps y r)] (λ K hK=>qC8 (x:=caseD n wr ps) (y:=.int y) (w:=.int r) rfl rfl rfl rfl rfl ⟨n,wr,ps,y,r,rfl,n1,nd,rfl⟩ rfl hK) ?_;unfold qg4 at q;cases ex:A7 n wr ps x r with
 | none =>
   rw[ex] at q;exact qe2 true (λ Q q=>q) (λ _=>q) λ h=>nomatch h
 | some f =>
   rw[ex] at q;cases ey:A7 n wr ps y r with
   | none =>
     rw[ey] at q;exact qe2 true (λ Q q=>q) (λ _=>q) λ h=>nomatch h
   | some g =>
     rw[ey] at q;refine qe2 false (λ Q q=>q) (λ h=>nomatch h) λ _=>?_
     exact qg0 _ (qaC9 (a:=decide (g < f)) rfl (qN1 (a:=decide (f=g)) (b:=decide (x < y)) rfl rfl)) q
theorem qw3:qa9 ["_law_case_here", "_law_rooms", "_law_key_here", "_law_room", "_law_step"] ["_law_case_here", "_law_rooms", "_law_key_here"] (qa3 qam3):=by walk_at "s"
def qS3:VSp:=λ ds Q _=>∃ n wr ps g S key,ds=[caseD n wr ps,.lst false (rlD n.toNat g),.int key]/\1<=n/\n<=64/\(ps.map (·.1)).Nodup/\Kept n.toNat wr (hmOf n ps) g S/\¬ key∈S /\
 (∀ g',Kept n.toNat wr (hmOf n ps) g' (S++[key])->Q (.bl true) [caseD n wr ps,.lst false (rlD n.toNat g'),.int key]) /\
 ((∀ e,¬ F8 n.toNat wr (hmOf n ps) g key e)->∀ g',Q (.bl false) [caseD n wr ps,.lst false (rlD n.toNat g'),.int key])
def qal7:VSp:=λ ds Q _=>∃ n wr ps g key,ds=[caseD n wr ps,.lst false (rlD n.toNat g),.int key]/\1<=n/\n<=64/\(ps.map (·.1)).Nodup/\∀ bb g',Q (.bl bb) [caseD n wr ps,.lst false (rlD n.toNat g'),.int key]
theorem qV8:Be qS3:=λ ds Q Q' xe xe' hQ _ ⟨n,wr,ps,g,S,key,e,h1,h2,h3,h4,h5,q,q'⟩=>⟨n,wr,ps,g,S,key,e,h1,h2,h3,h4,h5,λ g' K=>hQ _ _ (q g' K),λ nf g'=>hQ _ _ (q' nf g')⟩
def qav6:VSp:=λ ds Q xe=>qS3 ds Q xe∨qal7 ds Q xe
theorem qaz2(T:Txt K mg a):VFn P w K mg base 4 a.f34 a.d34 ["_law_case_here", "_law_rooms", "_law_key_here"] qav6:=by
 refine VFn.mk' T.d34.F qw3 (wOf [true,true,false]) (λ ds Q Q' xe xe' hQ hx h=>h.imp (qV8 ds Q Q' xe xe' hQ hx) λ ⟨n,wr,ps,g,key,e,h1,h2,h3,q⟩=>⟨n,wr,ps,g,key,e,h1,h2,h3,λ bb g'=>hQ _ _ (q bb g')⟩) (λ ds Q xe h=>h.elim (λ ⟨n,wr,ps,g,S,key,e,_⟩=>by rw[e];rfl) λ ⟨n,wr,ps,g,key,e,_⟩=>by rw[e];rfl) (λ ds Q xe h=>h.elim (λ ⟨n,wr,ps,g,S,key,e,_⟩=>by rw[e];rfl) λ ⟨n,wr,ps,g,key,e,_⟩=>by rw[e];rfl) (λ cdv A outer sh H E av hr=>⟨_,(Ab (Ak 3 qw3.nd (Ah T.d31 (qH7 T) qa0 (rm hr) (vaN 0 (vaN 2 Aa))))
     (Ab (qS6 PassesOwn.leaving T.Ch (Eo (vaV (qc4 (v2 (As qb4) Aj (vnm 0) Ac)) Aa)) (A9 4 qw3.nd)
     (Ab (sif (q2 (Ap Gb (qb0 _)) Ga (v2 (As qb4) Aj (vnm 1) (vnm 3)) Bl)
     (Ab (Gd (qc4 (vnm 2)) (Et (vpn 1) (vnm 3)))
     (Af (Am (qa4 vbl))))
     At)
     (Ab (sif (te (Ah T.d33 (qac6 T) qa0 (rm hr) (vaN 0 (vaN 3 (vaN 2 (vaV (qc4 (v2 (As qb4) Aj (vnm 1) (vnm 3))) Aa))))))
     (Af (Gd (qa4 (vtup (qa2 (vnm 2) (qa2 (v2 (As qb4) Aj (vnm 1) (vnm 3)) qa7 rfl) rfl))) (gtupV (n:=2) rfl (qae3 (Et (vpn 1) (vnm 3)) (qae3 (A9 2 qw3.nd) gnilV)))))
     At)
     (Ab (Ak 3 qw3.nd (qa4 (v2 (Ag qg2) qg1 (vnm 3) Ac)))
     (Ab (sif (tand (q2 (Ap (qi5 hr.u64) (qb0 _)) Bd (vnm 3) (v2 (As qb4) Aj (vnm 0) Ac)) (G5 (Bm (tv (v2 (As qb4) Aj (vnm 0) Ac))))).te
     (Af (Am (qa4 vbl)))
     At)
     (Af (Ak 3 qw3.nd (qa4 (v2 (Ag qh5) qh3 (vnm 3) (v2 (As qb4) Aj (vnm 0) Ac))))))))))
     (Af (Am (qa4 vbl))))),λ ds Q xe h=>?_⟩)
 rcases h.symm with h | h
 . obtain⟨n,wr,ps,g,key,rfl,n1,n2,nd,kW⟩:=h
   have hh:=Ep (ps:=ps) n1 key;refine Aq [caseD n wr ps,.lst false (rlD n.toNat g),.int key,.unk,.unk] rfl ?_;refine qb9 [caseD n wr ps,.lst false (rlD n.toNat g),.int key,.int (hmOf n ps key:Nat),.unk] (λ K hK=>qW5 (x:=caseD n wr ps) (y:=.int key) (d:=.int (hmOf n ps key:Nat)) rfl rfl rfl ⟨n,wr,ps,key,rfl,n1,nd,by rw[qx1 n1]⟩ rfl hK) ?_;refine qb7 (λ ds=>∃ g2 c d3 d4,ds=[caseD n wr ps,.lst false (rlD n.toNat g2),.int c,d3,d4]) (λ K hK=>?_) ?_
   . refine qA7 (n:=n) rfl (qz8 (by lia) (by lia)) ?_
     refine qc5 (λ i ds=>∃ g2 c r d4,ds=[caseD n wr ps,.lst false (rlD n.toNat g2),.int c,.int (r:Nat),d4]/\r < n.toNat) _ 0 _ ⟨g,key,hmOf n ps key,_,rfl,hh⟩ ?_ ?_
     . rintro i x hx ds ⟨g2,c,r,d4,rfl,hr⟩ K2 hK2
       obtain⟨hi,rfl⟩:=qP3 hx;refine qi7 (Aq [caseD n wr ps,.lst false (rlD n.toNat g2),.int c,.int (r:Nat),.int (i:Nat)] rfl ?_);cases hg:g2 r with
       | none =>
         refine qm2 true (Ad (Ad rfl rfl (Bk hr)) rfl (by rw[hg];rfl)) (λ _=>?_) λ h=>nomatch h
         refine qb9 [caseD n wr ps,.lst false (rlD n.toNat (Row.set g2 r c)),.int c,.int (r:Nat),.int (i:Nat)] (λ K hK=>?_) ?_
         . refine qB8 (d:=.int c) (ys:=rlD n.toNat g2) rfl rfl rfl rfl (qI6 hr) ?_
           rw[qk4];exact hK
         exact kW true _
       | some y =>
         refine qm2 false (Ad (Ad rfl rfl (Bk hr)) rfl (by rw[hg];rfl)) (λ h=>nomatch h) λ _=>?_
         refine qb7 (λ ds=>∃ g3 c3,ds=[caseD n wr ps,.lst false (rlD n.toNat g3),.int c3,.int (r:Nat),.int (i:Nat)]) (λ K hK=>?_) ?_
         . refine I8 (b:=qg4 n wr ps (r:Nat) c y) (λ Q xe q=>?_) (λ hb=>?_) (λ hb=>?_)
           . refine qb5 (x:=caseD n wr ps) rfl (qb5 (x:=.int (r:Nat)) rfl (qb5 (x:=.int c) rfl (qj5 (y:=.int y) (Ad rfl rfl (by rw[Bk hr,hg];rfl)) rfl ?_)))
             refine qd0 ?_;refine qa1 (a:=D.int c) rfl ?_;refine qa1 (a:=D.int (r:Nat)) rfl ?_;exact(qa1 (a:=caseD n wr ps) rfl (qh8 (d:=.bl (qg4 n wr ps (r:Nat) c y)) ⟨n,wr,ps,(r:Nat),c,y,rfl,n1,nd,rfl⟩ q))
           . refine qR8 (x:=.int c) (y:=.int y) (ys:=rlD n.toNat g2) ?_ rfl rfl (qI6 hr) ?_
             . exact qR0 rfl (Ad (x:=.lst false (rlD n.toNat g2)) (y:=.int (r:Nat)) rfl rfl (by rw[Bk hr,hg];rfl)) rfl rfl
             rw[qk4];exact hK _ ⟨_,y,rfl⟩
           exact hK _ ⟨g2,c,rfl⟩
         rintro ds ⟨g3,c3,rfl⟩;refine qb9 [caseD n wr ps,.lst false (rlD n.toNat g3),.int c3,.int ((r:Int)+1),.int (i:Nat)] (λ K hK=>hK) ?_;refine qe2 _ (λ Q q=>qi2 (decide ((r:Int)+1=n)) (!wr) (λ Q q=>qi0 (Ad rfl (y:=.int n) rfl rfl) q) (λ _ Q q=>qc6 (b:=wr) rfl q) q) (λ h=>?_) λ h=>?_
         . exact kW false g3
         refine qo7 (d:=.int (Row.next n.toNat r:Nat)) (Ad rfl (y:=.int n) rfl (by rw[Bt (by lia),qz7 n1 hr])) ?_;exact hK2 _ ⟨g3,c3,_,_,rfl,Row.qC6 hr⟩
     rintro ds ⟨g2,c,r,d4,rfl,_⟩;exact hK _ ⟨g2,c,_,_,rfl⟩
   rintro ds ⟨g2,c,d3,d4,rfl⟩;exact kW false g2
 obtain⟨n,wr,ps,g,S,key,rfl,n1,n2,nd,KP,nin,kT,kF⟩:=h;have hh:=Ep (ps:=ps) n1 key;have hnd:(S++[key]).Nodup:=zBt.mpr ⟨KP.h.1,(by simp),λ x hx y hy e=>nin (by rw[<- zAn.mp hy,<- e];exact hx)⟩;refine Aq [caseD n wr ps,.lst false (rlD n.toNat g),.int key,.unk,.unk] rfl ?_;refine qb9 [caseD n wr ps,.lst false (rlD n.toNat g),.int key,.int (hmOf n ps key:Nat),.unk] (λ K hK=>qW5 (x:=caseD n wr ps) (y:=.int key) (d:=.int (hmOf n ps key:Nat)) rfl rfl rfl ⟨n,wr,ps,key,rfl,n1,nd,by rw[qx1 n1]⟩ rfl hK) ?_;by_cases hF:∃ e,F8 n.toNat wr (hmOf n ps) g key e
 . obtain⟨e,Fr⟩:=hF
   refine qb7 (λ _=>False) (λ K hK=>?_) λ _ h=>h.elim
   refine qA7 (n:=n) rfl (qz8 (by lia) (by lia)) ?_;have hd0:Ae n.toNat (hmOf n ps key) (hmOf n ps key)=0:=(qA9 hh hh).mpr rfl;refine qc5 (λ i ds=>∃ g2 c r d4,ds=[caseD n wr ps,.lst false (rlD n.toNat g2),.int c,.int (r:Nat),d4]/\Row.Walk n.toNat wr (hmOf n ps) (S++[key]) key e g2 c r/\Ae n.toNat (hmOf n ps key) r=i) _ 0 _ ⟨g,key,hmOf n ps key,_,rfl,KP.start nin Fr,hd0⟩ ?_ ?_
   . rintro i x hx ds ⟨g2,c,r,d4,rfl,W,hd⟩ K2 hK2
     rw[zB3] at hd hK2;obtain⟨hi,rfl⟩:=qP3 hx;have hr:=W.hr;refine qi7 (Aq [caseD n wr ps,.lst false (rlD n.toNat g2),.int c,.int (r:Nat),.int (i:Nat)] rfl ?_);cases hg:g2 r with
     | none =>
       refine qm2 true (Ad (Ad rfl rfl (Bk hr)) rfl (by rw[hg];rfl)) (λ _=>?_) λ h=>nomatch h
       refine qb9 [caseD n wr ps,.lst false (rlD n.toNat (Row.set g2 r c)),.int c,.int (r:Nat),.int (i:Nat)] (λ K hK=>?_) ?_
       . refine qB8 (d:=.int c) (ys:=rlD n.toNat g2) rfl rfl rfl rfl (qI6 hr) ?_
         rw[qk4];exact hK
       exact kT _ (W.done hnd hg)
     | some y =>
       refine qm2 false (Ad (Ad rfl rfl (Bk hr)) rfl (by rw[hg];rfl)) (λ h=>nomatch h) λ _=>?_
       have hx:wr=false->hmOf n ps c<=r:=λ h=>(W.ln h).2.1
       have hy:wr=false->hmOf n ps y<=r:=λ h=>(W.ln h).2.2 r y hr hg
       have lt:=W.lt hg;have nx:=W.nx hg;refine qb7 (λ ds=>∃ g3 c3,ds=[caseD n wr ps,.lst false (rlD n.toNat g3),.int c3,.int (r:Nat),.int (i:Nat)]/\Row.Walk n.toNat wr (hmOf n ps) (S++[key]) key e g3 c3 (Row.next n.toNat r)) (λ K hK=>?_) ?_
       . refine I8 (b:=qg4 n wr ps (r:Nat) c y) (λ Q xe q=>?_) (λ hb=>?_) (λ hb=>?_)
         . refine qb5 (x:=caseD n wr ps) rfl (qb5 (x:=.int (r:Nat)) rfl (qb5 (x:=.int c) rfl (qj5 (y:=.int y) (Ad rfl rfl (by rw[Bk hr,hg];rfl)) rfl ?_)))
           refine qd0 ?_;refine qa1 (a:=D.int c) rfl ?_;refine qa1 (a:=D.int (r:Nat)) rfl ?_;exact(qa1 (a:=caseD n wr ps) rfl (qh8 (d:=.bl (qg4 n wr ps (r:Nat) c y)) ⟨n,wr,ps,(r:Nat),c,y,rfl,n1,nd,rfl⟩ q))
         . have ha:=(qr3 n1 hr hx hy).mp hb
           refine qR8 (x:=.int c) (y:=.int y) (ys:=rlD n.toNat g2) ?_ rfl rfl (qI6 hr) ?_
           . exact qR0 rfl (Ad (x:=.lst false (rlD n.toNat g2)) (y:=.int (r:Nat)) rfl rfl (by rw[Bk hr,hg];rfl)) rfl rfl
           rw[qk4];exact hK _ ⟨_,y,rfl,W.swap hg ha⟩
         exact hK _ ⟨g2,c,rfl,W.on hg (λ h=>by rw[(qr3 n1 hr hx hy).mpr h] at hb;cases hb)⟩
       rintro ds ⟨g3,c3,rfl,W3⟩;refine qb9 [caseD n wr ps,.lst false (rlD n.toNat g3),.int c3,.int ((r:Int)+1),.int (i:Nat)] (λ K hK=>hK) ?_;have hno:((decide ((r:Int)+1=n))&&!wr)=false:=by
         cases wr with
         | true=>rw[Bool.not_true,zBi]
         | false =>
           have:=(W.ln rfl).1
           have d1:=dor n.toNat (hmOf n ps key) r;have d2:=dor n.toNat (hmOf n ps key) e
           have:=W.he
           rw[zAp (by lia)];rfl
       refine qe2 _ (λ Q q=>qi2 (decide ((r:Int)+1=n)) (!wr) (λ Q q=>qi0 (Ad rfl (y:=.int n) rfl rfl) q) (λ _ Q q=>qc6 (b:=wr) rfl q) q) (λ h=>by rw[hno] at h;cases h) λ _=>?_
       refine qo7 (d:=.int (Row.next n.toNat r:Nat)) (Ad rfl (y:=.int n) rfl (by rw[Bt (by lia),qz7 n1 hr])) ?_;exact hK2 _ ⟨g3,c3,_,_,rfl,W3,by lia⟩
   rintro ds ⟨g2,c,r,d4,rfl,W,hd⟩
   have:=qp4 W.hr hh
   unfold Av at hd;rw[zAe,zB4] at hd;lia
 have nF:∀ e,¬ F8 n.toNat wr (hmOf n ps) g key e:=λ e z=>hF ⟨e,z⟩
 have full:∀ e,e < n.toNat->(wr=false->hmOf n ps key<=e)->∃ x,g e=some x:=λ e he hl=>by
   cases h:g e with
   | some x=>exact⟨x,rfl⟩
   | none=>exact absurd ⟨he,h,hl⟩ (nF e)
 refine qb7 (λ ds=>∃ g2 c d3 d4,ds=[caseD n wr ps,.lst false (rlD n.toNat g2),.int c,d3,d4]) (λ K hK=>?_) ?_
 . refine qA7 (n:=n) rfl (qz8 (by lia) (by lia)) ?_
   refine qc5 (λ i ds=>∃ g2 c r d4,ds=[caseD n wr ps,.lst false (rlD n.toNat g2),.int c,.int (r:Nat),d4]/\r < n.toNat/\(wr=false->hmOf n ps key<=r)/\∀ e,e < n.toNat->(wr=false->hmOf n ps key<=e)->∃ x,g2 e=some x) _ 0 _ ⟨g,key,hmOf n ps key,_,rfl,hh,λ _=>zA5 _,full⟩ ?_ ?_
   . rintro i x hx ds ⟨g2,c,r,d4,rfl,hr,hl,full2⟩ K2 hK2
     obtain⟨hi,rfl⟩:=qP3 hx;refine qi7 (Aq [caseD n wr ps,.lst false (rlD n.toNat g2),.int c,.int (r:Nat),.int (i:Nat)] rfl ?_);obtain⟨y,hg⟩:=full2 r hr hl;refine qm2 false (Ad (Ad rfl rfl (Bk hr)) rfl (by rw[hg];rfl)) (λ h=>nomatch h) λ _=>?_
     refine qb7 (λ ds=>∃ g3 c3,ds=[caseD n wr ps,.lst false (rlD n.toNat g3),.int c3,.int (r:Nat),.int (i:Nat)]/\∀ e,e < n.toNat->(wr=false->hmOf n ps key<=e)->∃ x,g3 e=some x) (λ K hK=>?_) ?_
     . refine I8 (b:=qg4 n wr ps (r:Nat) c y) (λ Q xe q=>?_) (λ hb=>?_) (λ hb=>?_)
       . refine qb5 (x:=caseD n wr ps) rfl (qb5 (x:=.int (r:Nat)) rfl (qb5 (x:=.int c) rfl (qj5 (y:=.int y) (Ad rfl rfl (by rw[Bk hr,hg];rfl)) rfl ?_)))
         refine qd0 ?_;refine qa1 (a:=D.int c) rfl ?_;refine qa1 (a:=D.int (r:Nat)) rfl ?_;exact(qa1 (a:=caseD n wr ps) rfl (qh8 (d:=.bl (qg4 n wr ps (r:Nat) c y)) ⟨n,wr,ps,(r:Nat),c,y,rfl,n1,nd,rfl⟩ q))
       . refine qR8 (x:=.int c) (y:=.int y) (ys:=rlD n.toNat g2) ?_ rfl rfl (qI6 hr) ?_
         . exact qR0 rfl (Ad (x:=.lst false (rlD n.toNat g2)) (y:=.int (r:Nat)) rfl rfl (by rw[Bk hr,hg];rfl)) rfl rfl
         rw[qk4];refine hK _ ⟨_,y,rfl,λ e he hl=>?_⟩;by_cases z:e=r
         . rw[z,Row.qc8];exact⟨_,rfl⟩
         rw[Row.qe9 z];exact full2 e he hl
       exact hK _ ⟨g2,c,rfl,full2⟩
     rintro ds ⟨g3,c3,rfl,full3⟩;have nr:=nor n.toNat r;refine qb9 [caseD n wr ps,.lst false (rlD n.toNat g3),.int c3,.int ((r:Int)+1),.int (i:Nat)] (λ K hK=>hK) ?_;refine qe2 _ (λ Q q=>qi2 (decide ((r:Int)+1=n)) (!wr) (λ Q q=>qi0 (Ad rfl (y:=.int n) rfl rfl) q) (λ _ Q q=>qc6 (b:=wr) rfl q) q) (λ h=>?_) λ h=>?_
     . exact kF nF g3
     refine qo7 (d:=.int (Row.next n.toNat r:Nat)) (Ad rfl (y:=.int n) rfl (by rw[Bt (by lia),qz7 n1 hr])) ?_;refine hK2 _ ⟨g3,c3,_,_,rfl,Row.qC6 hr,λ z=>?_,full3⟩
     have:=hl z
     subst z;rw[Bool.not_false,Bool.and_true] at h
     have:=zBy h
     lia
   rintro ds ⟨g2,c,r,d4,rfl,_⟩;exact hK _ ⟨g2,c,_,_,rfl⟩
 rintro ds ⟨g2,c,d3,d4,rfl⟩;exact kF nF g2
theorem qr6:qa9 ["_law_case_here", "_law_keys_here", "_law_rooms", "_law_key_here"] ["_law_case_here", "_law_keys_here"] (qa3 qy8):=by walk_at "s"
def qS5:VSp:=λ ds Q _=>∃ n wr ps z' ks,ds=[caseD n wr ps,.lst z' (ksD ks)]/\1<=n/\n<=64/\(ps.map (·.1)).Nodup/\ks.Nodup /\
 ((∀ q,¬ Crowd n.toNat wr (hmOf n ps) ks q)->∀ g,Kept n.toNat wr (hmOf n ps) g ks->Q (.lst false (rlD n.toNat g)) ds) /\
 ((∃ q,Crowd n.toNat wr (hmOf n ps) ks q)->Q .non ds)
theorem qV4(T:Txt K mg a):VFn P w K mg base 5 a.f35 a.d35 ["_law_case_here", "_law_keys_here"] qS5:=by
 refine VFn.mk2 T.d35.F qr6 (wOf [true,true]) (λ ds Q Q' xe xe' hQ _ h=>by obtain⟨n,wr,ps,z',ks,e,h1,h2,h3,h4,q,q'⟩:=h;exact⟨n,wr,ps,z',ks,e,h1,h2,h3,h4,λ c g K=>hQ _ _ (q c g K),λ c=>hQ _ _ (q' c)⟩) (λ ds Q xe h=>by obtain⟨n,wr,ps,z',ks,e,_⟩:=h;rw[e];exact⟨rfl,rfl⟩) (λ cdv A outer sh H E av hr=>⟨_,(Ab (Ak 2 qr6.nd (qa4 (v2 (Ag qn9) qn8 (Bj (qa2 Bl qa7 rfl)) (v2 (As qb4) Aj (vnm 0) Ac))))
     (Ab (Ir PassesOwn.leaving (vpn 1) (A9 3 qr6.nd)
     (Af (sif (Bm (te (Ah T.d34 (qaz2 T) qa0 (rm hr) (vaN 0 (vaN 2 (vaN 3 Aa))))))
     (Af (Am (qa4 Bl)))
     At)))
     (Af (Am (emv 2))))),λ ds Q xe h=>?_⟩)
 obtain⟨n,wr,ps,z',ks,rfl,n1,n2,nd,ndk,kT,kF⟩:=h;refine Aq [caseD n wr ps,.lst z' (ksD ks),.unk,.unk] rfl ?_;refine qb9 [caseD n wr ps,.lst z' (ksD ks),.lst false (rlD n.toNat λ _=>none),.unk] (λ K hK=>qa1 (Ad rfl (y:=.int n) rfl (qV6 (by lia) n2)) hK) ?_;refine qb7 (λ ds=>∃ d g,ds=[caseD n wr ps,.lst z' (ksD ks),.lst false (rlD n.toNat g),d]/\Kept n.toNat wr (hmOf n ps) g ks) (λ K hK=>?_) ?_
 . refine qa1 (a:=(1,[])) rfl (qa1 (a:=D.lst z' (ksD ks)) rfl (qa1 (a:=ksD ks) rfl ⟨qf2 ks,λ w=>?_⟩))
   refine qc5 (λ i ds=>∃ d g,ds=[caseD n wr ps,.hole w,.lst false (rlD n.toNat g),d]/\Kept n.toNat wr (hmOf n ps) g (ks.take i)) _ 0 _ ⟨_,_,rfl,Kept.none (by lia) (Ep n1)⟩ ?_ ?_
   . rintro i y hy ds ⟨d,g,rfl,KP⟩ K2 hK2
     rw[zB3] at KP hK2;obtain⟨k,hi,rfl⟩:=qaq6 hy;refine qJ6 (x:=caseD n wr ps) (y:=.lst false (rlD n.toNat g)) (w:=.int k) rfl rfl rfl rfl rfl (.inl ⟨n,wr,ps,g,ks.take i,k,rfl,n1,n2,nd,KP,qs6 ndk hi,λ g' K'=>?_,λ nF g'=>?_⟩)
     . refine hK2 _ ⟨_,g',rfl,?_⟩
       rw[ql3 hi];exact K'
     refine qa1 (a:=[caseD n wr ps,.hole w,.lst false (rlD n.toNat g'),.int k]) rfl (qa1 (a:=false) rfl ?_);refine qa1 (qE6 rfl) (kF ?_);obtain⟨q,c⟩:=KP.crowd nF;rw[<- ql3 hi] at c;exact⟨q,c.mono (zBv _ _)⟩
   rintro ds ⟨d,g,rfl,KP⟩;rw[zB3,qi1,List.take_length] at KP;exact qa1 (qE6 rfl) (hK _ ⟨d,g,rfl,KP⟩)
 rintro ds ⟨d,g,rfl,KP⟩;exact kT KP.no_crowd g KP
theorem qab5:qa9 ["_law_case_here", "_law_keys_here", "_law_room"] ["_law_case_here", "_law_keys_here", "_law_room"] (qa3 qG8):=by walk_at "s"
def qab1:VSp:=A5 λ ds d=>∃ n wr ps z ks r,ds=[caseD n wr ps,.lst z (ksD ks),.int r]/\1<=n/\(ps.map (·.1)).Nodup/\ks.length<=1000/\d=.bl (qf4 n wr ps ks r)
theorem qz5(T:Txt K mg a):VFn P w K mg base 2 a.f36 a.d36 ["_law_case_here", "_law_keys_here", "_law_room"] qab1:=by
 refine VFn.mk2 T.d36.F qab5 (wOf [true,true,true]) qc2 (λ ds Q xe h=>by obtain⟨d,⟨n,wr,ps,z,ks,r,e,_⟩,_⟩:=h;rw[e];exact⟨rfl,rfl⟩) (λ cdv A outer sh H E av hr=>⟨_,(Ab (sif (tv (v2 (As qb4) Aj (vnm 0) Ac))
     (Af (Am (qa4 (Ik (v2 (Au (qi5 hr.u64) (qb0 _)) Bd (vnm 2) Ac) (Gv (v2 (Au B8 (qb0 _)) Ea (vbi qB3 qB2.ops T.Cp (qa2 (vnm 1) qa7 rfl)) (v2 (As qb4) Aj (vnm 0) Ac)))))))
     At)
     (Af (Am (e2v (Au B8 (qb0 _)) Ea (ebi qB3 qB2.ops T.Cp (Eo (vaV (ecN (NY:=["_law_key_here", "_law_room", "_law_case_here"]) (src:=[none,some 2,some 0]) 1 (blk (λ av C s0 H0 ex=>(A9 0 (show (["_law_key_here", "_law_room", "_law_case_here"]:List Str).Nodup by decide +kernel))) (λ av C s0 H0 ex=>(Iu (q2v (Au Fg (qb0 _)) (Ap Fg (qb0 _)) G3 (Ah T.d31 (qH7 T) qi6 (rm hr) (vaN 2 (vaN 0 Aa))) (vnm 1)))) (λ av C s0 H0 ex=>(qc4 (vnm 0))))) Aa))) (v2 (Ag qq3) qq2 (v2 (As qb4) Aj (vnm 0) Ac) (vnm 2)))))),λ ds Q xe h=>?_⟩)
 obtain⟨d,⟨n,wr,ps,z,ks,r,rfl,n1,nd,hl,rfl⟩,q⟩:=h;refine Aq [caseD n wr ps,.lst z (ksD ks),.int r] rfl ?_;unfold qf4 at q;refine qm2 wr rfl (λ h=>?_) λ h=>?_
 . subst h
   rw[if_pos rfl] at q;refine qg0 _ (qN1 (a:=decide (r=0)) (b:=decide (n < (ks.length:Int))) rfl (Ad (x:=.int (ks.length:Nat)) (y:=.int n) (by rw[qI2 (z:=z) (ys:=ksD ks) rfl,qi1]) rfl rfl)) q
 subst h;rw[if_neg (by decide)] at q;refine qp9 (qR7 (co_to (qp6 (qa1 (a:=D.lst z (ksD ks)) rfl (qa1 (a:=ksD ks) rfl ⟨qf2 ks,?_⟩)))));refine qh9 (λ ι=>∃ d,ι=[d,.int r,caseD n false ps]) (E9 λ k=>decide (r<=qc1 n ps k)) _ [] _ (by show 0+_ < 1000000;rw[qi1];lia) ⟨_,rfl⟩ ?_ ?_
 . rintro y hy ι acc ⟨d,rfl⟩ R hR hacc
   obtain⟨k,_,rfl⟩:=zB6.mp hy;have this:=hR [.int k,.int r,caseD n false ps] ⟨_,rfl⟩;refine qi7 (qC3 (qW5 (x:=caseD n false ps) (y:=.int k) (d:=.int (qc1 n ps k)) rfl rfl rfl ⟨n,false,ps,k,rfl,n1,nd,rfl⟩ rfl ?_));refine qa1 (a:=D.bl (decide (r<=qc1 n ps k))) rfl (qa1 (a:=decide (r<=qc1 n ps k)) rfl (ite_b (λ h=>?_) λ h=>?_))
   . rw[qW9 (by exact h)] at this
     exact qI8 (d:=.int k) rfl rfl ⟨hacc,this⟩
   rw[qX0 (by exact h)] at this;have this:R (acc++[]) _:=this;rw[zA9] at this;exact this
 rintro ι ⟨d,rfl⟩;rw[qA3,zBk];refine qd0 (qa1 (a:=D.int ((ks.filter λ k=>decide (r<=qc1 n ps k)).length:Nat)) (by show some (D.int ((ksD _).length:Nat))=_;rw[qi1]) ?_);exact qa1 (a:=D.bl _) rfl q
theorem qw2:qa9 ["_law_asked", "_law_plan", "_law_keys_here", "e"] ["_law_asked", "_law_plan", "_law_keys_here"] (qa3 qs1):=by walk_at "s"
theorem qs9{z:Bool}{C:Addr}{n:Int}{wr:Bool}{ps:Pr}:(planD z C n wr ps).isC C=some (.bl true):=if_pos rfl
theorem qV5{z:Bool}(h:ks.length<=1000):okK (.lst z (ksD ks)):=⟨⟨_,rfl⟩,λ z' ys e=>by
 cases e;exact⟨qf2 _,by rw[qi1];lia,λ x hx=>by obtain⟨k,_,rfl⟩:=zB6.mp hx;exact⟨_,rfl⟩⟩⟩
def qw0(C fH fP:Addr):VSp:=λ ds Q _=>∃ f z n wr ps z' ks,ds=[.adr f,planD true C n wr ps,.lst true (ksD ks)]/\z=true/\z'=true/\(f=fH∨f=fP)/\1<=n/\n<=64/\(∀ k∈ks,Al k)/\ks.Nodup/\ks.length<=100/\(qk1 n wr ps ks->Q (.int (-1)) ds)/\(∀ r:Nat,Crowd n.toNat wr (hmOf n ps) ks r->Q (.int (r:Nat)) ds)
theorem qP9(T:Txt K mg a):VFn P w K mg base 11 a.f37 a.d37 ["_law_asked", "_law_plan", "_law_keys_here"] (qw0 a.C4 a.f23 a.f25):=by
 refine VFn.mk2 T.d37.F qw2 (wOf []) (λ ds Q Q' xe xe' hQ _ h=>by obtain⟨f,z,n,wr,ps,z',ks,e,e1,e2,h1,h2,h3,h4,h5,h6,h7,h8⟩:=h;exact⟨f,z,n,wr,ps,z',ks,e,e1,e2,h1,h2,h3,h4,h5,h6,λ c=>hQ _ _ (h7 c),λ r c=>hQ _ _ (h8 r c)⟩) (λ ds Q xe h=>by obtain⟨f,z,n,wr,ps,z',ks,e,_⟩:=h;rw[e];exact⟨rfl,rfl⟩) (λ cdv A outer sh H E av hr=>⟨_,(Ab (stryH rfl (λ _=>rfl) (λ E' xe pn hl=>(Af (Bw (eAlt (qaD9 0 T.d23 (qk0 T) hl (rm hr) (vaN 1 (vaN 2 Aa))) (qaD9 0 T.d25 (qH4 T) hl (rm hr) (vaN 1 (vaN 2 Aa)))))))
     (ph_as 3 qw2.nd T.Cs T.Ct (λ ea=>(qH0 (Hn (qaw5 (qT7 (cbi qZ8 T.C9 (qd3 (pv 3) (qd3 (qU3 a.C6 T.D3) qq1)))) (qah6 (qaw6 (qT7 (cbi qZ8 T.C9 (qd3 (pv 3) (qd3 (qU3 a.C7 T.Cc) qq1))))))).pt (qo9 (qT9 (qai3 (pv 3)))) qT8) (qo9 (qT9 qax8)))) qax2) (qaL5 (qaL3 (ht_is (d:=.ref a.C6) rfl λ _ z=>z) (qaL2 (ht_is (d:=.ref a.C7) rfl λ _ z=>z))) (qaB8 qaL1) (qaL4 (qaB8 qaL0))))
     (Af (Am (qa4 (Hi Ac))))),λ ds Q xe h=>?_⟩)
 obtain⟨f,z,n,wr,ps,z',ks,rfl,rfl,rfl,hf,n1,n2,hk,nd,hl,q,qx⟩:=h;refine Aq [.adr f,planD true a.C4 n wr ps,.lst true (ksD ks),.unk] rfl ?_;have kL:(D.lst true (ksD ks)).keyL=true:=by rw[qL6,qak3 hk,zA8 hl,zA8 nd];rfl
 rcases hf with rfl | rfl
 . refine qau9 (qm4 (.inl ⟨rfl,qB4 (x:=planD true a.C4 n wr ps) (y:=.lst true (ksD ks)) rfl rfl rfl ⟨_,_,true,rfl,qs9,rfl,λ h=>(nomatch h),λ _=>⟨qV5 (by lia),λ k=>(by rw[kL] at k;cases k),λ _=>⟨true,n,wr,ps,true,ks,rfl,n1,n2,hk,nd,hl,λ nc g K=>?_,λ r c=>?_⟩⟩⟩⟩))
   . refine qa1 (a:=[.adr a.f23,planD true a.C4 n wr ps,.lst true (ksD ks),.unk]) rfl ?_
     have z:=q nc;dsimp only;exact qg0 (.int (-1)) rfl z
   exact qa1 (a:=[.adr a.f23,planD true a.C4 n wr ps,.lst true (ksD ks),.unk]) rfl ⟨by show 3 < 4;decide,⟨T.Cw,λ z=>by cases z⟩,T.Cj,true,qI5 _ _,false,T.Co,T.Cm,.int (r:Nat),rfl,qx r c⟩
 refine qau9 (qm4 (.inr ⟨rfl,qB4 (x:=planD true a.C4 n wr ps) (y:=.lst true (ksD ks)) rfl rfl rfl ⟨_,_,true,rfl,qs9,rfl,λ h=>(nomatch h),λ _=>⟨qV5 (by lia),λ k=>(by rw[kL] at k;cases k),λ _=>⟨true,n,wr,ps,true,ks,rfl,n1,n2,hk,nd,hl,λ nc g K=>?_,λ r c=>?_⟩⟩⟩⟩))
 . refine qa1 (a:=[.adr a.f25,planD true a.C4 n wr ps,.lst true (ksD ks),.unk]) rfl ?_
   have z:=q nc;dsimp only;exact qg0 (.int (-1)) rfl z
 exact qa1 (a:=[.adr a.f25,planD true a.C4 n wr ps,.lst true (ksD ks),.unk]) rfl ⟨by show 3 < 4;decide,⟨T.Cw,λ z=>by cases z⟩,T.Cj,true,qI5 _ _,false,T.Co,T.Cm,.int (r:Nat),rfl,qx r c⟩
theorem qK5:qa9 ["_law_plan", "_law_keys_here", "_law_room", "e"] ["_law_plan", "_law_keys_here", "_law_room"] (qa3 qG7):=by walk_at "s"
def qx9(C:Addr):VSp:=A5 λ ds d=>∃ x y v bp,ds=[x,y,v]/\x.isC C=some (.bl bp)/\y.known=true/\(∃ t,v.kind=some t)/\x.imm=true/\y.imm=true/\v.imm=true /\
 (bp=true->okK y/\(y.keyL=true->∃ z n wr ps z' ks,x=planD z C n wr ps/\y=.lst z' (ksD ks)/\1<=n/\n<=64/\(∀ k∈ks,Al k)/\ks.length<=1000/\v.within 0 (n - 1)=false))/\d=.int (if bp=false then 0 else if y.keyL=false then 1 else 2)
theorem qh7(T:Txt K mg a):VFn P w K mg base 7 a.f38 a.d38 ["_law_plan", "_law_keys_here", "_law_room"] (qx9 a.C4):=by
 refine VFn.mk' T.d38.F qK5 (wOf []) qc2 (λ ds Q xe h=>by obtain⟨d,⟨x,y,v,bp,e,_⟩,_⟩:=h;rw[e];rfl) (λ ds Q xe h=>by obtain⟨d,⟨x,y,v,bp,e,_,_,_,h1,h2,h3,_⟩,_⟩:=h;rw[e];simp[Gi,wOf,h1,h2,h3]) (λ cdv A outer sh H E av hr=>⟨_,(Ab (stry rfl (λ _=>rfl) (λ E' xe pn hl=>(Af (Bw (Ah T.d18 (qo0 T) hl (rm hr) (vaN 0 (vaN 1 (vaN 2 Aa)))))))
     (ph_as 3 qK5.nd T.Cs T.Ct (λ ea=>(qo9 (Hn (qT7 (cbi qat4 T.C9 (qd3 (pv 3) (qd3 (qU3 a.C7 T.Cc) qq1)))) (qo9 (qT9 (qai3 (pv 3)))) qT8))) qax2) qaL6 (qaB9 (C:=a.C7) (fl := "at") rfl T.D6 T.Cu T.Cq))
     (Af (Am (qa4 (Hi Ac))))),λ ds Q xe h=>?_⟩)
 obtain⟨d,⟨x,y,v,bp,rfl,hC,hy,⟨t,hv⟩,ix,iy,iv,hb,rfl⟩,q⟩:=h;have hx:=qm1 hC;have hvk:=qf1 hv;refine Aq [x,y,v,.unk] rfl ?_;refine qm4 (qJ6 (x:=x) (y:=y) (w:=v) (qb6 rfl hx) (qb6 rfl hy) (qb6 rfl hvk) (qb6 rfl hy) (qb6 rfl hx) ⟨x,y,v,bp,rfl,hC,hy,⟨t,hv⟩,λ b=>?_,λ b=>⟨(hb b).1,λ k=>?_,λ k=>?_⟩⟩)
 . subst b
   exact qa1 (a:=[x,y,v,.unk]) rfl ⟨by show 3 < 4;decide,rfl,.int 0,rfl,q⟩
 . subst b
   rw[k] at q;exact qa1 (a:=[x,y,v,.unk]) rfl ⟨by show 3 < 4;decide,rfl,.int 1,rfl,q⟩
 subst b;obtain⟨z,n,wr,ps,z',ks,rfl,rfl,n1,n2,hk,hl,hw⟩:=(hb rfl).2 k;rw[k] at q;refine⟨z,n,wr,ps,z',ks,rfl,rfl,n1,n2,hk,hl,λ _=>?_,λ r e r0 r1=>?_⟩
 . exact qa1 (a:=[planD z a.C4 n wr ps,.lst z' (ksD ks),v,.unk]) rfl ⟨by show 3 < 4;decide,rfl,.int 2,rfl,q⟩
 subst e;rw[show (D.int r).within 0 (n - 1)=true by show (decide _&&decide _)=true;rw[zA8 r0,zA8 (by lia)];rfl] at hw;cases hw
theorem qe1:qa9 ["_law_bag_here", "_law_plan", "_law_case_here", "_law_keys_here", "_law_spots", "_law_some", "_law_handed", "_law_turn", "_law_due", "_law_bads", "_law_bad"] ["_law_bag_here", "_law_plan", "_law_case_here", "_law_keys_here"] (qa3 qy7):=by walk_at "s"
def crF(n:Int)(wr:Bool)(ps:Pr)(T:List Int)(x:D):Option D:=x.asI.map λ r=>.bl (qf4 n wr ps T r)
theorem qat2{n:Int}{wr:Bool}{ps:Pr}:∀ d∈L.filterMap (crF n wr ps T),∃ b,d=D.bl b:=λ d hd=>by
 obtain⟨x,_,e⟩:=List.mem_filterMap.mp hd;obtain⟨r,_,e⟩:=zAm.mp e;exact⟨_,e.symm⟩
theorem qaz8{z:Bool}(h:∀ d∈L,∃ b,d=D.bl b):gNe (.lst z L) (.lst z L)=some (.bl false):=qar8 (by
 show L.all (okN 20)=true;exact zB1.mpr λ d hd=>by obtain⟨b,rfl⟩:=h d hd;rfl)
structure Handy(T:List Int):Prop where
 num:∀ k∈T,Al k
 nd:T.Nodup
 len:T.length<=100
theorem Handy.sub{U:List Int}(h:Handy T)(s:U.Sublist T):Handy U:=⟨λ k hk=>h.num k (s.subset hk),h.nd.sublist s,zAl s.length_le h.len⟩
theorem Handy.keyL{z:Bool}(h:Handy T):(D.lst z (ksD T)).keyL=true:=by
 rw[qL6,qak3 h.num,zA8 h.len,zA8 h.nd];rfl
theorem qY9{C:Addr}{z:Bool}{n r:Int}{wr:Bool}{ps:Pr}(n1:1<=n)(n2:n<=64)(F:Handy T)(r0:0<=r)(r1:r < n)(q:Q (.bl (qf4 n wr ps T r)) [planD z C n wr ps,.lst z' (ksD T),.int r]):qv9 C CW [planD z C n wr ps,.lst z' (ksD T),.int r] Q xe :=
 ⟨_,_,_,true,rfl,qs9,rfl,⟨_,rfl⟩,λ h=>(nomatch h),λ _=>⟨qV5 (by have:=F.len;lia),λ k=>(by rw[F.keyL] at k;cases k),λ _=>⟨z,n,wr,ps,z',T,rfl,rfl,n1,n2,F.num,by have:=F.len;lia,λ h=>(by rw[qx6 (by lia) (by lia)] at h;cases h),λ r' e _ _=>by cases e;exact q⟩⟩⟩
def Hm(x:D):Prop:=x.known=true/\x.imm=true/\okK x/\x.keyL=false/\x.fz=x
theorem qL0(h:D.imms ys=true)(hl:ys.length<=1000)(hk:∀ x∈ys,∃ t,x.kind=some t)(hf:D.fzs ys=ys)(hn:(D.lst true ys).keyL=false):Hm (.lst true ys):=⟨rfl,rfl,⟨⟨_,rfl⟩,λ z zs e=>by cases e;exact⟨h,hl,hk⟩⟩,hn,congrArg (D.lst true) hf⟩
theorem qap1{z:Bool}(hl:ks.length<=1000)(hn:ks.length<=100->(∀ k∈ks,Al k)->¬ ks.Nodup):Hm (D.lst z (ksD ks)).fz:=by
 rw[Em];refine⟨rfl,rfl,qV5 hl,?_,Em _⟩;rw[qL6];by_cases h:ks.length<=100
 . by_cases h2:(ksD ks).all D.num=true
   . rw[zAp (hn h λ k hk=>numD (zB1.mp h2 _ (List.mem_map_of_mem hk))),zBi,zBi]
   rw[Bool.not_eq_true] at h2;rw[h2,Bool.false_and,zBi]
 rw[zAp h,Bool.false_and]
theorem qaG6(j:Nat):Av 0 j=ksD ((List.range j).map λ(i:Nat)=>(0+(i:Int))):=by
 unfold Av ksD;rw[List.map_map];rfl
theorem qaa6(h:S≠[]):¬ (S++S.take 1).Nodup:=by
 cases S with
 | nil=>exact absurd rfl h
 | cons k r =>
   intro z;have z:(k::(r++[k])).Nodup:=z;exact(zBr.mp z).1 (by simp)
theorem qY2{g:VTG}(h:te ds (λ d ds1=>orF d.lstOf λ ys=>D.imms ys=true/\Bq g t e ys ds1) e.xe):sForL te g t e ds:=h
theorem lr_to(h:tr ds (λ xs _ ds1=>∃ j:Int,xs=[.int j]/\0<=j/\j<=2 ^ 20/\Q (.lst false (Av 0 j.toNat)) ds1) xe):tLRV (Gw tr) ds Q xe:=h
theorem Go{C:Addr}{bp:Bool}{pl:List Pl}{ds1:Ds}(hC:x.fz.isC C=some (.bl bp))(hy:y.fz.known=true)(hv:∃ t,v.fz.kind=some t)(ix:x.fz.imm=true)(iy:y.fz.imm=true)(iv:v.fz.imm=true)(hb:bp=true->okK y.fz/\(y.fz.keyL=true->∃ z n wr ps z' ks,x.fz=planD z C n wr ps/\y.fz=.lst z' (ksD ks)/\1<=n/\n<=64/\(∀ k∈ks,Al k)/\ks.length<=1000/\v.fz.within 0 (n - 1)=false))(ek:(if bp=false then 0 else if y.fz.keyL=false then 1 else 2)=k)(h:An pl [x,y,v] ds1=some ds)(q:Q (.int k) ds):qx9 C (D.fzs [x,y,v]) (λ d _=>d.plain=true/\orF (An pl [x,y,v] ds1) λ ds2=>Q d ds2) xe :=
 ⟨.int k,⟨_,_,_,bp,rfl,hC,hy,hv,ix,iy,iv,hb,by rw[ek]⟩,rfl,qa1 h q⟩
theorem wr1{C:Addr}{n:Int}{wr:Bool}{ps:Pr}{pl:List Pl}{ds1:Ds}(o:Hm y.fz)(hv:∃ t,v.fz.kind=some t)(iv:v.fz.imm=true)(h:An pl [planD true C n wr ps,y,v] ds1=some ds)(q:Q (.int 1) ds):qx9 C (D.fzs [planD true C n wr ps,y,v]) (λ d _=>d.plain=true/\orF (An pl [planD true C n wr ps,y,v] ds1) λ ds2=>Q d ds2) xe :=
 Go (bp:=true) (by rw[qt0];exact qs9) o.1 hv (by rw[qt0];rfl) o.2.1 iv (λ _=>⟨o.2.2.1,λ k=>by rw[o.2.2.2.1] at k;cases k⟩) (by rw[o.2.2.2.1];rfl) h q
theorem qaD2{C:Addr}{n:Int}{wr:Bool}{ps:Pr}:gNe (.lst false [.int n,.bl wr,.lst true (prD ps)]) (caseD n wr ps)=some (.bl false):=by
 have e:eqN 20 (D.lst true (prD ps)) (.lst false (prD ps))=some true:=qj2 λ x hx=>by
   obtain⟨p,_,rfl⟩:=zB6.mp hx;exact qk9 rfl
 have e1:eqN 20 (.int n) (.int n)=some true:=qk9 rfl;have e2:eqN 20 (.bl wr) (.bl wr)=some true:=qk9 rfl;unfold gNe caseD;show Option.map _ ((eqN 20 (.int n) (.int n)).bind λ a=>((eqN 20 (.bl wr) (.bl wr)).bind λ a=>((eqN 20 (D.lst true (prD ps)) (.lst false (prD ps))).bind λ a=>(some true).bind λ b=>some (a&&b)).bind λ b=>some (a&&b)).bind λ b=>some (a&&b))=_;rw[e,e1,e2];rfl
theorem qaA0{g:Ds->Ds->Option (Ds×D)}(h1:ds[i]? = some (.lst false ys))(h:tr ds (λ xs _ ds1=>orF ((rdN i ds1).bind D.own) λ ys=>orF (g ys xs) λ z=>Q z.2 (ds1.set i (.lst false z.1))) xe):Er g i tr ds Q xe:=⟨by rw[qb6 h1 rfl];rfl,h⟩
def qS4(C:Addr):VSp:=λ ds Q _=>∃ b ns n wr ps S,ds=[b,planD true C n wr ps,caseD n wr ps,.lst true (ksD S)]/\isBag ns b/\1<=n/\n<=64/\(ps.map (·.1)).Nodup/\Handy S/\S≠[]/\∀ b',isBag ns b'->Q (.bl true) [b',planD true C n wr ps,caseD n wr ps,.lst true (ksD S)]
theorem qV2(T:Txt K mg a):VFn P w K mg base 8 a.f39 a.d39 ["_law_bag_here", "_law_plan", "_law_case_here", "_law_keys_here"] (qS4 a.C4):=by
 refine VFn.mk' T.d39.F qe1 (wOf [true,true,true,true]) (λ ds Q Q' xe xe' hQ _ h=>by obtain⟨b,ns,n,wr,ps,S,e,h1,h2,h3,h4,h5,h6,q⟩:=h;exact⟨b,ns,n,wr,ps,S,e,h1,h2,h3,h4,h5,h6,λ b' B'=>hQ _ _ (q b' B')⟩) (λ ds Q xe h=>by obtain⟨b,ns,n,wr,ps,S,e,_⟩:=h;rw[e];rfl) (λ ds Q xe h=>by obtain⟨b,ns,n,wr,ps,S,e,⟨x,y,w,eb,_⟩,_⟩:=h;rw[e,eb];rfl) (λ cdv A outer sh H E av hr=>⟨_,(Ab (Ak 4 qe1.nd (Gc (vaV (qa4 Ac) (vaV (Ah T.d27 (qc3 T) qa0 (rm hr) (vaN 0 (vaV (qc4 (v2 (As qb4) Aj (vnm 2) Ac)) Aa))) (vaV (qa4 (v2 (Ag qq3) qq2 (v2 (As qb4) Aj (vnm 2) Ac) Ac)) Aa)))))
     (Ab (Gg PassesOwn.leaving (Gc (vaV (Ek (qa4 (Bj qa7))) (vaV (Ek (qa4 (vsl (vnm 3) (G7 Ac) G6))) (vaV (Ek (qc4 (vnm 3))) Aa)))) (A9 5 qe1.nd)
     (Ab (Ak 6 qe1.nd (qa4 (Fa qd9 qx3.ops T.Cn (qa2 (vnm 5) qa7 rfl))))
     (Af (qS6 PassesOwn.leaving T.Ch (Eo (vaV (qa4 Ac) Aa)) (A9 7 qe1.nd)
     (Ab (scN (NY:=["_law_room", "_law_case_here", "_law_handed"]) (src:=[none,some 2,some 6]) 8 4 qe1.nd (blk (λ av C s0 H0 ex=>(A9 0 (show (["_law_room", "_law_case_here", "_law_handed"]:List Str).Nodup by decide +kernel))) (λ av C s0 H0 ex=>Eu) (λ av C s0 H0 ex=>(Ah T.d36 (qz5 T) qi6 (rm hr) (vaN 1 (vaN 2 (vaN 0 Aa)))))))
     (Ab (sif (q2v (Au (qh4 hr.u64) (qb0 _)) (Ap (qh4 hr.u64) (qb0 _)) Bu (ecN (NY:=["_law_room", "_law_plan", "_law_handed"]) (src:=[none,some 1,some 6]) 4 (blk (λ av C s0 H0 ex=>(A9 0 (show (["_law_room", "_law_plan", "_law_handed"]:List Str).Nodup by decide +kernel))) (λ av C s0 H0 ex=>Eu) (λ av C s0 H0 ex=>(Ah T.d18 (qo0 T) qi6 (rm hr) (vaN 1 (vaN 2 (vaN 0 Aa))))))) (vnm 8))
     (Af (Am (qa4 vbl)))
     At)
     (Af (sif (q2 (Ap (qh4 hr.u64) (qb0 _)) Bu (vnm 6) (Bj qa7))
     (Af (Bw (qaM3 6 qaJ2 PySem.F.plainAttrs_list PySem.F.slot_list_pop PySem.F.type_list_pop qaJ4)))
     At))))))))
     (Ab (Ak 9 qe1.nd (Gc (vaV (Ek (qa4 (Fa qE4 qat1.ops T.Da (qa2 (vnm 3) qa7 rfl)))) (vaV (Ek (qa4 (v2 (Ag qg2) qg1 (vnm 3) (vsl (vnm 3) G6 (G7 Ac))))) (vaV (Ek (qaD6 T.Cn T.Ch (Eo (vaV (qa4 Ac) Aa)))) (vaV (Ek (qa4 Bl)) (vaV (Ek (Gc (vaV (Ek (qa4 (Bj (qa2 Ac qa7 rfl)))) Aa))) (vaV (Ek (qa4 (Bj (qa2 (Hi Ac) qa7 rfl)))) (vaV (Ek (qa4 (v2 (Ag qg2) qg1 (vsl (vnm 3) G6 (G7 (Hi Ac))) (Bj (qa2 (v2 (Ag qg2) qg1 (Hh 1000000000000000000) Ac) qa7 rfl))))) (vaV (Ek (qa4 (Bj (qa2 vstr qa7 rfl)))) Aa))))))))))
     (Ab (Ir PassesOwn.leaving (vpn 9) (A9 10 qe1.nd)
     (Af (sif (tor (q2v (Au (qh4 hr.u64) (qb0 _)) (Ap (qh4 hr.u64) (qb0 _)) Bu (qE0 T.d38 (qh7 T) qa0 (rm hr) (vaN 1 (vaN 10 (vaV (qa4 Ac) Aa)))) Ac) (Gs (q2v (Au (qh4 hr.u64) (qb0 _)) (Ap (qh4 hr.u64) (qb0 _)) Bu (qE0 T.d38 (qh7 T) qa0 (rm hr) (vaN 1 (vaN 10 (vaV (qa4 Bl) Aa)))) Ac))).te
     (Af (Am (qa4 vbl)))
     At)))
     (Ab (sif (tor (q2 (Ap (qh4 hr.u64) (qb0 _)) Bu (Bj (qa2 (Ec rfl (vnm 1) T.C5.cl T.C8) (qa2 (Ec rfl (vnm 1) T.C5.cl T.Cg) (qa2 (Ec rfl (vnm 1) T.C5.cl T.Cr) qa7 rfl) rfl) rfl)) (vnm 2)) (Gs (q2v (Au (qh4 hr.u64) (qb0 _)) (Ap (qh4 hr.u64) (qb0 _)) Bu (qE0 T.d38 (qh7 T) qa0 (rm hr) (vaN 2 (vaN 3 (vaV (qa4 Ac) Aa)))) Ac))).te
     (Af (Am (qa4 vbl)))
     At)
     (Af (Am (Gu (e2v (Au (qi5 hr.u64) (qb0 _)) Bd (qE0 T.d38 (qh7 T) qa0 (rm hr) (vaV (qa4 Bl) (vaV (qa4 (Bj (qa2 vbl qa7 rfl))) (vaV (qa4 Ac) Aa)))) Ac) (Ij (e2v (Au (qi5 hr.u64) (qb0 _)) Bd (qE0 T.d38 (qh7 T) qa0 (rm hr) (vaV (qa4 vstr) (vaN 3 (vaV (qa4 Bl) Aa)))) Ac)))))))))),λ ds Q xe h=>?_⟩)
 obtain⟨b,ns,n,wr,ps,S,rfl,B,n1,n2,nd,F,hne,q⟩:=h;refine Aq [b,planD true a.C4 n wr ps,caseD n wr ps,.lst true (ksD S),.unk,.unk,.unk,.unk,.unk,.unk,.unk] rfl ?_;refine qb7 (λ ds=>∃ b v,ds=[b,planD true a.C4 n wr ps,caseD n wr ps,.lst true (ksD S),.lst false (ksD [0,v,n - 1]),.unk,.unk,.unk,.unk,.unk,.unk]/\isBag ns b/\0<=v/\v < n) (λ K hK=>?_) ?_
 . refine qm6 (qv3 (qc0 (y:=.int 0) rfl (qp6 ?_)))
   refine qR3 (ds:=[b,planD true a.C4 n wr ps,caseD n wr ps,.lst true (ksD S),.unk,.unk,.unk,.unk,.unk,.unk,.unk]) (m:=n) rfl B rfl (by lia) (by lia) λ v b1 v0 v1 B1=>?_
   exact qc0 (y:=.int (n - 1)) rfl (qd0 ⟨by show 3<=1000000;decide,hK _ ⟨b1,v,rfl,B1,v0,v1⟩⟩)
 rintro ds ⟨b,v,rfl,B,v0,v1⟩;have spot:∀ y∈ksD [0,v,n - 1],∃ r:Int,y=.int r/\0<=r/\r < n:=λ y hy=>by
   obtain⟨r,hr,rfl⟩:=zB6.mp hy;simp only[zAc,zAy,zC1] at hr;rcases hr with rfl | rfl | rfl
   . exact⟨_,rfl,by lia,by lia⟩
   . exact⟨_,rfl,v0,v1⟩
   exact⟨_,rfl,by lia,by lia⟩
 refine qb7 (λ ds=>∃ d5 d6 d7 d8,ds=[b,planD true a.C4 n wr ps,caseD n wr ps,.lst true (ksD S),.lst false (ksD [0,v,n - 1]),d5,d6,d7,d8,.unk,.unk]) (λ K hK=>?_) ?_
 . refine qY2 (qv3 ?_)
   refine ql2 (y:=.lst false (ksD [])) rfl ?_;refine ql2 (y:=.lst false (ksD (S.drop 1))) (qas9 (z:=true) rfl rfl rfl (qas8 S)) ?_;refine qav1 (y:=.lst true (ksD S)) rfl rfl ?_;refine qd0 ⟨by show 3<=1000000;decide,?_⟩;refine qa1 (a:=[D.fz (.lst false (ksD [])),D.fz (.lst false (ksD (S.drop 1))),D.fz (.lst true (ksD S))]) rfl ⟨rfl,?_⟩;refine qc5 (λ _ ds=>∃ d5 d6 d7 d8,ds=[b,planD true a.C4 n wr ps,caseD n wr ps,.lst true (ksD S),.lst false (ksD [0,v,n - 1]),d5,d6,d7,d8,.unk,.unk]) _ 0 _ ⟨_,_,_,_,rfl⟩ ?_ ?_
   . rintro i x hx ds ⟨d5,d6,d7,d8,rfl⟩ K2 hK2
     obtain⟨T,rfl,FT⟩:∃ T,x=.lst true (ksD T)/\Handy T:=by
       have hx:=zBb hx;simp only[zAc,zAy,zC1] at hx;rcases hx with rfl | rfl | rfl
       . exact⟨_,Em _,F.sub (List.nil_sublist _)⟩
       . exact⟨_,Em _,F.sub (List.drop_sublist _ _)⟩
       exact⟨_,Em _,F⟩
     refine qi7 (Aq [b,planD true a.C4 n wr ps,caseD n wr ps,.lst true (ksD S),.lst false (ksD [0,v,n - 1]),.lst true (ksD T),d6,d7,d8,.unk,.unk] rfl ?_);refine qb9 [b,planD true a.C4 n wr ps,caseD n wr ps,.lst true (ksD S),.lst false (ksD [0,v,n - 1]),.lst true (ksD T),.lst false (ksD T),d7,d8,.unk,.unk] (λ K hK=>qo7 (qL4 (z:=true)) hK) ?_;refine qM7 (n:=2) rfl (by decide) ?_;refine qc5 (λ _ ds=>∃ U d7 d8,ds=[b,planD true a.C4 n wr ps,caseD n wr ps,.lst true (ksD S),.lst false (ksD [0,v,n - 1]),.lst true (ksD T),.lst false (ksD U),d7,d8,.unk,.unk]/\Handy U) _ 0 _ ⟨T,_,_,rfl,FT⟩ ?_ ?_
     . rintro j y hy ds ⟨U,d7,d8,rfl,FU⟩ K3 hK3
       have hlU:=FU.len;refine qi7 (Aq [b,planD true a.C4 n wr ps,caseD n wr ps,.lst true (ksD S),.lst false (ksD [0,v,n - 1]),.lst true (ksD T),.lst false (ksD U),y,d8,.unk,.unk] rfl ?_);refine qb9 [b,planD true a.C4 n wr ps,caseD n wr ps,.lst true (ksD S),.lst false (ksD [0,v,n - 1]),.lst true (ksD T),.lst false (ksD U),y,.lst false ((ksD [0,v,n - 1]).filterMap (crF n wr ps U)),.unk,.unk] (λ K hK=>?_) ?_
       . refine qm6 (qa1 (a:=D.lst false (ksD [0,v,n - 1])) rfl (qa1 (a:=ksD [0,v,n - 1]) rfl ⟨rfl,?_⟩))
         refine qh9 (λ ι=>∃ d,ι=[d,caseD n wr ps,.lst false (ksD U)]) (crF n wr ps U) _ [] _ (by show 0+3 < 1000000;decide) ⟨_,rfl⟩ ?_ ?_
         . rintro y hy ι acc ⟨d,rfl⟩ R hR hacc
           obtain⟨r,rfl,r0,r1⟩:=spot y hy;exact qi7 (qC8 (x:=caseD n wr ps) (y:=.lst false (ksD U)) (w:=.int r) (d:=.bl (qf4 n wr ps U r)) rfl rfl rfl rfl rfl ⟨n,wr,ps,false,U,r,rfl,n1,nd,by lia,rfl⟩ rfl ⟨hacc,hR _ ⟨_,rfl⟩⟩)
         rintro ι ⟨d,rfl⟩;exact hK
       refine qe2 false (λ Q q=>?_) (λ h=>(nomatch h)) λ _=>?_
       . refine qC3 (qa1 (a:=D.lst false (ksD [0,v,n - 1])) rfl (qa1 (a:=ksD [0,v,n - 1]) rfl ⟨rfl,?_⟩))
         refine qh9 (λ ι=>∃ d,ι=[d,planD true a.C4 n wr ps,.lst false (ksD U)]) (crF n wr ps U) _ [] _ (by show 0+3 < 1000000;decide) ⟨_,rfl⟩ ?_ ?_
         . rintro y hy ι acc ⟨d,rfl⟩ R hR hacc
           obtain⟨r,rfl,r0,r1⟩:=spot y hy;exact qi7 (qJ6 (x:=planD true a.C4 n wr ps) (y:=.lst false (ksD U)) (w:=.int r) rfl rfl rfl rfl rfl (qY9 n1 n2 FU r0 r1 (qa1 (a:=[.int r,planD true a.C4 n wr ps,.lst false (ksD U)]) rfl ⟨hacc,hR _ ⟨_,rfl⟩⟩)))
         rintro ι ⟨d,rfl⟩;exact qa1 (a:=D.bl false) (qaz8 qat2) (qa1 (a:=false) rfl q)
       refine Fo (!decide (U=[])) (λ Q q=>qi0 (Ad (x:=.lst false (ksD U)) (y:=.lst false (ksD [])) rfl rfl (qaC4 U [])) q) (λ h=>?_) λ _=>hK3 _ ⟨U,_,_,rfl,FU⟩
       have hU:U≠[]:=λ e=>by rw[e] at h;cases h
       refine qm4 (qaA0 (ys:=ksD U) rfl (qd0 (qa1 (a:=ksD U) rfl (qa1 (a:=(ksD U.dropLast,D.int (U.getLast hU))) ?_ (hK3 _ ⟨U.dropLast,_,_,rfl,FU.sub (List.dropLast_sublist U)⟩)))));show (((ksD U)[(ksD U).length - 1]?).map λ d=>((ksD U).dropLast,d))=_;unfold ksD;rw[<- List.getLast?_eq_getElem?,List.getLast?_map,List.getLast?_eq_getLast hU,List.map_dropLast];rfl
     rintro ds ⟨U,d7,d8,rfl,_⟩;exact hK2 _ ⟨_,_,_,_,rfl⟩
   rintro ds ⟨d5,d6,d7,d8,rfl⟩;exact hK _ ⟨_,_,_,_,rfl⟩
 rintro ds ⟨d5,d6,d7,d8,rfl⟩;have hlS:=F.len;have hdl:=(List.dropLast_sublist S).length_le;refine qb7 (λ ds=>∃ os,ds=[b,planD true a.C4 n wr ps,caseD n wr ps,.lst true (ksD S),.lst false (ksD [0,v,n - 1]),d5,d6,d7,d8,.lst false os,.unk]/\D.imms os=true/\∀ x∈os,Hm x) (λ K hK=>?_) ?_
 . refine qm6 (qv3 ?_)
   refine ql2 (y:=.tup (ksD S)) (by unfold Ax Aw;exact qk8 (qf2 S)) ?_;refine ql2 (y:=.lst false (ksD (S++S.take 1))) (Ad (x:=.lst true (ksD S)) rfl (qas9 (z:=true) rfl rfl rfl (qaE1 S)) (qaF1 (by have:=(zBv 1 S).length_le;lia))) ?_;refine qp6 (Hb (lr_to (qc0 (y:=.int 101) rfl (qd0 ⟨101,rfl,by decide,by decide,?_⟩))));refine ql2 (y:=.non) rfl ?_;refine qp6 (Hb (qv3 (ql2 (y:=.lst false [.int 3]) rfl (qd0 ⟨by show 1<=1000000;decide,?_⟩))));refine ql2 (y:=.lst false [.int (-1)]) rfl ?_;refine ql2 (y:=.lst false (ksD (S.dropLast++[1000000000000000000+1]))) (Ad (qas9 (z:=true) rfl rfl rfl (qat0 hne)) rfl (qaF1 (z:=false) (z':=false) (B:=[1000000000000000000+1]) (by show S.dropLast.length+1<=1000;lia))) ?_;refine ql2 (y:=.lst false [.str "3"]) rfl ?_;refine qd0 ⟨by show 8<=1000000;decide,?_⟩;refine hK _ ⟨_,rfl,?_,λ x hx=>?_⟩
   . show ((D.imms (D.fzs (ksD S)))&&_)=true
     rw[qY0,qf2];rfl
   simp only[zAc,zAy,zC1] at hx;rcases hx with rfl | rfl | rfl | rfl | rfl | rfl | rfl | rfl
   . show Hm (.tup (D.fzs (ksD S)))
     rw[qY0];exact⟨rfl,qf2 S,⟨⟨_,rfl⟩,λ z ys e=>by cases e⟩,rfl,congrArg D.tup (qY0 S)⟩
   . exact qap1 (by have:=(zBv 1 S).length_le;rw[zAj];lia) λ _ _=>qaa6 hne
   . rw[qaG6]
     exact qap1 (by simp) (λ h=>absurd h (by simp))
   . exact⟨rfl,rfl,⟨⟨_,rfl⟩,λ z ys e=>by cases e⟩,rfl,rfl⟩
   . exact qL0 (ys:=[.lst true [.int 3]]) rfl (by decide) (λ x hx=>by cases zAn.mp hx;exact⟨_,rfl⟩) rfl rfl
   . exact qL0 (ys:=[.int (-1)]) rfl (by decide) (λ x hx=>by cases zAn.mp hx;exact⟨_,rfl⟩) rfl rfl
   . refine qap1 (by rw[zAj];show S.dropLast.length+1<=1000;lia) λ _ h=>?_
     have h:=(h (1000000000000000000+1) (zAs _ (zAn.mpr rfl))).2;exact absurd h (by decide)
   exact qL0 (ys:=[.str "3"]) rfl (by decide) (λ x hx=>by cases zAn.mp hx;exact⟨_,rfl⟩) rfl rfl
 rintro ds ⟨os,rfl,hos,hodd⟩;refine qb7 (λ ds=>∃ d9 d10,ds=[b,planD true a.C4 n wr ps,caseD n wr ps,.lst true (ksD S),.lst false (ksD [0,v,n - 1]),d5,d6,d7,d8,d9,d10]) (λ K hK=>?_) ?_
 . refine qa1 (a:=(9,[])) rfl (qa1 (a:=D.lst false os) rfl (qa1 (a:=os) rfl ⟨hos,λ w=>?_⟩))
   refine qc5 (λ _ ds=>∃ d10,ds=[b,planD true a.C4 n wr ps,caseD n wr ps,.lst true (ksD S),.lst false (ksD [0,v,n - 1]),d5,d6,d7,d8,.hole w,d10]) _ 0 _ ⟨_,rfl⟩ ?_ ?_
   . rintro i x hx ds ⟨d10,rfl⟩ K2 hK2
     have ho:=hodd x (zBb hx);have ho':Hm x.fz:=by rw[ho.2.2.2.2];exact ho
     refine qi7 (Aq [b,planD true a.C4 n wr ps,caseD n wr ps,.lst true (ksD S),.lst false (ksD [0,v,n - 1]),d5,d6,d7,d8,.hole w,x] rfl ?_);refine Fo false (λ Q q=>?_) (λ h=>(nomatch h)) λ _=>hK2 _ ⟨_,rfl⟩
     refine qv8 false false (λ Q q=>?_) (λ _ Q q=>?_) q
     . refine qC3 (qb5 (x:=planD true a.C4 n wr ps) rfl (qb5 (x:=x) (qb6 rfl ho.1) (qc0 (y:=.int 0) rfl (qd0 (qa1 (a:=x) (qb6 rfl ho.1) (qa1 (a:=planD true a.C4 n wr ps) rfl ?_))))))
       exact wr1 (ds:=[b,planD true a.C4 n wr ps,caseD n wr ps,.lst true (ksD S),.lst false (ksD [0,v,n - 1]),d5,d6,d7,d8,.hole w,x]) ho' ⟨_,rfl⟩ rfl rfl (qa1 (a:=D.bl false) rfl (qa1 (a:=false) rfl q))
     refine qC3 (qb5 (x:=planD true a.C4 n wr ps) rfl (qb5 (x:=x) (qb6 rfl ho.1) (qc0 (y:=.non) rfl (qd0 (qa1 (a:=x) (qb6 rfl ho.1) (qa1 (a:=planD true a.C4 n wr ps) rfl ?_))))));exact wr1 (ds:=[b,planD true a.C4 n wr ps,caseD n wr ps,.lst true (ksD S),.lst false (ksD [0,v,n - 1]),d5,d6,d7,d8,.hole w,x]) ho' ⟨_,rfl⟩ rfl rfl (qa1 (a:=D.bl false) rfl (qa1 (a:=false) rfl q))
   rintro ds ⟨d10,rfl⟩;exact qa1 (qE6 rfl) (hK _ ⟨_,_,rfl⟩)
 rintro ds ⟨d9,d10,rfl⟩;refine qe2 false (λ Q q=>?_) (λ h=>(nomatch h)) λ _=>?_
 . refine qv8 false false (λ Q q=>qi0 (b:=false) (Ad (x:=.lst false [.int n,.bl wr,.lst true (prD ps)]) (y:=caseD n wr ps) ?_ rfl (qaD2 (C:=a.C4))) q) (λ _ Q q=>?_) q
   . unfold Ax Aw f1
     rw[show rdN 1 [b,planD true a.C4 n wr ps,caseD n wr ps,.lst true (ksD S),.lst false (ksD [0,v,n - 1]),d5,d6,d7,d8,d9,d10]=some (planD true a.C4 n wr ps) from rfl];simp only[Option.bind_some];rw[qd4,qA8,qae9];rfl
   refine qC3 (qb5 (x:=caseD n wr ps) rfl (qb5 (x:=.lst true (ksD S)) rfl (qc0 (y:=.int 0) rfl (qd0 (qa1 (a:=D.lst true (ksD S)) rfl (qa1 (a:=caseD n wr ps) rfl ?_))))));exact Go (ds:=[b,planD true a.C4 n wr ps,caseD n wr ps,.lst true (ksD S),.lst false (ksD [0,v,n - 1]),d5,d6,d7,d8,d9,d10]) (bp:=false) rfl rfl ⟨_,rfl⟩ rfl rfl rfl (λ h=>(nomatch h)) rfl rfl (qa1 (a:=D.bl false) rfl (qa1 (a:=false) rfl q))
 refine qp9 (qaN4 (qR7 (qc0 (y:=.non) rfl (qc0 (y:=.lst false [.bl true]) rfl (qc0 (y:=.int 0) rfl (qd0 ?_))))));refine Go (ds:=[b,planD true a.C4 n wr ps,caseD n wr ps,.lst true (ksD S),.lst false (ksD [0,v,n - 1]),d5,d6,d7,d8,d9,d10]) (bp:=false) rfl rfl ⟨_,rfl⟩ rfl rfl rfl (λ h=>(nomatch h)) rfl rfl (qa1 (a:=D.bl true) rfl (qa1 (a:=true) rfl (ite_t rfl ?_)));refine qR7 (qc0 (y:=.str "plan") rfl (qb5 (x:=.lst true (ksD S)) rfl (qc0 (y:=.non) rfl (qd0 (qa1 (a:=D.lst true (ksD S)) rfl ?_)))));exact Go (ds:=[b,planD true a.C4 n wr ps,caseD n wr ps,.lst true (ksD S),.lst false (ksD [0,v,n - 1]),d5,d6,d7,d8,d9,d10]) (bp:=false) rfl rfl ⟨_,rfl⟩ rfl rfl rfl (λ h=>(nomatch h)) rfl rfl (qa1 (a:=D.bl true) rfl (q b B))
theorem qj4:qa9 ["_law_script", "_law_bag_here", "_law_case_here", "_law_way", "_law_most", "_law_many", "_law_keys_here", "_law_plan", "_law_fits", "_law_asked", "_law_found", "_law_handed", "_law_told", "_law_due", "_law_far_here", "_law_room"] ["_law_script"] (qa3 Gm):=by walk_at "s"
def A8(n:Int)(wr:Bool)(ps:Pr)(S:List Int):Bool:=!((List.range n.toNat).any λ(i:Nat)=>qf4 n wr ps S (i:Int))
theorem fit_t{n:Int}{wr:Bool}{ps:Pr}(n1:1<=n)(h:∀ q,¬ Crowd n.toNat wr (hmOf n ps) S q):A8 n wr ps S=true:=by
 unfold A8;rw[List.any_eq_false.mpr λ i hi=>by rw[qk1.of n1 h i (zB2.mp hi)];decide];rfl
theorem fit_f{n:Int}{wr:Bool}{ps:Pr}(n1:1<=n)(c:Crowd n.toNat wr (hmOf n ps) S r):A8 n wr ps S=false:=by
 unfold A8;rw[List.any_eq_true.mpr ⟨r,zB2.mpr c.1,(qm5 n1 c.1).mpr c⟩];rfl
theorem qaE3{n:Int}{wr:Bool}{ps:Pr}:(Av 0 N).filterMap (crF n wr ps S)=(List.range N).map λ(i:Nat)=>D.bl (qf4 n wr ps S (i:Int)):=by
 unfold Av;rw[List.filterMap_map,<- List.filterMap_eq_map];refine congrArg (λ f=>List.filterMap f (List.range N)) (funext λ i=>?_);show some (D.bl (qf4 n wr ps S (0+(i:Int))))=_;rw[Int.zero_add];rfl
theorem qY4{f:Nat->Bool}:∀ L:List Nat,flats (L.map λ i=>D.bl (f i))=some (L.map λ i=>V.bl (f i))
 | []=>rfl
 | i::L=>by
   show (flats (L.map λ i=>D.bl (f i))).bind (λ vs=>some (V.bl (f i)::vs))=_;rw[qY4 L];rfl
theorem qaB3{n:Int}{wr:Bool}{ps:Pr}{z:Bool}:gInB false (.bl true) (.lst z ((Av 0 n.toNat).filterMap (crF n wr ps S)))=some (.bl (!A8 n wr ps S)):=by
 show (flats ((Av 0 n.toNat).filterMap (crF n wr ps S))).bind (λ ws=>some (D.bl (inV (V.bl true) ws)))=_;rw[qaE3,qY4];show some (D.bl (((List.range n.toNat).map λ(i:Nat)=>V.bl (qf4 n wr ps S (i:Int))).any λ y=>eqV y (V.bl true)))=_;unfold A8;rw[Bool.not_not,List.any_map];congr 3;exact funext λ i=>by show (qf4 n wr ps S (i:Int) == true)=_;cases qf4 n wr ps S (i:Int)<;>rfl
theorem qar2(h:∀ d∈L,∃ b,d=D.bl b):D.imms L=true:=by
 induction L with
 | nil=>rfl
 | cons d L ih =>
   obtain⟨b,rfl⟩:=h d zAd;exact ih λ x hx=>h x (zA4 _ hx)
theorem qaJ1(T:Txt K mg a):Bi P w K mg base (CX1 P w) 12 a.f40 a.d40 ["_law_script"] (G1 K):=by
 refine T.d40.F.okX qj4 (λ vs H Q E h=>?_) (λ cdv A outer s H vs Q E hr h=>?_)
 . obtain⟨l,ns,rfl,_⟩:=h
   rfl
 obtain⟨l,ns,rfl,hS,hl,k⟩:=h;refine⟨_,qH0 (sset 1 qj4.nd (callD T.d26 (qaz3 T) (rm hr) (qd3 (pv 0) qq1))) (show VSs ⟨E,λ _=>false,List.replicate 16 none,[]⟩ (Ef (CX1 P w) P w K mg base ["_law_script", "_law_bag_here", "_law_case_here", "_law_way", "_law_most", "_law_many", "_law_keys_here", "_law_plan", "_law_fits", "_law_asked", "_law_found", "_law_handed", "_law_told", "_law_due", "_law_far_here", "_law_room"] "law" (qa3 Gm) a.f40 cdv A outer s H E) _ _ from(Ab (Ak 2 qj4.nd (Ah T.d28 (qap0 T) qa0 (rm hr) (vaN 1 (vaV (qa4 Ac) Aa))))
     (Ab (Ak 3 qj4.nd (Ah T.d27 (qc3 T) qa0 (rm hr) (vaN 1 (vaV (qa4 Ac) Aa))))
     (Ab (Ak 4 qj4.nd (Ah T.d27 (qc3 T) qa0 (rm hr) (vaN 1 (vaV (qa4 Ac) Aa))))
     (Ab (Ak 5 qj4.nd (e2vP (As qb4) Aj (Gc (vaV (e2 (Ag qg2) qg1 (qa4 Ac) (Ah T.d27 (qc3 T) qa0 (rm hr) (vaN 1 (vaV (qa4 (v2 (Ag qg2) qg1 (v2 (As qb4) Aj (vnm 2) Ac) Ac)) Aa)))) (vaV (qa4 (v2 (Ag qg2) qg1 (v2 (As qb4) Aj (vnm 2) Ac) Ac)) (vaV (qc4 (v2 (As qb4) Aj (vnm 2) Ac)) (vaV (e2vP (As qb4) Aj (Gc (vaV (qa4 Ac) (vaV (e2 (Ag qg2) qg1 (qa4 Ac) (Ah T.d27 (qc3 T) qa0 (rm hr) (vaN 1 (vaV (qa4 Ac) Aa)))) Aa))) (vnm 4)) Aa))))) (vnm 3)))
     (Ab (Ak 6 qj4.nd (Ek (Ah T.d30 (qao9 T) qa0 (rm hr) (vaN 1 (vaN 2 (vaN 5 Aa))))))
     (Ab (Ak 7 qj4.nd (Ek (emake T.C5 T.Do T.d10 (qH6 T) qa0 (rm hr) (vaV (qc4 (v2 (As qb4) Aj (vnm 2) Ac)) (vaV (qc4 (v2 (As qb4) Aj (vnm 2) Ac)) (vaV (qa4 (Fa qd9 qx3.ops T.Cn (qa2 (v2 (As qb4) Aj (vnm 2) Ac) qa7 rfl))) Aa))))))
     (Ab (Ak 8 qj4.nd (e2v (Au qV0 (qb0 _)) qU9 (Ah T.d35 (qV4 T) qa0 (rm hr) (vaN 2 (vaN 6 Aa))) Bl))
     (Ab (Gg PassesOwn.leaving (qa4 (Bj (qa2 (vgf T.d23.m) (qa2 (vgf T.d25.m) qa7 rfl) rfl))) (A9 9 qj4.nd)
     (Ab (Ak 10 qj4.nd (qE0 T.d37 (qP9 T) qa0 (rm hr) (vaN 9 (vaN 7 (vaV (qa4 (Fa qd9 qx3.ops T.Cn (qa2 (vnm 6) qa7 rfl))) Aa)))))
     (Ab (sif (tor (q2 (Ap (qh4 hr.u64) (qb0 _)) Bu (v2 (Au (qi5 hr.u64) (qb0 _)) Bd (vnm 10) (Hi Ac)) (vnm 8)) (Gs (tv (vbi qi9 qE1.ops T.C9 (qa2 (vnm 10) (qa2 (vty "bool" T.Cy) qa7 rfl) rfl))))).te
     (Af (Am (qa4 vbl)))
     At)
     (Ab (sif (tand (Bm (tv (vnm 8))) (G5 (Bm (qch Hr Ie Ff Fi Ac (vnm 10) (v2 (As qb4) Aj (vnm 2) Ac))))).te
     (Af (Am (qa4 vbl)))
     At)
     (Af (sif (tand (Bm (tv (vnm 8))) (G5 (Bm (te (Ah T.d36 (qz5 T) qa0 (rm hr) (vaN 2 (vaN 6 (vaN 10 Aa)))))))).te
     (Af (Am (qa4 vbl)))
     At))))))
     (Ab (Ak 11 qj4.nd (qa4 (Fa qd9 qx3.ops T.Cn (qa2 (vnm 6) qa7 rfl))))
     (Ab (scR1 (NY:=["_law_room", "_law_plan", "_law_handed"]) (src:=[none,some 7,some 11]) 12 qj4.nd T.Ch (Eo (vaV (qc4 (v2 (As qb4) Aj (vnm 2) Ac)) Aa)) (blk (λ av C s0 H0 ex=>(A9 0 (show (["_law_room", "_law_plan", "_law_handed"]:List Str).Nodup by decide +kernel))) (λ av C s0 H0 ex=>Eu) (λ av C s0 H0 ex=>(Ah T.d18 (qo0 T) qi6 (rm hr) (vaN 1 (vaN 2 (vaN 0 Aa)))))))
     (Ab (sif (q2 (Ap (qh4 hr.u64) (qb0 _)) Bu (vnm 11) (vnm 6))
     (Af (Am (qa4 vbl)))
     At)
     (Ab (scR1 (NY:=["_law_room", "_law_case_here", "_law_keys_here"]) (src:=[none,some 2,some 6]) 13 qj4.nd T.Ch (Eo (vaV (qc4 (v2 (As qb4) Aj (vnm 2) Ac)) Aa)) (blk (λ av C s0 H0 ex=>(A9 0 (show (["_law_room", "_law_case_here", "_law_keys_here"]:List Str).Nodup by decide +kernel))) (λ av C s0 H0 ex=>Eu) (λ av C s0 H0 ex=>(Ah T.d36 (qz5 T) qi6 (rm hr) (vaN 1 (vaN 2 (vaN 0 Aa)))))))
     (Ab (sif (q2 (Ap (qh4 hr.u64) (qb0 _)) Bu (vnm 12) (vnm 13))
     (Af (Am (qa4 vbl)))
     At)
     (Ab (sif (q2 (Ap (qi5 hr.u64) (qb0 _)) Bd (v2 (Au qac5 (by with_unfolding_all rfl)) os_in vbl (vnm 12)) (vnm 8))
     (Af (Am (qa4 vbl)))
     At)
     (Ab (sif (q2v (Au (qh4 hr.u64) (qb0 _)) (Ap (qh4 hr.u64) (qb0 _)) Bu (ecN (NY:=["_law_one"]) (src:=[none]) 12 (blk (λ av C s0 H0 ex=>(A9 0 (show (["_law_one"]:List Str).Nodup by decide +kernel))) (λ av C s0 H0 ex=>(Iu (Bm (tv (vbi qi9 qE1.ops T.C9 (qa2 (vnm 0) (qa2 (vty "bool" T.Cy) qa7 rfl) rfl)))))) (λ av C s0 H0 ex=>(qc4 (vnm 0))))) (Bj qa7))
     (Af (Am (qa4 vbl)))
     At)
     (Ab (Ak 14 qj4.nd (e2 (Ag qg2) qg1 (qc4 (v2 (As qb4) Aj (vnm 2) Ac)) (Ah T.d27 (qc3 T) qa0 (rm hr) (vaN 1 (vaV (qa4 (Hh 100000000000000000000)) Aa)))))
     (Ab (Gg PassesOwn.leaving (qa4 (Bj (qa2 (v2 (As qb4) Aj (vnm 2) Ac) (qa2 (Hi Ac) (qa2 Bl (qa2 vbl (qa2 vstr (qa2 (vnm 14) qa7 rfl) rfl) rfl) rfl) rfl) rfl))) (A9 15 qj4.nd)
     (Af (sif (tor (q2v (Au (qh4 hr.u64) (qb0 _)) (Ap (qh4 hr.u64) (qb0 _)) Bu (qE0 T.d38 (qh7 T) qa0 (rm hr) (vaN 7 (vaV (qa4 (Fa qd9 qx3.ops T.Cn (qa2 (vnm 6) qa7 rfl))) (vaN 15 Aa)))) Ac) (Gs (q2v (Au (qh4 hr.u64) (qb0 _)) (Ap (qh4 hr.u64) (qb0 _)) Bu (qE0 T.d38 (qh7 T) qa0 (rm hr) (vaN 7 (vaV (qa4 (Bj (qa2 vbl qa7 rfl))) (vaN 15 Aa)))) Ac))).te
     (Af (Am (qa4 vbl)))
     At)))
     (Af (Am (Ah T.d39 (qV2 T) qa0 (rm hr) (vaN 1 (vaN 7 (vaN 2 (vaN 6 Aa))))))))))))))))))))))))).h,?_⟩
 refine⟨_,rfl,l,ns,rfl,hS,hl,λ p L H' hp hL kp B=>?_⟩;obtain⟨x,y,z,ns',B⟩:=B;refine qad6 (rest:=[]) (X:=Ef (CX1 P w) P w K mg base [] "law" (qa3 Gm) a.f40 cdv A outer s H E) (n:=14) (x:=x) (y:=y) (z:=z) (ns:=ns') rfl (λ _=>rfl) rfl B.at_ B.li B.ne (λ H'=>k H') ?_;have B0:isBag ns' (bagD x y z ns'):=⟨x,y,z,rfl,B.x0,B.y0,B.y1,B.z0,B.nn⟩
 generalize bagD x y z ns'=b at B0;generalize V.ref l=u;refine Aq [.hole u,b,.unk,.unk,.unk,.unk,.unk,.unk,.unk,.unk,.unk,.unk,.unk,.unk,.unk,.unk] rfl ?_;refine qb7 (λ ds=>∃ b n wr,ds=[.hole u,b,caseD n wr [],.unk,.unk,.unk,.unk,.unk,.unk,.unk,.unk,.unk,.unk,.unk,.unk,.unk]/\isBag ns' b/\1<=n/\n<=64) (λ K hK=>?_) ?_
 . refine qm6 (qZ7 (qb5 (x:=b) (qb6 rfl B0.known) (qc0 (y:=.int 64) rfl (qd0 ?_))))
   refine qa1 (a:=b) (qb6 rfl B0.known) ?_;exact⟨b,ns',rfl,B0,λ b' n wr B' n1 n2=>hK _ ⟨b',n,wr,rfl,B',n1,n2⟩⟩
 rintro ds ⟨b,n,wr,rfl,B,n1,n2⟩;refine qb7 (λ ds=>∃ b way,ds=[.hole u,b,caseD n wr [],.int way,.unk,.unk,.unk,.unk,.unk,.unk,.unk,.unk,.unk,.unk,.unk,.unk]/\isBag ns' b/\0<=way/\way < 4) (λ K hK=>?_) ?_
 . exact qe3 rfl B rfl (by decide) (by decide) λ v b' v0 v1 B'=>hK _ ⟨b',v,rfl,B',v0,v1⟩
 rintro ds ⟨b,way,rfl,B,w0,w1⟩;refine qb7 (λ ds=>∃ b most,ds=[.hole u,b,caseD n wr [],.int way,.int most,.unk,.unk,.unk,.unk,.unk,.unk,.unk,.unk,.unk,.unk,.unk]/\isBag ns' b/\0<=most/\most < 2) (λ K hK=>?_) ?_
 . exact qe3 rfl B rfl (by decide) (by decide) λ v b' v0 v1 B'=>hK _ ⟨b',v,rfl,B',v0,v1⟩
 rintro ds ⟨b,most,rfl,B,o0,o1⟩;refine qb7 (λ ds=>∃ b m,ds=[.hole u,b,caseD n wr [],.int way,.int most,.int m,.unk,.unk,.unk,.unk,.unk,.unk,.unk,.unk,.unk,.unk]/\isBag ns' b/\1<=m/\m<=100) (λ K hK=>?_) ?_
 . refine qm6 (qag6 (qv3 (qp6 (qal6 (x:=.int 1) rfl ?_))))
   refine qe3 (ds:=[.hole u,b,caseD n wr [],.int way,.int most,.unk,.unk,.unk,.unk,.unk,.unk,.unk,.unk,.unk,.unk,.unk]) (m:=n+4) rfl B rfl (by lia) (by lia) λ v b1 a0 a1 B1=>?_
   refine qa1 (a:=D.int (1+v)) rfl ?_;refine qc0 (y:=.int (n+1)) rfl (qj5 (y:=.int n) rfl rfl (qp6 (qag6 (qv3 (qc0 (y:=.int 100) rfl (qp6 (qal6 (x:=.int 1) rfl ?_)))))));refine qe3 (ds:=[.hole u,b1,caseD n wr [],.int way,.int most,.unk,.unk,.unk,.unk,.unk,.unk,.unk,.unk,.unk,.unk,.unk]) (m:=100) rfl B1 rfl (by lia) (by lia) λ v' b2 a0' a1' B2=>?_
   refine qa1 (a:=D.int (1+v')) rfl ?_;refine qd0 ⟨by show 2<=1000000;decide,?_⟩;refine qa1 (a:=D.int most) rfl ⟨rfl,?_⟩;obtain⟨d,hd,ed⟩:=qt5 (xs:=[D.int 100,D.int (1+v')]) (i:=most) o0 o1;obtain⟨m1,rfl,m10,m11⟩:∃ m:Int,d=.int m/\1<=m/\m<=100:=by
     simp only[zAc,zAy,zC1] at hd;rcases hd with rfl | rfl
     . exact⟨_,rfl,by lia,by lia⟩
     exact⟨_,rfl,by lia,by lia⟩
   refine qa1 (a:=D.int m1) ed ?_;refine qd0 ⟨by show 4<=1000000;decide,?_⟩;refine qa1 (a:=D.int way) rfl ⟨rfl,?_⟩;obtain⟨d,hd,ed⟩:=qt5 (xs:=[D.int (1+v),D.int (n+1),D.int n,D.int m1]) (i:=way) w0 w1;obtain⟨m,rfl,m0,m1⟩:∃ m:Int,d=.int m/\1<=m/\m<=100:=by
     simp only[zAc,zAy,zC1] at hd;rcases hd with rfl | rfl | rfl | rfl
     . exact⟨_,rfl,by lia,by lia⟩
     . exact⟨_,rfl,by lia,by lia⟩
     . exact⟨_,rfl,by lia,by lia⟩
     exact⟨_,rfl,by lia,by lia⟩
   exact qa1 (a:=D.int m) ed (hK _ ⟨b2,m,rfl,B2,m0,m1⟩)
 rintro ds ⟨b,m,rfl,B,m0,m1⟩;refine qb7 (λ ds=>∃ b ps S,ds=[.hole u,b,caseD n wr ps,.int way,.int most,.unk,.lst true (ksD S),.unk,.unk,.unk,.unk,.unk,.unk,.unk,.unk,.unk]/\isBag ns' b/\(ps.map (·.1)).Nodup/\Ic ps/\Handy S/\S≠[]) (λ K hK=>?_) ?_
 . refine qm6 (Hb (qJ6 (x:=b) (y:=caseD n wr []) (w:=.int m) (qb6 rfl B.known) rfl rfl rfl (qb6 rfl B.known) ⟨b,n,wr,m,ns',rfl,B,n1,n2,by lia,m1,λ b' ks ps B' nd lk hlen hne Dr=>?_⟩))
   refine qa1 (a:=[.hole u,b',caseD n wr ps,.int way,.int most,.unk,.unk,.unk,.unk,.unk,.unk,.unk,.unk,.unk,.unk,.unk]) rfl ?_;rw[Em];exact hK _ ⟨b',ps,ks,rfl,B',Dr.nd,Dr.good lk,⟨λ k hk=>(lk k hk).num,nd,by lia⟩,hne m0⟩
 rintro ds ⟨b,ps,S,rfl,B,nd,G,F,hne⟩;refine qb9 [.hole u,b,caseD n wr ps,.int way,.int most,.unk,.lst true (ksD S),planD true a.C4 n wr ps,.unk,.unk,.unk,.unk,.unk,.unk,.unk,.unk] (λ K hK=>?_) ?_
 . refine qm6 (Hb (qaA2 (qj5 (y:=.int n) rfl rfl (qj5 (y:=.bl wr) rfl rfl (qc0 (y:=.lst false (prD ps)) (qai9 (z:=false)) (qd0 ?_))))))
   refine⟨.int n,.bl wr,.lst false (prD ps),rfl,⟨_,rfl⟩,⟨_,rfl⟩,(qD2 G).2,λ h=>?_,λ _ h=>(nomatch h),λ _ _ h=>?_,λ n' wr' z' ps' e1 e2 e3 _ _ _=>?_⟩
   . rw[qx6 (by lia) (by lia)] at h;cases h
   . rw[(qD2 G).1] at h;cases h
   cases e1;cases e2;have e4:=(D.lst.inj e3).2;cases (D.lst.inj e3).1;cases qah9 e4;refine⟨rfl,?_⟩;show K (List.set _ 7 (planD false a.C4 n wr ps).fz);rw[qt0];exact hK
 refine qb9 [.hole u,b,caseD n wr ps,.int way,.int most,.unk,.lst true (ksD S),planD true a.C4 n wr ps,.bl (A8 n wr ps S),.unk,.unk,.unk,.unk,.unk,.unk,.unk] (λ K hK=>?_) ?_
 . refine qm6 (qR7 (qB4 (x:=caseD n wr ps) (y:=.lst true (ksD S)) rfl rfl rfl ⟨n,wr,ps,true,S,rfl,n1,n2,nd,F.nd,λ c g KP=>qa1 (a:=[.hole u,b,caseD n wr ps,.int way,.int most,.unk,.lst true (ksD S),planD true a.C4 n wr ps,.unk,.unk,.unk,.unk,.unk,.unk,.unk,.unk]) rfl (qa1 (a:=D.bl true) rfl ?_),λ ⟨q,c⟩=>qa1 (a:=[.hole u,b,caseD n wr ps,.int way,.int most,.unk,.lst true (ksD S),planD true a.C4 n wr ps,.unk,.unk,.unk,.unk,.unk,.unk,.unk,.unk]) rfl (qa1 (a:=D.bl false) rfl ?_)⟩))
   . rw[fit_t n1 c] at hK;exact hK
   rw[fit_f n1 c] at hK;exact hK
 refine qb7 (λ ds=>∃ d9 d10,ds=[.hole u,b,caseD n wr ps,.int way,.int most,.unk,.lst true (ksD S),planD true a.C4 n wr ps,.bl (A8 n wr ps S),d9,d10,.unk,.unk,.unk,.unk,.unk]) (λ K hK=>?_) ?_
 . refine qY2 (qQ0 (d:=.lst false [.adr a.f23,.adr a.f25]) rfl (qa1 (a:=[.adr a.f23,.adr a.f25]) rfl ⟨rfl,?_⟩))
   refine qc5 (λ _ ds=>∃ d9 d10,ds=[.hole u,b,caseD n wr ps,.int way,.int most,.unk,.lst true (ksD S),planD true a.C4 n wr ps,.bl (A8 n wr ps S),d9,d10,.unk,.unk,.unk,.unk,.unk]) _ 0 _ ⟨_,_,rfl⟩ ?_ ?_
   . rintro i x hx ds ⟨d9,d10,rfl⟩ K2 hK2
     obtain⟨f,rfl,hf⟩:∃ f,x=.adr f/\(f=a.f23∨f=a.f25):=by
       have hx:=zBb hx;simp only[zAc,zAy,zC1] at hx;rcases hx with rfl | rfl
       . exact⟨_,rfl,.inl rfl⟩
       exact⟨_,rfl,.inr rfl⟩
     refine qi7 (Aq [.hole u,b,caseD n wr ps,.int way,.int most,.unk,.lst true (ksD S),planD true a.C4 n wr ps,.bl (A8 n wr ps S),.adr f,d10,.unk,.unk,.unk,.unk,.unk] rfl ?_);refine qb7 (λ ds=>∃ fd,ds=[.hole u,b,caseD n wr ps,.int way,.int most,.unk,.lst true (ksD S),planD true a.C4 n wr ps,.bl (A8 n wr ps S),.adr f,.int fd,.unk,.unk,.unk,.unk,.unk]/\((A8 n wr ps S=true/\fd = -1)∨(A8 n wr ps S=false/\∃ r:Nat,fd=(r:Int)/\Crowd n.toNat wr (hmOf n ps) S r))) (λ K hK=>?_) ?_
     . refine qm6 (qb5 (x:=.adr f) rfl (qb5 (x:=planD true a.C4 n wr ps) rfl (qc0 (y:=.lst false (ksD S)) (qL4 (z:=true)) (qd0 (qa1 (a:=planD true a.C4 n wr ps) rfl (qa1 (a:=D.adr f) rfl ?_))))))
       show qw0 _ _ _ [(D.adr f).fz,(planD true a.C4 n wr ps).fz,(D.lst false (ksD S)).fz] _ _;rw[qt0,Em];exact⟨f,true,n,wr,ps,true,S,rfl,rfl,rfl,hf,n1,n2,F.num,F.nd,F.len,λ nc=>⟨rfl,qa1 (a:=[.hole u,b,caseD n wr ps,.int way,.int most,.unk,.lst true (ksD S),planD true a.C4 n wr ps,.bl (A8 n wr ps S),.adr f,d10,.unk,.unk,.unk,.unk,.unk]) rfl (hK _ ⟨_,rfl,.inl ⟨fit_t n1 (nc.no n1),rfl⟩⟩)⟩,λ r c=>⟨rfl,qa1 (a:=[.hole u,b,caseD n wr ps,.int way,.int most,.unk,.lst true (ksD S),planD true a.C4 n wr ps,.bl (A8 n wr ps S),.adr f,d10,.unk,.unk,.unk,.unk,.unk]) rfl (hK _ ⟨_,rfl,.inr ⟨fit_f n1 c,r,rfl,c⟩⟩)⟩⟩
     rintro ds ⟨fd,rfl,Fd⟩;rcases Fd with⟨hb,rfl⟩ | ⟨hb,r,rfl,c⟩
     . rw[hb] at hK2 ⊢
       refine qe2 false (λ Q q=>qv8 false false (λ Q q=>qi0 (b:=false) rfl q) (λ _ Q q=>qi0 (b:=false) rfl q) q) (λ h=>(nomatch h)) λ _=>?_
       refine qe2 false (λ Q q=>qi2 false false (λ Q q=>qc6 (b:=true) rfl q) (λ h=>(nomatch h)) q) (λ h=>(nomatch h)) λ _=>?_
       exact Fo false (λ Q q=>qi2 false false (λ Q q=>qc6 (b:=true) rfl q) (λ h=>(nomatch h)) q) (λ h=>(nomatch h)) λ _=>hK2 _ ⟨_,_,rfl⟩
     rw[hb] at hK2 ⊢;have hr:=c.1;refine qe2 false (λ Q q=>qv8 false false (λ Q q=>qi0 (b:=false) (Ad (x:=.bl false) (y:=.bl false) (Ad (x:=.int (r:Nat)) (y:=.int (-1)) rfl rfl ?_) rfl rfl) q) (λ _ Q q=>qi0 (b:=false) rfl q) q) (λ h=>(nomatch h)) λ _=>?_
     . show some (D.bl (((r:Nat):Int) == -1))=_
       rw[zBh.mpr (by lia)]
     refine qe2 false (λ Q q=>qi2 true false (λ Q q=>qc6 (b:=false) rfl q) (λ _ Q q=>qc6 (b:=true) ?_ q) q) (λ h=>(nomatch h)) λ _=>?_
     . show (if decide ((0:Int)<=((r:Nat):Int))=true then some (D.bl (decide (((r:Nat):Int) < n))) else some (.bl false))=_
       rw[if_pos (zA8 (by lia)),zA8 (by lia)]
     refine Fo false (λ Q q=>qi2 true false (λ Q q=>qc6 (b:=false) rfl q) (λ _ Q q=>?_) q) (λ h=>(nomatch h)) λ _=>hK2 _ ⟨_,_,rfl⟩
     exact qC8 (x:=caseD n wr ps) (y:=.lst true (ksD S)) (w:=.int (r:Nat)) (d:=.bl true) rfl rfl rfl rfl rfl ⟨n,wr,ps,true,S,r,rfl,n1,nd,by have:=F.len;lia,by rw[(qm5 n1 hr).mpr c]⟩ rfl (qa1 (a:=true) rfl q)
   rintro ds ⟨d9,d10,rfl⟩;exact hK _ ⟨_,_,rfl⟩
 rintro ds ⟨d9,d10,rfl⟩;have rng:∀ y∈Av 0 n.toNat,∃ r:Int,y=.int r/\0<=r/\r < n:=λ y hy=>by
   obtain⟨j,hj,rfl⟩:=zB6.mp hy;have hj:=zB2.mp hj;exact⟨_,rfl,by lia,by lia⟩
 have hlS:=F.len;refine qb9 [.hole u,b,caseD n wr ps,.int way,.int most,.unk,.lst true (ksD S),planD true a.C4 n wr ps,.bl (A8 n wr ps S),d9,d10,.lst false (ksD S),.unk,.unk,.unk,.unk] (λ K hK=>qo7 (qL4 (z:=true)) hK) ?_;refine qb9 [.hole u,b,caseD n wr ps,.int way,.int most,.unk,.lst true (ksD S),planD true a.C4 n wr ps,.bl (A8 n wr ps S),d9,d10,.lst false (ksD S),.lst false ((Av 0 n.toNat).filterMap (crF n wr ps S)),.unk,.unk,.unk] (λ K hK=>?_) ?_
 . refine qm6 (qaE4 (qj5 (y:=.int n) rfl rfl (qd0 (qa1 (a:=n) rfl ⟨qz8 (by lia) (by lia),?_⟩))))
   refine qh9 (λ ι=>∃ d,ι=[d,planD true a.C4 n wr ps,.lst false (ksD S)]) (crF n wr ps S) _ [] _ (by show 0+_ < 1000000;rw[qw9];lia) ⟨_,rfl⟩ ?_ ?_
   . rintro y hy ι acc ⟨d,rfl⟩ R hR hacc
     obtain⟨r,rfl,r0,r1⟩:=rng y hy;exact qi7 (qJ6 (x:=planD true a.C4 n wr ps) (y:=.lst false (ksD S)) (w:=.int r) rfl rfl rfl rfl rfl (qY9 n1 n2 F r0 r1 (qa1 (a:=[.int r,planD true a.C4 n wr ps,.lst false (ksD S)]) rfl ⟨hacc,hR _ ⟨_,rfl⟩⟩)))
   rintro ι ⟨d,rfl⟩;exact hK
 refine qe2 false (λ Q q=>qi0 (b:=false) (Ad rfl rfl (qX9 S)) q) (λ h=>(nomatch h)) λ _=>?_
 refine qb9 [.hole u,b,caseD n wr ps,.int way,.int most,.unk,.lst true (ksD S),planD true a.C4 n wr ps,.bl (A8 n wr ps S),d9,d10,.lst false (ksD S),.lst false ((Av 0 n.toNat).filterMap (crF n wr ps S)),.lst false ((Av 0 n.toNat).filterMap (crF n wr ps S)),.unk,.unk] (λ K hK=>?_) ?_
 . refine qm6 (qaE4 (qj5 (y:=.int n) rfl rfl (qd0 (qa1 (a:=n) rfl ⟨qz8 (by lia) (by lia),?_⟩))))
   refine qh9 (λ ι=>∃ d,ι=[d,caseD n wr ps,.lst true (ksD S)]) (crF n wr ps S) _ [] _ (by show 0+_ < 1000000;rw[qw9];lia) ⟨_,rfl⟩ ?_ ?_
   . rintro y hy ι acc ⟨d,rfl⟩ R hR hacc
     obtain⟨r,rfl,r0,r1⟩:=rng y hy;exact qi7 (qC8 (x:=caseD n wr ps) (y:=.lst true (ksD S)) (w:=.int r) (d:=.bl (qf4 n wr ps S r)) rfl rfl rfl rfl rfl ⟨n,wr,ps,true,S,r,rfl,n1,nd,by lia,rfl⟩ rfl ⟨hacc,hR _ ⟨_,rfl⟩⟩)
   rintro ι ⟨d,rfl⟩;exact hK
 refine qe2 false (λ Q q=>qi0 (b:=false) (Ad rfl rfl (qaz8 qat2)) q) (λ h=>(nomatch h)) λ _=>?_
 refine qe2 false (λ Q q=>qi0 (b:=false) (Ad (x:=.bl (!A8 n wr ps S)) (y:=.bl (A8 n wr ps S)) (Ad rfl rfl qaB3) rfl (by cases A8 n wr ps S<;>rfl)) q) (λ h=>(nomatch h)) λ _=>?_
 have hbl:∀ d∈(Av 0 n.toNat).filterMap (crF n wr ps S),∃ b,d=D.bl b:=qat2;have hll:((Av 0 n.toNat).filterMap (crF n wr ps S)).length<=64:=zAl (List.length_filterMap_le _ _) (by rw[qw9];lia);generalize (Av 0 n.toNat).filterMap (crF n wr ps S)=L at hbl hll ⊢;refine qe2 false (λ Q q=>?_) (λ h=>(nomatch h)) λ _=>?_
 . refine qC3 (qa1 (a:=D.lst false L) rfl (qa1 (a:=L) rfl ⟨qar2 hbl,?_⟩))
   refine qh9 (λ ι=>∃ d,ι=[d]) (λ _=>none) _ [] _ (by show 0+L.length < 1000000;lia) ⟨_,rfl⟩ ?_ ?_
   . rintro y hy ι acc ⟨d,rfl⟩ R hR hacc
     obtain⟨b,rfl⟩:=hbl y hy;have this:=hR [.bl b] ⟨_,rfl⟩;have this:R (acc++[]) _:=this;rw[zA9] at this;exact qi7 (qc6 (b:=true) rfl (ite_f (by decide) this))
   rintro ι ⟨d,rfl⟩;rw[show ∀ l:Ds,l.filterMap (λ _=>(none:Option D))=[] from λ l=>by simp];exact qa1 (a:=D.bl false) (qX9 []) (qa1 (a:=false) rfl q)
 refine qb7 (λ ds=>∃ b v,ds=[.hole u,b,caseD n wr ps,.int way,.int most,.unk,.lst true (ksD S),planD true a.C4 n wr ps,.bl (A8 n wr ps S),d9,d10,.lst false (ksD S),.lst false L,.lst false L,.int (n+v),.unk]/\isBag ns' b/\0<=v) (λ K hK=>?_) ?_
 . exact qm6 (qaF9 (qI8 (d:=.int n) rfl rfl (qe3 (ds:=[.hole u,b,caseD n wr ps,.int way,.int most,.unk,.lst true (ksD S),planD true a.C4 n wr ps,.bl (A8 n wr ps S),d9,d10,.lst false (ksD S),.lst false L,.lst false L,.unk,.unk]) (m:=100000000000000000000) rfl B rfl (by decide) (by decide) λ v b' v0 v1 B'=>qa1 (a:=D.int (n+v)) rfl (hK _ ⟨b',v,rfl,B',v0⟩))))
 rintro ds ⟨b,v,rfl,B,v0⟩;refine qb7 (λ ds=>∃ d15,ds=[.hole u,b,caseD n wr ps,.int way,.int most,.unk,.lst true (ksD S),planD true a.C4 n wr ps,.bl (A8 n wr ps S),d9,d10,.lst false (ksD S),.lst false L,.lst false L,.int (n+v),d15]) (λ K hK=>?_) ?_
 . refine qY2 (qQ0 (d:=.lst false [.int n,.int (-1),.non,.bl true,.str "0",.int (n+v)]) rfl (qa1 (a:=[.int n,.int (-1),.non,.bl true,.str "0",.int (n+v)]) rfl ⟨rfl,?_⟩))
   refine qc5 (λ _ ds=>∃ d15,ds=[.hole u,b,caseD n wr ps,.int way,.int most,.unk,.lst true (ksD S),planD true a.C4 n wr ps,.bl (A8 n wr ps S),d9,d10,.lst false (ksD S),.lst false L,.lst false L,.int (n+v),d15]) _ 0 _ ⟨_,rfl⟩ ?_ ?_
   . rintro i x hx ds ⟨d15,rfl⟩ K2 hK2
     obtain⟨hk,⟨t,ht⟩,hi,hf,hw⟩:x.known=true/\(∃ t,x.kind=some t)/\x.imm=true/\x.fz=x/\x.within 0 (n - 1)=false:=by
       have hx:=zBb hx;simp only[zAc,zAy,zC1] at hx;have no:∀ k:Int,k < 0∨n<=k->(D.int k).within 0 (n - 1)=false:=λ k h=>by
         show (decide (0<=k)&&decide (k<=n - 1))=false;rcases h with h | h
         . rw[zAp (by lia),Bool.false_and]
         rw[zAp (p:=k<=n - 1) (by lia),zBi]
       rcases hx with rfl | rfl | rfl | rfl | rfl | rfl
       . exact⟨rfl,⟨_,rfl⟩,rfl,rfl,no _ (by lia)⟩
       . exact⟨rfl,⟨_,rfl⟩,rfl,rfl,no _ (by lia)⟩
       . exact⟨rfl,⟨_,rfl⟩,rfl,rfl,rfl⟩
       . exact⟨rfl,⟨_,rfl⟩,rfl,rfl,rfl⟩
       . exact⟨rfl,⟨_,rfl⟩,rfl,rfl,rfl⟩
       exact⟨rfl,⟨_,rfl⟩,rfl,rfl,no _ (by lia)⟩
     refine qi7 (Aq [.hole u,b,caseD n wr ps,.int way,.int most,.unk,.lst true (ksD S),planD true a.C4 n wr ps,.bl (A8 n wr ps S),d9,d10,.lst false (ksD S),.lst false L,.lst false L,.int (n+v),x] rfl ?_);refine Fo false (λ Q q=>?_) (λ h=>(nomatch h)) λ _=>hK2 _ ⟨_,rfl⟩
     refine qv8 false false (λ Q q=>?_) (λ _ Q q=>?_) q
     . refine qC3 (qb5 (x:=planD true a.C4 n wr ps) rfl (qc0 (y:=.lst false (ksD S)) (qL4 (z:=true)) (qb5 (x:=x) (qb6 rfl hk) (qd0 (qa1 (a:=x) (qb6 rfl hk) (qa1 (a:=planD true a.C4 n wr ps) rfl ?_))))))
       exact Go (ds:=[.hole u,b,caseD n wr ps,.int way,.int most,.unk,.lst true (ksD S),planD true a.C4 n wr ps,.bl (A8 n wr ps S),d9,d10,.lst false (ksD S),.lst false L,.lst false L,.int (n+v),x]) (bp:=true) (k:=2) (by rw[qt0];exact qs9) rfl ⟨t,by rw[hf];exact ht⟩ (by rw[qt0];rfl) rfl (by rw[hf];exact hi) (λ _=>by
         rw[qt0,Em,hf];exact⟨qV5 (by lia),λ _=>⟨true,n,wr,ps,true,S,rfl,rfl,n1,n2,F.num,by lia,hw⟩⟩) (by rw[Em,F.keyL];rfl) rfl (qa1 (a:=D.bl false) rfl (qa1 (a:=false) rfl q))
     refine qC3 (qb5 (x:=planD true a.C4 n wr ps) rfl (qc0 (y:=.lst false [.bl true]) rfl (qb5 (x:=x) (qb6 rfl hk) (qd0 (qa1 (a:=x) (qb6 rfl hk) (qa1 (a:=planD true a.C4 n wr ps) rfl ?_))))));exact wr1 (ds:=[.hole u,b,caseD n wr ps,.int way,.int most,.unk,.lst true (ksD S),planD true a.C4 n wr ps,.bl (A8 n wr ps S),d9,d10,.lst false (ksD S),.lst false L,.lst false L,.int (n+v),x]) (qL0 (ys:=[.bl true]) rfl (by decide) (λ x hx=>by cases zAn.mp hx;exact⟨_,rfl⟩) rfl rfl) ⟨t,by rw[hf];exact ht⟩ (by rw[hf];exact hi) rfl (qa1 (a:=D.bl false) rfl (qa1 (a:=false) rfl q))
   rintro ds ⟨d15,rfl⟩;exact hK _ ⟨_,rfl⟩
 rintro ds ⟨d15,rfl⟩;refine qp9 (qZ7 (qb5 (x:=b) (qb6 rfl B.known) (qb5 (x:=planD true a.C4 n wr ps) rfl (qb5 (x:=caseD n wr ps) rfl (qb5 (x:=.lst true (ksD S)) rfl (qd0 ?_))))));refine qa1 (a:=D.lst true (ksD S)) rfl (qa1 (a:=caseD n wr ps) rfl (qa1 (a:=planD true a.C4 n wr ps) rfl (qa1 (a:=b) (qb6 rfl B.known) ?_)));exact⟨b,ns',n,wr,ps,S,rfl,B,n1,n2,nd,F,hne,λ b' B'=>qa1 (a:=[.hole u,b',caseD n wr ps,.int way,.int most,.unk,.lst true (ksD S),planD true a.C4 n wr ps,.bl (A8 n wr ps S),d9,d10,.lst false (ksD S),.lst false L,.lst false L,.int (n+v),d15]) rfl rfl⟩
end
theorem dfX{K:W.Frag}{mg:Str->Option Value}{x qual:Str}{st:Stmt}{f:Addr}{ps:List Str}{oc:Value}{od an:Option Addr}{osl:Array (Option Value)}{kV doc pm cdv ct:Value}{h:Heap}(X:K.In h)(G:h.Ns mainGlobals mg)(a:W.nsIn K mainGlobals x=some (some (.ref f)))(l:K.lookup f=some ⟨oc,od,.func (W.fnOf x qual (qf7 st) (qd1 st) (qa3 st) .none kV doc pm an cdv ct),osl⟩)(c:W.codeIn K cdv qual=true)(k:W.keepIn K (.ref f)=true)(b:∀(kV doc pm:Value)(an:Option Addr)(cdv ct:Value)(us:List Value),us.length=ps.length->bindArgs (W.fnOf x qual (qf7 st) (qd1 st) (qa3 st) .none kV doc pm an cdv ct) ⟨us,[]⟩=pure (ps.zip us)) :
 Df K mg x qual st f (W.fnOf x qual (qf7 st) (qd1 st) (qa3 st) .none kV doc pm an cdv ct) ps:=dfmk l c k (W.mg_of X G a) b
theorem qaN5{l:W.OpenLaw}{w:World}{K:W.Frag}{mg:Str->Option Value}{fa f0 f1 f2 f3 f4 f5 f6 f7 f8 f9 f10 f11 f12 f13 f14 f15 f16 f17 f18 f19 f20 f21 f22 f23 f24 f25 f26 f27 f28 f29 f30 f31 f32 f33 f34 f35 f36 f37 f38 f39 f40 C0 C1 C2 C3:Addr}{d0 d1 d2 d3 d4 d5 d6 d7 d8 d9 d10 d11 d12 d13 d14 d15 d16 d17 d18 d19 d20 d21 d22 d23 d24 d25 d26 d27 d28 d29 d30 d31 d32 d33 d34 d35 d36 d37 d38 d39 d40:FuncData}{Cd Ci Cf Ck:Tok}(hfa:mg "law" = some (.ref fa))(j0:Df K mg "_wall" "_wall" qah0 f0 d0 ["k"])(j1:Md K C2 "__init__" "Wrong.__init__" qk7 f1 d1 ["self", "at"])(j2:Md K C3 "__init__" "NoRoom.__init__" qi4 f2 d2 ["self", "room"])(j3:Df K mg "is_whole" "is_whole" qr7 f3 d3 ["thing"])(j4:Df K mg "is_whole_within" "is_whole_within" qe4 f4 d4 ["thing", "least", "most"])(j5:Df K mg "is_number" "is_number" qn3 f5 d5 ["thing"])(j6:Df K mg "are_parted" "are_parted" qk6 f6 d6 ["numbers"])(j7:Df K mg "is_key_list" "is_key_list" qi3 f7 d7 ["thing"])(j8:Df K mg "is_number_pair" "is_number_pair" qf0 f8 d8 ["thing"])(j9:Df K mg "is_home_list" "is_home_list" qg9 f9 d9 ["thing"])(j10:Md K C0 "__init__" "Plan.__init__" qn6 f10 d10 ["self", "rooms", "wraps", "homes"])(j11:Md K C0 "is_room" "Plan.is_room" qh2 f11 d11 ["self", "thing"])(j12:Md K C0 "rooms_on" "Plan.rooms_on" qf8 f12 d12 ["self", "first", "many"])(j13:Md K C0 "home" "Plan.home" qn7 f13 d13 ["self", "key"])(j14:Md K C0 "far" "Plan.far" qs0 f14 d14 ["self", "key", "room"])(j15:Md K C0 "goes_ahead" "Plan.goes_ahead" qe5 f15 d15 ["self", "room", "one", "other"])(j16:Df K mg "refuse_wrong" "refuse_wrong" qg7 f16 d16 ["plan", "keys"])(j17:Df K mg "are_crowd" "are_crowd" qn5 f17 d17 ["plan", "keys", "room"])(j18:Df K mg "is_crowd" "is_crowd" qr8 f18 d18 ["plan", "keys", "room"])(j19:Df K mg "crowded_room" "crowded_room" qh1 f19 d19 ["plan", "keys"])(j20:Df K mg "refuse_crowd" "refuse_crowd" qg8 f20 d20 ["plan", "keys"])(j21:Df K mg "bring_in" "bring_in" qr9 f21 d21 ["plan", "rooms", "key"])(j22:Df K mg "house_all" "house_all" qn4 f22 d22 ["plan", "keys"])(j23:Df K mg "housed_rooms" "housed_rooms" qh0 f23 d23 ["plan", "keys"])(j24:Df K mg "rooms_passed" "rooms_passed" qg6 f24 d24 ["plan", "key", "room"])(j25:Df K mg "passes_on" "passes_on" qn2 f25 d25 ["plan", "keys"])(j26:Df K mg "_law_bag" "_law_bag" qam6 f26 d26 ["_law_script"])(j27:Df K mg "_law_take" "_law_take" qS9 f27 d27 ["_law_bag_here", "_law_many"])(j28:Df K mg "_law_case" "_law_case" qT2 f28 d28 ["_law_bag_here", "_law_most"])(j29:Df K mg "_law_key" "_law_key" qam4 f29 d29 ["_law_bag_here", "_law_rooms", "_law_home_here"])(j30:Df K mg "_law_keys" "_law_keys" qT0 f30 d30 ["_law_bag_here", "_law_case_here", "_law_many"])(j31:Df K mg "_law_home" "_law_home" qT1 f31 d31 ["_law_case_here", "_law_key_here"])(j32:Df K mg "_law_far" "_law_far" qam5 f32 d32 ["_law_case_here", "_law_key_here", "_law_room"])(j33:Df K mg "_law_ahead" "_law_ahead" qG9 f33 d33 ["_law_case_here", "_law_room", "_law_one", "_law_other"])(j34:Df K mg "_law_put" "_law_put" qam3 f34 d34 ["_law_case_here", "_law_rooms", "_law_key_here"])(j35:Df K mg "_law_housed" "_law_housed" qy8 f35 d35 ["_law_case_here", "_law_keys_here"])(j36:Df K mg "_law_crowd" "_law_crowd" qG8 f36 d36 ["_law_case_here", "_law_keys_here", "_law_room"])(j37:Df K mg "_law_refused" "_law_refused" qs1 f37 d37 ["_law_asked", "_law_plan", "_law_keys_here"])(j38:Df K mg "_law_wrong" "_law_wrong" qG7 f38 d38 ["_law_plan", "_law_keys_here", "_law_room"])(j39:Df K mg "_law_others" "_law_others" qy7 f39 d39 ["_law_bag_here", "_law_plan", "_law_case_here", "_law_keys_here"])(j40:Df K mg "law" "law" Gm f40 d40 ["_law_script"])(j41:mg "MOST_NUMBER" = some (.int 1000000000000000000 Cd))(j42:mg "MOST_ROOMS" = some (.int 64 Ci))(j43:mg "MOST_HOMES" = some (.int 64 Cf))(j44:mg "MOST_KEYS" = some (.int 100 Ck))(j45:mg "abs" = none)(j46:mg "all" = none)(j47:mg "bool" = none)(j48:mg "dict" = none)(j49:mg "enumerate" = none)(j50:mg "int" = none)(j51:mg "isinstance" = none)(j52:mg "len" = none)(j53:mg "list" = none)(j54:mg "range" = none)(j55:mg "set" = none)(j56:mg "tuple" = none)(j57:Cl K mg "Plan" C0)(j58:Mk K C0 f10)(j59:qd5 K C0 "rooms")(j60:qd5 K C0 "wraps")(j61:qd5 K C0 "homes")(j62:qd5 K C0 "home_numbers")(j63:IsO K C0)(j64:mg "HomeError" = some (.ref C1))(j65:Exc K C1)(j66:W.kitOne K (.ref C1) (.type "ValueError")=some true)(j67:W.mroIn K C1 (.ref C1)=some true)(j68:W.mroIn K C1 (.ref C2)=some false)(j69:W.mroIn K C1 (.ref C3)=some false)(j70:mg "Wrong" = some (.ref C2))(j71:Exc K C2)(j72:W.kitOne K (.ref C2) (.type "ValueError")=some true)(j73:MkE K C2 f1)(j74:qd5 K C2 "at")(j75:IsX K C2)(j76:W.kitOne K (.ref C2) (.ref C1)=some true)(j77:W.kitOne K (.ref C2) (.ref C3)=some false)(j78:W.mroIn K C2 (.ref C1)=some true)(j79:W.mroIn K C2 (.ref C2)=some true)(j80:W.mroIn K C2 (.ref C3)=some false)(j81:mg "NoRoom" = some (.ref C3))(j82:Exc K C3)(j83:W.kitOne K (.ref C3) (.type "ValueError")=some true)(j84:MkE K C3 f2)(j85:qd5 K C3 "room")(j86:IsX K C3)(j87:W.kitOne K (.ref C3) (.ref C1)=some true)(j88:W.kitOne K (.ref C3) (.ref C2)=some false)(j89:W.mroIn K C3 (.ref C1)=some true)(j90:W.mroIn K C3 (.ref C2)=some false)(j91:W.mroIn K C3 (.ref C3)=some true)(hb:∀(s:Shared)(v:Value),BindsTo s d40 ⟨[v],[]⟩ [("_law_script",v)]):∃ fd:FuncData,(∀(s:Shared)(v:Value),BindsTo s fd ⟨[v],[]⟩ [("_law_script",v)])/\∀ base:Heap,K.In base->base.Ns mainGlobals mg->Bi l.prog w K mg base (CX1 l.prog w) 12 fa fd ["_law_script"] (G1 K):=by
 have e:=hfa.symm.trans j40.m;injection e with e
 injection e with e
 subst e;exact⟨d40,hb,λ base _ _=>qaJ1 (a:=⟨f0,d0,f1,d1,f2,d2,f3,d3,f4,d4,f5,d5,f6,d6,f7,d7,f8,d8,f9,d9,f10,d10,f11,d11,f12,d12,f13,d13,f14,d14,f15,d15,f16,d16,f17,d17,f18,d18,f19,d19,f20,d20,f21,d21,f22,d22,f23,d23,f24,d24,f25,d25,f26,d26,f27,d27,f28,d28,f29,d29,f30,d30,f31,d31,f32,d32,f33,d33,f34,d34,f35,d35,f36,d36,f37,d37,f38,d38,f39,d39,fa,d40,Cd,Ci,Cf,Ck,C0,C1,C2,C3⟩) ⟨j0,j1,j2,j3,j4,j5,j6,j7,j8,j9,j10,j11,j12,j13,j14,j15,j16,j17,j18,j19,j20,j21,j22,j23,j24,j25,j26,j27,j28,j29,j30,j31,j32,j33,j34,j35,j36,j37,j38,j39,j40,j41,j42,j43,j44,j45,j46,j47,j48,j49,j50,j51,j52,j53,j54,j55,j56,j57,j58,j59,j60,j61,j62,j63,j64,j65,j66,j67,j68,j69,j70,j71,j72,j73,j74,j75,j76,j77,j78,j79,j80,j81,j82,j83,j84,j85,j86,j87,j88,j89,j90,j91⟩⟩
theorem walk{l:W.OpenLaw}{q:Program}{loose:List Str}{XP:(Str->Option Value)->Heap->Prop}{YP:World->Heap->Prop}{d:DefRec}{K:Params->W.Frag}(hn:l.most=some 63)(hdf:d.params.defaults=[])(hY:∀(w:World)(h:Heap),YP w h->(K w.params).In h)(F:∀(w:World)(mg:Str->Option Value)(fa:Addr)(h:Heap),(K w.params).In h->h.Ns mainGlobals mg->mg d.name=some (.ref fa) ->
 ∃ fd:FuncData,(∀(s:Shared)(u:Value),BindsTo s fd ⟨[u],[]⟩ [("_law_script",u)])/\∀ base:Heap,(K w.params).In base->base.Ns mainGlobals mg->Bi l.prog w (K w.params) mg base (CX1 l.prog w) 12 fa fd ["_law_script"] (G1 (K w.params))) :
 W.WalkO q loose XP YP l.row.toRowW d [] (λ f vs=>PySem.call f vs) :=
 L2.qau1 (n:=63) (k:=12) (x := "_law_script") (CX:=λ w=>CX1 l.prog w) (sp:=λ w=>G1 (K w.params)) hn (by decide) hdf ⟨rfl,by decide,by decide⟩ hY F (λ _ _ a ns hl _ hS=>⟨a,ns,rfl,hS,hl,λ _=>rfl⟩) λ _ _ _ _ _ ⟨_,_,_,_,_,_,_,_,z⟩=>z
end LV.My
open PySem PySem.W PyProof.Rows L2
local macro_rules | `(tactic| walk_at "d1")=>`(tactic| (refine' LV.My.dfX (by assumption) (by assumption) ?a ?l ?c ?k ?b;(case a=>k_is);(case l=>k_is);(case c=>k_is);(case k=>k_is);(case b=>intro _ _ _ _ _ _ us h0;obtain⟨_,us,e,h1⟩:=LV.ec h0;subst e;have e:=zBa.mp h1;subst e;rfl)))
local macro_rules | `(tactic| walk_at "d2")=>`(tactic| (refine' LV.My.dfX (by assumption) (by assumption) ?a ?l ?c ?k ?b;(case a=>k_is);(case l=>k_is);(case c=>k_is);(case k=>k_is);(case b=>intro _ _ _ _ _ _ us h0;obtain⟨_,us,e,h1⟩:=LV.ec h0;subst e;obtain⟨_,us,e,h2⟩:=LV.ec h1;subst e;have e:=zBa.mp h2;subst e;rfl)))
local macro_rules | `(tactic| walk_at "e2")=>`(tactic| (refine' mdmk ?l ?c ?k ?a ?i ?b;(case a=>k_is);(case i=>k_is);(case l=>k_is);(case c=>k_is);(case k=>k_is);(case b=>intro _ _ _ _ _ _ us h0;obtain⟨_,us,e,h1⟩:=LV.ec h0;subst e;obtain⟨_,us,e,h2⟩:=LV.ec h1;subst e;have e:=zBa.mp h2;subst e;rfl)))
local macro_rules | `(tactic| walk_at "d3")=>`(tactic| (refine' LV.My.dfX (by assumption) (by assumption) ?a ?l ?c ?k ?b;(case a=>k_is);(case l=>k_is);(case c=>k_is);(case k=>k_is);(case b=>intro _ _ _ _ _ _ us h0;obtain⟨_,us,e,h1⟩:=LV.ec h0;subst e;obtain⟨_,us,e,h2⟩:=LV.ec h1;subst e;obtain⟨_,us,e,h3⟩:=LV.ec h2;subst e;have e:=zBa.mp h3;subst e;rfl)))
local macro_rules | `(tactic| walk_at "e3")=>`(tactic| (refine' mdmk ?l ?c ?k ?a ?i ?b;(case a=>k_is);(case i=>k_is);(case l=>k_is);(case c=>k_is);(case k=>k_is);(case b=>intro _ _ _ _ _ _ us h0;obtain⟨_,us,e,h1⟩:=LV.ec h0;subst e;obtain⟨_,us,e,h2⟩:=LV.ec h1;subst e;obtain⟨_,us,e,h3⟩:=LV.ec h2;subst e;have e:=zBa.mp h3;subst e;rfl)))
local macro_rules | `(tactic| walk_at "d4")=>`(tactic| (refine' LV.My.dfX (by assumption) (by assumption) ?a ?l ?c ?k ?b;(case a=>k_is);(case l=>k_is);(case c=>k_is);(case k=>k_is);(case b=>intro _ _ _ _ _ _ us h0;obtain⟨_,us,e,h1⟩:=LV.ec h0;subst e;obtain⟨_,us,e,h2⟩:=LV.ec h1;subst e;obtain⟨_,us,e,h3⟩:=LV.ec h2;subst e;obtain⟨_,us,e,h4⟩:=LV.ec h3;subst e;have e:=zBa.mp h4;subst e;rfl)))
local macro_rules | `(tactic| walk_at "e4")=>`(tactic| (refine' mdmk ?l ?c ?k ?a ?i ?b;(case a=>k_is);(case i=>k_is);(case l=>k_is);(case c=>k_is);(case k=>k_is);(case b=>intro _ _ _ _ _ _ us h0;obtain⟨_,us,e,h1⟩:=LV.ec h0;subst e;obtain⟨_,us,e,h2⟩:=LV.ec h1;subst e;obtain⟨_,us,e,h3⟩:=LV.ec h2;subst e;obtain⟨_,us,e,h4⟩:=LV.ec h3;subst e;have e:=zBa.mp h4;subst e;rfl)))
local macro_rules | `(tactic| walk_at "c")=>`(tactic| (refine' mg_of (by assumption) (by assumption) ?a;k_is))
local macro_rules | `(tactic| walk_at "z")=>`(tactic| (refine' mg_none_of (by assumption) (by assumption) ?a;k_is))
local macro_rules | `(tactic| walk_at "q")=>`(tactic| (first | k_is | kernel_rfl | rfl))
local macro_rules | `(tactic| walk_at "cl")=>`(tactic| (refine' ⟨⟨?b,?c,?d,?e⟩,mg_of (by assumption) (by assumption) ?a⟩;(case a=>k_is);(case b=>k_is);(case c=>k_is);(case d=>k_is);(case e=>k_is)))
local macro_rules | `(tactic| walk_at "m4")=>`(tactic| (refine⟨?a,?b,?c,?d⟩;(case a=>k_is);(case b=>k_is);(case c=>k_is);(case d=>k_is)))
local macro_rules | `(tactic| walk_at "n")=>`(tactic| (show findIn _ _ _=some none;k_is))
local macro_rules | `(tactic| walk_at "io")=>`(tactic| (refine⟨?_,?_,?_,?_,kf_of ?_ ?_ ?_ ?_ ?_ ?_ ?_⟩<;>walk_at "q"))
local macro_rules | `(tactic| walk_at "x9")=>`(tactic| (refine⟨?_,?_,?_,?_,?_,?_,?_,?_,?_⟩<;>walk_at "q"))
local macro_rules | `(tactic| walk_at "ix")=>`(tactic| (refine⟨⟨?_,?_,?_,?_,?_,?_,?_,?_,?_⟩,?_,?_,?_⟩<;>walk_at "q"))
local macro_rules | `(tactic| walk_at "me")=>`(tactic| (refine⟨⟨?_,?_,?_,?_,?_,?_,?_,?_,?_⟩,?_,?_,?_,?_⟩<;>walk_at "q"))
theorem PySem.Challenge.cw_homeward_k24_crowds_holds : PySem.Challenge.rw_homeward_k24_crowds.Holds := by
 w_on;o_law;k_head;(case hw=>w_witness2)
 k_fill
 refine LV.My.walk (l:=PySem.Challenge.rw_homeward_k24_crowds) rfl rfl (λ w h Y=>PySem.W.kIn_of Y) ?F
 case F =>
 intro w mg fa h KX G hmg;refine' LV.My.qaN5 hmg ?j0 ?j1 ?j2 ?j3 ?j4 ?j5 ?j6 ?j7 ?j8 ?j9 ?j10 ?j11 ?j12 ?j13 ?j14 ?j15 ?j16 ?j17 ?j18 ?j19 ?j20 ?j21 ?j22 ?j23 ?j24 ?j25 ?j26 ?j27 ?j28 ?j29 ?j30 ?j31 ?j32 ?j33 ?j34 ?j35 ?j36 ?j37 ?j38 ?j39 ?j40 ?j41 ?j42 ?j43 ?j44 ?j45 ?j46 ?j47 ?j48 ?j49 ?j50 ?j51 ?j52 ?j53 ?j54 ?j55 ?j56 ?j57 ?j58 ?j59 ?j60 ?j61 ?j62 ?j63 ?j64 ?j65 ?j66 ?j67 ?j68 ?j69 ?j70 ?j71 ?j72 ?j73 ?j74 ?j75 ?j76 ?j77 ?j78 ?j79 ?j80 ?j81 ?j82 ?j83 ?j84 ?j85 ?j86 ?j87 ?j88 ?j89 ?j90 ?j91 ?hb
 case j41=>walk_at "c"
 case j42=>walk_at "c"
 case j43=>walk_at "c"
 case j44=>walk_at "c"
 case j57=>walk_at "cl"
 case j64=>walk_at "c"
 case j70=>walk_at "c"
 case j81=>walk_at "c"
 case j0=>walk_at "d1"
 case j1=>walk_at "e2"
 case j2=>walk_at "e2"
 case j3=>walk_at "d1"
 case j4=>walk_at "d3"
 case j5=>walk_at "d1"
 case j6=>walk_at "d1"
 case j7=>walk_at "d1"
 case j8=>walk_at "d1"
 case j9=>walk_at "d1"
 case j10=>walk_at "e4"
 case j11=>walk_at "e2"
 case j12=>walk_at "e3"
 case j13=>walk_at "e2"
 case j14=>walk_at "e3"
 case j15=>walk_at "e4"
 case j16=>walk_at "d2"
 case j17=>walk_at "d3"
 case j18=>walk_at "d3"
 case j19=>walk_at "d2"
 case j20=>walk_at "d2"
 case j21=>walk_at "d3"
 case j22=>walk_at "d2"
 case j23=>walk_at "d2"
 case j24=>walk_at "d3"
 case j25=>walk_at "d2"
 case j26=>walk_at "d1"
 case j27=>walk_at "d2"
 case j28=>walk_at "d2"
 case j29=>walk_at "d3"
 case j30=>walk_at "d3"
 case j31=>walk_at "d2"
 case j32=>walk_at "d3"
 case j33=>walk_at "d4"
 case j34=>walk_at "d3"
 case j35=>walk_at "d2"
 case j36=>walk_at "d3"
 case j37=>walk_at "d3"
 case j38=>walk_at "d3"
 case j39=>walk_at "d4"
 case j40=>walk_at "d1"
 case j45=>walk_at "z"
 case j46=>walk_at "z"
 case j47=>walk_at "z"
 case j48=>walk_at "z"
 case j49=>walk_at "z"
 case j50=>walk_at "z"
 case j51=>walk_at "z"
 case j52=>walk_at "z"
 case j53=>walk_at "z"
 case j54=>walk_at "z"
 case j55=>walk_at "z"
 case j56=>walk_at "z"
 case j59=>walk_at "n"
 case j60=>walk_at "n"
 case j61=>walk_at "n"
 case j62=>walk_at "n"
 case j63=>walk_at "io"
 case j65=>walk_at "x9"
 case j66=>walk_at "q"
 case j67=>walk_at "q"
 case j68=>walk_at "q"
 case j69=>walk_at "q"
 case j71=>walk_at "x9"
 case j72=>walk_at "q"
 case j74=>walk_at "n"
 case j75=>walk_at "ix"
 case j76=>walk_at "q"
 case j77=>walk_at "q"
 case j78=>walk_at "q"
 case j79=>walk_at "q"
 case j80=>walk_at "q"
 case j82=>walk_at "x9"
 case j83=>walk_at "q"
 case j85=>walk_at "n"
 case j86=>walk_at "ix"
 case j87=>walk_at "q"
 case j88=>walk_at "q"
 case j89=>walk_at "q"
 case j90=>walk_at "q"
 case j91=>walk_at "q"
 case j58=>walk_at "m4"
 case j73=>walk_at "me"
 case j84=>walk_at "me"
 case hb=>exact λ s v=>.of_eq rfl
#print axioms PySem.Challenge.cw_homeward_k24_crowds_holds
