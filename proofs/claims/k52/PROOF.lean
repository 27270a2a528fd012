import PyProof.Rows.All
import Wide.All
import OpenK.AllK
import Wide.FinOn
import Lean
import PyProof.EqAt
import PyProof.EqKinds
import PyProof.TupleCall
import PyProof.CompFree
import KE.KIsAll
import PyProof.AttrMiss
import PyProof.IsiH_list
import KE.KDictOf
import PyProof.ConsumeWalk
import PyProof.Rows.SetFrom
import PyProof.NeKinds
import PyProof.AutoListH
import PyProof.EnumMake
import PyProof.EnumFor
import PyProof.EnumStmt
import PyProof.LayNew
import PyProof.Rows.EnumRows
import KE.KDictList
import PySem.Challenge.RW_homeward_k52_shows
def zA0:=@List.count_append
def zA1:=@Option.bind_eq_some_iff
def zA2:=@PySem.Heap.get?_push_of_some
def zA3:=@Bool.and_eq_true_iff
def zA4:=@List.size_toArray
def zA5:=@List.getElem?_eq_some_iff
def zA6:=@PySem.Heap.lt_size
def zA7:=@List.mem_cons
def zA8:=@Nat.le_refl
def zA9:=@List.mem_cons_of_mem
def zAa:=@List.append_nil
def zAb:=@Nat.lt_of_lt_of_le
def zAc:=@List.mem_cons_self
def zAd:=@List.mem_append
def zAe:=@Bool.false_ne_true
def zAf:=@List.length_append
def zAg:=@List.count_cons
def zAh:=@decide_eq_true
def zAi:=@List.not_mem_nil
def zAj:=@List.length_map
def zAk:=@Option.map_eq_some_iff
def zAl:=@Nat.ne_of_lt
def zAm:=@Nat.le_trans
def zAn:=@of_decide_eq_true
def zAo:=@List.getElem?_append_left
def zAp:=@List.lookup_cons
def zAq:=@decide_eq_false
def zAr:=@List.length_cons
def zAs:=@List.forall_mem_cons
def zAt:=@List.mem_append_right
def zAu:=@List.map_cons
def zAv:=@List.mem_map
def zAw:=@PySem.Heap.get?_push_size
def zAx:=@Bool.and_false
def zAy:=@List.all_eq_true
def zAz:=@Bool.and_eq_true
def zB0:=@List.append_assoc
def zB1:=@PySem.Heap.get?_update_other
def zB2:=@List.forall_mem_append
def zB3:=@Option.isSome_iff_exists
def zB4:=@beq_eq_false_iff_ne
def zB5:=@List.length_eq_zero_iff
def zB6:=@List.getElem?_set_ne
def zB7:=@List.mem_singleton
def zB8:=@List.take_of_length_le
def zB9:=@List.getElem?_set_self
def zBa:=@beq_self_eq_true
def zBb:=@or_false
def zBc:=@List.nil_append
def zBd:=@List.mem_of_getElem?
def zBe:=@List.getElem?_map
def zBf:=@List.replicate_succ
def zBg:=@beq_iff_eq
def zBh:=@List.map_append
def zBi:=@PySem.Heap.get?_update_self
def zBj:=@List.getElem?_eq_getElem
def zBk:=@Int.emod_lt_of_pos
def zBl:=@List.length_take
def zBm:=@decide_eq_true_eq
def zBn:=@List.find?_cons
def zBo:=@Int.emod_nonneg
def zBp:=@Bool.false_and
def zBq:=@List.flatten_cons
def zBr:=@List.filterMap_cons
def zBs:=@Nat.lt_succ_self
def zBt:=@of_decide_eq_false
def zBu:=@List.nodup_cons
def zBv:=@Nat.zero_add
set_option Elab.async false
set_option linter.all false
set_option maxRecDepth 100000
namespace PySem.W.Fast
theorem tw4474610337050644181 : True := trivial
theorem tw5473818563131369559 : True := trivial
theorem tw13306134458566250302 : True := trivial
theorem tw6969834057593503698 : True := trivial
theorem tw3088523662583319467 : True := trivial
theorem tw819476364116612209 : True := trivial
theorem tw17702923503367754473 : True := trivial
theorem tw6176068339161909619 : True := trivial
theorem tw16629239697822913739 : True := trivial
theorem tw4778679626791427548 : True := trivial
theorem tw3549528544069808926 : True := trivial
theorem tw17689132024580871284 : True := trivial
theorem tw106522609405110300 : True := trivial
theorem tw7922016512621734200 : True := trivial
theorem tw16833309326694027992 : True := trivial
theorem tw16819940547541682370 : True := trivial
theorem tw6623516117592485978 : True := trivial
theorem tw6602752847518215480 : True := trivial
theorem tw11104308732347077741 : True := trivial
theorem tw12343404364068930699 : True := trivial
theorem tw10448208741910646484 : True := trivial
theorem tw5123435367543708765 : True := trivial
theorem tw12200314102582503868 : True := trivial
theorem tw17280848533057416506 : True := trivial
theorem tw14626686510451195067 : True := trivial
theorem tw9794692522683824933 : True := trivial
theorem tw13898197047828152094 : True := trivial
theorem tw1269546675651006445 : True := trivial
theorem tw15472417509068310785 : True := trivial
theorem tw7491134110317991362 : True := trivial
theorem tw10082319647182259930 : True := trivial
theorem tw14696589037615529703 : True := trivial
theorem tw12429273663809088222 : True := trivial
theorem tw14588911384334184928 : True := trivial
theorem tw9792219646694099319 : True := trivial
theorem tw11552279993699574977 : True := trivial
theorem tw6686725925347753414 : True := trivial
theorem tw7168979816240912739 : True := trivial
theorem tw16597527289560811098 : True := trivial
theorem tw1391156180868737622 : True := trivial
theorem tw17360081221128687088 : True := trivial
theorem tw1300383714198711051 : True := trivial
theorem tw484124843110641768 : True := trivial
theorem tw16726313515579647217 : True := trivial
theorem tw14486377053764225277 : True := trivial
theorem tw8724362110575258011 : True := trivial
theorem tw10722654038431171903 : True := trivial
theorem tw3722488375953957973 : True := trivial
theorem tw7134747773745095030 : True := trivial
theorem tw1319530600115503368 : True := trivial
theorem tw5980999207307743634 : True := trivial
theorem tw839092317071281625 : True := trivial
theorem tw4581515120472373017 : True := trivial
theorem tw12696662412458274269 : True := trivial
theorem tw1232521458768521183 : True := trivial
theorem tw15977143006348455661 : True := trivial
theorem tw17985836250797074139 : True := trivial
theorem tw6264459321739984909 : True := trivial
theorem tw11651839270705677888 : True := trivial
theorem tw17433698739563061180 : True := trivial
theorem tw11256691677830345143 : True := trivial
theorem tw16726562572727885474 : True := trivial
theorem tw6520132115718074127 : True := trivial
end PySem.W.Fast
namespace L2
open PySem PySem.Spec PyProof.Rows
variable{M:Model}{N:List Str}{base:Heap}{body:List Stmt}{ch fp:List Addr}{i t':Nat}{kw:List (Str×Value)}{mg:Str->Option Value}{op:CmpOp}{pl:Sem Bool}{us:List Value}
abbrev Key:=Sum Int Str
def Ep:Key->Value->Bool
 | .inl k,v=>Value.isInt k v
 | .inr x,v=>Value.isStrOf x v
def keyH(w:World):Key->Int
 | .inl k=>hashInt k
 | .inr x=>hashStr w x
theorem qc8:∀{k:Key}{v:Value},Ep k v=true->(∃ i t,k=Sum.inl i/\v=Value.int i t)∨(∃ x t,k=Sum.inr x/\v=Value.str x t)
 | .inl i,v,h=>by
   obtain⟨t,e⟩:=Value.isInt_shape (k:=i) (v:=v) h;exact .inl ⟨i,t,rfl,e⟩
 | .inr x,v,h=>by
   obtain⟨t,e⟩:=Value.isStrOf_shape (x:=x) (v:=v) h;exact .inr ⟨x,t,rfl,e⟩
theorem qU4(i:Int)(t:Tok):Ep (.inl i) (.int i t)=true:=by simp[Ep,Value.isInt]
theorem qU3(x:Str)(t:Tok):Ep (.inr x) (.str x t)=true:=by simp[Ep,Value.isStrOf]
theorem qay6(a b:Int):decide ((Sum.inl a:Key)=Sum.inl b)=(a == b):=by
 by_cases e:a=b
 . subst e;simp
 have h:¬ (Sum.inl a:Key)=Sum.inl b:=λ q=>e (Sum.inl.inj q)
 rw[zAq h];exact(zB4.mpr e).symm
theorem qay3(a b:Str):decide ((Sum.inr a:Key)=Sum.inr b)=decide (a=b):=by
 by_cases e:a=b
 . subst e;simp
 have h:¬ (Sum.inr a:Key)=Sum.inr b:=λ q=>e (Sum.inr.inj q)
 rw[zAq h,zAq e]
theorem qay5(a:Int)(b:Str):decide ((Sum.inl a:Key)=Sum.inr b)=false:=zAq (λ q=>nomatch q)
theorem qay4(a:Str)(b:Int):decide ((Sum.inr a:Key)=Sum.inl b)=false:=zAq (λ q=>nomatch q)
def qe7(prog:Program)(w:World):PySem.KeyKind prog w Key where
 is:=Ep
 hash:=keyH w
 inj:=λ v a b ha hb=>by
   rcases qc8 ha with⟨i,t,rfl,rfl⟩ | ⟨x,t,rfl,rfl⟩
   . rcases qc8 hb with⟨j,u,rfl,e⟩ | ⟨y,u,rfl,e⟩
     . injection e with e1 _;rw[e1]
     exact nomatch e
   rcases qc8 hb with⟨j,u,rfl,e⟩ | ⟨y,u,rfl,e⟩
   . exact nomatch e
   injection e with e1 _;rw[e1]
 byValue:=λ k v h=>by
   rcases qc8 h with⟨i,t,rfl,rfl⟩ | ⟨x,t,rfl,rfl⟩<;>rfl
 pyHash:=λ hv h=>by
   rcases qc8 hv with⟨i,t,rfl,rfl⟩ | ⟨x,t,rfl,rfl⟩
   . exact wpAny_pyHash_int h
   exact wpAny_pyHash_str h
 eqBool:=λ hu hv h=>by
   rcases qc8 hu with⟨i,t,rfl,rfl⟩ | ⟨x,t,rfl,rfl⟩
   . rcases qc8 hv with⟨j,u,rfl,rfl⟩ | ⟨y,u,rfl,rfl⟩
     . rw[qay6] at h;exact wpAny_eqBool_int h
     rw[qay5] at h;exact SeqAt.EqAt.int_str i t y u _ _ _ _ h
   rcases qc8 hv with⟨j,u,rfl,rfl⟩ | ⟨y,u,rfl,rfl⟩
   . rw[qay4] at h;exact SeqAt.EqAt.str_int x t j u _ _ _ _ h
   rw[qay3] at h;exact wpAny_eqBool_str h
 «strs»:=λ k x t v h=>by
   rcases qc8 h with⟨i,u,rfl,e⟩ | ⟨y,u,rfl,e⟩
   . exact nomatch e
   injection e with e1 _
   subst e1;cases v<;>rfl
theorem qJ4(prog:Program)(w:World)(i:Int)(t:Tok):(qe7 prog w).is (.inl i) (.int i t)=true:=qU4 i t
theorem qJ3(prog:Program)(w:World)(x:Str)(t:Tok):(qe7 prog w).is (.inr x) (.str x t)=true:=qU3 x t
inductive V where
 | non | bl (b:Bool) | int (i:Int) | str (x:Str) | byt (b:Array UInt8) | flt (b:UInt64) | ref (a:Addr) | ty (n:String)
 deriving DecidableEq
def RelV:V->Value->Prop
 | .non,u=>u=Value.none
 | .bl b,u=>u=Value.bool b
 | .int i,u=>∃ t,u=Value.int i t
 | .str x,u=>∃ t,u=Value.str x t
 | .byt b,u=>∃ t,u=Value.bytes b t
 | .flt b,u=>∃ t,u=Value.float b t
 | .ref a,u=>u=Value.ref a
 | .ty n,u=>u=Value.type n
abbrev Vals:List V->List Value->Prop:=Paired RelV
theorem Vals.length{xs:List V}(r:Vals xs us):xs.length=us.length:=Paired.length r
theorem Vals.get:∀{xs:List V}{us:List Value}{i:Nat}{x:V},Vals xs us->xs[i]? = some x->∃ u,us[i]? = some u/\RelV x u
 | _,_,_,_,.nil,e=>by simp at e
 | _,_,0,_,.cons r _,e=>by simp at e;subst e;exact⟨_,rfl,r⟩
 | _,_,i+1,x,.cons _ t,e=>by
   obtain⟨u,h1,h2⟩:=Vals.get (i:=i) (x:=x) t (by simpa using e);exact⟨u,by simpa using h1,h2⟩
theorem Vals.set{x:V}{u:Value}(r:RelV x u):∀{xs:List V}{us:List Value}(i:Nat),Vals xs us->Vals (xs.set i x) (us.set i u)
 | _,_,_,.nil=>.nil
 | _,_,0,.cons _ t=>.cons r t
 | _,_,i+1,.cons q t=>.cons q (Vals.set r i t)
theorem Vals.append:∀{xs ys:List V}{us ws:List Value},Vals xs us->Vals ys ws->Vals (xs++ys) (us++ws)
 | _,_,_,_,.nil,s=>s
 | _,_,_,_,.cons r t,s=>.cons r (Vals.append t s)
theorem Vals.take:∀{xs:List V}{us:List Value}(n:Nat),Vals xs us->Vals (xs.take n) (us.take n)
 | _,_,0,_=>.nil
 | _,_,_+1,.nil=>.nil
 | _,_,n+1,.cons r t=>.cons r (Vals.take n t)
theorem Vals.drop:∀{xs:List V}{us:List Value}(n:Nat),Vals xs us->Vals (xs.drop n) (us.drop n)
 | _,_,0,r=>r
 | _,_,_+1,.nil=>.nil
 | _,_,n+1,.cons _ t=>Vals.drop n t
def RelO:Option V->Option Value->Prop
 | some v,some u=>RelV v u
 | none,none=>True
 | _,_=>False
def KV{κ:Type}:List (κ×V)->List (κ×Value)->Prop:=Paired λ(p:κ×V)(q:κ×Value)=>p.1=q.1/\RelV p.2 q.2
def kV:Key->V
 | .inl i=>.int i
 | .inr x=>.str x
inductive HO where
   | lst (xs:List V)
   | tup (xs:List V)
   | dK (kvs:List (Key×V)) | dT (kvs:List (List Key×V))
   | set (S:Int->Bool) (n:Nat)
   | ins (C dx:Addr) (fs:List (Str×V))
   | own (x:Addr)
   | xd (fs:List (Str×V))
   | met (f x:Addr)
   | rng (lo hi:Int)
   | frz (o:Obj) (u:HO)
   | tbl (ps:Array Value)
   | ext (φ:Heap->Prop)
abbrev Hp:=Addr->Option HO
def upd(H:Hp)(a:Addr)(o:HO):Hp:=λ b=>if b=a then some o else H b
theorem qb0{H:Hp}{a:Addr}{o:HO}:upd H a o a=some o:=by unfold upd;rw[if_pos rfl]
theorem qb2{H:Hp}{a b:Addr}{o:HO}(h:b≠a):upd H a o b=H b:=by unfold upd;rw[if_neg h]
theorem qak2{H:Hp}{a:Addr}{o u:HO}:upd (upd H a o) a u=upd H a u:=by
 funext b;unfold upd;split<;>rfl
theorem ne_of{H:Hp}{a b:Addr}{o u:HO}(h:H a=some o)(h':H b=some u)(d:o≠u):a≠b:=by
 intro e;subst e;rw[h] at h';exact d (Option.some.inj h')
theorem qc2{H:Hp}{a b:Addr}{o:HO}(h:H a=some o)(h':H b=none):a≠b:=by
 intro e;subst e;rw[h] at h';cases h'
section
variable(P:Program)(w:World)
def ObjOk(H:Hp)(h:Heap)(a:Addr):HO->Prop
 | .lst xs=>xs.length<=sizeLine/\∃(its:List Value)(n:Nat),Vals xs its/\h.get? a=some { cls:=.type "list",data:=.seq its.toArray n }
 | .tup xs=>xs.length<=sizeLine/\∃ its:List Value,Vals xs its/\IsTup h a its.toArray
 | .dK kvs=>kvs.length<=sizeLine/\(a == sysModules)=false/\∃ vs,KV kvs vs/\h.DictOf (qe7 P w) a vs
 | .dT kvs=>kvs.length<=sizeLine/\(a == sysModules)=false/\∃ xs:List (List Key×Addr×Value),
     Paired (λ(p:List Key×V)(q:List Key×Addr×Value)=>p.1=q.1/\H q.2.1=some (.tup (p.1.map kV))/\RelV p.2 q.2.2) kvs xs /\
     ∃ o es ep,h.get? a=some o/\o.ExactDict/\o.data=.dict es ep/\es.toList=xs.map (entryOfKey (tupleKind (qe7 P w)))/\(xs.map (·.1)).Nodup
 | .set S n=>h.SetOf (intKind P w) a S n
 | .ins C dx fs=>H dx=some (.own a)/\fs.length<=1000/\dx≠a/\h.get? a=some (PySem.W.instObj C dx) /\
     ∃ mA,h.Ns1 dx mA/\(∀ f,RelO (fs.lookup f) (mA f))/\PySem.Within mA (fs.map (·.1))
 | .own _=>∃ o,h.get? a=some o
 | .xd fs=>∃ mA,h.Ns1 a mA/\∀ f,RelO (fs.lookup f) (mA f)
 | .rng lo hi=>∃ t u v,h.get? a=some { cls:=.type "range",data:=.fields #[.int lo t,.int hi u,.int 1 v] }
 | .frz o u=>h.get? a=some o/\ObjOk H h a u
 | .tbl ps=>h.get? a=some { cls:=.none,data:=.fields ps }
 | .met f x=>h.get? a=some (PySem.W.methodObj (.ref f) (.ref x))
 | .ext φ=>φ h/\(∃ o,h.get? a=some o)/\∀ h1 h2:Heap,φ h1->(∀ o,h1.get? a=some o->h2.get? a=some o)->φ h2
def HOk(H:Hp)(h:Heap):Prop:=∀ a o,H a=some o->ObjOk P w H h a o
end
section
variable{P:Program}{w:World}{H H':Hp}{h h':Heap}{a:Addr}{o:HO}
theorem ObjOk.lt(x:ObjOk P w H h a o):a < h.objs.size:=by
 cases o with
 | lst xs=>obtain⟨_,_,_,_,e⟩:=x;exact zA6 e
 | tup xs=>obtain⟨_,_,_,p⟩:=x;exact p.lt
 | dK kvs=>obtain⟨_,_,_,_,o,_,_,e,_⟩:=x;exact zA6 e
 | dT kvs=>obtain⟨_,_,_,_,o,_,_,e,_⟩:=x;exact zA6 e
 | set S n=>obtain⟨o,_,_,_,e,_⟩:=x;exact zA6 e
 | ins C dx fs=>obtain⟨_,_,_,e,_⟩:=x;exact zA6 e
 | own y=>obtain⟨_,e⟩:=x;exact zA6 e
 | xd fs=>obtain⟨_,⟨_,_,_,e,_⟩,_⟩:=x;exact zA6 e
 | rng lo hi=>obtain⟨_,_,_,e⟩:=x;exact zA6 e
 | frz ob u=>obtain⟨e,_⟩:=x;exact zA6 e
 | tbl ps=>exact zA6 (show h.get? a=some _ from x)
 | met f y=>exact zA6 (show h.get? a=some _ from x)
 | ext φ=>obtain⟨_,⟨_,e⟩,_⟩:=x;exact zA6 e
theorem Paired.mapP{α β:Type}{F G:α->β->Prop}:∀{l₁:List α}{l₂:List β},Paired F l₁ l₂->(∀ a b,F a b->G a b)->Paired G l₁ l₂
 | _,_,.nil,_=>.nil
 | _,_,.cons r t,f=>.cons (f _ _ r) (Paired.mapP t f)
theorem ObjOk.stay(x:ObjOk P w H h a o)(k:∀ b u,(b=a∨H b=some (.own a))->h.get? b=some u->h'.get? b=some u)(ho:∀ b,H b=some (.own a)->H' b=some (.own a))(ht:∀ b xs,H b=some (.tup xs)->H' b=some (.tup xs)):ObjOk P w H' h' a o:=by
 induction o with
 | lst xs=>obtain⟨z,its,n,r,e⟩:=x;exact⟨z,its,n,r,k _ _ (.inl rfl) e⟩
 | tup xs=>obtain⟨z,its,r,ob,e,c⟩:=x;exact⟨z,its,r,ob,k _ _ (.inl rfl) e,c⟩
 | dK kvs=>obtain⟨z,y,vs,r,ob,es,ep,e,c⟩:=x;exact⟨z,y,vs,r,ob,es,ep,k _ _ (.inl rfl) e,c⟩
 | dT kvs =>
   obtain⟨z,y,xs,r,ob,es,ep,e,c⟩:=x;exact⟨z,y,xs,Paired.mapP r λ p q z=>⟨z.1,ht _ _ z.2.1,z.2.2⟩,ob,es,ep,k _ _ (.inl rfl) e,c⟩
 | set S n=>obtain⟨ob,es,ep,t,e,c⟩:=x;exact⟨ob,es,ep,t,k _ _ (.inl rfl) e,c⟩
 | ins C dx fs =>
   obtain⟨d,z,ne,e,mA,⟨od,es,ep,e2,c⟩,r⟩:=x;exact⟨ho _ d,z,ne,k _ _ (.inl rfl) e,mA,⟨od,es,ep,k _ _ (.inr d) e2,c⟩,r⟩
 | own y=>obtain⟨ob,e⟩:=x;exact⟨ob,k _ _ (.inl rfl) e⟩
 | xd fs=>obtain⟨mA,⟨od,es,ep,e,c⟩,r⟩:=x;exact⟨mA,⟨od,es,ep,k _ _ (.inl rfl) e,c⟩,r⟩
 | rng lo hi=>obtain⟨t,u,v,e⟩:=x;exact⟨t,u,v,k _ _ (.inl rfl) e⟩
 | frz ob u ih=>obtain⟨e,q⟩:=x;exact⟨k _ _ (.inl rfl) e,ih q⟩
 | tbl ps =>
   have e:h.get? a=some { cls:=.none,data:=.fields ps }:=x;show h'.get? a=some { cls:=.none,data:=.fields ps };exact k a _ (.inl rfl) e
 | met f y =>
   have e:h.get? a=some (PySem.W.methodObj (.ref f) (.ref y)):=x;show h'.get? a=some (PySem.W.methodObj (.ref f) (.ref y));exact k a _ (.inl rfl) e
 | ext φ=>obtain⟨p,⟨o,e⟩,st⟩:=x;exact⟨st _ _ p λ o q=>k _ _ (.inl rfl) q,⟨o,k _ _ (.inl rfl) e⟩,st⟩
theorem HOk.lt(x:HOk P w H h)(e:H a=some o):a < h.objs.size:=(x a o e).lt
theorem HOk.fresh(x:HOk P w H h)(e:h.objs.size<=a):H a=none:=by
 cases q:H a with
 | none=>rfl
 | some u=>exact absurd (zAb (x.lt q) e) (Nat.lt_irrefl _)
theorem HOk.kept(x:HOk P w H h)(k:∀ b u,h.get? b=some u->h'.get? b=some u):HOk P w H h':=λ a o e =>
 (x a o e).stay (λ b u _ q=>k b u q) (λ _ q=>q) λ _ _ q=>q
theorem HOk.laid(x:HOk P w H h)(k:∀ b u,h.get? b=some u->h'.get? b=some u)(hp:h.objs.size<=a)(new:ObjOk P w (upd H a o) h' a o):HOk P w (upd H a o) h':=λ b u e=>by
 have hn:=x.fresh hp;by_cases hb:b=a
 . subst hb;rw[qb0] at e;cases e;exact new
 rw[qb2 hb] at e;exact(x b u e).stay (λ c v _ q=>k c v q) (λ c q=>by rw[qb2 (qc2 q hn)];exact q) λ c xs q=>by rw[qb2 (qc2 q hn)];exact q
end
def Rd(H:Hp)(a:Addr)(u:HO):Prop:=H a=some u∨∃ o,H a=some (.frz o u)
theorem Rd.ok{P:Program}{w:World}{H:Hp}{h:Heap}{a:Addr}{u:HO}(r:Rd H a u)(x:HOk P w H h):ObjOk P w H h a u:=by
 rcases r with r | ⟨o,r⟩
 . exact x a u r
 obtain⟨_,q⟩:=x a _ r;exact q
def Mut:Option HO->Prop
 | some (.lst _)=>True
 | some (.dK _)=>True
 | some (.dT _)=>True
 | some (.set _ _)=>True
 | some (.ins _ _ _)=>True
 | some (.ext _)=>True
 | _=>False
section
variable{P:Program}{w:World}{H:Hp}{h h':Heap}{x e:Addr}{o':HO}
theorem HOk.write(ok:HOk P w H h)(mu:Mut (H x))(he:e=x∨H e=some (.own x))(k:∀ b u,b≠e->h.get? b=some u->h'.get? b=some u)(heo:∃ u,h'.get? e=some u)(new:ObjOk P w (upd H x o') h' x o'):HOk P w (upd H x o') h':=λ b u q=>by
 have nown:∀ c y,H c=some (.own y)->c≠x:=λ c y r z=>by subst z;rw[r] at mu;exact mu
 have ntup:∀ c xs,H c=some (.tup xs)->c≠x:=λ c xs r z=>by subst z;rw[r] at mu;exact mu
 by_cases hb:b=x
 . subst hb;rw[qb0] at q;cases q;exact new
 rw[qb2 hb] at q;by_cases hbe:b=e
 . have q':H b=some (.own x):=by
     rcases he with z | z
     . exact absurd (hbe.trans z) hb
     rw[hbe];exact z
   rw[q] at q';cases q';obtain⟨v,hv⟩:=heo;exact⟨v,by rw[hbe];exact hv⟩
 refine(ok b u q).stay (λ c v hc r=>k c v ?_ r) (λ c r=>by rw[qb2 (nown c b r)];exact r) λ c xs r=>by rw[qb2 (ntup c xs r)];exact r
 rcases hc with rfl | hc
 . exact hbe
 rintro rfl;rcases he with z | z
 . exact nown c b hc z
 rw[hc] at z;cases z;exact hb rfl
end
structure Un(fs ex:List Addr)(H H':Hp)(h h':Heap):Prop where
 keep:∀ b o,h.get? b=some o->H b=none->b∉fs->b∉ex->h'.get? b=some o
 slot:∀ b o,h.get? b=some o->H b=none->b∈fs->b∉ex->∃ sl,h'.get? b=some { o with slots:=sl }
 free:∀ b o,h.get? b=some o->H b=none->b∉ex->H' b=none
 there:∀ b o,h.get? b=some o->b∉ex->∃ o',h'.get? b=some o'
 tups:∀ b xs,H b=some (.tup xs)->H' b=some (.tup xs)
 frzs:∀ b o u,H b=some (.frz o u)->H' b=some (.frz o u)
 tbls:∀ b ps,H b=some (.tbl ps)->∃ more,H' b=some (.tbl (ps++more))
section
variable{fs ex:List Addr}{H H1 H2:Hp}{h h1 h2 h':Heap}{a x e:Addr}{o:HO}
theorem Un.any(u:Un fs ex H H1 h h1){b:Addr}{ob:Obj}(q:h.get? b=some ob)(n:H b=none)(hx:b∉ex):∃ sl,h1.get? b=some { ob with slots:=sl }:=by
 by_cases hb:b∈fs
 . exact u.slot b ob q n hb hx
 exact⟨ob.slots,u.keep b ob q n hb hx⟩
theorem Un.trans(a:Un fs ex H H1 h h1)(b:Un fs ex H1 H2 h1 h2):Un fs ex H H2 h h2 where
 keep:=λ c ob q n hc hx=>b.keep c ob (a.keep c ob q n hc hx) (a.free c ob q n hx) hc hx
 slot:=λ c ob q n hc hx=>by
   obtain⟨sl,e1⟩:=a.slot c ob q n hc hx;obtain⟨sl',e2⟩:=b.slot c _ e1 (a.free c ob q n hx) hc hx;exact⟨sl',e2⟩
 free:=λ c ob q n hx=>by
   obtain⟨o',e1⟩:=a.there c ob q hx;exact b.free c o' e1 (a.free c ob q n hx) hx
 there:=λ c ob q hx=>by
   obtain⟨o',e1⟩:=a.there c ob q hx;exact b.there c o' e1 hx
 tups:=λ c xs q=>b.tups c xs (a.tups c xs q)
 frzs:=λ c ob xs q=>b.frzs c ob xs (a.frzs c ob xs q)
 tbls:=λ c ps q=>by
   obtain⟨m1,e1⟩:=a.tbls c ps q;obtain⟨m2,e2⟩:=b.tbls c _ e1;exact⟨m1++m2,by rw[e2,Array.append_assoc]⟩
theorem Un.kept(k:∀ b u,h.get? b=some u->h'.get? b=some u):Un fs ex H H h h' :=
 ⟨λ b ob q _ _ _=>k b ob q,λ b ob q _ _ _=>⟨ob.slots,k b ob q⟩,λ _ _ _ n _=>n,λ b ob q _=>⟨ob,k b ob q⟩,λ _ _ q=>q,λ _ _ _ q=>q,λ _ ps q=>⟨#[],by rw[q];simp⟩⟩
theorem Un.refl:Un fs ex H H h h:=Un.kept λ _ _ q=>q
theorem Un.laid(k:∀ b u,h.get? b=some u->h'.get? b=some u)(hp:h.objs.size<=a)(hn:H a=none):Un fs ex H (upd H a o) h h' where
 keep:=λ b u q _ _ _=>k b u q
 slot:=λ b u q _ _ _=>⟨u.slots,k b u q⟩
 free:=λ b u q n _=>by rw[qb2 (zAl (zAb (zA6 q) hp))];exact n
 there:=λ b u q _=>⟨u,k b u q⟩
 tups:=λ b xs q=>by rw[qb2 (qc2 q hn)];exact q
 frzs:=λ b u xs q=>by rw[qb2 (qc2 q hn)];exact q
 tbls:=λ b ps q=>⟨#[],by rw[qb2 (qc2 q hn),q];simp⟩
theorem Un.write(mu:Mut (H x))(he:e=x∨H e=some (.own x))(k:∀ b u,b≠e->h.get? b=some u->h'.get? b=some u)(heo:∃ u,h'.get? e=some u):Un fs ex H (upd H x o) h h':=by
 have hx:∀ b,H b=none->b≠x:=λ b n z=>by subst z;rw[n] at mu;exact mu
 have hb:∀ b,H b=none->b≠e:=λ b n z=>by
   subst z;rcases he with r | r
   . exact hx b n r
   rw[n] at r;cases r
 have hm:∀ b u,H b=some u->¬ Mut (some u)->b≠x:=λ b u q nm z=>by subst z;rw[q] at mu;exact nm mu
 refine⟨λ b u q n _ _=>k b u (hb b n) q,λ b u q n _ _=>⟨u.slots,k b u (hb b n) q⟩,λ b u q n _=>by rw[qb2 (hx b n)];exact n,λ b u q _=>?_,
   λ b xs q=>by rw[qb2 (hm b _ q λ z=>z)];exact q,λ b u xs q=>by rw[qb2 (hm b _ q λ z=>z)];exact q,λ b ps q=>⟨#[],by rw[qb2 (hm b _ q λ z=>z),q];simp⟩⟩
 by_cases hbe:b=e
 . subst hbe;exact heo
 exact⟨u,k b u hbe q⟩
end
def trk(h:Heap)(H:Hp):List Addr:=(List.range h.objs.size).filter λ a=>(H a).isSome
def E6(h:Heap)(H:Hp):Heap:=PySem.W.hideAll h (trk h H)
theorem qU7(h:Heap)(H:Hp):(E6 h H).objs.size=h.objs.size:=PySem.W.hideAll_size _ _
theorem qag8{h:Heap}{H:Hp}{b:Addr}{o:Obj}(e:h.get? b=some o)(n:H b=none):(E6 h H).get? b=some o :=
 PySem.W.hideAll_get _ e λ hm=>by
   have q:(H b).isSome=true:=(List.mem_filter.mp hm).2;rw[n] at q;simp at q
theorem qao8{h:Heap}{H:Hp}{b:Addr}{o:Obj}(e:(E6 h H).get? b=some o):h.get? b=some o/\H b=none:=by
 have e':h.get? b=some o:=PySem.W.of_hideAll (trk h H) e;refine⟨e',?_⟩;cases q:H b with
 | none=>rfl
 | some x =>
   have hm:b∈trk h H:=List.mem_filter.mpr ⟨List.mem_range.mpr (zA6 e'),by simp[q]⟩;have z:(E6 h H).get? b=none:=PySem.W.hideAll_none (trk h H) hm;rw[z] at e;cases e
structure Mod(K:PySem.W.Frag)(mg:Str->Option Value)(base:Heap):Prop where
 kin:K.In base
 glob:base.Ns mainGlobals mg
 blt:∃ mb,base.Ns builtinsNs mb/\∀ x:Str,x ≠ "__name__" -> mb x=bootBuiltins x
 nolimit:base.NoLimit
structure Cx where
 prog:Program
 w:World
 K:PySem.W.Frag
 mg:Str->Option Value
 base:Heap
 A:Around
 N:List Str
 s₀:Shared
 H₀:Hp
 env:Env
 outer:List Env
 stack:List Env
 ex:List Addr
 fn:Str->Bool
 calm:Bool
 pn:List (Addr×Obj)
 xe:Value->Shared->Prop
def frs(l:List Env):List Addr:=l.filterMap (·.frame)
abbrev Cx.fs(X:Cx):List Addr:=frs X.outer
def Vis(sc:Scope)(x:Str):Prop:=sc.names.lookup x=some .local∨sc.names.lookup x=some .cell∨sc.names.lookup x=some .free
def Loc(sc:Scope)(x:Str):Prop:=sc.names.lookup x=some .local∨sc.names.lookup x=some .cell
def Look(env:Env)(h:Heap)(m:Str->Option Value)(x:Str)(u:Value):Prop :=
 (env.kindOf x=some .local/\m x=some u)∨((env.kindOf x=some .cell∨env.kindOf x=some .free)/\∃ c,env.cells.lookup x=some c/\h.IsCell c (some u))
structure Cx.Ok(X:Cx):Prop where
 mod:Mod X.K X.mg X.base
 kind:X.env.scope.kind=.function
 glob:X.env.globals=mainGlobals
 blt:X.env.builtins=builtinsNs
 above:X.s₀.heap.objs.size<=X.env.locals
 inj:∀ x y c,X.env.cells.lookup x=some c->X.env.cells.lookup y=some c->x=y
 has:∀ x,(X.env.kindOf x=some .cell∨X.env.kindOf x=some .free)->∃ c,X.env.cells.lookup x=some c
 cab:∀ x c,X.fn x=true->X.env.cells.lookup x=some c->X.s₀.heap.objs.size<=c
 hd:X.calm=true->X.A.handled=none
 frames:X.A.frames=some X.stack
 stk:X.stack=X.outer∨(X.stack=X.env::X.outer/\X.env.frame=some X.env.locals)
 exf:∀ b∈X.ex,b≠X.env.locals/\∀ x c,X.env.cells.lookup x=some c->c≠b
 bs:∀ b o,X.base.get? b=some o->X.s₀.heap.get? b=some o/\X.H₀ b=none
 bsz:X.base.objs.size<=X.s₀.heap.objs.size
 noex:∀ b o,X.base.get? b=some o->b∉X.ex
 exfs:∀ b∈X.ex,b∉X.fs
 funs:X.s₀.heap.FunFrames X.base X.outer
 frf:∀ b∈X.fs,X.H₀ b=none
structure Inv(X:Cx)(Dk:List (Addr×Obj))(σ:List (Option V))(H:Hp)(s:Shared):Prop where
 ok:X.Ok
 os:s.os=X.s₀.os
 bare:AllBare s.gens
 base:Un X.fs X.ex X.H₀ H X.s₀.heap s.heap
 loc:∃ m,s.heap.Ns X.env.locals m/\∀(i:Nat)(x:Str)(v:V),X.N[i]? = some x->σ[i]? = some (some v)->Vis X.env.scope x->∃ u,RelV v u/\Look X.env s.heap m x u
 cell:∀ x c,X.env.cells.lookup x=some c->∃ v,s.heap.IsCell c v
 free:H X.env.locals=none
 freeC:∀ x c,X.env.cells.lookup x=some c->H c=none
 pin:∀ p∈X.pn++Dk,s.heap.get? p.1=some p.2/\H p.1=none/\p.1≠X.env.locals/\p.1∉X.fs/\∀ v,p.2.data≠.cell v
 hok:HOk X.prog X.w H s.heap
 len:σ.length=X.N.length
section
variable{X:Cx}{Dk:List (Addr×Obj)}{σ:List (Option V)}{H H':Hp}{s:Shared}{h':Heap}
theorem Cx.Ok.nofr(ok:X.Ok){b:Addr}{o:Obj}(e:X.base.get? b=some o):b∉X.fs:=λ hb=>by
 have:=(ok.funs.mem hb).1
 rw[e] at this;cases this
theorem Inv.bs(I:Inv X Dk σ H s):∀ b o,X.base.get? b=some o->s.heap.get? b=some o/\H b=none:=λ b o e =>
 ⟨I.base.keep b o (I.ok.bs b o e).1 (I.ok.bs b o e).2 (I.ok.nofr e) (I.ok.noex b o e),I.base.free b o (I.ok.bs b o e).1 (I.ok.bs b o e).2 (I.ok.noex b o e)⟩
theorem Inv.bk(I:Inv X Dk σ H s):∀ b o,X.base.get? b=some o->s.heap.get? b=some o:=λ b o e=>(I.bs b o e).1
theorem Inv.mod(I:Inv X Dk σ H s):Mod X.K X.mg X.base:=I.ok.mod
theorem Inv.kIn(I:Inv X Dk σ H s):X.K.In s.heap:=I.ok.mod.kin.keeps I.bk
theorem Inv.fr(I:Inv X Dk σ H s):∃ m,Fr X.base X.env.locals s.heap m :=
 let ⟨m,hn,_⟩:=I.loc
 ⟨m,hn,I.bk,zAm I.ok.bsz I.ok.above⟩
theorem Inv.lt(I:Inv X Dk σ H s):X.env.locals < s.heap.objs.size:=let ⟨_,hn,_⟩:=I.loc;hn.lt
theorem Inv.sz(I:Inv X Dk σ H s):X.s₀.heap.objs.size<=s.heap.objs.size:=zAm I.ok.above (Nat.le_of_lt I.lt)
theorem Inv.nofs(I:Inv X Dk σ H s){a:Addr}(h:s.heap.objs.size<=a):a∉X.fs:=λ hb=>by
 obtain⟨_,o,ho,_⟩:=I.ok.funs.mem hb;exact absurd (zAb (zA6 ho) (zAm I.sz h)) (Nat.lt_irrefl _)
theorem Inv.cne(I:Inv X Dk σ H s):∀ x c,X.env.cells.lookup x=some c->c≠X.env.locals:=λ x c e z=>by
 obtain⟨v,o,ho,hd⟩:=I.cell x c e;obtain⟨m,⟨o',es,ep,ho',hd',_⟩,_⟩:=I.loc;rw[z,ho'] at ho;cases ho;rw[hd'] at hd;cases hd
theorem Inv.funs(I:Inv X Dk σ H s):s.heap.FunFrames X.base X.outer:=by
 have all:∀(l:List Env),(∀ b∈frs l,b∈X.fs)->X.s₀.heap.FunFrames X.base l->s.heap.FunFrames X.base l:=by
   intro l
   induction l with
   | nil=>intro _ _;trivial
   | cons env r ih =>
     intro hs hl;obtain⟨hk,⟨L,o,hf,hn,ho,hd⟩,hr⟩:=hl;have hL:L∈X.fs:=hs L (by unfold frs;rw[zBr,hf];exact zAc);obtain⟨sl,e⟩:=I.base.slot L o ho (I.ok.frf L hL) hL λ z=>I.ok.exfs L z hL
     exact⟨hk,⟨L,_,hf,hn,e,hd⟩,ih (λ b hb=>hs b (by unfold frs;rw[zBr,hf];exact zA9 _ hb)) hr⟩
 exact all X.outer (λ _ hb=>hb) I.ok.funs
theorem Inv.stack(I:Inv X Dk σ H s):s.heap.FunFrames X.base X.stack:=by
 rcases I.ok.stk with e | ⟨e,hf⟩
 . rw[e];exact I.funs
 rw[e];obtain⟨m,hn,_⟩:=I.loc;refine .cons (by rw[I.ok.kind];decide) hf hn ?_ I.funs;exact Heap.get?_none_of_le (zAm I.ok.bsz I.ok.above)
theorem Inv.stkSub(I:Inv X Dk σ H s):∀ b∈frs X.stack,b∈X.env.locals::X.fs:=λ b hb=>by
 rcases I.ok.stk with e | ⟨e,hf⟩
 . rw[e] at hb;exact zA9 _ hb
 rw[e] at hb;unfold frs at hb;rw[zBr,hf] at hb;exact hb
theorem Inv.stkFree(I:Inv X Dk σ H s):∀ b∈frs X.stack,H b=none:=λ b hb=>by
 rcases zA7.mp (I.stkSub b hb) with e | hb
 . rw[e];exact I.free
 obtain⟨_,o,ho,_⟩:=I.ok.funs.mem hb;exact I.base.free b o ho (I.ok.frf b hb) λ z=>I.ok.exfs b z hb
theorem Inv.step{g':Array GenState}{d':Drawn}(I:Inv X Dk σ H s)(hch:∀ b∈ch,(b∈X.ex∨X.s₀.heap.objs.size<=b)/\b≠X.env.locals/\(∀ x c,X.env.cells.lookup x=some c->c≠b)/\∀ p∈X.pn++Dk,p.1≠b)(keep:∀ b o,b≠X.env.locals->b∉X.fs->b∉ch->s.heap.get? b=some o->H b=none->h'.get? b=some o)(slot:∀ b o,b≠X.env.locals->b∈X.fs->b∉ch->s.heap.get? b=some o->H b=none->∃ sl,h'.get? b=some { o with slots:=sl })(free:∀ b o,b∉ch->s.heap.get? b=some o->H b=none->H' b=none)(there:∀ b o,b∉ch->s.heap.get? b=some o->∃ o',h'.get? b=some o')(tups:∀ b xs,H b=some (.tup xs)->H' b=some (.tup xs))(frzs:∀ b o u,H b=some (.frz o u)->H' b=some (.frz o u))(tbls:∀ b ps,H b=some (.tbl ps)->∃ more,H' b=some (.tbl (ps++more)))(ns:∀ m,s.heap.Ns X.env.locals m->h'.Ns X.env.locals m)(hok:HOk X.prog X.w H' h')(hg:AllBare g') :
   Inv X Dk σ H' { s with heap:=h',gens:=g',drawn:=d',toks:=t' }:=by
 have neL:∀ b o,X.s₀.heap.get? b=some o->b≠X.env.locals:=λ b o e=>zAl (zAb (zA6 e) I.ok.above)
 have neC:∀ b o,X.s₀.heap.get? b=some o->b∉X.ex->b∉ch:=λ b o e hx hb=>by
   rcases (hch b hb).1 with z | z
   . exact hx z
   exact absurd (zAb (zA6 e) z) (Nat.lt_irrefl _)
 have cellK:∀ x c,X.env.cells.lookup x=some c->∀ v,s.heap.IsCell c v->h'.IsCell c v:=λ x c e v ⟨o,ho,hd⟩=>by
   have nch:c∉ch:=λ z=>(hch c z).2.2.1 x c e rfl
   by_cases hc:c∈X.fs
   . obtain⟨sl,q⟩:=slot c o (I.cne x c e) hc nch ho (I.freeC x c e)
     exact⟨_,q,hd⟩
   exact⟨o,keep c o (I.cne x c e) hc nch ho (I.freeC x c e),hd⟩
 refine⟨I.ok,I.os,hg,⟨λ b o e n hb hx=>?_,λ b o e n hb hx=>?_,λ b o e n hx=>?_,λ b o e hx=>?_,λ b xs e=>tups b xs (I.base.tups b xs e),λ b o xs e=>frzs b o xs (I.base.frzs b o xs e),λ b ps e=>?_⟩,?_,λ x c e=>?_,?_,λ x c e=>?_,λ p hp=>?_,hok,I.len⟩
 . exact keep b o (neL b o e) hb (neC b o e hx) (I.base.keep b o e n hb hx) (I.base.free b o e n hx)
 . obtain⟨sl,e1⟩:=I.base.slot b o e n hb hx
   obtain⟨sl',e2⟩:=slot b _ (neL b o e) hb (neC b o e hx) e1 (I.base.free b o e n hx);exact⟨sl',e2⟩
 . obtain⟨o',e1⟩:=I.base.there b o e hx
   exact free b o' (neC b o e hx) e1 (I.base.free b o e n hx)
 . obtain⟨o',e1⟩:=I.base.there b o e hx
   exact there b o' (neC b o e hx) e1
 . obtain⟨m1,e1⟩:=I.base.tbls b ps e
   obtain⟨m2,e2⟩:=tbls b _ e1;exact⟨m1++m2,by rw[e2,Array.append_assoc]⟩
 . obtain⟨m,hn,hl⟩:=I.loc
   refine⟨m,ns m hn,λ i x v e1 e2 e3=>?_⟩;obtain⟨u,r,l⟩:=hl i x v e1 e2 e3;refine⟨u,r,?_⟩;rcases l with l | ⟨k,c,e,z⟩
   . exact .inl l
   exact .inr ⟨k,c,e,cellK x c e _ z⟩
 . obtain⟨v,z⟩:=I.cell x c e
   exact⟨v,cellK x c e v z⟩
 . obtain⟨m,⟨o,_,_,ho,_⟩,_⟩:=I.loc
   exact free _ o (λ z=>(hch _ z).2.1 rfl) ho I.free
 . obtain⟨v,o,ho,hd⟩:=I.cell x c e
   exact free c o (λ z=>(hch c z).2.2.1 x c e rfl) ho (I.freeC x c e)
 obtain⟨e,n,ne,nf,d⟩:=I.pin p hp;have nch:p.1∉ch:=λ z=>(hch p.1 z).2.2.2 p hp rfl
 exact⟨keep p.1 p.2 ne nf nch e n,free p.1 p.2 nch e n,ne,nf,d⟩
theorem Inv.un(I:Inv X Dk σ H s)(u:Un X.fs [] H H' s.heap h')(hok:HOk X.prog X.w H' h'):Inv X Dk σ H' { s with heap:=h',toks:=t' }:=by
 obtain⟨m,⟨o,es,ep,ho,r⟩,_⟩:=id I.loc;obtain⟨sl,hL⟩:=u.any ho I.free (by simp);exact I.step (g':=s.gens) (d':=s.drawn) (ch:=[]) (λ _ z=>nomatch z) (λ b o _ hb _ e n=>u.keep b o e n hb (by simp)) (λ b o _ hb _ e n=>u.slot b o e n hb (by simp)) (λ b o _ e n=>u.free b o e n (by simp)) (λ b o _ e=>u.there b o e (by simp)) u.tups u.frzs u.tbls (λ m' hm=>by
   obtain⟨o',es',ep',ho',r'⟩:=hm;rw[ho] at ho';cases ho';exact⟨_,es',ep',hL,r'⟩) hok I.bare
theorem Inv.call{g':Array GenState}{d':Drawn}(I:Inv X Dk σ H s)(u:Un (frs X.stack) ch H H' s.heap h')(hok:HOk X.prog X.w H' h')(hg:AllBare g')(hch:∀ b∈ch,(b∈X.ex∨X.s₀.heap.objs.size<=b)/\b≠X.env.locals/\(∀ x c,X.env.cells.lookup x=some c->c≠b)/\∀ p∈X.pn++Dk,p.1≠b) :
   Inv X Dk σ H' { s with heap:=h',gens:=g',drawn:=d',toks:=t' }:=by
 obtain⟨m,⟨o,es,ep,ho,r⟩,_⟩:=id I.loc;obtain⟨sl,hL⟩:=u.any ho I.free λ z=>(hch _ z).2.1 rfl
 exact I.step (ch:=ch) hch (λ b o hL hb hc e n=>u.keep b o e n (λ z=>(zA7.mp (I.stkSub b z)).elim hL hb) hc) (λ b o _ _ hc e n=>u.any e n hc) (λ b o hc e n=>u.free b o e n hc) (λ b o hc e=>u.there b o e hc) u.tups u.frzs u.tbls (λ m' hm=>by
   obtain⟨o',es',ep',ho',r'⟩:=hm;rw[ho] at ho';cases ho';exact⟨_,es',ep',hL,r'⟩) hok hg
theorem Inv.turned{it:Addr}(I:Inv X Dk σ H s)(k:∀ b o,b≠it->s.heap.get? b=some o->h'.get? b=some o)(hn:H it=none)(hL:it≠X.env.locals)(h1:it∈X.ex∨X.s₀.heap.objs.size<=it)(h2:∀ x c,X.env.cells.lookup x=some c->c≠it)(h3:∀ p∈X.pn++Dk,p.1≠it):Inv X Dk σ H { s with heap:=h',toks:=t' }:=by
 have nit:∀ b u,H b=some u->b≠it:=λ b u e z=>by rw[z,hn] at e;cases e
 refine I.step (g':=s.gens) (d':=s.drawn) (ch:=[it]) (λ b hb=>?_) (λ b o _ _ hc e _=>k b o (λ z=>hc (by simp[z])) e) (λ b o _ _ hc e _=>⟨o.slots,k b o (λ z=>hc (by simp[z])) e⟩) (λ _ _ _ _ n=>n)
   (λ b o hc e=>⟨o,k b o (λ z=>hc (by simp[z])) e⟩) (λ _ _ e=>e) (λ _ _ _ e=>e) (λ b ps e=>⟨#[],by rw[e];simp⟩) (λ m hm=>?_) (λ b u e=>?_) I.bare
 . have e:b=it:=by simpa using hb
   subst e;exact⟨h1,hL,h2,h3⟩
 . obtain⟨o,es,ep,ho,r⟩:=hm
   exact⟨o,es,ep,k _ o (Ne.symm hL) ho,r⟩
 refine(I.hok b u e).stay (λ c v hc q=>k c v ?_ q) (λ _ q=>q) λ _ _ q=>q
 rcases hc with z | z
 . rw[z];exact nit b u e
 exact nit c _ z
theorem Inv.tok(I:Inv X Dk σ H s)(t:Nat):Inv X Dk σ H { s with toks:=t }:=I.un (h':=s.heap) (t':=t) Un.refl I.hok
theorem Inv.kept(I:Inv X Dk σ H s)(k:∀ b u,s.heap.get? b=some u->h'.get? b=some u):Inv X Dk σ H { s with heap:=h',toks:=t' }:=I.un (Un.kept k) (I.hok.kept k)
theorem Inv.laid{a:Addr}{o:HO}(I:Inv X Dk σ H s)(k:∀ b u,s.heap.get? b=some u->h'.get? b=some u)(hp:s.heap.objs.size<=a)(new:ObjOk X.prog X.w (upd H a o) h' a o) :
   Inv X Dk σ (upd H a o) { s with heap:=h',toks:=t' }:=I.un (Un.laid k hp (I.hok.fresh hp)) (I.hok.laid k hp new)
theorem Inv.write{x e:Addr}{o:HO}(I:Inv X Dk σ H s)(mu:Mut (H x))(he:e=x∨H e=some (.own x))(k:∀ b u,b≠e->s.heap.get? b=some u->h'.get? b=some u)(heo:∃ u,h'.get? e=some u)(new:ObjOk X.prog X.w (upd H x o) h' x o):Inv X Dk σ (upd H x o) { s with heap:=h',toks:=t' }:=I.un (Un.write mu he k heo) (I.hok.write mu he k heo new)
theorem Inv.weak{σ':List (Option V)}(I:Inv X Dk σ H s)(hl:σ'.length=σ.length)(w:∀(i:Nat) v,σ'[i]? = some (some v)->σ[i]? = some (some v)):Inv X Dk σ' H s :=
 ⟨I.ok,I.os,I.bare,I.base,let ⟨m,hn,hl'⟩:=I.loc;⟨m,hn,λ i x v e1 e2 e3=>hl' i x v e1 (w i v e2) e3⟩,I.cell,I.free,I.freeC,I.pin,I.hok,hl.trans I.len⟩
theorem Inv.pins_of{pins':List (Addr×Obj)}(I:Inv X Dk σ H s)(h:∀ p∈pins',s.heap.get? p.1=some p.2/\H p.1=none/\p.1≠X.env.locals/\p.1∉X.fs/\∀ v,p.2.data≠.cell v):Inv X pins' σ H s :=
 ⟨I.ok,I.os,I.bare,I.base,I.loc,I.cell,I.free,I.freeC,λ p hp=>(zAd.mp hp).elim (λ z=>I.pin p (List.mem_append_left _ z)) (h p),I.hok,I.len⟩
theorem qB7(hN:N.Nodup){j:Nat}{x:Str}(a:N[i]? = some x)(b:N[j]? = some x):i=j:=by
 obtain⟨h1,e1⟩:=zA5.mp a;obtain⟨h2,e2⟩:=zA5.mp b;exact(List.getElem_inj hN).mp (e1.trans e2.symm)
theorem qS5{A:Around}{E:Value->Shared->Prop}{x:Str}{v:V}{u:Value}{Q:Unit->Shared->Prop}(I:Inv X Dk σ H s)(hN:X.N.Nodup)(hi:X.N[i]? = some x)(hx:Loc X.env.scope x)(r:RelV v u)(h:∀ s',Inv X Dk (σ.set i (some v)) H s'->(∃ a,Heap.SameBut a s.heap s'.heap/\(a=X.env.locals∨X.env.cells.lookup x=some a))->Q () s')(hf:X.fn x=true∨X.env.scope.names.lookup x=some .local:=by first | exact .inl rfl | exact .inr rfl | assumption):wpAny M A (storeName X.env x u) Q E s:=by
 obtain⟨m,hn,hl⟩:=id I.loc;have hcls:(X.env.scope.kind == .class||(X.env.scope.kind == .module&&X.env.locals != X.env.globals))=false:=by rw[I.ok.kind];rfl
 have hiσ:i < σ.length:=by rw[I.len];exact(zA5.mp hi).1
 have cne:=I.cne;have tracked:∀{a:Addr}{h':Heap},(∃ o,s.heap.get? a=some o/\H a=none)->Heap.SameBut a s.heap h'->HOk X.prog X.w H h':=λ{a h'} ha hs b ob e=>by
   obtain⟨_,_,hfree⟩:=ha;refine(I.hok b ob e).stay (λ c w' hc q=>(hs.2 c ?_).trans q) (λ _ q=>q) λ _ _ q=>q
   rintro rfl;rcases hc with rfl | hc
   . rw[hfree] at e;cases e
   rw[hfree] at hc;cases hc
 rcases hx with hk | hk
 . refine wpAny_storeName_local hk hn (λ h' hn' hs=>?_) hcls
   obtain⟨oL,_,_,hoL,_⟩:=id hn;refine h _ ⟨I.ok,I.os,I.bare,⟨λ b o e n hb hx=>?_,λ b o e n hb hx=>?_,I.base.free,λ b o e hx=>?_,I.base.tups,I.base.frzs,I.base.tbls⟩,⟨_,hn',λ j y v' e1 e2 e3=>?_⟩,λ y c e=>?_,I.free,I.freeC,λ p hp=>?_,tracked ⟨oL,hoL,I.free⟩ hs,by simpa using I.len⟩ ⟨_,hs,.inl rfl⟩
   . exact(hs.2 b (zAl (zAb (zA6 e) I.ok.above))).trans (I.base.keep b o e n hb hx)
   . obtain⟨sl,e1⟩:=I.base.slot b o e n hb hx
     exact⟨sl,(hs.2 b (zAl (zAb (zA6 e) I.ok.above))).trans e1⟩
   . obtain⟨o',e1⟩:=I.base.there b o e hx
     exact⟨o',(hs.2 b (zAl (zAb (zA6 e) I.ok.above))).trans e1⟩
   . by_cases hj:j=i
     . subst hj
       rw[hi] at e1;cases e1;rw[zB9 hiσ] at e2;cases e2;exact⟨u,r,.inl ⟨hk,by simp⟩⟩
     rw[zB6 (Ne.symm hj)] at e2;obtain⟨u',r',q⟩:=hl j y v' e1 e2 e3;refine⟨u',r',?_⟩;rcases q with⟨k,e⟩ | ⟨k,c,e,z⟩
     . refine .inl ⟨k,?_⟩
       have:y≠x:=λ e=>hj (qB7 hN e1 (e ▸ hi))
       simp[this,e]
     exact .inr ⟨k,c,e,z.sameBut hs (cne y c e)⟩
   . obtain⟨w',z⟩:=I.cell y c e
     exact⟨w',z.sameBut hs (cne y c e)⟩
   obtain⟨e,n,ne,nf,d⟩:=I.pin p hp;exact⟨(hs.2 p.1 ne).trans e,n,ne,nf,d⟩
 have hfn:X.fn x=true:=by
   rcases hf with z | z
   . exact z
   rw[z] at hk;cases hk
 obtain⟨c,hc⟩:=I.ok.has x (.inl hk);obtain⟨w',z⟩:=I.cell x c hc;refine wpAny_storeName_cell I.ok.kind hk hc z (λ h' hc' hs=>?_);obtain⟨oc,hoc,hocd⟩:=id z;refine h { s with heap:=h' } ⟨I.ok,I.os,I.bare,⟨λ b o e n hb hx=>?_,λ b o e n hb hx=>?_,I.base.free,λ b o e hx=>?_,I.base.tups,I.base.frzs,I.base.tbls⟩,⟨m,hn.sameBut hs (Ne.symm (cne x c hc)),λ j y v' e1 e2 e3=>?_⟩,λ y c' e=>?_,I.free,I.freeC,λ p hp=>?_,tracked ⟨oc,hoc,I.freeC x c hc⟩ hs,by simpa using I.len⟩ ⟨c,hs,.inr hc⟩
 . exact(hs.2 b (zAl (zAb (zA6 e) (I.ok.cab x c hfn hc)))).trans (I.base.keep b o e n hb hx)
 . obtain⟨sl,e1⟩:=I.base.slot b o e n hb hx
   exact⟨sl,(hs.2 b (zAl (zAb (zA6 e) (I.ok.cab x c hfn hc)))).trans e1⟩
 . obtain⟨o',e1⟩:=I.base.there b o e hx
   exact⟨o',(hs.2 b (zAl (zAb (zA6 e) (I.ok.cab x c hfn hc)))).trans e1⟩
 . by_cases hj:j=i
   . subst hj
     rw[hi] at e1;cases e1;rw[zB9 hiσ] at e2;cases e2;exact⟨u,r,.inr ⟨.inl hk,c,hc,hc'⟩⟩
   rw[zB6 (Ne.symm hj)] at e2;obtain⟨u',r',q⟩:=hl j y v' e1 e2 e3;refine⟨u',r',?_⟩;rcases q with q | ⟨k,c',e,z'⟩
   . exact .inl q
   refine .inr ⟨k,c',e,z'.sameBut hs ?_⟩;rintro rfl;exact hj (qB7 hN e1 (I.ok.inj _ _ _ e hc ▸ hi))
 . by_cases hcc:c'=c
   . subst hcc;exact⟨_,hc'⟩
   obtain⟨w2,z2⟩:=I.cell y c' e;exact⟨w2,z2.sameBut hs hcc⟩
 obtain⟨e,n,ne,nf,d⟩:=I.pin p hp;refine⟨(hs.2 p.1 ?_).trans e,n,ne,nf,d⟩;intro q;rw[q,hoc] at e;have q':oc=p.2:=Option.some.inj e;exact d w' (by rw[<- q'];exact hocd)
theorem qt2{A:Around}{E:Value->Shared->Prop}{x:Str}{v:V}{u:Value}{Q:Unit->Shared->Prop}(I:Inv X Dk σ H s)(hN:X.N.Nodup)(hi:X.N[i]? = some x)(hx:Loc X.env.scope x)(r:RelV v u)(h:∀ s',Inv X Dk (σ.set i (some v)) H s'->Q () s')(hf:X.fn x=true∨X.env.scope.names.lookup x=some .local:=by first | exact .inl rfl | exact .inr rfl | assumption):wpAny M A (storeName X.env x u) Q E s :=
 qS5 I hN hi hx r (λ s' I' _=>h s' I') hf
theorem Inv.call'{s':Shared}(I:Inv X Dk σ H s)(ho:s'.os=s.os)(u:Un (frs X.stack) ch H H' s.heap s'.heap)(hok:HOk X.prog X.w H' s'.heap)(hg:AllBare s'.gens)(hch:∀ b∈ch,(b∈X.ex∨X.s₀.heap.objs.size<=b)/\b≠X.env.locals/\(∀ x c,X.env.cells.lookup x=some c->c≠b)/\∀ p∈X.pn++Dk,p.1≠b):Inv X Dk σ H' s':=by
 obtain⟨h',g',d',t',o'⟩:=s';have e:o'=s.os:=ho;subst e;exact I.call (g':=g') (t':=t') (d':=d') u hok hg hch
end
abbrev XK:=Value->Option Addr->Hp->Prop
abbrev St:=List (Option V)
abbrev VK:=V->Hp->Prop
abbrev TE:=St->Hp->VK->Prop
abbrev TT:=St->Hp->(Bool->Hp->Prop)->Prop
abbrev TA:=St->Hp->(List V->Hp->Prop)->Prop
structure B6 where
 nx:St->Hp->Prop
 rt:VK
 bk:St->Hp->Prop:=λ _ _=>False
 ct:St->Hp->Prop:=λ _ _=>False
abbrev TS:=B6->St->Hp->Prop
def EP(X:Cx)(Dk:List (Addr×Obj))(σ:St)(Q:VK)(u:Value)(s':Shared):Prop:=∃ v H',Inv X Dk σ H' s'/\RelV v u/\Q v H'
def TP(X:Cx)(Dk:List (Addr×Obj))(σ:St)(Q:Bool->Hp->Prop)(b:Bool)(s':Shared):Prop:=∃ H',Inv X Dk σ H' s'/\Q b H'
def AP(X:Cx)(Dk:List (Addr×Obj))(σ:St)(Q:List V->Hp->Prop)(us:List Value)(s':Shared):Prop:=∃ vs H',Inv X Dk σ H' s'/\Vals vs us/\Q vs H'
def SP(X:Cx)(Dk:List (Addr×Obj))(D:B6)(f:Flow)(s':Shared):Prop :=
 match f with
 | .next=>∃ σ' H',Inv X Dk σ' H' s'/\D.nx σ' H'
 | .brk=>∃ σ' H',Inv X Dk σ' H' s'/\D.bk σ' H'
 | .cont=>∃ σ' H',Inv X Dk σ' H' s'/\D.ct σ' H'
 | .ret u=>∃ v σ' H',Inv X Dk σ' H' s'/\RelV v u/\D.rt v H'
def PE(X:Cx)(e:Expr)(t:TE):Prop :=
 ∀(Dk:List (Addr×Obj))(s:Shared)(σ:St)(H:Hp)(Q:VK),Inv X Dk σ H s->t σ H Q->wpAny (model X.prog X.w) X.A (eval e X.env) (EP X Dk σ Q) X.xe s
def PT(X:Cx)(e:Expr)(t:TT):Prop :=
 ∀(Dk:List (Addr×Obj))(s:Shared)(σ:St)(H:Hp)(Q:Bool->Hp->Prop),Inv X Dk σ H s->t σ H Q->wpAny (model X.prog X.w) X.A (isTrue e X.env (eval e X.env)) (TP X Dk σ Q) X.xe s
def PW(X:Cx)(e:Expr)(t:TT):Prop :=
 ∀(whole:Sem Value)(Dk:List (Addr×Obj))(s:Shared)(σ:St)(H:Hp)(Q:Bool->Hp->Prop),Inv X Dk σ H s->t σ H Q->wpAny (model X.prog X.w) X.A (isTrue e X.env whole) (TP X Dk σ Q) X.xe s
theorem PW.pt{X:Cx}{e:Expr}{t:TT}(h:PW X e t):PT X e t:=h _
def PA(X:Cx)(es:List Expr)(t:TA):Prop :=
 ∀(pos:Pos)(Dk:List (Addr×Obj))(s:Shared)(σ:St)(H:Hp)(Q:List V->Hp->Prop),Inv X Dk σ H s->t σ H Q->wpAny (model X.prog X.w) X.A (spliced (backTo pos (starEach es X.env))) (AP X Dk σ Q) X.xe s
def PS(X:Cx)(st:Stmt)(t:TS):Prop :=
 ∀(Dk:List (Addr×Obj))(s:Shared)(σ:St)(H:Hp)(D:B6),Inv X Dk σ H s->t D σ H->wpAny (model X.prog X.w) X.A (exec st X.env) (SP X Dk D) X.xe s
def PSs(X:Cx)(st:List Stmt)(t:TS):Prop :=
 ∀(Dk:List (Addr×Obj))(s:Shared)(σ:St)(H:Hp)(D:B6),Inv X Dk σ H s->t D σ H->wpAny (model X.prog X.w) X.A (execs st X.env) (SP X Dk D) X.xe s
theorem thn{α:Type}{t:Sem α}{Q Q':α->Shared->Prop}{A:Around}{E:Value->Shared->Prop}{s:Shared}(h:wpAny M A t Q E s)(hQ:∀ a s,Q a s->Q' a s):wpAny M A t Q' E s:=wpAny_mono h hQ λ _ _ x=>x
section
variable{X:Cx}
theorem bin{a b:Expr}{ta tb:TE}(ha:PE X a ta)(hb:PE X b tb){Dk:List (Addr×Obj)}{s:Shared}{σ:St}{H:Hp}{R:V->V->Hp->Prop}(I:Inv X Dk σ H s)(h:ta σ H λ x H1=>tb σ H1 λ y H2=>R x y H2){α:Type}{Q:α->Shared->Prop}{f:Value->Value->Sem α}(hf:∀ v u s2 x y H2,Inv X Dk σ H2 s2->RelV x v->RelV y u->R x y H2->wpAny (model X.prog X.w) X.A (f v u) Q X.xe s2) :
   wpAny (model X.prog X.w) X.A (eval a X.env) (λ v s₁=>wpAny (model X.prog X.w) X.A (eval b X.env) (λ u s₂=>wpAny (model X.prog X.w) X.A (f v u) Q X.xe s₂) X.xe s₁) X.xe s:=by
 refine thn (ha Dk s σ H _ I h) λ v s1 ⟨x,H1,I1,r1,q1⟩=>?_
 refine thn (hb Dk s1 σ H1 _ I1 q1) λ u s2 ⟨y,H2,I2,r2,q2⟩=>?_
 exact hf v u s2 x y H2 I2 r1 r2 q2
def El(i:Nat):TE:=λ σ H Q=>∃ v,σ[i]? = some (some v)/\Q v H
def tC(v:V):TE:=λ _ H Q=>Q v H
theorem qp0{x:Str}{pos:Pos}(hN:X.N[i]? = some x)(hv:Vis X.env.scope x)(hd:(x == ("__debug__" : Str))=false:=by decide)(hcd:(x == ("__classdict__" : Str))=false:=by decide):PE X (.Name x pos) (El i):=by
 intro Dk s σ H Q I h;obtain⟨v,e,h⟩:=h;obtain⟨m,hn,hl⟩:=I.loc;obtain⟨u,r,l⟩:=hl i x v hN e hv;have fin:EP X Dk σ Q u s:=⟨v,H,I,r,h⟩
 rcases l with⟨hk,hm⟩ | ⟨hk,c,hc,hcell⟩
 . exact wpAny_Name (wpAny_loadName_local I.ok.kind hk hn hm fin) hd
 rcases hk with hk | hk
 . exact wpAny_Name (wpAny_loadName_cell I.ok.kind hk hc hcell fin) hd
 exact wpAny_Name (wpAny_loadName_free I.ok.kind hk hc hcell fin hcd) hd
theorem qA8{i j pos}:PE X (.Constant (.int i) j pos) (tC (.int i)):=λ _ _ _ H _ I h=>wpAny_Constant_int ⟨.int i,H,I.tok _,⟨_,rfl⟩,h⟩
theorem pe_bl{b j pos}:PE X (.Constant (.bool b) j pos) (tC (.bl b)):=λ _ _ _ H _ I h=>Constant_bool ⟨.bl b,H,I,rfl,h⟩
theorem qav8{j pos}:PE X (.Constant .none j pos) (tC .non):=λ _ _ _ H _ I h=>Constant_none ⟨.non,H,I,rfl,h⟩
theorem qam9{x j pos}:PE X (.Constant (.str x) j pos) (tC (.str x)):=λ _ _ _ H _ I h=>Calls.Constant_str ⟨.str x,H,I.tok _,⟨_,rfl⟩,h⟩
def Gl(X:Cx)(x:Str):Prop:=X.env.kindOf x=some .globalImplicit
theorem qx0{E:Value->Shared->Prop}{Dk:List (Addr×Obj)}{s:Shared}{σ:St}{H:Hp}{x:Str}{u:Value}{pos:Pos}{Q:Value->Shared->Prop}(I:Inv X Dk σ H s)(hg:Gl X x)(hm:X.mg x=some u)(h:Q u s)(hd:(x == ("__debug__" : Str))=false:=by decide):wpAny (model X.prog X.w) X.A (eval (.Name x pos) X.env) Q E s :=
 Calls.Name_function_global I.ok.kind hg (Calls.loadGlobal_global (by rw[I.ok.glob];exact I.mod.glob.keeps I.bk) hm h) hd
theorem qJ7{E:Value->Shared->Prop}{Dk:List (Addr×Obj)}{s:Shared}{σ:St}{H:Hp}{x:Str}{u:Value}{pos:Pos}{Q:Value->Shared->Prop}(I:Inv X Dk σ H s)(hg:Gl X x)(hm:X.mg x=none)(hv:bootBuiltins x=some u)(h:Q u s)(hn:x ≠ "__name__" := by decide)(hd:(x == ("__debug__" : Str))=false:=by decide):wpAny (model X.prog X.w) X.A (eval (.Name x pos) X.env) Q E s:=by
 obtain⟨mb,h1,h2⟩:=I.mod.blt;exact Calls.Name_function_global I.ok.kind hg (Calls.loadGlobal_builtin (by rw[I.ok.glob];exact I.mod.glob.keeps I.bk) hm (by rw[I.ok.blt];exact h1.keeps I.bk) ((h2 x hn).trans hv) h) hd
theorem qN2{x:Str}{v:V}{u:Value}{pos:Pos}(hg:Gl X x)(hm:X.mg x=some u)(r:RelV v u)(hd:(x == ("__debug__" : Str))=false:=by decide):PE X (.Name x pos) (tC v) :=
 λ _ _ _ H _ I h=>qx0 I hg hm ⟨v,H,I,r,h⟩ hd
theorem qan8{x:Str}{v:V}{u:Value}{pos:Pos}(hg:Gl X x)(hm:X.mg x=none)(hv:bootBuiltins x=some u)(r:RelV v u)(hn:x ≠ "__name__" := by decide)(hd:(x == ("__debug__" : Str))=false:=by decide):PE X (.Name x pos) (tC v) :=
 λ _ _ _ H _ I h=>qJ7 I hg hm hv ⟨v,H,I,r,h⟩ hn hd
variable{a b:Expr}{ta tb:TE}{pos:Pos}
def tB(t:TE):TT:=λ σ H Q=>t σ H λ x H1=>∃ c,x=.bl c/\Q c H1
theorem qad3{e:Expr}{t:TE}(h:PE X e t)(he:∀ whole,isTrue e X.env whole=(do let v <- whole;standAt e.pos;holding [v] (truthy v)):=by intro _;rfl):PT X e (tB t):=by
 intro Dk s σ H Q I hw;refine isTrue_plain (thn (h Dk s σ H _ I hw) λ v s1 ⟨x,H1,I1,r1,q1⟩=>?_) (he _);obtain⟨d,rfl,q⟩:=q1;cases r1;exact wpAny_truthy_bool ⟨H1,I1,q⟩
variable{tA tB':TT}{rest:List Expr}
def tAnd(t u:TT):TT:=λ σ H Q=>t σ H λ c H1=>if c=true then u σ H1 Q else Q false H1
def tOr(t u:TT):TT:=λ σ H Q=>t σ H λ c H1=>if c=true then Q true H1 else u σ H1 Q
def tNot(t:TT):TT:=λ σ H Q=>t σ H λ c H1=>Q (!c) H1
theorem qam1(ha:PT X a tA):PW X (.BoolOp .And [a] pos) tA:=by
 intro wh Dk s σ H Q I h;refine isTrue_and (thn (ha Dk s σ H Q I h) λ c s1 e=>?_);cases c with
 | true=>exact isTrue_and_nil e
 | false=>exact e
theorem qau7(ha:PT X a tA):PW X (.BoolOp .Or [a] pos) tA:=by
 intro wh Dk s σ H Q I h;refine isTrue_or (thn (ha Dk s σ H Q I h) λ c s1 e=>?_);cases c with
 | false=>exact isTrue_or_nil e
 | true=>exact e
theorem qau8(ha:PT X a tA)(hb:PW X (.BoolOp .And (b::rest) pos) tB'):PW X (.BoolOp .And (a::b::rest) pos) (tAnd tA tB'):=by
 intro wh Dk s σ H Q I h;refine isTrue_and (thn (ha Dk s σ H _ I h) λ c s1 ⟨H1,I1,q1⟩=>?_);cases c with
 | true=>exact hb wh Dk s1 σ H1 Q I1 q1
 | false=>exact⟨H1,I1,q1⟩
theorem pw_or(ha:PT X a tA)(hb:PW X (.BoolOp .Or (b::rest) pos) tB'):PW X (.BoolOp .Or (a::b::rest) pos) (tOr tA tB'):=by
 intro wh Dk s σ H Q I h;refine isTrue_or (thn (ha Dk s σ H _ I h) λ c s1 ⟨H1,I1,q1⟩=>?_);cases c with
 | true=>exact⟨H1,I1,q1⟩
 | false=>exact hb wh Dk s1 σ H1 Q I1 q1
theorem qau9(ha:PT X a tA):PT X (.UnaryOp .Not a pos) (tNot tA):=by
 intro Dk s σ H Q I h;exact isTrue_not (ha Dk s σ H (λ c H1=>Q (!c) H1) I h)
def tAndV(ta tb:TE):TE:=λ σ H Q=>ta σ H λ x H1=>∃ c,x=.bl c/\if c=true then tb σ H1 Q else Q (.bl false) H1
def tOrV(ta tb:TE):TE:=λ σ H Q=>ta σ H λ x H1=>∃ c,x=.bl c/\if c=true then Q (.bl true) H1 else tb σ H1 Q
def tNotV(ta:TE):TE:=λ σ H Q=>ta σ H λ x H1=>∃ c,x=.bl c/\Q (.bl (!c)) H1
theorem qan1{op}{t:TE}(h:PE X a t):PE X (.BoolOp op [a] pos) t:=λ Dk s σ H Q I hw=>BoolOp_one (h Dk s σ H Q I hw)
theorem qan9(ha:PE X a ta)(hb:PE X (.BoolOp .And (b::rest) pos) tb):PE X (.BoolOp .And (a::b::rest) pos) (tAndV ta tb):=by
 intro Dk s σ H Q I h;refine BoolOp_and (thn (ha Dk s σ H _ I h) λ v s1 ⟨x,H1,I1,r1,q1⟩=>?_);obtain⟨c,rfl,q1⟩:=q1;cases r1;refine wpAny_truthy_bool ?_;cases c with
 | true=>exact hb Dk s1 σ H1 Q I1 q1
 | false=>exact⟨.bl false,H1,I1,rfl,q1⟩
theorem pe_or(ha:PE X a ta)(hb:PE X (.BoolOp .Or (b::rest) pos) tb):PE X (.BoolOp .Or (a::b::rest) pos) (tOrV ta tb):=by
 intro Dk s σ H Q I h;refine BoolOp_or (thn (ha Dk s σ H _ I h) λ v s1 ⟨x,H1,I1,r1,q1⟩=>?_);obtain⟨c,rfl,q1⟩:=q1;cases r1;refine wpAny_truthy_bool ?_;cases c with
 | false=>exact hb Dk s1 σ H1 Q I1 q1
 | true=>exact⟨.bl true,H1,I1,rfl,q1⟩
theorem qav7(ha:PE X a ta):PE X (.UnaryOp .Not a pos) (tNotV ta):=by
 intro Dk s σ H Q I h;refine UnaryOp_ (thn (ha Dk s σ H _ I h) λ v s1 ⟨x,H1,I1,r1,q1⟩=>?_);obtain⟨c,rfl,q1⟩:=q1;cases r1;exact not_of (wpAny_truthy_bool ⟨.bl (!c),H1,I1,rfl,q1⟩)
end
def SqL(K:PySem.W.Frag)(H:Hp)(a:Addr)(xs:List V):Prop :=
 Rd H a (.lst xs) ∨
   ∃(o:Obj)(its:Array Value)(n:Nat),K.lookup a=some o/\o.cls=.type "list" /\ o.dict=none/\o.data=.seq its n/\its.size<=sizeLine/\Vals xs its.toList
def SqT(K:PySem.W.Frag)(H:Hp)(a:Addr)(xs:List V):Prop :=
 Rd H a (.tup xs) ∨
   ∃(o:Obj)(its:Array Value)(n:Nat),K.lookup a=some o/\o.cls=.type "tuple" /\ o.data=.seq its n/\its.size<=sizeLine/\Vals xs its.toList
def absV:Value->Option V
 | .none=>some .non
 | .bool b=>some (.bl b)
 | .int i _=>some (.int i)
 | .str x _=>some (.str x)
 | .bytes b _=>some (.byt b)
 | .float b _=>some (.flt b)
 | .ref a=>some (.ref a)
 | .type n=>some (.ty n)
 | _=>none
theorem RelV.abs{x:V}{u:Value}(r:RelV x u):absV u=some x:=by
 cases x with
 | non=>cases r;rfl
 | bl _=>cases r;rfl
 | int _=>obtain⟨t,rfl⟩:=r;rfl
 | str _=>obtain⟨t,rfl⟩:=r;rfl
 | byt _=>obtain⟨t,rfl⟩:=r;rfl
 | flt _=>obtain⟨t,rfl⟩:=r;rfl
 | ref _=>cases r;rfl
 | ty _=>cases r;rfl
theorem RelV.inj{x y:V}{u:Value}(r:RelV x u)(q:RelV y u):x=y:=Option.some.inj (r.abs.symm.trans q.abs)
theorem Vals.inj:∀{xs ys:List V}{us:List Value},Vals xs us->Vals ys us->xs=ys
 | _,_,_,.nil,.nil=>rfl
 | _,_,_,.cons r t,.cons r' t'=>by rw[r.inj r',Vals.inj t t']
section
variable{X:Cx}{Dk:List (Addr×Obj)}{σ:St}{H:Hp}{s:Shared}{a:Addr}{xs ys:List V}
theorem SqL.of{K:PySem.W.Frag}(h:H a=some (.lst xs)):SqL K H a xs:=.inl (.inl h)
theorem Inv.list(I:Inv X Dk σ H s)(h:SqL X.K H a xs):∃ its:List Value,Vals xs its/\PlainL s.heap a its.toArray/\xs.length<=sizeLine:=by
 rcases h with h | ⟨o,its,n,hk,hc,hd,hs,hz,r⟩
 . obtain⟨z,its,n,r,e⟩:=h.ok I.hok
   exact⟨its,r,⟨_,n,e,rfl,rfl,rfl⟩,z⟩
 refine⟨its.toList,r,⟨o,n,I.kIn a o hk,hc,hd,by simpa using hs⟩,?_⟩;have e:=r.length;simp only[Array.length_toList] at e;lia
theorem Inv.tuple(I:Inv X Dk σ H s)(h:SqT X.K H a xs):∃ its:List Value,Vals xs its/\IsTup s.heap a its.toArray/\xs.length<=sizeLine:=by
 rcases h with h | ⟨o,its,n,hk,hc,hs,hz,r⟩
 . obtain⟨z,its,r,p⟩:=h.ok I.hok
   exact⟨its,r,p,z⟩
 refine⟨its.toList,r,⟨o,I.kIn a o hk,hc,n,by simpa using hs⟩,?_⟩;have e:=r.length;simp only[Array.length_toList] at e;lia
theorem Inv.list_inj(I:Inv X Dk σ H s)(h:SqL X.K H a xs)(h':SqL X.K H a ys):xs=ys:=by
 obtain⟨its,r,⟨o,n,e,_,_,d⟩,_⟩:=I.list h;obtain⟨its',r',⟨o',n',e',_,_,d'⟩,_⟩:=I.list h';rw[e] at e';cases e';rw[d] at d';injection d' with d1 _
 have:its=its':=by simpa using congrArg Array.toList d1
 subst this;exact r.inj r'
end
abbrev Cx.wish(X:Cx)(E:Value->Shared->Prop):Cx:={ X with xe:=E }
abbrev Cx.nox(X:Cx):Cx:=X.wish λ _ _=>False
theorem Cx.Ok.wish{X:Cx}(ok:X.Ok)(E:Value->Shared->Prop):(X.wish E).Ok :=
 ⟨ok.mod,ok.kind,ok.glob,ok.blt,ok.above,ok.inj,ok.has,ok.cab,ok.hd,ok.frames,ok.stk,ok.exf,ok.bs,ok.bsz,ok.noex,ok.exfs,ok.funs,ok.frf⟩
theorem Cx.Ok.unwish{X:Cx}{E:Value->Shared->Prop}(ok:(X.wish E).Ok):X.Ok :=
 ⟨ok.mod,ok.kind,ok.glob,ok.blt,ok.above,ok.inj,ok.has,ok.cab,ok.hd,ok.frames,ok.stk,ok.exf,ok.bs,ok.bsz,ok.noex,ok.exfs,ok.funs,ok.frf⟩
section
variable{X:Cx}{Dk:List (Addr×Obj)}{σ:St}{H:Hp}{s:Shared}{E:Value->Shared->Prop}
theorem Inv.wish(I:Inv X Dk σ H s)(E:Value->Shared->Prop):Inv (X.wish E) Dk σ H s:=⟨I.ok.wish E,I.os,I.bare,I.base,I.loc,I.cell,I.free,I.freeC,I.pin,I.hok,I.len⟩
theorem Inv.unwish(I:Inv (X.wish E) Dk σ H s):Inv X Dk σ H s:=⟨I.ok.unwish,I.os,I.bare,I.base,I.loc,I.cell,I.free,I.freeC,I.pin,I.hok,I.len⟩
theorem SP.unwish{D:B6}{f:Flow}{s':Shared}(h:SP (X.wish E) Dk D f s'):SP X Dk D f s':=by
 cases f with
 | next=>obtain⟨σ',H',I,q⟩:=h;exact⟨σ',H',I.unwish,q⟩
 | brk=>obtain⟨σ',H',I,q⟩:=h;exact⟨σ',H',I.unwish,q⟩
 | cont=>obtain⟨σ',H',I,q⟩:=h;exact⟨σ',H',I.unwish,q⟩
 | ret u=>obtain⟨v,σ',H',I,r,q⟩:=h;exact⟨v,σ',H',I.unwish,r,q⟩
theorem PSs.nox{st:List Stmt}{t:TS}(h:PSs X.nox st t):PSs X st t:=λ Dk s σ H D I hw =>
 wpAny_mono (h Dk s σ H D (I.wish _) hw) (λ _ _ q=>q.unwish) λ _ _ z=>False.elim z
end
section
variable{X:Cx}{st:Stmt}{rest:List Stmt}{t u:TS}{e:Expr}{te:TE}{pos:Pos}
def Gw:TS:=λ D σ H=>D.nx σ H
def tSeq(t u:TS):TS:=λ D σ H=>t { D with nx:=u D } σ H
theorem qY2:PSs X [] Gw:=λ _ _ σ H _ I h=>wpAny_execs_nil ⟨σ,H,I,h⟩
theorem qM8(h1:PS X st t)(h2:PSs X rest u):PSs X (st::rest) (tSeq t u):=by
 intro Dk s σ H D I h;refine wpAny_execs_cons (thn (h1 Dk s σ H { D with nx:=u D } I h) λ f s1 q=>?_);cases f with
 | next =>
   obtain⟨σ',H',I',q⟩:=q;exact h2 Dk s1 σ' H' D I' q
 | ret v=>exact q
 | brk=>exact q
 | cont=>exact q
theorem qw7(h1:PS X st t):PSs X [st] t:=by
 intro Dk s σ H D I h;refine wpAny_execs_cons (thn (h1 Dk s σ H D I h) λ f s1 q=>?_);cases f with
 | next=>exact wpAny_execs_nil q
 | ret v=>exact q
 | brk=>exact q
 | cont=>exact q
theorem Inv.quiet{Dk:List (Addr×Obj)}{σ:St}{H:Hp}{s:Shared}(I:Inv X Dk σ H s):interactive X.env=false:=by simp[interactive,I.ok.kind]
def tDrop(te:TE):TS:=λ D σ H=>te σ H λ _ H1=>D.nx σ H1
theorem qam5(he:PE X e te)(hs:swapsWith e none pos.line X.env=pure false:=by rfl):PS X (.Expr e pos) (tDrop te):=by
 intro Dk s σ H D I h;exact wpAny_Expr_any (thn (he Dk s σ H _ I h) λ v s1 ⟨x,H1,I1,r1,q1⟩=>⟨σ,H1,I1,q1⟩) I.quiet hs
def tRet(te:TE):TS:=λ D σ H=>te σ H D.rt
theorem qad5(he:PE X e te):PS X (.Return (some e) pos) (tRet te):=by
 intro Dk s σ H D I h;exact wpAny_Return_some (thn (he Dk s σ H _ I h) λ v s1 ⟨x,H1,I1,r1,q1⟩=>⟨x,σ,H1,I1,r1,q1⟩)
def tIfS(c:TT)(t u:TS):TS:=λ D σ H=>c σ H λ b H1=>if b=true then t D σ H1 else u D σ H1
theorem ps_if{c:Expr}{a b:List Stmt}{tc:TT}(hc:PT X c tc)(ha:PSs X a t)(hb:PSs X b u):PS X (.If c a b pos) (tIfS tc t u):=by
 intro Dk s σ H D I h;refine wpAny_If (thn (hc Dk s σ H _ I h) λ d s1 ⟨H1,I1,q1⟩=>?_);cases d with
 | true=>exact ha Dk s1 σ H1 D I1 q1
 | false=>exact hb Dk s1 σ H1 D I1 q1
end
abbrev TG:=V->St->Hp->(St->Hp->Prop)->Prop
def PG(X:Cx)(target:Expr)(t:TG):Prop :=
 ∀(Dk:List (Addr×Obj))(s:Shared)(σ:St)(H:Hp)(v:V)(u:Value)(Q:St->Hp->Prop),Inv X Dk σ H s->RelV v u->t v σ H Q ->
   wpAny (model X.prog X.w) X.A (assign target X.env u) (λ _ s'=>∃ σ' H',Inv X Dk σ' H' s'/\Q σ' H') X.xe s
abbrev Gx:=V->V->V->Hp->(Hp->Prop)->Prop
def PSet(X:Cx)(t:Gx):Prop :=
 ∀(Dk:List (Addr×Obj))(s:Shared)(σ:St)(H:Hp)(o i v:V)(ov iv u:Value)(Q:Hp->Prop),Inv X Dk σ H s->RelV o ov->RelV i iv->RelV v u->t o i v H Q ->
   wpAny (model X.prog X.w) X.A (setItem ov iv u) (λ _ s'=>∃ H',Inv X Dk σ H' s'/\Q H') X.xe s
abbrev TIp:=V->V->Hp->VK->Prop
def PIp(X:Cx)(op:Operator)(t:TIp):Prop :=
 ∀(Dk:List (Addr×Obj))(s:Shared)(σ:St)(H:Hp)(x y:V)(v u:Value)(Q:VK),Inv X Dk σ H s->RelV x v->RelV y u->t x y H Q ->
   wpAny (model X.prog X.w) X.A (inplaceOp op v u) (EP X Dk σ Q) X.xe s
section
variable{X:Cx}{pos:Pos}
def Ec(i:Nat):TG:=λ v σ H Q=>Q (σ.set i (some v)) H
theorem qY6{x:Str}(hN:X.N.Nodup)(hi:X.N[i]? = some x)(hx:Loc X.env.scope x)(hf:X.fn x=true∨X.env.scope.names.lookup x=some .local:=by first | exact .inl rfl | exact .inr rfl | assumption):PG X (.Name x pos) (Ec i):=by
 intro Dk s σ H v u Q I r h;exact wpAny_assign_Name (qt2 I hN hi hx r (λ s' I'=>⟨_,H,I',h⟩) hf)
def gSub(to ti:TE)(t:Gx):TG:=λ v σ H Q=>to σ H λ o H1=>ti σ H1 λ i H2=>t o i v H2 λ H3=>Q σ H3
theorem qav4{o i:Expr}{to ti:TE}{t:Gx}(ho:PE X o to)(hi:PE X i ti)(hs:PSet X t)(ha:∀ v,assign (.Subscript o i pos) X.env v=(do
     let ov <- holding [v] (eval o X.env)
     let iv <- holding [v,ov] (eval i X.env)
     standAt pos
     holding [v,ov,iv] (setItem ov iv v)
     release [v,ov,iv] []):=by intro _;rfl):PG X (.Subscript o i pos) (gSub to ti t):=by
 intro Dk s σ H v u Q I r h;rw[ha];refine wpAny_bind (wpAny_holding (thn (ho Dk s σ H _ I h) λ ov s1 ⟨x,H1,I1,r1,q1⟩=>?_));refine wpAny_bind (wpAny_holding (thn (hi Dk s1 σ H1 _ I1 q1) λ iv s2 ⟨y,H2,I2,r2,q2⟩=>?_));refine wpAny_bind (wpAny_standAt (wpAny_bind (wpAny_holding (thn (hs Dk s2 σ H2 x y v ov iv u _ I2 r1 r2 r q2) λ _ s3 ⟨H3,I3,q3⟩=>?_))));exact wpAny_release ⟨σ,H3,I3,q3⟩
def Gj(te:TE)(g:TG):TS:=λ D σ H=>te σ H λ x H1=>g x σ H1 D.nx
theorem qav2{tg e:Expr}{te:TE}{g:TG}(he:PE X e te)(hg:PG X tg g)(hs:swapsWithSole [tg] e pos.line X.env=pure false:=by rfl)(hw:swappedStores [tg] e X.env=pure none:=by rfl)(h1:(assignEach [tg] X.env).map (·.2)=[assign tg X.env]:=by rfl):PS X (.Assign [tg] e pos) (Gj te g):=by
 intro Dk s σ H D I h;refine wpAny_Assign_stores (thn (he Dk s σ H _ I h) λ v s1 ⟨x,H1,I1,r1,q1⟩=>?_) hs hw;rw[h1];exact thn (hg Dk s1 σ H1 x v _ I1 r1 q1) λ _ s2 q=>q
theorem qam3{x:Str}{e:Expr}{te:TE}{pos':Pos}(hN:X.N.Nodup)(hi:X.N[i]? = some x)(hx:Loc X.env.scope x)(he:PE X e te)(hs:swapsWith e (some (.Name x pos')) pos.line X.env=pure false:=by rfl)(hf:X.fn x=true∨X.env.scope.names.lookup x=some .local:=by first | exact .inl rfl | exact .inr rfl | assumption) :
   PS X (.Assign [.Name x pos'] e pos) (Gj te (Ec i)):=by
 intro Dk s σ H D I h;refine wpAny_Assign_Name (thn (he Dk s σ H _ I h) λ v s1 ⟨y,H1,I1,r1,q1⟩=>?_) hs;exact qt2 I1 hN hi hx r1 (λ s2 I2=>⟨_,H1,I2,q1⟩) hf
def tAugS(to ti te:TE)(tget:V->V->Hp->VK->Prop)(tip:TIp)(tset:Gx):TS:=λ D σ H=>to σ H λ o H1=>ti σ H1 λ i H2=>tget o i H2 λ x H3=>te σ H3 λ y H4=>tip x y H4 λ z H5=>tset o i z H5 λ H6=>D.nx σ H6
def PGet(X:Cx)(t:V->V->Hp->VK->Prop):Prop :=
 ∀(Dk:List (Addr×Obj))(s:Shared)(σ:St)(H:Hp)(o i:V)(ov iv:Value)(Q:VK),Inv X Dk σ H s->RelV o ov->RelV i iv->t o i H Q ->
   wpAny (model X.prog X.w) X.A (getItem ov iv) (EP X Dk σ Q) X.xe s
theorem qam7{o i e:Expr}{to ti te:TE}{tget:V->V->Hp->VK->Prop}{tip:TIp}{tset:Gx}{op:Operator}{tpos:Pos}(ho:PE X o to)(hi:PE X i ti)(hg:PGet X tget)(he:PE X e te)(hp:PIp X op tip)(hs:PSet X tset)(ha:∀ ov iv new,augStore i ov iv new=(do holding [new,ov,iv] (setItem ov iv new);release [new,ov,iv] [];pure .next):=by intros;rfl):PS X (.AugAssign (.Subscript o i tpos) op e pos) (tAugS to ti te tget tip tset):=by
 intro Dk s σ H D I h;refine wpAny_AugAssign_SubscriptAny (thn (ho Dk s σ H _ I h) λ ov s1 ⟨x1,H1,I1,r1,q1⟩=>?_) ha;refine thn (hi Dk s1 σ H1 _ I1 q1) λ iv s2 ⟨x2,H2,I2,r2,q2⟩=>?_
 refine thn (hg Dk s2 σ H2 x1 x2 ov iv _ I2 r1 r2 q2) λ old s3 ⟨x3,H3,I3,r3,q3⟩=>?_
 refine thn (he Dk s3 σ H3 _ I3 q3) λ v s4 ⟨x4,H4,I4,r4,q4⟩=>?_
 refine thn (hp Dk s4 σ H4 x3 x4 old v _ I4 r3 r4 q4) λ new s5 ⟨x5,H5,I5,r5,q5⟩=>?_
 exact thn (hs Dk s5 σ H5 x1 x2 x5 ov iv new _ I5 r1 r2 r5 q5) λ _ s6 ⟨H6,I6,q6⟩=>⟨σ,H6,I6,q6⟩
def ipI(f:Int->Int->Int):TIp:=λ x y H Q=>∃ i j,x=.int i/\y=.int j/\Q (.int (f i j)) H
theorem qaz0:PIp X .Add (ipI λ i j=>i+j):=by
 intro Dk s σ H x y v u Q I r1 r2 h;obtain⟨i,j,e1,e2,q⟩:=h;subst e1;subst e2;obtain⟨t,rfl⟩:=r1;obtain⟨t',rfl⟩:=r2;exact iadd_int ⟨.int _,H,I.tok _,⟨_,rfl⟩,q⟩
end
section
variable{X:Cx}{pos:Pos}
def qat9(c:TT)(tb:TS):TS:=λ D σ H=>∃ W:Nat->St->Hp->Prop,(∃ m,W m σ H)/\∀ m σ H,W m σ H ->
 c σ H λ b H1=>if b=true then ∃ N:St->Hp->Prop,(∀ σ' H',N σ' H'->∃ m',m' < m/\W m' σ' H')/\tb { D with nx:=N,ct:=N,bk:=D.nx } σ H1 else D.nx σ H1
theorem qad4{c:Expr}{tc:TT}{tb:TS}(hp:PassesOwn (model X.prog X.w) X.A X.env X.xe)(hc:PT X c tc)(hb:PSs X body tb):PS X (.While c body [] pos) (qat9 tc tb):=by
 intro Dk s σ H D I h;obtain⟨W,⟨m0,w0⟩,turn⟩:=h;refine wpAny_While (codeAny_whileLoop (λ n s'=>∃ σ' H',Inv X Dk σ' H' s'/\W n σ' H') ?_ m0 ⟨σ,H,I,w0⟩);rintro n s1 ⟨σ1,H1,I1,w1⟩;refine wpAny_passesOwn hp (thn (hc Dk s1 σ1 H1 _ I1 (turn n σ1 H1 w1)) λ b s2 ⟨H2,I2,q2⟩=>?_);cases b with
 | true =>
   obtain⟨N,hN,q2⟩:=q2;rw[if_pos rfl];refine wpAny_passesOwn hp (thn (hb Dk s2 σ1 H2 _ I2 q2) λ f s3 q3=>?_);cases f with
   | next =>
     obtain⟨σ3,H3,I3,n3⟩:=q3;obtain⟨m',hm,w3⟩:=hN σ3 H3 n3;exact⟨m',hm,σ3,H3,I3,w3⟩
   | cont =>
     obtain⟨σ3,H3,I3,n3⟩:=q3;obtain⟨m',hm,w3⟩:=hN σ3 H3 n3;exact⟨m',hm,σ3,H3,I3,w3⟩
   | brk=>exact q3
   | ret v=>exact q3
 | false =>
   rw[if_neg zAe];exact wpAny_execs_nil ⟨σ1,H2,I2,q2⟩
end
structure It where
 go:Nat->Hp->Prop
 yld:Nat->Hp->V->Hp->Prop
 stop:Nat->Hp->Prop
def Fa(X:Cx)(Dk:List (Addr×Obj))(H:Hp)(b:Addr):Prop :=
 H b=none/\b≠X.env.locals/\b∉X.fs/\(b∈X.ex∨X.s₀.heap.objs.size<=b)/\(∀ x c,X.env.cells.lookup x=some c->c≠b)/\∀ p∈X.pn++Dk,p.1≠b
theorem Inv.fpOk{X:Cx}{Dk:List (Addr×Obj)}{σ:St}{H H':Hp}{s:Shared}{b:Addr}(I:Inv X Dk σ H s)(hb:s.heap.objs.size<=b)(hn:H' b=none):Fa X Dk H' b:=by
 refine⟨hn,Nat.ne_of_gt (zAb I.lt hb),I.nofs hb,.inr (zAm I.sz hb),λ x c e z=>?_,λ p hp z=>?_⟩
 . obtain⟨v,q⟩:=I.cell x c e
   exact absurd (zAb q.lt (by rw[z];exact hb)) (Nat.lt_irrefl _)
 exact absurd (zAb (zA6 (I.pin p hp).1) (by rw[z];exact hb)) (Nat.lt_irrefl _)
structure Turn(P:Program)(w:World)(K:PySem.W.Frag)(tg:Expr)(J:It)(fp:List Addr)(it:Addr)(tn:Nat->Heap->Prop):Prop where
 mem:it∈fp
 obj:∀ i h,tn i h->∀ b∈fp,∃ o,h.get? b=some o/\∀ v,o.data≠.cell v
 keep:∀ i h h',tn i h->(∀ b∈fp,∀ o,h.get? b=some o->h'.get? b=some o)->tn i h'
 item:∀(X:Cx),X.prog=P->X.w=w->X.K=K->X.calm=true->∀(i:Nat)(Dk:List (Addr×Obj))(s:Shared)(σ:St)(H:Hp)(E:Value->Shared->Prop),Inv X Dk σ H s->(∀ b∈fp,Fa X Dk H b)->tn i s.heap->J.go i H ->
   wpAny (model P w) X.A (pyNext (.ref it)) (λ r s1=>∃ u,r=some u /\
     wpAny (model P w) X.A (letOwnedTupleGo tg (.ref it) u) (λ _ s2=>∃ x H',Inv X Dk σ H' s2/\RelV x u/\J.yld i H x H'/\tn (i+1) s2.heap/\∀ b∈fp,H' b=none) E s1) E s
 done:∀(X:Cx),X.prog=P->X.w=w->X.K=K->X.calm=true->∀(i:Nat)(Dk:List (Addr×Obj))(s:Shared)(σ:St)(H:Hp)(E:Value->Shared->Prop),Inv X Dk σ H s->(∀ b∈fp,Fa X Dk H b)->tn i s.heap->J.stop i H ->
   wpAny (model P w) X.A (pyNext (.ref it)) (λ r s1=>r=none/\Inv X Dk σ H s1) E s
 self:∀(A:Around)(i:Nat)(s:Shared)(Q:Value->Shared->Prop)(E:Value->Shared->Prop),tn i s.heap->Q (.ref it) s->wpAny (model P w) A (pyIter (.ref it)) Q E s
abbrev TI:=St->Hp->(It->Hp->Prop)->Prop
def PIE(X:Cx)(Dk:List (Addr×Obj))(σ:St)(tg:Expr)(R:It->Hp->Prop)(itv:Value)(s2:Shared):Prop :=
 ∃(it:Addr)(fp:List Addr)(tn:Nat->Heap->Prop)(J:It)(H':Hp),itv=.ref it/\Inv X Dk σ H' s2/\Turn X.prog X.w X.K tg J fp it tn/\tn 0 s2.heap/\(∀ b∈fp,Fa X Dk H' b)/\R J H'
def PI(X:Cx)(tg iter:Expr)(wi:TI):Prop :=
 ∀(Dk:List (Addr×Obj))(s:Shared)(σ:St)(H:Hp)(R:It->Hp->Prop),Inv X Dk σ H s->wi σ H R ->
   wpAny (model X.prog X.w) X.A (eval iter X.env) (λ v s1=>wpAny (model X.prog X.w) X.A (pyIter v) (PIE X Dk σ tg R) X.xe s1) X.xe s
theorem go_of{A:Around}{E:Value->Shared->Prop}{s:Shared}{tg:Expr}{it:Addr}{u:Value}{o:Obj}{n:String}{vs:Array Value}{Q:Unit->Shared->Prop}(ho:s.heap.get? it=some o)(hc:o.cls=.type n)(hd:o.data=.fields vs)(hn:["enumerate", "zip", "dict_itemiterator", "dict_reverseitemiterator", "odict_iterator", "itertools.zip_longest", "itertools.pairwise"].contains n=false)(hQ:Q () s):wpAny M A (letOwnedTupleGo tg (.ref it) u) Q E s:=by
 unfold letOwnedTupleGo;cases tg<;>first
   | exact wpAny_pure hQ
   | (cases u<;>first
       | exact wpAny_pure hQ
       | (refine wpAny_bind (wpAny_load ho ?_)
          rw[hc,hd];show wpAny M A (if (["enumerate", "zip", "dict_itemiterator", "dict_reverseitemiterator", "odict_iterator", "itertools.zip_longest", "itertools.pairwise"].contains n&&vs[0]? == some (rawInt _))=true then _ else _) Q E s;rw[if_neg (by intro h;rw[hn,zBp] at h;cases h)];exact wpAny_pure hQ))
def Itl(K:PySem.W.Frag)(a:Addr):It :=
 ⟨λ i H=>∃ xs x,SqL K H a xs/\xs[i]? = some x,λ i H x H'=>H'=H/\∀ xs,SqL K H a xs->xs[i]? = some x,λ i H=>∃ xs,SqL K H a xs/\xs.length<=i⟩
def Itr(lo:Int)(n:Nat):It:=⟨λ i _=>i < n,λ i H x H'=>H'=H/\x=.int (lo+i),λ i _=>n<=i⟩
theorem qS1{P:Program}{w:World}{K:PySem.W.Frag}{tg:Expr}(a it:Addr):Turn P w K tg (Itl K a) [it] it (λ i h=>h.IsListIter it a i) where
 mem:=by simp
 obj:=λ i h st b hb=>by
   have e:b=it:=by simpa using hb
   subst e;obtain⟨o,e,c,d⟩:=st;exact⟨o,e,λ v z=>by rw[d] at z;cases z⟩
 keep:=λ i h h' st k=>st.at λ o e=>k it (by simp) o e
 item:=by
   intro X hP hw hK hc i Dk s σ H E I hf st hg;subst hP hw hK;obtain⟨xs,x,hq,hx⟩:=hg;obtain⟨its,rv,p,hz⟩:=I.list hq;obtain⟨u,hu,ru⟩:=rv.get hx;obtain⟨f0,f1,f2,f3,f4,f5⟩:=hf it (by simp);refine wpAny_pyNext_list_item st p.isList (x:=u) (by simpa using hu) λ h' st' sb=>?_
   have I1:Inv X Dk σ H { s with heap:=h' }:=I.turned (t':=s.toks) (λ b o hb e=>(sb.2 b hb).trans e) f0 f1 f3 f4 f5;obtain⟨o,e,c,d⟩:=id st';exact⟨u,rfl,go_of (s:={ s with heap:=h' }) e c d (by decide) ⟨x,H,I1,ru,⟨rfl,λ ys hy=>by rw[I.list_inj hy hq];exact hx⟩,st',λ b hb=>(hf b hb).1⟩⟩
 done:=by
   intro X hP hw hK hc i Dk s σ H E I hf st hg;subst hP hw hK;obtain⟨xs,hq,hx⟩:=hg;obtain⟨its,rv,p,hz⟩:=I.list hq;obtain⟨f0,f1,f2,f3,f4,f5⟩:=hf it (by simp);have hl:=rv.length;exact wpAny_pyNext_list_end (I.ok.hd hc) st p.isList (by simp;lia) λ h' eb=>⟨rfl,I.turned (t':=s.toks) (λ b o hb e=>eb b o hb e) f0 f1 f3 f4 f5⟩
 self:=λ _ _ _ _ _ st h=>wpAny_pyIter_listiter st h
theorem qK5{P:Program}{w:World}{K:PySem.W.Frag}{tg:Expr}(it:Addr)(lo:Int)(n:Nat):Turn P w K tg (Itr lo n) [it] it (λ i h=>IsRangeIter h it (lo+(i:Nat) * 1) ((n:Int) - (i:Nat)) 1) where
 mem:=by simp
 obj:=λ i h st b hb=>by
   have e:b=it:=by simpa using hb
   subst e;exact⟨_,st,λ v z=>by
     have z':Data.fields _=Data.cell v:=z;cases z'⟩
 keep:=λ i h h' st k=>k it (by simp) _ st
 item:=by
   intro X hP hw hK hc i Dk s σ H E I hf st hg;subst hP hw hK;obtain⟨f0,f1,f2,f3,f4,f5⟩:=hf it (by simp);have W:=Walks.range (prog:=X.prog) (w:=X.w) (I.ok.hd hc) it lo 1 n;refine W.item i s _ _ hg st λ v h' tk hv st' kk=>?_
   obtain⟨t,rfl⟩:=hv;have I1:Inv X Dk σ H { s with heap:=h',toks:=tk }:=I.turned (λ b o hb e=>kk b o (by simpa using hb) e) f0 f1 f3 f4 f5;refine⟨_,rfl,go_of (s:={ s with heap:=h',toks:=tk }) (n := "range_iterator") st' rfl rfl (by decide) ⟨.int (lo+i),H,I1,⟨t,?_⟩,⟨rfl,rfl⟩,st',λ b hb=>(hf b hb).1⟩⟩;rw[Int.mul_one]
 done:=by
   intro X hP hw hK hc i Dk s σ H E I hf st hg;subst hP hw hK;obtain⟨f0,f1,f2,f3,f4,f5⟩:=hf it (by simp);exact wpAny_pyNext_range_end (I.ok.hd hc) st (by have:n<=i:=hg;lia) λ h' eb=>⟨rfl,I.turned (t':=s.toks) (λ b o hb e=>eb b o hb e) f0 f1 f3 f4 f5⟩
 self:=λ _ _ _ _ _ st h=>wpAny_pyIter_rangeiter st h
section
variable{X:Cx}{tg:Expr}
def Gy(K:PySem.W.Frag)(tl:TE):TI:=λ σ H R=>tl σ H λ x H1=>∃ a,x=.ref a/\(∃ xs,SqL K H1 a xs)/\R (Itl K a) H1
theorem qE8{l:Expr}{tl:TE}(hl:PE X l tl):PI X tg l (Gy X.K tl):=by
 intro Dk s σ H R I h;refine thn (hl Dk s σ H _ I h) λ v s1 ⟨x,H1,I1,r1,q1⟩=>?_
 obtain⟨a,e,⟨xs,hq⟩,q⟩:=q1;subst e;cases r1;obtain⟨its,rv,p,hz⟩:=I1.list hq;refine wpAny_pyIter_list p.isList ?_;refine⟨s1.heap.objs.size,[s1.heap.objs.size],_,_,H1,rfl,I1.kept (t':=s1.toks) λ b o e=>zA2 _ e,qS1 a _,⟨_,zAw _ rfl,rfl,rfl⟩,λ b hb=>?_,q⟩;have e:b=s1.heap.objs.size:=by simpa using hb
 subst e;exact I1.fpOk (zA8 _) (I1.hok.fresh (zA8 _))
theorem qad2{Dk:List (Addr×Obj)}{σ:St}{H:Hp}{s:Shared}{R:It->Hp->Prop}{E:Value->Shared->Prop}{lo hi:Int}{t u v:Tok}{tk:Nat}(I:Inv X Dk σ H s)(h1:-(2 ^ 62)<=lo)(h2:lo < 2 ^ 62)(h3:-(2 ^ 62)<=hi)(h4:hi < 2 ^ 62)(q:R (Itr lo (hi - lo).toNat) H):wpAny (model X.prog X.w) X.A (pyIter (.ref s.heap.objs.size)) (PIE X Dk σ tg R) E { s with heap:=s.heap.push { cls:=.type "range",data:=.fields #[.int lo t,.int hi u,.int 1 v] },toks:=tk }:=by
 refine wpAny_pyIter_range (IsRange.new ..) (small_one h1 h2 h3 h4) ?_;have I1:Inv X Dk σ H { s with heap:=s.heap.push { cls:=.type "range",data:=.fields #[.int lo t,.int hi u,.int 1 v] },toks:=tk }:=I.kept λ b o e=>zA2 _ e
 refine⟨(s.heap.push { cls:=.type "range",data:=.fields #[.int lo t,.int hi u,.int 1 v] }).objs.size,[(s.heap.push { cls:=.type "range",data:=.fields #[.int lo t,.int hi u,.int 1 v] }).objs.size],_,_,H,rfl,
   I1.kept (t':=tk) λ b o e=>zA2 _ e,qK5 _ lo (hi - lo).toNat,?_,λ b hb=>?_,q⟩
 . have e1:lo+((0:Nat):Int) * 1=lo:=by simp
   have e2:(((hi - lo).toNat:Nat):Int) - ((0:Nat):Int)=Builtin.Range.rangeSize lo hi 1:=by rw[rangeSize_one];split<;>lia
   show IsRangeIter _ _ (lo+((0:Nat):Int) * 1) ((((hi - lo).toNat:Nat):Int) - ((0:Nat):Int)) 1;rw[e1,e2];exact zAw _ rfl
 have e:b=(s.heap.push { cls:=.type "range",data:=.fields #[.int lo t,.int hi u,.int 1 v] }).objs.size:=by simpa using hb
 subst e;exact I1.fpOk (zA8 _) (I1.hok.fresh (zA8 _))
def iRng1(ta:TA):TI:=λ σ H R=>ta σ H λ vs H1=>∃ j:Int,vs=[.int j]/\-(2 ^ 62)<=j/\j < 2 ^ 62/\R (Itr 0 j.toNat) H1
theorem qu2{a:Expr}{ta:TA}{p pos:Pos}(hg:Gl X "range")(hm:X.mg "range" = none)(ha:PA X [a] ta)(hs:starEach [a] X.env=[(false,eval a X.env)]:=by rfl):PI X tg (.Call (.Name "range" p) [a] [] pos) (iRng1 ta):=by
 intro Dk s σ H R I h;refine Call_ (qJ7 I hg hm boot_range (PyProof.Rows.callWith_type1 (thn (ha pos Dk s σ H _ I h) λ us s1 ⟨vs,H1,I1,r1,q1⟩=>?_) hs rfl));obtain⟨j,e,q1,q2,q⟩:=q1;subst e;cases r1 with
 | cons r rr =>
   cases rr;obtain⟨t,rfl⟩:=r;exact call_range_1 (qad2 I1 (by lia) (by lia) q1 q2 (by simpa using q))
def tFor(wi:TI)(g:TG)(tb:TS):TS:=λ D σ H=>wi σ H λ J H1=>∃ W:Nat->Nat->St->Hp->Prop,(∃ m,W 0 m σ H1)/\∀ i m σ H,W i m σ H ->
 (J.stop i H/\D.nx σ H)∨(J.go i H/\∃ N:St->Hp->Prop,(∀ σ' H',N σ' H'->∃ m',m' < m/\W (i+1) m' σ' H')/\∀ x H',J.yld i H x H'->g x σ H' λ σ2 H2=>tb { D with nx:=N,ct:=N,bk:=D.nx } σ2 H2)
def qN0(fp:List Addr)(h:Heap):List (Addr×Obj):=fp.filterMap λ b=>(h.get? b).map λ o=>(b,o)
theorem qk3{h:Heap}{b:Addr}{o:Obj}(hb:b∈fp)(e:h.get? b=some o):(b,o)∈qN0 fp h:=List.mem_filterMap.mpr ⟨b,hb,by rw[e];rfl⟩
theorem qT6{h:Heap}{p:Addr×Obj}(hp:p∈qN0 fp h):p.1∈fp/\h.get? p.1=some p.2:=by
 obtain⟨b,hb,e⟩:=List.mem_filterMap.mp hp;cases q:h.get? b with
 | none=>rw[q] at e;cases e
 | some o =>
   rw[q] at e;have e':(b,o)=p:=Option.some.inj e;subst e';exact⟨hb,q⟩
theorem Inv.pinned{Dk:List (Addr×Obj)}{σ:St}{H:Hp}{s:Shared}(I:Inv X Dk σ H s)(hf:∀ b∈fp,Fa X Dk H b)(ho:∀ b∈fp,∃ o,s.heap.get? b=some o/\∀ v,o.data≠.cell v):Inv X (Dk++qN0 fp s.heap) σ H s :=
 I.pins_of λ p hp=>(zAd.mp hp).elim (λ z=>I.pin p (zAt _ z)) λ z=>by
   obtain⟨hb,e⟩:=qT6 z;obtain⟨f0,f1,f2,_⟩:=hf p.1 hb;obtain⟨o,e',d⟩:=ho p.1 hb;rw[e] at e';cases e';exact⟨e,f0,f1,f2,d⟩
theorem Inv.unpinned{Dk pl:List (Addr×Obj)}{σ:St}{H:Hp}{s:Shared}(I:Inv X (Dk++pl) σ H s):Inv X Dk σ H s:=I.pins_of λ p hp=>I.pin p (zAt _ (List.mem_append_left _ hp))
theorem qam4{iter:Expr}{wi:TI}{g:TG}{tb:TS}{pos:Pos}(hp:PassesOwn (model X.prog X.w) X.A X.env X.xe)(hc:X.calm=true)(hi:PI X tg iter wi)(hg:PG X tg g)(hb:PSs X body tb)(hs:∀ x,foldedSetIterable iter X.env x=pure x:=by intro _;rfl):PS X (.For tg iter body [] pos) (tFor wi g tb):=by
 intro Dk s σ H D I h;refine wpAny_For (thn (hi Dk s σ H _ I h) λ v s1 h1=>thn h1 λ itv s2 h2=>?_) hs;obtain⟨it,fp,tn,J,H2,e,I2,T,st2,f2,W,⟨m0,w0⟩,turn⟩:=h2;subst e;have stat:∀{H':Hp},(∀ b∈fp,H' b=none)->∀ b∈fp,Fa X Dk H' b:=λ hn b hb=>⟨hn b hb,(f2 b hb).2⟩
 refine codeAny_forLoop_any (λ n s'=>∃ i σ' H',Inv X Dk σ' H' s'/\tn i s'.heap/\(∀ b∈fp,H' b=none)/\W i n σ' H') ?_ m0 ⟨0,σ,H2,I2,st2,λ b hb=>(f2 b hb).1,w0⟩;rintro n s3 ⟨i,σ3,H3,I3,st3,fr3,w3⟩;rcases turn i n σ3 H3 w3 with⟨stop,qn⟩ | ⟨go,N,hN,step⟩
 . refine wpAny_passesOwn hp (thn (T.done X rfl rfl rfl hc i Dk s3 σ3 H3 X.xe I3 (stat fr3) st3 stop) λ r s4 ⟨hr,I4⟩=>?_)
   subst hr;exact wpAny_execs_nil ⟨σ3,H3,I4,qn⟩
 refine wpAny_passesOwn hp (thn (T.item X rfl rfl rfl hc i Dk s3 σ3 H3 X.xe I3 (stat fr3) st3 go) λ r s4 ⟨u,hr,h4⟩=>?_);subst hr;refine wpAny_passesOwn hp (thn h4 λ _ s5 ⟨x,H5,I5,r5,y5,st5,fr5⟩=>?_);have I5':=I5.pinned (stat fr5) (T.obj _ _ st5);refine wpAny_passesOwn hp (thn (hg _ s5 σ3 H5 x u _ I5' r5 (step x H5 y5)) λ _ s6 ⟨σ6,H6,I6,q6⟩=>?_);refine wpAny_passesOwn hp (thn (hb _ s6 σ6 H6 _ I6 q6) λ f s7 q7=>?_);have again:∀{σ7:St}{H7:Hp},Inv X (Dk++qN0 fp s5.heap) σ7 H7 s7->N σ7 H7->∃ m,m < n/\∃ i σ' H',Inv X Dk σ' H' s7/\tn i s7.heap/\(∀ b∈fp,H' b=none)/\W i m σ' H':=λ{σ7 H7} I7 n7=>by
   obtain⟨m',hm,w7⟩:=hN σ7 H7 n7;refine⟨m',hm,i+1,σ7,H7,I7.unpinned,T.keep _ _ _ st5 λ b hb o e=>(I7.pin (b,o) (zAt _ (zAt _ (qk3 hb e)))).1,λ b hb=>?_,w7⟩;obtain⟨o,e,d⟩:=T.obj _ _ st5 b hb;exact(I7.pin (b,o) (zAt _ (zAt _ (qk3 hb e)))).2.1
 cases f with
 | next=>obtain⟨σ7,H7,I7,n7⟩:=q7;exact again I7 n7
 | cont=>obtain⟨σ7,H7,I7,n7⟩:=q7;exact again I7 n7
 | brk=>obtain⟨σ7,H7,I7,q7⟩:=q7;exact⟨σ7,H7,I7.unpinned,q7⟩
 | ret v=>obtain⟨x7,σ7,H7,I7,r7,q7⟩:=q7;exact⟨x7,σ7,H7,I7.unpinned,r7,q7⟩
end
theorem qah3{K:PySem.W.Frag}{a:Addr}{xs:List V}{g:TG}{tb:TS}{D:B6}{σ:St}{H:Hp}(Pv:Nat->St->Hp->Prop)(h0:Pv 0 σ H)(hl:∀ i σ H,i<=xs.length->Pv i σ H->SqL K H a xs)(hs:∀ i x σ H,xs[i]? = some x->Pv i σ H->g x σ H λ σ2 H2=>tb { D with nx:=Pv (i+1),ct:=Pv (i+1),bk:=D.nx } σ2 H2)(hd:∀ σ H,Pv xs.length σ H->D.nx σ H) :
   ∃ W:Nat->Nat->St->Hp->Prop,(∃ m,W 0 m σ H)/\∀ i m σ H,W i m σ H ->
     ((Itl K a).stop i H/\D.nx σ H)∨((Itl K a).go i H/\∃ N:St->Hp->Prop,(∀ σ' H',N σ' H'->∃ m',m' < m/\W (i+1) m' σ' H')/\∀ x H',(Itl K a).yld i H x H'->g x σ H' λ σ2 H2=>tb { D with nx:=N,ct:=N,bk:=D.nx } σ2 H2):=by
 refine⟨λ i m σ H=>m=xs.length - i/\i<=xs.length/\Pv i σ H,⟨xs.length,by simp,Nat.zero_le _,h0⟩,?_⟩;rintro i m σ H ⟨rfl,hi,p⟩;have q:=hl i σ H hi p;by_cases hlt:i < xs.length
 . refine .inr ⟨⟨xs,xs[i],q,by simp[hlt]⟩,Pv (i+1),λ σ' H' p'=>⟨xs.length - (i+1),by lia,rfl,hlt,p'⟩,λ x H' y=>?_⟩
   obtain⟨e,y⟩:=y;subst e;exact hs i x σ _ (y xs q) p
 have e:i=xs.length:=by lia
 subst e;exact .inl ⟨⟨xs,q,zA8 _⟩,hd σ H p⟩
theorem qU9{lo:Int}{n:Nat}{g:TG}{tb:TS}{D:B6}{σ:St}{H:Hp}(Pv:Nat->St->Hp->Prop)(h0:Pv 0 σ H)(hs:∀ i σ H,i < n->Pv i σ H->g (.int (lo+i)) σ H λ σ2 H2=>tb { D with nx:=Pv (i+1),ct:=Pv (i+1),bk:=D.nx } σ2 H2)(hd:∀ σ H,Pv n σ H->D.nx σ H) :
   ∃ W:Nat->Nat->St->Hp->Prop,(∃ m,W 0 m σ H)/\∀ i m σ H,W i m σ H ->
     ((Itr lo n).stop i H/\D.nx σ H)∨((Itr lo n).go i H/\∃ N:St->Hp->Prop,(∀ σ' H',N σ' H'->∃ m',m' < m/\W (i+1) m' σ' H')/\∀ x H',(Itr lo n).yld i H x H'->g x σ H' λ σ2 H2=>tb { D with nx:=N,ct:=N,bk:=D.nx } σ2 H2):=by
 refine⟨λ i m σ H=>m=n - i/\i<=n/\Pv i σ H,⟨n,by simp,Nat.zero_le _,h0⟩,?_⟩;rintro i m σ H ⟨rfl,hi,p⟩;by_cases hlt:i < n
 . refine .inr ⟨hlt,Pv (i+1),λ σ' H' p'=>⟨n - (i+1),by lia,rfl,hlt,p'⟩,λ x H' y=>?_⟩
   obtain⟨e,y⟩:=y;subst e y;exact hs i σ _ hlt p
 have e:i=n:=by lia
 subst e;exact .inl ⟨zA8 _,hd σ H p⟩
abbrev R2:=V->V->Hp->VK->Prop
def OpR(X:Cx)(f:Value->Value->Sem Value)(r:R2):Prop :=
 ∀(Dk:List (Addr×Obj))(s:Shared)(σ:St)(H:Hp)(x y:V)(v u:Value)(Q:VK),Inv X Dk σ H s->RelV x v->RelV y u->r x y H Q ->
   wpAny (model X.prog X.w) X.A (f v u) (EP X Dk σ Q) X.xe s
def UnR(X:Cx)(f:Value->Sem Value)(r:V->Hp->VK->Prop):Prop :=
 ∀(Dk:List (Addr×Obj))(s:Shared)(σ:St)(H:Hp)(x:V)(v:Value)(Q:VK),Inv X Dk σ H s->RelV x v->r x H Q ->
   wpAny (model X.prog X.w) X.A (f v) (EP X Dk σ Q) X.xe s
def CallR(X:Cx)(f:Value)(r:List V->Hp->VK->Prop):Prop :=
 ∀(Dk:List (Addr×Obj))(s:Shared)(σ:St)(H:Hp)(xs:List V)(us:List Value)(Q:VK),Inv X Dk σ H s->Vals xs us->r xs H Q ->
   wpAny (model X.prog X.w) X.A (call f us) (EP X Dk σ Q) X.xe s
def tOp(r:R2)(ta tb:TE):TE:=λ σ H Q=>ta σ H λ x H1=>tb σ H1 λ y H2=>r x y H2 Q
def tUn(r:V->Hp->VK->Prop)(ta:TE):TE:=λ σ H Q=>ta σ H λ x H1=>r x H1 Q
def rI(C:Int->Int->Prop)(g:Int->Int->V):R2:=λ x y H Q=>∃ i j,x=.int i/\y=.int j/\C i j/\Q (g i j) H
def rI0(g:Int->Int->V):R2:=λ x y H Q=>∃ i j,x=.int i/\y=.int j/\Q (g i j) H
def rU(g:Int->V):V->Hp->VK->Prop:=λ x H Q=>∃ i,x=.int i/\Q (g i) H
section
variable{X:Cx}{a b:Expr}{ta tb:TE}{pos:Pos}
theorem binT(ha:PE X a ta)(hb:PE X b tb){Dk:List (Addr×Obj)}{s:Shared}{σ:St}{H:Hp}{R:V->V->Hp->Prop}(I:Inv X Dk σ H s)(h:ta σ H λ x H1=>tb σ H1 λ y H2=>R x y H2){Q:Value->Shared->Prop}{f:Value->Value->Sem Value}(hf:∀ v u s2 x y H2,Inv X Dk σ H2 s2->RelV x v->RelV y u->R x y H2->wpAny (model X.prog X.w) X.A (f v u) Q X.xe s2) :
   wpAny (model X.prog X.w) X.A (eval a X.env) (λ v s₁=>wpAny (model X.prog X.w) X.A (eval b X.env) (λ u s₂=>wpAny (model X.prog X.w) X.A (f v u) Q X.xe s₂) X.xe s₁) X.xe s:=by
 refine thn (ha Dk s σ H _ I h) λ v s1 ⟨x,H1,I1,r1,q1⟩=>?_
 refine thn (hb Dk s1 σ H1 _ I1 q1) λ u s2 ⟨y,H2,I2,r2,q2⟩=>?_
 exact hf v u s2 x y H2 I2 r1 r2 q2
theorem pe_op{op:Operator}{r:R2}(ho:OpR X (binaryOp op) r)(ha:PE X a ta)(hb:PE X b tb):PE X (.BinOp a op b pos) (tOp r ta tb):=by
 intro Dk s σ H Q I h;exact wpAny_BinOp (binT ha hb I h λ v u s2 x y H2 I2 rx ry q=>ho Dk s2 σ H2 x y v u Q I2 rx ry q)
theorem pe_un{op:UnaryOp}{r:V->Hp->VK->Prop}(ho:UnR X (unaryOp op) r)(ha:PE X a ta):PE X (.UnaryOp op a pos) (tUn r ta):=by
 intro Dk s σ H Q I h;exact UnaryOp_ (thn (ha Dk s σ H _ I h) λ v s1 ⟨x,H1,I1,r1,q1⟩=>ho Dk s1 σ H1 x v Q I1 r1 q1)
theorem opI{f:Value->Value->Sem Value}{C:Int->Int->Prop}{g:Int->Int->Int}(rule:∀(i j:Int)(t u:Tok)(s:Shared)(Q:Value->Shared->Prop)(E:Value->Shared->Prop),C i j->Q (.int (g i j) s.toks) { s with toks:=s.toks+1 }->wpAny (model X.prog X.w) X.A (f (.int i t) (.int j u)) Q E s) :
   OpR X f (rI C λ i j=>.int (g i j)):=by
 intro Dk s σ H x y v u Q I rx ry h;obtain⟨i,j,rfl,rfl,hc,q⟩:=h;obtain⟨t,rfl⟩:=rx;obtain⟨t',rfl⟩:=ry;exact rule i j t t' s _ _ hc ⟨.int (g i j),H,I.tok _,⟨_,rfl⟩,q⟩
theorem opI0{f:Value->Value->Sem Value}{g:Int->Int->Int}(rule:∀(i j:Int)(t u:Tok)(s:Shared)(Q:Value->Shared->Prop)(E:Value->Shared->Prop),Q (.int (g i j) s.toks) { s with toks:=s.toks+1 }->wpAny (model X.prog X.w) X.A (f (.int i t) (.int j u)) Q E s) :
   OpR X f (rI0 λ i j=>.int (g i j)):=by
 intro Dk s σ H x y v u Q I rx ry h;obtain⟨i,j,rfl,rfl,q⟩:=h;obtain⟨t,rfl⟩:=rx;obtain⟨t',rfl⟩:=ry;exact rule i j t t' s _ _ ⟨.int (g i j),H,I.tok _,⟨_,rfl⟩,q⟩
theorem opB0{f:Value->Value->Sem Value}{g:Int->Int->Bool}(rule:∀(i j:Int)(t u:Tok)(s:Shared)(Q:Value->Shared->Prop)(E:Value->Shared->Prop),Q (.bool (g i j)) s->wpAny (model X.prog X.w) X.A (f (.int i t) (.int j u)) Q E s) :
   OpR X f (rI0 λ i j=>.bl (g i j)):=by
 intro Dk s σ H x y v u Q I rx ry h;obtain⟨i,j,rfl,rfl,q⟩:=h;obtain⟨t,rfl⟩:=rx;obtain⟨t',rfl⟩:=ry;exact rule i j t t' s _ _ ⟨.bl (g i j),H,I,rfl,q⟩
def CPow(i j:Int):Prop:=0<=j/\j<=1000000/\i.natAbs < 2 ^ 64
def CMul(i j:Int):Prop:=(-(2 ^ 64) < i/\i < 2 ^ 64)∨(-(2 ^ 64) < j/\j < 2 ^ 64)
theorem CMul.ok{i j:Int}(h:CMul i j):IntMulOk i j:=by
 rcases h with⟨h1,h2⟩ | ⟨h1,h2⟩
 . exact .of_left (intBits_le_64 h1 h2)
 exact .of_right (intBits_le_64 h1 h2)
theorem qax1:OpR X (binaryOp .Add) (rI0 λ i j=>.int (i+j)):=opI0 λ _ _ _ _ _ _ _ q=>add_int q
theorem qj5:OpR X (binaryOp .Sub) (rI0 λ i j=>.int (i - j)):=opI0 λ _ _ _ _ _ _ _ q=>sub_int q
theorem qaw7:OpR X (binaryOp .Mult) (rI CMul λ i j=>.int (i * j)):=opI λ _ _ _ _ _ _ _ hc q=>mul_int q hc.ok
theorem qh6:OpR X (binaryOp .Mod) (rI (λ _ j=>0 < j) λ i j=>.int (i % j)):=opI λ i j _ _ _ _ _ hc q=>by
 have h1:(0:Int) < j:=hc;exact mod_int' (by lia) (by rw[Int.fmod_eq_emod_of_nonneg i (by lia)];exact q)
theorem qaw6:OpR X (binaryOp .Pow) (rI CPow λ i j=>.int (i ^ j.toNat)):=opI λ _ _ _ _ _ _ _ hc q=>pow_int_small hc.1 hc.2.1 hc.2.2 q
theorem unI{f:Value->Sem Value}{g:Int->Int}(rule:∀(i:Int)(t:Tok)(s:Shared)(Q:Value->Shared->Prop)(E:Value->Shared->Prop),Q (.int (g i) s.toks) { s with toks:=s.toks+1 }->wpAny (model X.prog X.w) X.A (f (.int i t)) Q E s) :
   UnR X f (rU λ i=>.int (g i)):=by
 intro Dk s σ H x v Q I rx h;obtain⟨i,rfl,q⟩:=h;obtain⟨t,rfl⟩:=rx;exact rule i t s _ _ ⟨.int (g i),H,I.tok _,⟨_,rfl⟩,q⟩
theorem qat6:UnR X (unaryOp .USub) (rU λ i=>.int (-i)):=unI λ _ _ _ _ _ q=>neg_int q
end
section
variable{X:Cx}{a b c:Expr}{ta tb tc:TE}{pos:Pos}
theorem Gz:OpR X (compareOp .Lt) (rI0 λ i j=>.bl (decide (i < j))):=opB0 λ _ _ _ _ _ _ _ q=>lt_int q
theorem Fb:OpR X (compareOp .LtE) (rI0 λ i j=>.bl (decide (i<=j))):=opB0 λ _ _ _ _ _ _ _ q=>le_int q
theorem Ed:OpR X (compareOp .Gt) (rI0 λ i j=>.bl (decide (j < i))):=opB0 λ _ _ _ _ _ _ _ q=>gt_int q
theorem F6:OpR X (compareOp .GtE) (rI0 λ i j=>.bl (decide (j<=i))):=opB0 λ _ _ _ _ _ _ _ q=>ge_int q
theorem OpR.or{f:Value->Value->Sem Value}{r r':R2}(h:OpR X f r)(h':OpR X f r'):OpR X f (λ x y H Q=>r x y H Q∨r' x y H Q):=by
 intro Dk s σ H x y v u Q I rx ry q;rcases q with q | q
 . exact h Dk s σ H x y v u Q I rx ry q
 exact h' Dk s σ H x y v u Q I rx ry q
theorem qb8(b:Expr)(h:op≠.In:=by decide)(h2:op≠.NotIn:=by decide):behindInMarks op b=false:=by
 have e1:(op == CmpOp.In)=false:=by cases op<;>first | rfl | exact absurd rfl h
 have e2:(op == CmpOp.NotIn)=false:=by cases op<;>first | rfl | exact absurd rfl h2
 cases b<;>simp[behindInMarks,e1,e2]
theorem qan7{r:R2}(ho:OpR X (compareOp op) r)(ha:PE X a ta)(hb:PE X b tb)(hm:behindInMarks op b=false):PE X (.Compare a [op] [b] pos) (tOp r ta tb):=by
 intro Dk s σ H Q I h;exact wpAny_Compare1 (binT ha hb I h λ v u s2 x y H2 I2 rx ry q=>ho Dk s2 σ H2 x y v u Q I2 rx ry q) hm
def tTest(t:TE):TT:=λ σ H Q=>t σ H λ x H'=>∃ k,x=.bl k/\Q k H'
theorem qam2{r:R2}(ho:OpR X (compareOp op) r)(ha:PE X a ta)(hb:PE X b tb)(hm:behindInMarks op b=false):PT X (.Compare a [op] [b] pos) (tTest (tOp r ta tb)):=by
 intro Dk s σ H Q I h;refine wpAny_isTrue_Compare1 (thn (ha Dk s σ H _ I h) λ v s1 ⟨x,H1,I1,r1,q1⟩=>thn (hb Dk s1 σ H1 _ I1 q1) λ u s2 ⟨y,H2,I2,r2,q2⟩ =>
   thn (ho Dk s2 σ H2 x y v u _ I2 r1 r2 q2) λ c s3 ⟨z,H3,I3,r3,k,e,q3⟩=>?_) hm
 subst e;cases r3;exact wpAny_truthy_bool ⟨H3,I3,q3⟩
def qak7(r r':R2)(ta tb tc:TE):TE:=λ σ H Q=>ta σ H λ x H1=>tb σ H1 λ y H2=>r x y H2 λ z H3=>∃ k,z=.bl k /\
 (if k=true then tc σ H3 λ w' H4=>r' y w' H4 Q else Q (.bl false) H3)
theorem qae3{op':CmpOp}{r r':R2}(ho:OpR X (compareOp op) r)(ho':OpR X (compareOp op') r')(ha:PE X a ta)(hb:PE X b tb)(hc:PE X c tc)(hm:lastMarks [op,op'] [b,c]=false:=by with_unfolding_all rfl):PE X (.Compare a [op,op'] [b,c] pos) (qak7 r r' ta tb tc):=by
 intro Dk s σ H Q I h;refine Compare_chain (thn (ha Dk s σ H _ I h) λ v s1 ⟨x,H1,I1,r1,q1⟩=>chain_link (thn (hb Dk s1 σ H1 _ I1 q1) λ u s2 ⟨y,H2,I2,r2,q2⟩ =>
   thn (ho Dk s2 σ H2 x y v u _ I2 r1 r2 q2) λ d s3 ⟨z,H3,I3,r3,k,e,q3⟩=>?_)) hm
 subst e;cases r3;refine wpAny_truthy_bool ?_;cases k with
 | false=>exact ite_ff ⟨.bl false,H3,I3,rfl,q3⟩
 | true=>exact ite_tt (chain_last (thn (hc Dk s3 σ H3 _ I3 q3) λ w' s4 ⟨z',H4,I4,r4,q4⟩=>ho' Dk s4 σ H4 y z' u w' Q I4 r2 r4 q4))
theorem qC2:(sizeLine:Nat) < 2 ^ 63:=by rw[sizeLine_eq];decide
theorem qN6:OpR X (binaryOp .Add) (λ x y H Q=>∃ i j,x=.str i/\y=.str j/\i.length+j.length<=sizeLine/\Q (.str (i++j)) H):=by
 intro Dk s σ H x y v u Q I rx ry h;obtain⟨i,j,rfl,rfl,hz,q⟩:=h;obtain⟨t,rfl⟩:=rx;obtain⟨t',rfl⟩:=ry;exact add_str (λ t' tk=>⟨.str (i++j),H,I.tok _,⟨_,rfl⟩,q⟩) hz
theorem Bm{x:V}(r:Vals [x] us):∃ u,us=[u]/\RelV x u:=by
 cases r with
 | cons r1 r2=>cases r2;exact⟨_,rfl,r1⟩
theorem Fc{x y:V}(r:Vals [x,y] us):∃ u w',us=[u,w']/\RelV x u/\RelV y w':=by
 cases r with
 | cons r1 r2 =>
   cases r2 with
   | cons r3 r4=>cases r4;exact⟨_,_,rfl,r1,r3⟩
theorem qaj0:CallR X (.builtin "abs") (λ xs H Q=>∃ i,xs=[.int i]/\Q (.int (if i < 0 then -i else i)) H):=by
 intro Dk s σ H xs us Q I r h;obtain⟨i,rfl,q⟩:=h;obtain⟨u,rfl,t,rfl⟩:=Bm r;exact call_abs_int λ u tk=>⟨.int (if i < 0 then -i else i),H,I.tok _,⟨_,rfl⟩,q⟩
theorem qo3(hc:X.calm=true):CallR X (.builtin "max") (λ xs H Q=>∃ i j,xs=[.int i,.int j]/\Q (.int (if j > i then j else i)) H):=by
 intro Dk s σ H xs us Q I r h;obtain⟨i,j,rfl,q⟩:=h;obtain⟨u,w',rfl,⟨t,rfl⟩,⟨t',rfl⟩⟩:=Fc r;refine max_two_ints (I.ok.hd hc) λ h' tk k=>⟨_,H,I.kept k,?_,q⟩
 by_cases hj:j > i
 . rw[if_pos hj,if_pos hj];exact⟨_,rfl⟩
 rw[if_neg hj,if_neg hj];exact⟨_,rfl⟩
theorem qH9(hc:X.calm=true):CallR X (.builtin "min") (λ xs H Q=>∃ i j,xs=[.int i,.int j]/\Q (.int (if j < i then j else i)) H):=by
 intro Dk s σ H xs us Q I r h;obtain⟨i,j,rfl,q⟩:=h;obtain⟨u,w',rfl,⟨t,rfl⟩,⟨t',rfl⟩⟩:=Fc r;refine min_two_ints (I.ok.hd hc) λ h' tk k=>⟨_,H,I.kept k,?_,q⟩
 by_cases hj:j < i
 . rw[if_pos hj,if_pos hj];exact⟨_,rfl⟩
 rw[if_neg hj,if_neg hj];exact⟨_,rfl⟩
end
structure ObjM(h:Heap)(x dx C:Addr)(mA:Str->Option Value):Prop where
 obj:h.get? x=some (PySem.W.instObj C dx)
 ns:h.Ns1 dx mA
 ne:dx≠x
theorem qn9{h:Heap}{dx:Addr}{mA:Str->Option Value}(n:h.Ns1 dx mA):∃ od,h.get? dx=some od/\∀ name,PySem.W.lookIn name od=some (mA name):=by
 obtain⟨o,es,ep,ho,hd,hk,_,hm⟩:=n;refine⟨o,ho,λ name=>?_⟩;have e:=hm name;unfold nsFind findBy at e;rw[<- Array.find?_toList] at e;unfold PySem.W.lookIn;rw[hd];dsimp only;split
 . rename_i y q
   rw[q] at e;exact congrArg some e
 rename_i q
 rw[q] at e;have a:es.toList.any (·.refKey)=false:=by
   rw[List.any_eq_false];intro y hy;obtain⟨z,t,hkey⟩:=hk y (Array.mem_toList_iff.mp hy);simp[DictEntry.refKey,hkey]
 have a':¬ es.toList.any (·.refKey)=true:=by rw[a];exact zAe
 rw[if_neg a'];exact congrArg some e
theorem ObjM.look{h:Heap}{x dx C:Addr}{mA:Str->Option Value}(I:ObjM h x dx C mA):∃ od,PySem.W.InstAt h x (PySem.W.instObj C dx) C (some od)/\∀ name,PySem.W.lookIn name od=some (mA name) :=
 let ⟨od,ho,hl⟩:=qn9 I.ns
 ⟨od,⟨I.obj,rfl,rfl,ho⟩,hl⟩
section
variable{prog:Program}{w:World}{A:Around}{E:Value->Shared->Prop}{s:Shared}{K:PySem.W.Frag}{x dx C f:Addr}{mA:Str->Option Value}{name:Str}{v:Value}
theorem qaq9{expr:Bool}{Q:Value->Shared->Prop}(X:K.In s.heap)(I:ObjM s.heap x dx C mA)(hg:PySem.W.plainGet K C name=true)(hh:PySem.W.hasDictIn K C=true)(ha:PySem.W.findIn K (.ref C) name=some none)(hv:mA name=some v)(hv':PySem.W.handedIn v=true)(h:Q v { s with toks:=s.toks+1 }) :
   wpAny (model prog w) A (getAttr (.ref x) name expr) Q E s:=by
 obtain⟨od,J,hl⟩:=I.look;exact PySem.W.get_value X J (PySem.W.plainGet_of hg).1 (PySem.W.findObj_own hh ha rfl (by rw[hl,hv])) hv' h
theorem qag9{Q:Value×List Value->Shared->Prop}(X:K.In s.heap)(I:ObjM s.heap x dx C mA)(hg:PySem.W.plainGet K C name=true)(hf:PySem.W.findIn K (.ref C) name=some (some (.ref f)))(ht:PySem.W.isFn K (.ref f)=true)(hv:mA name=none)(h:Q (.ref f,[.ref x]) s) :
   wpAny (model prog w) A (getMethod (.ref x) name pl) Q E s:=by
 obtain⟨od,J,hl⟩:=I.look;exact PySem.W.method_fn X J (PySem.W.plainGet_of hg).1 (PySem.W.plainGet_of hg).2 hf (zBg.mp ht) (by show (PySem.W.lookIn name od).map (·.isSome)=some false;rw[hl,hv];rfl) h
theorem qal3{ns:List Str}{Q:Unit->Shared->Prop}(X:K.In s.heap)(I:ObjM s.heap x dx C mA)(hs:PySem.W.findIn K (.ref C) "__setattr__" = some (some (.builtin "object.__setattr__")))(hp:PySem.W.plainOver K C=true)(ht:PySem.W.takerIn K C name=some none)(hh:PySem.W.hasDictIn K C=true)(hw:PySem.Within mA ns)(hsz:ns.length<=sizeLine)(h:∀ h',ObjM h' x dx C (λ y=>if y=name then some v else mA y)->Heap.SameBut dx s.heap h'->Q () { s with heap:=h',toks:=s.toks+2 }) :
   wpAny (model prog w) A (setAttr (.ref x) name v) Q E s:=by
 obtain⟨od,J,hl⟩:=I.look;refine PySem.W.set_plain X J hs (PySem.W.osa_open (s:={ s with toks:=s.toks+1 }) (r:=none) X J hp ht λ b=>?_);obtain⟨cd,hc,hd'⟩:=PySem.W.any_some hh;have hx:s.heap.get? x=some ⟨.ref C,some dx,.plain,#[]⟩:=I.obj;refine wpAny_bind (wpAny_pure (wpAny_bind (wpAny_bind (wpAny_loadPart hx (wpAny_bind (PySem.W.Looks.here (s:={ s with toks:=s.toks+1 }) (PySem.W.looks_clsIn X hc) ?_))))));rw[hd'];refine wpAny_pure (a:=some dx) (wpAny_bind (wpAny_pure (wpAny_bind ?_)));refine wpAny_nsSet1 (s:={ s with toks:=s.toks+1 }) I.ns λ h' hn2 hs2=>?_
 obtain⟨oD,esD,epD,hoD,hdD,hcD⟩:=hn2.count (PySem.Within.cons name v hw);refine wpAny_bind (wpAny_lookBehind hoD (by rw[hdD];exact pastItsLine_dict (zAm hcD (by rw[zAr];lia))) ?_);exact wpAny_pure (h _ ⟨(hs2.2 _ (Ne.symm I.ne)).trans I.obj,hn2,I.ne⟩ hs2)
theorem qaf9{R:Result->Shared->Prop}{vs:List Value}(X:K.In s.heap)(hm:PySem.W.makesIn K C=true)(hi:PySem.W.findIn K (.ref C) "__init__" = some (some (.ref f)))(hf:PySem.W.typeIn K (.ref f)=some (.type "function"))(h:codeAny (model prog w) (A.under (.builtin "type.__call__" ⟨.ref C::vs,kw⟩)) (.call (.ref f) ⟨.ref (s.heap.objs.size+1)::vs,kw⟩) (PySem.W.InitBack (s.heap.objs.size+1) R)
     { s with heap:=(s.heap.push PySem.W.emptyDict).push (PySem.W.instObj C s.heap.objs.size) }) :
   codeAny (model prog w) A (.call (.ref C) ⟨vs,kw⟩) R s:=by
 obtain⟨hh,g,d,t,os⟩:=s;exact PySem.W.make_core (PySem.W.makes_of X hm) (PySem.W.looks_findIn X hi) (λ self=>PySem.W.bind_fn X self hf) (.inl rfl) h
end
def Be(f:Str)(v:V):List (Str×V)->List (Str×V)
 | []=>[(f,v)]
 | (g,x)::r=>if g=f then (g,v)::r else (g,x)::Be f v r
theorem qm1(f g:Str)(v:V):∀ fs:List (Str×V),(Be f v fs).lookup g=if g=f then some v else fs.lookup g
 | []=>by
   show List.lookup g [(f,v)]=_;by_cases h:g=f
   . have hb:(g == f)=true:=zBg.mpr h
     simp only[List.lookup,hb,if_pos h]
   have hb:(g == f)=false:=zB4.mpr h;simp only[List.lookup,hb,if_neg h]
 | (k,x)::r=>by
   have ih:=qm1 f g v r;rw[show Be f v ((k,x)::r)=(if k=f then (k,v)::r else (k,x)::Be f v r) from rfl];by_cases hk:k=f
   . rw[if_pos hk]
     by_cases h:g=k
     . have hb:(g == k)=true:=zBg.mpr h
       simp only[List.lookup,hb,if_pos (h.trans hk)]
     have hb:(g == k)=false:=zB4.mpr h;simp only[List.lookup,hb,if_neg (λ e:g=f=>h (e.trans hk.symm))]
   rw[if_neg hk];by_cases h:g=k
   . have hb:(g == k)=true:=zBg.mpr h
     simp only[List.lookup,hb,if_neg (λ e:g=f=>hk (h.symm.trans e))]
   have hb:(g == k)=false:=zB4.mpr h;simp only[List.lookup,hb];exact ih
theorem qk5(f:Str)(v:V):∀ fs:List (Str×V),f∈(Be f v fs).map (·.1)/\∀ g,g∈fs.map (·.1)->g∈(Be f v fs).map (·.1)
 | []=>⟨by simp[Be],λ g h=>by simp at h⟩
 | (k,x)::r=>by
   obtain⟨i1,i2⟩:=qk5 f v r;rw[show Be f v ((k,x)::r)=(if k=f then (k,v)::r else (k,x)::Be f v r) from rfl];by_cases hk:k=f
   . rw[if_pos hk]
     subst hk;exact⟨by simp,λ g h=>by simpa using h⟩
   rw[if_neg hk];refine⟨?_,λ g h=>?_⟩
   . rw[zAu]
     exact zA9 _ i1
   rw[zAu] at h ⊢;rcases zA7.mp h with e | e
   . exact zA7.mpr (.inl e)
   exact zA9 _ (i2 g e)
theorem qm2(f:Str)(v:V):∀ fs:List (Str×V),(Be f v fs).length<=fs.length+1
 | []=>by simp[Be]
 | (k,x)::r=>by
   have ih:=qm2 f v r;rw[show Be f v ((k,x)::r)=(if k=f then (k,v)::r else (k,x)::Be f v r) from rfl];by_cases hk:k=f
   . rw[if_pos hk,zAr,zAr];lia
   rw[if_neg hk,zAr,zAr];lia
theorem RelO.some_of{v:V}{o:Option Value}(r:RelO (some v) o):∃ u,o=some u/\RelV v u:=by
 cases o with
 | none=>exact(show False from r).elim
 | some u=>exact⟨u,rfl,r⟩
theorem RelO.none_of{o:Option Value}(r:RelO none o):o=none:=by
 cases o with
 | none=>rfl
 | some u=>exact(show False from r).elim
theorem qG2{v:V}{u:Value}(r:RelV v u):PySem.W.handedIn u=true:=by
 cases v with
 | non=>cases (show u=Value.none from r);rfl
 | bl b=>cases (show u=Value.bool b from r);rfl
 | int i=>obtain⟨t,e⟩:=(show ∃ t,u=Value.int i t from r);cases e;rfl
 | str x=>obtain⟨t,e⟩:=(show ∃ t,u=Value.str x t from r);cases e;rfl
 | byt b=>obtain⟨t,e⟩:=(show ∃ t,u=Value.bytes b t from r);cases e;rfl
 | flt b=>obtain⟨t,e⟩:=(show ∃ t,u=Value.float b t from r);cases e;rfl
 | ref a=>cases (show u=Value.ref a from r);rfl
 | ty n=>cases (show u=Value.type n from r);rfl
section
variable{P:Program}{w:World}{H:Hp}{h:Heap}{a C dx:Addr}{fs:List (Str×V)}
theorem qF9(hok:HOk P w H h)(e:H a=some (.ins C dx fs)):∃ mA,ObjM h a dx C mA/\(∀ f,RelO (fs.lookup f) (mA f))/\PySem.Within mA (fs.map (·.1))/\fs.length<=1000/\H dx=some (.own a):=by
 obtain⟨d,z,ne,ob,mA,n,r,q⟩:=(show ObjOk P w H h a (.ins C dx fs) from hok a _ e)
 exact⟨mA,⟨ob,n,ne⟩,r,q,z,d⟩
end
structure Cls(K:PySem.W.Frag)(C:Addr):Prop where
 pg:PySem.W.plainGet K C Str.empty=true
 hd:PySem.W.hasDictIn K C=true
 po:PySem.W.plainOver K C=true
 sa:PySem.W.findIn K (.ref C) "__setattr__" = some (some (.builtin "object.__setattr__"))
theorem Cls.get{K:PySem.W.Frag}{C:Addr}(c:Cls K C)(f:Str):PySem.W.plainGet K C f=true:=c.pg
def qe3(K:PySem.W.Frag)(C:Addr)(f:Str):Prop:=PySem.W.findIn K (.ref C) f=some none
theorem qe3.taker{K:PySem.W.Frag}{C:Addr}{f:Str}(n:qe3 K C f):PySem.W.takerIn K C f=some none:=by
 unfold PySem.W.takerIn;rw[show PySem.W.findIn K (.ref C) f=some none from n];rfl
structure Meth(K:PySem.W.Frag)(C:Addr)(m:Str)(f:Addr):Prop where
 at_:PySem.W.findIn K (.ref C) m=some (some (.ref f))
 fn:PySem.W.isFn K (.ref f)=true
 kp:PySem.W.keepIn K (.ref f)=true
section
variable{X:Cx}{Dk:List (Addr×Obj)}{σ:St}{H:Hp}{s:Shared}{a C dx:Addr}{fs:List (Str×V)}{f:Str}{v:V}{A:Around}{E:Value->Shared->Prop}
theorem qP8{b:Bool}{Q:Value->Shared->Prop}(I:Inv X Dk σ H s)(e:H a=some (.ins C dx fs))(c:Cls X.K C)(n:qe3 X.K C f)(l:fs.lookup f=some v)(h:∀ u s',Inv X Dk σ H s'->RelV v u->Q u s'):wpAny (model X.prog X.w) A (getAttr (.ref a) f b) Q E s:=by
 obtain⟨mA,O,r,_,_,_⟩:=qF9 I.hok e;obtain⟨u,hu,ru⟩:=RelO.some_of (v:=v) (o:=mA f) (by rw[<- l];exact r f);exact qaq9 I.kIn O (c.get f) c.hd n hu (qG2 ru) (h u _ (I.tok _) ru)
theorem qx2{m:Str}{g:Addr}{Q:Value×List Value->Shared->Prop}(I:Inv X Dk σ H s)(e:H a=some (.ins C dx fs))(c:Cls X.K C)(k:Meth X.K C m g)(l:fs.lookup m=none)(h:Q (.ref g,[.ref a]) s):wpAny (model X.prog X.w) A (getMethod (.ref a) m pl) Q E s:=by
 obtain⟨mA,O,r,_,_,_⟩:=qF9 I.hok e;have hn:mA m=none:=RelO.none_of (by rw[<- l];exact r m);exact qag9 I.kIn O (c.get m) k.at_ k.fn hn h
theorem qL3{y:V}{u:Value}{Q:Unit->Shared->Prop}(I:Inv X Dk σ H s)(e:H a=some (.ins C dx fs))(c:Cls X.K C)(n:qe3 X.K C f)(hl:fs.length < 1000)(ry:RelV y u)(h:∀ s',Inv X Dk σ (upd H a (.ins C dx (Be f y fs))) s'->Q () s'):wpAny (model X.prog X.w) A (setAttr (.ref a) f u) Q E s:=by
 obtain⟨mA,O,r,wi,_,ho⟩:=qF9 I.hok e;have hz:(fs.map (·.1)).length<=sizeLine:=by rw[zAj,sizeLine_eq];lia
 refine qal3 I.kIn O c.sa c.po n.taker c.hd wi hz λ h' O' sb=>h _ ?_
 have hd:∃ o,h'.get? dx=some o:=let ⟨o,_,_,e',_⟩:=O'.ns;⟨o,e'⟩
 refine I.write (x:=a) (e:=dx) (by rw[e];exact True.intro) (.inr ho) (λ b q hb z=>(sb.2 b hb).trans z) hd ?_;refine⟨by rw[qb2 O.ne];exact ho,?_,O.ne,O'.obj,_,O'.ns,λ g=>?_,λ g hg=>?_⟩
 . have:=qm2 f y fs;lia
 . show RelO ((Be f y fs).lookup g) (if g=f then some u else mA g)
   rw[qm1];by_cases q:g=f
   . rw[if_pos q,if_pos q];exact ry
   rw[if_neg q,if_neg q];exact r g
 by_cases q:g=f
 . rw[q];exact(qk5 f y fs).1
 refine(qk5 f y fs).2 g (wi g λ z=>hg ?_);show (if g=f then some u else mA g)=none;rw[if_neg q];exact z
theorem Inv.made(I:Inv X Dk σ H s):Inv X Dk σ (upd (upd H s.heap.objs.size (.own (s.heap.objs.size+1))) (s.heap.objs.size+1) (.ins C s.heap.objs.size []))
   { s with heap:=(s.heap.push PySem.W.emptyDict).push (PySem.W.instObj C s.heap.objs.size) }:=by
 have e1:(s.heap.push PySem.W.emptyDict).get? s.heap.objs.size=some PySem.W.emptyDict:=zAw s.heap rfl;have e2:((s.heap.push PySem.W.emptyDict).push (PySem.W.instObj C s.heap.objs.size)).get? (s.heap.objs.size+1)=some (PySem.W.instObj C s.heap.objs.size):=by
   have:=zAw (s.heap.push PySem.W.emptyDict) (o:=PySem.W.instObj C s.heap.objs.size) rfl
   rwa[Heap.size_push] at this
 have e3:(s.heap.push PySem.W.emptyDict).Ns s.heap.objs.size (λ _=>none):=⟨PySem.W.emptyDict,#[],_,e1,rfl,(λ e he=>absurd he (by simp)),λ _=>rfl⟩
 have I1:=I.laid (a:=s.heap.objs.size) (o:=.own (s.heap.objs.size+1)) (h':=s.heap.push PySem.W.emptyDict) (t':=s.toks) (λ b u q=>zA2 _ q) (zA8 _) ⟨_,e1⟩;refine I1.laid (a:=s.heap.objs.size+1) (o:=.ins C s.heap.objs.size []) (t':=s.toks) (λ b u q=>zA2 _ q) (Nat.le_of_eq (Heap.size_push _ _)) ?_;have ne:s.heap.objs.size≠s.heap.objs.size+1:=zAl (zBs _);refine⟨by rw[qb2 ne,qb0],Nat.zero_le _,ne,e2,λ _=>none,(Heap.Ns1.of_empty e3).at λ o q=>zA2 _ q,λ _=>True.intro,λ y hy=>absurd rfl hy⟩
theorem qaa7{prog:Program}{w:World}{env:Env}{e:Expr}{f:Str}{pos:Pos}{s:Shared}{Q:Value->Shared->Prop}(hb:attributeBase e f env (eval e env)=eval e env)(h:wpAny (model prog w) A (eval e env) (λ o s₁=>wpAny (model prog w) A (getAttr o f true) Q E s₁) E s):wpAny (model prog w) A (eval (.Attribute e f pos) env) Q E s :=
 Attribute_any_ h (by rw[arm_eval_Attribute,hb])
end
def tFld(K:PySem.W.Frag)(ta:TE)(f:Str):TE:=λ σ H Q=>ta σ H λ x H1=>∃ a C dx fs v,x=.ref a/\H1 a=some (.ins C dx fs)/\Cls K C/\qe3 K C f/\fs.lookup f=some v/\Q v H1
def sFld(K:PySem.W.Frag)(ta tv:TE)(f:Str):TS:=λ D σ H=>tv σ H λ y H1=>ta σ H1 λ x H2=>∃ a C dx fs,x=.ref a/\H2 a=some (.ins C dx fs)/\Cls K C/\qe3 K C f/\fs.length < 1000 /\
 D.nx σ (upd H2 a (.ins C dx (Be f y fs)))
section
variable{X:Cx}{o e value:Expr}{f:Str}{pos pos':Pos}{ta tv:TE}
theorem qav9(he:PE X e ta)(hb:attributeBase e f X.env (eval e X.env)=eval e X.env):PE X (.Attribute e f pos) (tFld X.K ta f):=by
 intro Dk s σ H Q I h;refine qaa7 hb (thn (he Dk s σ H _ I h) λ u s1 ⟨x,H1,I1,rx,a,C,dx,fs,v,ex,ea,c,n,l,q⟩=>?_);subst ex;obtain rfl:u=Value.ref a:=rx;exact qP8 I1 ea c n l λ u' s2 I2 ru=>⟨v,H1,I2,ru,q⟩
theorem qav1(ha:PE X o ta)(hv:PE X value tv)(hs:swapsWith value (some (.Attribute o f pos')) pos.line X.env=pure false):PS X (.Assign [.Attribute o f pos'] value pos) (sFld X.K ta tv f):=by
 intro Dk s σ H D I h;refine plainObj_wpAny_Assign_Attribute (thn (hv Dk s σ H _ I h) λ u s1 ⟨y,H1,I1,ry,q⟩=>thn (ha Dk s1 σ H1 _ I1 q) λ ov s2 ⟨x,H2,I2,rx,a,C,dx,fs,ex,ea,c,n,l,q2⟩=>?_) hs;subst ex;obtain rfl:ov=Value.ref a:=rx;exact qL3 I2 ea c n l ry λ s3 I3=>⟨σ,_,I3,q2⟩
theorem qaj5{m:Str}{apos:Pos}{args:List Expr}{Dk:List (Addr×Obj)}{s:Shared}{σ:St}{H:Hp}{Q:Value->Shared->Prop}{te:TE}(he:PE X e te)(I:Inv X Dk σ H s)(h:te σ H λ x H1=>∃ a C dx fs g,x=.ref a/\H1 a=some (.ins C dx fs)/\Cls X.K C/\Meth X.K C m g/\fs.lookup m=none /\
     ∀ s1,Inv X Dk σ H1 s1->wpAny (model X.prog X.w) X.A (callWith pos (.ref g) [.ref a] (backTo pos (starEach args X.env)) (backToKw pos (keywordEach [] X.env))) Q X.xe s1)(ht:eval (.Call (.Attribute e m apos) args [] pos) X.env=(do
     let ov <- eval e X.env
     standAt apos.atName
     let (f,first) <- holding [ov] (getMethod ov m pl)
     callWith pos f first (backTo pos (starEach args X.env)) (backToKw pos (keywordEach [] X.env)))) :
   wpAny (model X.prog X.w) X.A (eval (.Call (.Attribute e m apos) args [] pos) X.env) Q X.xe s:=by
 refine PySem.W.methodCall_KW (pl:=pl) (thn (he Dk s σ H _ I h) λ u s1 ⟨x,H1,I1,rx,a,C,dx,fs,g,ex,ea,c,k,l,q⟩=>?_) ht;subst ex;obtain rfl:u=Value.ref a:=rx;exact qx2 I1 ea c k l (q s1 I1)
end
section
variable{X:Cx}{Dk:List (Addr×Obj)}{σ:St}{H:Hp}{s:Shared}{A:Around}{E Q:Value->Shared->Prop}{c:Value}{b:Bool}
inductive Dn(K:PySem.W.Frag)(H:Hp):V->Value->Prop where
 | non:Dn K H .non (.type "NoneType")
 | bl (x:Bool):Dn K H (.bl x) (.type "bool")
 | int (i:Int):Dn K H (.int i) (.type "int")
 | str (x:Str):Dn K H (.str x) (.type "str")
 | flt (x:UInt64):Dn K H (.flt x) (.type "float")
 | lst {a:Addr} {xs:List V} (e:H a=some (.lst xs)):Dn K H (.ref a) (.type "list")
 | frz {a:Addr} {o:Obj} {xs:List V} (e:H a=some (.frz o (.lst xs))):Dn K H (.ref a) (.type "list")
 | tup {a:Addr} {xs:List V} (e:H a=some (.tup xs)):Dn K H (.ref a) (.type "tuple")
 | dK {a:Addr} {kvs:List (Key×V)} (e:H a=some (.dK kvs)):Dn K H (.ref a) (.type "dict")
 | dT {a:Addr} {kvs:List (List Key×V)} (e:H a=some (.dT kvs)):Dn K H (.ref a) (.type "dict")
 | ins {a C dx:Addr} {fs:List (Str×V)} (e:H a=some (.ins C dx fs)) (cl:Cls K C) (ha:PySem.W.findIn K (.ref C) "__class__" = some (some (.builtin "object.__class__")))
     (hn:PySem.W.specialIn K (.builtin "object.__class__") "__get__" = some (some (.builtin "getset_descriptor.__get__"))) (htk:PySem.W.takesIn K (.builtin "object.__class__")=some true)
     (hm:PySem.W.mroIn K C (.type "object")=some true):Dn K H (.ref a) (.ref C)
theorem qv2{x:V}{u t:Value}(I:Inv X Dk σ H s)(rx:RelV x u)(ty:Dn X.K H x t)(e:PySem.W.kitOne X.K t c=some b)(h:∀ tk,Q (.bool b) { s with toks:=tk }) :
   wpAny (model X.prog X.w) A (call (.builtin "isinstance") [u,c]) Q E s:=by
 cases ty with
 | non=>cases (show u=Value.none from rx);exact PySem.W.kia_one PySem.W.kitx_none I.kIn True.intro e (λ z=>nomatch z) h
 | bl y=>cases (show u=Value.bool y from rx);exact PySem.W.kia_one PySem.W.kitx_bool I.kIn True.intro e (λ z=>nomatch z) h
 | int i=>obtain⟨t,q⟩:=(show ∃ t,u=Value.int i t from rx);cases q;exact PySem.W.kia_one PySem.W.kitx_int I.kIn True.intro e (λ z=>nomatch z) h
 | str y=>obtain⟨t,q⟩:=(show ∃ t,u=Value.str y t from rx);cases q;exact PySem.W.kia_one PySem.W.kitx_str I.kIn True.intro e (λ z=>nomatch z) h
 | flt y=>obtain⟨t,q⟩:=(show ∃ t,u=Value.float y t from rx);cases q;exact PySem.W.kia_one PySem.W.kitx_float I.kIn True.intro e (λ z=>nomatch z) h
 | @lst a xs ea =>
   cases (show u=Value.ref a from rx);obtain⟨_,_,n,_,h1⟩:=(show ObjOk X.prog X.w H s.heap a (.lst xs) from I.hok a _ ea)
   exact PySem.W.kia_one PySem.W.kitx_list I.kIn ⟨_,h1,rfl⟩ e (λ z=>nomatch z) h
 | @frz a ob xs ea =>
   cases (show u=Value.ref a from rx);obtain⟨_,_,_,n,_,h1⟩:=(show ObjOk X.prog X.w H s.heap a (.frz ob (.lst xs)) from I.hok a _ ea)
   exact PySem.W.kia_one PySem.W.kitx_list I.kIn ⟨_,h1,rfl⟩ e (λ z=>nomatch z) h
 | @tup a xs ea =>
   cases (show u=Value.ref a from rx);obtain⟨_,_,_,p⟩:=(show ObjOk X.prog X.w H s.heap a (.tup xs) from I.hok a _ ea)
   obtain⟨o,h1,h2,_⟩:=p;exact PySem.W.kia_one PySem.W.kitx_tuple I.kIn ⟨o,h1,h2⟩ e (λ z=>nomatch z) h
 | @dK a kvs ea =>
   cases (show u=Value.ref a from rx);obtain⟨_,_,vs,_,p⟩:=(show ObjOk X.prog X.w H s.heap a (.dK kvs) from I.hok a _ ea)
   obtain⟨o,es,ep,h1,h2,_⟩:=p;exact PySem.W.kia_one PySem.W.kitx_dict I.kIn ⟨o,h1,h2.1⟩ e (λ z=>nomatch z) h
 | @dT a kvs ea =>
   cases (show u=Value.ref a from rx);obtain⟨_,_,xs,_,o,es,ep,h1,h2,_⟩:=(show ObjOk X.prog X.w H s.heap a (.dT kvs) from I.hok a _ ea)
   exact PySem.W.kia_one PySem.W.kitx_dict I.kIn ⟨o,h1,h2.1⟩ e (λ z=>nomatch z) h
 | @ins a C dx fs ea cl ha hn htk hm =>
   cases (show u=Value.ref a from rx);obtain⟨mA,O,_⟩:=qF9 I.hok ea;obtain⟨od,J,_⟩:=O.look;exact PySem.W.kia_one (PySem.W.kitx_own (cl.get _) cl.hd ha hn htk hm) I.kIn J e (λ z=>nomatch z) h
end
structure Room(k:Nat)(A:Around):Prop where
 hd:A.handled=none
 dp:A.depth+3 * k+5 < recursionLimit
 un:A.units+16 * k+200 < cLine
theorem Room.mono{j k:Nat}{A:Around}(r:Room k A)(h:j<=k):Room j A:=⟨r.hd,by have:=r.dp;lia,by have:=r.un;lia⟩
theorem Room.deeper{k:Nat}{A:Around}(r:Room (k+1) A)(env:Env):Room k (A.deeper env) :=
 ⟨r.hd,by have:=r.dp;show A.depth+1+3 * k+5 < _;lia,by have:=r.un;show A.units+3+16 * k+200 < _;lia⟩
theorem qO6{A:Around}{C:Addr}:(A.under (.builtin "type.__call__" ⟨.ref C::us,kw⟩)).depth=A.depth+1:=by
 first | rfl | simp[Around.under,Code.weight,Code.isCreation,Code.isGuard,Code.isCaller,Code.frames,Code.isFrame,guardIds]
theorem qO5{A:Around}{C:Addr}:(A.under (.builtin "type.__call__" ⟨.ref C::us,kw⟩)).units=A.units+1:=by
 first | rfl | simp[Around.under,Code.cUnits,Code.frames,Code.isFrame]
theorem Room.make{k:Nat}{A:Around}(r:Room (k+1) A)(C:Addr)(us:List Value)(kw:List (Str×Value)):Room k (A.under (.builtin "type.__call__" ⟨.ref C::us,kw⟩)) :=
 ⟨r.hd,by have:=r.dp;rw[qO6];lia,by have:=r.un;rw[qO5];lia⟩
theorem Room.depth{k:Nat}{A:Around}(r:Room k A):A.depth < recursionLimit:=by have:=r.dp;lia
theorem Room.units{k:Nat}{A:Around}(r:Room k A):A.units+64 < cLine:=by have:=r.un;lia
def tNil:TA:=λ _ H Q=>Q [] H
def Er(ta:TE)(tr:TA):TA:=λ σ H Q=>ta σ H λ x H1=>tr σ H1 λ xs H2=>Q (x::xs) H2
section
variable{X:Cx}{e:Expr}{es:List Expr}{te:TE}{t:TA}{pos:Pos}
theorem qn2:PA X [] tNil:=λ _ _ _ _ H Q I h=>Calls.spliced_nil ⟨[],H,I,.nil,h⟩
theorem qd4(ha:PE X e te)(hr:PA X es t)(hs:starEach (e::es) X.env=(false,eval e X.env)::starEach es X.env:=by rfl):PA X (e::es) (Er te t):=by
 intro pos Dk s σ H Q I h;rw[hs];show wpAny _ _ (spliced ((false,eval e X.env)::backTo pos (starEach es X.env))) _ _ s;refine Calls.spliced_cons (thn (ha Dk s σ H _ I h) λ u s1 ⟨x,H1,I1,r1,q1⟩=>?_);exact thn (hr pos Dk s1 σ H1 _ I1 q1) λ us s2 ⟨xs,H2,I2,r2,q2⟩=>⟨x::xs,H2,I2,.cons r1 r2,q2⟩
def tTup(t:TA):TE:=λ σ H Q=>t σ H λ xs H1=>xs.length<=sizeLine/\∀ p,H1 p=none->Q (.ref p) (upd H1 p (.tup xs))
def tLst(t:TA):TE:=λ σ H Q=>t σ H λ xs H1=>xs.length<=sizeLine/\∀ p,H1 p=none->Q (.ref p) (upd H1 p (.lst xs))
theorem qae0{x1}(h:PA X es t):PE X (.Tuple es x1 pos) (tTup t):=by
 intro Dk s σ H Q I hq;refine wpAny_Tuple_spliced (thn (h pos Dk s σ H _ I hq) λ us s1 ⟨xs,H1,I1,r,z,q⟩=>⟨by rw[<- r.length];exact z,?_⟩);have hf:H1 s1.heap.objs.size=none:=I1.hok.fresh (zA8 _);refine⟨.ref s1.heap.objs.size,upd H1 s1.heap.objs.size (.tup xs),I1.laid (t':=s1.toks) (λ b u e=>zA2 _ e) (zA8 _) ?_,rfl,q _ hf⟩;exact⟨z,us,r,⟨_,zAw _ rfl,rfl,_,rfl⟩⟩
theorem qT3(h:PA X es t):PE X (.List es pos) (tLst t):=by
 intro Dk s σ H Q I hq;refine wpAny_List_spliced (thn (h pos Dk s σ H _ I hq) λ us s1 ⟨xs,H1,I1,r,z,q⟩=>⟨by rw[<- r.length];exact z,?_⟩);have hf:H1 s1.heap.objs.size=none:=I1.hok.fresh (zA8 _);refine⟨.ref s1.heap.objs.size,upd H1 s1.heap.objs.size (.lst xs),I1.laid (t':=s1.toks) (λ b u e=>zA2 _ e) (zA8 _) ?_,rfl,q _ hf⟩;exact⟨z,us,0,r,zAw _ rfl⟩
end
abbrev Sp:=List V->Hp->VK->XK->Prop
abbrev CXT:=List Env->Hp->Shared->XK->Value->Shared->Prop
structure Env0(P:Program)(w:World)(K:PySem.W.Frag)(mg:Str->Option Value)(base:Heap)(A:Around)(outer:List Env)(s:Shared)(H:Hp):Prop where
 frames:A.frames=some outer
 mod:Mod K mg base
 bs:∀ b o,base.get? b=some o->s.heap.get? b=some o/\H b=none
 bsz:base.objs.size<=s.heap.objs.size
 funs:s.heap.FunFrames base outer
 frf:∀ b∈frs outer,H b=none
 hok:HOk P w H s.heap
 bare:AllBare s.gens
def CE(outer:List Env)(P:Program)(w:World)(H:Hp)(s:Shared)(Q:VK)(u:Value)(s':Shared):Prop :=
 ∃ v H',s'.os=s.os/\AllBare s'.gens/\Un (frs outer) [] H H' s.heap s'.heap/\HOk P w H' s'.heap/\RelV v u/\Q v H'
def CR(CX:CXT)(outer:List Env)(P:Program)(w:World)(H:Hp)(s:Shared)(Q:VK)(E:XK)(r:Result)(s':Shared):Prop :=
 match r with
 | .ok (.ret u)=>CE outer P w H s Q u s'
 | .ok _=>False
 | .error e=>CX outer H s E e s'
structure Bh(P:Program)(w:World)(K:PySem.W.Frag)(mg:Str->Option Value)(base:Heap)(CX:CXT)(k:Nat)(f:Addr)(fd:FuncData)(ps:List Str)(sp:Sp):Prop where
 len:∀ vs H Q E,sp vs H Q E->vs.length=ps.length
 run:∀(A:Around)(outer:List Env)(s:Shared)(H:Hp)(args:Args)(us:List Value)(vs:List V)(Q:VK)(E:XK),Room k A->Env0 P w K mg base A outer s H->BindsTo s fd args (ps.zip us)->Vals vs us->sp vs H Q E ->
   codeAny (model P w) A (.call (.ref f) args) (CR CX outer P w H s Q E) s
theorem Env0.make{P:Program}{w:World}{K:PySem.W.Frag}{A:Around}{outer:List Env}{s:Shared}{H:Hp}(e:Env0 P w K mg base A outer s H)(C:Addr)(us:List Value)(kw:List (Str×Value)) :
   Env0 P w K mg base (A.under (.builtin "type.__call__" ⟨.ref C::us,kw⟩)) outer s H:=⟨by first | exact e.frames | (simpa[Around.under,Code.envs,Code.isFrame,pushEnvs] using e.frames),e.mod,e.bs,e.bsz,e.funs,e.frf,e.hok,e.bare⟩
section
variable{X:Cx}{Dk:List (Addr×Obj)}{σ:St}{H:Hp}{s s':Shared}
theorem Inv.env0(I:Inv X Dk σ H s):Env0 X.prog X.w X.K X.mg X.base X.A X.stack s H :=
 ⟨I.ok.frames,I.ok.mod,I.bs,zAm I.ok.bsz I.sz,I.stack,I.stkFree,I.hok,I.bare⟩
theorem Inv.after{Q:VK}{u:Value}(I:Inv X Dk σ H s)(h:CE X.stack X.prog X.w H s Q u s'):EP X Dk σ Q u s':=by
 obtain⟨v,H',os,bare,un,hok,r,q⟩:=h;obtain⟨hh,g,d,t,os'⟩:=s';obtain rfl:os'=s.os:=os;exact⟨v,H',I.call (h':=hh) (g':=g) (d':=d) (t':=t) (ch:=[]) un hok bare (λ b z=>absurd z (by simp)),r,q⟩
end
def Fd(sp:Sp)(dvs:List V)(E:XK)(t:TA):TE:=λ σ H Q=>t σ H λ vs H1=>sp (vs++dvs) H1 Q E
def tMeth(C:Addr)(m:Str)(sp:Sp)(dvs:List V)(E:XK)(ta:TE)(t:TA):TE:=λ σ H Q=>ta σ H λ x H1=>∃ a dx fs,x=.ref a/\H1 a=some (.ins C dx fs)/\fs.lookup m=none /\
 t σ H1 λ vs H2=>sp (x::(vs++dvs)) H2 Q E
def tMake(C:Addr)(sp:Sp)(dvs:List V)(E:XK)(t:TA):TE:=λ σ H Q=>t σ H λ vs H1=>∀ x dx,H1 x=none->H1 dx=none->dx≠x ->
 sp (.ref x::(vs++dvs)) (upd (upd H1 dx (.own x)) x (.ins C dx [])) (λ v H2=>v=.non/\Q (.ref x) H2) E
def Binds(K:PySem.W.Frag)(fd:FuncData)(ps:List Str)(ds:List Value):Prop :=
 ∀(s:Shared)(us:List Value),K.In s.heap->(us++ds).length=ps.length->BindsTo s fd ⟨us,[]⟩ (ps.zip (us++ds))
theorem Binds.all{K:PySem.W.Frag}{fd:FuncData}{ps:List Str}(h:∀ us:List Value,us.length=ps.length->bindArgs fd ⟨us,[]⟩=pure (ps.zip us)):Binds K fd ps []:=λ s us _ hl=>by
 rw[zAa] at hl ⊢;exact .of_eq (h us hl)
def qD8(CX:CXT)(X:Cx)(E:XK):Prop:=∀(Dk:List (Addr×Obj))(σ:St)(H:Hp)(s:Shared)(e:Value)(s':Shared),Inv X Dk σ H s->CX X.stack H s E e s'->X.xe e s'
section
variable{X:Cx}{CX:CXT}{k:Nat}{f C:Addr}{fd:FuncData}{ps:List Str}{sp:Sp}{dvs:List V}{ds:List Value}{E:XK}{x m:Str}{p pos apos:Pos}{e o:Expr}{es:List Expr}{ta:TE}{t:TA}
theorem qal6{Dk:List (Addr×Obj)}{σ:St}{H:Hp}{s:Shared}{Q:VK}{vs:List V}(F:Bh X.prog X.w X.K X.mg X.base CX k f fd ps sp)(hr:Room k X.A)(hb:Binds X.K fd ps ds)(hd:Vals dvs ds)(hx:qD8 CX X E)(I:Inv X Dk σ H s)(r:Vals vs us)(h:sp (vs++dvs) H Q E):wpAny (model X.prog X.w) X.A (call (.ref f) us) (EP X Dk σ Q) X.xe s:=by
 have r2:Vals (vs++dvs) (us++ds):=r.append hd;have hl:(us++ds).length=ps.length:=by rw[<- r2.length];exact F.len _ _ _ _ h
 refine wpAny_call (codeAny_mono (F.run X.A X.stack s H ⟨us,[]⟩ (us++ds) (vs++dvs) Q E hr I.env0 (hb s us I.kIn hl) r2 h) λ r s' hq=>?_);cases r with
 | error e=>exact hx Dk σ H s e s' I hq
 | ok fl =>
   cases fl with
   | ret u=>exact I.after hq
   | next=>exact False.elim hq
   | brk=>exact False.elim hq
   | cont=>exact False.elim hq
theorem qE9(F:Bh X.prog X.w X.K X.mg X.base CX k f fd ps sp)(hr:Room k X.A)(hg:Gl X x)(hm:X.mg x=some (.ref f))(hk:PySem.W.keepIn X.K (.ref f)=true)(hb:Binds X.K fd ps ds)(hd:Vals dvs ds)(hx:qD8 CX X E)(ha:PA X (e::es) t)(hdb:(x == ("__debug__" : Str))=false:=by decide)(he:starEach (e::es) X.env=(false,eval e X.env)::starEach es X.env:=by rfl)(hpl:(backTo pos (starEach es X.env)).any (·.1)=false:=by rfl) :
   PE X (.Call (.Name x p) (e::es) [] pos) (Fd sp dvs E t):=by
 intro Dk s σ H Q I h;refine wpAny_Call_Name_kw (qx0 I hg hm ?_ hdb);refine PySem.W.callWith_K (h₀:=X.base) I.ok.mod.kin hk (thn (ha pos Dk s σ H _ I h) λ us s1 ⟨vs,H1,I1,r,q⟩=>⟨I1.kIn,?_⟩) he hpl;exact qal6 F hr hb hd hx I1 r q
theorem qan2(he:PE X o ta)(c:Cls X.K C)(hm:Meth X.K C m f)(F:Bh X.prog X.w X.K X.mg X.base CX k f fd ps sp)(hr:Room k X.A)(hb:Binds X.K fd ps ds)(hd:Vals dvs ds)(hx:qD8 CX X E)(ha:PA X (e::es) t)(hst:starEach (e::es) X.env=(false,eval e X.env)::starEach es X.env:=by rfl)(hpl:(backTo pos (starEach es X.env)).any (·.1)=false:=by rfl)(ht:eval (.Call (.Attribute o m apos) (e::es) [] pos) X.env=(do
     let ov <- eval o X.env
     standAt apos.atName
     let (f,first) <- holding [ov] (getMethod ov m pl)
     callWith pos f first (backTo pos (starEach (e::es) X.env)) (backToKw pos (keywordEach [] X.env))):=by rfl) :
   PE X (.Call (.Attribute o m apos) (e::es) [] pos) (tMeth C m sp dvs E ta t):=by
 intro Dk s σ H Q I h;refine PySem.W.methodCall_KW (pl:=pl) (thn (he Dk s σ H _ I h) λ u s1 ⟨x,H1,I1,rx,a,dx,fs,ex,ea,l,q⟩=>?_) ht;subst ex;obtain rfl:u=Value.ref a:=rx;refine qx2 I1 ea c hm l ?_;refine PySem.W.callWith_K (first:=[.ref a]) (h₀:=X.base) I.ok.mod.kin hm.kp (thn (ha pos Dk s1 σ H1 _ I1 q) λ us s2 ⟨vs,H2,I2,r,q2⟩=>⟨I2.kIn,?_⟩) hst hpl;exact qal6 (us:=.ref a::us) (vs:=.ref a::vs) F hr hb hd hx I2 (.cons rfl r) q2
structure Mk(K:PySem.W.Frag)(C f:Addr):Prop where
 makes:PySem.W.makesIn K C=true
 init:PySem.W.findIn K (.ref C) "__init__" = some (some (.ref f))
 fn:PySem.W.isFn K (.ref f)=true
 kp:PySem.W.keepIn K (.ref C)=true
theorem qad0{Dk:List (Addr×Obj)}{σ:St}{H:Hp}{s:Shared}{Q:VK}{vs:List V}(M:Mk X.K C f)(F:Bh X.prog X.w X.K X.mg X.base CX k f fd ps sp)(hr:Room (k+1) X.A)(hb:Binds X.K fd ps ds)(hd:Vals dvs ds)(hx:qD8 CX X E)(I:Inv X Dk σ H s)(r:Vals vs us)(h:∀ x dx,H x=none->H dx=none->dx≠x->sp (.ref x::(vs++dvs)) (upd (upd H dx (.own x)) x (.ins C dx [])) (λ v H2=>v=.non/\Q (.ref x) H2) E) :
   wpAny (model X.prog X.w) X.A (call (.ref C) us) (EP X Dk σ Q) X.xe s:=by
 have hq:=h (s.heap.objs.size+1) s.heap.objs.size (I.hok.fresh (Nat.le_succ _)) (I.hok.fresh (zA8 _)) (zAl (zBs _));have I2:=Inv.made (C:=C) I;have r2:Vals (V.ref (s.heap.objs.size+1)::(vs++dvs)) (Value.ref (s.heap.objs.size+1)::(us++ds)):=.cons rfl (r.append hd);have hl:(Value.ref (s.heap.objs.size+1)::us++ds).length=ps.length:=by
   have e:=r2.length;rw[F.len _ _ _ _ hq] at e;exact e.symm
 refine wpAny_call (qaf9 (f:=f) I.kIn M.makes M.init (zBg.mp M.fn) (codeAny_mono (F.run _ X.stack _ _ ⟨Value.ref (s.heap.objs.size+1)::us,[]⟩ (Value.ref (s.heap.objs.size+1)::(us++ds)) _ _ E (hr.make C us [])
   (I2.env0.make C us []) (hb _ (Value.ref (s.heap.objs.size+1)::us) I2.kIn hl) r2 hq) λ r s' hq'=>?_))
 cases r with
 | error e=>exact hx Dk σ _ _ e s' I2 hq'
 | ok fl =>
   cases fl with
   | ret u =>
     obtain⟨v,H',I3,rv,ev,q3⟩:=I2.after hq';subst ev;exact⟨rv,⟨V.ref (s.heap.objs.size+1),H',I3,rfl,q3⟩⟩
   | next=>exact False.elim hq'
   | brk=>exact False.elim hq'
   | cont=>exact False.elim hq'
theorem qan3(M:Mk X.K C f)(F:Bh X.prog X.w X.K X.mg X.base CX k f fd ps sp)(hr:Room (k+1) X.A)(hg:Gl X x)(hm:X.mg x=some (.ref C))(hb:Binds X.K fd ps ds)(hd:Vals dvs ds)(hx:qD8 CX X E)(ha:PA X (e::es) t)(hdb:(x == ("__debug__" : Str))=false:=by decide)(he:starEach (e::es) X.env=(false,eval e X.env)::starEach es X.env:=by rfl)(hpl:(backTo pos (starEach es X.env)).any (·.1)=false:=by rfl) :
   PE X (.Call (.Name x p) (e::es) [] pos) (tMake C sp dvs E t):=by
 intro Dk s σ H Q I h;refine wpAny_Call_Name_kw (qx0 I hg hm ?_ hdb);refine PySem.W.callWith_K (h₀:=X.base) I.ok.mod.kin M.kp (thn (ha pos Dk s σ H _ I h) λ us s1 ⟨vs,H1,I1,r,q⟩=>⟨I1.kIn,?_⟩) he hpl;exact qad0 M F hr hb hd hx I1 r q
end
structure qb1(N P:List Str)(sc:Scope):Prop where
 kind:sc.kind=.function
 co:sc.isCoroutine=false
 gen:sc.isGenerator=false
 nd:N.Nodup
 pre:N.take P.length=P
 par:∀ x∈P,sc.names.lookup x=some .local∨sc.names.lookup x=some .cell
 nofree:∀ y∈sc.names,y.2≠.free
theorem qI2{kindOf:Str->Option NameKind}{x:Str}:∀{binds:List (Str×Value)}{m:Str->Option Value},(∀ v,(x,v)∉binds)->bindL kindOf binds m x=m x
 | [],_,_=>rfl
 | (n,v)::r,m,h=>by
   unfold bindL;rw[qI2 λ w hw=>h w (zA9 _ hw)];split
   . have:x≠n:=by rintro rfl;exact h v zAc
     simp[this]
   rfl
theorem qI4{kindOf:Str->Option NameKind}{x:Str}:∀{binds:List (Str×Value)}{m:Str->Option Value},(∀ v,(x,v)∉binds)->bindC kindOf binds m x=m x
 | [],_,_=>rfl
 | (n,v)::r,m,h=>by
   unfold bindC;rw[qI4 λ w hw=>h w (zA9 _ hw)];split
   . rfl
   have:x≠n:=by rintro rfl;exact h v zAc
   simp[this]
theorem qI3{kindOf:Str->Option NameKind}{x:Str}{v:Value}:∀{P:List Str}{vs:List Value}{i:Nat}{m:Str->Option Value},P.Nodup->P[i]? = some x->vs[i]? = some v->kindOf x=some .local ->
   bindL kindOf (P.zip vs) m x=some v
 | [],_,_,_,_,h,_,_=>by simp at h
 | _::_,[],_,_,_,_,h,_=>by simp at h
 | p::P,w::vs,0,m,nd,h1,h2,hk=>by
   simp at h1 h2;subst h1;subst h2;show bindL kindOf ((p,w)::P.zip vs) m p=_;unfold bindL;rw[qI2 λ v hv=>(zBu.mp nd).1 (List.of_mem_zip hv).1,if_pos hk];simp
 | p::P,w::vs,i+1,m,nd,h1,h2,hk=>by
   show bindL kindOf ((p,w)::P.zip vs) m x=_;unfold bindL;exact qI3 (i:=i) (zBu.mp nd).2 (by simpa using h1) (by simpa using h2) hk
theorem qI5{kindOf:Str->Option NameKind}{x:Str}{v:Value}:∀{P:List Str}{vs:List Value}{i:Nat}{m:Str->Option Value},P.Nodup->P[i]? = some x->vs[i]? = some v->kindOf x≠some .local ->
   bindC kindOf (P.zip vs) m x=some v
 | [],_,_,_,_,h,_,_=>by simp at h
 | _::_,[],_,_,_,_,h,_=>by simp at h
 | p::P,w::vs,0,m,nd,h1,h2,hk=>by
   simp at h1 h2;subst h1;subst h2;show bindC kindOf ((p,w)::P.zip vs) m p=_;unfold bindC;rw[qI4 λ v hv=>(zBu.mp nd).1 (List.of_mem_zip hv).1,if_neg hk];simp
 | p::P,w::vs,i+1,m,nd,h1,h2,hk=>by
   show bindC kindOf ((p,w)::P.zip vs) m x=_;unfold bindC;exact qI5 (i:=i) (zBu.mp nd).2 (by simpa using h1) (by simpa using h2) hk
def start(N:List Str)(vs:List V):St:=vs.map some++List.replicate (N.length - vs.length) none
def B9(CX:CXT)(P:Program)(w:World)(K:PySem.W.Frag)(mg:Str->Option Value)(base:Heap)(N:List Str)(qual:Str)(scope:Scope)(f:Addr)(cd:Value)(A:Around)(outer:List Env)(s:Shared)(H:Hp)(E:XK):Cx where
 prog:=P
 w:=w
 K:=K
 mg:=mg
 base:=base
 A:=A.deeper (envOfC qual scope s.heap.objs.size f cd)
 N:=N
 s₀:=s
 H₀:=H
 env:=envOfC qual scope s.heap.objs.size f cd
 outer:=outer
 stack:=envOfC qual scope s.heap.objs.size f cd::outer
 ex:=[]
 calm:=true
 fn:=λ _=>true
 pn:=[]
 xe:=λ e s'=>wpAny (model P w) (A.deeper (envOfC qual scope s.heap.objs.size f cd)) (leaving (envOfC qual scope s.heap.objs.size f cd) e) (λ _ s''=>CX outer H s E e s'') (λ e' s''=>CX outer H s E e' s'') s'
theorem qR3{sc:Scope}{n:Nat}{x:Str}(h:sc.names.lookup x=some .cell):∃ c,(cellsFrom n sc.names []).lookup x=some c:=by
 have q:=PySem.W.cellsFrom_some sc.names n [] (.inl h);exact zB3.mp q
theorem qU5{CX:CXT}{P:Program}{w:World}{K:PySem.W.Frag}{ps:List Str}{qual:Str}{scope:Scope}{f:Addr}{cd:Value}{A:Around}{outer:List Env}{s s1:Shared}{H:Hp}{E:XK}{vs:List V}(S:qb1 N ps scope)(hd:A.handled=none)(e0:Env0 P w K mg base A outer s H)(hl:vs.length=ps.length)(r:Vals vs us)(x:InCallC s s.heap.objs.size (bindL (envOfC qual scope s.heap.objs.size f cd).kindOf (ps.zip us) λ _=>none) (cellsFrom (s.heap.objs.size+1) scope.names []) (bindC (envOfC qual scope s.heap.objs.size f cd).kindOf (ps.zip us) λ _=>none) s1) :
   Inv (B9 CX P w K mg base N qual scope f cd A outer s H E) [] (start N vs) H s1:=by
 have hpl:ps.length<=N.length:=by have:=congrArg List.length S.pre;rw[zBl] at this;lia
 obtain⟨h1,tk,rfl,hk⟩:=x.done;have noA:∀ b:Addr,b∉(B9 CX P w K mg base N qual scope f cd A outer s H E).ex:=λ b z=>absurd (show b∈([]:List Addr) from z) (by simp)
 refine⟨⟨e0.mod,S.kind,rfl,rfl,zA8 _,λ y z c h1 h2=>?_,λ y hy=>?_,λ y c _ h=>?_,λ _=>hd,Around.frames_deeper e0.frames,.inr ⟨rfl,rfl⟩,λ b z=>absurd z (noA b),e0.bs,e0.bsz,λ b _ _=>noA b,λ b z=>absurd z (noA b),e0.funs,e0.frf⟩,
   rfl,e0.bare,Un.kept hk,⟨_,x.toInCall.ns,λ i y v h1 h2 h3=>?_⟩,λ y c h=>⟨_,x.cell y c h⟩,e0.hok.fresh (zA8 _),λ y c h=>?_,λ p hp=>absurd (show p∈([]:List (Addr×Obj)) from hp) (by simp),e0.hok.kept hk,?_⟩
 . exact name_of_addr x.apart (PySem.mem_of_lookup h1) (PySem.mem_of_lookup h2)
 . have hy:scope.names.lookup y=some .cell∨scope.names.lookup y=some .free:=hy
   rcases hy with hy | hy
   . exact qR3 hy
   exact absurd rfl (S.nofree _ (PySem.mem_of_lookup hy))
 . exact Nat.le_of_lt (x.above y c (PySem.mem_of_lookup h))
 . have hi:i < vs.length:=by
     unfold start at h2;by_cases hi:i < vs.length
     . exact hi
     rw[List.getElem?_append_right (by simpa using hi)] at h2;rw[List.getElem?_replicate] at h2;split at h2<;>cases h2
   have ha:vs[i]? = some v:=by
     unfold start at h2;rw[zAo (by simpa using hi),zBe] at h2;cases e:vs[i]? with
     | none=>rw[e] at h2;cases h2
     | some a=>rw[e] at h2;cases h2;rfl
   obtain⟨u,hu,rv⟩:=r.get ha;have hp:ps[i]? = some y:=by
     rw[<- S.pre,List.getElem?_take_of_lt (by lia)];exact h1
   have ndP:ps.Nodup:=by rw[<- S.pre];exact S.nd.sublist (List.take_sublist _ _)
   refine⟨u,rv,?_⟩;rcases S.par y (zBd hp) with k | k
   . exact .inl ⟨k,qI3 ndP hp hu k⟩
   obtain⟨c,e⟩:=qR3 (n:=s.heap.objs.size+1) k;refine .inr ⟨.inl k,c,e,?_⟩;have q:=x.cell y c e;rw[qI5 ndP hp hu (by show scope.names.lookup y≠_;rw[k];decide)] at q;exact q
 . exact e0.hok.fresh (Nat.le_of_lt (x.above y c (PySem.mem_of_lookup h)))
 unfold start;show _=N.length;rw[zAf,zAj,List.length_replicate];lia
theorem G0{CX:CXT}{P:Program}{w:World}{K:PySem.W.Frag}{k:Nat}{f:Addr}{name qual:Str}{params:Arguments}{scope:Scope}{dV kV doc pm cdv ct oc:Value}{an od:Option Addr}{osl:Array (Option Value)}{ps:List Str}{sp:Sp}(lk:K.lookup f=some ⟨oc,od,.func (PySem.W.fnOf name qual params body scope dV kV doc pm an cdv ct),osl⟩)(hcd:PySem.W.codeIn K cdv qual=true)(S:qb1 N ps scope)(len:∀ vs H Q E,sp vs H Q E->vs.length=ps.length)(hbody:∀(A:Around)(outer:List Env)(s:Shared)(H:Hp)(vs:List V)(Q:VK)(E:XK),Room k (A.deeper (envOfC qual scope s.heap.objs.size f cdv))->sp vs H Q E ->
     ∃ t,PSs (B9 CX P w K mg base N qual scope f cdv A outer s H E) body t/\t { nx:=λ _ H'=>Q .non H',rt:=Q } (start N vs) H) :
   Bh P w K mg base CX (k+1) f (PySem.W.fnOf name qual params body scope dV kV doc pm an cdv ct) ps sp:=by
 refine⟨len,λ A outer s H args us vs Q E hr e0 hb r hsp=>?_⟩;have hl:=len _ _ _ _ hsp;have KX:K.In s.heap:=e0.mod.kin.keeps λ b o e=>(e0.bs b o e).1
 have lim:s.heap.NoLimit:=e0.mod.nolimit.keeps λ b o e=>(e0.bs b o e).1
 have hkind:∀ y∈ps.zip us,scope.names.lookup y.1=some .local∨(scope.names.lookup y.1=some .cell/\((cellsFrom (s.heap.objs.size+1) scope.names []).lookup y.1).isSome=true):=λ ⟨n,v⟩ hy=>by
   rcases S.par n (List.of_mem_zip hy).1 with q | q
   . exact .inl q
   exact .inr ⟨q,PySem.W.cellsFrom_some _ _ _ (.inl q)⟩
 refine codeAny_call_function hr.depth (KX _ _ lk) rfl S.co S.gen rfl (PySem.W.codeRec_of KX hcd) (hb _ _ _ _ ?_);refine wpAny_newFunctionEnv_cells S.kind hkind λ env he s1 x=>?_
 subst he;refine⟨lim.keeps x.toInCall.keep,codeAny_func ?_⟩;obtain⟨t,ht,hq⟩:=hbody A outer s H vs Q E (hr.deeper _) hsp;have I:Inv (B9 CX P w K mg base N qual scope f cdv A outer s H E) [] (start N vs) H s1:=qU5 S hr.hd e0 hl r x;refine wpAny_mono (ht [] s1 (start N vs) H _ I hq) (λ fl s' hs=>?_) λ e s' hs=>hs
 have fin:∀{σ':St}{H':Hp}{v:V}{u:Value},Inv (B9 CX P w K mg base N qual scope f cdv A outer s H E) [] σ' H' s'->RelV v u->Q v H'->CE outer P w H s Q u s' :=
   λ{σ' H' v u} J rv q=>⟨v,H',J.os,J.bare,J.base,J.hok,rv,q⟩
 cases fl with
 | ret u =>
   obtain⟨v,σ',H',J,rv,q⟩:=hs;exact fin J rv q
 | next =>
   obtain⟨σ',H',J,q⟩:=hs;exact fin (v:=V.non) (u:=Value.none) J rfl q
 | brk =>
   obtain⟨_,_,_,q⟩:=hs;exact False.elim q
 | cont =>
   obtain⟨_,_,_,q⟩:=hs;exact False.elim q
section
variable{X:Cx}{x:Str}{p pos:Pos}{e:Expr}{es:List Expr}{t:TA}{id T:String}{r:List V->Hp->VK->Prop}
def tCB(r:List V->Hp->VK->Prop)(t:TA):TE:=λ σ H Q=>t σ H λ vs H1=>r vs H1 Q
theorem qae4(hc:CallR X (.builtin id) r)(hg:Gl X x)(hm:X.mg x=none)(hv:bootBuiltins x=some (.builtin id))(ha:PA X (e::es) t)(hn:x ≠ "__name__" := by decide)(hdb:(x == ("__debug__" : Str))=false:=by decide)(he:starEach (e::es) X.env=(false,eval e X.env)::starEach es X.env:=by rfl)(hpl:(backTo pos (starEach es X.env)).any (·.1)=false:=by rfl):PE X (.Call (.Name x p) (e::es) [] pos) (tCB r t):=by
 intro Dk s σ H Q I h;refine wpAny_Call_Name_kw (qJ7 I hg hm hv ?_ hn hdb);exact PyProof.Rows.callWith_builtin1 (thn (ha pos Dk s σ H _ I h) λ us s1 ⟨vs,H1,I1,r1,q1⟩=>hc Dk s1 σ H1 vs us Q I1 r1 q1) he hpl
theorem qT5(hc:CallR X (.type T) r)(hg:Gl X x)(hm:X.mg x=none)(hv:bootBuiltins x=some (.type T))(ha:PA X (e::es) t)(hn:x ≠ "__name__" := by decide)(hdb:(x == ("__debug__" : Str))=false:=by decide)(he:starEach (e::es) X.env=(false,eval e X.env)::starEach es X.env:=by rfl)(hpl:(backTo pos (starEach es X.env)).any (·.1)=false:=by rfl):PE X (.Call (.Name x p) (e::es) [] pos) (tCB r t):=by
 intro Dk s σ H Q I h;refine wpAny_Call_Name_kw (qJ7 I hg hm hv ?_ hn hdb);exact PyProof.Rows.callWith_type1 (thn (ha pos Dk s σ H _ I h) λ us s1 ⟨vs,H1,I1,r1,q1⟩=>hc Dk s1 σ H1 vs us Q I1 r1 q1) he hpl
end
end L2
namespace HT
open PySem PyProof.Rows
section
def sIx(n d:Nat):Option Int->Nat
 | none=>d
 | some v=>if v < 0 then (v+(n:Int)).toNat else min v.toNat n
theorem qA6(n d:Nat):sIx n d none=d:=rfl
theorem qM3(n d k:Nat):sIx n d (some (k:Int))=min k n:=by
 show (if (k:Int) < 0 then ((k:Int)+(n:Int)).toNat else min (k:Int).toNat n)=min k n;rw[if_neg (by lia),Int.toNat_natCast]
end
end HT
namespace L2
open PySem PySem.Spec PyProof.Rows
variable{its us:List Value}{n:Nat}{x:V}{α:Type}
abbrev TO:=St->Hp->(Option Int->Hp->Prop)->Prop
def PO(X:Cx)(e:Option Expr)(t:TO):Prop :=
 ∀(Dk:List (Addr×Obj))(s:Shared)(σ:St)(H:Hp)(Q:Option Int->Hp->Prop),Inv X Dk σ H s->t σ H Q ->
   wpAny (model X.prog X.w) X.A (evalPart e X.env) (λ u s'=>∃ o H',Inv X Dk σ H' s'/\IsPart u o/\Q o H') X.xe s
def qak6:TO:=λ _ H Q=>Q none H
def tPart(t:TE):TO:=λ σ H Q=>t σ H λ x H1=>∃ i,x=.int i/\Q (some i) H1
theorem qP5{ns:List Int}:∀{us:List Value},Vals (ns.map V.int) us->IntsAre us ns:=by
 induction ns with
 | nil=>intro us r;rw[List.map_nil] at r;cases r;exact .nil
 | cons n ns ih =>
   intro us r;rw[zAu] at r;cases r with
   | cons r1 r2 =>
     obtain⟨t,e⟩:=r1;subst e;exact .cons n t (ih r2)
section
variable{X:Cx}{e:Expr}{te:TE}{lo hi:Option Expr}{tl th:TO}{pos p2:Pos}
theorem qY5:PO X none qak6:=by
 intro Dk s σ H Q I h;rw[evalPart_none];exact wpAny_pure ⟨none,H,I,.none,h⟩
theorem qY4(h:PE X e te):PO X (some e) (tPart te):=by
 intro Dk s σ H Q I hw;rw[evalPart_some];refine thn (h Dk s σ H _ I hw) λ u s1 ⟨x,H1,I1,r1,q1⟩=>?_
 obtain⟨i,rfl,q⟩:=q1;obtain⟨t,rfl⟩:=r1;exact⟨some i,H1,I1,.int i t,q⟩
def SlR(X:Cx)(r:V->Option Int->Option Int->Hp->VK->Prop):Prop :=
 ∀(Dk:List (Addr×Obj))(s:Shared)(σ:St)(H:Hp)(x:V)(v vl vu:Value)(lo hi:Option Int)(sl:Addr)(Q:VK),Inv X Dk σ H s->RelV x v->s.heap.IsSliceOf sl vl vu .none->IsPart vl lo->IsPart vu hi->r x lo hi H Q ->
   ∃ T id,typeLookup (.type T) "__getitem__" = pure (some (.builtin id))/\s.TypeIs v T/\wpAny (model X.prog X.w) X.A (getItem v (.ref sl)) (EP X Dk σ Q) X.xe s
def tSl(r:V->Option Int->Option Int->Hp->VK->Prop)(te:TE)(tl th:TO):TE:=λ σ H Q=>te σ H λ x H1=>tl σ H1 λ l H2=>th σ H2 λ u H3=>r x l u H3 Q
theorem qN1{r:V->Option Int->Option Int->Hp->VK->Prop}(hr:SlR X r)(he:PE X e te)(hl:PO X lo tl)(hu:PO X hi th):PE X (.Subscript e (.Slice lo hi none p2) pos) (tSl r te tl th):=by
 intro Dk s σ H Q I h;refine Subscript_ (thn (he Dk s σ H _ I h) λ v s1 ⟨x,H1,I1,r1,q1⟩=>?_);refine wpAny_Slice (thn (hl Dk s1 σ H1 _ I1 q1) λ vl s2 ⟨l,H2,I2,pl,q2⟩=>thn (hu Dk s2 σ H2 _ I2 q2) λ vu s3 ⟨u,H3,I3,pu,q3⟩=>?_);rw[evalPart_none];refine wpAny_pure ?_;have I4:Inv X Dk σ H3 { s3 with heap:=s3.heap.push { cls:=.type "slice",data:=.fields #[vl,vu,.none] } }:=I3.kept (t':=s3.toks) λ b ob q=>zA2 _ q
 obtain⟨T,id,hT,ht,hg⟩:=hr Dk { s3 with heap:=s3.heap.push { cls:=.type "slice",data:=.fields #[vl,vu,.none] } } σ H3 x v vl vu l u s3.heap.objs.size Q I4 r1 (Heap.IsSliceOf.new ..) pl pu q3;show wpAny (model X.prog X.w) X.A (subscriptTail e (.Slice lo hi none p2) v (.ref s3.heap.objs.size)) (EP X Dk σ Q) X.xe { s3 with heap:=s3.heap.push { cls:=.type "slice",data:=.fields #[vl,vu,.none] } };exact tail_any (ops:=[.ref s3.heap.objs.size,v]) ht hT hg (by with_unfolding_all rfl)
def Fe(xs:List V)(lo hi:Option Int):List V:=(xs.drop (HT.sIx xs.length 0 lo)).take (HT.sIx xs.length xs.length hi - HT.sIx xs.length 0 lo)
theorem qJ9(xs:List V)(lo hi:Option Int):(Fe xs lo hi).length<=xs.length:=by
 unfold Fe;rw[zBl,List.length_drop];lia
end
def ixN(n:Nat)(i:Int):Option Nat:=if 0<=i then (if i < n then some i.toNat else none) else if -(n:Int)<=i then some (i+n).toNat else none
def atI{α:Type}(xs:List α)(i:Int):Option α:=(ixN xs.length i).bind λ j=>xs[j]?
theorem qF6{i:Int}{j:Nat}(h:ixN n i=some j):seqIndex? i n=some j/\j < n/\-(n:Int)<=i/\i < n:=by
 unfold ixN at h;by_cases h0:0<=i
 . rw[if_pos h0] at h
   by_cases h1:i < n
   . rw[if_pos h1] at h
     have e:i.toNat=j:=Option.some.inj h;exact⟨by rw[seqIndex_of h0 h1,e],by lia,by lia,h1⟩
   rw[if_neg h1] at h;cases h
 rw[if_neg h0] at h;by_cases h1:-(n:Int)<=i
 . rw[if_pos h1] at h
   have e:(i+n).toNat=j:=Option.some.inj h;exact⟨by rw[seqIndex_neg (by lia) h1,e],by lia,h1,by lia⟩
 rw[if_neg h1] at h;cases h
theorem qR5{xs:List α}{i:Int}{v:α}(h:atI xs i=some v):∃ j,seqIndex? i xs.length=some j/\xs[j]? = some v/\j < xs.length/\-(xs.length:Int)<=i/\i < xs.length:=by
 unfold atI at h;cases e:ixN xs.length i with
 | none=>rw[e] at h;cases h
 | some j =>
   rw[e] at h;obtain⟨h1,h2,h3,h4⟩:=qF6 e;exact⟨j,h1,h,h2,h3,h4⟩
theorem qas6{xs:List α}{j:Nat}{v:α}(h:xs[j]? = some v):atI xs (j:Int)=some v:=by
 have hj:j < xs.length:=(zA5.mp h).1;have e:ixN xs.length (j:Int)=some j:=by
   unfold ixN;rw[if_pos (by lia),if_pos (by lia)];simp
 unfold atI;rw[e];exact h
theorem qaj4(xs:List α)(v:α):atI (xs++[v]) (-1)=some v:=by
 have hl:(xs++[v]).length=xs.length+1:=by simp
 have e:ixN (xs++[v]).length (-1)=some xs.length:=by
   unfold ixN;rw[hl,if_neg (by decide),if_pos (by lia)];congr 1;lia
 unfold atI;rw[e];show (xs++[v])[xs.length]? = some v;simp
def qI7(b:Expr):Prop:=∀ o i,subscripted b false o i=operate [o,i] (getItem o i)
def IxR(X:Cx)(r:R2):Prop :=
 ∀(value slice:Expr)(Dk:List (Addr×Obj))(s:Shared)(σ:St)(H:Hp)(x y:V)(v u:Value)(Q:VK),Inv X Dk σ H s->RelV x v->RelV y u->r x y H Q ->
   subscripted slice false v u=operate [v,u] (getItem v u)->wpAny (model X.prog X.w) X.A (subscriptTail value slice v u) (EP X Dk σ Q) X.xe s
def MtR(X:Cx)(id:String)(r:V->List V->Hp->VK->Prop):Prop :=
 ∀(Dk:List (Addr×Obj))(s:Shared)(σ:St)(H:Hp)(x:V)(xs:List V)(v:Value)(us:List Value)(Q:VK),Inv X Dk σ H s->RelV x v->Vals xs us->r x xs H Q ->
   wpAny (model X.prog X.w) X.A (call (.builtin id) (v::us)) (EP X Dk σ Q) X.xe s
section
variable{X:Cx}{a b:Expr}{ta tb:TE}{pos:Pos}
theorem IxR.or{r r':R2}(h:IxR X r)(h':IxR X r'):IxR X (λ x y H Q=>r x y H Q∨r' x y H Q):=by
 intro value slice Dk s σ H x y v u Q I rx ry q hs;rcases q with q | q
 . exact h value slice Dk s σ H x y v u Q I rx ry q hs
 exact h' value slice Dk s σ H x y v u Q I rx ry q hs
theorem G1{r:R2}(hr:IxR X r)(ha:PE X a ta)(hb:PE X b tb)(hs:qI7 b):PE X (.Subscript a b pos) (tOp r ta tb):=by
 intro Dk s σ H Q I h;exact Subscript_ (binT ha hb I h λ v u s2 x y H2 I2 rx ry q=>hr a b Dk s2 σ H2 x y v u Q I2 rx ry q (hs _ _))
def rIxL(K:PySem.W.Frag):R2:=λ x y H Q=>∃ p xs i v,x=.ref p/\y=.int i/\SqL K H p xs/\atI xs i=some v/\Q v H
def rIxT(K:PySem.W.Frag):R2:=λ x y H Q=>∃ p xs i v,x=.ref p/\y=.int i/\SqT K H p xs/\atI xs i=some v/\Q v H
def rIxS:R2:=λ x y H Q=>∃ z i c,x=.str z/\y=.int i/\z.length<=sizeLine/\atI z.cps.toList i=some c/\Q (.str ⟨#[c]⟩) H
theorem qaq2:IxR X (rIxL X.K):=by
 intro value slice Dk s σ H x y v u Q I rx ry h hs;obtain⟨p,xs,i,z,rfl,rfl,hq,he,q⟩:=h;cases rx;obtain⟨t,rfl⟩:=ry;obtain⟨its,r,pl,hz⟩:=I.list hq;obtain⟨j,h1,h2,h3,h4,h5⟩:=qR5 he;obtain⟨w,ew,rw'⟩:=r.get h2;have hl:=r.length;have hn:=qC2;have fin:EP X Dk σ Q w s:=⟨z,H,I,rw',q⟩
 by_cases h0:0<=i
 . have hj:i.toNat=j:=by
     rw[seqIndex_of h0 h5] at h1;exact Option.some.inj h1
   exact item_listR pl.isList h0 (by lia) (by rw[hj];simpa using ew) fin hs
 have hj:(i+(its.toArray.size:Int)).toNat=j:=by
   rw[seqIndex_neg (by lia) h4] at h1;rw[zA4,<- hl];exact Option.some.inj h1
 exact subscriptTail_builtinR (x:=w) pl.isList.typeIs slot_list_getitem.lookup
   (wpAny_getItem_list_neg (Q:=λ r s'=>r=w/\EP X Dk σ Q r s') pl.isList (by lia) (by rw[zA4]<;>lia) (by lia) (by rw[hj];simpa using ew) ⟨rfl,fin⟩) hs
theorem qay7:IxR X (rIxT X.K):=by
 intro value slice Dk s σ H x y v u Q I rx ry h hs;obtain⟨p,xs,i,z,rfl,rfl,hq,he,q⟩:=h;cases rx;obtain⟨t,rfl⟩:=ry;obtain⟨its,r,pl,hz⟩:=I.tuple hq;obtain⟨j,h1,h2,h3,h4,h5⟩:=qR5 he;obtain⟨w,ew,rw'⟩:=r.get h2;have hl:=r.length;have hn:=qC2;have fin:EP X Dk σ Q w s:=⟨z,H,I,rw',q⟩
 exact subscriptTail_builtinR (x:=w) pl.typeIs slot_tuple_getitem.lookup
   (getItem_tuple (j:=j) (Q:=λ r s'=>r=w/\EP X Dk σ Q r s') pl (by lia) (by lia) (by rw[zA4,<- hl];exact h1) (by simpa using ew) ⟨rfl,fin⟩) hs
theorem qay8:IxR X rIxS:=by
 intro value slice Dk s σ H x y v u Q I rx ry h hs;obtain⟨z,i,c,rfl,rfl,hz,he,q⟩:=h;obtain⟨t,rfl⟩:=rx;obtain⟨t',rfl⟩:=ry;obtain⟨j,h1,h2,h3,h4,h5⟩:=qR5 he;have hl:z.cps.toList.length=z.length:=by simp[Str.length]
 rw[hl] at h1 h4 h5;have hn:=qC2;exact tail_any (typeIs_str s z t) slot_str_getitem.lookup (getItem_str (c:=c) (by
   have e1:decide (i < -(2 ^ 63:Int))=false:=zAq (by lia);have e2:decide (i ≥ 2 ^ 63)=false:=zAq (by lia);rw[e1,e2,Bool.or_false]) (by rw[h1];simpa using h2) ⟨.str ⟨#[c]⟩,H,I.tok _,⟨_,rfl⟩,q⟩) hs
def rIx(K:PySem.W.Frag):R2:=λ x y H Q=>rIxL K x y H Q∨rIxT K x y H Q∨rIxS x y H Q
theorem qa8:IxR X (rIx X.K):=qaq2.or (qay7.or qay8)
theorem qO4(its:List Value)(n j:Nat)(u:Value):Obj.mapSeq (·.setIfInBounds j u) { cls:=.type "list",data:=.seq its.toArray n }={ cls:=.type "list",data:=.seq (its.set j u).toArray n }:=by
 simp[Obj.mapSeq]
theorem Inv.lst{Dk:List (Addr×Obj)}{σ:St}{H:Hp}{s:Shared}{p:Addr}{xs:List V}(I:Inv X Dk σ H s)(h:H p=some (.lst xs)) :
   ∃(its:List Value)(n:Nat),Vals xs its/\s.heap.get? p=some { cls:=.type "list",data:=.seq its.toArray n }/\xs.length<=sizeLine:=by
 obtain⟨z,its,n,r,e⟩:=I.hok p _ h;exact⟨its,n,r,e,z⟩
theorem Inv.lstUpd{Dk:List (Addr×Obj)}{σ:St}{H:Hp}{s:Shared}{p:Addr}{xs ys:List V}{its':List Value}{n':Nat}{f:Obj->Obj}(I:Inv X Dk σ H s)(h:H p=some (.lst xs))(ho:s.heap.get? p=some { cls:=.type "list",data:=.seq its.toArray n })(hf:f { cls:=.type "list",data:=.seq its.toArray n }={ cls:=.type "list",data:=.seq its'.toArray n' })(r:Vals ys its')(hz:ys.length<=sizeLine)(t:Nat) :
   Inv X Dk σ (upd H p (.lst ys)) { s with heap:=s.heap.update p f,toks:=t }:=by
 have e:(s.heap.update p f).get? p=some { cls:=.type "list",data:=.seq its'.toArray n' }:=by
   rw[zBi f ho (by rw[hf]<;>rfl),hf]
 refine I.write (x:=p) (e:=p) (by rw[h];trivial) (.inl rfl) (λ b u hb q=>(zB1 _ _ (Ne.symm hb)).trans q) ⟨_,e⟩ ?_;exact⟨hz,its',n',r,e⟩
def rSetL:V->V->V->Hp->(Hp->Prop)->Prop:=λ o i v H Q=>∃ p xs k j,o=.ref p/\i=.int k/\H p=some (.lst xs)/\ixN xs.length k=some j/\Q (upd H p (.lst (xs.set j v)))
theorem qL4:PSet X rSetL:=by
 intro Dk s σ H o i v ov iv u Q I ro ri rv h;obtain⟨p,xs,k,j,rfl,rfl,hp,hj,q⟩:=h;cases ro;obtain⟨t,rfl⟩:=ri;obtain⟨its,n,r,ho,hz⟩:=I.lst hp;obtain⟨h1,h2,h3,h4⟩:=qF6 hj;have hl:=r.length;have hn:=qC2;have I':Inv X Dk σ (upd H p (.lst (xs.set j v))) { s with heap:=s.heap.update p (Obj.mapSeq (·.setIfInBounds j u)) } :=
   I.lstUpd hp ho (qO4 its n j u) (r.set rv j) (by rw[List.length_set];exact hz) s.toks
 by_cases h0:0<=k
 . have hk:k.toNat=j:=by
     rw[seqIndex_of h0 h4] at h1;exact Option.some.inj h1
   exact PySem.W.ki_setAt ho h0 (by lia) (by rw[zA4,<- hl];exact h4) (by rw[hk];exact⟨_,I',q⟩)
 have hk:(k+(its.toArray.size:Int)).toNat=j:=by
   rw[seqIndex_neg (by lia) h3] at h1;rw[zA4,<- hl];exact Option.some.inj h1
 exact PySem.W.ki_setBack ho (by lia) (by rw[zA4,<- hl];exact h3) (by lia) (by rw[hk];exact⟨_,I',q⟩)
theorem qz8(lo hi:Option Int)(n:Nat):(sliceBounds lo hi none n).1=((HT.sIx n 0 lo:Nat):Int)/\(sliceBounds lo hi none n).2.1=((HT.sIx n n hi:Nat):Int)/\(sliceBounds lo hi none n).2.2=1:=by
 refine⟨?_,?_,rfl⟩
 . cases lo with
   | none=>simp[sliceBounds,HT.sIx]
   | some i =>
     simp only[sliceBounds,HT.sIx,Option.getD_none,show (1:Int) > 0 by decide,if_true];by_cases h:i < 0
     . simp only[h,if_true]<;>lia
     simp only[h,if_false]<;>lia
 cases hi with
 | none=>simp[sliceBounds,HT.sIx]
 | some i =>
   simp only[sliceBounds,HT.sIx,Option.getD_none,show (1:Int) > 0 by decide,if_true];by_cases h:i < 0
   . simp only[h,if_true]<;>lia
   simp only[h,if_false]<;>lia
theorem qw3(its:List Value)(lo hi:Option Int):slicePick its.toArray lo hi none=((its.drop (HT.sIx its.length 0 lo)).take (HT.sIx its.length its.length hi - HT.sIx its.length 0 lo)).toArray:=by
 obtain⟨h1,h2,h3⟩:=qz8 lo hi its.toArray.size;unfold slicePick;rw[h1,h2,h3];simp only[sliceRange_one,pick_run,zA4]<;>rfl
def rSlL(K:PySem.W.Frag):V->Option Int->Option Int->Hp->VK->Prop:=λ x lo hi H Q=>∃ a xs,x=.ref a/\SqL K H a xs/\∀ p,H p=none->Q (.ref p) (upd H p (.lst (Fe xs lo hi)))
theorem qX4:SlR X (rSlL X.K):=by
 intro Dk s σ H x v vl vu lo hi sl Q I rx hs pl pu h;obtain⟨a,xs,rfl,hx,q⟩:=h;cases rx;obtain⟨its,r,ht,hz⟩:=I.list hx;have hlen:=r.length;refine⟨"list",_,slot_list_getitem.lookup,ht.isList.typeIs,?_⟩;refine wpAny_getItem_list_slice ht.isList hs pl pu .none (by simp) ?_ (by rw[zA4]<;>lia);rw[qw3,<- hlen];refine⟨.ref s.heap.objs.size,_,I.laid (t':=s.toks) (o:=.lst (Fe xs lo hi)) (λ b ob q=>zA2 _ q) (zA8 _) ?_,rfl,q _ (I.hok.fresh (zA8 _))⟩;exact⟨zAm (qJ9 xs lo hi) hz,_,0,(r.drop (HT.sIx xs.length 0 lo)).take (HT.sIx xs.length xs.length hi - HT.sIx xs.length 0 lo),zAw _ rfl⟩
def flatV:V->Bool
 | .non=>true
 | .bl _=>true
 | .int _=>true
 | .str _=>true
 | _=>false
def eqV:V->V->Bool
 | .non,.non=>true
 | .bl a,.bl b=>a == b
 | .bl a,.int b=>(if a then 1 else 0) == b
 | .int a,.bl b=>a == (if b then 1 else 0)
 | .int a,.int b=>a == b
 | .str a,.str b=>a == b
 | _,_=>false
theorem qar6{A:Around}{s:Shared}{y:V}{u v:Value}(ry:RelV y u)(rx:RelV x v)(fy:flatV y=true)(fx:flatV x=true):SeqAt.EqAt A s u v (eqV y x):=by
 cases y with
 | non =>
   cases ry;cases x with
   | non=>cases rx;exact SeqAt.EqAt.same _
   | bl b=>cases rx;exact SeqAt.EqAt.none_bool b
   | int b=>obtain⟨t,rfl⟩:=rx;exact SeqAt.EqAt.none_int b t
   | str b=>obtain⟨t,rfl⟩:=rx;exact SeqAt.EqAt.none_str b t
   | _=>exact absurd (show false=true from fx) zAe
 | bl a =>
   cases ry;cases x with
   | non=>cases rx;exact SeqAt.EqAt.bool_none a
   | bl b=>cases rx;exact SeqAt.EqAt.bool_bool a b
   | int b=>obtain⟨t,rfl⟩:=rx;exact SeqAt.EqAt.bool_int a b t
   | str b=>obtain⟨t,rfl⟩:=rx;exact SeqAt.EqAt.bool_str a b t
   | _=>exact absurd (show false=true from fx) zAe
 | int a =>
   obtain⟨t',rfl⟩:=ry;cases x with
   | non=>cases rx;exact SeqAt.EqAt.int_none a t'
   | bl b=>cases rx;exact SeqAt.EqAt.int_bool a t' b
   | int b=>obtain⟨t,rfl⟩:=rx;exact SeqAt.EqAt.int_int a t' b t
   | str b=>obtain⟨t,rfl⟩:=rx;exact SeqAt.EqAt.int_str a t' b t
   | _=>exact absurd (show false=true from fx) zAe
 | str a =>
   obtain⟨t',rfl⟩:=ry;cases x with
   | non=>cases rx;exact SeqAt.EqAt.str_none a t'
   | bl b=>cases rx;exact SeqAt.EqAt.str_bool a t' b
   | int b=>obtain⟨t,rfl⟩:=rx;exact SeqAt.EqAt.str_int a t' b t
   | str b=>obtain⟨t,rfl⟩:=rx;exact SeqAt.EqAt.str_str a t' b t
   | _=>exact absurd (show false=true from fx) zAe
 | _=>exact absurd (show false=true from fy) zAe
def eqU(x:V)(u:Value):Bool:=match u with
 | .none=>eqV .non x
 | .bool b=>eqV (.bl b) x
 | .int i _=>eqV (.int i) x
 | .str z _=>eqV (.str z) x
 | _=>false
theorem qai2{y:V}{u:Value}(r:RelV y u)(f:flatV y=true):eqU x u=eqV y x:=by
 cases y with
 | non=>cases r;rfl
 | bl b=>cases r;rfl
 | int i=>obtain⟨t,rfl⟩:=r;rfl
 | str z=>obtain⟨t,rfl⟩:=r;rfl
 | _=>exact absurd (show false=true from f) zAe
theorem qy3{x:V}:∀{xs:List V}{us:List Value},Vals xs us->xs.all flatV=true->us.any (eqU x)=xs.any λ y=>eqV y x
 | _,_,.nil,_=>rfl
 | y::xs,u::us,.cons r t,f=>by
   rw[List.all_cons,zAz] at f;rw[List.any_cons,List.any_cons,qai2 r f.1,qy3 t f.2]
theorem ql9{A:Around}{s:Shared}{x:V}{v:Value}(rx:RelV x v)(fx:flatV x=true):∀{xs:List V}{us:List Value},Vals xs us->xs.all flatV=true->∀ u∈us,SeqAt.EqAt A s u v (eqU x u)
 | _,_,.nil,_=>λ u hu=>by cases hu
 | y::xs,u::us,.cons r t,f=>λ u' hu=>by
   rw[List.all_cons,zAz] at f;rcases zA7.mp hu with rfl | hu
   . rw[qai2 r f.1];exact qar6 r rx f.1 fx
   exact ql9 rx fx t f.2 u' hu
def inV(x:V)(xs:List V):Bool:=xs.any λ y=>eqV y x
def rIn(K:PySem.W.Frag)(neg:Bool):R2:=λ x y H Q=>∃ p xs,y=.ref p/\(SqL K H p xs∨SqT K H p xs)/\flatV x=true/\xs.all flatV=true/\Q (.bl (if neg then !inV x xs else inV x xs)) H
theorem qk2:OpR X (compareOp .In) (rIn X.K false):=by
 intro Dk s σ H x y v u Q I rx ry h;obtain⟨p,xs,rfl,hq,fx,fs,q⟩:=h;cases ry;rcases hq with hq | hq
 . obtain⟨its,r,pl,hz⟩:=I.list hq
   refine SeqAt.in_listAt (eqU x) pl.isList (λ w hw=>ql9 rx fx r fs w (by simpa using hw)) ⟨.bl _,H,I,rfl,?_⟩;rw[show its.toArray.any (eqU x)=its.any (eqU x) by simp,qy3 r fs];exact q
 obtain⟨its,r,pl,hz⟩:=I.tuple hq;refine SeqAt.in_tupleAt (eqU x) pl (λ w hw=>ql9 rx fx r fs w (by simpa using hw)) ⟨.bl _,H,I,rfl,?_⟩;rw[show its.toArray.any (eqU x)=its.any (eqU x) by simp,qy3 r fs];exact q
theorem qp1:OpR X (compareOp .NotIn) (rIn X.K true):=by
 intro Dk s σ H x y v u Q I rx ry h;obtain⟨p,xs,rfl,hq,fx,fs,q⟩:=h;cases ry;rcases hq with hq | hq
 . obtain⟨its,r,pl,hz⟩:=I.list hq
   refine SeqAt.notIn_listAt (eqU x) pl.isList (λ w hw=>ql9 rx fx r fs w (by simpa using hw)) ⟨.bl _,H,I,rfl,?_⟩;rw[show its.toArray.any (eqU x)=its.any (eqU x) by simp,qy3 r fs];exact q
 obtain⟨its,r,pl,hz⟩:=I.tuple hq;refine SeqAt.notIn_tupleAt (eqU x) pl (λ w hw=>ql9 rx fx r fs w (by simpa using hw)) ⟨.bl _,H,I,rfl,?_⟩;rw[show its.toArray.any (eqU x)=its.any (eqU x) by simp,qy3 r fs];exact q
theorem qD7:CallR X (.builtin "len") (λ xs H Q=>∃ p ys,xs=[.ref p]/\(SqL X.K H p ys∨SqT X.K H p ys)/\Q (.int ys.length) H):=by
 intro Dk s σ H xs us Q I r h;obtain⟨p,ys,rfl,hq,q⟩:=h;obtain⟨u,rfl,rx⟩:=Bm r;cases rx;have hn:=qC2;rcases hq with hq | hq
 . obtain⟨its,r',pl,hz⟩:=I.list hq
   have hlen:=r'.length;exact Calls.call_len_list pl.isList (by simp only[zA4]<;>lia) ⟨.int ys.length,H,I.tok _,⟨s.toks+1,by rw[zA4,hlen]⟩,q⟩
 obtain⟨its,r',pl,hz⟩:=I.tuple hq;have hlen:=r'.length;exact len_tuple pl (by simp only[zA4]<;>lia) ⟨.int ys.length,H,I.tok _,⟨s.toks+1,by rw[zA4,hlen]⟩,q⟩
theorem qD6:CallR X (.builtin "len") (λ xs H Q=>∃ z,xs=[.str z]/\z.length<=sizeLine/\Q (.int z.length) H):=by
 intro Dk s σ H xs us Q I r h;obtain⟨z,rfl,hz,q⟩:=h;obtain⟨u,rfl,t,rfl⟩:=Bm r;have hn:=qC2;exact len_str (by lia) ⟨.int z.length,H,I.tok _,⟨_,rfl⟩,q⟩
theorem CallR.or{f:Value}{r r':List V->Hp->VK->Prop}(h:CallR X f r)(h':CallR X f r'):CallR X f (λ xs H Q=>r xs H Q∨r' xs H Q):=by
 intro Dk s σ H xs us Q I rs q;rcases q with q | q
 . exact h Dk s σ H xs us Q I rs q
 exact h' Dk s σ H xs us Q I rs q
theorem qf1:CallR X (.type "list") (λ xs H Q=>∃ p ys,xs=[.ref p]/\(SqL X.K H p ys∨SqT X.K H p ys)/\∀ l,H l=none->Q (.ref l) (upd H l (.lst ys))):=by
 intro Dk s σ H xs us Q I r h;obtain⟨p,ys,rfl,hq,q⟩:=h;obtain⟨u,rfl,rx⟩:=Bm r;cases rx;have fin:∀(its:List Value),Vals ys its->ys.length<=sizeLine->∀(h':Heap)(c':Nat),(∀ b o',s.heap.get? b=some o'->h'.get? b=some o') ->
     h'.get? s.heap.objs.size=some { cls:=.type "list",dict:=none,data:=.seq its.toArray c',slots:=#[] }->EP X Dk σ Q (.ref s.heap.objs.size) { s with heap:=h' }:=λ its r' hz h' c' kp e =>
   ⟨.ref s.heap.objs.size,_,I.laid (t':=s.toks) kp (zA8 _) (show ObjOk X.prog X.w _ h' _ (.lst ys) from⟨hz,its,c',r',e⟩),rfl,q _ (I.hok.fresh (zA8 _))⟩
 rcases hq with hq | hq
 . obtain⟨its,r',pl,hz⟩:=I.list hq
   have hlen:=r'.length;obtain⟨o,ho,hc,n,hd⟩:=pl.isList;exact call_list_seq p (.inl rfl) ho hc hd (λ h' c' kp e=>fin its r' hz h' c' kp e) (by simp only[zA4]<;>lia)
 obtain⟨its,r',pl,hz⟩:=I.tuple hq;have hlen:=r'.length;obtain⟨o,ho,hc,n,hd⟩:=pl;exact call_list_seq p (.inr rfl) ho hc hd (λ h' c' kp e=>fin its r' hz h' c' kp e) (by simp only[zA4]<;>lia)
theorem qy1:CallR X (.type "tuple") (λ xs H Q=>∃ p ys,xs=[.ref p]/\((SqL X.K H p ys/\∀ l,H l=none->Q (.ref l) (upd H l (.tup ys)))∨(SqT X.K H p ys/\Q (.ref p) H))):=by
 intro Dk s σ H xs us Q I r h;obtain⟨p,ys,rfl,h⟩:=h;obtain⟨u,rfl,rx⟩:=Bm r;cases rx;rcases h with⟨hq,q⟩ | ⟨hq,q⟩
 . obtain⟨its,r',pl,hz⟩:=I.list hq
   have hlen:=r'.length;refine call_tuple_list pl.isList (λ h' kp=>?_) (by simp only[zA4]<;>lia);have I1:Inv X Dk σ H { s with heap:=h' }:=I.kept (t':=s.toks) kp;have I2:Inv X Dk σ (upd H h'.objs.size (.tup ys)) { s with heap:=h'.push { cls:=.type "tuple",data:=.seq its.toArray } } :=
     I1.laid (t':=s.toks) (λ b o e=>zA2 _ e) (zA8 _) (show ObjOk X.prog X.w _ _ _ (.tup ys) from⟨hz,its,r',IsTup.new _ _⟩)
   exact⟨.ref h'.objs.size,_,I2,rfl,q _ (I1.hok.fresh (zA8 _))⟩
 obtain⟨its,r',pl,hz⟩:=I.tuple hq;exact call_tuple_same pl ⟨.ref p,H,I,rfl,q⟩
def tyV(K:PySem.W.Frag)(T:String)(x:V)(H:Hp):Prop:=match x with
 | .str _=>T = "str"
 | .int _=>T = "int"
 | .ref p=>(T = "list" /\ ∃ xs,SqL K H p xs)∨(T = "tuple" /\ ∃ o,K.lookup p=some o/\o.cls=.type "tuple" /\ o.dict=none) ∨
     (T = "dict" /\ ((∃ kvs,H p=some (.dK kvs))∨∃ kvs,H p=some (.dT kvs)))∨(T = "set" /\ ∃ S n,H p=some (.set S n))
 | _=>False
theorem qak3{Dk:List (Addr×Obj)}{σ:St}{H:Hp}{s:Shared}{T:String}{v:Value}(I:Inv X Dk σ H s)(r:RelV x v)(ty:tyV X.K T x H) :
   s.TypeIs v T/\∀ a,v=.ref a->∃ ob,s.heap.get? a=some ob/\ob.dict=none:=by
 cases x with
 | str z =>
   obtain⟨t,rfl⟩:=r;cases (show T = "str" from ty);exact⟨typeIs_str s z t,λ _ e=>nomatch e⟩
 | int i =>
   obtain⟨t,rfl⟩:=r;cases (show T = "int" from ty);exact⟨typeIs_int s i t,λ _ e=>nomatch e⟩
 | ref p =>
   cases r;rcases ty with⟨rfl,xs,hq⟩ | ⟨rfl,o,hk,hc,hd⟩ | ⟨rfl,hk⟩ | ⟨rfl,S,n,hk⟩
   . obtain⟨its,_,pl,_⟩:=I.list hq
     refine⟨pl.isList.typeIs,λ a e=>?_⟩;cases e;obtain⟨o,n,e,c,hd,_⟩:=pl;exact⟨o,e,hd⟩
   . refine⟨⟨o,I.kIn p o hk,hc⟩,λ a e=>?_⟩
     cases e;exact⟨o,I.kIn _ o hk,hd⟩
   . have z:∃ o,s.heap.get? p=some o/\o.ExactDict:=by
       rcases hk with⟨kvs,hk⟩ | ⟨kvs,hk⟩
       . obtain⟨_,_,_,_,o,_,_,e,ex,_⟩:=I.hok p _ hk
         exact⟨o,e,ex⟩
       obtain⟨_,_,_,_,o,_,_,e,ex,_⟩:=I.hok p _ hk;exact⟨o,e,ex⟩
     obtain⟨o,e,ex⟩:=z;refine⟨⟨o,e,ex.1⟩,λ a e2=>?_⟩;cases e2;exact⟨o,e,ex.2.1⟩
   obtain⟨o,_,_,_,e,ex,_⟩:=I.hok p _ hk;refine⟨⟨o,e,ex.1⟩,λ a e2=>?_⟩;cases e2;exact⟨o,e,ex.2.1⟩
 | _=>exact False.elim ty
def tBM0(K:PySem.W.Frag)(T:String)(r:V->List V->Hp->VK->Prop)(to:TE):TE:=λ σ H Q=>to σ H λ x H1=>tyV K T x H1/\r x [] H1 Q
def tBM(K:PySem.W.Frag)(T:String)(r:V->List V->Hp->VK->Prop)(to:TE)(t:TA):TE:=λ σ H Q=>to σ H λ x H1=>tyV K T x H1/\t σ H1 λ xs H2=>r x xs H2 Q
variable{o e:Expr}{es:List Expr}{to:TE}{t:TA}{name:Str}{apos cpos:Pos}{T id:String}{r:V->List V->Hp->VK->Prop}
theorem qaw1(pa:PlainAttrs T)(slot:Slot T name id)(hty:typeOf (.builtin id)=pure (.type "method_descriptor"))(hm:MtR X id r)(ho:PE X o to)(hbase:attributeBase o name X.env (eval o X.env)=eval o X.env:=by rfl)(hline:(apos.endLine == cpos.line)=true:=by rfl):PE X (.Call (.Attribute o name apos) [] [] cpos) (tBM0 X.K T r to):=by
 intro Dk s σ H Q I h;refine wpAny_Call_method0_late hbase hline (thn (ho Dk s σ H _ I h) λ v s1 ⟨x,H1,I1,r1,ty,q1⟩=>?_);obtain⟨h1,h2⟩:=qak3 I1 r1 ty;exact⟨T,id,pa,slot,hty,h1,h2,Calls.callWith_builtin rfl (PySem.evalArgs_none (hm Dk s1 σ H1 x [] v [] Q I1 r1 .nil q1))⟩
theorem G2(pa:PlainAttrs T)(slot:Slot T name id)(hty:typeOf (.builtin id)=pure (.type "method_descriptor"))(hm:MtR X id r)(ho:PE X o to)(ha:PA X (e::es) t)(hbase:attributeBase o name X.env (eval o X.env)=eval o X.env:=by rfl)(hfew:((backTo cpos (starEach (e::es) X.env)).all (λ x=>!x.1)&&(backToKw cpos (keywordEach [] X.env)).all (λ x=>x.1.isSome)
     && decide ((e::es).length+([]:List Keyword).length+(if ([]:List Keyword).isEmpty then 0 else 1) < 30))=true:=by rfl)(hline:(apos.endLine == cpos.line)=true:=by rfl)(hs:starEach (e::es) X.env=(false,eval e X.env)::starEach es X.env:=by rfl)(hplain:(backTo cpos (starEach es X.env)).any (·.1)=false:=by rfl) :
   PE X (.Call (.Attribute o name apos) (e::es) [] cpos) (tBM X.K T r to t):=by
 intro Dk s σ H Q I h;refine wpAny_Call_method_late hbase hfew hline rfl (thn (ho Dk s σ H _ I h) λ v s1 ⟨x,H1,I1,r1,ty,q1⟩=>?_);obtain⟨h1,h2⟩:=qak3 I1 r1 ty;refine⟨T,id,pa,slot,hty,h1,h2,?_⟩;have hA:=ha cpos Dk s1 σ H1 _ I1 q1;rw[hs] at hA ⊢;refine Calls.callWith_builtin (by show (false||(backTo cpos (starEach es X.env)).any (·.1))=false;rw[hplain]<;>rfl) (Calls.evalArgs_plain ?_);exact thn hA λ us s2 ⟨vs,H2,I2,r2,q2⟩=>hm Dk s2 σ H2 x vs v us Q I2 r1 r2 q2
/- xs.append(e),list.index on a module's tuple .. are MtR facts of 06m -/
end
def MtM(X:Cx)(id:String)(r:V->List V->Hp->VK->Prop):Prop :=
 ∀(Dk:List (Addr×Obj))(s:Shared)(σ:St)(H:Hp)(x:V)(xs:List V)(v:Value)(us:List Value)(Q:VK),Inv X Dk σ H s->RelV x v->Vals xs us->r x xs H Q ->
   wpAny (model X.prog X.w) X.A (call (.builtin id) (v::us)) (EP X Dk σ Q) X.xe s
theorem Vals.one(h:Vals [x] us):∃ u,us=[u]/\RelV x u:=by
 cases h with
 | cons r t=>cases t;exact⟨_,rfl,r⟩
theorem Vals.two{y:V}(h:Vals [x,y] us):∃ u v,us=[u,v]/\RelV x u/\RelV y v:=by
 cases h with
 | cons r t =>
   cases t with
   | cons q t=>cases t;exact⟨_,_,rfl,r,q⟩
theorem Vals.zero:∀{us:List Value},Vals [] us->us=[]
 | _,.nil=>rfl
theorem Vals.dropLast{xs:List V}(h:Vals xs us):Vals xs.dropLast us.dropLast:=by
 induction h with
 | nil=>exact .nil
 | cons r t ih =>
   cases t with
   | nil=>exact .nil
   | cons q t'=>exact .cons r ih
theorem Vals.rep{xs:List V}{us:List Value}(h:Vals xs us):∀ k:Nat,Vals (List.replicate k xs).flatten (List.replicate k us).flatten
 | 0=>.nil
 | k+1=>by
   rw[zBf,zBf,zBq,zBq];exact Vals.append h (Vals.rep h k)
theorem qQ6(l:List α):l.eraseIdx (l.length - 1)=l.dropLast:=by
 induction l with
 | nil=>rfl
 | cons a r ih =>
   cases r with
   | nil=>rfl
   | cons b r =>
     have e:(a::b::r).length - 1=((b::r).length - 1)+1:=by
       have h1:(a::b::r).length=r.length+2:=rfl;have h2:(b::r).length=r.length+1:=rfl;lia
     rw[e,List.eraseIdx_cons_succ,ih]
     all_goals rfl
theorem qG7(its:List Value):∀(k:Nat)(acc:List Value),
   List.foldl (λ x1 x2=>x1++x2) acc.toArray (List.replicate k its.toArray)=(acc++(List.replicate k its).flatten).toArray
 | 0,acc=>by simp
 | k+1,acc=>by
   have e:acc.toArray++its.toArray=(acc++its).toArray:=by simp
   have e2:(acc++its)++(List.replicate k its).flatten=acc++(List.replicate (k+1) its).flatten:=by
     rw[zBf,zBq,zB0]
   rw[<- e2,<- qG7 its k (acc++its),<- e,zBf,List.foldl_cons]
section
variable{X:Cx}{Dk:List (Addr×Obj)}{σ:St}{H:Hp}{s:Shared}{l:Addr}{xs ys:List V}
theorem Inv.lset{its':List Value}{f:Array Value->Array Value}{t':Nat}(I:Inv X Dk σ H s)(hH:H l=some (.lst xs))(e:s.heap.get? l=some { cls:=.type "list",data:=.seq its.toArray n })(hf:f its.toArray=its'.toArray)(hv:Vals ys its')(hz:ys.length<=sizeLine) :
   Inv X Dk σ (upd H l (.lst ys)) { s with heap:=s.heap.update l (Obj.mapSeq f),toks:=t' }:=by
 have q:=PySem.IsL.update e f;rw[hf] at q;refine I.write (x:=l) (e:=l) (by rw[hH];exact trivial) (.inl rfl) (λ b' u hb hu=>(zB1 s.heap (Obj.mapSeq f) (Ne.symm hb)).trans hu) ⟨_,q⟩ ?_;exact⟨hz,its',_,hv,q⟩
theorem Inv.lnew{t':Nat}(I:Inv X Dk σ H s)(hv:Vals ys its)(hz:ys.length<=sizeLine) :
   Inv X Dk σ (upd H s.heap.objs.size (.lst ys)) { s with heap:=s.heap.push { cls:=.type "list",data:=.seq its.toArray },toks:=t' } :=
 I.laid (λ _ _ q=>zA2 _ q) (zA8 _) ⟨hz,its,0,hv,zAw _ rfl⟩
theorem Inv.fresh(I:Inv X Dk σ H s):H s.heap.objs.size=none:=I.hok.fresh (zA8 _)
theorem Inv.lstM(I:Inv X Dk σ H s)(hH:H l=some (.lst xs)):xs.length<=sizeLine/\∃(its:List Value)(n:Nat),Vals xs its/\xs.length=its.length/\s.heap.get? l=some { cls:=.type "list",data:=.seq its.toArray n }:=by
 obtain⟨z,its,n,r,e⟩:=I.hok l _ hH;exact⟨z,its,n,r,r.length,e⟩
theorem qaf2(h:n<=sizeLine):Builtin.List.listTooLong n=false:=by
 unfold Builtin.List.listTooLong;exact zAq (by lia)
end
section
variable{X:Cx}
def qY1:V->List V->Hp->VK->Prop:=λ x vs H Q=>∃ l xs y,x=.ref l/\vs=[y]/\H l=some (.lst xs)/\xs.length < sizeLine/\Q .non (upd H l (.lst (xs++[y])))
theorem qn7:MtM X "list.append" qY1:=by
 intro Dk s σ H x vs v us Q I rx rv h;obtain⟨l,xs,y,rfl,rfl,hH,hz,q⟩:=h;cases rx;obtain⟨u,rfl,ru⟩:=rv.one;obtain⟨z,its,n,r,hl,e⟩:=I.lstM hH;refine call_meets F.slot_list_append ⟨_,e,rfl⟩ F.entry_list_append (F.args_list_append_2 _ _) (PySem.list_append l its.toArray n u (by rw[zA4];lia)) ⟨e,?_⟩;refine⟨.non,_,I.lset (its':=its++[u]) hH e (by simp) (r.append (.cons ru .nil)) ?_,rfl,q⟩;rw[zAf,List.length_singleton];lia
def rPop:V->List V->Hp->VK->Prop:=λ x vs H Q=>∃ l xs y,x=.ref l/\vs=[]/\H l=some (.lst xs)/\xs[xs.length - 1]? = some y/\Q y (upd H l (.lst xs.dropLast))
theorem qax6:MtM X "list.pop" rPop:=by
 intro Dk s σ H x vs v us Q I rx rv h;obtain⟨l,xs,y,rfl,rfl,hH,hy,q⟩:=h;cases rx;have hus:=rv.zero;subst hus;obtain⟨z,its,n,r,hl,e⟩:=I.lstM hH;obtain⟨u,hu,ru⟩:=r.get hy;have hy':its.toArray[its.toArray.size - 1]? = some u:=by
   show its.toArray[its.length - 1]? = some u;rw[<- Array.getElem?_toList,<- hl];exact hu
 refine call_meets F.slot_list_pop ⟨_,e,rfl⟩ F.entry_list_pop (F.args_list_pop_1 _) (MeetsSeq.list_pop_last l its.toArray n u hy' (by rw[zA4];lia)) ⟨e,?_⟩;refine⟨y,_,I.lset (its':=its.dropLast) hH e ?_ r.dropLast ?_,ru,q⟩
 . show its.toArray.eraseIdxIfInBounds (its.toArray.size - 1)=its.dropLast.toArray
   rw[zA4,List.eraseIdxIfInBounds_toArray,qQ6]
 rw[List.length_dropLast];lia
def rCat:R2:=λ x y H Q=>∃ l b xs zs,x=.ref l/\y=.ref b/\H l=some (.lst xs)/\H b=some (.lst zs)/\xs.length+zs.length<=sizeLine/\∀ p,H p=none->Q (.ref p) (upd H p (.lst (xs++zs)))
theorem qax0:OpR X (binaryOp .Add) rCat:=by
 intro Dk s σ H x y v u Q I rx ry h;obtain⟨l,b,xs,zs,rfl,rfl,hH,hB,hz,q⟩:=h;cases rx;cases ry;obtain⟨z,its,n,r,hl,e⟩:=I.lstM hH;obtain⟨z2,its2,n2,r2,hl2,e2⟩:=I.lstM hB;refine PySem.P.add_list e e2 ?_ (by rw[zA4,zA4];lia);have ea:its.toArray++its2.toArray=(its++its2).toArray:=by simp
 rw[ea];exact⟨.ref _,_,I.lnew (t':=s.toks) (r.append r2) (by rw[zAf];lia),rfl,q _ I.fresh⟩
def rRep:R2:=λ x y H Q=>∃ l k xs,x=.ref l/\y=.int k/\H l=some (.lst xs)/\-(2 ^ 63)<=k/\k < 2 ^ 63/\xs.length * k.toNat<=sizeLine /\
 ∀ p,H p=none->Q (.ref p) (upd H p (.lst (List.replicate k.toNat xs).flatten))
theorem qap8(xs:List α)(k:Nat):(List.replicate k xs).flatten.length=k * xs.length:=by
 induction k with
 | zero=>simp
 | succ k ih=>rw[zBf,zBq,zAf,ih,Nat.succ_mul,Nat.add_comm]
theorem qaw5:OpR X (binaryOp .Mult) rRep:=by
 intro Dk s σ H x y v u Q I rx ry h;obtain⟨l,k,xs,rfl,rfl,hH,h1,h2,hz,q⟩:=h;cases rx;obtain⟨t,rfl⟩:=ry;obtain⟨z,its,n,r,hl,e⟩:=I.lstM hH;have hlen:its.toArray.size * k.toNat<=sizeLine:=by rw[zA4,<- hl];exact hz
 have hcap:¬ its.toArray.size * k.toNat > (2 ^ 63 - 1) / 8:=by
   have:(sizeLine:Nat)<=(2 ^ 63 - 1) / 8:=by decide
   lia
 have hfit:¬ (!Builtin.List.listFitsIndex k)=true:=by
   rw[fitsIndex_both h1 h2];exact zAe
 have hlong:¬ Builtin.List.listTooLong (its.toArray.size * k.toNat)=true:=by
   rw[qaf2 hlen];exact zAe
 have hnew:List.foldl (λ x1 x2=>x1++x2) #[] (List.replicate (if its.toArray.isEmpty=true then 0 else k.toNat) its.toArray)=(List.replicate k.toNat its).flatten.toArray:=by
   have f0:∀ m:Nat,List.foldl (λ x1 x2=>x1++x2) #[] (List.replicate m its.toArray)=(List.replicate m its).flatten.toArray:=λ m=>by
     have:=qG7 its m []
     rw[zBc] at this;exact this
   rw[f0];cases its with
   | nil=>simp
   | cons a r'=>rw[if_neg (by simp)]
 refine wpAny_binaryOp_repeat_ref (T := "list") (U := "int") (by decide) ⟨_,e,rfl⟩ (λ s'=>typeIs_int s' k t) noFill_list_mul F.fills_int_mul F.slot_int_rmul repeat_list F.slot_int_index.lookup
   (call_meets F.slot_int_rmul (typeIs_int s k t) F.entry_int_rmul (F.args_int_rmul_2 _ _) (int___rmul___int_list k t l its.toArray n)
     ⟨e,rfl,⟨_,e,rfl⟩,call_meets F.slot_list_mul ⟨_,e,rfl⟩ F.entry_list_mul (F.args_list_mul_2 _ _) (AutoListH.list___mul___list_int_3 l its.toArray n k t hfit hcap hlong) ⟨e,?_⟩⟩)
 rw[hnew];exact⟨.ref _,_,I.lnew (t':=s.toks) (r.rep k.toNat) (by rw[qap8,Nat.mul_comm];exact hz),rfl,q _ I.fresh⟩
end
section
variable{κ:Type}[DecidableEq κ]
def Dz(kvs:List (κ×V))(k:κ):Option V:=(kvs.find? λ kv=>decide (kv.1=k)).map (·.2)
def putK(kvs:List (κ×V))(k:κ)(v:V):List (κ×V) :=
 if (kvs.any λ kv=>decide (kv.1=k))=true then kvs.map (λ kv=>if kv.1=k then (kv.1,v) else kv) else kvs++[(k,v)]
theorem qy7{p:κ×V}{r:List (κ×V)}{k:κ}(e:p.1=k):Dz (p::r) k=some p.2:=by simp[Dz,zBn,e]
theorem qy8{p:κ×V}{r:List (κ×V)}{k:κ}(e:¬ p.1=k):Dz (p::r) k=Dz r k:=by simp[Dz,zBn,e]
theorem qJ6(kvs:List (κ×V))(k:κ)(v:V):(putK kvs k v).length<=kvs.length+1:=by
 unfold putK;split
 . rw[zAj];lia
 rw[zAf,zAr,List.length_nil];lia
theorem RelO.getD{o:Option V}{u:Option Value}{d:V}{d':Value}(r:RelO o u)(rd:RelV d d'):RelV (o.getD d) (u.getD d'):=by
 cases o with
 | none=>cases u with
   | none=>exact rd
   | some _=>exact(show False from r).elim
 | some _=>cases u with
   | none=>exact(show False from r).elim
   | some _=>exact r
theorem KV.val{kvs:List (κ×V)}{vs:List (κ×Value)}(r:KV kvs vs)(k:κ):RelO (Dz kvs k) (valueAt vs k):=by
 unfold KV at r
 induction r with
 | nil=>exact True.intro
 | @cons p q ps qs h t ih =>
   obtain⟨h1,h2⟩:=h;by_cases e:p.1=k
   . have e':q.1=k:=h1.symm.trans e
     have b:valueAt (q::qs) k=some q.2:=by simp[valueAt,zBn,e']
     rw[qy7 e,b];exact h2
   have e':¬ q.1=k:=λ z=>e (h1.trans z)
   have b:valueAt (q::qs) k=valueAt qs k:=by simp[valueAt,zBn,e']
   rw[qy8 e,b];exact ih
theorem KV.any{kvs:List (κ×V)}{vs:List (κ×Value)}(r:KV kvs vs)(k:κ):(kvs.any λ kv=>decide (kv.1=k))=vs.any λ kv=>decide (kv.1=k):=by
 unfold KV at r
 induction r with
 | nil=>rfl
 | cons h t ih=>rw[List.any_cons,List.any_cons,ih,h.1]
theorem KV.repl{kvs:List (κ×V)}{vs:List (κ×Value)}(r:KV kvs vs)(k:κ){y:V}{u:Value}(ry:RelV y u) :
   KV (kvs.map λ kv=>if kv.1=k then (kv.1,y) else kv) (vs.map λ kv=>if kv.1=k then (kv.1,u) else kv):=by
 unfold KV at r ⊢
 induction r with
 | nil=>exact .nil
 | @cons p q ps qs h t ih =>
   rw[zAu,zAu];refine .cons ?_ ih;obtain⟨h1,h2⟩:=h;by_cases e:p.1=k
   . rw[if_pos e,if_pos (h1.symm.trans e)];exact⟨h1,ry⟩
   rw[if_neg e,if_neg (λ z=>e (h1.trans z))];exact⟨h1,h2⟩
theorem KV.put{kvs:List (κ×V)}{vs:List (κ×Value)}(r:KV kvs vs)(k:κ){y:V}{u:Value}(ry:RelV y u):KV (putK kvs k y) (stored vs k u):=by
 unfold putK stored;rw[r.any k];by_cases e:(vs.any λ kv=>decide (kv.1=k))=true
 . rw[if_pos e,if_pos e];exact r.repl k ry
 rw[if_neg e,if_neg e];exact Paired.snoc r ⟨rfl,ry⟩
theorem KV.length{kvs:List (κ×V)}{vs:List (κ×Value)}(r:KV kvs vs):kvs.length=vs.length:=Paired.length r
end
theorem G3{P:Program}{w:World}{k:Key}{u:Value}(r:RelV (kV k) u):(qe7 P w).is k u=true:=by
 cases k with
 | inl i=>obtain⟨t,e⟩:=(show ∃ t,u=Value.int i t from r);subst e;exact qJ4 P w i t
 | inr x=>obtain⟨t,e⟩:=(show ∃ t,u=Value.str x t from r);subst e;exact qJ3 P w x t
theorem qF7{P:Program}{w:World}:∀{ks:List Key}{us:List Value},Vals (ks.map kV) us->ItemsAre (qe7 P w) ks us
 | [],_,r=>by rw[List.map_nil] at r;cases r;exact .nil
 | k::ks,_,r=>by
   rw[zAu] at r;cases r with
   | cons h t=>exact .cons (G3 h) (qF7 t)
abbrev KT(H:Hp):List (List Key×V)->List (List Key×Addr×Value)->Prop:=Paired λ p q=>p.1=q.1/\H q.2.1=some (.tup (p.1.map kV))/\RelV p.2 q.2.2
theorem KT.val{H:Hp}{kvs:List (List Key×V)}{xs:List (List Key×Addr×Value)}(r:KT H kvs xs)(k:List Key):RelO (Dz kvs k) ((atKey xs k).map (·.2)):=by
 induction r with
 | nil=>exact True.intro
 | @cons p q ps qs h t ih =>
   obtain⟨h1,_,h2⟩:=h;by_cases e:p.1=k
   . have e':q.1=k:=h1.symm.trans e
     have b:atKey (q::qs) k=some q.2:=by simp[atKey,zBn,e']
     rw[qy7 e,b];exact h2
   have e':¬ q.1=k:=λ z=>e (h1.trans z)
   have b:atKey (q::qs) k=atKey qs k:=by simp[atKey,zBn,e']
   rw[qy8 e,b];exact ih
section
variable{P:Program}{w:World}{H:Hp}{h:Heap}{a:Addr}
theorem rd_of{u:HO}(ok:HOk P w H h)(e:Rd H a u):ObjOk P w H h a u:=e.ok ok
theorem G4{kvs:List (Key×V)}(ok:HOk P w H h)(e:Rd H a (.dK kvs)):kvs.length<=sizeLine/\(a == sysModules)=false/\∃ vs,KV kvs vs/\h.DictOf (qe7 P w) a vs :=
 show ObjOk P w H h a (.dK kvs) from rd_of ok e
theorem qaq1{ks:List Key}(ok:HOk P w H h)(e:H a=some (.tup (ks.map kV))):(tupleKind (qe7 P w)).is h ks a:=by
 obtain⟨_,its,r,o,h1,h2,n,h3⟩:=(show ObjOk P w H h a (.tup (ks.map kV)) from ok a _ e)
 exact⟨o,its.toArray,n,h1,h2,h3,by simpa using qF7 r⟩
theorem dt_rd{kvs:List (List Key×V)}(ok:HOk P w H h)(e:Rd H a (.dT kvs)):kvs.length<=sizeLine/\(a == sysModules)=false /\
   ∃ xs,KT H kvs xs/\h.DictOfH (tupleKind (qe7 P w)) a xs:=by
 obtain⟨z,y,xs,r,o,es,ep,h1,h2,h3,h4,h5⟩:=(show ObjOk P w H h a (.dT kvs) from rd_of ok e)
 refine⟨z,y,xs,r,o,es,ep,h1,h2,h3,h4,λ x hx=>?_,h5⟩;have all:∀{l:List (List Key×V)}{m:List (List Key×Addr×Value)},KT H l m->∀ x∈m,(tupleKind (qe7 P w)).is h x.1 x.2.1:=by
   intro l m q
   induction q with
   | nil=>intro x hx;exact nomatch hx
   | @cons p q ps qs hq t ih =>
     intro x hx;rcases zA7.mp hx with e | hx
     . subst e
       exact qaq1 ok (by rw[<- hq.1];exact hq.2.1)
     exact ih x hx
 exact all r x hx
end
def DGet(H:Hp)(a:Addr)(y:V)(r:Option V):Prop :=
 (∃ kvs k,Rd H a (.dK kvs)/\y=kV k/\r=Dz kvs k)∨∃ kvs k b,Rd H a (.dT kvs)/\y=.ref b/\H b=some (.tup (k.map kV))/\r=Dz kvs k
section
variable{X:Cx}{Dk:List (Addr×Obj)}{σ:St}{H:Hp}{s:Shared}
theorem Inv.big(I:Inv X Dk σ H s):sysModules < s.heap.objs.size:=by
 have h:mainGlobals < s.heap.objs.size:=(I.mod.glob.keeps I.bk).lt;exact Nat.lt_trans (by decide) h
end
section
variable{X:Cx}{Dk:List (Addr×Obj)}{σ:St}{H:Hp}{s:Shared}{a:Addr}{kvs:List (Key×V)}{A:Around}{E:Value->Shared->Prop}
theorem d_len{Q:Value->Shared->Prop}(I:Inv X Dk σ H s)(e:Rd H a (.dK kvs))(h:∀ t s',Inv X Dk σ H s'->Q (.int kvs.length t) s'):wpAny (model X.prog X.w) A (call (.builtin "len") [.ref a]) Q E s:=by
 obtain⟨z,hd,vs,rel,dd⟩:=G4 I.hok e;refine call_len_dict hd dd (by rw[<- rel.length];rw[sizeLine_eq] at z;lia) ?_;rw[<- rel.length];exact h _ _ (I.tok _)
end
theorem qai4{P:Program}{w:World}{H:Hp}(h:Heap)(hb:sysModules < h.objs.size):ObjOk P w H (h.push { cls:=.type "dict",data:=.dict #[] }) h.objs.size (.dK []) :=
 ⟨Nat.zero_le _,zB4.mpr (Ne.symm (zAl hb)),[],.nil,Heap.DictOf.new h⟩
def qau0:TE:=λ _ H Q=>∀ p,H p=none->Q (.ref p) (upd H p (.dK []))
section
variable{X:Cx}{pos:Pos}
theorem qae1:PE X (.Dict [] [] pos) qau0:=λ Dk s σ H Q I h =>
 wpAny_Dict_empty ⟨.ref s.heap.objs.size,_,I.laid (a:=s.heap.objs.size) (o:=.dK []) (t':=s.toks) (λ _ _ q=>zA2 _ q) (zA8 _) (qai4 s.heap I.big),rfl,h _ (I.hok.fresh (zA8 _))⟩
end
def qr7(kvs more:List (Key×V)):List (Key×V):=more.foldl (λ acc kv=>putK acc kv.1 kv.2) kvs
theorem qm7:∀(more kvs:List (Key×V)),(qr7 kvs more).length<=kvs.length+more.length
 | [],kvs=>by show kvs.length<=kvs.length+0;lia
 | p::r,kvs=>by
   have h1:=qm7 r (putK kvs p.1 p.2);have h2:=qJ6 kvs p.1 p.2;show (qr7 (putK kvs p.1 p.2) r).length<=_;rw[zAr];lia
structure M2(X:Cx)(o:Expr)(m:Str)(apos:Pos)(e f:Expr)(cpos:Pos):Prop where
 base:attributeBase o m X.env (eval o X.env)=eval o X.env
 few:((backTo cpos (starEach [e,f] X.env)).all (λ x=>!x.1)&&(backToKw cpos (keywordEach [] X.env)).all (λ x=>x.1.isSome)
   && decide (([e,f]:List Expr).length+([]:List Keyword).length+(if ([]:List Keyword).isEmpty then 0 else 1) < 30))=true
 line:(apos.endLine == cpos.line)=true
 trees:backTo cpos (starEach [e,f] X.env)=[(false,eval e X.env),(false,eval f X.env)]
def IsD(H:Hp)(a:Addr):Prop:=(∃ kvs,Rd H a (.dK kvs))∨∃ kvs,Rd H a (.dT kvs)
theorem qay9{X:Cx}{Dk:List (Addr×Obj)}{σ:St}{H:Hp}{s:Shared}{a:Addr}(I:Inv X Dk σ H s)(d:IsD H a) :
   s.TypeIs (.ref a) "dict" /\ (∀ b,Value.ref a=.ref b->∃ ob,s.heap.get? b=some ob/\ob.dict=none)/\(a == sysModules)=false:=by
 rcases d with⟨kvs,e⟩ | ⟨kvs,e⟩
 . obtain⟨_,hd,vs,_,dd⟩:=G4 I.hok e
   refine⟨dd.typeIs,λ b q=>?_,hd⟩;cases q;obtain⟨ob,_,_,h1,h2,_⟩:=dd;exact⟨ob,h1,h2.2.1⟩
 obtain⟨_,hd,xs,_,dd⟩:=dt_rd I.hok e;refine⟨dd.typeIs,λ b q=>?_,hd⟩;cases q;obtain⟨ob,_,_,h1,h2,_⟩:=dd;exact⟨ob,h1,h2.2.1⟩
section
variable{X:Cx}{Dk:List (Addr×Obj)}{σ:St}{H:Hp}{s:Shared}{a:Addr}{y d:V}{u r:Value}{o:Option V}{A:Around}{E:Value->Shared->Prop}
theorem qaA4{Q:Value->Shared->Prop}(hu:A.units+1 < cLine)(I:Inv X Dk σ H s)(g:DGet H a y o)(ry:RelV y u)(rd:RelV d r)(h:∀ w' s',Inv X Dk σ H s'->RelV (o.getD d) w'->Q w' s') :
   wpAny (model X.prog X.w) A (call (.builtin "dict.get") [.ref a,u,r]) Q E s:=by
 rcases g with⟨kvs,k,e,ey,l⟩ | ⟨kvs,k,b,e,ey,eb,l⟩
 . subst ey
   obtain⟨z,hd,vs,rel,dd⟩:=G4 I.hok e;refine call_meetsIn PySem.F.slot_dict_get dd.typeIs PySem.F.entry_dict_get (PySem.F.args_dict_get_3 _ _ _) (meets_dict_get_default (qe7 X.prog X.w) a (G3 ry) hd r) ⟨_,dd.mapOf,h _ _ (I.tok _) ?_⟩;rw[l];exact(rel.val k).getD rd
 subst ey;cases (show u=Value.ref b from ry);obtain⟨z,hd,xs,rel,dd⟩:=dt_rd I.hok e;refine call_meetsIn PySem.F.slot_dict_get dd.typeIs PySem.F.entry_dict_get (PySem.F.args_dict_get_3 _ _ _) (meetsH_dict_get_default (tupleKind (qe7 X.prog X.w)) a b hd r) ⟨tupleKind_room_in1 hu,k,xs,qaq1 I.hok eb,dd,h _ _ (I.tok _) ?_⟩;rw[l];exact(rel.val k).getD rd
end
def qau1(td ty tx:TE):TE:=λ σ H Q=>td σ H λ x H1=>∃ a,x=.ref a/\IsD H1 a/\ty σ H1 λ y H2=>tx σ H2 λ z H3=>∃ o,DGet H3 a y o/\Q (o.getD z) H3
section
variable{X:Cx}{o e f:Expr}{apos cpos:Pos}{td ty tx:TE}
theorem qae2(hu:X.A.units+1 < cLine)(ho:PE X o td)(he:PE X e ty)(hf:PE X f tx)(m:M2 X o "get" apos e f cpos):PE X (.Call (.Attribute o "get" apos) [e,f] [] cpos) (qau1 td ty tx):=by
 intro Dk s σ H Q I h;refine wpAny_Call_method m.base m.few m.line PySem.F.plainAttrs_dict PySem.F.slot_dict_get PySem.F.type_dict_get (thn (ho Dk s σ H _ I h) λ u s1 ⟨x,H1,I1,rx,a,ex,d,q1⟩=>?_);subst ex;obtain rfl:u=Value.ref a:=rx;obtain⟨t1,t2,_⟩:=qay9 I1 d;refine⟨t1,t2,?_⟩;rw[m.trees];refine Calls.callWith_builtin rfl (Calls.evalArgs_plain (Calls.spliced_cons (thn (he Dk s1 σ H1 _ I1 q1) λ iv s2 ⟨y,H2,I2,ry,q2⟩ =>
   Calls.spliced_cons (thn (hf Dk s2 σ H2 _ I2 q2) λ fv s3 ⟨z,H3,I3,rz,ov,g,q3⟩=>Calls.spliced_nil ?_))))
 exact qaA4 hu I3 g ry rz λ w' s4 I4 rw'=>⟨_,H3,I4,rw',q3⟩
end
end L2
namespace Att
open PySem PySem.W PySem.Calls PyProof.Rows
theorem qs2{P:Params}{h:Heap}:∀(ns:List Int)(vs:List Value),WellAll P h vs (ns.map WData.int)->IntsAre vs ns:=by
 intro ns
 induction ns with
 | nil =>
   intro vs w;rw[List.map_nil] at w;cases w;exact .nil
 | cons n ns ih =>
   intro vs w;rw[zAu] at w;cases w with
   | cons a b =>
     cases a;exact .cons _ _ (ih _ b)
theorem qS8{l:OpenLaw}{n:Nat}(hn:l.most=some n){P:Params}{h:Heap}{args:List WData}{vals:List Value}(hpre:l.row.toRowW.claim.pre args=true)(hwl:WellAll P h vals args) :
   ∃ a vs ns,vals=[Value.ref a]/\args=[WData.list (ns.map WData.int)]/\h.get? a=some { cls:=.type "list",data:=.seq vs.toArray }/\IntsAre vs ns/\ns.length<=n:=by
 have hsh:WShape.hasAll [] args [.list .int]=true:=(pre_splitW hpre).1;have hc:l.pre.holds [] { args:=args }=true:=(pre_splitW hpre).2;obtain⟨d,r,rfl,h1,h2⟩:=hasAllW_cons hsh;obtain rfl:=hasAllW_nil h2;obtain⟨xs,rfl,h3⟩:=hasW_list h1;obtain⟨ns,rfl⟩:=items_int h3;have hlen:ns.length<=n:=by
   unfold OpenLaw.pre at hc;have h4:(WTm.not (.lt (.lit (.int (n:Int))) (.len (.arg 0)))).holds [] { args:=[.list (ns.map .int)] }=true:=by
     have h4:=(holds_andW hc).1;rw[hn] at h4;exact h4
   have h5:=condW_of h4 (w_not (w_lt w_lit (w_len_list (w_arg rfl))));rw[zAj] at h5;refine Nat.le_of_not_lt λ q=>?_
   have q':(n:Int) < ((ns.length:Nat):Int):=by lia
   first
     | (rw[zAh q'] at h5;exact absurd h5 (by decide))
     | (simp at h5;lia)
 cases hwl with
 | cons w1 w2 =>
   cases w2;cases w1 with
   | list ho hall=>exact⟨_,_,ns,rfl,rfl,ho,qs2 ns _ hall,hlen⟩
theorem qT2(l:OpenLaw)(args:List WData):l.row.toRowW.claim.post args (.bool true) args=true :=
 postW_of (r:=l.row.toRowW) (X:=(true == true))
   (show WShape.has [] (.bool true) .bool=true by first | rfl | decide | simp[WShape.has,WShape.arms,WShape.armsAll])
   (show (WTm.eq .res (.lit (.bool true))).value [] { args:=args,res:=some (.bool true),after:=args }=some (.bool (true == true)) from w_eq_bool (w_res rfl) w_lit) rfl
theorem qK0{l:OpenLaw}{n:Nat}{q:Program}{loose:List Str}{XP:(Str->Option Value)->Heap->Prop}{YP:World->Heap->Prop}{d:DefRec}(hn:l.most=some n)(hdf:d.params.defaults=[])(call:∀(w:World)(s₀ s₁:Shared)(mg mb:Str->Option Value)(fa:Addr)(o:Obj)(pm cd doc:Value)(a:Addr)(vs:List Value)(ns:List Int),
     Ground q loose [] XP w s₀ mg mb s₁.heap->YP w s₁.heap ->
     s₁.heap.get? fa=some o->o.data=.func (docDef d.name d.params d.body d.scope pm cd doc)->s₁.heap.CodeRec cd d.name->mg d.name=some (.ref fa) ->
     s₁.heap.get? a=some { cls:=.type "list",data:=.seq vs.toArray }->IntsAre vs ns->ns.length<=n->s₁.gens = #[] ->
     codeAny (model l.prog w) callerA (.call (.ref fa) ⟨[.ref a],[]⟩) (λ r s'=>r=.ok (.ret (.bool true))/\OldK s₁.heap s'.heap/\s'.os=s₁.os/\AllBare s'.gens) s₁) :
   WalkO q loose XP YP l.row.toRowW d [] (λ f vs=>PySem.call f vs):=by
 intro w s₀ s₁ mg mb G Y fa o pm cd doc dV kV ho hd hcd hD hmg hg args vals as hpre hlay hrd hwl hlo;obtain rfl:dV=.none:=Dflts.none hD hdf;obtain rfl:kV=.none:=Dflts.noKw hD;obtain⟨a,vs,ns,rfl,rfl,hobj,hints,hlen⟩:=qS8 hn hpre hwl;refine enter_call (codeAny_mono (call w s₀ s₁ mg mb fa o pm cd doc a vs ns G Y ho (fd_plain hd) hcd hmg hobj hints hlen hg) λ r s' hq=>?_);obtain⟨rfl,h2,h3,h4⟩:=hq;exact⟨.inl ⟨.bool true,.bool true,[],rfl,λ _=>rfl,.bool true,qT2 l _,λ _=>⟨List.Pairwise.nil,λ _ hm=>(nomatch hm)⟩⟩,h2,h3,h4⟩
end Att
namespace L2
open PySem PySem.Spec PyProof.Rows
theorem qE0:∀{vs:List Value}{ns:List Int},IntsAre vs ns->Vals (ns.map V.int) vs
 | _,_,.nil=>.nil
 | _,_,.cons n t h=>.cons ⟨t,rfl⟩ (qE0 h)
def Only(H:Hp):Prop:=∀ b,H b=none∨∃ o xs,H b=some (.frz o (.lst xs))
theorem qag2{P:Program}{w:World}{K:PySem.W.Frag}{mg mb:Str->Option Value}{CX:CXT}{k:Nat}{fa a:Addr}{fd:FuncData}{x:Str}{sp:Sp}{s₁:Shared}{vs:List Value}{ns:List Int}(KX:K.In s₁.heap)(hns:s₁.heap.Ns mainGlobals mg)(hb:s₁.heap.Ns builtinsNs mb)(hbb:∀ x:Str,x ≠ "__name__" -> mb x=bootBuiltins x)(hlim:s₁.heap.NoLimit)(hg:s₁.gens = #[])(ha:s₁.heap.get? a=some { cls:=.type "list",data:=.seq vs.toArray })(hi:IntsAre vs ns)(hl:ns.length<=sizeLine)(hr:Room k callerA)(F:∀ base:Heap,K.In base->base.Ns mainGlobals mg->Bh P w K mg base CX k fa fd [x] sp)(hbind:∀(s:Shared)(u:Value),BindsTo s fd ⟨[u],[]⟩ [(x,u)])(hsp:∀ H:Hp,Only H->SqL K H a (ns.map V.int)->sp [.ref a] H (λ v _=>v=.bl true) λ _ _ _=>False)(hCX:∀ H e s',CX [] H s₁ (λ _ _ _=>False) e s'->False) :
   codeAny (model P w) callerA (.call (.ref fa) ⟨[.ref a],[]⟩) (λ r s'=>r=.ok (.ret (.bool true))/\OldK s₁.heap s'.heap/\s'.os=s₁.os/\AllBare s'.gens) s₁:=by
 have rv:=qE0 hi;have lenV:=hi.length;have core:∀ H:Hp,Only H->SqL K H a (ns.map V.int)->HOk P w H s₁.heap->(∀ b,H b≠none->b=a)->(H a≠none->K.lookup a=none) ->
     codeAny (model P w) callerA (.call (.ref fa) ⟨[.ref a],[]⟩) (λ r s'=>r=.ok (.ret (.bool true))/\OldK s₁.heap s'.heap/\s'.os=s₁.os/\AllBare s'.gens) s₁:=by
   intro H hO hS hok hA hK;have base_of:∀{b:Addr}{o:Obj},s₁.heap.get? b=some o->H b=none->(E6 s₁.heap H).get? b=some o:=λ e n=>qag8 e n
   have noA:∀{b:Addr}{o:Obj}{es:Array DictEntry}{ep:Nat},s₁.heap.get? b=some o->o.data=.dict es ep->H b=none:=λ{b o es ep} e d=>by
     cases q:H b with
     | none=>rfl
     | some u =>
       have e':b=a:=hA b (by rw[q];simp);subst e';rw[ha] at e;cases e;have d':Data.seq vs.toArray _=Data.dict es ep:=d;cases d'
   have nsK:∀{b:Addr}{m:Str->Option Value},s₁.heap.Ns b m->(E6 s₁.heap H).Ns b m:=λ{b m} ⟨o,es,ep,e,d,r⟩=>⟨o,es,ep,base_of e (noA e d),d,r⟩
   have hKb:K.In (E6 s₁.heap H):=λ b o e=>base_of (KX b o e) (by
     cases q:H b with
     | none=>rfl
     | some u =>
       have e':b=a:=hA b (by rw[q];simp);subst e';rw[hK (by rw[q];simp)] at e;cases e)
   have hM:Mod K mg (E6 s₁.heap H):=⟨hKb,nsK hns,⟨mb,nsK hb,hbb⟩,let ⟨mc,h1,h2⟩:=hlim;⟨mc,nsK h1,h2⟩⟩
   have e0:Env0 P w K mg (E6 s₁.heap H) callerA [] s₁ H:=⟨rfl,hM,λ b o e=>qao8 e,Nat.le_of_eq (qU7 _ _),trivial,λ b hb=>absurd (show b∈([]:List Addr) from hb) (by simp),hok,.of_eq hg⟩
   refine codeAny_mono ((F _ hKb (nsK hns)).run callerA [] s₁ H ⟨[.ref a],[]⟩ [.ref a] [.ref a] _ _ hr e0 (hbind s₁ (.ref a)) (.cons rfl .nil) (hsp H hO hS)) λ r s' h=>?_
   cases r with
   | error e=>exact(hCX H e s' h).elim
   | ok fl =>
     cases fl with
     | next=>exact False.elim h
     | brk=>exact False.elim h
     | cont=>exact False.elim h
     | ret u =>
       obtain⟨v,H',os,bare,un,hok',r',q⟩:=h;have q':v=.bl true:=q;subst q';obtain rfl:u=Value.bool true:=r';refine⟨rfl,OldK.of_keep λ b o e=>?_,os,bare⟩;cases q:H b with
       | none=>exact un.keep b o e q (by intro z;exact absurd (show b∈([]:List Addr) from z) (by simp)) (by simp)
       | some u =>
         rcases hO b with z | ⟨ob,xs,z⟩
         . rw[q] at z;cases z
         have z2:=un.frzs b ob _ z;obtain⟨e1,_⟩:=hok b _ z;obtain⟨e2,_⟩:=hok' b _ z2;rw[e] at e1;cases e1;exact e2
 cases hk:K.lookup a with
 | some o =>
   have e:=KX a o hk;rw[ha] at e;cases e;refine core (λ _=>none) (λ _=>.inl rfl) (.inr ⟨_,vs.toArray,_,hk,rfl,rfl,rfl,by rw[zA4,lenV];exact hl,by simpa using rv⟩) (λ b u z=>by have z':(none:Option HO)=some u:=z;cases z') (λ b z=>absurd rfl z) λ z=>absurd rfl z
 | none =>
   refine core (λ b=>if b=a then some (.frz { cls:=.type "list",data:=.seq vs.toArray } (.lst (ns.map V.int))) else none) (λ b=>?_) (.inl (.inr ⟨{ cls:=.type "list",data:=.seq vs.toArray },if_pos rfl⟩)) (λ b u z=>?_) (λ b z=>?_) λ _=>hk
   . by_cases hb:b=a
     . exact .inr ⟨_,_,if_pos hb⟩
     exact .inl (if_neg hb)
   . by_cases hb:b=a
     . have z':=(if_pos hb).symm.trans z
       cases z';subst hb;exact⟨ha,by rw[zAj];exact hl,vs,_,rv,ha⟩
     have z':=(if_neg hb).symm.trans z;cases z'
   by_cases hb:b=a
   . exact hb
   exact absurd (if_neg hb) z
theorem qaj7{l:PySem.W.OpenLaw}{n k:Nat}{q:Program}{loose:List Str}{XP:(Str->Option Value)->Heap->Prop}{YP:World->Heap->Prop}{d:DefRec}{K:Params->PySem.W.Frag}{CX:World->CXT}{sp:World->Sp}{x:Str}(hn:l.most=some n)(hn2:n<=sizeLine)(hdf:d.params.defaults=[])(hr:Room k callerA)(hY:∀(w:World)(h:Heap),YP w h->(K w.params).In h)(F:∀(w:World)(mg:Str->Option Value)(fa:Addr)(h:Heap),(K w.params).In h->h.Ns mainGlobals mg->mg d.name=some (.ref fa) ->
     ∃ fd:FuncData,(∀(s:Shared)(u:Value),BindsTo s fd ⟨[u],[]⟩ [(x,u)]) /\
       ∀ base:Heap,(K w.params).In base->base.Ns mainGlobals mg->Bh l.prog w (K w.params) mg base (CX w) k fa fd [x] (sp w))(hsp:∀(w:World)(H:Hp)(a:Addr)(ns:List Int),ns.length<=n->Only H->SqL (K w.params) H a (ns.map V.int)->sp w [.ref a] H (λ v _=>v=.bl true) λ _ _ _=>False)(hCX:∀(w:World)(H:Hp)(s:Shared)(e:Value)(s':Shared),CX w [] H s (λ _ _ _=>False) e s'->False) :
   PySem.W.WalkO q loose XP YP l.row.toRowW d [] (λ f vs=>PySem.call f vs):=by
 refine Att.qK0 hn hdf λ w s₀ s₁ mg mb fa o pm cd doc a vs ns G Y ho hd hcd hmg hobj hints hlen hg=>?_
 have KX:=hY w _ Y;obtain⟨fd,hb,hF⟩:=F w mg fa _ KX G.T.g hmg;exact qag2 KX G.T.g G.T.b G.T.builtins G.T.nolimit hg hobj hints (zAm hlen hn2) hr hF hb (λ H hO hS=>hsp w H a ns hlen hO hS) λ H e s'=>hCX w H s₁ e s'
end L2
/- THE LAST THEOREM (shape;LID,My.* are yours):
  My.Adr: a structure of the addresses that your layer names (classes,functions);My.Txt K t: a structure (Prop) of the equations over K;
  My.txt_mk:{K} {implicit addresses ..} (e1:nsIn K mainGlobals "law" = some (some (.ref f))) (e2:K.lookup f=some ⟨oc,od,.func (fnOf "law" "law" params body scope dV kV doc pm an cdv ct),sl⟩) (e3:codeIn K cdv "law" = true) .. : ∃ t,My.Txt K t
(the tactic k_is has no namespace: write k_is) -/
namespace L2
open PySem PySem.Spec PyProof.Rows
variable{f:Addr}{qual x:Str}{st:Stmt}
def qs8(s:Stmt)(j:Nat):Stmt:=match s with
 | .ClassDef _ _ _ body _ _ _ _ _ _ _=>body.getD j (.Pass ⟨0,0,0,0⟩)
 | _=>.Pass ⟨0,0,0,0⟩
def qf4(s:Stmt):Arguments:=match s with
 | .FunctionDef _ a _ _ _ _ _ _ _ _=>a
 | _=>{ posonlyargs:=[],args:=[],vararg:=none,kwonlyargs:=[],kw_defaults:=[],kwarg:=none,defaults:=[] }
def qd0(s:Stmt):List Stmt:=match s with
 | .FunctionDef _ _ b _ _ _ _ _ _ _=>b
 | _=>[]
def qa4(s:Stmt):Scope:=match s with
 | .FunctionDef _ _ _ _ _ _ sc _ _ _=>sc
 | _=>{ kind:=.function,names:=[],isGenerator:=false,isCoroutine:=false }
abbrev CX0:CXT:=λ _ _ _ _ _ _=>False
abbrev E0:XK:=λ _ _ _=>False
theorem pass0{X:Cx}:qD8 CX0 X E0:=λ _ _ _ _ _ _ _ h=>h.elim
structure Fun(K:PySem.W.Frag)(x qual:Str)(st:Stmt)(f:Addr)(fd:FuncData):Prop where
 ex:∃(oc:Value)(od:Option Addr)(kV doc pm:Value)(an:Option Addr)(cdv ct:Value)(osl:Array (Option Value)),
   fd=PySem.W.fnOf x qual (qf4 st) (qd0 st) (qa4 st) .none kV doc pm an cdv ct/\K.lookup f=some ⟨oc,od,.func fd,osl⟩/\PySem.W.codeIn K cdv qual=true
 kp:PySem.W.keepIn K (.ref f)=true
section
variable{P:Program}{w:World}{K:PySem.W.Frag}{mg:Str->Option Value}{base:Heap}
theorem Fun.ok{fd:FuncData}{N ps:List Str}{k:Nat}{sp:Sp}(F:Fun K x qual st f fd)(S:qb1 N ps (qa4 st))(len:∀ vs H Q E,sp vs H Q E->vs.length=ps.length)(hbody:∀(cdv:Value)(A:Around)(outer:List Env)(s:Shared)(H:Hp)(vs:List V)(Q:VK)(E:XK),Room k (A.deeper (envOfC qual (qa4 st) s.heap.objs.size f cdv))->sp vs H Q E ->
     ∃ t,PSs (B9 CX0 P w K mg base N qual (qa4 st) f cdv A outer s H E).nox (qd0 st) t/\t { nx:=λ _ H'=>Q .non H',rt:=Q } (start N vs) H):Bh P w K mg base CX0 (k+1) f fd ps sp:=by
 obtain⟨oc,od,kV,doc,pm,an,cdv,ct,osl,rfl,lk,hcd⟩:=F.ex;refine G0 lk hcd S len λ A outer s H vs Q E hr hsp=>?_
 obtain⟨t,h,q⟩:=hbody cdv A outer s H vs Q E hr hsp;exact⟨t,h.nox,q⟩
theorem Fun.binds{fd:FuncData}{ps:List Str}(F:Fun K x qual st f fd)(h:∀(kV doc pm:Value)(an:Option Addr)(cdv ct:Value)(us:List Value),us.length=ps.length->bindArgs (PySem.W.fnOf x qual (qf4 st) (qd0 st) (qa4 st) .none kV doc pm an cdv ct) ⟨us,[]⟩=pure (ps.zip us)):Binds K fd ps []:=by
 obtain⟨oc,od,kV,doc,pm,an,cdv,ct,osl,rfl,lk,hcd⟩:=F.ex;exact .all (h kV doc pm an cdv ct)
theorem qU8{oc:Value}{od an:Option Addr}{osl:Array (Option Value)}{kV doc pm cdv ct:Value}(l:K.lookup f=some ⟨oc,od,.func (PySem.W.fnOf x qual (qf4 st) (qd0 st) (qa4 st) .none kV doc pm an cdv ct),osl⟩)(c:PySem.W.codeIn K cdv qual=true)(k:PySem.W.keepIn K (.ref f)=true):Fun K x qual st f (PySem.W.fnOf x qual (qf4 st) (qd0 st) (qa4 st) .none kV doc pm an cdv ct):=⟨⟨oc,od,kV,doc,pm,an,cdv,ct,osl,rfl,l,c⟩,k⟩
end
theorem hu_of{A:Around}{k:Nat}(hr:Room k A):A.units+1 < cLine:=Nat.lt_of_le_of_lt (Nat.add_le_add_left (by decide:1<=64) _) hr.units
theorem qS6{n:Nat}(h:n<=1000):n < sizeLine:=Nat.lt_of_le_of_lt h (by decide)
section
variable{X:Cx}
theorem pv(i:Nat){pos:Pos}(hN:X.N[i]? = some x:=by rfl)(hv:Vis X.env.scope x:=by first | exact Or.inl rfl | exact Or.inr (Or.inl rfl) | exact Or.inr (Or.inr rfl))(hd:(x == ("__debug__" : Str))=false:=by decide)(hcd:(x == ("__classdict__" : Str))=false:=by decide):PE X (.Name x pos) (El i):=qp0 hN hv hd hcd
theorem qW7:CallR X (.builtin "len") (λ xs H Q=>∃ a kvs,xs=[V.ref a]/\H a=some (.dK kvs)/\Q (.int kvs.length) H):=by
 intro Dk s σ H xs us Q I r h;obtain⟨a,kvs,rfl,ha,q⟩:=h;obtain⟨u,rfl,ru⟩:=Bm r;cases ru;exact d_len I (.inl ha) λ t s' I'=>⟨.int kvs.length,H,I',⟨t,rfl⟩,q⟩
end
theorem iteT{A B:Prop}(h:A):if true=true then A else B:=by
 rw[if_pos rfl];exact h
def Same(H H':Hp):Prop:=∀ b o,H b=some o->H' b=some o
theorem Same.trans{H H1 H2:Hp}(a:Same H H1)(b:Same H1 H2):Same H H2:=λ c o h=>b c o (a c o h)
end L2
set_option maxHeartbeats 4000000
namespace L2
open PySem PySem.Spec PyProof.Rows
variable{H:Hp}{a:Addr}{e:Expr}{es:List Expr}{i:Int}{p:Pos}{t:TA}{x:Str}{xs:List V}{α:Type}
theorem Gk{t:Sem α}{Q Q':α->Shared->Prop}{M:Model}{A:Around}{E:Value->Shared->Prop}{s:Shared}(h:wpAny M A t Q (λ _ _=>False) s)(hQ:∀ a s,Q a s->Q' a s):wpAny M A t Q' E s :=
 wpAny_mono h hQ λ _ _ x=>x.elim
def Ea(env:Env):List (Str×NameKind)->List (Str×Addr)->List (Str×Addr)
 | [],acc=>acc
 | (n,k)::r,acc=>Ea env r (if k == NameKind.free then (n,(env.cells.lookup n).getD 0)::acc else acc)
theorem qq2{env:Env}:∀(l:List (Str×NameKind))(acc:List (Str×Addr)),(∀ x∈l,x.2=NameKind.free->∃ c,env.cells.lookup x.1=some c) ->
   (forIn l acc λ(x:Str×NameKind)(r:List (Str×Addr)) =>
     (match x with
     | (name,kind)=>if (kind == NameKind.free)=true then (do let c <- cellOf env name;pure (ForInStep.yield ((name,c)::r)):Sem (ForInStep (List (Str×Addr)))) else pure (ForInStep.yield r)))=(pure (Ea env l acc):Sem _)
 | [],acc,_=>rfl
 | (n,k)::r,acc,h=>by
   rw[List.forIn_cons];by_cases hk:(k == NameKind.free)=true
   . obtain⟨c,hc⟩:=h (n,k) zAc (by simpa using hk)
     have hc:env.cells.lookup n=some c:=hc;dsimp only;rw[if_pos hk];have e:cellOf env n=pure c:=by unfold cellOf;rw[hc]
     rw[e];show (forIn r ((n,c)::acc) _:Sem _)=_;rw[qq2 r ((n,c)::acc) λ x hx=>h x (zA9 _ hx)];show _=(pure (Ea env r (if (k == NameKind.free)=true then (n,(env.cells.lookup n).getD 0)::acc else acc)):Sem _)
     rw[if_pos hk,hc];rfl
   dsimp only;rw[if_neg hk];show (forIn r acc _:Sem _)=_;rw[qq2 r acc λ x hx=>h x (zA9 _ hx)];show _=(pure (Ea env r (if (k == NameKind.free)=true then (n,(env.cells.lookup n).getD 0)::acc else acc)):Sem _)
   rw[if_neg hk]
theorem qy0{env:Env}{sc:Scope}(h:∀ x∈sc.names,x.2=NameKind.free->∃ c,env.cells.lookup x.1=some c):closureFor sc env=pure (Ea env sc.names []):=by
 unfold closureFor;show (forIn sc.names [] _ >>= _)=_
 have:=qq2 (env:=env) sc.names [] h
 rw[show (forIn sc.names ([]:List (Str×Addr)) _:Sem _)=pure (Ea env sc.names []) from this];rfl
theorem qR1{env:Env}:∀(l:List (Str×NameKind))(acc:List (Str×Addr))(x:Str)(c:Addr),(x,c)∈Ea env l acc->(x,c)∈acc∨((x,NameKind.free)∈l/\c=(env.cells.lookup x).getD 0)
 | [],acc,x,c,h=>.inl h
 | (n,k)::r,acc,x,c,h=>by
   rcases qR1 r _ x c h with h | ⟨h,e⟩
   . by_cases hk:(k == NameKind.free)=true
     . rw[if_pos hk] at h
       rcases zA7.mp h with h | h
       . cases h
         exact .inr ⟨by rw[show k=NameKind.free by simpa using hk];exact zAc,rfl⟩
       exact .inl h
     rw[if_neg hk] at h;exact .inl h
   exact .inr ⟨zA9 _ h,e⟩
theorem qR2{env:Env}:∀(l:List (Str×NameKind))(acc:List (Str×Addr))(x:Str),(∃ c,(x,c)∈acc)->∃ c,(x,c)∈Ea env l acc
 | [],acc,x,h=>h
 | (n,k)::r,acc,x,⟨c,h⟩=>qR2 r _ x ⟨c,by split;exact zA9 _ h;exact h⟩
theorem qD5{env:Env}:∀(l:List (Str×NameKind))(acc:List (Str×Addr))(x:Str),(x,NameKind.free)∈l->∃ c,(x,c)∈Ea env l acc
 | [],acc,x,h=>by simp at h
 | (n,k)::r,acc,x,h=>by
   rcases zA7.mp h with h | h
   . cases h
     exact qR2 r _ _ ⟨_,by rw[if_pos (by rfl)];exact zAc⟩
   exact qD5 r _ x h
theorem qp6{α:Type}:∀{l:List (Str×α)}{x:Str},(∃ c,(x,c)∈l)->∃ c,l.lookup x=some c
 | [],x,⟨c,h⟩=>by simp at h
 | (n,a)::r,x,⟨c,h⟩=>by
   cases hx:x == n with
   | true=>exact⟨a,by simp only[zAp,hx]⟩
   | false =>
     rcases zA7.mp h with h | h
     . cases h;simp at hx
     obtain⟨d,hd⟩:=qp6 ⟨c,h⟩;exact⟨d,by simp only[zAp,hx];exact hd⟩
def Bn(σ:St)(src:List (Option Nat)):St:=src.map λ o=>match o with | none=>none | some j=>(σ[j]?).getD none
def qs3(X:Cx)(NY:List Str)(src:List (Option Nat))(sc:Scope):Bool :=
 (sc.kind == .function)&&(src.length == NY.length) &&
 (sc.names.all λ x=>x.2 != .cell&&(x.2 != .local||sc.names.lookup x.1 == some .local)&&(x.2 != .free||(X.env.scope.names.lookup x.1 == some .cell||X.env.scope.names.lookup x.1 == some .free))) &&
 ((NY.zip src).all λ p=>match p.2 with | none=>true | some j=>X.N[j]? == some p.1&&sc.names.lookup p.1 == some .free)
def qg0(X:Cx)(NY:List Str)(sc:Scope)(C:Addr)(s0:Shared)(H0:Hp)(ex:List Addr):Cx where
 prog:=X.prog
 w:=X.w
 K:=X.K
 mg:=X.mg
 base:=X.base
 A:=X.A
 N:=NY
 s₀:=s0
 H₀:=H0
 env:=compEnvC sc (Ea X.env sc.names []) C X.env
 outer:=X.stack
 stack:=X.stack
 ex:=ex
 fn:=λ _=>false
 calm:=X.calm
 pn:=[]
 xe:=λ _ _=>False
def PFs(X:Cx)(ifs:List Expr)(t:TT):Prop :=
 ∀(Dk:List (Addr×Obj))(s:Shared)(σ:St)(H:Hp)(Q:Bool->Hp->Prop),Inv X Dk σ H s->t σ H Q ->
   wpAny (model X.prog X.w) X.A (forIn ifs true λ c r=>if r=true then do let ok <- isTrue c X.env (eval c X.env);pure (ForInStep.yield ok) else pure (ForInStep.yield r)) (TP X Dk σ Q) X.xe s
def tYes:TT:=λ _ H Q=>Q true H
theorem qam8{X:Cx}:PFs X [] tYes:=λ _ _ _ H _ I h=>wpAny_tests_nil ⟨H,I,h⟩
theorem qav5{X:Cx}{c:Expr}{t:TT}(h:PT X c t):PFs X [c] t:=λ Dk s σ H Q I q=>wpAny_tests_one (h Dk s σ H Q I q)
theorem qj8{prog:Program}{w:World}{A:Around}{R:Result->Shared->Prop}{s:Shared}{elt target iter:Expr}{ifs:List Expr}{scope:Scope}{pos:Pos}{it acc:Value}{env:Env}(I:Nat->Shared->Prop)(turn:∀ n s,I n s->wpAny (model prog w) A (pyNext it) (λ r s₁=>match r with
     | none=>R (.ok .next) s₁
     | some v=>wpAny (model prog w) A (letOwnedTupleGo target it v) (λ _ s₁'=>wpAny (model prog w) A (assign target env v) (λ _ s₂ =>
         wpAny (model prog w) A (forIn ifs true λ c r=>if r=true then do let ok <- isTrue c env (eval c env);pure (ForInStep.yield ok) else pure (ForInStep.yield r)) (λ ok s₃ =>
           if ok=true then wpAny (model prog w) A (eval elt env) (λ x s₄ =>
             wpAny (model prog w) A (call (.builtin "list.append") [acc,x]) (λ _ s₅=>∃ m,m < n/\I m s₅) (λ _ _=>False) s₄) (λ _ _=>False) s₃
           else ∃ m,m < n/\I m s₃) (λ _ _=>False) s₂) (λ _ _=>False) s₁') (λ _ _=>False) s₁) (λ _ _=>False) s)(n:Nat)(h:I n s) :
   codeAny (model prog w) A (.compLoop (.ListComp elt [⟨target,iter,ifs,0⟩] scope pos) 0 it acc env) R s:=by
 refine codeAny_loop rfl I (λ n s hI=>?_) n h;show wpAny _ A ((compTurn (.ListComp elt [⟨target,iter,ifs,0⟩] scope pos) 0 it acc env).onRaise (λ x=>do noteFrame x env;theTreesLotGoes x)) _ _ s;refine wpAny_noted ?_;rw[compTurn_list];refine wpAny_bind (wpAny_standAt (wpAny_bind (Gk (turn n s hI) λ r s₁ h₁=>?_)));cases r with
 | none=>exact wpAny_pure h₁
 | some v =>
   refine wpAny_bind (Gk h₁ λ _ s₁' h₁'=>?_);refine wpAny_bind (Gk h₁' λ _ s₂ h₂=>wpAny_bind (Gk h₂ λ ok s₃ h₃=>?_));cases ok with
   | false=>exact wpAny_pure ⟨rfl,h₃⟩
   | true =>
     exact wpAny_bind (wpAny_bind (Gk h₃ λ x s₄ h₄=>wpAny_bind (Gk h₄ λ _ s₅ h₅=>wpAny_pure (wpAny_pure ⟨rfl,h₅⟩))))
def qv9(J:It)(g:TG)(tf:TT)(te:TE)(D:Addr)(R:Hp->Prop)(σ0:St)(H0:Hp):Prop :=
 ∃ W:Nat->Nat->St->Hp->Prop,(∃ m,W 0 m σ0 H0)/\∀ i m σ H,W i m σ H ->
   (J.stop i H/\R H)∨(J.go i H/\∃ N:St->Hp->Prop,(∀ σ' H',N σ' H'->∃ m',m' < m/\W (i+1) m' σ' H')/\∀ x H',J.yld i H x H'->g x σ H' λ σ2 H2=>tf σ2 H2 λ ok H3 =>
     if ok=true then te σ2 H3 λ v H4=>∃ xs,H4 D=some (.lst xs)/\xs.length < sizeLine/\N σ2 (upd H4 D (.lst (xs++[v]))) else N σ2 H3)
theorem qk4{env:Env}{x:Str}:∀{names:List (Str×NameKind)},(∀ y∈names,y.2≠.cell) ->
   ((names.map λ (n,k)=>if (k == NameKind.free&&env.scope.kind == .function&&env.kindOf n == some .cell) then (n,NameKind.cell) else (n,k)).lookup x=some .cell ∨
    (names.map λ (n,k)=>if (k == NameKind.free&&env.scope.kind == .function&&env.kindOf n == some .cell) then (n,NameKind.cell) else (n,k)).lookup x=some .free)->names.lookup x=some .free
 | [],_,h=>by simp at h
 | (n,k)::r,hc,h=>by
   have ih:=@qk4 env x r λ y hy=>hc y (zA9 _ hy)
   have hk:k≠.cell:=hc (n,k) zAc;simp only[zAu] at h;cases hx:x == n with
   | true =>
     simp only[zAp,hx];by_cases hq:(k == NameKind.free&&env.scope.kind == .function&&env.kindOf n == some .cell)=true
     . have:k=NameKind.free:=by
         simp only[zAz,zBg] at hq;exact hq.1.1
       rw[this]
     rw[if_neg hq] at h;simp only[zAp,hx] at h;rcases h with h | h
     . exact absurd (Option.some.inj h) hk
     exact h
   | false =>
     simp only[zAp,hx];apply ih;by_cases hq:(k == NameKind.free&&env.scope.kind == .function&&env.kindOf n == some .cell)=true
     . rw[if_pos hq] at h
       simpa only[zAp,hx] using h
     rw[if_neg hq] at h;simpa only[zAp,hx] using h
theorem qf3{env:Env}{x:Str}:∀{names:List (Str×NameKind)},names.lookup x=some .free ->
   ((names.map λ (n,k)=>if (k == NameKind.free&&env.scope.kind == .function&&env.kindOf n == some .cell) then (n,NameKind.cell) else (n,k)).lookup x=some .cell ∨
    (names.map λ (n,k)=>if (k == NameKind.free&&env.scope.kind == .function&&env.kindOf n == some .cell) then (n,NameKind.cell) else (n,k)).lookup x=some .free)
 | [],h=>by simp at h
 | (n,k)::r,h=>by
   have ih:=@qf3 env x r;simp only[zAu];cases hx:x == n with
   | true =>
     simp only[zAp,hx] at h;have h:k=.free:=Option.some.inj h;by_cases hq:(k == NameKind.free&&env.scope.kind == .function&&env.kindOf n == some .cell)=true
     . rw[if_pos hq];simp only[zAp,hx];exact .inl trivial
     rw[if_neg hq];simp only[zAp,hx];rw[h];exact .inr rfl
   | false =>
     simp only[zAp,hx] at h;by_cases hq:(k == NameKind.free&&env.scope.kind == .function&&env.kindOf n == some .cell)=true
     . rw[if_pos hq];simp only[zAp,hx];exact ih h
     rw[if_neg hq];simp only[zAp,hx];exact ih h
section
variable{X:Cx}{Dk:List (Addr×Obj)}{σ:St}{H2:Hp}{s2:Shared}{elt tg iter:Expr}{ifs:List Expr}{sc:Scope}{pos:Pos}{NY:List Str}{src:List (Option Nat)}{J:It}{fp:List Addr}{it:Addr}{tn:Nat->Heap->Prop}{g:TG}{tf:TT}{te:TE}
theorem qH7{R:Addr->Hp->Prop}{E:Value->Shared->Prop}{RR:Value->Addr->Result->Shared->Prop}(ck:qs3 X NY src sc=true)(hc:X.calm=true)(I2:Inv X Dk σ H2 s2)(T:Turn X.prog X.w X.K tg J fp it tn)(st2:tn 0 s2.heap)(f2:∀ b∈fp,Fa X Dk H2 b)(hg:∀ C s0 H0,PG (qg0 X NY sc C s0 H0 fp) tg g)(hf:∀ C s0 H0,PFs (qg0 X NY sc C s0 H0 fp) ifs tf)(he:∀ C s0 H0,PE (qg0 X NY sc C s0 H0 fp) elt te)(rd:∀ D,H2 D=none->qv9 J g tf te D (R D) (Bn σ src) (upd H2 D (.lst [])))(fin:∀ D C H' s',Inv X Dk σ H' s'->R D H'->H' C=none->X.s₀.heap.objs.size<=C->C≠X.env.locals->(∀ x c,X.env.cells.lookup x=some c->c≠C)->(∀ p∈X.pn++Dk,p.1≠C)->C∉X.fs->(∃ m,s'.heap.Ns C m)->RR (.ref D) C (.ok .next) s') :
   wpAny (model X.prog X.w) X.A (newList []) (λ acc s₃=>wpAny (model X.prog X.w) X.A (newFunctionEnv sc X.env.globals (Ea X.env sc.names []) [] X.env.qual none .none (some X.env)) (λ cenv s₄ =>
     codeAny (model X.prog X.w) X.A (.compStart (.ListComp elt [⟨tg,iter,ifs,0⟩] sc pos) 0 (.ref it) acc { cenv with scope:=relabel sc X.env }) (RR acc cenv.locals) s₄) E s₃) E s2:=by
 unfold qs3 at ck;simp only[zAz,zBg,zAy] at ck;obtain⟨⟨⟨hkind,hlen⟩,hnm⟩,hsrc⟩:=ck;have hcell:∀ y∈sc.names,y.2≠.cell:=λ y hy e=>by
   have:=(hnm y hy).1.1
   rw[e] at this;exact absurd this (by decide)
 have hfree:∀ y∈sc.names,y.2=.free->(X.env.kindOf y.1=some .cell∨X.env.kindOf y.1=some .free):=λ y hy e=>by
   have:=(hnm y hy).2
   rw[e] at this;show X.env.scope.names.lookup y.1=some .cell∨X.env.scope.names.lookup y.1=some .free;simpa using this
 have clsub:∀ x c,(Ea X.env sc.names []).lookup x=some c->X.env.cells.lookup x=some c:=λ x c e=>by
   rcases qR1 _ _ x c (PySem.mem_of_lookup e) with h | ⟨h,q⟩
   . simp at h
   obtain⟨d,hd⟩:=I2.ok.has x (hfree _ h rfl);rw[hd] at q;rw[hd,q];rfl
 refine wpAny_newObj_type (wpAny_newFunctionEnv hcell (by intro y hy;simp at hy) (λ h₁ hns₁ hsb₁=>?_) hkind);dsimp only at hns₁ hsb₁ ⊢;have I3:=I2.lnew (ys:=[]) (its:=[]) (t':=s2.toks) .nil (Nat.zero_le _);have hD:H2 s2.heap.objs.size=none:=I2.fresh;generalize hDn:s2.heap.objs.size=D at hns₁ hsb₁ I3 hD ⊢;generalize hH3:s2.heap.push { cls:=.type "list",dict:=none,data:=.seq ([]:List Value).toArray }=h3 at hns₁ hsb₁ I3 ⊢;have hs3:h3.objs.size=D+1:=by rw[<- hH3,Heap.size_push,hDn]
 generalize hCn:h3.objs.size=C at hns₁ hsb₁ hs3 ⊢;have I3:Inv X Dk σ (upd H2 D (.lst [])) { s2 with heap:=h3,toks:=s2.toks }:=I3;have old:∀ b o,h3.get? b=some o->h₁.get? b=some o:=λ b o e=>hsb₁.extBut b o (by rw[<- hCn];exact zAl (zA6 e)) (zA2 _ e)
 have neC:∀ b o,h3.get? b=some o->b≠C:=λ b o e=>by rw[<- hCn];exact zAl (zA6 e)
 have hLC:X.env.locals≠C:=by rw[<- hCn];exact zAl I3.lt
 have cLC:∀ x c,X.env.cells.lookup x=some c->c≠C:=λ x c e=>by
   obtain⟨v,o,ho,_⟩:=I3.cell x c e;exact neC c o ho
 have fpC:∀ b∈fp,b≠C:=λ b hb=>by
   obtain⟨o,ho,_⟩:=T.obj _ _ st2 b hb
   have:=zA6 ho
   rw[hDn] at this;exact zAl (Nat.lt_trans this (by rw[hs3];exact zBs _))
 have fpD:∀ b∈fp,b≠D:=λ b hb=>by
   obtain⟨o,ho,_⟩:=T.obj _ _ st2 b hb
   have:=zA6 ho
   rw[hDn] at this;exact zAl this
 have k23:∀ b o,s2.heap.get? b=some o->h3.get? b=some o:=λ b o e=>by rw[<- hH3];exact zA2 _ e
 have pinC:∀ p∈X.pn++Dk,p.1≠C:=λ p hp=>neC _ _ (I3.pin p hp).1
 have fsC:C∉X.fs:=by rw[<- hCn];exact I3.nofs (zA8 _)
 have ovC:X.s₀.heap.objs.size<=C:=by rw[<- hCn];exact I3.sz
 have stkC:∀ b∈frs X.stack,b≠C:=λ b hb e=>by
   rcases zA7.mp (I3.stkSub b hb) with z | z
   . exact hLC (z.symm.trans e)
   exact fsC (e ▸ z)
 have HC:upd H2 D (.lst []) C=none:=I3.hok.fresh (by show h3.objs.size<=C;exact Nat.le_of_eq hCn);have fpO:∀ b∈fp,b∉frs X.stack:=λ b hb z=>by
   obtain⟨_,h1,h2,_⟩:=f2 b hb;rcases zA7.mp (I2.stkSub b z) with q | q
   . exact h1 q
   exact h2 q
 let Y:Cx:=qg0 X NY sc C { s2 with heap:=h3 } (upd H2 D (.lst [])) fp
 have sc0:(Bn σ src).length=NY.length:=by unfold Bn;rw[zAj];exact hlen
 have IY:Inv Y [] (Bn σ src) (upd H2 D (.lst [])) { s2 with heap:=h₁,toks:=s2.toks+0 }:=by
   refine⟨⟨I2.ok.mod,hkind,I2.ok.glob,I2.ok.blt,(by show h3.objs.size<=C;exact Nat.le_of_eq hCn),λ x y c h1 h2=>I2.ok.inj x y c (clsub x c h1) (clsub y c h2),λ x hx=>?_,λ _ _ z _=>(zAe z).elim,I2.ok.hd,I2.ok.frames,.inl rfl,λ b hb=>⟨fpC b hb,λ x c e=>(f2 b hb).2.2.2.2.1 x c (clsub x c e)⟩,
     λ b o e=>?_,?_,λ b o e hb=>?_,λ b hb=>fpO b hb,?_,λ b hb=>?_⟩,rfl,I2.bare,Un.kept old,⟨_,hns₁,λ i x v e1 e2 e3=>?_⟩,λ x c e=>?_,HC,λ x c e=>I3.freeC x c (clsub x c e),λ p hp=>absurd (show p∈([]:List (Addr×Obj)) from hp) (by simp),I3.hok.kept old,sc0⟩
   . have hx:=qk4 hcell hx
     exact qp6 (qD5 _ _ _ (PySem.mem_of_lookup hx))
   . exact I3.bs b o e
   . exact zAm I2.ok.bsz (zAm (zAm I2.sz (by rw[hDn];exact zA8 _)) (by show D<=h3.objs.size;lia))
   . rcases (f2 b hb).2.2.2.1 with z | z
     . exact I2.ok.noex b o e z
     exact absurd (zAb (zA6 (I2.ok.bs b o e).1) z) (Nat.lt_irrefl _)
   . exact I3.stack
   . exact I3.stkFree b hb
   . -- a captured name
     have hi:i < src.length:=by
       have:=(zA5.mp e2).1
       rw[sc0,<- hlen] at this;exact this
     have e1:NY[i]? = some x:=e1;have es:src[i]? = some src[i]:=by simp[hi]
     have ep:(Bn σ src)[i]? = some (match src[i] with | none=>none | some j=>(σ[j]?).getD none):=by
       unfold Bn;rw[zBe,es];rfl
     rw[ep] at e2;cases hj:src[i] with
     | none=>rw[hj] at e2;cases e2
     | some j =>
       rw[hj] at e2;have e2:(σ[j]?).getD none=some v:=Option.some.inj e2;have ej:σ[j]? = some (some v):=by
         cases q:σ[j]? with
         | none=>rw[q] at e2;cases e2
         | some o=>rw[q] at e2;rw[show o=some v from e2]
       have hm:(x,some j)∈NY.zip src:=by
         have:(NY.zip src)[i]? = some (x,some j):=by
           rw[List.getElem?_zip_eq_some];exact⟨e1,by rw[es,hj]⟩
         exact zBd this
       have q:=hsrc _ hm;simp only[zAz,zBg] at q;obtain⟨qN,qf⟩:=q;have qk:=hfree _ (PySem.mem_of_lookup qf) rfl;obtain⟨m,hn,hl⟩:=I3.loc;obtain⟨u,r,l⟩:=hl j x v qN ej (qk.elim (λ z=>.inr (.inl z)) λ z=>.inr (.inr z));refine⟨u,r,.inr ⟨qf3 qf,?_⟩⟩;rcases l with⟨z,_⟩ | ⟨_,c,ec,o,ho,hd⟩
       . have qk:X.env.kindOf x=some .cell∨X.env.kindOf x=some .free:=qk
         rw[z] at qk;rcases qk with qk | qk<;>cases qk
       obtain⟨c',ec'⟩:=qp6 (qD5 (env:=X.env) sc.names [] x (PySem.mem_of_lookup qf))
       have:=clsub x c' ec'
       rw[ec] at this;cases this;exact⟨c,ec',o,old c o ho,hd⟩
   obtain⟨v,o,ho,hd⟩:=I3.cell x c (clsub x c e);exact⟨v,o,old c o ho,hd⟩
 have st₁:tn 0 h₁:=T.keep _ _ _ st2 λ b hb o e=>old b o (k23 b o e)
 have stat:∀{H':Hp},(∀ b∈fp,H' b=none)->∀ b∈fp,Fa Y [] H' b:=λ hn b hb=>by
   refine⟨hn b hb,fpC b hb,fpO b hb,.inl hb,λ x c e=>(f2 b hb).2.2.2.2.1 x c (clsub x c e),λ p hp=>absurd (show p∈([]:List (Addr×Obj)) from hp) (by simp)⟩
 have loop:codeAny (model X.prog X.w) X.A (.compLoop (.ListComp elt [⟨tg,iter,ifs,0⟩] sc pos) 0 (.ref it) (.ref D) Y.env) (RR (.ref D) C) { s2 with heap:=h₁,toks:=s2.toks+0 }:=by
   obtain⟨W,⟨m0,w0⟩,turn⟩:=rd D hD;refine qj8 (λ n s'=>∃ i σ' H',Inv Y [] σ' H' s'/\tn i s'.heap/\(∀ b∈fp,H' b=none)/\W i n σ' H') ?_ m0 ⟨0,_,_,IY,st₁,λ b hb=>by rw[qb2 (fpD b hb)];exact(f2 b hb).1,w0⟩;rintro n s3 ⟨i,σ3,H3,J3,st3,fr3,w3⟩;rcases turn i n σ3 H3 w3 with⟨stop,qn⟩ | ⟨go,N,hN,step⟩
   . refine thn (T.done Y rfl rfl rfl hc i [] s3 σ3 H3 _ J3 (stat fr3) st3 stop) λ r s4 ⟨hr,J4⟩=>?_
     subst hr;have hcx:H3 C=none:=J4.free;refine fin D C H3 s4 ?_ qn hcx ovC (Ne.symm hLC) cLC pinC fsC (let ⟨m,hn,_⟩:=J4.loc;⟨m,hn⟩);refine I2.call' (ch:=fp) J4.os ?_ J4.hok J4.bare λ b hb=>?_
     . have u1:Un (frs X.stack) fp H2 (upd H2 D (.lst [])) s2.heap h3:=Un.laid k23 (Nat.le_of_eq hDn) hD
       exact u1.trans J4.base
     obtain⟨_,h1,_,h3',h4,h5⟩:=f2 b hb;exact⟨h3',h1,h4,h5⟩
   refine thn (T.item Y rfl rfl rfl hc i [] s3 σ3 H3 _ J3 (stat fr3) st3 go) λ r s4 ⟨u,hr,h4⟩=>?_
   subst hr;refine thn h4 λ _ s5 ⟨x,H5,J5,r5,y5,st5,fr5⟩=>?_
   have J5':=J5.pinned (stat fr5) (T.obj _ _ st5);have again:∀{σ7:St}{H7:Hp}{s7:Shared},Inv Y ([]++qN0 fp s5.heap) σ7 H7 s7->N σ7 H7->∃ m,m < n/\∃ i σ' H',Inv Y [] σ' H' s7/\tn i s7.heap/\(∀ b∈fp,H' b=none)/\W i m σ' H':=λ{σ7 H7 s7} I7 n7=>by
     obtain⟨m',hm,w7⟩:=hN σ7 H7 n7;refine⟨m',hm,i+1,σ7,H7,I7.unpinned,T.keep _ _ _ st5 λ b hb o e=>(I7.pin (b,o) (zAt _ (zAt _ (qk3 hb e)))).1,λ b hb=>?_,w7⟩;obtain⟨o,e,d⟩:=T.obj _ _ st5 b hb;exact(I7.pin (b,o) (zAt _ (zAt _ (qk3 hb e)))).2.1
   refine thn (hg C _ _ _ s5 σ3 H5 x u _ J5' r5 (step x H5 y5)) λ _ s6 ⟨σ6,H6,J6,q6⟩=>?_
   refine thn (hf C _ _ _ s6 σ6 H6 _ J6 q6) λ ok s7 ⟨H7,J7,q7⟩=>?_
   cases ok with
   | false=>exact again J7 (by simpa using q7)
   | true =>
     rw[if_pos rfl] at q7 ⊢;refine thn (he C _ _ _ s7 σ6 H7 _ J7 q7) λ y s8 ⟨v,H8,J8,r8,xs,hx8,hz8,q8⟩=>?_
     refine thn (qn7 (X:=Y) _ s8 σ6 H8 (.ref D) [v] (.ref D) [y] (λ _ H'=>N σ6 H') J8 rfl (.cons r8 .nil) ⟨D,xs,v,rfl,rfl,hx8,hz8,q8⟩) λ _ s9 ⟨_,H9,J9,_,q9⟩=>?_
     exact again J9 q9
 exact codeAny_compStart_list loop (T.self _ 0 _ _ _ st₁ loop)
end
def Es(wi:TI)(src:List (Option Nat))(g:TG)(tf:TT)(te:TE):TE:=λ σ H Q=>wi σ H λ J H1=>∀ D,H1 D=none->qv9 J g tf te D (λ H'=>Q (.ref D) H') (Bn σ src) (upd H1 D (.lst []))
section
variable{X:Cx}{elt tg iter:Expr}{ifs:List Expr}{sc:Scope}{pos:Pos}{NY:List Str}{src:List (Option Nat)}{wi:TI}{g:TG}{tf:TT}{te:TE}
theorem qx9(ck:qs3 X NY src sc=true):sc.kind=.function/\(∀ y∈sc.names,y.2=.local->sc.names.lookup y.1=some .local)/\(∀ y∈sc.names,y.2=.free->(X.env.kindOf y.1=some .cell∨X.env.kindOf y.1=some .free)):=by
 unfold qs3 at ck;simp only[zAz,zBg,zAy] at ck;obtain⟨⟨⟨hkind,hlen⟩,hnm⟩,hsrc⟩:=ck;refine⟨hkind,λ y hy e=>?_,λ y hy e=>?_⟩
 . have:=(hnm y hy).1.2
   rw[e] at this;simpa using this
 have:=(hnm y hy).2
 rw[e] at this;show X.env.scope.names.lookup y.1=some .cell∨X.env.scope.names.lookup y.1=some .free;simpa using this
theorem qN3(NY:List Str)(src:List (Option Nat))(hi:PI X tg iter wi)(hg:∀ C s0 H0 ex,PG (qg0 X NY sc C s0 H0 ex) tg g)(hf:∀ C s0 H0 ex,PFs (qg0 X NY sc C s0 H0 ex) ifs tf)(he:∀ C s0 H0 ex,PE (qg0 X NY sc C s0 H0 ex) elt te)(hc:X.calm=true:=by rfl)(ck:qs3 X NY src sc=true:=by rfl)(hs:∀ x,foldedSetIterable iter X.env x=pure x:=by intro _;rfl):PE X (.ListComp elt [⟨tg,iter,ifs,0⟩] sc pos) (Es wi src g tf te):=by
 intro Dk s σ H Q I h;obtain⟨hkind,hnames,hfree⟩:=qx9 ck;rw[eval_ListComp];refine wpAny_comprehension_free (use:=none) rfl hs (qy0 λ x hx e=>I.ok.has x.1 (hfree x hx e)) hkind hnames ?_;refine thn (hi Dk s σ H _ I h) λ v s1 h1=>thn h1 λ itv s2 h2=>?_
 obtain⟨it,fp,tn,J,H2,rfl,I2,T,st2,f2,rd⟩:=h2;refine qH7 (R:=λ D H'=>Q (.ref D) H') (RR:=λ acc C=>compPost (model X.prog X.w) X.A X.xe none (EP X Dk σ Q) acc C) ck hc I2 T st2 f2 (λ C s0 H0=>hg C s0 H0 fp) (λ C s0 H0=>hf C s0 H0 fp) (λ C s0 H0=>he C s0 H0 fp) rd ?_;intro D C H' s' I' q hC h1 h2 h3 h4 h5 ⟨m,hn⟩;refine⟨m,hn,λ h' hs'=>⟨.ref D,H',?_,rfl,q⟩⟩;exact I'.turned (t':=s'.toks) (it:=C) (λ b o hb e=>hs'.extBut b o hb e) hC h2 (.inr h1) h3 h4
theorem qY3(i:Nat){px spos:Pos}(NY:List Str)(src:List (Option Nat))(hN:X.N.Nodup)(hi:PI X tg iter wi)(hg:∀ C s0 H0 ex,PG (qg0 X NY sc C s0 H0 ex) tg g)(hf:∀ C s0 H0 ex,PFs (qg0 X NY sc C s0 H0 ex) ifs tf)(he:∀ C s0 H0 ex,PE (qg0 X NY sc C s0 H0 ex) elt te)(hix:X.N[i]? = some x:=by rfl)(hx:Loc X.env.scope x:=by first | exact Or.inl rfl | exact Or.inr rfl)(hc:X.calm=true:=by rfl)(ck:qs3 X NY src sc=true:=by rfl)(hsw:swapsWith (.ListComp elt [⟨tg,iter,ifs,0⟩] sc pos) (some (.Name x px)) spos.line X.env=pure true:=by rfl)(hs:∀ x,foldedSetIterable iter X.env x=pure x:=by intro _;rfl)(hfn:X.fn x=true∨X.env.scope.names.lookup x=some .local:=by first | exact .inl rfl | exact .inr rfl | assumption):PS X (.Assign [.Name x px] (.ListComp elt [⟨tg,iter,ifs,0⟩] sc pos) spos) (Gj (Es wi src g tf te) (Ec i)):=by
 intro Dk s σ H D I h;obtain⟨hkind,hnames,hfree⟩:=qx9 ck;rw[exec_Assign_Name_used _ _ _ _ hsw];refine wpAny_bind (wpAny_standAt (wpAny_bind ?_));show wpAny _ _ (do let _ <- comprehension (.ListComp elt [⟨tg,iter,ifs,0⟩] sc pos) sc X.env _ (newList []) false (eval iter X.env) (some (assign (.Name x px) X.env))) _ _ s;refine wpAny_bind (wpAny_mono (wpAny_comprehension_free (use:=some (assign (.Name x px) X.env)) (Q:=λ _ s'=>SP X Dk D .next s') rfl hs (qy0 λ x hx e=>I.ok.has x.1 (hfree x hx e)) hkind hnames ?_) (λ _ s' hq=>wpAny_pure (wpAny_pure hq)) λ _ _ e=>e);refine thn (hi Dk s σ H _ I h) λ v s1 h1=>thn h1 λ itv s2 h2=>?_
 obtain⟨it,fp,tn,J,H2,rfl,I2,T,st2,f2,rd⟩:=h2;refine qH7 (R:=λ D' H'=>Ec i (.ref D') σ H' D.nx) (RR:=λ acc C=>compPost (model X.prog X.w) X.A X.xe (some (assign (.Name x px) X.env)) (λ _ s'=>SP X Dk D .next s') acc C) ck hc I2 T st2 f2 (λ C s0 H0=>hg C s0 H0 fp) (λ C s0 H0=>hf C s0 H0 fp) (λ C s0 H0=>he C s0 H0 fp) rd ?_;intro D' C H' s' I' q hC h1 h2 h3 h4 h5 ⟨m,hn⟩;obtain⟨o,es,ep,ho,hd,hr⟩:=hn;have Ip:Inv X (Dk++[(C,o)]) σ H' s':=I'.pins_of λ p hp=>(zAd.mp hp).elim (λ z=>I'.pin p (zAt _ z)) λ z=>by
   have e:p=(C,o):=by simpa using z
   subst e;exact⟨ho,hC,h2,h5,λ v e=>by rw[hd] at e;cases e⟩
 show wpAny _ _ (assign (.Name x px) X.env (.ref D')) _ _ _;refine wpAny_assign_Name (qt2 (v:=.ref D') Ip hN hix hx rfl (λ s'' I''=>?_) hfn);have ho'':s''.heap.get? C=some o:=(I''.pin (C,o) (by simp)).1;refine⟨m,⟨o,es,ep,ho'',hd,hr⟩,λ h' hs'=>⟨_,H',?_,q⟩⟩;exact I''.unpinned.turned (t':=s''.toks) (it:=C) (λ b o hb e=>hs'.extBut b o hb e) hC h2 (.inr h1) h3 h4
end
theorem qH6{K:PySem.W.Frag}{D:Addr}{g:TG}{tf:TT}{te:TE}{R:Hp->Prop}{σ:St}(Pv:Nat->St->Hp->Prop)(h0:Pv 0 σ H)(hl:∀ i σ H,i<=xs.length->Pv i σ H->SqL K H a xs)(hs:∀ i x σ H,xs[i]? = some x->Pv i σ H->g x σ H λ σ2 H2=>tf σ2 H2 λ ok H3=>if ok=true then te σ2 H3 λ v H4=>∃ ys,H4 D=some (.lst ys)/\ys.length < sizeLine/\Pv (i+1) σ2 (upd H4 D (.lst (ys++[v]))) else Pv (i+1) σ2 H3)(hd:∀ σ H,Pv xs.length σ H->R H) :
   qv9 (Itl K a) g tf te D R σ H:=by
 refine⟨λ i m σ H=>m=xs.length - i/\i<=xs.length/\Pv i σ H,⟨xs.length,by simp,Nat.zero_le _,h0⟩,?_⟩;rintro i m σ H ⟨rfl,hi,p⟩;have q:=hl i σ H hi p;by_cases hlt:i < xs.length
 . refine .inr ⟨⟨xs,xs[i],q,by simp[hlt]⟩,Pv (i+1),λ σ' H' p'=>⟨xs.length - (i+1),by lia,rfl,hlt,p'⟩,λ x H' y=>?_⟩
   obtain⟨e,y⟩:=y;subst e;exact hs i x σ _ (y xs q) p
 have e:i=xs.length:=by lia
 subst e;exact .inl ⟨⟨xs,q,zA8 _⟩,hd σ H p⟩
theorem qR0{D:Addr}{lo:Int}{n:Nat}{g:TG}{tf:TT}{te:TE}{R:Hp->Prop}{σ:St}(Pv:Nat->St->Hp->Prop)(h0:Pv 0 σ H)(hs:∀ i σ H,i < n->Pv i σ H->g (.int (lo+i)) σ H λ σ2 H2=>tf σ2 H2 λ ok H3=>if ok=true then te σ2 H3 λ v H4=>∃ ys,H4 D=some (.lst ys)/\ys.length < sizeLine/\Pv (i+1) σ2 (upd H4 D (.lst (ys++[v]))) else Pv (i+1) σ2 H3)(hd:∀ σ H,Pv n σ H->R H) :
   qv9 (Itr lo n) g tf te D R σ H:=by
 refine⟨λ i m σ H=>m=n - i/\i<=n/\Pv i σ H,⟨n,by simp,Nat.zero_le _,h0⟩,?_⟩;rintro i m σ H ⟨rfl,hi,p⟩;by_cases hlt:i < n
 . refine .inr ⟨hlt,Pv (i+1),λ σ' H' p'=>⟨n - (i+1),by lia,rfl,hlt,p'⟩,λ x H' y=>?_⟩
   obtain⟨e,y⟩:=y;subst e y;exact hs i σ _ hlt p
 have e:i=n:=by lia
 subst e;exact .inl ⟨zA8 _,hd σ H p⟩
section
variable{X:Cx}
theorem sset(i:Nat){te:TE}{pos pos':Pos}(hN:X.N.Nodup)(he:PE X e te)(hi:X.N[i]? = some x:=by rfl)(hx:Loc X.env.scope x:=by first | exact Or.inl rfl | exact Or.inr rfl)(hs:swapsWith e (some (.Name x pos')) pos.line X.env=pure false:=by rfl)(hf:X.fn x=true∨X.env.scope.names.lookup x=some .local:=by first | exact .inl rfl | exact .inr rfl | assumption):PS X (.Assign [.Name x pos'] e pos) (Gj te (Ec i)):=qam3 hN hi hx he hs hf
theorem gnm(i:Nat){pos:Pos}(hN:X.N.Nodup)(hi:X.N[i]? = some x:=by rfl)(hx:Loc X.env.scope x:=by first | exact Or.inl rfl | exact Or.inr rfl)(hf:X.fn x=true∨X.env.scope.names.lookup x=some .local:=by first | exact .inl rfl | exact .inr rfl | assumption):PG X (.Name x pos) (Ec i):=qY6 hN hi hx hf
def CDivB(_ j:Int):Prop:=0 < j/\j < 2 ^ 200
theorem qB0:OpR X (binaryOp .FloorDiv) (rI CDivB λ i j=>.int (i / j)):=opI λ i j _ _ _ _ _ hc q=>by
 have h1:(0:Int) < j:=hc.1;have h2:j < 2 ^ 200:=hc.2;refine floordiv_int (by lia) (by rw[Int.fdiv_eq_ediv_of_nonneg i (by lia)];exact q) (.inl (PyProof.noPylong_of_log2 ?_));have h3:j.natAbs < 2 ^ 200:=by lia
 have h4:j.natAbs.log2 < 200:=(Nat.log2_lt (by lia)).mpr h3;lia
theorem qan0{j:Int}(k:Int){a b:Nat}{q pos:Pos}(hk:i ^ j.toNat=k:=by decide)(h0:0<=j:=by decide)(h1:j<=1000000:=by decide)(h2:i.natAbs < 2 ^ 64:=by decide):PE X (.BinOp (.Constant (.int i) a p) .Pow (.Constant (.int j) b q) pos) (tC (.int k)):=by
 intro Dk s σ H Q I h;refine(pe_op qaw6 qA8 qA8) Dk s σ H Q I ⟨_,_,rfl,rfl,⟨h0,h1,h2⟩,?_⟩;show Q (.int (i ^ j.toNat)) H;rw[hk];exact h
def Bo(H:Hp):V->Option String
 | .non=>some "NoneType" | .bl _=>some "bool" | .int _=>some "int" | .str _=>some "str"
 | .ref a=>match H a with
   | some (.lst _)=>some "list" | some (.tup _)=>some "tuple" | some (.dK _)=>some "dict" | some (.frz _ (.lst _))=>some "list"
   | _=>none
 | _=>none
def G5(t n:String):Bool:=t == n||(t == "bool" && n == "int")
theorem qaq0(K:PySem.W.Frag){t n:String}(ht:t∈["NoneType", "bool", "int", "str", "list", "tuple", "dict"])(hn:n∈["bool", "int", "str", "list", "tuple", "dict"]):PySem.W.kitOne K (.type t) (.type n)=some (G5 t n):=by
 simp only[zA7,zAi,zBb] at ht hn;rcases ht with rfl | rfl | rfl | rfl | rfl | rfl | rfl<;>rcases hn with rfl | rfl | rfl | rfl | rfl | rfl<;>rfl
theorem qP2{K:PySem.W.Frag}{x:V}{t:String}(h:Bo H x=some t):Dn K H x (.type t)/\t∈["NoneType", "bool", "int", "str", "list", "tuple", "dict"]:=by
 cases x with
 | non=>cases h;exact⟨.non,by decide⟩
 | bl b=>cases h;exact⟨.bl b,by decide⟩
 | int b=>cases h;exact⟨.int b,by decide⟩
 | str b=>cases h;exact⟨.str b,by decide⟩
 | byt b=>cases h
 | flt b=>cases h
 | ty b=>cases h
 | ref a =>
   unfold Bo at h;dsimp only at h;split at h
   . cases h;exact⟨.lst (by assumption),by decide⟩
   . cases h;exact⟨.tup (by assumption),by decide⟩
   . cases h;exact⟨.dK (by assumption),by decide⟩
   . cases h;exact⟨.frz (by assumption),by decide⟩
   cases h
def rIsi:List V->Hp->VK->Prop:=λ xs H Q=>∃ x n t,xs=[x,.ty n]/\Bo H x=some t/\n∈["bool", "int", "str", "list", "tuple", "dict"]/\Q (.bl (G5 t n)) H
theorem qi0:CallR X (.builtin "isinstance") rIsi:=by
 intro Dk s σ H xs us Q I r h;obtain⟨x,n,t,rfl,hk,hn,q⟩:=h;obtain⟨u,w',rfl,ru,rw'⟩:=Fc r;cases rw';obtain⟨ty,ht⟩:=qP2 (K:=X.K) hk;exact qv2 I ru ty (qaq0 X.K ht hn) λ tk=>⟨.bl _,H,I.tok tk,rfl,q⟩
theorem qaw0(n:String){pos:Pos}(hm:X.mg x=none)(hg:Gl X x:=by rfl)(hv:bootBuiltins x=some (.type n):=by rfl)(hn:x ≠ "__name__" := by decide)(hd:(x == ("__debug__" : Str))=false:=by decide):PE X (.Name x pos) (tC (.ty n)):=qan8 hg hm hv rfl hn hd
theorem qan5{n:Int}{t:Tok}{pos:Pos}(hm:X.mg x=some (.int n t))(hg:Gl X x:=by rfl)(hd:(x == ("__debug__" : Str))=false:=by decide):PE X (.Name x pos) (tC (.int n)):=qN2 hg hm ⟨t,rfl⟩ hd
theorem cbi{id:String}{r:List V->Hp->VK->Prop}{pos:Pos}(hc:CallR X (.builtin id) r)(hm:X.mg x=none)(ha:PA X (e::es) t)(hg:Gl X x:=by rfl)(hv:bootBuiltins x=some (.builtin id):=by rfl)(hn:x ≠ "__name__" := by decide)(hdb:(x == ("__debug__" : Str))=false:=by decide)(he:starEach (e::es) X.env=(false,eval e X.env)::starEach es X.env:=by rfl)(hpl:(backTo pos (starEach es X.env)).any (·.1)=false:=by rfl):PE X (.Call (.Name x p) (e::es) [] pos) (tCB r t):=qae4 hc hg hm hv ha hn hdb he hpl
theorem cty{id:String}{r:List V->Hp->VK->Prop}{pos:Pos}(hc:CallR X (.type id) r)(hm:X.mg x=none)(ha:PA X (e::es) t)(hg:Gl X x:=by rfl)(hv:bootBuiltins x=some (.type id):=by rfl)(hn:x ≠ "__name__" := by decide)(hdb:(x == ("__debug__" : Str))=false:=by decide)(he:starEach (e::es) X.env=(false,eval e X.env)::starEach es X.env:=by rfl)(hpl:(backTo pos (starEach es X.env)).any (·.1)=false:=by rfl):PE X (.Call (.Name x p) (e::es) [] pos) (tCB r t):=qT5 hc hg hm hv ha hn hdb he hpl
end
theorem ix{X:Cx}{a b:Expr}{ta tb:TE}{pos:Pos}{r:R2}(hr:IxR X r)(ha:PE X a ta)(hb:PE X b tb)(hs:qI7 b:=by exact λ _ _=>rfl):PE X (.Subscript a b pos) (tOp r ta tb):=G1 hr ha hb hs
def rGetL:V->V->Hp->VK->Prop:=λ o i H Q=>∃ p xs k v,o=.ref p/\i=.int k/\H p=some (.lst xs)/\0<=k/\xs[k.toNat]? = some v/\Q v H
theorem qah0{X:Cx}:PGet X rGetL:=by
 intro Dk s σ H o i ov iv Q I ro ri h;obtain⟨p,xs,k,v,rfl,rfl,hp,h0,hv,q⟩:=h;cases ro;obtain⟨t,rfl⟩:=ri;obtain⟨its,n,r,ho,hz⟩:=I.lst hp;obtain⟨u,hu,ru⟩:=r.get hv;have hlt:=(zA5.mp hv).1;have hn:=qC2;refine wpAny_getItem_list (items:=its.toArray) (x:=u) ⟨_,ho,rfl,n,rfl⟩ h0 (by lia) (by simpa using hu) ⟨v,H,I,ru,q⟩
theorem qaB1{xs:List α}(h0:0<=i)(h1:i < xs.length):∃ v,xs[i.toNat]? = some v/\atI xs i=some v:=by
 have hl:i.toNat < xs.length:=by lia
 have e:(i.toNat:Int)=i:=by lia
 refine⟨xs[i.toNat],by simp[hl],?_⟩
 have:=qas6 (xs:=xs) (j:=i.toNat) (v:=xs[i.toNat]) (by simp[hl])
 rw[e] at this;exact this
theorem qg1{xs:List α}(h0:0<=i)(h1:i < xs.length):∃ v,v∈xs/\atI xs i=some v:=by
 obtain⟨v,h,e⟩:=qaB1 h0 h1;exact⟨v,zBd h,e⟩
theorem qP1(h:H a=some (.lst xs)):Bo H (.ref a)=some "list" := by
 unfold Bo;dsimp only;rw[h]
theorem qag5(h:H a=some (.tup xs)):Bo H (.ref a)=some "tuple" := by
 unfold Bo;dsimp only;rw[h]
theorem qZ4{xs:List (Key×V)}(h:H a=some (.dK xs)):Bo H (.ref a)=some "dict" := by
 unfold Bo;dsimp only;rw[h]
theorem Same.new{q:Addr}{u:HO}(h:H q=none):Same H (upd H q u):=λ b o e=>by rw[qb2 (qc2 e h)];exact e
structure Df(K:PySem.W.Frag)(mg:Str->Option Value)(x qual:Str)(st:Stmt)(f:Addr)(fd:FuncData)(ps:List Str):Prop where
 F:Fun K x qual st f fd
 b:Binds K fd ps []
 m:mg x=some (.ref f)
theorem dfmk{K:PySem.W.Frag}{mg:Str->Option Value}{qual:Str}{st:Stmt}{f:Addr}{ps:List Str}{oc:Value}{od an:Option Addr}{osl:Array (Option Value)}{kV doc pm cdv ct:Value}(l:K.lookup f=some ⟨oc,od,.func (PySem.W.fnOf x qual (qf4 st) (qd0 st) (qa4 st) .none kV doc pm an cdv ct),osl⟩)(c:PySem.W.codeIn K cdv qual=true)(k:PySem.W.keepIn K (.ref f)=true)(m:mg x=some (.ref f))(h:∀(kV doc pm:Value)(an:Option Addr)(cdv ct:Value)(us:List Value),us.length=ps.length->bindArgs (PySem.W.fnOf x qual (qf4 st) (qd0 st) (qa4 st) .none kV doc pm an cdv ct) ⟨us,[]⟩=pure (ps.zip us)) :
   Df K mg x qual st f (PySem.W.fnOf x qual (qf4 st) (qd0 st) (qa4 st) .none kV doc pm an cdv ct) ps:=⟨qU8 l c k,(qU8 l c k).binds h,m⟩
theorem callD{X:Cx}{qual:Str}{st:Stmt}{f:Addr}{fd:FuncData}{ps:List Str}{k:Nat}{sp:Sp}{pos:Pos}(D:Df X.K X.mg x qual st f fd ps)(G:Bh X.prog X.w X.K X.mg X.base CX0 k f fd ps sp)(hr:Room k X.A)(ha:PA X (e::es) t)(hg:Gl X x:=by rfl)(hdb:(x == ("__debug__" : Str))=false:=by decide)(he:starEach (e::es) X.env=(false,eval e X.env)::starEach es X.env:=by rfl)(hpl:(backTo pos (starEach es X.env)).any (·.1)=false:=by rfl):PE X (.Call (.Name x p) (e::es) [] pos) (Fd sp [] E0 t) :=
 qE9 G hr hg D.m D.F.kp D.b .nil pass0 ha hdb he hpl
end L2
namespace LB
open PySem PySem.Spec PyProof.Rows
theorem qC1:typeLookup (.type "list") "keys" = pure none:=by rw[typeLookup_type,builtinLookup_eq_fast];kernel_rfl
theorem qr8:typeLookup (.type "list") "__getattr__" = pure none:=by rw[typeLookup_type,builtinLookup_eq_fast];kernel_rfl
section
variable{prog:Program}{w:World}{A:Around}{E:Value->Shared->Prop}{h:Heap}{g:Array GenState}{d:Drawn}{t:Nat}{os:OsState}{a:Addr}{its:Array Value}{n:Nat}
theorem qs1{tk:Tok}{Q:PySem.Fin->Shared->Prop}(hx:h.get? a=some { cls:=.type "list",data:=.seq its n })(hh:A.handled=none)(hq:∀ h' tk e,Heap.NewAttrErr h h' e (.ref a) "keys" -> E (.ref e) ⟨h',g,d,tk,os⟩) :
   wpAny (model prog w) A (Builtin.«object.__getattribute__» ⟨[.ref a,.str "keys" tk],[]⟩) Q E ⟨h,g,d,t,os⟩:=by
 have hT:(⟨h,g,d,t,os⟩:Shared).TypeIs (.ref a) "list" := ⟨_,hx,rfl⟩
 have f4:=qC1
 repeat (any_goals (first | assumption | wp_step))
 refine wpAny_raiseAttrError hh ?_ (attrMsg_fits (by decide +kernel) (by decide +kernel));exact hq
theorem qv0{Q:Option Value->Shared->Prop}(hx:h.get? a=some { cls:=.type "list",data:=.seq its n })(hh:A.handled=none)(hq:∀ h' tk,(∀ b o,h.get? b=some o->h'.get? b=some o)->Q none ⟨h',g,d,tk,os⟩) :
   wpAny (model prog w) A (getAttr? (.ref a) "keys") Q E ⟨h,g,d,t,os⟩:=by
 have hT:∀ tk,(⟨h,g,d,tk,os⟩:Shared).TypeIs (.ref a) "list" := λ _=>⟨_,hx,rfl⟩
 have hT0:=hT t;have f1:=sub_AttributeError;have f2:=F.slot_list_getattribute.lookup;have f3:=F.slot_list_getattribute.bind (.ref a);have f5:=qr8;unfold getAttr? getAttrBy? getAttrBy
 repeat (any_goals (first | assumption | wp_step))
 refine codeAny_call_builtin F.slot_list_getattribute.plain F.entry_list_ga (F.slot_list_getattribute.check _ _ _ _ _ _ _ _ (hT _) (F.args_list_getattribute_2 _ _) (qs1 hx hh λ h' tk e hx'=>?_));obtain⟨t',u',he⟩:=hx'.there;show wpAny _ _ (getattributeRaised _ _ _ _ _ _ _) _ _ _;unfold getattributeRaised
 repeat (any_goals (first | assumption | wp_step))
 exact hq _ _ hx'.keeps
end
theorem qi8:entryFor table "dict.update.loop" = some Builtin.«dict.update.loop»:=entryFor_of_tree (by kernel_rfl)
theorem qd9:plainId "dict.update.loop" = true:=by decide +kernel
section
variable{prog:Program}{w:World}{K:Type}[DecidableEq K]{knd:KeyKind prog w K}{A:Around}{R:Result->Shared->Prop}
theorem qW2(hh:A.handled=none){I ax d:Addr}{items:Array Value}(hIx:ax≠I)(hdI:d≠I)(hdx:ax≠d):∀(rest:List (K×Value))(i:Nat)(ix:Int)(kvs:List (K×Value))(s:Shared),
   (∀(j:Nat) kv,rest[j]? = some kv->∃ t key,items[i+j]? = some (.ref t)/\IsTup s.heap t #[key,kv.2]/\knd.is kv.1 key=true/\t≠I/\t≠d)->items.size=i+rest.length ->
   s.heap.IsListIter I ax i->s.heap.IsList ax items->s.heap.DictOf knd d kvs->kvs.length+rest.length<=sizeLine ->
   (∀ h' tk,h'.DictOf knd d (rest.foldl (λ acc kv=>stored acc kv.1 kv.2) kvs)->(∀ b o,b≠I->b≠d->s.heap.get? b=some o->h'.get? b=some o)->R (.ok (.ret .none)) { s with heap:=h',toks:=tk }) ->
   codeAny (model prog w) A (.builtin "dict.update.loop" ⟨[.ref d,.ref I,rawInt ix,.none],[]⟩) R s:=by
 intro rest
 induction rest with
 | nil =>
   intro i ix kvs s hp hsz hit hl hd hk hR;refine codeAny_builtin qi8 ?_;rw[Around.under_plainId qd9 _];show wpAny _ A.in1 (pyNext (.ref I) >>= _) _ _ s;refine wpAny_bind (wpAny_pyNext_list_end hh hit hl (by simp at hsz;simp[hsz]) λ h' he=>?_);show wpAny _ _ (Builtin.Dict.addKeywords d [] >>= _) _ _ _;refine wpAny_bind (wpAny_pure (wpAny_pure ?_));have hd':h'.DictOf knd d kvs:=by
     obtain⟨o,es,ep,ho,r⟩:=hd;exact⟨o,es,ep,he d o hdI ho,r⟩
   exact hR h' s.toks hd' λ b o hb _ e=>he b o hb e
 | cons kv rest ih =>
   intro i ix kvs s hp hsz hit hl hd hk hR;obtain⟨t,key,h1,h2,h3,h4,h5⟩:=hp 0 kv rfl;refine codeAny_builtin qi8 ?_;rw[Around.under_plainId qd9 _];show wpAny _ A.in1 (pyNext (.ref I) >>= _) _ _ s;refine wpAny_bind (wpAny_pyNext_list_item hit hl h1 λ h' hit' hs=>?_);have h2':IsTup h' t #[key,kv.2]:=h2.extBut hs.extBut h4;obtain⟨o,ho,hoc,n,hod⟩:=h2';refine wpAny_bind (wpAny_holding ?_);refine wpAny_bind (wpAny_tryCatch ?_);unfold Builtin.Dict.pairItems;refine wpAny_bind (wpAny_typeOf (T := "tuple") ⟨o,ho,hoc⟩ ?_);rw[if_pos (by decide)];refine wpAny_bind (wpAny_seqItems ho hod (wpAny_pure ?_));dsimp only[Option.getD];have hd':h'.DictOf knd d kvs:=by
     obtain⟨o,es,ep,ho,r⟩:=hd;exact⟨o,es,ep,hs.extBut d o hdI ho,r⟩
   simp only[zAr] at hk hsz;show wpAny _ _ (holding [key,kv.2] (dictSet d key kv.2)) _ _ _;refine wpAny_holding (wpAny_dictSet_pairs (hsz:=by lia) h3 hd' λ h'' hd'' hs''=>?_);refine wpAny_pure ⟨plainId_quiet qd9 _,?_⟩;have hlen:(stored kvs kv.1 kv.2).length<=kvs.length+1:=by
     unfold stored;split
     . rw[zAj];lia
     rw[zAf];simp
   refine ih (i+1) (ix+1) (stored kvs kv.1 kv.2) _ (λ j kv' hj=>?_) (by lia) ?_ ?_ hd'' (by lia) λ h3' tk hd3 k3=>?_
   . obtain⟨t',key',g1,g2,g3,g4,g5⟩:=hp (j+1) kv' hj
     exact⟨t',key',by rw[show i+1+j=i+(j+1) by lia];exact g1,(g2.extBut hs.extBut g4).extBut hs''.extBut g5,g3,g4,g5⟩
   . exact hit'.at λ o e=>hs''.extBut I o (Ne.symm hdI) e
   . exact(hl.at λ o e=>hs.extBut ax o hIx e).at λ o e=>hs''.extBut ax o hdx e
   exact hR h3' tk hd3 λ b o hb hb' e=>k3 b o hb hb' (hs''.extBut b o hb' (hs.extBut b o hb e))
end
end LB
namespace L2
open PySem PySem.Spec PyProof.Rows
section
variable{X:Cx}
theorem KV.fold:∀{more:List (Key×V)}{rs:List (Key×Value)}{kvs:List (Key×V)}{vs:List (Key×Value)},KV more rs->KV kvs vs->KV (qr7 kvs more) (rs.foldl (λ acc kv=>stored acc kv.1 kv.2) vs):=by
 intro more rs kvs vs r;unfold KV at r
 induction r generalizing kvs vs with
 | nil=>intro q;exact q
 | @cons p q _ _ h _ ih =>
   intro r0;show KV (qr7 (putK kvs p.1 p.2) _) (List.foldl _ (stored vs q.1 q.2) _);refine ih ?_;rw[<- h.1];exact r0.put p.1 h.2
def qaa8(H:Hp)(ys:List V)(kvs:List (Key×V)):Prop:=Paired (λ y (kv:Key×V)=>∃ t,y=.ref t/\H t=some (.tup [kV kv.1,kv.2])) ys kvs
def qam0:List V->Hp->VK->Prop:=λ xs H Q=>∃ a ys kvs,xs=[.ref a]/\H a=some (.lst ys)/\qaa8 H ys kvs/\∀ p,H p=none->Q (.ref p) (upd H p (.dK (qr7 [] kvs)))
theorem qy2(hc:X.calm=true):CallR X (.type "dict") qam0:=by
 intro Dk s σ H xs us Q I r h;obtain⟨a,ys,kvs,rfl,ha,hp,q⟩:=h;obtain⟨u,rfl,ru⟩:=Bm r;cases ru;have hh:=I.ok.hd hc;obtain⟨z,its,n,rv,hl,e⟩:=I.lstM ha;obtain⟨rs,rk,ri⟩:∃ rs:List (Key×Value),KV kvs rs/\∀(j:Nat) kv,rs[j]? = some kv->∃ t key,its[j]? = some (.ref t)/\IsTup s.heap t #[key,kv.2]/\(qe7 X.prog X.w).is kv.1 key=true:=by
   clear q e hl n ha z
   induction hp generalizing its with
   | nil=>exact⟨[],.nil,λ j kv hj=>by simp at hj⟩
   | @cons y kv ys kvs hy _ ih =>
     cases rv with
     | @cons _ u _ us' hu hr =>
       obtain⟨t,rfl,ht⟩:=hy;cases hu;obtain⟨_,its',rt,o,ho,hoc,n,hod⟩:=I.hok t _ ht;obtain⟨key,val,rfl,r1,r2⟩:=rt.two;obtain⟨rs,rk,ri⟩:=ih _ hr;refine⟨(kv.1,val)::rs,.cons ⟨rfl,r2⟩ rk,λ j kv' hj=>?_⟩;cases j with
       | zero=>cases hj;exact⟨t,key,rfl,⟨o,ho,hoc,n,hod⟩,G3 r1⟩
       | succ j=>exact ri j kv' hj
 have hrl:rs.length=its.length:=by rw[<- hl,<- Paired.length rk,<- Paired.length hp]
 have big:=I.big;obtain⟨hp0,gn,dr,tk0,os0⟩:=s;refine callType_codes (Q₁:=λ obj s₁=>obj=.ref hp0.objs.size/\s₁={ heap:=hp0.push { cls:=.type "dict",data:=.dict #[] },gens:=gn,drawn:=dr,toks:=tk0,os:=os0 }) F.kt_called_dict (F.kt_typeCall_dict_1 _) F.entry_dict_init (kt_code_dict_new _ ⟨rfl,rfl⟩) ?_;rintro obj s₁ ⟨rfl,rfl⟩;have hnew:(hp0.push { cls:=.type "dict",data:=.dict #[] }).DictOf (qe7 X.prog X.w) hp0.objs.size []:=Heap.DictOf.new hp0;have e':(hp0.push { cls:=.type "dict",data:=.dict #[] }).get? a=some { cls:=.type "list",data:=.seq its.toArray n }:=zA2 _ e;have had:a < hp0.objs.size:=zA6 e;refine⟨hnew.typeIs,F.args_dict_init_2 _ _,?_⟩;unfold Builtin.«dict.__init__»;refine wpAny_bind ?_;unfold Builtin.Dict.selfAndRest;refine wpAny_bind (wpAny_notOrdered_dict hnew.typeIs ?_);show wpAny _ _ (pure (hp0.objs.size,[Value.ref a])) _ _ _;refine wpAny_pure ?_;show wpAny _ _ (Builtin.Dict.updateFrom "dict.__init__" hp0.objs.size (.ref a) [] .none) _ _ _;unfold Builtin.Dict.updateFrom;refine wpAny_bind (wpAny_typeOf (T := "list") ⟨_,e',rfl⟩ ?_);rw[if_pos (by decide)];refine wpAny_bind (LB.qv0 e' hh λ h1 tk1 k1=>?_);rw[if_pos (by rfl)];have e1:h1.get? a=some { cls:=.type "list",data:=.seq its.toArray n }:=k1 _ _ e';have d1:h1.DictOf (qe7 X.prog X.w) hp0.objs.size []:=by
   obtain⟨o,es,ep,ho,r⟩:=hnew;exact⟨o,es,ep,k1 _ _ ho,r⟩
 refine wpAny_bind (wpAny_rule ?_);have hlist:h1.IsList a its.toArray:=⟨_,e1,rfl,n,rfl⟩
 refine wpAny_bind (wpAny_pyIter_list hlist ?_);have szd:hp0.objs.size < h1.objs.size:=by
   obtain⟨o,es,ep,ho,r⟩:=d1;exact zA6 ho
 refine wpAny_pure ⟨plainId_quiet LB.qd9 _,?_⟩;refine LB.qW2 (knd:=qe7 X.prog X.w) (A:=X.A.in1) hh (I:=h1.objs.size) (ax:=a) (d:=hp0.objs.size) (items:=its.toArray) (zAl (Nat.lt_trans had szd)) (zAl szd) (zAl had) rs 0 0 [] _ (λ j kv hj=>?_) (by simp[hrl]) ?_ ?_ ?_ ?_ λ h2 tk2 d2 k2=>?_
 . obtain⟨t,key,g1,g2,g3⟩:=ri j kv hj
   obtain⟨o,ho,r⟩:=g2;have hlt:=zA6 ho;exact⟨t,key,by simpa using g1,⟨o,zA2 _ (k1 _ _ (zA2 _ ho)),r⟩,g3,zAl (Nat.lt_trans hlt szd),zAl hlt⟩
 . exact⟨_,zAw _ rfl,rfl,rfl⟩
 . exact⟨_,zA2 _ e1,rfl,n,rfl⟩
 . obtain⟨o,es,ep,ho,r⟩:=d1
   exact⟨o,es,ep,zA2 _ ho,r⟩
 . simp only[List.length_nil,zBv];rw[hrl,<- hl];exact z
 refine⟨rfl,?_⟩;have hf:H hp0.objs.size=none:=I.hok.fresh (zA8 _);have keep:∀ b o,hp0.get? b=some o->h2.get? b=some o:=λ b o eb=>by
   have hlt:=zA6 eb;exact k2 b o (zAl (Nat.lt_trans hlt szd)) (zAl hlt) (zA2 _ (k1 _ _ (zA2 _ eb)))
 have rm:KV (qr7 [] kvs) (rs.foldl (λ acc kv=>stored acc kv.1 kv.2) []):=KV.fold rk .nil;have hz:(qr7 [] kvs).length<=sizeLine:=by
   have h1:=qm7 kvs [];have h2:=Paired.length hp;simp only[List.length_nil] at h1;lia
 refine⟨.ref hp0.objs.size,_,I.laid (t':=tk2) (o:=.dK (qr7 [] kvs)) keep (zA8 _) ?_,rfl,q _ hf⟩;exact⟨hz,zB4.mpr (Ne.symm (zAl big)),_,rm,d2⟩
end
section
variable{X:Cx}
theorem qI0(hc:X.calm=true):CallR X (.builtin "all") (λ xs H Q=>∃(a:Addr)(bs:List Bool),xs=[.ref a]/\SqL X.K H a (bs.map V.bl)/\Q (.bl (bs.all id)) H):=by
 intro Dk s σ H xs us Q I r h;obtain⟨a,bs,rfl,ha,q⟩:=h;obtain⟨u,rfl,ru⟩:=Bm r;cases ru;have hh:=I.ok.hd hc;obtain⟨its,rv,pl,hz⟩:=I.list ha;refine call_all_walk (wpAny_pyIter_list pl.isList ?_);have hlt:a < s.heap.objs.size:=let ⟨o,ho,_⟩:=pl.isList;zA6 ho
 refine⟨s.heap.objs.size,_,_,_,_,_,λ i=>bs.getD i false,rfl,Walks.list (A:=X.A.in1) hh _ a (zAl hlt) its.toArray,⟨⟨_,zAw _ rfl,rfl,rfl⟩,?_⟩,?_,?_⟩
 . exact pl.isList.at λ o e=>zA2 _ e
 . intro i v s1 Q1 E1 hv hq
   have hv:its[i]? = some v:=by simpa using hv
   have hi:i < bs.length:=by
     have h1:=(zA5.mp hv).1;have h2:=rv.length;rw[zAj] at h2;lia
   obtain⟨u,hu,ru⟩:=rv.get (i:=i) (x:=.bl bs[i]) (by simp[hi]);rw[hv] at hu;cases hu;cases ru;refine wpAny_truthy_bool ?_;have e:bs.getD i false=bs[i]:=by simp[List.getD,hi]
   have hq:Q1 (bs.getD i false) s1:=hq;rw[e] at hq;exact hq
 intro h' tk hk;have e:(List.range its.toArray.size).all (λ i=>bs.getD i false)=bs.all id:=by
   have h2:=rv.length;rw[zAj] at h2;rw[zA4,<- h2];rw[Bool.eq_iff_iff];simp only[zAy,List.mem_range,id_eq];constructor
   . intro h b hb
     obtain⟨i,hi,rfl⟩:=List.mem_iff_getElem.mp hb
     have:=h i hi
     simpa[List.getD,hi] using this
   intro h i hi
   have:=h bs[i] (List.getElem_mem hi)
   simpa[List.getD,hi] using this
 rw[e];refine⟨.bl _,H,?_,rfl,q⟩;exact I.kept (t':=tk) λ b o e=>hk b o (by simp;exact zAl (zA6 e)) (zA2 _ e)
def qh9(ns:List Int):Nat:=(firstMet (λ i=>ns.getD i 0) ns.length).length
def rSetI(K:PySem.W.Frag):List V->Hp->VK->Prop:=λ xs H Q=>∃(a:Addr)(ns:List Int),xs=[.ref a]/\SqL K H a (ns.map V.int)/\ns.length<=1000/\∀ p S,H p=none->Q (.ref p) (upd H p (.set S (qh9 ns)))
theorem qW3(hc:X.calm=true):CallR X (.type "set") (rSetI X.K):=by
 intro Dk s σ H xs us Q I r h;obtain⟨a,ns,rfl,ha,hl,q⟩:=h;obtain⟨u,rfl,ru⟩:=Bm r;cases ru;have hh:=I.ok.hd hc;obtain⟨its,rv,pl,hz⟩:=I.list ha;have hlen:its.length=ns.length:=by
   have:=rv.length
   rw[zAj] at this;exact this.symm
 have hi:IntsAre its ns:=qP5 rv;refine call_set_list (items:=its.toArray) hh pl.isList (by simpa using hi) (by rw[zA4,hlen];show ns.length+1 < 4096;lia) λ h' tk hS hk=>?_
 have hsz:its.toArray.size=ns.length:=by rw[zA4,hlen]
 rw[hsz] at hS;refine⟨.ref s.heap.objs.size,_,I.laid (t':=tk) (o:=.set _ (qh9 ns)) (λ b o e=>hk b o (zA6 e) e) (zA8 _) hS,rfl,q _ _ (I.hok.fresh (zA8 _))⟩
theorem qW6:CallR X (.builtin "len") (λ xs H Q=>∃(a:Addr)(S:Int->Bool)(n:Nat),xs=[.ref a]/\H a=some (.set S n)/\Q (.int n) H):=by
 intro Dk s σ H xs us Q I r h;obtain⟨a,S,n,rfl,ha,q⟩:=h;obtain⟨u,rfl,ru⟩:=Bm r;cases ru;obtain⟨o,es,ep,t,ho,hex,hd,_,_,hb,hf,hn⟩:=I.hok a _ ha;subst hn;have hb:es.size < 4096:=hb;exact call_len_set ho hex hd hf (by lia) ⟨.int _,H,I.tok _,⟨_,rfl⟩,q⟩
end
theorem qD1(ns:List Int):qh9 ns=ns.length↔ns.Nodup:=by
 have key:∀ i,i<=ns.length->(∀ k,k∈firstMet (λ i=>ns.getD i 0) i↔k∈ns.take i)/\((firstMet (λ i=>ns.getD i 0) i).length=i↔(ns.take i).Nodup):=by
   intro i
   induction i with
   | zero=>intro _;rw[firstMet_zero];simp
   | succ i ih =>
     intro hi;obtain⟨h1,h2⟩:=ih (by lia);have hle:=firstMet_length_le (λ i=>ns.getD i 0) i;have hlt:i < ns.length:=by lia
     have et:ns.take (i+1)=ns.take i++[ns[i]]:=by rw[List.take_add_one];simp[hlt]
     have eg:ns.getD i 0=ns[i]:=by simp[List.getD,hlt]
     rw[firstMet_succ,et,eg];unfold step_dedup;by_cases hm:ns[i]∈firstMet (λ i=>ns.getD i 0) i
     . have hm':ns[i]∈ns.take i:=(h1 _).mp hm
       have hc:(firstMet (λ i=>ns.getD i 0) i).any (· == ns[i])=true:=List.any_eq_true.mpr ⟨_,hm,by simp⟩;rw[if_pos hc];refine⟨λ k=>?_,?_⟩
       . rw[h1];simp only[zAd,zB7]
         exact⟨.inl,λ h=>h.elim id λ e=>by rw[e];exact hm'⟩
       constructor
       . intro h;lia
       intro h;rw[List.nodup_append] at h;exact absurd rfl (h.2.2 _ hm' _ (zB7.mpr rfl))
     have hm':¬ ns[i]∈ns.take i:=λ h=>hm ((h1 _).mpr h)
     have hc:¬ (firstMet (λ i=>ns.getD i 0) i).any (· == ns[i])=true:=λ h=>by
       obtain⟨x,hx,e⟩:=List.any_eq_true.mp h;exact hm (by rw[<- (zBg.mp e)];exact hx)
     rw[if_neg hc];refine⟨λ k=>?_,?_⟩
     . simp only[zAd,zB7]
       rw[h1]
     rw[zAf,List.nodup_append];simp only[List.length_singleton];constructor
     . intro h
       refine⟨h2.mp (by lia),by simp,λ x hx y hy=>?_⟩;rw[zB7.mp hy];exact λ e=>hm' (e ▸ hx)
     intro h
     have:=h2.mpr h.1
     lia
 have:=(key ns.length (zA8 _)).2
 rw[zB8 (zA8 _)] at this;exact this
end L2
namespace LD
open PySem PySem.SeqAt MeetsSeq
open AutoSeq1 (wpAny_loadPart')
variable{b l:Addr}{dd:Option Addr}{n:Nat}{sl:Array (Option Value)}
theorem qai1(l b:Addr)(es:Array DictEntry)(items2:Array Value)(n n2:Nat)(dd dd2:Option Addr)(sl sl2:Array (Option Value)) :
   Meets (Builtin.«dict.__eq__» ⟨[.ref l,.ref b],[]⟩) (λ _ R s=>s.heap.get? l=some { cls:=.type "dict",dict:=dd,data:=.dict es n,slots:=sl }/\s.heap.get? b=some { cls:=.type "tuple",dict:=dd2,data:=.seq items2 n2,slots:=sl2 }/\R (.ok (.ret .notImplemented)) s) :=
 .of_wp λ prog w A R s h=>by obtain⟨hp,g,d,tk,os⟩:=s;obtain⟨hl,hb,h⟩:=h;have f1:=F.sub_tuple_dict;wp_walk using wpAny_loadPart' hl,wpAny_loadPart' hb;exact⟨_,rfl,h⟩
theorem qab4(l b:Addr)(es:Array DictEntry)(items2:Array Value)(n n2:Nat)(dd dd2:Option Addr)(sl sl2:Array (Option Value)) :
   Meets (Builtin.«tuple.__eq__» ⟨[.ref b,.ref l],[]⟩) (λ _ R s=>s.heap.get? l=some { cls:=.type "dict",dict:=dd,data:=.dict es n,slots:=sl }/\s.heap.get? b=some { cls:=.type "tuple",dict:=dd2,data:=.seq items2 n2,slots:=sl2 }/\R (.ok (.ret .notImplemented)) s) :=
 .of_wp λ prog w A R s h=>by obtain⟨hp,g,d,tk,os⟩:=s;obtain⟨hl,hb,h⟩:=h;have f1:=F.sub_dict_tuple;wp_walk using wpAny_loadPart' hl,wpAny_loadPart' hb;exact⟨_,rfl,h⟩
theorem qaf3(l b:Addr)(es:Array DictEntry)(items2:Array Value)(n n2:Nat)(dd dd2:Option Addr)(sl sl2:Array (Option Value)) :
   Meets (Builtin.«dict.__ne__» ⟨[.ref l,.ref b],[]⟩) (λ _ R s=>s.heap.get? l=some { cls:=.type "dict",dict:=dd,data:=.dict es n,slots:=sl }/\s.heap.get? b=some { cls:=.type "tuple",dict:=dd2,data:=.seq items2 n2,slots:=sl2 }/\R (.ok (.ret .notImplemented)) s) :=
 .of_wp λ prog w A R s h=>by obtain⟨hp,g,d,tk,os⟩:=s;obtain⟨hl,hb,h⟩:=h;have f1:=F.sub_tuple_dict;wp_walk using wpAny_loadPart' hl,wpAny_loadPart' hb;exact⟨_,rfl,h⟩
theorem qab3(l b:Addr)(es:Array DictEntry)(items2:Array Value)(n n2:Nat)(dd dd2:Option Addr)(sl sl2:Array (Option Value)) :
   Meets (Builtin.«tuple.__ne__» ⟨[.ref b,.ref l],[]⟩) (λ _ R s=>s.heap.get? l=some { cls:=.type "dict",dict:=dd,data:=.dict es n,slots:=sl }/\s.heap.get? b=some { cls:=.type "tuple",dict:=dd2,data:=.seq items2 n2,slots:=sl2 }/\R (.ok (.ret .notImplemented)) s) :=
 .of_wp λ prog w A R s h=>by obtain⟨hp,g,d,tk,os⟩:=s;obtain⟨hl,hb,h⟩:=h;have f1:=F.sub_dict_tuple;wp_walk using wpAny_loadPart' hl,wpAny_loadPart' hb;exact⟨_,rfl,h⟩
theorem for0{β:Type}{m:Type->Type}[Monad m](b:β)(f:Nat->β->m (ForInStep β)):forIn [:0] b f=(pure b:m β):=by
 simp
theorem same0{M:Model}{A:Around}{E:Value->Shared->Prop}{s:Shared}{Q:Bool->Shared->Prop}{id:String}{n2:Nat}{dd2:Option Addr}{sl2:Array (Option Value)}(h1:(l == sysModules)=false)(h2:(b == sysModules)=false)(hl:s.heap.get? l=some { cls:=.type "dict",dict:=dd,data:=.dict #[] n,slots:=sl })(hb:s.heap.get? b=some { cls:=.type "dict",dict:=dd2,data:=.dict #[] n2,slots:=sl2 })(h:Q true s):wpAny M A (Builtin.Dict.samePairs id l b) Q E s:=by
 unfold Builtin.Dict.samePairs Builtin.Dict.showsAll;rw[if_neg (by rw[h1];decide),if_neg (by rw[h2];decide)];refine wpAny_bind (wpAny_pure (wpAny_bind (wpAny_pure ?_)));refine wpAny_bind (wpAny_dictEntries hl rfl ?_);refine wpAny_bind (wpAny_dictEntries hb rfl ?_);rw[if_neg (by decide)];refine wpAny_bind (wpAny_dictEpoch hl rfl ?_);have e0:(#[]:Array DictEntry).size=0:=rfl;simp only[e0];rw[for0];exact wpAny_bind (wpAny_pure (wpAny_pure h))
theorem qar4(l b:Addr)(n n2:Nat)(dd dd2:Option Addr)(sl sl2:Array (Option Value))(h1:(l == sysModules)=false)(h2:(b == sysModules)=false) :
   Meets (Builtin.«dict.__eq__» ⟨[.ref l,.ref b],[]⟩) (λ _ R s=>s.heap.get? l=some { cls:=.type "dict",dict:=dd,data:=.dict #[] n,slots:=sl }/\s.heap.get? b=some { cls:=.type "dict",dict:=dd2,data:=.dict #[] n2,slots:=sl2 }/\R (.ok (.ret (.bool true))) s) :=
 .of_wp λ prog w A R s h=>by
   obtain⟨hp,g,d,tk,os⟩:=s;obtain⟨hl,hb,h⟩:=h;have f1:isSubtype (.type "dict") (.type "dict")=pure true:=F.sub_dict_dict
   wp_walk using wpAny_loadPart' hl,wpAny_loadPart' hb,same0 h1 h2 hl hb
   exact⟨_,rfl,h⟩
theorem qap1(l b:Addr)(n n2:Nat)(dd dd2:Option Addr)(sl sl2:Array (Option Value))(h1:(l == sysModules)=false)(h2:(b == sysModules)=false) :
   Meets (Builtin.«dict.__ne__» ⟨[.ref l,.ref b],[]⟩) (λ _ R s=>s.heap.get? l=some { cls:=.type "dict",dict:=dd,data:=.dict #[] n,slots:=sl }/\s.heap.get? b=some { cls:=.type "dict",dict:=dd2,data:=.dict #[] n2,slots:=sl2 }/\R (.ok (.ret (.bool false))) s) :=
 .of_wp λ prog w A R s h=>by
   obtain⟨hp,g,d,tk,os⟩:=s;obtain⟨hl,hb,h⟩:=h;have f1:isSubtype (.type "dict") (.type "dict")=pure true:=F.sub_dict_dict
   wp_walk using wpAny_loadPart' hl,wpAny_loadPart' hb,same0 h1 h2 hl hb
   exact⟨_,rfl,h⟩
section
variable{A:Around}{s:Shared}
theorem qX9{n2:Nat}{dd2:Option Addr}{sl2:Array (Option Value)}(h1:(l == sysModules)=false)(h2:(b == sysModules)=false)(ho:s.heap.get? l=some { cls:=.type "dict",dict:=dd,data:=.dict #[] n,slots:=sl })(ho2:s.heap.get? b=some { cls:=.type "dict",dict:=dd2,data:=.dict #[] n2,slots:=sl2 })(hu:A.units < cLine):RcAt A s (.ref l) (.ref b) true/\RcNeAt A s (.ref l) (.ref b) false :=
 ⟨λ prog w E Q h=>richCompare_meets_room (op:=.Eq) ⟨_,ho,rfl⟩ ⟨_,ho2,rfl⟩ F.slot_dict_eq F.entry_dict_eq (F.args_dict_eq_2 _ _) (qar4 l b n n2 dd dd2 sl sl2 h1 h2) ⟨ho,ho2,show Value.bool true≠Value.notImplemented/\Q (.bool true) s from⟨(λ x=>nomatch x),h⟩⟩ hu,
  λ prog w E Q h=>richCompare_meets_room (op:=.NotEq) ⟨_,ho,rfl⟩ ⟨_,ho2,rfl⟩ F.slot_dict_ne F.entry_dict_ne (F.args_dict_ne_2 _ _) (qap1 l b n n2 dd dd2 sl sl2 h1 h2) ⟨ho,ho2,show Value.bool false≠Value.notImplemented/\Q (.bool false) s from⟨(λ x=>nomatch x),h⟩⟩ hu⟩
theorem rc_dt{es:Array DictEntry}{items2:Array Value}(ho:s.heap.get? l=some { cls:=.type "dict",dict:=dd,data:=.dict es n,slots:=sl })(hb:s.heap.IsTuple b items2)(hu:A.units < cLine):RcAt A s (.ref l) (.ref b) false/\RcNeAt A s (.ref l) (.ref b) true:=by
 obtain⟨⟨cls2,dd2,data2,sl2⟩,ho2,hc2,n2,hd2⟩:=id hb;simp only at hc2 hd2;subst hc2 hd2;have hne:l≠b:=λ e=>by
   subst e;rw[ho] at ho2
   have:=congrArg (λ o:Option Obj=>o.map (·.cls)) ho2
   simp at this
 exact⟨λ prog w E Q h=>rc_eq_decline_or (k:=false) ⟨_,ho,rfl⟩ ⟨_,ho2,rfl⟩ (by decide) F.sub_tuple_dict F.slot_dict_eq F.slot_tuple_eq_refl
     (λ _ hq=>call_meets F.slot_dict_eq ⟨_,ho,rfl⟩ F.entry_dict_eq (F.args_dict_eq_2 _ _) (qai1 l b es items2 n n2 dd dd2 sl sl2) ⟨ho,ho2,hq⟩)
     (λ _ hq=>call_meets F.slot_tuple_eq_refl ⟨_,ho2,rfl⟩ F.entry_tuple_eq (F.args_tuple_eq_2 _ _) (qab4 l b es items2 n n2 dd dd2 sl sl2) ⟨ho,ho2,hq⟩)
     (λ _ hq=>wpAny_isSame_ref_other hne ho ho2 (by simp) hq) (.inr hu) h,
   λ prog w E Q h=>rc_ne_decline_or (k:=false) ⟨_,ho,rfl⟩ ⟨_,ho2,rfl⟩ (by decide) F.sub_tuple_dict F.slot_dict_ne F.slot_tuple_ne_refl
     (λ _ hq=>call_meets F.slot_dict_ne ⟨_,ho,rfl⟩ F.entry_dict_ne (F.args_dict_ne_2 _ _) (qaf3 l b es items2 n n2 dd dd2 sl sl2) ⟨ho,ho2,hq⟩)
     (λ _ hq=>call_meets F.slot_tuple_ne_refl ⟨_,ho2,rfl⟩ F.entry_tuple_ne (F.args_tuple_ne_2 _ _) (qab3 l b es items2 n n2 dd dd2 sl sl2) ⟨ho,ho2,hq⟩)
     (λ _ hq=>wpAny_isSame_ref_other hne ho ho2 (by simp) hq) (.inr hu) h⟩
end
end LD
namespace L2
open PySem PySem.Spec PyProof.Rows PySem.SeqAt
variable{A:Around}{a:Addr}{xs:List V}
inductive EqD(H:Hp):Nat->V->V->Bool->Prop
 | flat {n:Nat} {x y:V} (hx:flatV x=true) (hy:flatV y=true):EqD H n x y (eqV x y)
 | same {n:Nat} (a:Addr):EqD H n (.ref a) (.ref a) true
 | lsts {n:Nat} {a b:Addr} {xs ys:List V} {e:Nat->Bool} (ne:a≠b) (ha:H a=some (.lst xs)) (hb:H b=some (.lst ys)) (hl:xs.length=ys.length) (he:∀ i x y,xs[i]? = some x->ys[i]? = some y->EqD H n x y (e i)):EqD H (n+1) (.ref a) (.ref b) ((List.range xs.length).all e)
 | lens {n:Nat} {a b:Addr} {xs ys:List V} (ne:a≠b) (ha:H a=some (.lst xs)) (hb:H b=some (.lst ys)) (hl:xs.length≠ys.length):EqD H (n+1) (.ref a) (.ref b) false
 | tups {n:Nat} {a b:Addr} {xs ys:List V} {e:Nat->Bool} (ne:a≠b) (ha:H a=some (.tup xs)) (hb:H b=some (.tup ys)) (he:∀ i x y,xs[i]? = some x->ys[i]? = some y->EqD H n x y (e i)):EqD H (n+1) (.ref a) (.ref b) ((List.range (min xs.length ys.length)).all e&&xs.length == ys.length)
 | dcts {n:Nat} {a b:Addr} (ne:a≠b) (ha:H a=some (.dK [])) (hb:H b=some (.dK [])):EqD H n (.ref a) (.ref b) true
inductive RcD(H:Hp):V->V->Bool->Prop
 | flat {x y:V} (hx:flatV x=true) (hy:flatV y=true):RcD H x y (eqV x y)
 | lsts {a b:Addr} {xs ys:List V} {e:Nat->Bool} (ha:H a=some (.lst xs)) (hb:H b=some (.lst ys)) (hl:xs.length=ys.length) (he:∀ i x y,xs[i]? = some x->ys[i]? = some y->EqD H 20 x y (e i)):RcD H (.ref a) (.ref b) ((List.range xs.length).all e)
 | lens {a b:Addr} {xs ys:List V} (ha:H a=some (.lst xs)) (hb:H b=some (.lst ys)) (hl:xs.length≠ys.length):RcD H (.ref a) (.ref b) false
 | tups {a b:Addr} {xs ys:List V} {e:Nat->Bool} (ha:H a=some (.tup xs)) (hb:H b=some (.tup ys)) (he:∀ i x y,xs[i]? = some x->ys[i]? = some y->EqD H 20 x y (e i)):RcD H (.ref a) (.ref b) ((List.range (min xs.length ys.length)).all e&&xs.length == ys.length)
 | lt {a b:Addr} {xs ys:List V} (ha:H a=some (.lst xs)) (hb:H b=some (.tup ys)):RcD H (.ref a) (.ref b) false
 | tl {a b:Addr} {xs ys:List V} (ha:H a=some (.tup xs)) (hb:H b=some (.lst ys)):RcD H (.ref a) (.ref b) false
 | lf {a:Addr} {xs:List V} {y:V} (ha:H a=some (.lst xs)) (hy:flatV y=true):RcD H (.ref a) y false
 | fl {a:Addr} {xs:List V} {y:V} (ha:H a=some (.lst xs)) (hy:flatV y=true):RcD H y (.ref a) false
 | tf {a:Addr} {xs:List V} {y:V} (ha:H a=some (.tup xs)) (hy:flatV y=true):RcD H (.ref a) y false
 | ft {a:Addr} {xs:List V} {y:V} (ha:H a=some (.tup xs)) (hy:flatV y=true):RcD H y (.ref a) false
 | dcts {a b:Addr} (ha:H a=some (.dK [])) (hb:H b=some (.dK [])):RcD H (.ref a) (.ref b) true
 | dt {a b:Addr} {kvs:List (Key×V)} {ys:List V} (ha:H a=some (.dK kvs)) (hb:H b=some (.tup ys)):RcD H (.ref a) (.ref b) false
section
variable{X:Cx}{Dk:List (Addr×Obj)}{σ:St}{H:Hp}{s:Shared}
theorem Inv.lstI(I:Inv X Dk σ H s)(h:H a=some (.lst xs)):∃ its:List Value,Vals xs its/\s.heap.IsList a its.toArray:=by
 obtain⟨z,its,n,r,_,e⟩:=I.lstM h;exact⟨its,r,_,e,rfl,n,rfl⟩
theorem Inv.tupI(I:Inv X Dk σ H s)(h:H a=some (.tup xs)):∃ its:List Value,Vals xs its/\s.heap.IsTuple a its.toArray:=by
 obtain⟨z,its,r,o,h1,h2,n,h3⟩:=I.hok a _ h;exact⟨its,r,o,h1,h2,n,h3⟩
theorem Inv.dK0(I:Inv X Dk σ H s){kvs:List (Key×V)}(h:H a=some (.dK kvs)):(a == sysModules)=false/\∃ es n,s.heap.get? a=some { cls:=.type "dict",dict:=none,data:=.dict es n,slots:=#[] }/\(kvs=[]->es = #[]):=by
 obtain⟨_,h1,vs,kv,o,es,ep,h2,⟨c1,c2,c3⟩,h3,_,pr,_⟩:=I.hok a _ h;obtain⟨oc,od,dt,sl⟩:=o;simp only at c1 c2 c3 h3;subst c1 c2 c3 h3;refine⟨h1,es,ep,h2,λ e=>?_⟩;subst e;cases kv;have e:es.toList=[]:=by
   generalize es.toList=l at pr;cases pr;rfl
 exact Array.toList_eq_nil_iff.mp e
theorem qn5(A:Around):A.in1.units<=A.units+1:=zA8 _
theorem qE1{P:V->V->Nat->Prop}{e:Nat->Bool}{ys:List V}{its its2:List Value}(r:Vals xs its)(r2:Vals ys its2)(k:∀ i x y u v,xs[i]? = some x->ys[i]? = some y->RelV x u->RelV y v->EqAt A s u v (e i)) :
   ∀ j (h1:j < its.toArray.size) (h2:j < its2.toArray.size),EqAt A s its.toArray[j] its2.toArray[j] (e j):=by
 intro j h1 h2;rw[zA4] at h1 h2;have l1:=r.length;have l2:=r2.length;obtain⟨u,hu,ru⟩:=r.get (i:=j) (x:=xs[j]'(by lia)) (by simp);obtain⟨v,hv,rv⟩:=r2.get (i:=j) (x:=ys[j]'(by lia)) (by simp);have e1:its.toArray[j]=u:=by
   have:its[j]? = some its[j]:=by simp[h1]
   rw[this] at hu;simpa using Option.some.inj hu
 have e2:its2.toArray[j]=v:=by
   have:its2[j]? = some its2[j]:=by simp[h2]
   rw[this] at hv;simpa using Option.some.inj hv
 rw[e1,e2];exact k j _ _ u v (by simp) (by simp) ru rv
theorem EqD.at(I:Inv X Dk σ H s){n:Nat}{x y:V}{b:Bool}(h:EqD H n x y b):∀{A:Around}{u v:Value},RelV x u->RelV y v->A.units+n+1 < cLine->EqAt A s u v b:=by
 induction h with
 | flat hx hy=>intro A u v rx ry _;exact qar6 rx ry hx hy
 | same a=>intro A u v rx ry _;cases rx;cases ry;exact EqAt.same _
 | @lsts n a b xs ys e ne ha hb hl he ih =>
   intro A u v rx ry hu;cases rx;cases ry;obtain⟨its,r,p⟩:=I.lstI ha;obtain⟨its2,r2,p2⟩:=I.lstI hb;have hs:its.toArray.size=its2.toArray.size:=by rw[zA4,zA4,<- r.length,<- r2.length,hl]
   have q:=EqAt.of_refs ne (RcAt.lists (A:=A) p p2 hs (by lia) (e:=e) (qE1 (P:=λ _ _ _=>True) r r2 λ i x y u v e1 e2 ru rv=>ih i x y e1 e2 ru rv (by have:=qn5 A;lia)));rw[zA4,<- r.length] at q;exact q
 | @lens n a b xs ys ne ha hb hl =>
   intro A u v rx ry hu;cases rx;cases ry;obtain⟨its,r,p⟩:=I.lstI ha;obtain⟨its2,r2,p2⟩:=I.lstI hb;exact EqAt.of_refs ne (RcAt.lists_lengths p p2 (by rw[zA4,zA4,<- r.length,<- r2.length];simpa using hl) (by lia))
 | @tups n a b xs ys e ne ha hb he ih =>
   intro A u v rx ry hu;cases rx;cases ry;obtain⟨its,r,p⟩:=I.tupI ha;obtain⟨its2,r2,p2⟩:=I.tupI hb;have q:=EqAt.of_refs ne (RcAt.tuples (A:=A) p p2 (by lia) (e:=e) (qE1 (P:=λ _ _ _=>True) r r2 λ i x y u v e1 e2 ru rv=>ih i x y e1 e2 ru rv (by have:=qn5 A;lia)));rw[zA4,zA4,<- r.length,<- r2.length] at q;exact q
 | @dcts n a b ne ha hb =>
   intro A u v rx ry hu;cases rx;cases ry;obtain⟨h1,es,m,h2,h3⟩:=I.dK0 ha;obtain⟨k1,es',m',k2,k3⟩:=I.dK0 hb;cases h3 rfl;cases k3 rfl;exact EqAt.of_refs ne (LD.qX9 h1 k1 h2 k2 (by lia)).1
theorem RcD.at(I:Inv X Dk σ H s){x y:V}{b:Bool}(h:RcD H x y b){u v:Value}(rx:RelV x u)(ry:RelV y v)(hu:A.units+60 < cLine):RcAt A s u v b/\RcNeAt A s u v (!b):=by
 cases h with
 | flat hx hy =>
   cases x with
   | non =>
     cases rx;cases y with
     | non=>cases ry;exact⟨RcAt.none_none,RcNeAt.none_none⟩
     | bl b=>cases ry;exact⟨RcAt.none_bool b,RcNeAt.none_bool b⟩
     | int b=>obtain⟨t,rfl⟩:=ry;exact⟨RcAt.none_int b t,RcNeAt.none_int b t⟩
     | str b=>obtain⟨t,rfl⟩:=ry;exact⟨RcAt.none_str b t,RcNeAt.none_str b t⟩
     | _=>exact absurd (show false=true from hy) zAe
   | bl a =>
     cases rx;cases y with
     | non=>cases ry;exact⟨RcAt.bool_none a,RcNeAt.bool_none a⟩
     | bl b=>cases ry;exact⟨RcAt.bool_bool a b,RcNeAt.bool_bool a b⟩
     | int b=>obtain⟨t,rfl⟩:=ry;exact⟨RcAt.bool_int a b t,RcNeAt.bool_int a b t⟩
     | str b=>obtain⟨t,rfl⟩:=ry;exact⟨RcAt.bool_str a b t,RcNeAt.bool_str a b t⟩
     | _=>exact absurd (show false=true from hy) zAe
   | int a =>
     obtain⟨t',rfl⟩:=rx;cases y with
     | non=>cases ry;exact⟨RcAt.int_none a t',RcNeAt.int_none a t'⟩
     | bl b=>cases ry;exact⟨RcAt.int_bool a t' b,RcNeAt.int_bool a t' b⟩
     | int b=>obtain⟨t,rfl⟩:=ry;exact⟨RcAt.int_int a t' b t,RcNeAt.int_int a t' b t⟩
     | str b=>obtain⟨t,rfl⟩:=ry;exact⟨RcAt.int_str a t' b t,RcNeAt.int_str a t' b t⟩
     | _=>exact absurd (show false=true from hy) zAe
   | str a =>
     obtain⟨t',rfl⟩:=rx;cases y with
     | non=>cases ry;exact⟨RcAt.str_none a t',RcNeAt.str_none a t'⟩
     | bl b=>cases ry;exact⟨RcAt.str_bool a t' b,RcNeAt.str_bool a t' b⟩
     | int b=>obtain⟨t,rfl⟩:=ry;exact⟨RcAt.str_int a t' b t,RcNeAt.str_int a t' b t⟩
     | str b=>obtain⟨t,rfl⟩:=ry;exact⟨RcAt.str_str a t' b t,RcNeAt.str_str a t' b t⟩
     | _=>exact absurd (show false=true from hy) zAe
   | _=>exact absurd (show false=true from hx) zAe
 | @lsts a b xs ys e ha hb hl he =>
   cases rx;cases ry;obtain⟨its,r,p⟩:=I.lstI ha;obtain⟨its2,r2,p2⟩:=I.lstI hb;have hs:its.toArray.size=its2.toArray.size:=by rw[zA4,zA4,<- r.length,<- r2.length,hl]
   have k:=qE1 (P:=λ _ _ _=>True) (e:=e) (A:=A.in1) (s:=s) r r2 λ i x y u v e1 e2 ru rv=>(he i x y e1 e2).at I ru rv (by have:=qn5 A;lia)
   have q1:=RcAt.lists p p2 hs (by lia) k;have q2:=RcNeAt.lists p p2 hs (by lia) k;rw[zA4,<- r.length] at q1 q2;exact⟨q1,q2⟩
 | @lens a b xs ys ha hb hl =>
   cases rx;cases ry;obtain⟨its,r,p⟩:=I.lstI ha;obtain⟨its2,r2,p2⟩:=I.lstI hb;have hs:(its.toArray.size != its2.toArray.size)=true:=by rw[zA4,zA4,<- r.length,<- r2.length];simpa using hl
   exact⟨RcAt.lists_lengths p p2 hs (by lia),RcNeAt.lists_lengths p p2 hs (by lia)⟩
 | @tups a b xs ys e ha hb he =>
   cases rx;cases ry;obtain⟨its,r,p⟩:=I.tupI ha;obtain⟨its2,r2,p2⟩:=I.tupI hb;have k:=qE1 (P:=λ _ _ _=>True) (e:=e) (A:=A.in1) (s:=s) r r2 λ i x y u v e1 e2 ru rv=>(he i x y e1 e2).at I ru rv (by have:=qn5 A;lia)
   have q1:=RcAt.tuples p p2 (by lia) k;have q2:=RcNeAt.tuples p p2 (by lia) k;rw[zA4,zA4,<- r.length,<- r2.length] at q1 q2;exact⟨q1,q2⟩
 | lt ha hb =>
   cases rx;cases ry;obtain⟨its,r,p⟩:=I.lstI ha;obtain⟨its2,r2,p2⟩:=I.tupI hb;exact⟨RcAt.list_tuple p p2 (by lia),RcNeAt.list_tuple p p2 (by lia)⟩
 | tl ha hb =>
   cases rx;cases ry;obtain⟨its,r,p⟩:=I.tupI ha;obtain⟨its2,r2,p2⟩:=I.lstI hb;exact⟨RcAt.tuple_list p p2 (by lia),RcNeAt.tuple_list p p2 (by lia)⟩
 | lf ha hy =>
   cases rx;obtain⟨its,r,p⟩:=I.lstI ha;cases y with
   | non=>cases ry;exact⟨RcAt.list_none p (by lia),RcNeAt.list_none p (by lia)⟩
   | bl b=>cases ry;exact⟨RcAt.list_bool b p (by lia),RcNeAt.list_bool b p (by lia)⟩
   | int b=>obtain⟨t,rfl⟩:=ry;exact⟨RcAt.list_int b t p (by lia),RcNeAt.list_int b t p (by lia)⟩
   | str b=>obtain⟨t,rfl⟩:=ry;exact⟨RcAt.list_str b t p (by lia),RcNeAt.list_str b t p (by lia)⟩
   | _=>exact absurd (show false=true from hy) zAe
 | fl ha hy =>
   cases ry;obtain⟨its,r,p⟩:=I.lstI ha;cases x with
   | non=>cases rx;exact⟨RcAt.none_list p (by lia),RcNeAt.none_list p (by lia)⟩
   | bl b=>cases rx;exact⟨RcAt.bool_list b p (by lia),RcNeAt.bool_list b p (by lia)⟩
   | int b=>obtain⟨t,rfl⟩:=rx;exact⟨RcAt.int_list b t p (by lia),RcNeAt.int_list b t p (by lia)⟩
   | str b=>obtain⟨t,rfl⟩:=rx;exact⟨RcAt.str_list b t p (by lia),RcNeAt.str_list b t p (by lia)⟩
   | _=>exact absurd (show false=true from hy) zAe
 | tf ha hy =>
   cases rx;obtain⟨its,r,p⟩:=I.tupI ha;cases y with
   | non=>cases ry;exact⟨RcAt.tuple_none p (by lia),RcNeAt.tuple_none p (by lia)⟩
   | bl b=>cases ry;exact⟨RcAt.tuple_bool b p (by lia),RcNeAt.tuple_bool b p (by lia)⟩
   | int b=>obtain⟨t,rfl⟩:=ry;exact⟨RcAt.tuple_int b t p (by lia),RcNeAt.tuple_int b t p (by lia)⟩
   | str b=>obtain⟨t,rfl⟩:=ry;exact⟨RcAt.tuple_str b t p (by lia),RcNeAt.tuple_str b t p (by lia)⟩
   | _=>exact absurd (show false=true from hy) zAe
 | ft ha hy =>
   cases ry;obtain⟨its,r,p⟩:=I.tupI ha;cases x with
   | non=>cases rx;exact⟨RcAt.none_tuple p (by lia),RcNeAt.none_tuple p (by lia)⟩
   | bl b=>cases rx;exact⟨RcAt.bool_tuple b p (by lia),RcNeAt.bool_tuple b p (by lia)⟩
   | int b=>obtain⟨t,rfl⟩:=rx;exact⟨RcAt.int_tuple b t p (by lia),RcNeAt.int_tuple b t p (by lia)⟩
   | str b=>obtain⟨t,rfl⟩:=rx;exact⟨RcAt.str_tuple b t p (by lia),RcNeAt.str_tuple b t p (by lia)⟩
   | _=>exact absurd (show false=true from hy) zAe
 | dcts ha hb =>
   cases rx;cases ry;obtain⟨h1,es,m,h2,h3⟩:=I.dK0 ha;obtain⟨k1,es',m',k2,k3⟩:=I.dK0 hb;cases h3 rfl;cases k3 rfl;exact LD.qX9 h1 k1 h2 k2 (by lia)
 | dt ha hb =>
   cases rx;cases ry;obtain⟨h1,es,m,h2,h3⟩:=I.dK0 ha;obtain⟨its2,r2,p2⟩:=I.tupI hb;exact LD.rc_dt h2 p2 (by lia)
end
def rEqD:R2:=λ x y H Q=>∃ b,RcD H x y b/\Q (.bl b) H
def rNeD:R2:=λ x y H Q=>∃ b,RcD H x y b/\Q (.bl (!b)) H
theorem qf9{X:Cx}(hu:X.A.units+64 < cLine):OpR X (compareOp .Eq) rEqD:=by
 intro Dk s σ H x y v u Q I rx ry ⟨b,hb,q⟩;exact(hb.at I rx ry (A:=X.A) (by lia)).1 X.prog X.w X.xe _ ⟨.bl b,H,I,rfl,q⟩
theorem qp2{X:Cx}(hu:X.A.units+64 < cLine):OpR X (compareOp .NotEq) rNeD:=by
 intro Dk s σ H x y v u Q I rx ry ⟨b,hb,q⟩;exact(hb.at I rx ry (A:=X.A) (by lia)).2 X.prog X.w X.xe _ ⟨.bl (!b),H,I,rfl,q⟩
theorem qp8:∀{x:V},flatV x=true->eqV x x=true:=by
 intro x h;cases x with
 | non=>rfl
 | bl b=>simp[eqV]
 | int b=>simp[eqV]
 | str b=>simp[eqV]
 | _=>exact absurd (show false=true from h) zAe
theorem Room.u64{k:Nat}(hr:Room k A):A.units+64 < cLine:=hr.units
end L2
namespace L2
open PySem PySem.Spec PyProof.Rows
variable{vs:Array Value}
section
variable{X:Cx}
def qY0:V->List V->Hp->VK->Prop:=λ x vs H Q=>∃ l xs y i,x=.ref l/\vs=[.int i,y]/\H l=some (.lst xs)/\0<=i/\i < 2 ^ 63/\xs.length < sizeLine/\Q .non (upd H l (.lst (xs.take i.toNat++y::xs.drop i.toNat)))
theorem qT8:MtM X "list.insert" qY0:=by
 intro Dk s σ H x vs v us Q I rx rv h;obtain⟨l,xs,y,i,rfl,rfl,hH,h0,h1,hz,q⟩:=h;cases rx;obtain⟨ui,u,rfl,ri,ru⟩:=rv.two;obtain⟨t,rfl⟩:=ri;obtain⟨z,its,n,r,hl,e⟩:=I.lstM hH;have hfit:¬ (!Builtin.List.listFitsIndex i)=true:=by
   unfold Builtin.List.listFitsIndex;rw[zAh (show -(2 ^ 63:Int)<=i by lia),zAh (show i < 2 ^ 63 by lia)];decide
 refine call_meets F.slot_list_insert ⟨_,e,rfl⟩ F.entry_list_insert (F.args_list_insert_3 _ _ _) (PySem.AutoListH.list_insert_list_int_val_1 l its.toArray n i t u hfit (by rw[zA4];lia)) ⟨e,?_⟩;refine⟨.non,_,I.lset (its':=its.take i.toNat++u::its.drop i.toNat) hH e ?_ ((r.take _).append (.cons ru (r.drop _))) ?_,rfl,q⟩
 . dsimp only
   rw[if_neg (by lia),zA4];apply Array.toList_inj.mp;simp;by_cases hi:i.toNat<=its.length
   . rw[Nat.min_eq_left hi,List.append_cancel_left_eq]
     rw[zB8 (by simp)]
   have hg:its.length<=i.toNat:=by lia
   rw[Nat.min_eq_right hg];simp[zB8 hg,List.drop_of_length_le hg]
 rw[zAf,zAr,zBl,List.length_drop];lia
end
structure Cl(K:PySem.W.Frag)(mg:Str->Option Value)(x:Str)(C:Addr):Prop where
 cl:Cls K C
 m:mg x=some (.ref C)
structure Md(K:PySem.W.Frag)(C:Addr)(m qual:Str)(st:Stmt)(f:Addr)(fd:FuncData)(ps:List Str):Prop where
 F:Fun K m qual st f fd
 b:Binds K fd ps []
 me:Meth K C m f
 isf:PySem.W.isFn K (.ref f)=true
theorem mdmk{K:PySem.W.Frag}{C:Addr}{m qual:Str}{st:Stmt}{f:Addr}{ps:List Str}{oc:Value}{od an:Option Addr}{osl:Array (Option Value)}{kV doc pm cdv ct:Value}(l:K.lookup f=some ⟨oc,od,.func (PySem.W.fnOf m qual (qf4 st) (qd0 st) (qa4 st) .none kV doc pm an cdv ct),osl⟩)(c:PySem.W.codeIn K cdv qual=true)(k:PySem.W.keepIn K (.ref f)=true)(a:PySem.W.findIn K (.ref C) m=some (some (.ref f)))(i:PySem.W.isFn K (.ref f)=true)(h:∀(kV doc pm:Value)(an:Option Addr)(cdv ct:Value)(us:List Value),us.length=ps.length->bindArgs (PySem.W.fnOf m qual (qf4 st) (qd0 st) (qa4 st) .none kV doc pm an cdv ct) ⟨us,[]⟩=pure (ps.zip us)) :
   Md K C m qual st f (PySem.W.fnOf m qual (qf4 st) (qd0 st) (qa4 st) .none kV doc pm an cdv ct) ps:=⟨qU8 l c k,(qU8 l c k).binds h,⟨a,i,k⟩,i⟩
section
variable{M:Model}{A:Around}{E:Value->Shared->Prop}{s:Shared}
structure Left(h h':Heap)(f:List Addr)(e T:Addr)(oe:Obj)(old:Option Value):Prop where
 new:h.objs.size<=T
 keep:∀ b o,h.get? b=some o->b≠e->old≠some (.ref b)->b∉f->h'.get? b=some o
 slot:∀ b o,h.get? b=some o->b∈f->∃ sl,h'.get? b=some { o with slots:=sl }
 there:∀ b o,h.get? b=some o->∃ o',h'.get? b=some o'
 exc:∃ vs oT ts,h'.get? e=some { oe with data:=.fields vs }/\1 < vs.size/\vs[1]? = some (.ref T)/\T≠e/\h'.get? T=some oT/\oT.data=.fields ts/\ts[3]? = some .none
theorem qZ0{o:Obj}(hd:o.data=.fields vs)(g:Array Value->Array Value):Obj.mapFields g o={ o with data:=.fields (g vs) }:=by
 obtain⟨a,b,c,d⟩:=o;cases hd;rfl
theorem qx5{base:Heap}{env:Env}{outer:List Env}{L e:Addr}{oe:Obj}{head:Value}{hn:Bool}{old:Option Value}{Q:Unit->Shared->Prop}(hfr:A.frames=some (env::outer))(hl:s.heap.FunFrames base (env::outer))(hf:env.frame=some L)(he:s.heap.get? e=some oe)(hd:oe.data=.fields vs)(hsz:1 < vs.size)(h:∀ h' T,Left s.heap h' ((env::outer).filterMap (·.frame)) e T oe old->Q () { s with heap:=h' }) :
   wpAny M A (do let a <- frameOf env;let pl <- entryPlaceOf L hn;let b <- EntryCells.newEntry head a .none (rawInt L) .none pl;setField (.ref e) 1 b)
     (λ _ s'=>wpAny M A (setFlight (.ref e) none) Q E s') E s:=by
 have nfr:∀ b o ws,s.heap.get? b=some o->o.data=.fields ws->b∉(env::outer).filterMap (·.frame):=λ b o ws q1 q2 hm=>by
   obtain⟨_,o',q3,q4⟩:=hl.mem hm;rw[q1] at q3;cases q3;exact q4 ws q2
 refine wpAny_bind (wpAny_frameOf_fun hfr hl hf λ g1 q1=>?_);refine wpAny_bind (wpAny_entryPlaceOf λ pl isp=>?_);unfold EntryCells.newEntry newFields;refine wpAny_bind (wpAny_newObj_type ?_ (isp.sizeOk5 _ _ _ _ _));obtain⟨qs,qk,qu⟩:=q1;have e1:g1.get? e=some oe:=(qk e (nfr e oe vs he hd)).trans he;generalize hto:({ cls:=.type "traceback",dict:=none,data:=.fields ([head,.ref L,.none,rawInt L,.none]++(if pl.isEmpty then List.replicate 6 Value.none else pl)).toArray }:Obj)=oT;have dT:∃ ts,oT.data=.fields ts/\3 < ts.size:=by
   refine⟨([head,.ref L,.none,rawInt L,.none]++(if pl.isEmpty then List.replicate 6 Value.none else pl)).toArray,by rw[<- hto],?_⟩;simp only[zA4,zAf,zAr,List.length_nil];lia
 have nf:oT.isFreed=false:=by rw[<- hto];rfl
 obtain⟨ts,dT,d3⟩:=dT;have e2:=zA2 (h:=g1) oT e1;refine wpAny_setField e2 hd hsz ?_;have ne:g1.objs.size≠e:=Nat.ne_of_gt (zA6 e1);have d4:=Obj.data_mapFields hd (·.setIfInBounds 1 (Value.ref g1.objs.size));have e3:=zBi (Obj.mapFields (·.setIfInBounds 1 (Value.ref g1.objs.size))) e2 (Obj.isFreed_of_fields d4);have t3:((g1.push oT).update e (Obj.mapFields (·.setIfInBounds 1 (Value.ref g1.objs.size)))).get? g1.objs.size=some oT:=(zB1 _ _ (Ne.symm ne)).trans (zAw g1 nf);unfold setFlight;refine wpAny_bind (wpAny_field e3 d4 (x:=.ref g1.objs.size) (by simp[hsz]) ?_);rw[if_pos (show (Value.ref g1.objs.size != Value.none)=true from by simp)];refine wpAny_setField t3 dT d3 (h _ g1.objs.size ?_);have keep:∀ b o,b≠e->g1.get? b=some o->(((g1.push oT).update e (Obj.mapFields (·.setIfInBounds 1 (Value.ref g1.objs.size)))).update g1.objs.size (Obj.mapFields (·.setIfInBounds 3 ((none:Option Addr).elim Value.none λ f=>rawInt f)))).get? b=some o:=λ b o n1 n2=>by
   rw[zB1 _ _ (Nat.ne_of_gt (zA6 n2)),zB1 _ _ (Ne.symm n1)];exact zA2 _ n2
 have ee:(((g1.push oT).update e (Obj.mapFields (·.setIfInBounds 1 (Value.ref g1.objs.size)))).update g1.objs.size (Obj.mapFields (·.setIfInBounds 3 ((none:Option Addr).elim Value.none λ f=>rawInt f)))).get? e=some { oe with data:=.fields (vs.setIfInBounds 1 (Value.ref g1.objs.size)) }:=by
   rw[zB1 _ _ ne,e3,qZ0 hd]
 refine⟨Nat.le_of_eq qs.symm,λ b o hb n1 n2 n3=>keep b o n1 ((qk b n3).trans hb),λ b o hb hm=>?_,λ b o hb=>?_,_,_,_,ee,by simpa using hsz,by simp[hsz],ne,zBi _ t3 (Obj.isFreed_of_fields (Obj.data_mapFields dT _)),Obj.data_mapFields dT _,by simp[d3]⟩
 . obtain⟨sl,hs⟩:=qu b o hb
   refine⟨sl,keep b _ (λ z=>?_) hs⟩;subst z;rw[he] at hb;cases hb;exact nfr b _ vs he hd hm
 obtain⟨sl,hs⟩:=qu b o hb;by_cases z:b=e
 . subst z;exact⟨_,ee⟩
 exact⟨_,keep b _ z hs⟩
theorem qw9{base:Heap}{env:Env}{outer:List Env}{L e:Addr}{oe:Obj}{Q:Unit->Shared->Prop}(hfr:A.frames=some (env::outer))(hl:s.heap.FunFrames base (env::outer))(hf:env.frame=some L)(he:s.heap.get? e=some oe)(hd:oe.data=.fields vs)(hsz:1 < vs.size)(ht:vs[1]? = some .none∨∃ T oT ts,vs[1]? = some (.ref T)/\T≠e/\s.heap.get? T=some oT/\oT.data=.fields ts/\ts[3]? = some .none)(h:∀ h' T,Left s.heap h' ((env::outer).filterMap (·.frame)) e T oe vs[1]? -> Q () { s with heap:=h' }) :
   wpAny M A (noteFrame (.ref e) env) (λ _ s'=>wpAny M A (setFlight (.ref e) none) Q E s') E s:=by
 unfold noteFrame;simp only[hf];rcases ht with h1 | ⟨T,oT,ts,h1,hTe,hT,dT,h3⟩
 . refine wpAny_bind (wpAny_field he hd h1 ?_)
   rw[if_neg (by decide)];exact qx5 (old:=vs[1]?) hfr hl hf he hd hsz h
 refine wpAny_bind (wpAny_field he hd h1 ?_);rw[if_pos (show (Value.ref T != Value.none)=true from by simp)];refine wpAny_bind (wpAny_field hT dT h3 ?_);rw[if_neg (show ¬ ((Value.none == rawInt L)=true) from by simp[rawInt])];have h4:=(Array.getElem?_eq_some_iff.mp h3).1;refine wpAny_bind (wpAny_setField hT dT h4 ?_);have other:∀ b,b≠T->(s.heap.update T (Obj.mapFields (·.setIfInBounds 3 Value.none))).get? b=s.heap.get? b:=λ b hb=>zB1 _ _ (Ne.symm hb)
 have nT:∀ b∈(env::outer).filterMap (·.frame),b≠T:=λ b hm z=>by
   obtain⟨_,o',q3,q4⟩:=hl.mem hm;subst z;rw[hT] at q3;cases q3;exact q4 ts dT
 have sT:(s.heap.update T (Obj.mapFields (·.setIfInBounds 3 Value.none))).get? T=some { oT with data:=.fields (ts.setIfInBounds 3 .none) }:=by
   rw[zBi _ hT (Obj.isFreed_of_fields (Obj.data_mapFields dT _)),qZ0 dT]
 have hl':(s.heap.update T (Obj.mapFields (·.setIfInBounds 3 Value.none))).FunFrames base (env::outer):=hl.of_keeps λ b o hb hnf=>⟨o,(other b λ z=>by subst z;rw[hT] at hb;cases hb;exact hnf ts dT).trans hb,rfl⟩
 refine qx5 (s:={ s with heap:=s.heap.update T (Obj.mapFields (·.setIfInBounds 3 Value.none)) }) (old:=vs[1]?) hfr hl' hf ((other e (Ne.symm hTe)).trans he) hd hsz λ h' T' q=>h h' T' ?_
 obtain⟨q1,q2,q3,q4,q5⟩:=q;refine⟨by rwa[show (s.heap.update T (Obj.mapFields (·.setIfInBounds 3 Value.none))).objs.size=s.heap.objs.size from Heap.size_update _ _ _] at q1,λ b o hb n1 n2 n3=>?_,λ b o hb hm=>q3 b o ((other b (nT b hm)).trans hb) hm,λ b o hb=>?_,q5⟩
 . exact q2 b o ((other b λ z=>n2 (by rw[h1,z])).trans hb) n1 n2 n3
 by_cases z:b=T
 . subst z;exact q4 _ _ sT
 exact q4 b o ((other b z).trans hb)
end
end L2
namespace L2
open PySem PySem.Spec PyProof.Rows Builtin Builtin.ObjectAttr
variable{ox:Obj}
def G6:List Value->Bool
 | .ref _::r=>G6 r
 | .type n::r=>Value.type n::r == [.type "ValueError",.type "Exception",.type "BaseException",.type "object"]
 | _=>false
theorem qA9(self:Value):∀{l:List Value},G6 l=true->refuseLoop self "__setattr__" l=pure ():=by
 intro l
 induction l with
 | nil=>intro e;cases e
 | cons c r ih =>
   intro e;cases c with
   | ref a=>rw[refuseLoop_ref];exact ih e
   | type n=>rw[show (Value.type n::r)=[.type "ValueError",.type "Exception",.type "BaseException",.type "object"] from zBg.mp e];exact PySem.F.store_ValueError.passes self
   | _=>cases e
structure Exc(K:PySem.W.Frag)(C:Addr):Prop where
 mro:(PySem.W.clsIn K C).any (λ cd=>G6 cd.mro)=true
 hd:PySem.W.hasDictIn K C=true
 kts:PySem.W.ktsIn K C "ValueError" = true
 sa:PySem.W.findIn K (.ref C) "__setattr__" = some (some (.builtin "object.__setattr__"))
 ga:PySem.W.findIn K (.ref C) "__getattribute__" = some (some (.builtin "BaseException.__getattribute__"))
 gt:PySem.W.findIn K (.ref C) "__getattr__" = some none
 be:PySem.W.mroIn K C (.type "BaseException")=some true
 ob:PySem.W.mroIn K C (.type "object")=some true
 ty:PySem.W.typeIn K (.ref C)=some (.type "type")
section
variable{prog:Program}{w:World}{A:Around}{E:Value->Shared->Prop}{s:Shared}{K:PySem.W.Frag}{x C:Addr}{name:Str}{v:Value}
theorem qaa3{R:Result->Shared->Prop}{od:Option Obj}{tk:Tok}(X:K.In s.heap)(I:PySem.W.InstAt s.heap x ox C od)(c:Exc K C)(ht:PySem.W.findIn K (.ref C) name=some none)(h:wpAny (model prog w) A.in1 (storeInOwnDict (.ref x) (.ref C) (.str name tk) name v false)
     (λ fin s'=>match fin with | .done f=>R (.ok f) s' | .again c'=>c'.quiet=true/\codeAny (model prog w) A c' R s') (λ e s'=>R (.error e) s') s) :
   codeAny (model prog w) A (.call (.builtin "object.__setattr__") ⟨[.ref x,.str name tk,v],[]⟩) R s:=by
 have SF:=PySem.F.store_object;obtain⟨cd,hc,ho⟩:=PySem.W.any_some c.mro;have sub:PySem.W.Looks (model prog w) s.heap (isInstance (.ref x) (.type "object")) true:=I.type.andThen (PySem.W.looks_mroIn X c.ob);refine codeAny_call_builtin SF.slot.plain SF.entry (@PySem.W.check_slot (model prog w) _ _ s "object.__setattr__" "object" "__setattr__" (.ref x) [.str name tk,v] [] _ SF.kind SF.split sub (SF.args (.ref x) (.str name tk) v) ?_);have hm:PySem.W.Looks (model prog w) s.heap (mroOf (.ref C)) cd.mro:=(PySem.W.looks_clsIn X hc).andThen .now;rw[PySem.W.osa_eq,refuse_eq];refine wpAny_bind (wpAny_bind (I.type.here (wpAny_bind (hm.here ?_))));rw[qA9 _ ho];exact wpAny_pure (wpAny_bind (I.type.here (wpAny_bind ((PySem.W.looks_findIn X ht).here (wpAny_bind (wpAny_pure h))))))
theorem qah7{Q:Unit->Shared->Prop}{vs:Array Value}(X:K.In s.heap)(c:Exc K C)(hx:s.heap.get? x=some ox)(hcl:ox.cls=.ref C)(hda:ox.data=.fields vs)(hdi:ox.dict=none)(ht:PySem.W.findIn K (.ref C) name=some none)(h:∀ h' tk',h'.get? x=some { ox with dict:=some s.heap.objs.size }->h'.Ns1 s.heap.objs.size (λ y=>if y=name then some v else none)->(∀ b o,b≠x->s.heap.get? b=some o->h'.get? b=some o)->Q () { s with heap:=h',toks:=tk' }) :
   wpAny (model prog w) A (setAttr (.ref x) name v) Q E s:=by
 obtain⟨oc,odi,oda,osl⟩:=ox;dsimp only at hcl hda hdi;subst hcl hda hdi;have I:PySem.W.InstAt s.heap x ⟨.ref C,none,.fields vs,osl⟩ C none:=⟨hx,rfl,rfl,True.intro⟩
 refine PySem.W.set_plain X I c.sa (qaa3 (s:={ s with toks:=s.toks+1 }) X I c ht ?_);obtain⟨cd,hc,hd'⟩:=PySem.W.any_some c.hd;refine wpAny_bind (wpAny_pure (wpAny_bind (wpAny_bind (wpAny_loadPart hx (wpAny_bind (PySem.W.Looks.here (s:={ s with toks:=s.toks+1 }) (PySem.W.looks_clsIn X hc) ?_))))));rw[hd'];have x1:(s.heap.push { cls:=.type "dict",data:=.dict #[] }).get? x=some ⟨.ref C,none,.fields vs,osl⟩:=zA2 _ hx;have ne:x≠s.heap.objs.size:=zAl (zA6 hx);simp only[Bool.not_true,Bool.false_eq_true,if_false];rw[if_neg (by simp[typeHasDict])];refine wpAny_bind (wpAny_alloc ?_);refine wpAny_bind (wpAny_update x1 (wpAny_pure ?_));have gd:((s.heap.push { cls:=.type "dict",data:=.dict #[] }).update x λ o=>{ o with dict:=some s.heap.objs.size }).get? s.heap.objs.size=some { cls:=.type "dict",data:=.dict #[] } :=
   (Heap.get?_update_ne _ _ _ _ (Ne.symm ne)).trans (Heap.get?_push_at rfl rfl)
 have nd:((s.heap.push { cls:=.type "dict",data:=.dict #[] }).update x λ o=>{ o with dict:=some s.heap.objs.size }).Ns s.heap.objs.size (λ _=>none) :=
   ⟨_,#[],_,gd,rfl,λ e he=>absurd he (by simp),λ _=>rfl⟩
 show wpAny _ _ (storeInDict s.heap.objs.size (.str name s.toks) name v) _ _ _;unfold storeInDict newKeyGuard;refine wpAny_bind (wpAny_pure (wpAny_bind (wpAny_nsSet1 (Heap.Ns1.of_empty nd) λ h' n2 s2=>?_)));obtain⟨oD,esD,epD,oD1,oD2,oD3⟩:=n2.count (Within.cons name v Within.nil);refine wpAny_bind (wpAny_lookBehind oD1 (by rw[oD2];exact pastItsLine_dict (zAm oD3 (by rw[zAr,List.length_nil,sizeLine_eq];lia))) ?_);refine wpAny_pure (h h' _ ?_ n2 λ b o hb e=>?_)
 . exact(s2.2 x ne).trans (zBi _ x1 rfl)
 exact(s2.2 b (zAl (zA6 e))).trans ((Heap.get?_update_ne _ _ _ _ hb).trans (zA2 _ e))
theorem qah6{Q:Unit->Shared->Prop}{vs:Array Value}{dx:Addr}{mA:Str->Option Value}{ns:List Str}(X:K.In s.heap)(c:Exc K C)(hx:s.heap.get? x=some ox)(hcl:ox.cls=.ref C)(hda:ox.data=.fields vs)(hdi:ox.dict=some dx)(hn:s.heap.Ns1 dx mA)(hw:Within mA ns)(hz:ns.length<=1000)(ht:PySem.W.findIn K (.ref C) name=some none)(h:∀ h' tk',h'.Ns1 dx (λ y=>if y=name then some v else mA y)->(∀ b o,b≠dx->s.heap.get? b=some o->h'.get? b=some o)->Q () { s with heap:=h',toks:=tk' }) :
   wpAny (model prog w) A (setAttr (.ref x) name v) Q E s:=by
 obtain⟨oc,odi,oda,osl⟩:=ox;dsimp only at hcl hda hdi;subst hcl hda hdi;obtain⟨od,hod,_⟩:=qn9 hn;have I:PySem.W.InstAt s.heap x ⟨.ref C,some dx,.fields vs,osl⟩ C (some od):=⟨hx,rfl,rfl,hod⟩
 refine PySem.W.set_plain X I c.sa (qaa3 (s:={ s with toks:=s.toks+1 }) X I c ht ?_);obtain⟨cd,hc,hd'⟩:=PySem.W.any_some c.hd;refine wpAny_bind (wpAny_pure (wpAny_bind (wpAny_bind (wpAny_loadPart hx (wpAny_bind (PySem.W.Looks.here (s:={ s with toks:=s.toks+1 }) (PySem.W.looks_clsIn X hc) ?_))))));rw[hd'];refine wpAny_pure (a:=some dx) (wpAny_bind (wpAny_pure (wpAny_bind ?_)));refine wpAny_nsSet1 (s:={ s with toks:=s.toks+1 }) hn λ h' n2 s2=>?_
 obtain⟨oD,esD,epD,oD1,oD2,oD3⟩:=n2.count (Within.cons name v hw);refine wpAny_bind (wpAny_lookBehind oD1 (by rw[oD2];exact pastItsLine_dict (zAm oD3 (by rw[zAr,sizeLine_eq];lia))) ?_);exact wpAny_pure (h h' _ n2 λ b o hb e=>(s2.2 b hb).trans e)
theorem qar3{Q:Value->Shared->Prop}{od:Obj}{expr:Bool}(X:K.In s.heap)(c:Exc K C)(I:PySem.W.InstAt s.heap x ox C (some od))(hf:PySem.W.findObj K C (some od) name=some (.value v))(hh:PySem.W.handedIn v=true)(h:∀ tk',Q v { s with toks:=tk' }):wpAny (model prog w) A (getAttr (.ref x) name expr) Q E s:=by
 have FB:=PySem.F.excAttr_ValueError;obtain⟨h0,g,d,t,os⟩:=s;have L0:=I.type (M:=model prog w);have L1:=PySem.W.looks_findIn (M:=model prog w) X c.ga;have L2:=PySem.W.looks_findIn (M:=model prog w) X c.gt;have L3:=PySem.W.looks_find (M:=model prog w) X I hf;have sub:PySem.W.Looks (model prog w) h0 (isInstance (.ref x) (.type "BaseException")) true:=L0.andThen (PySem.W.looks_mroIn X c.be);have k1:builtinKind "BaseException.__getattribute__" = some .slot:=by decide +kernel
 have k2:splitId "BaseException.__getattribute__" = some ("BaseException", "__getattribute__"):=by decide +kernel
 unfold getAttr getAttrBy;refine wpAny_bind (wpAny_mkText (wpAny_holding (wpAny_bind (L0.at (wpAny_bind (L1.at ?_))))));dsimp only;have ne:(Value.builtin "BaseException.__getattribute__" == Value.builtin "object.__getattribute__")=false:=by decide +kernel
 rw[ne,zAx,if_neg zAe];unfold getAttrByItsOwn hookBefore;refine wpAny_bind ?_;rw[if_pos (by rfl)];refine L2.at ?_;unfold callGetattribute boundAndCalled;rw[if_neg (by cases expr<;>decide)];refine wpAny_bind (wpAny_attempt (wpAny_holding ?_));rw[FB.ga.bind (.ref x)];refine wpAny_bind (wpAny_pure (wpAny_call ?_));refine codeAny_call_builtin FB.ga.plain PySem.F.entry_bexc_ga (@PySem.W.check_slot (model prog w) _ _ _ "BaseException.__getattribute__" "BaseException" "__getattribute__" (.ref x) [.str name t] [] _ k1 k2 sub (PySem.F.args_bexc_ga (.ref x) (.str name t)) ?_);unfold Builtin.«object.__getattribute__»;refine wpAny_bind (wpAny_pure (wpAny_bind (wpAny_pure (wpAny_bind (L0.at (wpAny_bind (L3.at ?_)))))));refine wpAny_pure ?_;show wpAny _ _ (handedOut v) _ _ _;rw[PySem.W.handedOut_of hh];exact wpAny_pure (h _)
end
end L2
namespace L2
open PySem PySem.Spec PyProof.Rows
variable{Q:Unit->Shared->Prop}{fr:Bool}{xe:Value->Shared->Prop}
abbrev mroVE:List Value:=[.type "ValueError",.type "Exception",.type "BaseException",.type "object"]
def Ff(K:PySem.W.Frag)(C:Addr):Bool:=match K.lookup C with
 | some ⟨.type "type",_,.cls cd,sl⟩=>(match cd.mro,sl.toList with
   | .ref C'::bm,[_,_,_,_,some (.builtin n),_]=>C' == C&&n == "ValueError.__new__" && !cd.hasDel&&PySem.W.tailIn K mroVE bm
   | _,_=>false)
 | _=>false
theorem qQ5{K:PySem.W.Frag}{h:Heap}{C:Addr}(X:K.In h)(q:Ff K C=true):∃ nm qn N bs bm hdct sn sub ab col dd k0 k1 k2 k3 k5,
   h.get? C=some (excClassObj nm qn C N bs bm hdct sn sub ab col dd k0 k1 k2 k3 k5 "ValueError.__new__")/\OwnTail h mroVE bm:=by
 unfold Ff at q;split at q
 . rename_i dd cd sl ho
   split at q
   . rename_i C' bm k0 k1 k2 k3 n k5 hm hs
     simp only[zAz,zBg,Bool.not_eq_true'] at q;obtain⟨⟨⟨rfl,rfl⟩,hdel⟩,ht⟩:=q;obtain⟨nm,bs,mro,ns,qn,hd,sn,sub,ab,col,del⟩:=cd;dsimp only at hm hdel;subst hm hdel;obtain⟨l⟩:=sl;dsimp only at hs;subst hs;exact⟨nm,qn,ns,bs,bm,hd,sn,sub,ab,col,dd,k0,k1,k2,k3,k5,X _ _ ho,PySem.W.tail_of_in X ht⟩
   cases q
 cases q
section
variable{prog:Program}{w:World}{A:Around}{K:PySem.W.Frag}{C fI:Addr}{h:Heap}{g:Array GenState}{d:Drawn}{t:Nat}{os:OsState}
theorem qV5{rest:List Value}{Q:Fin->Shared->Prop}{E:Value->Shared->Prop}(X:K.In h)(m:Ff K C=true)(hi:PySem.W.findIn K (.ref C) "__init__" = some (some (.ref fI)))(hf:PySem.W.typeIn K (.ref fI)=some (.type "function"))(hrest:rest.length<=sizeLine)(hq:wpAny (model prog w) A (call (.ref fI) (.ref (h.objs.size+1)::rest)) (λ r s'=>r=.none/\Q (.done (.ret (.ref (h.objs.size+1)))) s') E
     ⟨(h.push { cls:=.type "tuple",data:=.seq rest.toArray }).push { cls:=.ref C,data:=.fields #[.ref h.objs.size,.none,.none,.none,.bool false,.none] },g,d,t,os⟩) :
   wpAny (model prog w) A (Builtin.«type.__call__» ⟨.ref C::rest,[]⟩) Q E ⟨h,g,d,t,os⟩:=by
 have F:=PySem.F.excBase_ValueError;obtain⟨nm,qn,N,bs,bm,hdct,sn,sub,ab,col,dd,k0,k1,k2,k3,k5,hC,T⟩:=qQ5 X m
 repeat (first | with_reducible refine wpAny_loadPart_at hC ?_ | with_reducible refine wpAny_madeBy_exc hC ?_ | wp_step)
 refine codeAny_call_builtin_code (Code.quiet_builtin _ F.quiet) (wpAny_check_new_subT F T hC ?_);refine codeAny_exc_new_subT F T hC ?_ hrest;show wpAny _ _ _ _ _ _;have kk:∀ b o,h.get? b=some o->((h.push { cls:=.type "tuple",data:=.seq rest.toArray }).push { cls:=.ref C,data:=.fields #[.ref h.objs.size,.none,.none,.none,.bool false,.none] }).get? b=some o:=λ b o e=>zA2 _ (zA2 _ e)
 have c1:=kk _ _ hC;have hg:((h.push { cls:=.type "tuple",data:=.seq rest.toArray }).push { cls:=.ref C,data:=.fields #[.ref h.objs.size,.none,.none,.none,.bool false,.none] }).get? (h.objs.size+1)=some { cls:=.ref C,data:=.fields #[.ref h.objs.size,.none,.none,.none,.bool false,.none] }:=by heap_get
 have cc:(Value.ref C::bm).contains (.ref C)=true:=by simp
 unfold isInstance
 repeat (first | with_reducible refine wpAny_loadPart_at hg ?_ | (with_reducible refine wpAny_isSubtype_exc c1 ?_;rw[cc]) | wp_step)
 show wpAny _ _ (typeLookup (.ref C) _) _ _ _;have i1:=(PySem.W.looks_findIn (M:=model prog w) X hi).keeps kk;have b1:=(PySem.W.bind_fn (M:=model prog w) X (.ref (h.objs.size+1)) hf).keeps kk;refine i1.at (wpAny_holding (wpAny_bind (b1.at (wpAny_bind (wpAny_mono hq (λ r s' z=>?_) λ _ _ z=>z)))));obtain⟨rfl,z⟩:=z;exact wpAny_pure (wpAny_pure z)
theorem qah8{rest:List Value}{Q E:Value->Shared->Prop}(X:K.In h)(m:Ff K C=true)(hi:PySem.W.findIn K (.ref C) "__init__" = some (some (.ref fI)))(hf:PySem.W.typeIn K (.ref fI)=some (.type "function"))(hrest:rest.length<=sizeLine)(hq:wpAny (model prog w) (A.under (.builtin "type.__call__" ⟨.ref C::rest,[]⟩)) (call (.ref fI) (.ref (h.objs.size+1)::rest)) (λ r s'=>r=.none/\Q (.ref (h.objs.size+1)) s') E
     ⟨(h.push { cls:=.type "tuple",data:=.seq rest.toArray }).push { cls:=.ref C,data:=.fields #[.ref h.objs.size,.none,.none,.none,.bool false,.none] },g,d,t,os⟩) :
   wpAny (model prog w) A (call (.ref C) rest) Q E ⟨h,g,d,t,os⟩:=by
 obtain⟨nm,qn,N,bs,bm,hdct,sn,sub,ab,col,dd,k0,k1,k2,k3,k5,hC,T⟩:=qQ5 X m;have f1:=tc_lookup;have f2:=tc_bind (.ref C);have hT:(⟨h,g,d,t,os⟩:Shared).TypeIs (.ref C) "type" := ⟨_,hC,rfl⟩
 refine wpAny_call (codeAny_of_tree ?_);show wpAny _ _ (callAny (.ref C) _) _ _ _
 repeat (any_goals (first | assumption | with_reducible refine wpAny_loadPart_at hC ?_ | wp_step))
 refine⟨rfl,?_⟩;exact codeAny_call_builtin_at (Code.quiet_builtin _ (by decide +kernel)) entry_typeCall (wpAny_check_type_call_sub hC (qV5 X m hi hf hrest hq))
end
section
variable{M:Model}{A:Around}{E:Value->Shared->Prop}{s:Shared}{env:Env}
theorem qM5{K:PySem.W.Frag}{x:Sem Value}{Q:Flow->Shared->Prop}(hh:A.handled=none)(h:wpAny M A x (λ v s₁=>∃ e oe vs C,v=.ref e/\K.In s₁.heap/\Exc K C/\s₁.heap.get? e=some oe/\oe.cls=.ref C/\oe.data=.fields vs/\vs[1]? = some .none/\E (.ref e) s₁) E s) :
   wpAny M A (raiseStmt env (some x) none) Q E s:=by
 unfold raiseStmt;refine wpAny_bind (wpAny_mono h (λ v s₁ q=>?_) λ _ _ x=>x);obtain⟨e,oe,vs,C,rfl,X,c,he,hcl,hda,h1,hE⟩:=q;obtain⟨oc,odi,oda,osl⟩:=oe;dsimp only at hcl hda;subst hcl hda;obtain⟨nm,qn,N,bs,bm,hdct,sn,sub,ab,col,dd,k0,k1,k2,k3,k5,newId,hC,hb,_⟩:=PySem.W.kts_cls X c.kts;obtain⟨hp,g,d,tk,os⟩:=s₁;have hcB:(Value.ref C::bm).contains (.type "BaseException")=true:=by rw[List.contains_cons,hb,Bool.or_true]
 repeat (first | with_reducible refine wpAny_loadPart_at he ?_ | with_reducible refine wpAny_loadPart_at hC ?_ | (with_reducible refine wpAny_isSubtype_exc hC ?_;rw[hcB]) | with_reducible refine wpAny_field he rfl h1 ?_ | wp_step)
 exact wpAny_raiseNew_none hh hE
theorem qV7{K:PySem.W.Frag}{e C D:Addr}{oe:Obj}{b:Bool}{Q:Bool->Shared->Prop}(X:K.In s.heap)(d:Exc K D)(he:s.heap.get? e=some oe)(hcl:oe.cls=.ref C)(hm:PySem.W.mroIn K C (.ref D)=some b)(h:Q b s) :
   wpAny M A (excMatches (.ref e) (.ref D)) Q E s:=by
 obtain⟨nm,qn,N,bs,bm,hdct,sn,sub,ab,col,dd,k0,k1,k2,k3,k5,newId,hD,hb,_⟩:=PySem.W.kts_cls X d.kts;have L:=PySem.W.looks_mroIn (M:=M) X hm;obtain⟨hp,g,dr,tk,os⟩:=s;have hcB:(Value.ref D::bm).contains (.type "BaseException")=true:=by rw[List.contains_cons,hb,Bool.or_true]
 have f:=tc_notTuple;unfold excMatches
 repeat (first | (with_reducible refine wpAny_loadPart_at he ?_;rw[hcl]) | with_reducible refine wpAny_loadPart_at hD ?_ | (with_reducible refine wpAny_isSubtype_exc hD ?_;rw[hcB]) | with_reducible refine L.at ?_ | wp_step)
 cases b<;>(wp_walk;exact h)
end
def G7(e C:Addr)(od:Option Addr)(fr:Bool)(h:Heap):Prop:=∃ oe vs,h.get? e=some oe/\oe.cls=.ref C/\oe.dict=od/\oe.data=.fields vs/\1 < vs.size/\(fr=true->vs[1]? = some .none)
abbrev Ba(e C:Addr)(od:Option Addr)(fr:Bool):HO:=.ext (G7 e C od fr)
def xdIs(d:Addr)(fs:List (Str×V))(h:Heap):Prop:=∃ mA,h.Ns1 d mA/\(∀ f,RelO (fs.lookup f) (mA f))/\PySem.Within mA (fs.map (·.1))/\fs.length<=1000
abbrev XD(d:Addr)(fs:List (Str×V)):HO:=.ext (xdIs d fs)
section
variable{P:Program}{w:World}{H:Hp}{h:Heap}
theorem qV6{e C:Addr}{od:Option Addr}(q:G7 e C od fr h):ObjOk P w H h e (Ba e C od fr) :=
 ⟨q,let ⟨oe,_,a,_⟩:=q;⟨oe,a⟩,λ h1 h2 ⟨oe,vs,a,b⟩ k=>⟨oe,vs,k _ a,b⟩⟩
theorem xd_ok{d:Addr}{fs:List (Str×V)}(q:xdIs d fs h):ObjOk P w H h d (XD d fs) :=
 ⟨q,let ⟨_,⟨o,_,_,a,_⟩,_⟩:=q;⟨o,a⟩,λ h1 h2 ⟨mA,⟨o,es,ep,a,r⟩,b⟩ k=>⟨mA,⟨o,es,ep,k _ a,r⟩,b⟩⟩
theorem qC8{e C:Addr}{od:Option Addr}(ok:HOk P w H h)(q:H e=some (Ba e C od fr)):G7 e C od fr h:=(ok e _ q).1
theorem G8{d:Addr}{fs:List (Str×V)}(ok:HOk P w H h)(q:H d=some (XD d fs)):xdIs d fs h:=(ok d _ q).1
end
section
variable{X:Cx}{Dk:List (Addr×Obj)}{σ:St}{H:Hp}{s:Shared}{a C dx:Addr}{fs:List (Str×V)}{f:Str}{v:V}{A:Around}{E:Value->Shared->Prop}
theorem qai0{y:V}{u:Value}(I:Inv X Dk σ H s)(e:H a=some (Ba a C none true))(c:Exc X.K C)(n:qe3 X.K C f)(ry:RelV y u)(h:∀ dx s',H dx=none->dx≠a->Inv X Dk σ (upd (upd H dx (XD dx [(f,y)])) a (Ba a C (some dx) true)) s'->Q () s'):wpAny (model X.prog X.w) A (setAttr (.ref a) f u) Q E s:=by
 obtain⟨oe,vs,h1,h2,h3,h4,h5,h6⟩:=qC8 I.hok e;refine qah7 I.kIn c h1 h2 h4 h3 n λ h' tk' q1 q2 q3=>?_
 have na:a≠s.heap.objs.size:=zAl (zA6 h1);have nz:H s.heap.objs.size=none:=I.hok.fresh (zA8 _);have lo:∀ b o,s.heap.get? b=some o->b≠s.heap.objs.size:=λ b o z=>zAl (zA6 z)
 refine h s.heap.objs.size _ nz (Ne.symm na) (I.un (t':=tk') ⟨λ b o z n1 _ _=>q3 b o (λ z'=>?_) z,λ b o z n1 _ _=>⟨o.slots,q3 b o (λ z'=>?_) z⟩,λ b o z n1 _=>?_,λ b o z _=>?_,λ b xs z=>?_,λ b o' xs z=>?_,λ b ps z=>?_⟩ λ b u' z=>?_)
 . rw[z',e] at n1;cases n1
 . rw[z',e] at n1;cases n1
 . rw[qb2 (λ z'=>by rw[z',e] at n1;cases n1),qb2 (lo b o z)];exact n1
 . by_cases z':b=a
   . rw[z'];exact⟨_,q1⟩
   exact⟨o,q3 b o z' z⟩
 . rw[qb2 (λ z'=>by rw[z',e] at z;cases z),qb2 (qc2 z nz)];exact z
 . rw[qb2 (λ z'=>by rw[z',e] at z;cases z),qb2 (qc2 z nz)];exact z
 . exact⟨#[],by rw[qb2 (λ z'=>by rw[z',e] at z;cases z),qb2 (qc2 z nz)];simpa using z⟩
 by_cases z1:b=a
 . subst z1
   rw[qb0] at z;cases z;exact qV6 ⟨_,vs,q1,h2,rfl,h4,h5,h6⟩
 rw[qb2 z1] at z;by_cases z2:b=s.heap.objs.size
 . subst z2
   rw[qb0] at z;cases z;refine xd_ok ⟨_,q2,λ g=>?_,λ g hg=>?_,by simp⟩
   . show RelO (([(f,y)]:List (Str×V)).lookup g) (if g=f then some u else none)
     by_cases gf:g=f
     . subst gf;rw[if_pos rfl];simp only[List.lookup,zBa];exact ry
     have:(g == f)=false:=zB4.mpr gf
     simp[List.lookup,this,gf,RelO]
   by_cases gf:g=f
   . simp[gf]
   exact absurd (by show (if g=f then some u else none)=none;rw[if_neg gf]) hg
 rw[qb2 z2] at z;refine(I.hok b u' z).stay (λ c' v' hc' r=>q3 c' v' ?_ r) (λ c' r=>?_) λ c' xs r=>?_
 . rcases hc' with rfl | hc'
   . exact z1
   intro z';rw[z',e] at hc';cases hc'
 . rw[qb2 (λ z'=>by rw[z',e] at r;cases r),qb2 (qc2 r nz)];exact r
 rw[qb2 (λ z'=>by rw[z',e] at r;cases r),qb2 (qc2 r nz)];exact r
theorem qah9{y:V}{u:Value}(I:Inv X Dk σ H s)(e:H a=some (Ba a C (some dx) true))(ed:H dx=some (XD dx fs))(hl:fs.length < 1000)(c:Exc X.K C)(n:qe3 X.K C f)(ry:RelV y u)(h:∀ s',Inv X Dk σ (upd H dx (XD dx (Be f y fs))) s'->Q () s'):wpAny (model X.prog X.w) A (setAttr (.ref a) f u) Q E s:=by
 obtain⟨oe,vs,h1,h2,h3,h4,h5,h6⟩:=qC8 I.hok e;obtain⟨mA,n1,r,wi,_⟩:=G8 I.hok ed;refine qah6 I.kIn c h1 h2 h4 h3 n1 wi (by rw[zAj];lia) n λ h' tk' q1 q2=>h _ ?_
 refine I.write (x:=dx) (e:=dx) (t':=tk') (by rw[ed];exact True.intro) (.inl rfl) q2 (let ⟨o,_,_,z,_⟩:=q1;⟨o,z⟩) (xd_ok ⟨_,q1,λ g=>?_,λ g hg=>?_,?_⟩)
 . show RelO ((Be f y fs).lookup g) (if g=f then some u else mA g)
   rw[qm1];by_cases q:g=f
   . rw[if_pos q,if_pos q];exact ry
   rw[if_neg q,if_neg q];exact r g
 . by_cases q:g=f
   . rw[q];exact(qk5 f y fs).1
   refine(qk5 f y fs).2 g (wi g λ z=>hg ?_);show (if g=f then some u else mA g)=none;rw[if_neg q];exact z
 have:=qm2 f y fs;lia
theorem qar8{b:Bool}{Q:Value->Shared->Prop}(I:Inv X Dk σ H s)(e:H a=some (Ba a C (some dx) fr))(ed:H dx=some (XD dx fs))(c:Exc X.K C)(n:qe3 X.K C f)(l:fs.lookup f=some v)(h:∀ u s',Inv X Dk σ H s'->RelV v u->Q u s'):wpAny (model X.prog X.w) A (getAttr (.ref a) f b) Q E s:=by
 obtain⟨oe,vs,h1,h2,h3,h4,_⟩:=qC8 I.hok e;obtain⟨mA,n1,r,wi,_⟩:=G8 I.hok ed;obtain⟨u,hu,ru⟩:=RelO.some_of (v:=v) (o:=mA f) (by rw[<- l];exact r f);obtain⟨od,ho,hlk⟩:=qn9 n1;obtain⟨oc,odi,oda,osl⟩:=oe;dsimp only at h2 h3 h4;subst h2 h3 h4;have J:PySem.W.InstAt s.heap a ⟨.ref C,some dx,.fields vs,osl⟩ C (some od):=⟨h1,rfl,rfl,ho⟩
 exact qar3 I.kIn c J (PySem.W.findObj_own c.hd n rfl (by rw[hlk,hu])) (qG2 ru) λ tk=>h u _ (I.tok tk) ru
end
structure Fly(n:Nat)(H:Hp)(h:Heap)(a:Addr):Prop where
 ge:n<=a
 tr:∃ C od,H a=some (Ba a C od false)
 ob:∃ oe vs,h.get? a=some oe/\oe.data=.fields vs/\1 < vs.size/\(vs[1]? = some .none∨∃ T oT ts,vs[1]? = some (.ref T)/\n<=T/\H T=none/\T≠a/\h.get? T=some oT/\oT.data=.fields ts/\ts[3]? = some .none)
theorem Fly.mono{m n:Nat}{H:Hp}{h:Heap}{a:Addr}(F:Fly n H h a)(l:m<=n):Fly m H h a:=by
 obtain⟨oe,vs,h1,h2,h3,h4⟩:=F.ob;refine⟨zAm l F.ge,F.tr,oe,vs,h1,h2,h3,?_⟩;rcases h4 with z | ⟨T,oT,ts,z1,z2,z⟩
 . exact .inl z
 exact .inr ⟨T,oT,ts,z1,zAm l z2,z⟩
def CX1(P:Program)(w:World):CXT:=λ outer H s E e s'=>∃ a H',e=.ref a/\s'.os=s.os/\AllBare s'.gens/\Un (frs outer) [] H H' s.heap s'.heap/\HOk P w H' s'.heap/\Fly s.heap.objs.size H' s'.heap a/\E e none H'
structure Old(X:Cx)(Dk:List (Addr×Obj))(n:Nat):Prop where
 st:X.s₀.heap.objs.size<=n
 loc:X.env.locals < n
 cell:∀ x c,X.env.cells.lookup x=some c->c < n
 pin:∀ p∈X.pn++Dk,p.1 < n
theorem Inv.old{X:Cx}{Dk:List (Addr×Obj)}{σ:St}{H:Hp}{s:Shared}(I:Inv X Dk σ H s):Old X Dk s.heap.objs.size :=
 ⟨I.sz,I.lt,λ x c e=>let ⟨_,_,z,_⟩:=I.cell x c e;zA6 z,λ p hp=>zA6 (I.pin p hp).1⟩
def Fg:Option Value->List Addr
 | some (.ref b)=>[b]
 | _=>[]
section
variable{X:Cx}{Dk:List (Addr×Obj)}{σ:St}{H:Hp}{s:Shared}{a T:Addr}{n:Nat}{h':Heap}{oe:Obj}{vs:Array Value}
theorem Inv.left(I:Inv X Dk σ H s)(F:Fly n H s.heap a)(O:Old X Dk n)(he:s.heap.get? a=some oe)(hd:oe.data=.fields vs)(L:Left s.heap h' (frs X.stack) a T oe vs[1]?) :
   Inv X Dk σ H { s with heap:=h' }/\Fly n H h' a:=by
 obtain⟨C,od,tr⟩:=F.tr;obtain⟨oe',vs',q1,q2,q3,q4⟩:=F.ob;rw[he] at q1;cases q1;rw[hd] at q2;cases q2;obtain⟨ws,oT,ts,e1,e2,e3,e4,e5,e6,e7⟩:=L.exc;have old:∀ b,vs[1]? = some (.ref b)->n<=b/\H b=none/\b≠a:=λ b z=>by
   rcases q4 with q | ⟨T',_,_,q,r1,r2,r3,_⟩
   . rw[q] at z;cases z
   rw[q] at z;cases z;exact⟨r1,r2,r3⟩
 have hok:HOk X.prog X.w H h':=λ b u hb=>by
   by_cases z:b=a
   . subst z
     rw[tr] at hb;cases hb;obtain⟨oe',vs',p1,p2,p3,p4,p5,p6⟩:=qC8 I.hok tr;rw[he] at p1;cases p1;exact qV6 ⟨_,ws,e1,p2,p3,rfl,e2,λ z=>nomatch z⟩
   have nn:∀ c,H c≠none->c∉frs X.stack:=λ c hc hm=>hc (I.stkFree c hm)
   refine(I.hok b u hb).stay (λ c v hc r=>L.keep c v r ?_ (λ z'=>?_) ?_) (λ _ z=>z) λ _ _ z=>z
   . rcases hc with rfl | hc
     . exact z
     intro z';rw[z',tr] at hc;cases hc
   . have:=(old c z').2.1
     rcases hc with rfl | hc
     . rw[this] at hb;cases hb
     rw[this] at hc;cases hc
   rcases hc with rfl | hc
   . exact nn c (by rw[hb];exact λ z=>nomatch z)
   exact nn c (by rw[hc];exact λ z=>nomatch z)
 refine⟨?_,F.ge,⟨C,od,tr⟩,_,ws,e1,rfl,e2,.inr ⟨T,oT,ts,e3,zAm (zAm F.ge (Nat.le_of_lt (zA6 he))) L.new,I.hok.fresh L.new,e4,e5,e6,e7⟩⟩;have hch:∀ b,b∈Fg vs[1]? ↔ vs[1]? = some (.ref b):=λ b=>by
   rcases q4 with q | ⟨T',_,_,q,_⟩
   . rw[q];simp[Fg]
   rw[q];simp[Fg,eq_comm]
 have U:Un (frs X.stack) (Fg vs[1]?) H H s.heap h':=by
   refine⟨λ b o z n1 n2 n3=>L.keep b o z (λ z'=>?_) (λ z'=>n3 ((hch b).mpr z')) n2,λ b o z n1 n2 n3=>L.slot b o z n2,λ _ _ _ n1 _=>n1,λ b o z _=>L.there b o z,λ _ _ z=>z,λ _ _ _ z=>z,λ b ps z=>⟨#[],by rw[z];simp⟩⟩;rw[z',tr] at n1;cases n1
 exact I.call (g':=s.gens) (t':=s.toks) (d':=s.drawn) (ch:=Fg vs[1]?) U hok I.bare λ b hb=>by
   have g:=(old b ((hch b).mp hb)).1;refine⟨.inr (zAm O.st g),Nat.ne_of_gt (zAb O.loc g),λ x c e=>zAl (zAb (O.cell x c e) g),λ p hp=>zAl (zAb (O.pin p hp) g)⟩
end
def Lands(X:Cx)(E:XK):Prop:=∀(Dk:List (Addr×Obj))(σ:St)(H:Hp)(s:Shared)(a:Addr)(n:Nat),Inv X Dk σ H s->Fly n H s.heap a->Old X Dk n->E (.ref a) none H->X.xe (.ref a) s
theorem Lands.passes{X:Cx}{E:XK}(h:Lands X E):qD8 (CX1 X.prog X.w) X E:=λ Dk σ H s e s' I q=>by
 obtain⟨a,H',rfl,o1,o2,u,ok,F,q⟩:=q;exact h Dk σ H' s' a _ (I.call' (ch:=[]) o1 u ok o2 λ _ z=>nomatch z) F I.old q
theorem qa2{P:Program}{w:World}{K:PySem.W.Frag}{mg:Str->Option Value}{base:Heap}{N:List Str}{qual:Str}{scope:Scope}{f:Addr}{cd:Value}{A:Around}{outer:List Env}{s₀:Shared}{H₀:Hp}{E:XK} :
   Lands (B9 (CX1 P w) P w K mg base N qual scope f cd A outer s₀ H₀ E) E:=λ Dk σ H s a n I F O q=>by
 obtain⟨oe,vs,h1,h2,h3,h4⟩:=id F.ob;show wpAny _ _ (leaving _ _) _ _ s;unfold leaving;refine wpAny_bind (qw9 (base:=base) (vs:=vs) I.ok.frames I.stack rfl h1 h2 h3 ?_ λ h' T L=>?_)
 . rcases h4 with z | ⟨T,oT,ts,z1,_,_,z2,z3,z4,z5⟩
   . exact .inl z
   exact .inr ⟨T,oT,ts,z1,z2,z3,z4,z5⟩
 obtain⟨J,F'⟩:=I.left (T:=T) F O h1 h2 L;exact⟨a,H,rfl,J.os,J.bare,J.base,J.hok,F'.mono O.st,q⟩
section
variable{X:Cx}{o e value:Expr}{pos pos':Pos}{ta tv:TE}{f:Str}
def sEF(K:PySem.W.Frag)(ta tv:TE)(f:Str):TS:=λ D σ H=>tv σ H λ y H1=>ta σ H1 λ x H2=>∃ a C,x=.ref a/\Exc K C/\qe3 K C f /\
 ((H2 a=some (Ba a C none true)/\∀ dx,H2 dx=none->dx≠a->D.nx σ (upd (upd H2 dx (XD dx [(f,y)])) a (Ba a C (some dx) true)))
  ∨ ∃ dx fs,H2 a=some (Ba a C (some dx) true)/\H2 dx=some (XD dx fs)/\fs.length < 1000/\D.nx σ (upd H2 dx (XD dx (Be f y fs))))
theorem qam6(ha:PE X o ta)(hv:PE X value tv)(hs:swapsWith value (some (.Attribute o f pos')) pos.line X.env=pure false:=by rfl):PS X (.Assign [.Attribute o f pos'] value pos) (sEF X.K ta tv f):=by
 intro Dk s σ H D I h;refine plainObj_wpAny_Assign_Attribute (thn (hv Dk s σ H _ I h) λ u s1 ⟨y,H1,I1,ry,q⟩=>thn (ha Dk s1 σ H1 _ I1 q) λ ov s2 ⟨x,H2,I2,rx,a,C,ex,c,n,q2⟩=>?_) hs;subst ex;obtain rfl:ov=Value.ref a:=rx;rcases q2 with⟨ea,q2⟩ | ⟨dx,fs,ea,ed,hl,q2⟩
 . exact qai0 I2 ea c n ry λ dx s3 n1 n2 I3=>⟨σ,_,I3,q2 dx n1 n2⟩
 exact qah9 I2 ea ed hl c n ry λ s3 I3=>⟨σ,_,I3,q2⟩
def tEF(K:PySem.W.Frag)(ta:TE)(f:Str):TE:=λ σ H Q=>ta σ H λ x H1=>∃ a C dx fr fs v,x=.ref a/\H1 a=some (Ba a C (some dx) fr)/\H1 dx=some (XD dx fs)/\Exc K C/\qe3 K C f/\fs.lookup f=some v/\Q v H1
theorem qan6(he:PE X e ta)(hb:attributeBase e f X.env (eval e X.env)=eval e X.env:=by rfl):PE X (.Attribute e f pos) (tEF X.K ta f):=by
 intro Dk s σ H Q I h;refine qaa7 hb (thn (he Dk s σ H _ I h) λ u s1 ⟨x,H1,I1,rx,a,C,dx,fr,fs,v,ex,ea,ed,c,n,l,q⟩=>?_);subst ex;obtain rfl:u=Value.ref a:=rx;exact qar8 I1 ea ed c n l λ u' s2 I2 ru=>⟨v,H1,I2,ru,q⟩
theorem qan4{x:Str}(C:Addr){pos:Pos}(hm:X.mg x=some (.ref C))(hg:Gl X x:=by rfl)(hd:(x == ("__debug__" : Str))=false:=by decide):PE X (.Name x pos) (tC (.ref C)):=qN2 hg hm rfl hd
end
structure MkE(K:PySem.W.Frag)(C f:Addr):Prop where
 exc:Exc K C
 mke:Ff K C=true
 init:PySem.W.findIn K (.ref C) "__init__" = some (some (.ref f))
 fn:PySem.W.isFn K (.ref f)=true
 kp:PySem.W.keepIn K (.ref C)=true
def qau3(C:Addr)(sp:Sp)(E:XK)(t:TA):TS:=λ D σ H=>t σ H λ vs H1=>vs.length<=1000/\∀ a,H1 a=none->sp (.ref a::vs) (upd H1 a (Ba a C none true)) (λ v H2=>v=.non/\∃ od,H2 a=some (Ba a C od true)/\E (.ref a) none (upd H2 a (Ba a C od false))) E0
section
variable{X:Cx}{k:Nat}{f C:Addr}{fd:FuncData}{ps:List Str}{sp:Sp}{E:XK}{x:Str}{np cpos pos:Pos}{e:Expr}{es:List Expr}{t:TA}
theorem qad6(M:MkE X.K C f)(F:Bh X.prog X.w X.K X.mg X.base CX0 k f fd ps sp)(hr:Room (k+1) X.A)(hm:X.mg x=some (.ref C))(hb:Binds X.K fd ps [])(hl:Lands X E)(ha:PA X (e::es) t)(hg:Gl X x:=by rfl)(hdb:(x == ("__debug__" : Str))=false:=by decide)(he:starEach (e::es) X.env=(false,eval e X.env)::starEach es X.env:=by rfl)(hpl:(backTo cpos (starEach es X.env)).any (·.1)=false:=by rfl) :
   PS X (.Raise (some (.Call (.Name x np) (e::es) [] cpos)) none pos) (qau3 C sp E t):=by
 intro Dk s σ H D I h;rw[arm_exec_Raise];refine wpAny_bind (wpAny_standAt (qM5 (K:=X.K) hr.hd ?_));refine wpAny_bind (wpAny_Call_Name_kw (qx0 I hg hm ?_ hdb));refine PySem.W.callWith_K (h₀:=X.base) I.ok.mod.kin M.kp (thn (ha cpos Dk s σ H _ I h) λ us s1 ⟨vs,H1,I1,r,hz,q⟩=>⟨I1.kIn,?_⟩) he hpl;obtain⟨h1,g1,d1,t1,o1⟩:=s1;show wpAny _ _ (call (.ref C) us) _ _ _;refine qah8 I1.kIn M.mke M.init (zBg.mp M.fn) (by rw[<- r.length,sizeLine_eq];lia) ?_;have nz:H1 (h1.objs.size+1)=none:=I1.hok.fresh (Nat.le_succ _);have q0:=q (h1.objs.size+1) nz;have I2:=I1.kept (h':=h1.push { cls:=.type "tuple",data:=.seq us.toArray }) (t':=t1) λ b u z=>zA2 _ z
 have g2:((h1.push { cls:=.type "tuple",data:=.seq us.toArray }).push { cls:=.ref C,data:=.fields #[.ref h1.objs.size,.none,.none,.none,.bool false,.none] }).get? (h1.objs.size+1)=some { cls:=.ref C,data:=.fields #[.ref h1.objs.size,.none,.none,.none,.bool false,.none] }:=by heap_get
 have I3:=I2.laid (a:=h1.objs.size+1) (o:=Ba (h1.objs.size+1) C none true) (t':=t1) (h':=(h1.push { cls:=.type "tuple",data:=.seq us.toArray }).push { cls:=.ref C,data:=.fields #[.ref h1.objs.size,.none,.none,.none,.bool false,.none] })
   (λ b u z=>zA2 _ z) (Nat.le_of_eq (Heap.size_push _ _)) (qV6 ⟨_,_,g2,rfl,rfl,rfl,by simp,λ _=>by simp⟩)
 have r2:Vals (V.ref (h1.objs.size+1)::vs) (Value.ref (h1.objs.size+1)::us):=.cons rfl r;have hln:((Value.ref (h1.objs.size+1)::us)++[]).length=ps.length:=by rw[zAa,<- r2.length];exact F.len _ _ _ _ q0
 have hbn:=hb _ (Value.ref (h1.objs.size+1)::us) I3.kIn hln;rw[zAa] at hbn;refine wpAny_call (codeAny_mono (F.run _ X.stack _ _ ⟨Value.ref (h1.objs.size+1)::us,[]⟩ (Value.ref (h1.objs.size+1)::us) _ _ E0 (hr.make C us []) (I3.env0.make C us []) hbn r2 q0) λ res s' z=>?_);cases res with
 | error e=>exact z.elim
 | ok fl =>
   cases fl with
   | ret u =>
     obtain⟨v,H',I4,rv,ev,od,ea,q4⟩:=I3.after z;subst ev;refine⟨rv,?_⟩;refine wpAny_bind (wpAny_standAt (wpAny_pure ?_));obtain⟨oe,ws,p1,p2,p3,p4,p5,p6⟩:=qC8 I4.hok ea;refine⟨h1.objs.size+1,oe,ws,C,rfl,I4.kIn,M.exc,p1,p2,p4,p6 rfl,?_⟩;have I5:Inv X Dk σ (upd H' (h1.objs.size+1) (Ba (h1.objs.size+1) C od false)) s' :=
       I4.write (x:=h1.objs.size+1) (e:=h1.objs.size+1) (h':=s'.heap) (t':=s'.toks) (by rw[ea];exact True.intro) (.inl rfl) (λ _ _ _ z=>z) ⟨oe,p1⟩ (qV6 ⟨oe,ws,p1,p2,p3,p4,p5,λ z=>nomatch z⟩)
     exact hl Dk σ _ s' (h1.objs.size+1) h1.objs.size I5 ⟨Nat.le_succ _,⟨C,od,qb0⟩,oe,ws,p1,p4,p5,.inl (p6 rfl)⟩ I1.old q4
   | next=>exact False.elim z
   | brk=>exact False.elim z
   | cont=>exact False.elim z
end
def Xt(X:Cx)(xe:Value->Shared->Prop)(pn:List (Addr×Obj)):Cx:={ X with xe:=xe,pn:=pn }
def Xh(X:Cx)(a:Addr):Cx:={ X with A:=X.A.mark (some (.ref a)),calm:=false,xe:=λ _ _=>False }
section
variable{X:Cx}{Dk:List (Addr×Obj)}{σ:St}{H:Hp}{s:Shared}{a:Addr}{n:Nat}
theorem Cx.Ok.t{pn:List (Addr×Obj)}(ok:X.Ok):(Xt X xe pn).Ok :=
 ⟨ok.mod,ok.kind,ok.glob,ok.blt,ok.above,ok.inj,ok.has,ok.cab,ok.hd,ok.frames,ok.stk,ok.exf,ok.bs,ok.bsz,ok.noex,ok.exfs,ok.funs,ok.frf⟩
theorem Cx.Ok.h(ok:X.Ok):(Xh X a).Ok :=
 ⟨ok.mod,ok.kind,ok.glob,ok.blt,ok.above,ok.inj,ok.has,ok.cab,λ z=>(by cases z),ok.frames,ok.stk,ok.exf,ok.bs,ok.bsz,ok.noex,ok.exfs,ok.funs,ok.frf⟩
theorem Inv.t(I:Inv X Dk σ H s):Inv (Xt X xe (X.pn++Dk)) [] σ H s :=
 ⟨I.ok.t,I.os,I.bare,I.base,I.loc,I.cell,I.free,I.freeC,λ p hp=>I.pin p (by rw[zAa] at hp;exact hp),I.hok,I.len⟩
theorem Inv.unt{pins':List (Addr×Obj)}(ok:X.Ok)(I:Inv (Xt X xe (X.pn++Dk)) pins' σ H s):Inv X Dk σ H s :=
 ⟨ok,I.os,I.bare,I.base,I.loc,I.cell,I.free,I.freeC,λ p hp=>I.pin p (List.mem_append_left _ hp),I.hok,I.len⟩
theorem Inv.h(I:Inv X Dk σ H s):Inv (Xh X a) Dk σ H s:=⟨I.ok.h,I.os,I.bare,I.base,I.loc,I.cell,I.free,I.freeC,I.pin,I.hok,I.len⟩
theorem Inv.unh(ok:X.Ok)(I:Inv (Xh X a) Dk σ H s):Inv X Dk σ H s:=⟨ok,I.os,I.bare,I.base,I.loc,I.cell,I.free,I.freeC,I.pin,I.hok,I.len⟩
theorem qV2{M:Model}{A:Around}{E:Value->Shared->Prop}(I:Inv X Dk σ H s)(F:Fly n H s.heap a)(O:Old X Dk n)(h:∀ s',Inv X Dk σ H s'->Fly n H s'.heap a->Q () s') :
   wpAny M A (setFlight (.ref a) none) Q E s:=by
 obtain⟨oe,vs,h1,h2,h3,h4⟩:=F.ob;unfold setFlight;rcases h4 with z | ⟨T,oT,ts,z1,z2,z3,z4,z5,z6,z7⟩
 . refine wpAny_bind (wpAny_field h1 h2 z ?_)
   rw[if_neg (by decide)];exact wpAny_pure (h s I F)
 refine wpAny_bind (wpAny_field h1 h2 z1 ?_);rw[if_pos (show (Value.ref T != Value.none)=true from by simp)];have h5:=(Array.getElem?_eq_some_iff.mp z7).1;refine wpAny_setField z5 z6 h5 ?_;have other:∀ b,b≠T->(s.heap.update T (Obj.mapFields (·.setIfInBounds 3 ((none:Option Addr).elim Value.none λ f=>rawInt f)))).get? b=s.heap.get? b:=λ b hb=>zB1 _ _ (Ne.symm hb)
 have sT:=zBi (Obj.mapFields (·.setIfInBounds 3 ((none:Option Addr).elim Value.none λ f=>rawInt f))) z5 (Obj.isFreed_of_fields (Obj.data_mapFields z6 _));refine h _ (I.turned (it:=T) (t':=s.toks) (λ b o hb q=>(other b hb).trans q) z3 (Nat.ne_of_gt (zAb O.loc z2)) (.inr (zAm O.st z2)) (λ x c e=>zAl (zAb (O.cell x c e) z2)) λ p hp=>zAl (zAb (O.pin p hp) z2)) ?_;exact⟨F.ge,F.tr,oe,vs,(other a (Ne.symm z4)).trans h1,h2,h3,.inr ⟨T,_,_,z1,z2,z3,z4,sT,Obj.data_mapFields z6 _,by simp[h5]⟩⟩
theorem qG4{M:Model}{A:Around}{E:Value->Shared->Prop}{j:Nat}{x:Str}{pos:Pos}(I:Inv X Dk σ H s)(hN:X.N.Nodup)(hj:X.N[j]? = some x)(hk:X.env.scope.names.lookup x=some .local)(h:∀ s',Inv X Dk (σ.set j none) H s'->Q () s'):wpAny M A (do bindName X.env x .none;unbindBehindTheSuite X.env x pos) Q E s:=by
 obtain⟨m,hn,hl⟩:=id I.loc;have hcls:(X.env.scope.kind == .class||(X.env.scope.kind == .module&&X.env.locals != X.env.globals))=false:=by rw[I.ok.kind];rfl
 have cne:=I.cne;refine wpAny_nameGoes_keeps hk hn hcls λ h' v hn' hs=>?_
 obtain⟨oL,_,_,hoL,_⟩:=id hn;have ap:∀ b o,X.s₀.heap.get? b=some o->b≠X.env.locals:=λ b o e=>zAl (zAb (zA6 e) I.ok.above)
 refine h _ ⟨I.ok,I.os,I.bare,⟨λ b o e n hb hx=>?_,λ b o e n hb hx=>?_,I.base.free,λ b o e hx=>?_,I.base.tups,I.base.frzs,I.base.tbls⟩,⟨_,hn',λ i y w' e1 e2 e3=>?_⟩,λ y c e=>?_,I.free,I.freeC,λ p hp=>?_,λ b ob e=>?_,by simpa using I.len⟩
 . exact(hs.2 b (ap b o e)).trans (I.base.keep b o e n hb hx)
 . obtain⟨sl,q⟩:=I.base.slot b o e n hb hx
   exact⟨sl,(hs.2 b (ap b o e)).trans q⟩
 . obtain⟨o',q⟩:=I.base.there b o e hx
   exact⟨o',(hs.2 b (ap b o e)).trans q⟩
 . have ij:i≠j:=λ z=>by
     subst z;by_cases hi:i < σ.length
     . rw[zB9 hi] at e2;cases e2
     rw[List.getElem?_eq_none (by rw[List.length_set];lia)] at e2;cases e2
   rw[zB6 (Ne.symm ij)] at e2;obtain⟨u',r',q⟩:=hl i y w' e1 e2 e3;refine⟨u',r',?_⟩;rcases q with⟨k,e⟩ | ⟨k,c,e,z⟩
   . refine .inl ⟨k,?_⟩
     have:y≠x:=λ e=>ij (qB7 hN e1 (e ▸ hj))
     simp[this,e]
   exact .inr ⟨k,c,e,z.sameBut hs (cne y c e)⟩
 . obtain⟨w',z⟩:=I.cell y c e
   exact⟨w',z.sameBut hs (cne y c e)⟩
 . obtain⟨e,n,ne,nf,d⟩:=I.pin p hp
   exact⟨(hs.2 p.1 ne).trans e,n,ne,nf,d⟩
 refine(I.hok b ob e).stay (λ c w' hc q=>(hs.2 c ?_).trans q) (λ _ q=>q) λ _ _ q=>q
 rintro rfl;rcases hc with rfl | hc
 . rw[I.free] at e;cases e
 rw[I.free] at hc;cases hc
end
def PH(X:Cx)(hs:List ExceptHandler)(t:Addr->TS):Prop :=
 ∀(Dk:List (Addr×Obj))(s:Shared)(σ:St)(H:Hp)(D:B6)(a:Addr)(n:Nat),Inv X Dk σ H s->Fly n H s.heap a->Old X Dk n->t a D σ H->wpAny (model X.prog X.w) X.A (handleBy (.ref a) X.env hs) (SP X Dk D) X.xe s
def qaj3(j:Nat)(D:B6):B6:={ nx:=λ σ H=>D.nx (σ.set j none) H,rt:=D.rt,bk:=λ σ H=>D.bk (σ.set j none) H,ct:=λ σ H=>D.ct (σ.set j none) H }
def tHd(K:PySem.W.Frag)(C':Addr)(j:Nat)(ts tr:Addr->TS):Addr->TS:=λ a D σ H=>∃ C od b,H a=some (Ba a C od false)/\PySem.W.mroIn K C (.ref C')=some b /\
 if b=true then ts a (qaj3 j D) (σ.set j (some (.ref a))) H else tr a D σ H
section
variable{X:Cx}
theorem qav3:PH X [] (λ _ _ _ _=>False):=λ _ _ _ _ _ _ _ _ _ _ h=>h.elim
theorem ph_as(j:Nat){x y:Str}{C':Addr}{np pos:Pos}{b₀:Stmt}{suite:List Stmt}{rest:List ExceptHandler}{ts tr:Addr->TS}(hN:X.N.Nodup)(c:Exc X.K C')(hm:X.mg x=some (.ref C'))(hs:∀ a,PSs (Xh X a) (b₀::suite) (ts a))(hr:PH X rest tr)(hj:X.N[j]? = some y:=by rfl)(hk:X.env.scope.names.lookup y=some .local:=by rfl)(hg:Gl X x:=by rfl)(hd:(x == ("__debug__" : Str))=false:=by decide) :
   PH X (.ExceptHandler (some (.Name x np)) (some y) (b₀::suite) pos::rest) (tHd X.K C' j ts tr):=by
 intro Dk s σ H D a n I F O h;obtain⟨C,od,b,ea,hb,q⟩:=h;obtain⟨oe,vs,p1,p2,_⟩:=qC8 I.hok ea;refine wpAny_handleBy_cons (codeAny_handlers_test (qx0 (X:=Xh X a) I.h hg hm ?_ hd)) (by intro z;cases z);refine qV7 I.kIn c p1 p2 hb ?_;cases b with
 | false =>
   simp only[Bool.false_eq_true,if_false] at q ⊢;exact hr Dk s σ H D a n I F O q
 | true =>
   simp only[if_true] at q ⊢;refine codeAny_handlers_suite_as (qV2 I F O λ s1 I1 F1=>?_);refine qt2 (X:=Xh X a) (v:=.ref a) I1.h hN hj (.inl hk) rfl (λ s2 I2=>?_) (.inr hk);refine wpAny_mono (hs a Dk s2 (σ.set j (some (.ref a))) H (qaj3 j D) I2 q) (λ f s3 z=>?_) λ _ _ z=>z.elim
   cases f with
   | next=>obtain⟨σ',H',J,z⟩:=z;exact qG4 (J.unh I.ok) hN hj hk λ s4 J4=>⟨_,H',J4,z⟩
   | brk=>obtain⟨σ',H',J,z⟩:=z;exact qG4 (J.unh I.ok) hN hj hk λ s4 J4=>⟨_,H',J4,z⟩
   | cont=>obtain⟨σ',H',J,z⟩:=z;exact qG4 (J.unh I.ok) hN hj hk λ s4 J4=>⟨_,H',J4,z⟩
   | ret u=>obtain⟨v,σ',H',J,rv,z⟩:=z;exact qG4 (J.unh I.ok) hN hj hk λ s4 J4=>⟨v,_,H',J4,rv,z⟩
def sTry(tb:XK->TS)(th:Addr->TS):TS:=λ D σ H=>∃ E:XK,tb E D σ H/\∀ a H',E (.ref a) none H'->th a D (List.replicate σ.length none) H'
theorem qav0{body:List Stmt}{h₀:ExceptHandler}{hs:List ExceptHandler}{pos:Pos}{tb:XK->TS}{th:Addr->TS}(hb:∀ E xe pn,Lands (Xt X xe pn) E->PSs (Xt X xe pn) body (tb E))(hh:PH X (h₀::hs) th)(hst:X.stack=X.env::X.outer:=by rfl)(hfr:X.env.frame=some X.env.locals:=by rfl):PS X (.Try body (h₀::hs) [] [] pos) (sTry tb th):=by
 intro Dk s σ H D I ⟨E,q1,q2⟩;refine wpAny_Try_except ?_
 let xe:Value->Shared->Prop:=λ e s₁=>wpAny (model X.prog X.w) X.A (noteFrame e X.env) (λ _ s₂=>wpAny (model X.prog X.w) X.A (setFlight e none) (λ _ s₃=>wpAny (model X.prog X.w) X.A (handleBy e X.env (h₀::hs)) (SP X Dk D) X.xe s₃) X.xe s₂) X.xe s₁
 have hl:Lands (Xt X xe (X.pn++Dk)) E:=λ pins' σ' H' s' a n I' F O q=>by
   have J:Inv X Dk σ' H' s':=I'.unt I.ok;have O':Old X Dk n:=⟨O.st,O.loc,O.cell,λ p hp=>O.pin p (List.mem_append_left _ hp)⟩
   obtain⟨oe,vs,h1,h2,h3,h4⟩:=id F.ob;show wpAny _ _ (noteFrame _ _) _ _ s';have hfs:X.A.frames=some (X.env::X.outer):=by rw[J.ok.frames,hst]
   have hff:s'.heap.FunFrames X.base (X.env::X.outer):=by have:=J.stack;rwa[hst] at this
   refine qw9 (base:=X.base) (vs:=vs) hfs hff hfr h1 h2 h3 ?_ λ h' T L=>?_
   . rcases h4 with z | ⟨T,oT,ts,z1,_,_,z2,z3,z4,z5⟩
     . exact .inl z
     exact .inr ⟨T,oT,ts,z1,z2,z3,z4,z5⟩
   obtain⟨J2,F2⟩:=J.left (T:=T) F O' h1 h2 (by rw[hst];exact L);have J3:Inv X Dk (List.replicate σ.length none) H' { s' with heap:=h' }:=J2.weak (by rw[List.length_replicate,I.len,J2.len]) λ i v z=>by
     rw[List.getElem?_replicate] at z;split at z<;>cases z
   exact hh Dk _ _ H' D a n J3 F2 O' (q2 a H' q)
 refine wpAny_mono (hb E xe (X.pn++Dk) hl [] s σ H D I.t q1) (λ f s1 z=>?_) λ _ _ z=>z
 cases f with
 | next=>obtain⟨σ',H',J,z⟩:=z;exact wpAny_execs_nil ⟨σ',H',J.unt I.ok,z⟩
 | brk=>obtain⟨σ',H',J,z⟩:=z;exact⟨σ',H',J.unt I.ok,z⟩
 | cont=>obtain⟨σ',H',J,z⟩:=z;exact⟨σ',H',J.unt I.ok,z⟩
 | ret u=>obtain⟨v,σ',H',J,rv,z⟩:=z;exact⟨v,σ',H',J.unt I.ok,rv,z⟩
end
end L2
namespace L2
open PySem PySem.Spec PyProof.Rows PySem.SeqAt
open PySem.AutoSeq1 (wpAny_loadPart')
theorem Fun.okX{P:Program}{w:World}{K:PySem.W.Frag}{mg:Str->Option Value}{base:Heap}{x qual:Str}{st:Stmt}{f:Addr}{fd:FuncData}{N ps:List Str}{k:Nat}{sp:Sp}(F:Fun K x qual st f fd)(S:qb1 N ps (qa4 st))(len:∀ vs H Q E,sp vs H Q E->vs.length=ps.length)(hbody:∀(cdv:Value)(A:Around)(outer:List Env)(s:Shared)(H:Hp)(vs:List V)(Q:VK)(E:XK),Room k (A.deeper (envOfC qual (qa4 st) s.heap.objs.size f cdv))->sp vs H Q E ->
     ∃ t,PSs (B9 (CX1 P w) P w K mg base N qual (qa4 st) f cdv A outer s H E) (qd0 st) t/\t { nx:=λ _ H'=>Q .non H',rt:=Q } (start N vs) H):Bh P w K mg base (CX1 P w) (k+1) f fd ps sp:=by
 obtain⟨oc,od,kV,doc,pm,an,cdv,ct,osl,rfl,lk,hcd⟩:=F.ex;exact G0 lk hcd S len λ A outer s H vs Q E hr hsp=>hbody cdv A outer s H vs Q E hr hsp
theorem qu9(K:PySem.W.Frag)(C:Addr):PySem.W.kitOne K (.ref C) (.ref C)=some true:=by
 unfold PySem.W.kitOne;rw[if_pos (zBa _)]
end L2
namespace L2
open PySem PySem.Spec PyProof.Rows
section
variable{X:Cx}
def qal9:V->List V->Hp->VK->Prop:=λ x vs H Q=>∃ l xs y j z,x=.ref l/\vs=[y]/\H l=some (.lst xs)/\flatV y=true/\xs.all flatV=true/\xs[j]? = some z/\eqV z y=true/\(∀ m z',m < j->xs[m]? = some z'->eqV z' y=false)/\Q (.int (j:Nat)) H
theorem Vals.getU{xs:List V}{us:List Value}(r:Vals xs us){j:Nat}{u:Value}(h:us[j]? = some u):∃ x,xs[j]? = some x/\RelV x u:=by
 have hl:=r.length;have hj:j < us.length:=(zA5.mp h).1;obtain⟨u',hu',ru⟩:=r.get (show xs[j]? = some xs[j] by simp);rw[h] at hu';cases hu';exact⟨_,by simp,ru⟩
theorem qaf5:MtM X "list.index" qal9:=by
 intro Dk s σ H x vs v us Q I rx rv h;obtain⟨l,xs,y,j,zj,rfl,rfl,hH,fy,fs,hj,hit,hno,q⟩:=h;cases rx;obtain⟨u,rfl,ru⟩:=rv.one;obtain⟨z,its,n,r,hl,e⟩:=I.lstM hH;have hlt:j < xs.length:=(zA5.mp hj).1;have hlen:=r.length;have small:((j:Nat):Int) < 2 ^ 63 - 1:=by
   have:sizeLine < 2 ^ 62:=by decide
   lia
 have eqAt:∀ m (hm:m < its.toArray.size),∃ x,xs[m]? = some x/\eqU y its.toArray[m]=eqV x y:=λ m hm=>by
   have hm':m < its.length:=by simpa using hm
   obtain⟨x,hx,rx⟩:=r.getU (show its[m]? = some its[m] by simp);have fx:flatV x=true:=zAy.mp fs x (zBd hx);refine⟨x,hx,?_⟩
   have:=qai2 (x:=y) rx fx
   simpa using this
 have hja:j < its.toArray.size:=by simp;lia
 refine call_meets F.slot_list_index ⟨_,e,rfl⟩ F.entry_list_index (F.args_list_index_2 _ _) (SeqAt.list_indexAt l its.toArray n none #[] u (eqU y) j hja small ?_ ?_) ⟨e,λ w hw=>ql9 ru fy r fs w (by simpa using hw),⟨.int (j:Nat),H,I.tok _,⟨_,rfl⟩,q⟩⟩
 . obtain⟨x,hx,ex⟩:=eqAt j hja
   rw[hj] at hx;cases hx;rw[ex];exact hit
 intro m hm hmj;obtain⟨x,hx,ex⟩:=eqAt m hm;rw[ex];exact hno m x hmj hx
end
end L2
namespace L2
open PySem PySem.Spec PyProof.Rows PySem.SeqAt
end L2
namespace L2
open PySem PySem.Spec PyProof.Rows
def qag4:List String:=["NoneType", "bool", "int", "str", "list", "tuple", "dict"]
structure IsO(K:PySem.W.Frag)(C:Addr):Prop where
 ca:PySem.W.findIn K (.ref C) "__class__" = some (some (.builtin "object.__class__"))
 cn:PySem.W.specialIn K (.builtin "object.__class__") "__get__" = some (some (.builtin "getset_descriptor.__get__"))
 ct:PySem.W.takesIn K (.builtin "object.__class__")=some true
 cm:PySem.W.mroIn K C (.type "object")=some true
 kf:∀ t∈qag4,PySem.W.kitOne K (.type t) (.ref C)=some false
theorem kf_of{K:PySem.W.Frag}{C:Addr}(h1:PySem.W.kitOne K (.type "NoneType") (.ref C)=some false)(h2:PySem.W.kitOne K (.type "bool") (.ref C)=some false)(h3:PySem.W.kitOne K (.type "int") (.ref C)=some false)(h4:PySem.W.kitOne K (.type "str") (.ref C)=some false)(h5:PySem.W.kitOne K (.type "list") (.ref C)=some false)(h6:PySem.W.kitOne K (.type "tuple") (.ref C)=some false)(h7:PySem.W.kitOne K (.type "dict") (.ref C)=some false) :
   ∀ t∈qag4,PySem.W.kitOne K (.type t) (.ref C)=some false:=by
 intro t ht;unfold qag4 at ht;simp only[zA7,zAi,zBb] at ht;rcases ht with rfl | rfl | rfl | rfl | rfl | rfl | rfl<;>assumption
section
variable{X:Cx}
def rIsO(C:Addr):List V->Hp->VK->Prop:=λ xs H Q=>∃ x,xs=[x,.ref C]/\((∃ a dx fs,x=.ref a/\H a=some (.ins C dx fs)/\Q (.bl true) H)∨(∃ t,Bo H x=some t/\Q (.bl false) H))
theorem qai9{C:Addr}(io:IsO X.K C)(cl:Cls X.K C):CallR X (.builtin "isinstance") (rIsO C):=by
 intro Dk s σ H xs us Q I r h;obtain⟨x,rfl,h⟩:=h;obtain⟨u,w',rfl,ru,rw'⟩:=Fc r;cases rw';rcases h with⟨a,dx,fs,rfl,ha,q⟩ | ⟨t,hk,q⟩
 . have e:PySem.W.kitOne X.K (.ref C) (.ref C)=some true:=by
     unfold PySem.W.kitOne;rw[if_pos (by simp)]
   exact qv2 I ru (.ins ha cl io.ca io.cn io.ct io.cm) e λ tk=>⟨.bl true,H,I.tok tk,rfl,q⟩
 obtain⟨ty,ht⟩:=qP2 (K:=X.K) hk;exact qv2 I ru ty (io.kf t ht) λ tk=>⟨.bl false,H,I.tok tk,rfl,q⟩
theorem qav6{x:Str}(C:Addr){pos:Pos}(hm:X.mg x=some (.ref C))(hg:Gl X x:=by rfl)(hd:(x == ("__debug__" : Str))=false:=by decide):PE X (.Name x pos) (tC (.ref C)):=qN2 hg hm rfl hd
end
end L2
namespace Row
variable{s t:Nat}
def dist(n h r:Nat):Nat:=if h<=r then r - h else r+n - h
theorem qx6{n a r:Nat}(h:r < n)(ha:a < n):dist n a r < n:=by unfold dist;split<;>lia
theorem qW1{n a r:Nat}(ha:a < n)(h:r < n):dist n a r=0↔r=a:=by unfold dist;split<;>lia
theorem dor(n a r:Nat):(a<=r/\dist n a r+a=r)∨(r < a/\(a<=r+n->dist n a r+a=r+n)):=by
 unfold dist;split<;>lia
section
variable{n:Nat}{hm:Int->Nat}{e:Nat}{g:Nat->Option Int}
theorem way{x:Int}{j:Nat}(hx:hm x < n)(hj:j < n)(he:e < n)(ge:g e=none)(hw:∀ i,i < n->dist n (hm x) i<=dist n (hm x) j->∃ y,g i=some y):dist n (hm x) j+1 < n:=by
 have h1:=qx6 hj hx;have h2:=qx6 he hx;by_cases h:dist n (hm x) e<=dist n (hm x) j
 . obtain⟨y,q⟩:=hw e he h
   rw[ge] at q;cases q
 lia
end
def rot(n s t:Nat):Nat:=if s+t < n then s+t else s+t - n
theorem qau4{n:Nat}(hs:s < n)(ht:t < n):rot n s t < n:=by unfold rot;split<;>lia
theorem qQ8{n:Nat}(hs:s < n)(ht:t < n):dist n s (rot n s t)=t:=by
 have d:=dor n s (rot n s t);unfold rot at d ⊢;split at d<;>split<;>lia
theorem qA7{n i:Nat}(hs:s < n)(hi:i < n):rot n s (dist n s i)=i:=by
 have d:=dor n s i;unfold rot
 split<;>lia
theorem qX7{n:Nat}(hs:s < n)(ht:t < n):(s+t) % n=rot n s t:=by
 unfold rot;split
 . exact Nat.mod_eq_of_lt (by assumption)
 rw[Nat.mod_eq_sub_mod (by lia)];exact Nat.mod_eq_of_lt (by lia)
end Row
namespace My
open PySem L2
def bagL(x y z:Int)(L:Addr):HO:=.lst [.int x,.int y,.int z,.ref L]
structure BagAt(H:Hp)(p:Addr)(x y z:Int)(L:Addr)(ns:List Int):Prop where
 at_:H p=some (bagL x y z L)
 li:H L=some (.lst (ns.map V.int))
 x0:0<=x
 y0:0<=y
 y1:y < 2147483647
 z0:0<=z
 nn:∀ n∈ns,0<=n
def Bag(H:Hp)(p L:Addr):Prop:=∃ x y z ns,BagAt H p x y z L ns
theorem qaA9{L:Addr}{x y z:Int}{ns:List Int}:HO.lst (ns.map V.int)≠bagL x y z L:=by
 intro e;have e:ns.map V.int=[.int x,.int y,.int z,.ref L]:=HO.lst.inj e;have e:=congrArg (·[3]?) e;rw[zBe] at e;cases h:ns[3]? <;> rw[h] at e<;>cases e
theorem BagAt.ne{H:Hp}{p L:Addr}{x y z:Int}{ns:List Int}(B:BagAt H p x y z L ns):L≠p:=ne_of B.li B.at_ qaA9
def qau2(K:PySem.W.Frag):Sp:=λ vs H Q _=>∃(l:Addr)(ns:List Int),vs=[.ref l]/\SqL K H l (ns.map V.int)/\ns.length<=63 /\
 ∀ p L H',H p=none->H L=none->Same H H'->Bag H' p L->Q (.ref p) H'
def F7(K:PySem.W.Frag):Sp:=λ vs H Q _=>∃(l:Addr)(ns:List Int),vs=[.ref l]/\SqL K H l (ns.map V.int)/\ns.length<=63/\∀ H',Q (.bl true) H'
abbrev Pr:=List (Int×Int)
def A6(n:Int):Prop:=0<=n/\n<=1000000000000000000
structure qK1(ps:Pr):Prop where
 len:ps.length<=64
 nd:(ps.map (·.1)).Nodup
 nums:∀ p∈ps,A6 p.1/\A6 p.2
def qC5(n:Int)(ps:Pr)(k:Int):Int:=((ps.lookup k).getD k) % n
theorem qaa0{n:Int}(h:1<=n)(ps:Pr)(k:Int):0<=qC5 n ps k/\qC5 n ps k < n:=⟨zBo _ (by lia),zBk _ (by lia)⟩
def qn4(k:Int):Prop:=(0<=k/\k<=70000000000000000)∨(999999999999999000<=k/\k<=1000000000000000000)
theorem qn4.num{k:Int}(h:qn4 k):A6 k:=by rcases h with h | h<;>exact⟨by lia,by lia⟩
theorem qP6(k:Int)(ks:List Int):inV (.int k) (ks.map V.int)=decide (k∈ks):=by
 unfold inV;rw[List.any_map,Bool.eq_iff_iff,List.any_eq_true,zBm];constructor
 . rintro⟨x,hx,e⟩
   have e:(x == k)=true:=e;rw[<- zBg.mp e];exact hx
 intro h;exact⟨k,h,zBa k⟩
structure Drawn(ks:List Int)(ps:Pr):Prop where
 len:ps.length<=14
 nd:(ps.map (·.1)).Nodup
 key:∀ q∈ps,q.1∈ks∨(300000000000000000<=q.1/\q.1<=300000000000000200)
 num:∀ q∈ps,qn4 q.2
theorem Drawn.good{ks:List Int}{ps:Pr}(D:Drawn ks ps)(h:∀ k∈ks,qn4 k):qK1 ps:=by
 refine⟨by have:=D.len;lia,D.nd,λ q hq=>⟨?_,(D.num q hq).num⟩⟩;rcases D.key q hq with z | z
 . exact(h _ z).num
 exact⟨by lia,by lia⟩
end My
namespace My
open PySem L2
open Row
def hmOf(n:Int)(ps:Pr)(k:Int):Nat:=(qC5 n ps k).toNat
theorem hm_lt{n:Int}{ps:Pr}(h:1<=n)(k:Int):hmOf n ps k < n.toNat:=by
 have:=qaa0 h ps k
 unfold hmOf;lia
theorem qaa1{n:Int}{ps:Pr}(h:1<=n)(k:Int):((hmOf n ps k:Nat):Int)=qC5 n ps k:=by
 have:=qaa0 h ps k
 unfold hmOf;lia
end My
namespace LV
open PySem L2
variable{Ael Ao:List Addr}{E:B6}{N:List Str}{P:Program}{Q:VK}{base:Heap}{i j n:Nat}{kvs:List (Key×V)}{lo:Int}{mg:Str->Option Value}{op:CmpOp}{v w:V}{vs:List V}{z:Bool}{α:Type}{σ':St}
inductive D where
 | non | bl (b:Bool) | int (i:Int) | str (x:Str) | ty (n:String) | adr (a:Addr)
 | tup (ds:List D) | lst (z:Bool) (ds:List D) | dct (z:Bool) (kvs:List (Key×D)) | ins (z:Bool) (C:Addr) (fs:List (Str×D))
 | scr (ns:List Int)
 | hole (v:V) | unk
mutual
def D.imm:D->Bool
 | .tup ds=>D.imms ds
 | .lst z _=>z
 | .dct z _=>z
 | .ins z _ _=>z
 | _=>true
def D.imms:List D->Bool
 | []=>true
 | d::r=>d.imm&&D.imms r
end
mutual
def D.fz:D->D
 | .tup ds=>.tup (D.fzs ds)
 | .lst _ ds=>.lst true (D.fzs ds)
 | .dct _ kvs=>.dct true (D.fzk kvs)
 | .ins _ C fs=>.ins true C (D.fzf fs)
 | .non=>.non | .bl b=>.bl b | .int i=>.int i | .str x=>.str x | .ty n=>.ty n | .adr a=>.adr a | .scr ns=>.scr ns | .hole v=>.hole v | .unk=>.unk
def D.fzs:List D->List D
 | []=>[]
 | d::r=>d.fz::D.fzs r
def D.fzk:List (Key×D)->List (Key×D)
 | []=>[]
 | (k,d)::r=>(k,d.fz)::D.fzk r
def D.fzf:List (Str×D)->List (Str×D)
 | []=>[]
 | (k,d)::r=>(k,d.fz)::D.fzf r
end
mutual
inductive Rep(F:Addr->Prop)(H:Hp):V->D->List Addr->Prop
 | non:Rep F H .non .non []
 | bl (b:Bool):Rep F H (.bl b) (.bl b) []
 | int (i:Int):Rep F H (.int i) (.int i) []
 | str (x:Str):Rep F H (.str x) (.str x) []
 | ty (n:String):Rep F H (.ty n) (.ty n) []
 | adr (a:Addr):Rep F H (.ref a) (.adr a) []
 | tup {a:Addr} {vs:List V} {ds:List D} {A:List Addr} (h:H a=some (.tup vs)) (r:Reps F H vs ds A):Rep F H (.ref a) (.tup ds) A
 | lst {a:Addr} {vs:List V} {ds:List D} {A:List Addr} (h:H a=some (.lst vs)) (r:Reps F H vs ds A):Rep F H (.ref a) (.lst false ds) (a::A)
 | lstZ {a:Addr} {vs:List V} {ds:List D} (h:H a=some (.lst vs)) (f:F a) (r:Reps F H vs ds []):Rep F H (.ref a) (.lst true ds) []
 | dct {a:Addr} {kvs:List (Key×V)} {kds:List (Key×D)} {A:List Addr} (h:H a=some (.dK kvs)) (e:kvs.map (·.1)=kds.map (·.1)) (r:Reps F H (kvs.map (·.2)) (kds.map (·.2)) A):Rep F H (.ref a) (.dct false kds) (a::A)
 | dctZ {a:Addr} {kvs:List (Key×V)} {kds:List (Key×D)} (h:H a=some (.dK kvs)) (f:F a) (e:kvs.map (·.1)=kds.map (·.1)) (r:Reps F H (kvs.map (·.2)) (kds.map (·.2)) []):Rep F H (.ref a) (.dct true kds) []
 | ins {a C dx:Addr} {fvs:List (Str×V)} {fds:List (Str×D)} {A:List Addr} (h:H a=some (.ins C dx fvs)) (e:fvs.map (·.1)=fds.map (·.1)) (r:Reps F H (fvs.map (·.2)) (fds.map (·.2)) A):Rep F H (.ref a) (.ins false C fds) (a::A)
 | insZ {a C dx:Addr} {fvs:List (Str×V)} {fds:List (Str×D)} (h:H a=some (.ins C dx fvs)) (f:F a) (e:fvs.map (·.1)=fds.map (·.1)) (r:Reps F H (fvs.map (·.2)) (fds.map (·.2)) []):Rep F H (.ref a) (.ins true C fds) []
 | scr {a:Addr} {o:Obj} {ns:List Int} (h:H a=some (.frz o (.lst (ns.map V.int)))):Rep F H (.ref a) (.scr ns) []
 | hole (v:V):Rep F H v (.hole v) []
 | unk (v:V):Rep F H v .unk []
inductive Reps(F:Addr->Prop)(H:Hp):List V->List D->List Addr->Prop
 | nil:Reps F H [] [] []
 | cons {v:V} {d:D} {A:List Addr} {vs:List V} {ds:List D} {B:List Addr} (h:Rep F H v d A) (t:Reps F H vs ds B):Reps F H (v::vs) (d::ds) (A++B)
end
def B7:HO->Bool
 | .lst _=>true
 | .dK _=>true
 | .ins _ _ _=>true
 | _=>false
section
variable{F F':Addr->Prop}{H H':Hp}
def Cel(H:Hp)(A:List Addr):Prop:=∀ b∈A,∃ o,H b=some o/\B7 o=true
theorem Cel.cons{A:List Addr}{a:Addr}{o:HO}(e:H a=some o)(m:B7 o=true)(h:Cel H A):Cel H (a::A):=λ b hb=>(zA7.mp hb).elim (λ q=>q ▸ ⟨_,e,m⟩) (h b)
theorem Cel.app{A B:List Addr}(h:Cel H A)(g:Cel H B):Cel H (A++B):=λ b hb=>(zAd.mp hb).elim (h b) (g b)
theorem Rep.cells{v:V}{d:D}{A:List Addr}(r:Rep F H v d A):Cel H A:=by
 induction r using Rep.rec (motive_2:=λ _ _ A _=>Cel H A) with
 | tup e r i=>exact i
 | lst e r i=>exact Cel.cons e rfl i
 | dct e _ r i=>exact Cel.cons e rfl i
 | ins e _ r i=>exact Cel.cons e rfl i
 | cons _ _ i j=>exact Cel.app i j
 | _=>nofun
theorem Reps.cells{vs:List V}{ds:List D}{A:List Addr}(r:Reps F H vs ds A):Cel H A:=by
 induction r using Reps.rec (motive_1:=λ _ _ _ _=>True) with
 | cons h _ i j=>exact Cel.app h.cells j
 | nil=>nofun
 | _=>trivial
structure Kp(F:Addr->Prop)(H:Hp)(W F':Addr->Prop)(H':Hp):Prop where
 fr:∀ b o,H b=some o->¬ W b->H' b=some o
 wm:∀ b,W b->∃ o,H b=some o/\B7 o=true
 wf:∀ b,W b->¬ F b
 mF:∀ b,F b->F' b
theorem Kp.tup{W:Addr->Prop}(k:Kp F H W F' H'){a:Addr}{vs:List V}(h:H a=some (.tup vs)):H' a=some (.tup vs):=by
 refine k.fr a _ h λ w=>?_
 obtain⟨o,e,m⟩:=k.wm a w;rw[h] at e;cases e;cases m
theorem Kp.frz{W:Addr->Prop}(k:Kp F H W F' H'){a:Addr}{o:Obj}{u:HO}(h:H a=some (.frz o u)):H' a=some (.frz o u):=by
 refine k.fr a _ h λ w=>?_
 obtain⟨o,e,m⟩:=k.wm a w;rw[h] at e;cases e;cases m
theorem Rep.keep{W:Addr->Prop}(k:Kp F H W F' H'){v:V}{d:D}{A:List Addr}(r:Rep F H v d A):(∀ b∈A,¬ W b)->Rep F' H' v d A:=by
 induction r using Rep.rec (motive_2:=λ vs ds A _=>(∀ b∈A,¬ W b)->Reps F' H' vs ds A) with
 | tup e r i=>exact λ h=>.tup (k.tup e) (i h)
 | lst e r i=>exact λ h=>.lst (k.fr _ _ e (zAs.mp h).1) (i (zAs.mp h).2)
 | lstZ e f r i=>exact λ h=>.lstZ (k.fr _ _ e λ w=>k.wf _ w f) (k.mF _ f) (i h)
 | dct e q r i=>exact λ h=>.dct (k.fr _ _ e (zAs.mp h).1) q (i (zAs.mp h).2)
 | dctZ e f q r i=>exact λ h=>.dctZ (k.fr _ _ e λ w=>k.wf _ w f) (k.mF _ f) q (i h)
 | ins e q r i=>exact λ h=>.ins (k.fr _ _ e (zAs.mp h).1) q (i (zAs.mp h).2)
 | insZ e f q r i=>exact λ h=>.insZ (k.fr _ _ e λ w=>k.wf _ w f) (k.mF _ f) q (i h)
 | scr e=>exact λ _=>.scr (k.frz e)
 | cons _ _ i j h=>exact Reps.cons (i (zB2.mp h).1) (j (zB2.mp h).2)
 | nil=>constructor
 | _=>intro;constructor
theorem Reps.keep{W:Addr->Prop}(k:Kp F H W F' H'){vs:List V}{ds:List D}{A:List Addr}(r:Reps F H vs ds A):(∀ b∈A,¬ W b)->Reps F' H' vs ds A:=by
 induction r using Reps.rec (motive_1:=λ _ _ _ _=>True) with
 | nil=>exact λ _=>Reps.nil
 | cons r _ i j=>exact λ h=>Reps.cons (r.keep k (zB2.mp h).1) (j (zB2.mp h).2)
 | _=>trivial
theorem Kp.same(s:Same H H'):Kp F H (λ _=>False) F H':=⟨λ b o e _=>s b o e,λ _ w=>w.elim,λ _ w=>w.elim,λ _ f=>f⟩
theorem Rep.same{d:D}{A:List Addr}(r:Rep F H v d A)(s:Same H H'):Rep F H' v d A:=r.keep (Kp.same s) λ _ _=>id
theorem Reps.same{ds:List D}{A:List Addr}(r:Reps F H vs ds A)(s:Same H H'):Reps F H' vs ds A:=r.keep (Kp.same s) λ _ _=>id
theorem Kp.more(m:∀ b,F b->F' b):Kp F H (λ _=>False) F' H:=⟨λ b o e _=>e,λ _ w=>w.elim,λ _ w=>w.elim,m⟩
mutual
theorem Rep.imm{v:V}{d:D}{A:List Addr}(r:Rep F H v d A)(h:d.imm=true):A=[]:=by
 cases r with
 | tup e r=>exact r.imms h
 | lst=>cases h
 | dct=>cases h
 | ins=>cases h
 | _=>rfl
theorem Reps.imms{vs:List V}{ds:List D}{A:List Addr}(r:Reps F H vs ds A)(h:D.imms ds=true):A=[]:=by
 cases r with
 | nil=>rfl
 | cons r t =>
   have h:=zA3.mp h;rw[r.imm h.1,t.imms h.2];rfl
end
theorem qG5(kds:List (Key×D)):(D.fzk kds).map (·.1)=kds.map (·.1)/\(D.fzk kds).map (·.2)=D.fzs (kds.map (·.2)):=by
 induction kds with
 | nil=>exact⟨rfl,rfl⟩
 | cons p r ih=>obtain⟨k,d⟩:=p;simp only[D.fzk,D.fzs,zAu,ih.1,ih.2,and_self]
theorem qG6(kds:List (Str×D)):(D.fzf kds).map (·.1)=kds.map (·.1)/\(D.fzf kds).map (·.2)=D.fzs (kds.map (·.2)):=by
 induction kds with
 | nil=>exact⟨rfl,rfl⟩
 | cons p r ih=>obtain⟨k,d⟩:=p;simp only[D.fzf,D.fzs,zAu,ih.1,ih.2,and_self]
theorem Rep.fz{v:V}{d:D}{A:List Addr}(r:Rep F H v d A)(m:∀ b,F b->F' b):(∀ b∈A,F' b)->Rep F' H v d.fz []:=by
 induction r using Rep.rec (motive_2:=λ vs ds A _=>(∀ b∈A,F' b)->Reps F' H vs (D.fzs ds) []) with
 | tup e r i=>exact λ h=>.tup e (i h)
 | lst e r i=>exact λ h=>.lstZ e (zAs.mp h).1 (i (zAs.mp h).2)
 | lstZ e f r i=>exact λ h=>.lstZ e (m _ f) (i h)
 | dct e q r i=>exact λ h=>.dctZ e (zAs.mp h).1 (q.trans (qG5 _).1.symm) ((qG5 _).2 ▸ i (zAs.mp h).2)
 | dctZ e f q r i=>exact λ h=>.dctZ e (m _ f) (q.trans (qG5 _).1.symm) ((qG5 _).2 ▸ i h)
 | ins e q r i=>exact λ h=>.insZ e (zAs.mp h).1 (q.trans (qG6 _).1.symm) ((qG6 _).2 ▸ i (zAs.mp h).2)
 | insZ e f q r i=>exact λ h=>.insZ e (m _ f) (q.trans (qG6 _).1.symm) ((qG6 _).2 ▸ i h)
 | scr e=>exact λ _=>.scr e
 | nil=>exact Reps.nil
 | cons _ _ i j h=>exact Reps.cons (A:=[]) (B:=[]) (i (zB2.mp h).1) (j (zB2.mp h).2)
 | _=>intro;constructor
theorem Reps.fz{vs:List V}{ds:List D}{A:List Addr}(r:Reps F H vs ds A)(m:∀ b,F b->F' b):(∀ b∈A,F' b)->Reps F' H vs (D.fzs ds) []:=by
 induction r using Reps.rec (motive_1:=λ _ _ _ _=>True) with
 | nil=>exact λ _=>Reps.nil
 | cons r _ i j=>exact λ h=>Reps.cons (A:=[]) (B:=[]) (r.fz m (zB2.mp h).1) (j (zB2.mp h).2)
 | _=>trivial
end
theorem ec:∀{us:List Value},us.length=n+1->∃ a vs,us=a::vs/\vs.length=n
 | a::vs,h=>⟨a,vs,rfl,Nat.succ.inj h⟩
inductive Locs(F:Addr->Prop)(H:Hp):List (Option V)->List D->List Addr->Prop
 | nil:Locs F H [] [] []
 | no {σ:List (Option V)} {ds:List D} {A:List Addr} (t:Locs F H σ ds A):Locs F H (none::σ) (.unk::ds) A
 | so {v:V} {d:D} {B:List Addr} {σ:List (Option V)} {ds:List D} {A:List Addr} (h:Rep F H v d B) (t:Locs F H σ ds A):Locs F H (some v::σ) (d::ds) (B++A)
section
variable{F F':Addr->Prop}{H H':Hp}
theorem Locs.cells{σ:List (Option V)}{ds:List D}{A:List Addr}(r:Locs F H σ ds A):∀ b∈A,∃ o,H b=some o/\B7 o=true:=by
 induction r with
 | nil=>intro b h;cases h
 | no t ih=>exact ih
 | so h t ih =>
   intro b hb;rcases zAd.mp hb with hb | hb
   . exact h.cells b hb
   exact ih b hb
theorem Locs.keep{W:Addr->Prop}(k:Kp F H W F' H'){σ:List (Option V)}{ds:List D}{A:List Addr}(r:Locs F H σ ds A):(∀ b∈A,¬ W b)->Locs F' H' σ ds A:=by
 induction r with
 | nil=>exact λ _=>.nil
 | no t ih=>exact λ h=>.no (ih h)
 | so h t ih=>exact λ q=>.so (h.keep k λ b hb=>q b (zAd.mpr (.inl hb))) (ih λ b hb=>q b (zAd.mpr (.inr hb)))
theorem Locs.same{σ:List (Option V)}{ds:List D}{A:List Addr}(r:Locs F H σ ds A)(s:Same H H'):Locs F H' σ ds A:=r.keep (Kp.same s) λ _ _=>id
theorem Locs.len{σ:List (Option V)}{ds:List D}{A:List Addr}(r:Locs F H σ ds A):σ.length=ds.length:=by
 induction r with
 | nil=>rfl
 | no t ih=>simp[ih]
 | so h t ih=>simp[ih]
theorem Locs.append{σ τ:List (Option V)}{ds es:List D}{A B:List Addr}(r:Locs F H σ ds A)(t:Locs F H τ es B):Locs F H (σ++τ) (ds++es) (A++B):=by
 induction r with
 | nil=>exact t
 | no _ ih=>exact .no ih
 | so h _ ih=>rw[zB0];exact .so h ih
inductive F8(F:Addr->Prop)(H:Hp):Option V->D->List Addr->Prop
 | no:F8 F H none .unk []
 | so {v:V} {d:D} {B:List Addr} (h:Rep F H v d B):F8 F H (some v) d B
theorem Locs.cons{o:Option V}{d:D}{B:List Addr}{σ:List (Option V)}{ds:List D}{A:List Addr}(h:F8 F H o d B)(t:Locs F H σ ds A):Locs F H (o::σ) (d::ds) (B++A):=by
 cases h with
 | no=>exact .no t
 | so h=>exact .so h t
theorem Locs.split:∀{ds:List D}{σ:List (Option V)}{A:List Addr}{i:Nat}{d:D},Locs F H σ ds A->ds[i]? = some d ->
   ∃ σ1 o σ2 ds1 ds2 A1 B A2,σ=σ1++o::σ2/\ds=ds1++d::ds2/\σ1.length=i/\ds1.length=i/\A=A1++(B++A2)/\Locs F H σ1 ds1 A1/\F8 F H o d B/\Locs F H σ2 ds2 A2:=by
 intro ds
 induction ds with
 | nil=>intro σ A i d _ h;simp at h
 | cons e r ih =>
   intro σ A i d L h;cases i with
   | zero =>
     have:e=d:=by simpa using h
     subst this;cases L with
     | no t=>exact⟨[],none,_,[],_,[],[],_,rfl,rfl,rfl,rfl,rfl,.nil,.no,t⟩
     | so q t=>exact⟨[],some _,_,[],_,[],_,_,rfl,rfl,rfl,rfl,rfl,.nil,.so q,t⟩
   | succ i =>
     have h:r[i]? = some d:=by simpa using h
     cases L with
     | no t =>
       obtain⟨σ1,o,σ2,ds1,ds2,A1,B,A2,e1,e2,e3,e4,e5,l1,l2,l3⟩:=ih t h;exact⟨none::σ1,o,σ2,_::ds1,ds2,A1,B,A2,by rw[e1];rfl,by rw[e2];rfl,by simp[e3],by simp[e4],e5,.no l1,l2,l3⟩
     | @so v _ B0 _ _ A0 q t =>
       obtain⟨σ1,o,σ2,ds1,ds2,A1,B,A2,e1,e2,e3,e4,e5,l1,l2,l3⟩:=ih t h;exact⟨some v::σ1,o,σ2,_::ds1,ds2,B0++A1,B,A2,by rw[e1];rfl,by rw[e2];rfl,by simp[e3],by simp[e4],by rw[e5,zB0],.so q l1,l2,l3⟩
end
theorem qk1{l1 l2:List α}{x y:α}(h:l1.length=i):(l1++x::l2).set i y=l1++y::l2:=by
 subst h;rw[List.set_append_right _ _ (zA8 _),Nat.sub_self];rfl
theorem qs9{l1 l2:List α}{x:α}(h:l1.length=i):(l1++x::l2)[i]? = some x:=by
 subst h;simp
structure Ok(F:Addr->Prop)(H:Hp)(A:List Addr):Prop where
 sep:∀ b,A.count b<=1
 fro:∀ b,F b->A.count b=0
 ex:∀ b,F b->∃ o,H b=some o
structure Stp(F:Addr->Prop)(H:Hp)(A:List Addr)(F':Addr->Prop)(H':Hp)(A':List Addr):Prop where
 fr:∀ b o,H b=some o->A.count b=0->H' b=some o
 sub:∀ b o,H b=some o->A.count b=0->A'.count b=0
 mono:∀ b,F b->F' b
 fnew:∀ b o,H b=some o->A.count b=0->F' b->F b
section
variable{F F1 F2:Addr->Prop}{H H1 H2:Hp}{A A1 A2 T:List Addr}
theorem Stp.refl:Stp F H A F H A:=⟨λ _ _ e _=>e,λ _ _ _ e=>e,λ _ f=>f,λ _ _ _ _ f=>f⟩
theorem Stp.trans(s:Stp F H A F1 H1 A1)(t:Stp F1 H1 A1 F2 H2 A2):Stp F H A F2 H2 A2 :=
 ⟨λ b o e q=>t.fr b o (s.fr b o e q) (s.sub b o e q),λ b o e q=>t.sub b o (s.fr b o e q) (s.sub b o e q),λ b f=>t.mono b (s.mono b f),λ b o e q f=>s.fnew b o e q (t.fnew b o (s.fr b o e q) (s.sub b o e q) f)⟩
theorem Stp.same(s:Same H H1):Stp F H A F H1 A:=⟨λ b o e _=>s b o e,λ _ _ _ e=>e,λ _ f=>f,λ _ _ _ _ f=>f⟩
theorem qa9{b:Addr}{A:List Addr}:b∈A↔A.count b≠0:=by
 rw[<- List.count_pos_iff];lia
theorem Stp.kp(s:Stp F H A F1 H1 A1)(o:Ok F H A)(c:∀ b∈A,∃ o,H b=some o/\B7 o=true):Kp F H (λ b=>A.count b≠0) F1 H1 :=
 ⟨λ b u e w=>s.fr b u e (by lia),λ b w=>c b (qa9.mpr w),λ b w f=>w (o.fro b f),s.mono⟩
theorem Ok.left(o:Ok F H (T++A)):Ok F H T:=⟨λ b=>by have:=o.sep b;rw[zA0] at this;lia,λ b f=>by have:=o.fro b f;rw[zA0] at this;lia,o.ex⟩
theorem Ok.right(o:Ok F H (T++A)):Ok F H A:=⟨λ b=>by have:=o.sep b;rw[zA0] at this;lia,λ b f=>by have:=o.fro b f;rw[zA0] at this;lia,o.ex⟩
theorem Ok.count(o:Ok F H A)(h:∀ b,A1.count b<=A.count b):Ok F H A1:=⟨λ b=>zAm (h b) (o.sep b),λ b f=>by have:=o.fro b f;have:=h b;lia,o.ex⟩
theorem Stp.frame(s:Stp F H A F1 H1 A1)(o:Ok F H (T++A))(c:∀ b∈T,∃ o,H b=some o/\B7 o=true)(o1:Ok F1 H1 A1):Ok F1 H1 (T++A1)/\Stp F H (T++A) F1 H1 (T++A1):=by
 have key:∀ b,T.count b≠0->∃ u,H b=some u/\A.count b=0:=λ b h=>by
   obtain⟨u,e,_⟩:=c b (qa9.mpr h)
   have:=o.sep b
   rw[zA0] at this;exact⟨u,e,by lia⟩
 refine⟨⟨λ b=>?_,λ b f=>?_,o1.ex⟩,λ b u e q=>?_,λ b u e q=>?_,s.mono,λ b u e q f=>?_⟩
 . rw[zA0]
   by_cases h:T.count b=0
   . have:=o1.sep b;lia
   obtain⟨u,e,q⟩:=key b h;have h1:=s.sub b u e q
   have:=o.sep b
   rw[zA0] at this;lia
 . rw[zA0,o1.fro b f]
   by_cases h:T.count b=0
   . lia
   obtain⟨u,e,q⟩:=key b h
   have:=o.fro b (s.fnew b u e q f)
   rw[zA0] at this;lia
 . rw[zA0] at q;exact s.fr b u e (by lia)
 . rw[zA0] at q ⊢;have:=s.sub b u e (by lia);lia
 rw[zA0] at q;exact s.fnew b u e (by lia) f
theorem Stp.count(s:Stp F H A F1 H1 A1)(h:∀ b,A2.count b<=A1.count b):Stp F H A F1 H1 A2:=⟨s.fr,λ b o e q=>by have:=s.sub b o e q;have:=h b;lia,s.mono,s.fnew⟩
theorem Stp.pre(s:Stp F H A F1 H1 A1)(h:∀ b,A.count b=A2.count b):Stp F H A2 F1 H1 A1:=⟨λ b o e q=>s.fr b o e (by rw[h];exact q),λ b o e q=>s.sub b o e (by rw[h];exact q),s.mono,λ b o e q f=>s.fnew b o e (by rw[h];exact q) f⟩
end
structure New(H:Hp)(B:List Addr):Prop where
 one:∀ b,B.count b<=1
 new:∀ b o,H b=some o->B.count b=0
section
variable{F:Addr->Prop}{H H':Hp}{A B:List Addr}
theorem New.nil:New H []:=⟨λ b=>by simp,λ b o _=>by simp⟩
theorem New.ok(n:New H B)(o:Ok F H A)(c:∀ b∈A,∃ o,H b=some o/\B7 o=true)(s:Same H H'):Ok F H' (B++A):=by
 refine⟨λ b=>?_,λ b f=>?_,λ b f=>?_⟩
 . rw[zA0]
   have h1:=n.one b;have h2:=o.sep b;by_cases h:A.count b=0
   . lia
   obtain⟨u,e,_⟩:=c b (qa9.mpr h)
   have:=n.new b u e
   lia
 . rw[zA0,o.fro b f]
   obtain⟨u,e⟩:=o.ex b f;rw[n.new b u e]
 obtain⟨u,e⟩:=o.ex b f;exact⟨u,s b u e⟩
theorem New.append{H1:Hp}{B1:List Addr}(n:New H B)(s:Same H H1)(c:∀ b∈B,∃ o,H1 b=some o/\B7 o=true)(n1:New H1 B1):New H (B++B1):=by
 refine⟨λ b=>?_,λ b o e=>?_⟩
 . rw[zA0]
   have h1:=n.one b;have h2:=n1.one b;by_cases h:B.count b=0
   . lia
   obtain⟨u,e,_⟩:=c b (qa9.mpr h)
   have:=n1.new b u e
   lia
 rw[zA0,n.new b o e,n1.new b o (s b o e)]
theorem Ok.same(o:Ok F H A)(s:Same H H'):Ok F H' A:=⟨o.sep,o.fro,λ b f=>let ⟨u,e⟩:=o.ex b f;⟨u,s b u e⟩⟩
theorem New.stp(n:New H B)(s:Same H H'):Stp F H A F H' (B++A):=⟨λ b o e _=>s b o e,λ b o e q=>by rw[zA0,n.new b o e,q],λ _ f=>f,λ _ _ _ _ f=>f⟩
end
structure Exn where
 C:Addr
 fs:List (Str×D)
def RepX(F:Addr->Prop)(H:Hp)(e:Addr)(x:Exn):Prop :=
 ∃ od,H e=some (Ba e x.C od false)/\(x.fs=[]∨∃ dx fvs,od=some dx/\H dx=some (XD dx fvs)/\fvs.map (·.1)=x.fs.map (·.1)/\Reps F H (fvs.map (·.2)) (x.fs.map (·.2)) [])
abbrev Ds:=List D
abbrev DK:=D->Ds->Prop
abbrev XKd:=Exn->Ds->Prop
abbrev VT:=Ds->DK->XKd->Prop
abbrev VTT:=Ds->(Bool->Ds->Prop)->XKd->Prop
abbrev VTA:=Ds->(Ds->Ds->Prop)->XKd->Prop
abbrev FV:=Ds->Option D
structure Vc where
 E:XK
 W:Nat->Bool
 av:List (Option V)
 gv:List (Option V)
structure Sta(c:Vc)(F:Addr->Prop)(H:Hp)(σ:St)(ds:Ds)(A:List Addr):Prop where
 loc:Locs F H (σ++c.gv) ds A
 ok:Ok F H A
 len:c.av.length=(σ++c.gv).length
 ag:∀ i,c.W i=true->(σ++c.gv)[i]? = c.av[i]?
theorem Sta.same{c:Vc}{F:Addr->Prop}{H H':Hp}{σ:St}{ds:Ds}{A:List Addr}(S:Sta c F H σ ds A)(s:Same H H'):Sta c F H' σ ds A:=⟨S.loc.same s,S.ok.same s,S.len,S.ag⟩
def Xc(c:Vc)(xe:XKd)(F:Addr->Prop)(H:Hp)(A:List Addr):Prop :=
 ∀ x ds' σ' e H' F' A',xe x ds'->RepX F' H' e x->Sta c F' H' σ' ds' A'->Stp F H A F' H' A'->c.E (.ref e) none H'
theorem Xc.step{c:Vc}{xe:XKd}{F F1:Addr->Prop}{H H1:Hp}{A A1:List Addr}(x:Xc c xe F H A)(s:Stp F H A F1 H1 A1):Xc c xe F1 H1 A1:=λ y ds' σ' e H' F' A' h r S t=>x y ds' σ' e H' F' A' h r S (s.trans t)
def kE(c:Vc)(σ:St)(F:Addr->Prop)(H:Hp)(A:List Addr)(Q:VK):DK:=λ d ds'=>∀ v H' F' T A',Rep F' H' v d T->Sta c F' H' σ ds' A'->Ok F' H' (T++A')->Stp F H A F' H' (T++A')->Q v H'
inductive LiftE(c:Vc)(t:VT)(σ:St)(H:Hp)(Q:VK):Prop
 | mk (F:Addr->Prop) (ds:Ds) (A:List Addr) (xe:XKd) (S:Sta c F H σ ds A) (x:Xc c xe F H A) (q:t ds (kE c σ F H A Q) xe):LiftE c t σ H Q
def A7(c:Vc)(t:VT):TE:=LiftE c t
inductive LiftV(c:Vc)(own:Bool)(f:FV)(σ:St)(H:Hp)(Q:VK):Prop
 | mk (F:Addr->Prop) (ds:Ds) (A:List Addr) (d:D) (S:Sta c F H σ ds A) (e:f ds=some d) (q:∀ v H' B,Rep F H' v d B->Same H H'->(own=true->New H B)->Q v H'):LiftV c own f σ H Q
def liftV(c:Vc)(own:Bool)(f:FV):TE:=LiftV c own f
inductive qat3(c:Vc)(own:Bool)(f:Ds->Option Ds)(σ:St)(H:Hp)(Q:List V->Hp->Prop):Prop
 | mk (F:Addr->Prop) (ds:Ds) (A:List Addr) (xs:Ds) (S:Sta c F H σ ds A) (e:f ds=some xs) (q:∀ vs H' B,Reps F H' vs xs B->Same H H'->(own=true->New H B)->Q vs H'):qat3 c own f σ H Q
def qap7(c:Vc)(own:Bool)(f:Ds->Option Ds):TA:=qat3 c own f
inductive qat5(c:Vc)(t:VTA)(σ:St)(H:Hp)(Q:List V->Hp->Prop):Prop
 | mk (F:Addr->Prop) (ds:Ds) (A:List Addr) (xe:XKd) (S:Sta c F H σ ds A) (x:Xc c xe F H A) (q:t ds (λ xs ds'=>∀ vs H' F' T A',Reps F' H' vs xs T->Sta c F' H' σ ds' A'->Stp F H A F' H' A'->Q vs H') xe):qat5 c t σ H Q
def qag1(c:Vc)(t:VTA):TA:=qat5 c t
inductive LiftT(c:Vc)(t:VTT)(σ:St)(H:Hp)(Q:Bool->Hp->Prop):Prop
 | mk (F:Addr->Prop) (ds:Ds) (A:List Addr) (xe:XKd) (S:Sta c F H σ ds A) (x:Xc c xe F H A) (q:t ds (λ b ds'=>∀ H' F' A',Sta c F' H' σ ds' A'->Stp F H A F' H' A'->Q b H') xe):LiftT c t σ H Q
def Bw(c:Vc)(t:VTT):TT:=LiftT c t
structure VE(c:Vc)(X:Cx)(e:Expr)(t:VT):Prop where
 h:PE X e (A7 c t)
 m:∀ ds (Q Q':DK) (xe xe':XKd),(∀ d ds',Q d ds'->Q' d ds')->(∀ x ds',xe x ds'->xe' x ds')->t ds Q xe->t ds Q' xe'
structure VV(c:Vc)(X:Cx)(e:Expr)(own:Bool)(f:FV):Prop where
 h:PE X e (liftV c own f)
structure VVs(c:Vc)(X:Cx)(es:List Expr)(own:Bool)(f:Ds->Option Ds):Prop where
 h:PA X es (qap7 c own f)
structure VOs(c:Vc)(X:Cx)(es:List Expr)(t:VTA):Prop where
 h:PA X es (qag1 c t)
 m:∀ ds (Q Q':Ds->Ds->Prop) (xe xe':XKd),(∀ d ds',Q d ds'->Q' d ds')->(∀ x ds',xe x ds'->xe' x ds')->t ds Q xe->t ds Q' xe'
structure VTe(c:Vc)(X:Cx)(e:Expr)(t:VTT):Prop where
 h:PT X e (Bw c t)
 m:∀ ds (Q Q':Bool->Ds->Prop) (xe xe':XKd),(∀ d ds',Q d ds'->Q' d ds')->(∀ x ds',xe x ds'->xe' x ds')->t ds Q xe->t ds Q' xe'
theorem PE.mono{X:Cx}{e:Expr}{t t':TE}(h:PE X e t)(i:∀ σ H Q,t' σ H Q->t σ H Q):PE X e t':=λ Dk s σ H Q I q=>h Dk s σ H Q I (i σ H Q q)
theorem PT.mono{X:Cx}{e:Expr}{t t':TT}(h:PT X e t)(i:∀ σ H Q,t' σ H Q->t σ H Q):PT X e t':=λ Dk s σ H Q I q=>h Dk s σ H Q I (i σ H Q q)
theorem PW.mono{X:Cx}{e:Expr}{t t':TT}(h:PW X e t)(i:∀ σ H Q,t' σ H Q->t σ H Q):PW X e t':=λ w Dk s σ H Q I q=>h w Dk s σ H Q I (i σ H Q q)
theorem PA.mono{X:Cx}{es:List Expr}{t t':TA}(h:PA X es t)(i:∀ σ H Q,t' σ H Q->t σ H Q):PA X es t':=λ p Dk s σ H Q I q=>h p Dk s σ H Q I (i σ H Q q)
theorem PS.mono{X:Cx}{st:Stmt}{t t':TS}(h:PS X st t)(i:∀ D σ H,t' D σ H->t D σ H):PS X st t':=λ Dk s σ H D I q=>h Dk s σ H D I (i D σ H q)
theorem PSs.mono{X:Cx}{st:List Stmt}{t t':TS}(h:PSs X st t)(i:∀ D σ H,t' D σ H->t D σ H):PSs X st t':=λ Dk s σ H D I q=>h Dk s σ H D I (i D σ H q)
def orF{α:Type}(o:Option α)(k:α->Prop):Prop:=match o with | some a=>k a | none=>False
theorem qa6{o:Option α}{k k':α->Prop}(h:∀ a,k a->k' a):orF o k->orF o k':=by
 cases o with
 | none=>exact id
 | some a=>exact h a
theorem qa7{o:Option α}{k:α->Prop}:orF o k↔∃ a,o=some a/\k a:=by
 cases o with
 | none=>exact⟨λ h=>h.elim,λ ⟨_,e,_⟩=>by cases e⟩
 | some a=>exact⟨λ h=>⟨a,rfl,h⟩,λ ⟨b,e,h⟩=>by cases e;exact h⟩
section
variable{c:Vc}{X:Cx}{e:Expr}{F:Addr->Prop}{H H':Hp}{σ:St}{ds:Ds}{A:List Addr}
theorem Sta.new{B:List Addr}(S:Sta c F H σ ds A)(n:New H B)(s:Same H H'):Ok F H' (B++A):=n.ok S.ok S.loc.cells s
def A9(f:FV):VT:=λ ds Q _=>orF (f ds) λ d=>Q d ds
def By(f:FV):VT:=λ ds Q _=>orF (f ds) λ d=>d.imm=true/\Q d ds
theorem qa3{f:FV}(h:VV c X e true f):VE c X e (A9 f):=by
 refine⟨PE.mono h.h λ σ H Q ⟨F,ds,A,xe,S,x,q⟩=>?_,λ ds Q Q' xe xe' hQ _=>qa6 λ d=>hQ d ds⟩;obtain⟨d,e,q⟩:=qa7.mp q;exact⟨F,ds,A,d,S,e,λ v H' B r s n=>q v H' F B A r (S.same s) (S.new (n rfl) s) ((n rfl).stp s)⟩
theorem qb9{own:Bool}{f:FV}(h:VV c X e own f):VE c X e (By f):=by
 refine⟨PE.mono h.h λ σ H Q ⟨F,ds,A,xe,S,x,q⟩=>?_,λ ds Q Q' xe xe' hQ _=>qa6 λ d=>And.imp_right (hQ d ds)⟩;obtain⟨d,e,hi,q⟩:=qa7.mp q;refine⟨F,ds,A,d,S,e,λ v H' B r s _=>?_⟩
 have:=r.imm hi
 subst this;exact q v H' F [] A r (S.same s) (S.ok.same s) (.same s)
theorem Fh{d:D}(h:PE X e (tC v))(r:∀ F H,Rep F H v d []):VV c X e true (λ _=>some d) :=
 ⟨PE.mono h λ σ H Q ⟨F,ds,A,d',S,e,q⟩=>by cases e;exact q v H [] (r F H) (λ _ _ z=>z) λ _=>New.nil⟩
def D.known:D->Bool
 | .unk=>false
 | .hole _=>false
 | _=>true
def rdN(i:Nat):FV:=λ ds=>match ds[i]? with
 | some d=>if d.known=true then some d else none
 | none=>none
theorem qh4{d:D}:rdN i ds=some d↔ds[i]? = some d/\d.known=true:=by
 unfold rdN;cases h:ds[i]? with
 | none=>simp
 | some x =>
   dsimp only;split
   . rename_i hk;constructor
     . intro e;cases e;exact⟨rfl,hk⟩
     rintro⟨e,_⟩;exact e
   rename_i hk;constructor
   . intro e;cases e
   rintro⟨e,h2⟩;cases e;exact absurd h2 hk
theorem Sta.at{d:D}(S:Sta c F H σ ds A)(hi:i < σ.length)(h:ds[i]? = some d)(hk:d.known=true):∃ v B,σ[i]? = some (some v)/\Rep F H v d B/\∀ b,B.count b<=A.count b:=by
 obtain⟨σ1,o,σ2,ds1,ds2,A1,B,A2,e1,e2,e3,e4,e5,l1,l2,l3⟩:=S.loc.split h;cases l2 with
 | no=>cases hk
 | @so v _ _ r =>
   refine⟨v,B,?_,r,λ b=>by rw[e5];simp only[zA0];lia⟩
   have:(σ++c.gv)[i]? = some (some v):=by rw[e1];exact qs9 e3
   rwa[zAo hi] at this
theorem qaj8{x:Str}{pos:Pos}(h:PE X (.Name x pos) (El i))(hi:∀ Dk σ H s,Inv X Dk σ H s->i < σ.length):VV c X (.Name x pos) false (rdN i):=by
 refine⟨λ Dk s σ H Q I ⟨F,ds,A,d,S,e,q⟩=>h Dk s σ H Q I ?_⟩;obtain⟨e,hk⟩:=qh4.mp e;obtain⟨v,B,h1,r,_⟩:=S.at (hi Dk σ H s I) e hk;exact⟨v,h1,q v H B r (λ _ _ z=>z) λ z=>by cases z⟩
theorem qm0{X:Cx}{x:Str}(hN:X.N[i]? = some x):∀ Dk σ H s,Inv X Dk σ H s->i < σ.length:=λ Dk σ H s I=>by
 rw[I.len];exact(zA5.mp hN).1
end
def Sub(H:Hp)(B B':List Addr):Prop:=∀ b,B'.count b<=B.count b∨(B'.count b<=1/\H b=none)
theorem Sub.new{H H1:Hp}{B B':List Addr}(s:Sub H1 B B')(n:New H B)(q:Same H H1):New H B':=by
 refine⟨λ b=>?_,λ b o e=>?_⟩
 . rcases s b with h | ⟨h,_⟩
   . have:=n.one b;lia
   exact h
 rcases s b with h | ⟨_,h⟩
 . have:=n.new b o e;lia
 rw[q b o e] at h;cases h
def OpS(nw:Bool)(r:List V->Hp->VK->Prop)(g:Ds->Option D):Prop:=∀ F H vs xs B d (Q:VK),Reps F H vs xs B->g xs=some d ->
 (∀ v H' B',Rep F H' v d B'->Same H H'->(if nw=true then New H B' else Sub H B B')->Q v H')->r vs H Q
def Av(nw:Bool)(r:R2)(g:D->D->Option D):Prop:=∀ F H v w x y B d (Q:VK),Reps F H [v,w] [x,y] B->g x y=some d ->
 (∀ v H' B',Rep F H' v d B'->Same H H'->(if nw=true then New H B' else Sub H B B')->Q v H')->r v w H Q
def f2(g:D->D->Option D)(fa fb:FV):FV:=λ ds=>(fa ds).bind λ x=>(fb ds).bind λ y=>g x y
theorem qah4{g:D->D->Option D}{fa fb:FV}{ds:Ds}{d:D}:f2 g fa fb ds=some d↔∃ x y,fa ds=some x/\fb ds=some y/\g x y=some d:=by
 unfold f2;cases ha:fa ds with
 | none=>simp
 | some x=>cases hb:fb ds with
   | none=>simp
   | some y=>simp
def f1(g:D->Option D)(fa:FV):FV:=λ ds=>(fa ds).bind g
theorem qah5{g:D->Option D}{fa:FV}{ds:Ds}{d:D}:f1 g fa ds=some d↔∃ x,fa ds=some x/\g x=some d:=by
 unfold f1;cases ha:fa ds with
 | none=>simp
 | some x=>simp
theorem E7{F:Addr->Prop}{H:Hp}{d e:D}{A B:List Addr}(r:Rep F H v d A)(s:Rep F H w e B):Reps F H [v,w] [d,e] (A++(B++[])):=.cons r (.cons s .nil)
section
variable{c:Vc}{X:Cx}{a b:Expr}{oa ob nw:Bool}{fa fb:FV}{r:R2}{g:D->D->Option D}{ta tb:VT}
theorem op_vv(h:Av nw r g):∀ σ H Q,liftV c (nw||(oa&&ob)) (f2 g fa fb) σ H Q->tOp r (liftV c oa fa) (liftV c ob fb) σ H Q:=by
 rintro σ H Q ⟨F,ds,A,d,S,e,q⟩;obtain⟨x,y,ea,eb,eg⟩:=qah4.mp e;refine⟨F,ds,A,x,S,ea,λ v H1 B1 r1 s1 n1=>⟨F,ds,A,y,S.same s1,eb,λ w H2 B2 r2 s2 n2=>?_⟩⟩;refine h F H2 v w x y _ d Q (E7 (r1.same s2) r2) eg λ u H3 B3 r3 s3 h3=>?_
 refine q u H3 B3 r3 ((s1.trans s2).trans s3) λ ho=>?_
 cases nw with
 | true=>rw[if_pos rfl] at h3;exact⟨h3.one,λ b o e=>h3.new b o (s2 b o (s1 b o e))⟩
 | false =>
   rw[if_neg (by decide)] at h3;have ho:=zA3.mp ho
   have:=(n1 ho.1).append s1 r1.cells (n2 ho.2)
   exact h3.new (by rw[zAa];exact this) (s1.trans s2)
def t2(g:D->D->Option D)(ta tb:VT):VT:=λ ds Q xe=>ta ds (λ x ds1=>tb ds1 (λ y ds2=>orF (g x y) λ d=>Q d ds2) xe) xe
theorem qX2(ha:VE c X a ta)(hb:VE c X b tb):∀ ds (Q Q':DK) (xe xe':XKd),(∀ d ds',Q d ds'->Q' d ds')->(∀ x ds',xe x ds'->xe' x ds')->t2 g ta tb ds Q xe->t2 g ta tb ds Q' xe' :=
 λ ds Q Q' xe xe' hQ hx=>ha.m _ _ _ _ _ (λ d ds1=>hb.m _ _ _ _ _ (λ d ds2=>qa6 λ z=>hQ z ds2) hx) hx
theorem op_ee(ha:VE c X a ta)(hb:VE c X b tb)(h:Av true r g):∀ σ H Q,A7 c (t2 g ta tb) σ H Q->tOp r (A7 c ta) (A7 c tb) σ H Q:=by
 rintro σ H Q ⟨F,ds,A,xe,S,x,q⟩;refine⟨F,ds,A,xe,S,x,ha.m _ _ _ _ _ (λ d1 ds1 q v H1 F1 T A1 r1 S1 o1 s1=>?_) (λ _ _ z=>z) q⟩;have s1':Stp F H A F1 H1 A1:=s1.count λ b=>by rw[zA0];lia
 refine⟨F1,ds1,A1,xe,S1,x.step s1',hb.m _ _ _ _ _ (λ d2 ds2 q w H2 F2 T2 A2 r2 S2 o2 s2=>?_) (λ _ _ z=>z) q⟩;obtain⟨d,eg,q⟩:=qa7.mp q;have s2':Stp F1 H1 A1 F2 H2 A2:=s2.count λ b=>by rw[zA0];lia
 have r1':Rep F2 H2 v d1 T:=r1.keep (s2'.kp S1.ok S1.loc.cells) λ b hb hc=>by
   have:=o1.sep b
   rw[zA0] at this
   have:=qa9.mp hb
   lia
 refine h F2 H2 v w d1 d2 _ d Q (E7 r1' r2) eg λ u H3 B3 r3 s3 n3=>?_
 rw[if_pos rfl] at n3;exact q u H3 F2 B3 A2 r3 (S2.same s3) (S2.new n3 s3) ((s1'.trans s2').trans (n3.stp s3))
def t2v(g:D->D->Option D)(ta:VT)(fb:FV):VT:=λ ds Q xe=>ta ds (λ x ds1=>orF ((fb ds1).bind (g x)) λ d=>Q d ds1) xe
theorem qab8(ha:VE c X a ta):∀ ds (Q Q':DK) (xe xe':XKd),(∀ d ds',Q d ds'->Q' d ds')->(∀ x ds',xe x ds'->xe' x ds')->t2v g ta fb ds Q xe->t2v g ta fb ds Q' xe' :=
 λ ds Q Q' xe xe' hQ hx=>ha.m _ _ _ _ _ (λ d ds1=>qa6 λ z=>hQ z ds1) hx
theorem op_ev(ha:VE c X a ta)(h:Av true r g):∀ σ H Q,A7 c (t2v g ta fb) σ H Q->tOp r (A7 c ta) (liftV c ob fb) σ H Q:=by
 rintro σ H Q ⟨F,ds,A,xe,S,x,q⟩;refine⟨F,ds,A,xe,S,x,ha.m _ _ _ _ _ (λ d1 ds1 q v H1 F1 T A1 r1 S1 o1 s1=>?_) (λ _ _ z=>z) q⟩;have s1':Stp F H A F1 H1 A1:=s1.count λ b=>by rw[zA0];lia
 obtain⟨d,eg,q⟩:=qa7.mp q;obtain⟨y,eb,eg⟩:=zA1.mp eg;refine⟨F1,ds1,A1,y,S1,eb,λ w H2 B2 r2 s2 _=>?_⟩;refine h F1 H2 v w d1 y _ d Q (E7 (r1.same s2) r2) eg λ u H3 B3 r3 s3 n3=>?_
 rw[if_pos rfl] at n3;have s23:=s2.trans s3;have n3':New H1 B3:=⟨n3.one,λ b o e=>n3.new b o (s2 b o e)⟩
 exact q u H3 F1 B3 A1 r3 (S1.same s23) (S1.new n3' s23) (s1'.trans (n3'.stp s23))
def OpS1(nw:Bool)(r:V->Hp->VK->Prop)(g:D->Option D):Prop:=∀ F H v x B d (Q:VK),Rep F H v x B->g x=some d ->
 (∀ v H' B',Rep F H' v d B'->Same H H'->(if nw=true then New H B' else Sub H B B')->Q v H')->r v H Q
def t1(g:D->Option D)(ta:VT):VT:=λ ds Q xe=>ta ds (λ x ds1=>orF (g x) λ d=>Q d ds1) xe
variable{r1:V->Hp->VK->Prop}{g1:D->Option D}
theorem op_v(h:OpS1 nw r1 g1):∀ σ H Q,liftV c (nw||oa) (f1 g1 fa) σ H Q->liftV c oa fa σ H (λ x H1=>r1 x H1 Q):=by
 rintro σ H Q ⟨F,ds,A,d,S,e,q⟩;obtain⟨x,ea,eg⟩:=qah5.mp e;refine⟨F,ds,A,x,S,ea,λ v H1 B1 r1 s1 n1=>?_⟩;refine h F H1 v x _ d Q r1 eg λ u H3 B3 r3 s3 h3=>?_
 refine q u H3 B3 r3 (s1.trans s3) λ ho=>?_
 cases nw with
 | true=>rw[if_pos rfl] at h3;exact⟨h3.one,λ b o e=>h3.new b o (s1 b o e)⟩
 | false=>rw[if_neg (by decide)] at h3;exact h3.new (n1 ho) s1
end
theorem qF5{F F1:Addr->Prop}{H H1 H3:Hp}{A A1 T B:List Addr}(o1:Ok F1 H1 (T++A1))(s1:Stp F H A F1 H1 (T++A1))(cA:∀ b∈A1,∃ o,H1 b=some o/\B7 o=true)(s3:Same H1 H3)(n3:Sub H1 T B):Ok F1 H3 (B++A1)/\Stp F H A F1 H3 (B++A1):=by
 refine⟨⟨λ b=>?_,λ b f=>?_,λ b f=>let ⟨u,e⟩:=o1.ex b f;⟨u,s3 b u e⟩⟩,λ b o e q=>s3 b o (s1.fr b o e q),λ b o e q=>?_,s1.mono,s1.fnew⟩
 . have:=o1.sep b
   rw[zA0] at this ⊢;rcases n3 b with h | ⟨h,hn⟩
   . lia
   by_cases hA:A1.count b=0
   . lia
   obtain⟨o,e,_⟩:=cA b (qa9.mpr hA);rw[e] at hn;cases hn
 . have:=o1.fro b f
   rw[zA0] at this ⊢;rcases n3 b with h | ⟨h,hn⟩
   . lia
   obtain⟨o,e⟩:=o1.ex b f;rw[e] at hn;cases hn
 have:=s1.sub b o e q
 rw[zA0] at this ⊢;rcases n3 b with h | ⟨h,hn⟩
 . lia
 rw[s1.fr b o e q] at hn;cases hn
section
variable{c:Vc}{X:Cx}{a b:Expr}{oa ob nw:Bool}{fa fb:FV}{r:R2}{g:D->D->Option D}{ta tb:VT}
theorem qaw9(ha:VE c X a ta)(hb:VE c X b tb)(h:Av false r g):∀ σ H Q,A7 c (t2 g ta tb) σ H Q->tOp r (A7 c ta) (A7 c tb) σ H Q:=by
 rintro σ H Q ⟨F,ds,A,xe,S,x,q⟩;refine⟨F,ds,A,xe,S,x,ha.m _ _ _ _ _ (λ d1 ds1 q v H1 F1 T A1 r1 S1 o1 s1=>?_) (λ _ _ z=>z) q⟩;have s1':Stp F H A F1 H1 A1:=s1.count λ b=>by rw[zA0];lia
 refine⟨F1,ds1,A1,xe,S1,x.step s1',hb.m _ _ _ _ _ (λ d2 ds2 q w H2 F2 T2 A2 r2 S2 o2 s2=>?_) (λ _ _ z=>z) q⟩;obtain⟨d,eg,q⟩:=qa7.mp q;have r1':Rep F2 H2 v d1 T:=r1.keep (s2.kp S1.ok S1.loc.cells) λ b hb hc=>by
   have:=o1.sep b
   rw[zA0] at this
   have:=qa9.mp hb
   lia
 obtain⟨o3,s3⟩:=s2.frame o1 r1.cells o2;refine h F2 H2 v w d1 d2 _ d Q (E7 r1' r2) eg λ u H3 B3 r3 s4 n3=>?_
 rw[if_neg (by decide)] at n3;rw[<- zB0] at o3 s3;obtain⟨k1,k2⟩:=qF5 o3 (s1.trans s3) S2.loc.cells s4 (by rw[zAa] at n3;exact n3);exact q u H3 F2 B3 A2 r3 (S2.same s4) k1 k2
def G9(g:D->D->Option D)(ta:VT)(fb:FV):VT:=λ ds Q xe=>ta ds (λ x ds1=>orF (fb ds1) λ y=>y.imm=true/\orF (g x y) λ d=>Q d ds1) xe
theorem qS3(ha:VE c X a ta):∀ ds (Q Q':DK) (xe xe':XKd),(∀ d ds',Q d ds'->Q' d ds')->(∀ x ds',xe x ds'->xe' x ds')->G9 g ta fb ds Q xe->G9 g ta fb ds Q' xe' :=
 λ ds Q Q' xe xe' hQ hx=>ha.m _ _ _ _ _ (λ d ds1=>qa6 λ y=>And.imp_right (qa6 λ z=>hQ z ds1)) hx
theorem qaw8(ha:VE c X a ta)(h:Av false r g):∀ σ H Q,A7 c (G9 g ta fb) σ H Q->tOp r (A7 c ta) (liftV c ob fb) σ H Q:=by
 rintro σ H Q ⟨F,ds,A,xe,S,x,q⟩;refine⟨F,ds,A,xe,S,x,ha.m _ _ _ _ _ (λ d1 ds1 q v H1 F1 T A1 r1 S1 o1 s1=>?_) (λ _ _ z=>z) q⟩;obtain⟨y,eb,hy,q⟩:=qa7.mp q;obtain⟨d,eg,q⟩:=qa7.mp q;refine⟨F1,ds1,A1,y,S1,eb,λ w H2 B2 r2 s2 _=>?_⟩
 have:=r2.imm hy
 subst this;refine h F1 H2 v w d1 y _ d Q (E7 (r1.same s2) r2) eg λ u H3 B3 r3 s3 n3=>?_
 rw[if_neg (by decide),zAa,zAa] at n3;have s23:=s2.trans s3;have n4:Sub H1 T B3:=λ b=>(n3 b).imp id λ ⟨h1,h2⟩=>⟨h1,by
   cases e:H1 b with
   | none=>rfl
   | some o=>rw[s2 b o e] at h2;cases h2⟩
 obtain⟨k1,k2⟩:=qF5 o1 s1 S1.loc.cells s23 n4;exact q u H3 F1 B3 A1 r3 (S1.same s23) k1 k2
theorem qa5:VVs c X [] true (λ _=>some []):=⟨PA.mono qn2 λ σ H Q ⟨F,ds,A,xs,S,e,q⟩=>by cases e;exact q [] H [] .nil (λ _ _ z=>z) λ _=>New.nil⟩
def Au(fa:FV)(fr:Ds->Option Ds):Ds->Option Ds:=λ ds=>(fa ds).bind λ x=>(fr ds).bind λ xs=>some (x::xs)
theorem qV4{fa:FV}{fr:Ds->Option Ds}{ds xs:Ds}:Au fa fr ds=some xs↔∃ x r,fa ds=some x/\fr ds=some r/\xs=x::r:=by
 unfold Au;cases ha:fa ds with
 | none=>simp
 | some x=>cases hb:fr ds with
   | none=>simp
   | some y=>simp[eq_comm]
theorem qa0{e:Expr}{es:List Expr}{own:Bool}{fr:Ds->Option Ds}(ha:VV c X e oa fa)(hr:VVs c X es own fr)(hs:starEach (e::es) X.env=(false,eval e X.env)::starEach es X.env):VVs c X (e::es) (oa&&own) (Au fa fr):=by
 refine⟨PA.mono (qd4 ha.h hr.h hs) λ σ H Q ⟨F,ds,A,xs,S,e,q⟩=>?_⟩;obtain⟨x,r,e1,e2,rfl⟩:=qV4.mp e;refine⟨F,ds,A,x,S,e1,λ v H1 B1 r1 s1 n1=>⟨F,ds,A,r,S.same s1,e2,λ vs H2 B2 r2 s2 n2=>?_⟩⟩;refine q (v::vs) H2 (B1++B2) (.cons (r1.same s2) r2) (s1.trans s2) λ ho=>?_
 have ho:=zA3.mp ho;exact(n1 ho.1).append s1 r1.cells (n2 ho.2)
variable{rc:List V->Hp->VK->Prop}{gc:Ds->Option D}
theorem qao4{own:Bool}{f:Ds->Option Ds}(h:OpS nw rc gc):∀ σ H Q,liftV c (nw||own) (λ ds=>(f ds).bind gc) σ H Q->tCB rc (qap7 c own f) σ H Q:=by
 rintro σ H Q ⟨F,ds,A,d,S,e,q⟩;obtain⟨xs,e1,e2⟩:=zA1.mp e;refine⟨F,ds,A,xs,S,e1,λ vs H1 B1 r1 s1 n1=>h F H1 vs xs B1 d Q r1 e2 λ u H3 B3 r3 s3 h3=>q u H3 B3 r3 (s1.trans s3) λ ho=>?_⟩;cases nw with
 | true=>rw[if_pos rfl] at h3;exact⟨h3.one,λ b o e=>h3.new b o (s1 b o e)⟩
 | false=>rw[if_neg (by decide)] at h3;exact h3.new (n1 ho) s1
def tcO(gc:Ds->Option D)(t:VTA):VT:=λ ds Q xe=>t ds (λ xs ds1=>orF (gc xs) λ d=>Q d ds1) xe
theorem qab6{es:List Expr}{t:VTA}(ha:VOs c X es t):∀ ds (Q Q':DK) (xe xe':XKd),(∀ d ds',Q d ds'->Q' d ds')->(∀ x ds',xe x ds'->xe' x ds')->tcO gc t ds Q xe->tcO gc t ds Q' xe' :=
 λ ds Q Q' xe xe' hQ hx=>ha.m _ _ _ _ _ (λ d ds1=>qa6 λ z=>hQ z ds1) hx
theorem opc_o{es:List Expr}{t:VTA}(ha:VOs c X es t)(h:OpS true rc gc):∀ σ H Q,A7 c (tcO gc t) σ H Q->tCB rc (qag1 c t) σ H Q:=by
 rintro σ H Q ⟨F,ds,A,xe,S,x,q⟩;refine⟨F,ds,A,xe,S,x,ha.m _ _ _ _ _ (λ xs ds1 q vs H1 F1 T A1 r1 S1 s1=>?_) (λ _ _ z=>z) q⟩;obtain⟨d,eg,q⟩:=qa7.mp q;refine h F1 H1 vs xs T d Q r1 eg λ u H3 B3 r3 s3 n3=>?_
 rw[if_pos rfl] at n3;exact q u H3 F1 B3 A1 r3 (S1.same s3) (S1.new n3 s3) (s1.trans (n3.stp s3))
end
def D.kids:D->List D
 | .tup ds=>ds
 | .lst false ds=>ds
 | .dct false kvs=>kvs.map (·.2)
 | .ins false _ fs=>fs.map (·.2)
 | _=>[]
def Gm{κ:Type}:List (κ×D)->Nat->D->List (κ×D)
 | [],_,_=>[]
 | (k,_)::r,0,x=>(k,x)::r
 | p::r,n+1,x=>p::Gm r n x
theorem qz9{κ:Type}:∀(l:List (κ×D))(n:Nat)(x:D),(Gm l n x).map (·.1)=l.map (·.1)/\(Gm l n x).map (·.2)=(l.map (·.2)).set n x
 | [],_,_=>⟨rfl,rfl⟩
 | (k,_)::r,0,x=>⟨rfl,rfl⟩
 | p::r,n+1,x=>by
   obtain⟨h1,h2⟩:=qz9 r n x;simp only[Gm,zAu,h1,h2,List.set_cons_succ,and_self]
def D.setK:D->Nat->D->D
 | .tup ds,n,x=>.tup (ds.set n x)
 | .lst z ds,n,x=>.lst z (ds.set n x)
 | .dct z kvs,n,x=>.dct z (Gm kvs n x)
 | .ins z C fs,n,x=>.ins z C (Gm fs n x)
 | d,_,_=>d
def Lnk(H:Hp)(u:V)(n:Nat)(w:V):Prop:=∃ a,u=.ref a /\
 ((∃ vs,H a=some (.tup vs)/\vs[n]? = some w)∨(∃ vs,H a=some (.lst vs)/\vs[n]? = some w)∨(∃ kvs,H a=some (.dK kvs)/\(kvs.map (·.2))[n]? = some w)∨∃ C dx fs,H a=some (.ins C dx fs)/\(fs.map (·.2))[n]? = some w)
section
variable{F F':Addr->Prop}{H H':Hp}
theorem Reps.split:∀{ds:List D}{vs:List V}{A:List Addr}{i:Nat}{d:D},Reps F H vs ds A->ds[i]? = some d ->
   ∃ vs1 v vs2 ds1 ds2 A1 B A2,vs=vs1++v::vs2/\ds=ds1++d::ds2/\vs1.length=i/\ds1.length=i/\A=A1++(B++A2)/\Reps F H vs1 ds1 A1/\Rep F H v d B/\Reps F H vs2 ds2 A2:=by
 intro ds
 induction ds with
 | nil=>intro σ A i d _ h;simp at h
 | cons e r ih =>
   intro σ A i d L h;cases i with
   | zero =>
     have:e=d:=by simpa using h
     subst this;cases L with
     | cons q t=>exact⟨[],_,_,[],_,[],_,_,rfl,rfl,rfl,rfl,rfl,.nil,q,t⟩
   | succ i =>
     have h:r[i]? = some d:=by simpa using h
     cases L with
     | @cons v _ B0 _ _ A0 q t =>
       obtain⟨σ1,o,σ2,ds1,ds2,A1,B,A2,e1,e2,e3,e4,e5,l1,l2,l3⟩:=ih t h;exact⟨v::σ1,o,σ2,_::ds1,ds2,B0++A1,B,A2,by rw[e1];rfl,by rw[e2];rfl,by simp[e3],by simp[e4],by rw[e5,zB0],.cons q l1,l2,l3⟩
theorem Reps.append{ws:List V}{ds es:List D}{A B:List Addr}(r:Reps F H vs ds A)(t:Reps F H ws es B):Reps F H (vs++ws) (ds++es) (A++B):=by
 induction vs generalizing ds A with
 | nil=>cases r;exact t
 | cons v vs ih =>
   cases r with
   | cons h t'=>rw[zB0];exact .cons h (ih t')
theorem Reps.kid{ds:List D}{A:List Addr}{d:D}(r:Reps F H vs ds A)(h:ds[n]? = some d):∃(w:V)(B C:List Addr),vs[n]? = some w/\Rep F H w d B/\(∀ b,A.count b=B.count b+C.count b) /\
   ∀{F':Addr->Prop}{H':Hp}{W:Addr->Prop}(d':D)(B':List Addr),Kp F H W F' H'->(∀ b∈C,¬ W b)->Rep F' H' w d' B'->∃ A':List Addr,Reps F' H' vs (ds.set n d') A'/\∀ b,A'.count b=B'.count b+C.count b:=by
 obtain⟨vs1,v,vs2,ds1,ds2,A1,B,A2,e1,e2,e3,e4,e5,l1,l2,l3⟩:=r.split h;refine⟨v,B,A1++A2,by rw[e1];exact qs9 e3,l2,λ b=>by rw[e5];simp only[zA0];lia,λ{F' H' W} d' B' k hc r'=>⟨A1++(B'++A2),?_,λ b=>by simp only[zA0];lia⟩⟩;rw[e1,e2,qk1 e4];exact(l1.keep k λ b hb=>hc b (zAd.mpr (.inl hb))).append (.cons r' (l3.keep k λ b hb=>hc b (zAd.mpr (.inr hb))))
theorem Rep.kid{v0:V}{d0 d:D}{A:List Addr}(r:Rep F H v0 d0 A)(h:d0.kids[n]? = some d):∃(w:V)(B C:List Addr),Lnk H v0 n w/\Rep F H w d B/\(∀ b,A.count b=B.count b+C.count b) /\
   ∀{F':Addr->Prop}{H':Hp}{W:Addr->Prop}(d':D)(B':List Addr),Kp F H W F' H'->(∀ b∈C,¬ W b)->Rep F' H' w d' B'->∃ A':List Addr,Rep F' H' v0 (d0.setK n d') A'/\∀ b,A'.count b=B'.count b+C.count b:=by
 cases r with
 | @tup a vs ds _ e r =>
   obtain⟨w,B,C,h1,h2,h3,h4⟩:=r.kid (n:=n) h;refine⟨w,B,C,⟨a,rfl,.inl ⟨vs,e,h1⟩⟩,h2,h3,λ{F' H' W} d' B' k hc r'=>?_⟩;obtain⟨A',q1,q2⟩:=h4 d' B' k hc r';exact⟨A',.tup (k.tup e) q1,q2⟩
 | @lst a vs ds A e r =>
   obtain⟨w,B,C,h1,h2,h3,h4⟩:=r.kid (n:=n) h;refine⟨w,B,a::C,⟨a,rfl,.inr (.inl ⟨vs,e,h1⟩)⟩,h2,λ b=>by rw[zAg,zAg,h3];lia,λ{F' H' W} d' B' k hc r'=>?_⟩;obtain⟨A',q1,q2⟩:=h4 d' B' k (λ b hb=>hc b (zA9 _ hb)) r';exact⟨a::A',.lst (k.fr a _ e (hc a zAc)) q1,λ b=>by rw[zAg,zAg,q2];lia⟩
 | @dct a kvs kds A e q r =>
   obtain⟨w,B,C,h1,h2,h3,h4⟩:=r.kid (n:=n) h;refine⟨w,B,a::C,⟨a,rfl,.inr (.inr (.inl ⟨kvs,e,h1⟩))⟩,h2,λ b=>by rw[zAg,zAg,h3];lia,λ{F' H' W} d' B' k hc r'=>?_⟩;obtain⟨A',q1,q2⟩:=h4 d' B' k (λ b hb=>hc b (zA9 _ hb)) r';obtain⟨m1,m2⟩:=qz9 kds n d';exact⟨a::A',.dct (k.fr a _ e (hc a zAc)) (q.trans m1.symm) (by rw[m2];exact q1),λ b=>by rw[zAg,zAg,q2];lia⟩
 | @ins a C0 dx fvs fds A e q r =>
   obtain⟨w,B,C,h1,h2,h3,h4⟩:=r.kid (n:=n) h;refine⟨w,B,a::C,⟨a,rfl,.inr (.inr (.inr ⟨C0,dx,fvs,e,h1⟩))⟩,h2,λ b=>by rw[zAg,zAg,h3];lia,λ{F' H' W} d' B' k hc r'=>?_⟩;obtain⟨A',q1,q2⟩:=h4 d' B' k (λ b hb=>hc b (zA9 _ hb)) r';obtain⟨m1,m2⟩:=qz9 fds n d';exact⟨a::A',.ins (k.fr a _ e (hc a zAc)) (q.trans m1.symm) (by rw[m2];exact q1),λ b=>by rw[zAg,zAg,q2];lia⟩
 | _=>simp[D.kids] at h
def D.getP:D->List Nat->Option D
 | d,[]=>some d
 | d,n::p=>match d.kids[n]? with
   | some e=>e.getP p
   | none=>none
def D.setP:D->List Nat->D->D
 | _,[],x=>x
 | d,n::p,x=>match d.kids[n]? with
   | some e=>d.setK n (e.setP p x)
   | none=>d
def Walk(H:Hp):V->List Nat->V->Prop
 | u,[],w=>u=w
 | u,n::p,w=>∃ v,Lnk H u n v/\Walk H v p w
theorem Rep.path:∀{p:List Nat}{v0:V}{d0 d:D}{A:List Addr},Rep F H v0 d0 A->d0.getP p=some d->∃(w:V)(B C:List Addr),Walk H v0 p w/\Rep F H w d B/\(∀ b,A.count b=B.count b+C.count b) /\
   ∀{F':Addr->Prop}{H':Hp}{W:Addr->Prop}(d':D)(B':List Addr),Kp F H W F' H'->(∀ b∈C,¬ W b)->Rep F' H' w d' B'->∃ A':List Addr,Rep F' H' v0 (d0.setP p d') A'/\∀ b,A'.count b=B'.count b+C.count b:=by
 intro p
 induction p with
 | nil =>
   intro v0 d0 d A r h;cases h;exact⟨v0,A,[],rfl,r,λ b=>by simp,λ{F' H' W} d' B' k hc r'=>⟨B',r',λ b=>by simp⟩⟩
 | cons n p ih =>
   intro v0 d0 d A r h;unfold D.getP at h;cases hk:d0.kids[n]? with
   | none=>rw[hk] at h;cases h
   | some e =>
     rw[hk] at h;obtain⟨w1,B1,C1,k1,k2,k3,k4⟩:=r.kid hk;obtain⟨w,B,C,h1,h2,h3,h4⟩:=ih k2 h;refine⟨w,B,C++C1,⟨w1,k1,h1⟩,h2,λ b=>by rw[k3,h3,zA0];lia,λ{F' H' W} d' B' k hc r'=>?_⟩;obtain⟨A1,q1,q2⟩:=h4 d' B' k (λ b hb=>hc b (zAd.mpr (.inl hb))) r';obtain⟨A2,q3,q4⟩:=k4 (e.setP p d') A1 k (λ b hb=>hc b (zAd.mpr (.inr hb))) q1;refine⟨A2,?_,λ b=>by rw[q4,q2,zA0];lia⟩;unfold D.setP;rw[hk];exact q3
def A4(ds:Ds)(i:Nat)(p:List Nat):Option D:=match ds[i]? with
 | some d=>d.getP p
 | none=>none
def Bp(ds:Ds)(i:Nat)(p:List Nat)(x:D):Ds:=match ds[i]? with
 | some d=>ds.set i (d.setP p x)
 | none=>ds
theorem qQ0{p:List Nat}{d:D}(h:D.getP .unk p=some d):p=[]/\d=.unk:=by
 cases p with
 | nil=>cases h;exact⟨rfl,rfl⟩
 | cons n p=>simp[D.getP,D.kids] at h
theorem Locs.place{σ:List (Option V)}{ds:Ds}{A:List Addr}{p:List Nat}{d:D}(L:Locs F H σ ds A)(h:A4 ds i p=some d)(hd:d≠.unk):∃(u w:V)(B C:List Addr),σ[i]? = some (some u)/\Walk H u p w/\Rep F H w d B/\(∀ b,A.count b=B.count b+C.count b) /\
   ∀{F':Addr->Prop}{H':Hp}{W:Addr->Prop}(d':D)(B':List Addr),Kp F H W F' H'->(∀ b∈C,¬ W b)->Rep F' H' w d' B'->∃ A':List Addr,Locs F' H' σ (Bp ds i p d') A'/\∀ b,A'.count b=B'.count b+C.count b:=by
 unfold A4 at h;cases hi:ds[i]? with
 | none=>rw[hi] at h;cases h
 | some d0 =>
   rw[hi] at h;obtain⟨σ1,o,σ2,ds1,ds2,A1,B0,A2,e1,e2,e3,e4,e5,l1,l2,l3⟩:=L.split hi;cases l2 with
   | no=>exact absurd (qQ0 h).2 hd
   | @so u _ _ r =>
     obtain⟨w,B,C,h1,h2,h3,h4⟩:=r.path h;refine⟨u,w,B,A1++(C++A2),by rw[e1];exact qs9 e3,h1,h2,λ b=>by rw[e5];simp only[zA0,h3];lia,λ{F' H' W} d' B' k hc r'=>?_⟩;obtain⟨A',q1,q2⟩:=h4 d' B' k (λ b hb=>hc b (zAd.mpr (.inr (zAd.mpr (.inl hb))))) r';refine⟨A1++(A'++A2),?_,λ b=>by simp only[zA0,q2];lia⟩;unfold Bp;rw[hi,e1];dsimp only;rw[e2,qk1 e4];exact(l1.keep k λ b hb=>hc b (zAd.mpr (.inl hb))).append (.so q1 (l3.keep k λ b hb=>hc b (zAd.mpr (.inr (zAd.mpr (.inr hb))))))
theorem Lnk.fn{u:V}(h:Lnk H u n v)(h':Lnk H u n w):v=w:=by
 obtain⟨a,rfl,h⟩:=h;obtain⟨b,e,h'⟩:=h';cases e;rcases h with⟨vs,e,h⟩ | ⟨vs,e,h⟩ | ⟨vs,e,h⟩ | ⟨C,dx,vs,e,h⟩<;>rcases h' with⟨vs',e',h'⟩ | ⟨vs',e',h'⟩ | ⟨vs',e',h'⟩ | ⟨C',dx',vs',e',h'⟩<;>rw[e] at e'<;>cases e'<;>rw[h] at h'<;>exact Option.some.inj h'
theorem Walk.fn:∀{p:List Nat}{u v w:V},Walk H u p v->Walk H u p w->v=w
 | [],_,_,_,h,h'=>h.symm.trans h'
 | n::p,_,_,_,⟨x,h1,h2⟩,⟨y,h3,h4⟩=>by
   cases h1.fn h3;exact Walk.fn h2 h4
theorem Lnk.same{u:V}(h:Lnk H u n v)(s:Same H H'):Lnk H' u n v:=by
 obtain⟨a,rfl,h⟩:=h;refine⟨a,rfl,?_⟩;rcases h with⟨vs,e,h⟩ | ⟨vs,e,h⟩ | ⟨vs,e,h⟩ | ⟨C,dx,vs,e,h⟩
 . exact .inl ⟨vs,s _ _ e,h⟩
 . exact .inr (.inl ⟨vs,s _ _ e,h⟩)
 . exact .inr (.inr (.inl ⟨vs,s _ _ e,h⟩))
 exact .inr (.inr (.inr ⟨C,dx,vs,s _ _ e,h⟩))
theorem Walk.same:∀{p:List Nat}{u v:V},Walk H u p v->Same H H'->Walk H' u p v
 | [],_,_,h,_=>h
 | n::p,_,_,⟨x,h1,h2⟩,s=>⟨x,h1.same s,h2.same s⟩
end
section
variable{c:Vc}{X:Cx}{b:Expr}{r:R2}{g:D->D->Option D}{tb:VT}
def t2n(g:D->D->Option D)(i:Nat)(tb:VT):VT:=λ ds Q xe=>(rdN i ds).isSome=true/\tb ds (λ y ds1=>orF ((rdN i ds1).bind λ x=>g x y) λ d=>Q d ds1) xe
theorem qab9(hb:VE c X b tb):∀ ds (Q Q':DK) (xe xe':XKd),(∀ d ds',Q d ds'->Q' d ds')->(∀ x ds',xe x ds'->xe' x ds')->t2n g i tb ds Q xe->t2n g i tb ds Q' xe' :=
 λ ds Q Q' xe xe' hQ hx=>And.imp_right (hb.m _ _ _ _ _ (λ d ds1=>qa6 λ z=>hQ z ds1) hx)
theorem Sta.name{F:Addr->Prop}{H:Hp}{σ:St}{ds:Ds}{A:List Addr}{d:D}(S:Sta c F H σ ds A)(hi:i < σ.length)(h:rdN i ds=some d):∃ v B,σ[i]? = some (some v)/\Rep F H v d B/\∀ b,B.count b<=A.count b :=
 let ⟨e,k⟩:=qh4.mp h
 S.at hi e k
theorem op_ne{σ:St}{H:Hp}(hb:VE c X b tb)(h:Av true r g)(hi:i < σ.length)(q:A7 c (t2n g i tb) σ H Q):tOp r (El i) (A7 c tb) σ H Q:=by
 obtain⟨F,ds,A,xe,S,x,hs,q⟩:=q;obtain⟨d0,hd0⟩:=zB3.mp hs;obtain⟨v,B0,hv,_,_⟩:=S.name hi hd0;refine⟨v,hv,F,ds,A,xe,S,x,hb.m _ _ _ _ _ (λ d1 ds1 q w H1 F1 T A1 r1 S1 o1 s1=>?_) (λ _ _ z=>z) q⟩;have s1':Stp F H A F1 H1 A1:=s1.count λ b=>by rw[zA0];lia
 obtain⟨d,eg,q⟩:=qa7.mp q;obtain⟨y,ey,eg⟩:=zA1.mp eg;obtain⟨v',B,hv',r2,_⟩:=S1.name hi ey;rw[hv] at hv';cases hv';refine h F1 H1 v w y d1 _ d Q (E7 r2 r1) eg λ u H3 B3 r3 s3 n3=>?_
 rw[if_pos rfl] at n3;exact q u H3 F1 B3 A1 r3 (S1.same s3) (S1.new n3 s3) (s1'.trans (n3.stp s3))
end
section
variable{F:Addr->Prop}{H:Hp}{K:PySem.W.Frag}
theorem Rep.lst_inv{ds:List D}{B:List Addr}(r:Rep F H v (.lst z ds) B):∃ a vs A,v=.ref a/\H a=some (.lst vs)/\Reps F H vs ds A/\∀ b,A.count b<=B.count b:=by
 cases r with
 | lst h r=>exact⟨_,_,_,rfl,h,r,λ b=>by rw[zAg];lia⟩
 | lstZ h f r=>exact⟨_,_,_,rfl,h,r,λ b=>zA8 _⟩
theorem Rep.tup_inv{ds:List D}{B:List Addr}(r:Rep F H v (.tup ds) B):∃ a vs,v=.ref a/\H a=some (.tup vs)/\Reps F H vs ds B:=by
 cases r with
 | tup h r=>exact⟨_,_,rfl,h,r⟩
theorem Rep.dct_inv{kds:List (Key×D)}{B:List Addr}(r:Rep F H v (.dct z kds) B):∃ a kvs A,v=.ref a/\H a=some (.dK kvs)/\kvs.map (·.1)=kds.map (·.1)/\Reps F H (kvs.map (·.2)) (kds.map (·.2)) A/\∀ b,A.count b<=B.count b:=by
 cases r with
 | dct h e r=>exact⟨_,_,_,rfl,h,e,r,λ b=>by rw[zAg];lia⟩
 | dctZ h f e r=>exact⟨_,_,_,rfl,h,e,r,λ b=>zA8 _⟩
theorem Rep.ins_inv{C:Addr}{fds:List (Str×D)}{B:List Addr}(r:Rep F H v (.ins z C fds) B):∃ a dx fvs A,v=.ref a/\H a=some (.ins C dx fvs)/\fvs.map (·.1)=fds.map (·.1)/\Reps F H (fvs.map (·.2)) (fds.map (·.2)) A/\∀ b,A.count b<=B.count b:=by
 cases r with
 | ins h e r=>exact⟨_,_,_,_,rfl,h,e,r,λ b=>by rw[zAg];lia⟩
 | insZ h f e r=>exact⟨_,_,_,_,rfl,h,e,r,λ b=>zA8 _⟩
def D.elems:D->Option Ds
 | .lst _ ds=>some ds
 | .tup ds=>some ds
 | _=>none
theorem Rep.elems{d:D}{ds:Ds}{B:List Addr}(r:Rep F H v d B)(h:d.elems=some ds):∃ a vs A,v=.ref a/\(SqL K H a vs∨SqT K H a vs)/\Reps F H vs ds A/\∀ b,A.count b<=B.count b:=by
 cases d with
 | lst z xs=>cases h;obtain⟨a,vs,A,e,h,r,q⟩:=r.lst_inv;exact⟨a,vs,A,e,.inl (.inl (.inl h)),r,q⟩
 | tup xs=>cases h;obtain⟨a,vs,e,h,r⟩:=r.tup_inv;exact⟨a,vs,_,e,.inr (.inl (.inl h)),r,λ _=>zA8 _⟩
 | _=>cases h
theorem Reps.len{ds:List D}{A:List Addr}(r:Reps F H vs ds A):vs.length=ds.length:=by
 induction vs generalizing ds A with
 | nil=>cases r;rfl
 | cons v vs ih=>cases r with | cons h t=>simp[ih t]
theorem qe6{p:Addr}(hp:H p=none):New H [p]:=⟨λ b=>by rw[zAg];simp;split<;>lia,λ b o e=>by
 have:b≠p:=λ z=>by rw[z,hp] at e;cases e
 simp[zAg,Ne.symm this]⟩
theorem qs5{p:Addr}{ds:Ds}(hp:H p=none)(r:Reps F H vs ds []):Rep F (upd H p (.lst vs)) (.ref p) (.lst false ds) [p]:=.lst qb0 (r.same (Same.new hp))
theorem qO0{p:Addr}{ds:Ds}{A:List Addr}(hp:H p=none)(r:Reps F H vs ds A):Rep F (upd H p (.tup vs)) (.ref p) (.tup ds) A:=.tup qb0 (r.same (Same.new hp))
theorem Reps.get{ds:List D}{A:List Addr}{d:D}(r:Reps F H vs ds A)(h:ds[n]? = some d):∃ w B,vs[n]? = some w/\Rep F H w d B/\∀ b,B.count b<=A.count b:=by
 obtain⟨w,B,C,h1,h2,h3,_⟩:=r.kid h;exact⟨w,B,h1,h2,λ b=>by have:=h3 b;lia⟩
theorem Reps.atI{ds:List D}{A:List Addr}{i:Int}{d:D}(r:Reps F H vs ds A)(h:L2.atI ds i=some d):∃ w B,L2.atI vs i=some w/\Rep F H w d B/\∀ b,B.count b<=A.count b:=by
 unfold L2.atI at h ⊢;rw[r.len];cases e:ixN ds.length i with
 | none=>rw[e] at h;cases h
 | some j =>
   rw[e] at h;exact r.get h
theorem Reps.sub{ds:List D}{A:List Addr}(r:Reps F H vs ds A)(n m:Nat):∃ B,Reps F H ((vs.drop n).take m) ((ds.drop n).take m) B/\∀ b,B.count b<=A.count b:=by
 induction n generalizing vs ds A with
 | zero =>
   induction m generalizing vs ds A with
   | zero=>exact⟨[],.nil,λ b=>by simp⟩
   | succ m ih =>
     cases r with
     | nil=>exact⟨[],.nil,λ b=>by simp⟩
     | cons h t =>
       obtain⟨B,q1,q2⟩:=ih t;exact⟨_,.cons h (by simpa using q1),λ b=>by simp only[zA0];have:=q2 b;lia⟩
 | succ n ih =>
   cases r with
   | nil=>exact⟨[],by simpa using Reps.nil,λ b=>by simp⟩
   | cons h t =>
     obtain⟨B,q1,q2⟩:=ih t;exact⟨B,by simpa using q1,λ b=>by simp only[zA0];have:=q2 b;lia⟩
def D.flat:D->Option V
 | .non=>some .non
 | .bl b=>some (.bl b)
 | .int i=>some (.int i)
 | .str x=>some (.str x)
 | _=>none
theorem Rep.flat{d:D}{B:List Addr}(r:Rep F H v d B)(h:d.flat=some w):v=w/\flatV v=true:=by
 cases r<;>cases h<;>exact⟨rfl,rfl⟩
end
def big:Nat:=1000000
theorem qe5:big<=sizeLine:=by decide
theorem qi2:∀(xs ys:List D),D.imms (xs++ys)=(D.imms xs&&D.imms ys)
 | [],ys=>by simp[D.imms]
 | x::xs,ys=>by simp[D.imms,qi2 xs ys,Bool.and_assoc]
section
variable{F:Addr->Prop}{H:Hp}
theorem Reps.imms0{ds:Ds}{A:List Addr}(r:Reps F H vs ds A)(h:D.imms ds=true):Reps F H vs ds []:=by
 have:=r.imms h
 subst this;exact r
theorem Reps.rep{ds:Ds}(r:Reps F H vs ds []):∀ k:Nat,Reps F H (List.replicate k vs).flatten (List.replicate k ds).flatten []
 | 0=>.nil
 | k+1=>by
   rw[zBf,zBf,zBq,zBq];exact r.append (B:=[]) (r.rep k)
end
def gd(p:Prop)[Decidable p](d:D):Option D:=if p then some d else none
theorem qk7{p:Prop}[Decidable p]{d e:D}(h:gd p d=some e):p/\d=e:=by
 unfold gd at h;split at h
 . rename_i hp;exact⟨hp,Option.some.inj h⟩
 cases h
theorem qh8{p:Prop}[Decidable p]{d:D}(h:p):gd p d=some d:=if_pos h
def gAdd:D->D->Option D
 | .int i,.int j=>some (.int (i+j))
 | .str a,.str b=>gd (a.length+b.length<=big) (.str (a++b))
 | .lst _ xs,.lst _ ys=>gd (D.imms xs=true/\D.imms ys=true/\xs.length+ys.length<=big) (.lst false (xs++ys))
 | _,_=>none
def rAddA:R2:=λ x y H Q=>rI0 (λ i j=>.int (i+j)) x y H Q∨(∃ i j,x=.str i/\y=.str j/\i.length+j.length<=sizeLine/\Q (.str (i++j)) H)∨rCat x y H Q
theorem qd8{X:Cx}:OpR X (binaryOp .Add) rAddA:=qax1.or (qN6.or qax0)
theorem qd7:Av true rAddA gAdd:=by
 intro F H v w x y B d Q r h q;cases r with | @cons _ _ A _ _ _ r1 t=>cases t with | @cons _ _ A2 _ _ _ r2 _ =>
 cases x with
 | int i =>
   cases y with
   | int j=>cases h;cases r1;cases r2;exact .inl ⟨i,j,rfl,rfl,q _ H [] (.int _) (λ _ _ z=>z) New.nil⟩
   | _=>cases h
 | str a =>
   cases y with
   | str b =>
     obtain⟨hl,rfl⟩:=qk7 h;cases r1;cases r2;exact .inr (.inl ⟨a,b,rfl,rfl,zAm hl qe5,q _ H [] (.str _) (λ _ _ z=>z) New.nil⟩)
   | _=>cases h
 | lst z xs =>
   cases y with
   | lst z2 ys =>
     obtain⟨hl,rfl⟩:=qk7 h;obtain⟨a,vs,_,rfl,h1,q1,_⟩:=r1.lst_inv;obtain⟨b,ws,_,rfl,h2,q2,_⟩:=r2.lst_inv;refine .inr (.inr ⟨a,b,vs,ws,rfl,rfl,h1,h2,by rw[q1.len,q2.len];exact zAm hl.2.2 qe5,λ p hp=>?_⟩);exact q _ _ [p] (qs5 hp ((q1.imms0 hl.1).append (q2.imms0 hl.2.1))) (Same.new hp) (qe6 hp)
   | _=>cases h
 | _=>cases h
def small(i:Int):Bool:=decide (-(2 ^ 64) < i)&&decide (i < 2 ^ 64)
theorem qE6{i:Int}(h:small i=true):-(2 ^ 64) < i/\i < 2 ^ 64:=by
 have:=zA3.mp h
 exact⟨zAn this.1,zAn this.2⟩
def Ha:D->D->Option D
 | .int i,.int j=>gd ((small i||small j)=true) (.int (i * j))
 | .lst _ xs,.int k=>gd (D.imms xs=true/\xs.length * k.toNat<=big/\k < 1000000/\-1000000 < k) (.lst false (List.replicate k.toNat xs).flatten)
 | _,_=>none
def rMulA:R2:=λ x y H Q=>rI CMul (λ i j=>.int (i * j)) x y H Q∨rRep x y H Q
theorem qr2{X:Cx}:OpR X (binaryOp .Mult) rMulA:=qaw7.or qaw5
theorem qr1:Av true rMulA Ha:=by
 intro F H v w x y B d Q r h q;cases r with | @cons _ _ A _ _ _ r1 t=>cases t with | @cons _ _ A2 _ _ _ r2 _ =>
 cases x with
 | int i =>
   cases y with
   | int j =>
     obtain⟨hl,rfl⟩:=qk7 h;cases r1;cases r2;refine .inl ⟨i,j,rfl,rfl,?_,q _ H [] (.int _) (λ _ _ z=>z) New.nil⟩;rcases Bool.or_eq_true_iff.mp hl with h | h
     . exact .inl (qE6 h)
     exact .inr (qE6 h)
   | _=>cases h
 | lst z xs =>
   cases y with
   | int k =>
     obtain⟨hl,rfl⟩:=qk7 h;obtain⟨a,vs,_,rfl,h1,q1,_⟩:=r1.lst_inv;cases r2;refine .inr ⟨a,k,vs,rfl,rfl,h1,by lia,by lia,by rw[q1.len];exact zAm hl.2.1 qe5,λ p hp=>?_⟩;exact q _ _ [p] (qs5 hp ((q1.imms0 hl.1).rep _)) (Same.new hp) (qe6 hp)
   | _=>cases h
 | _=>cases h
def gI(p:Int->Int->Bool)(f:Int->Int->D):D->D->Option D
 | .int i,.int j=>gd (p i j=true) (f i j)
 | _,_=>none
theorem os_I{C:Int->Int->Prop}{p:Int->Int->Bool}{f:Int->Int->D}{fv:Int->Int->V}(hp:∀ i j,p i j=true->C i j)(hf:∀ F H i j,Rep F H (fv i j) (f i j) []):Av true (rI C fv) (gI p f):=by
 intro F H v w x y B d Q r h q;cases r with | @cons _ _ A _ _ _ r1 t=>cases t with | @cons _ _ A2 _ _ _ r2 _ =>
 cases x with
 | int i =>
   cases y with
   | int j =>
     obtain⟨hl,rfl⟩:=qk7 h;cases r1;cases r2;exact⟨i,j,rfl,rfl,hp i j hl,q _ H [] (hf F H i j) (λ _ _ z=>z) New.nil⟩
   | _=>cases h
 | _=>cases h
theorem Fi{f:Int->Int->D}{fv:Int->Int->V}(hf:∀ F H i j,Rep F H (fv i j) (f i j) []):Av true (rI0 fv) (gI (λ _ _=>true) f):=by
 intro F H v w x y B d Q r h q;obtain⟨i,j,h1,h2,_,h3⟩:=os_I (C:=λ _ _=>True) (fv:=fv) (λ _ _ _=>trivial) hf F H v w x y B d Q r h q;exact⟨i,j,h1,h2,h3⟩
def gSub:=gI (λ _ _=>true) λ i j=>.int (i - j)
def gDiv:=gI (λ _ j=>decide (0 < j)&&decide (j < 2 ^ 200)) λ i j=>.int (i / j)
def Gn:=gI (λ _ j=>decide (0 < j)) λ i j=>.int (i % j)
def gLt:=gI (λ _ _=>true) λ i j=>.bl (decide (i < j))
def gLe:=gI (λ _ _=>true) λ i j=>.bl (decide (i<=j))
def gGt:=gI (λ _ _=>true) λ i j=>.bl (decide (j < i))
def gGe:=gI (λ _ _=>true) λ i j=>.bl (decide (j<=i))
theorem qj4:Av true (rI0 λ i j=>.int (i - j)) gSub:=Fi λ _ _ _ _=>.int _
theorem qae7:Av true (rI CDivB λ i j=>.int (i / j)) gDiv:=os_I (λ i j h=>by
 have:=zA3.mp h
 exact⟨zAn this.1,zAn this.2⟩) λ _ _ _ _=>.int _
theorem qh5:Av true (rI (λ _ j=>0 < j) λ i j=>.int (i % j)) Gn:=os_I (λ i j h=>zAn h) λ _ _ _ _=>.int _
theorem Hb:Av true (rI0 λ i j=>.bl (decide (i < j))) gLt:=Fi λ _ _ _ _=>.bl _
theorem Fj:Av true (rI0 λ i j=>.bl (decide (i<=j))) gLe:=Fi λ _ _ _ _=>.bl _
theorem Ee:Av true (rI0 λ i j=>.bl (decide (j < i))) gGt:=Fi λ _ _ _ _=>.bl _
theorem F9:Av true (rI0 λ i j=>.bl (decide (j<=i))) gGe:=Fi λ _ _ _ _=>.bl _
def D.isN:D->Option Bool
 | .non=>some true
 | .unk=>none
 | .hole _=>none
 | _=>some false
def Eb(f:D->D->Option Bool):List D->List D->Option Bool
 | [],[]=>some true
 | x::xs,y::ys=>(f x y).bind λ a=>(Eb f xs ys).bind λ b=>some (a&&b)
 | _,_=>some false
def eqF(x y:D):Option Bool:=match x.flat,y.flat with
 | some v,some w=>some (eqV v w)
 | _,_=>none
def D.d0:D->Bool
 | .dct _ []=>true
 | _=>false
def eqZ(x y:D):Option Bool:=if (x.d0&&y.d0)=true then some true else eqF x y
def eqN:Nat->D->D->Option Bool
 | n+1,.lst _ xs,.lst _ ys=>Eb (eqN n) xs ys
 | n+1,.tup xs,.tup ys=>Eb (eqN n) xs ys
 | _,x,y=>eqZ x y
theorem qp9{f:D->D->Option Bool}:∀{xs ys:List D}{b:Bool},Eb f xs ys=some b->∃ e:Nat->Bool,(∀ i x y,xs[i]? = some x->ys[i]? = some y->f x y=some (e i))/\b=((List.range (min xs.length ys.length)).all e&&xs.length == ys.length)
 | [],[],b,h=>by cases h;exact⟨λ _=>true,λ i x y h=>by simp at h,by simp⟩
 | [],y::ys,b,h=>by cases h;exact⟨λ _=>true,λ i x y h=>by simp at h,by simp⟩
 | x::xs,[],b,h=>by cases h;exact⟨λ _=>true,λ i x y _ h=>by simp at h,by simp⟩
 | x::xs,y::ys,b,h=>by
   obtain⟨a,h1,h⟩:=zA1.mp h;obtain⟨b',h2,h⟩:=zA1.mp h;cases h;obtain⟨e,q1,q2⟩:=qp9 h2;refine⟨λ i=>match i with | 0=>a | i+1=>e i,λ i x' y' hx hy=>?_,?_⟩
   . cases i with
     | zero =>
       have e1:x=x':=by simpa using hx
       have e2:y=y':=by simpa using hy
       subst e1;subst e2;exact h1
     | succ i=>exact q1 i x' y' (by simpa using hx) (by simpa using hy)
   rw[q2,zAr,zAr,Nat.add_min_add_right,List.range_succ_eq_map,List.all_cons,List.all_map];show _=(_&&_&&_)
   have:(xs.length+1 == ys.length+1)=(xs.length == ys.length):=by
     by_cases h:xs.length=ys.length
     . simp[h]
     simp[h]
   rw[this,<- Bool.and_assoc];rfl
section
variable{F:Addr->Prop}{H:Hp}
theorem Rep.eqF{x y:D}{A B:List Addr}{b:Bool}(r1:Rep F H v x A)(r2:Rep F H w y B)(h:LV.eqF x y=some b):flatV v=true/\flatV w=true/\eqV v w=b:=by
 unfold LV.eqF at h;cases e1:x.flat with
 | none=>rw[e1] at h;cases h
 | some v' =>
   cases e2:y.flat with
   | none=>rw[e1,e2] at h;cases h
   | some w' =>
     rw[e1,e2] at h;obtain⟨rfl,f1⟩:=r1.flat e1;obtain⟨rfl,f2⟩:=r2.flat e2;exact⟨f1,f2,Option.some.inj h⟩
theorem Rep.d0{x:D}{A:List Addr}(r:Rep F H v x A)(h:x.d0=true):∃ a,v=.ref a/\H a=some (.dK []):=by
 cases x with
 | dct z kvs =>
   cases kvs with
   | nil =>
     cases r with
     | dct e q _=>exact⟨_,rfl,by rw[e,List.map_eq_nil_iff.mp q]⟩
     | dctZ e _ q _=>exact⟨_,rfl,by rw[e,List.map_eq_nil_iff.mp q]⟩
   | cons=>cases h
 | _=>cases h
theorem Rep.eqZ{x y:D}{A B:List Addr}{b:Bool}(r1:Rep F H v x A)(r2:Rep F H w y B)(h:LV.eqZ x y=some b):(flatV v=true/\flatV w=true/\eqV v w=b)∨(b=true/\∃ a a',v=.ref a/\w=.ref a'/\H a=some (.dK [])/\H a'=some (.dK [])):=by
 unfold LV.eqZ at h;split at h
 . rename_i hd
   obtain⟨h1,h2⟩:=zA3.mp hd;obtain⟨a,e1,q1⟩:=r1.d0 h1;obtain⟨a',e2,q2⟩:=r2.d0 h2;cases h;exact .inr ⟨rfl,a,a',e1,e2,q1,q2⟩
 exact .inl (r1.eqF r2 h)
theorem qH2(n:Nat)(x y:D):(eqN (n+1) x y=LV.eqZ x y)∨(∃ z xs z' ys,x=.lst z xs/\y=.lst z' ys)∨∃ xs ys,x=.tup xs/\y=.tup ys:=by
 cases x with
 | lst z xs=>cases y with
   | lst z' ys=>exact .inr (.inl ⟨_,_,_,_,rfl,rfl⟩)
   | _=>exact .inl rfl
 | tup xs=>cases y with
   | tup ys=>exact .inr (.inr ⟨_,_,rfl,rfl⟩)
   | _=>exact .inl rfl
 | _=>exact .inl rfl
theorem qD0(x y:D):eqN 0 x y=LV.eqZ x y:=by cases x<;>cases y<;>rfl
theorem qH3(ih:∀{v:V}{x y:D}{A B:List Addr}{b:Bool},Rep F H v x A->Rep F H v y B->eqN n x y=some b->b=true):∀{vs:List V}{xs ys:List D}{A B:List Addr}{b:Bool},Reps F H vs xs A->Reps F H vs ys B->Eb (eqN n) xs ys=some b->b=true:=by
 intro vs
 induction vs with
 | nil=>intro xs ys A B b r1 r2 h;cases r1;cases r2;cases h;rfl
 | cons v vs ihv =>
   intro xs ys A B b r1 r2 h;cases r1 with | cons p1 t1=>cases r2 with | cons p2 t2 =>
   obtain⟨a,h1,h⟩:=zA1.mp h;obtain⟨b',h2,h⟩:=zA1.mp h;cases h;rw[ih p1 p2 h1,ihv t1 t2 h2];rfl
theorem qQ7:∀{n:Nat}{v:V}{x y:D}{A B:List Addr}{b:Bool},Rep F H v x A->Rep F H v y B->eqN n x y=some b->b=true:=by
 intro n
 induction n with
 | zero =>
   intro v x y A B b r1 r2 h;rw[qD0] at h;rcases r1.eqZ r2 h with⟨f1,f2,rfl⟩ | ⟨rfl,_⟩
   . exact qp8 f1
   rfl
 | succ n ih =>
   intro v x y A B b r1 r2 h;rcases qH2 n x y with e | ⟨z,xs,z',ys,rfl,rfl⟩ | ⟨xs,ys,rfl,rfl⟩
   . rw[e] at h
     rcases r1.eqZ r2 h with⟨f1,f2,rfl⟩ | ⟨rfl,_⟩
     . exact qp8 f1
     rfl
   . obtain⟨a,vs,_,rfl,h1,q1,_⟩:=r1.lst_inv
     obtain⟨a',vs',_,e,h2,q2,_⟩:=r2.lst_inv;cases e;rw[h1] at h2;cases h2;exact qH3 ih q1 q2 h
   obtain⟨a,vs,rfl,h1,q1⟩:=r1.tup_inv;obtain⟨a',vs',e,h2,q2⟩:=r2.tup_inv;cases e;rw[h1] at h2;cases h2;exact qH3 ih q1 q2 h
theorem Reps.getV{ds:List D}{A:List Addr}(r:Reps F H vs ds A)(h:vs[n]? = some w):∃ d B,ds[n]? = some d/\Rep F H w d B:=by
 have hl:=r.len;have hn:n < vs.length:=(zA5.mp h).1;obtain⟨w',B,h1,h2,_⟩:=r.get (n:=n) (d:=ds[n]'(by lia)) (by simp);rw[h] at h1;cases h1;exact⟨_,B,by simp,h2⟩
theorem qH0{x y:D}{A B:List Addr}{b:Bool}(r1:Rep F H v x A)(r2:Rep F H w y B)(h:LV.eqZ x y=some b):EqD H n v w b:=by
 rcases r1.eqZ r2 h with⟨f1,f2,rfl⟩ | ⟨rfl,a,a',rfl,rfl,q1,q2⟩
 . exact .flat f1 f2
 by_cases ne:a=a'
 . subst ne;exact .same a
 exact .dcts ne q1 q2
theorem qH1:∀{n:Nat}{v w:V}{x y:D}{A B:List Addr}{b:Bool},Rep F H v x A->Rep F H w y B->eqN n x y=some b->EqD H n v w b:=by
 intro n
 induction n with
 | zero =>
   intro v w x y A B b r1 r2 h;rw[qD0] at h;exact qH0 r1 r2 h
 | succ n ih =>
   intro v w x y A B b r1 r2 h;rcases qH2 n x y with e | ⟨z,xs,z',ys,rfl,rfl⟩ | ⟨xs,ys,rfl,rfl⟩
   . rw[e] at h
     exact qH0 r1 r2 h
   . obtain⟨a,vs,_,rfl,h1,q1,_⟩:=r1.lst_inv
     obtain⟨a',ws,_,rfl,h2,q2,_⟩:=r2.lst_inv;by_cases ne:a=a'
     . subst ne
       cases qQ7 (n:=n+1) r1 r2 h;exact .same a
     obtain⟨e,k1,rfl⟩:=qp9 h;rw[<- q1.len,<- q2.len];by_cases hl:vs.length=ws.length
     . rw[hl,Nat.min_self,zBa,Bool.and_true,<- hl]
       refine .lsts ne h1 h2 hl λ i p q e1 e2=>?_
       obtain⟨x,_,ex,rx⟩:=q1.getV e1;obtain⟨y,_,ey,ry⟩:=q2.getV e2;exact ih rx ry (k1 i x y ex ey)
     have:(vs.length == ws.length)=false:=by simpa using hl
     rw[this,zAx];exact .lens ne h1 h2 hl
   obtain⟨a,vs,rfl,h1,q1⟩:=r1.tup_inv;obtain⟨a',ws,rfl,h2,q2⟩:=r2.tup_inv;by_cases ne:a=a'
   . subst ne
     cases qQ7 (n:=n+1) r1 r2 h;exact .same a
   obtain⟨e,k1,rfl⟩:=qp9 h;rw[<- q1.len,<- q2.len];refine .tups ne h1 h2 λ i p q e1 e2=>?_
   obtain⟨x,_,ex,rx⟩:=q1.getV e1;obtain⟨y,_,ey,ry⟩:=q2.getV e2;exact ih rx ry (k1 i x y ex ey)
end
def eqT:D->D->Option Bool
 | .lst _ xs,.lst _ ys=>Eb (eqN 20) xs ys
 | .tup xs,.tup ys=>Eb (eqN 20) xs ys
 | .lst _ _,.tup _=>some false
 | .tup _,.lst _ _=>some false
 | .lst _ _,y=>y.flat.map λ _=>false
 | .tup _,y=>y.flat.map λ _=>false
 | x,.lst _ _=>x.flat.map λ _=>false
 | .dct _ _,.tup _=>some false
 | x,.tup _=>x.flat.map λ _=>false
 | x,y=>eqZ x y
theorem Rep.flatV{F:Addr->Prop}{H:Hp}{d:D}{B:List Addr}{b:Bool}(r:Rep F H v d B)(h:(d.flat.map λ _=>false)=some b):L2.flatV v=true/\b=false:=by
 cases e:d.flat with
 | none=>rw[e] at h;cases h
 | some w=>rw[e] at h;cases h;exact⟨(r.flat e).2,rfl⟩
theorem Rep.rc{F:Addr->Prop}{H:Hp}{x y:D}{A B:List Addr}{b:Bool}(r1:Rep F H v x A)(r2:Rep F H w y B)(h:eqT x y=some b):RcD H v w b:=by
 have flat:LV.eqZ x y=some b->RcD H v w b:=λ h=>by
   rcases r1.eqZ r2 h with⟨f1,f2,rfl⟩ | ⟨rfl,a,a',rfl,rfl,q1,q2⟩
   . exact .flat f1 f2
   exact .dcts q1 q2
 cases x with
 | lst z xs =>
   obtain⟨a,vs,_,rfl,h1,q1,_⟩:=r1.lst_inv;cases y with
   | lst z' ys =>
     obtain⟨a',ws,_,rfl,h2,q2,_⟩:=r2.lst_inv;obtain⟨e,k1,rfl⟩:=qp9 h;rw[<- q1.len,<- q2.len];by_cases hl:vs.length=ws.length
     . rw[hl,Nat.min_self,zBa,Bool.and_true,<- hl]
       refine .lsts h1 h2 hl λ i p q e1 e2=>?_
       obtain⟨x,_,ex,rx⟩:=q1.getV e1;obtain⟨y,_,ey,ry⟩:=q2.getV e2;exact qH1 rx ry (k1 i x y ex ey)
     have:(vs.length == ws.length)=false:=by simpa using hl
     rw[this,zAx];exact .lens h1 h2 hl
   | tup ys=>obtain⟨a',ws,rfl,h2,q2⟩:=r2.tup_inv;cases h;exact .lt h1 h2
   | _=>obtain⟨f,rfl⟩:=r2.flatV h;exact .lf h1 f
 | tup xs =>
   obtain⟨a,vs,rfl,h1,q1⟩:=r1.tup_inv;cases y with
   | tup ys =>
     obtain⟨a',ws,rfl,h2,q2⟩:=r2.tup_inv;obtain⟨e,k1,rfl⟩:=qp9 h;rw[<- q1.len,<- q2.len];refine .tups h1 h2 λ i p q e1 e2=>?_
     obtain⟨x,_,ex,rx⟩:=q1.getV e1;obtain⟨y,_,ey,ry⟩:=q2.getV e2;exact qH1 rx ry (k1 i x y ex ey)
   | lst z ys=>obtain⟨a',ws,_,rfl,h2,q2,_⟩:=r2.lst_inv;cases h;exact .tl h1 h2
   | _=>obtain⟨f,rfl⟩:=r2.flatV h;exact .tf h1 f
 | dct z kvs =>
   cases y with
   | lst z ys=>cases h
   | tup ys =>
     obtain⟨a',ws,rfl,h2,q2⟩:=r2.tup_inv;cases h;cases r1 with
     | dct e _ _=>exact .dt e h2
     | dctZ e _ _ _=>exact .dt e h2
   | _=>exact flat h
 | _ =>
   cases y with
   | lst z ys=>obtain⟨a',ws,_,rfl,h2,q2,_⟩:=r2.lst_inv;obtain⟨f,rfl⟩:=r1.flatV h;exact .fl h2 f
   | tup ys=>obtain⟨a',ws,rfl,h2,q2⟩:=r2.tup_inv;obtain⟨f,rfl⟩:=r1.flatV h;exact .ft h2 f
   | _=>exact flat h
def gEq(x y:D):Option D:=(eqT x y).map .bl
def gNe(x y:D):Option D:=(eqT x y).map λ b=>.bl (!b)
theorem A8:Av true rEqD gEq:=by
 intro F H v w x y B d Q r h q;cases r with | @cons _ _ A _ _ _ r1 t=>cases t with | @cons _ _ A2 _ _ _ r2 _ =>
 obtain⟨b,e,rfl⟩:=zAk.mp h;exact⟨b,r1.rc r2 e,q _ H [] (.bl _) (λ _ _ z=>z) New.nil⟩
theorem Dl:Av true rNeD gNe:=by
 intro F H v w x y B d Q r h q;cases r with | @cons _ _ A _ _ _ r1 t=>cases t with | @cons _ _ A2 _ _ _ r2 _ =>
 obtain⟨b,e,rfl⟩:=zAk.mp h;exact⟨b,r1.rc r2 e,q _ H [] (.bl _) (λ _ _ z=>z) New.nil⟩
def flats:List D->Option (List V)
 | []=>some []
 | d::r=>d.flat.bind λ v=>(flats r).bind λ vs=>some (v::vs)
theorem Reps.flats{F:Addr->Prop}{H:Hp}:∀{vs ws:List V}{ds:List D}{A:List Addr},Reps F H vs ds A->LV.flats ds=some ws->vs=ws/\vs.all L2.flatV=true
 | _,_,_,_,.nil,h=>by cases h;exact⟨rfl,rfl⟩
 | _,_,_,_,.cons r t,h=>by
   obtain⟨v,h1,h⟩:=zA1.mp h;obtain⟨vs,h2,h⟩:=zA1.mp h;cases h;obtain⟨rfl,f⟩:=r.flat h1;obtain⟨rfl,g⟩:=t.flats h2;exact⟨rfl,by rw[List.all_cons,f,g];rfl⟩
def gInB(neg:Bool)(x y:D):Option D:=x.flat.bind λ v=>y.elems.bind λ ys=>(flats ys).bind λ ws=>some (.bl (if neg then !inV v ws else inV v ws))
theorem Fk{K:PySem.W.Frag}{neg:Bool}:Av true (rIn K neg) (gInB neg):=by
 intro F H v w x y B d Q r h q;cases r with | @cons _ _ A _ _ _ r1 t=>cases t with | @cons _ _ A2 _ _ _ r2 _ =>
 obtain⟨v',h1,h⟩:=zA1.mp h;obtain⟨ys,h2,h⟩:=zA1.mp h;obtain⟨ws,h3,h⟩:=zA1.mp h;cases h;obtain⟨rfl,f⟩:=r1.flat h1;obtain⟨a,vs,A3,rfl,hs,rs,_⟩:=r2.elems (K:=K) h2;obtain⟨rfl,g⟩:=rs.flats h3;exact⟨a,vs,rfl,hs,f,g,q _ H [] (.bl _) (λ _ _ z=>z) New.nil⟩
def gIx(x y:D):Option D:=match y with
 | .int i=>x.elems.bind λ ys=>atI ys i
 | _=>none
theorem Af{K:PySem.W.Frag}:Av false (rIx K) gIx:=by
 intro F H v w x y B d Q r h q;cases r with | @cons _ _ A _ _ _ r1 t=>cases t with | @cons _ _ A2 _ _ _ r2 _ =>
 cases y with
 | int i =>
   obtain⟨ys,h2,h⟩:=zA1.mp h;cases r2;obtain⟨a,vs,A3,rfl,hs,rs,hc⟩:=r1.elems (K:=K) h2;obtain⟨w',B',hw,rw',hb⟩:=rs.atI h;have key:=q w' H B' rw' (λ _ _ z=>z) (by
     rw[if_neg (by decide)];exact λ b=>.inl (by rw[zA0];have:=hb b;have:=hc b;lia))
   rcases hs with hs | hs
   . exact .inl ⟨a,vs,i,w',rfl,rfl,hs,hw,key⟩
   exact .inr (.inl ⟨a,vs,i,w',rfl,rfl,hs,hw,key⟩)
 | _=>cases h
section
variable{F:Addr->Prop}{H:Hp}
theorem Reps.one_inv{x:D}{B:List Addr}(r:Reps F H vs [x] B):∃ v,vs=[v]/\Rep F H v x B:=by
 cases r with | cons h t=>cases t;exact⟨_,rfl,by rw[zAa];exact h⟩
theorem Reps.two_inv{x y:D}{B:List Addr}(r:Reps F H vs [x,y] B):∃ v w A C,vs=[v,w]/\Rep F H v x A/\Rep F H w y C/\∀ b,B.count b=A.count b+C.count b:=by
 cases r with | cons h t=>cases t with | cons h' t=>cases t;exact⟨_,_,_,_,rfl,h,h',λ b=>by simp[zA0]⟩
end
def fx1(g:D->Option D):Ds->Option D
 | [x]=>g x
 | _=>none
def fx2(g:D->D->Option D):Ds->Option D
 | [x,y]=>g x y
 | _=>none
def CS1(nw:Bool)(r:List V->Hp->VK->Prop)(g:D->Option D):Prop:=∀ F H v x B d (Q:VK),Rep F H v x B->g x=some d ->
 (∀ v H' B',Rep F H' v d B'->Same H H'->(if nw=true then New H B' else Sub H B B')->Q v H')->r [v] H Q
theorem CS1.ops{nw:Bool}{r:List V->Hp->VK->Prop}{g:D->Option D}(h:CS1 nw r g):OpS nw r (fx1 g):=by
 intro F H vs xs B d Q r e q
 match xs,e with
 | [x],e =>
   obtain⟨v,rfl,r'⟩:=r.one_inv;exact h F H v x B d Q r' e q
def Go(x:D):Option D:=match x with
 | .str z=>gd (z.length<=big) (.int z.length)
 | .dct _ kvs=>some (.int kvs.length)
 | x=>x.elems.map λ ys=>.int ys.length
def Hc(K:PySem.W.Frag):List V->Hp->VK->Prop:=λ xs H Q=>(∃ p ys,xs=[.ref p]/\(SqL K H p ys∨SqT K H p ys)/\Q (.int ys.length) H)∨(∃ z,xs=[.str z]/\z.length<=sizeLine/\Q (.int z.length) H)∨(∃ a kvs,xs=[V.ref a]/\H a=some (.dK kvs)/\Q (.int kvs.length) H)
theorem qq1{X:Cx}:CallR X (.builtin "len") (Hc X.K):=qD7.or (qD6.or qW7)
theorem qq0{K:PySem.W.Frag}:CS1 true (Hc K) Go:=by
 intro F H v x B d Q r h q;have seq:∀ ys,x.elems=some ys->d=.int ys.length->Hc K [v] H Q:=λ ys e hd=>by
   subst hd;obtain⟨a,vs,A,rfl,hs,rs,_⟩:=r.elems (K:=K) e;refine .inl ⟨a,vs,rfl,hs,?_⟩;rw[rs.len];exact q _ H [] (.int _) (λ _ _ z=>z) New.nil
 cases x with
 | str z=>obtain⟨hl,rfl⟩:=qk7 h;cases r;exact .inr (.inl ⟨z,rfl,zAm hl qe5,q _ H [] (.int _) (λ _ _ z=>z) New.nil⟩)
 | dct z kds =>
   cases h;obtain⟨a,kvs,A,rfl,hs,e,rs,_⟩:=r.dct_inv;refine .inr (.inr ⟨a,kvs,rfl,hs,?_⟩)
   have:kvs.length=kds.length:=by have:=congrArg List.length e;simpa using this
   rw[this];exact q _ H [] (.int _) (λ _ _ z=>z) New.nil
 | lst z ys=>cases h;exact seq ys rfl rfl
 | tup ys=>cases h;exact seq ys rfl rfl
 | _=>cases h
def He(x:D):Option D:=x.elems.bind λ ys=>gd (D.imms ys=true) (.lst false ys)
theorem qx7{K:PySem.W.Frag}:CS1 true (λ xs H Q=>∃ p ys,xs=[.ref p]/\(SqL K H p ys∨SqT K H p ys)/\∀ l,H l=none->Q (.ref l) (upd H l (.lst ys))) He:=by
 intro F H v x B d Q r h q;obtain⟨ys,e,h⟩:=zA1.mp h;obtain⟨hm,rfl⟩:=qk7 h;obtain⟨a,vs,A,rfl,hs,rs,_⟩:=r.elems (K:=K) e;exact⟨a,vs,rfl,hs,λ p hp=>q _ _ [p] (qs5 hp (rs.imms0 hm)) (Same.new hp) (qe6 hp)⟩
def qaz9(x:D):Option D:=match x with
 | .lst _ ys=>gd (D.imms ys=true) (.tup ys)
 | .tup ys=>gd (D.imms ys=true) (.tup ys)
 | _=>none
theorem qai6{K:PySem.W.Frag}:CS1 true (λ xs H Q=>∃ p ys,xs=[.ref p]/\((SqL K H p ys/\∀ l,H l=none->Q (.ref l) (upd H l (.tup ys)))∨(SqT K H p ys/\Q (.ref p) H))) qaz9:=by
 intro F H v x B d Q r h q;cases x with
 | lst z ys =>
   obtain⟨hm,rfl⟩:=qk7 h;obtain⟨a,vs,A,rfl,hs,rs,_⟩:=r.lst_inv;exact⟨a,vs,rfl,.inl ⟨.inl (.inl hs),λ p hp=>q _ _ [] (qO0 hp (rs.imms0 hm)) (Same.new hp) New.nil⟩⟩
 | tup ys =>
   obtain⟨hm,rfl⟩:=qk7 h;obtain⟨a,vs,rfl,hs,rs⟩:=r.tup_inv;exact⟨a,vs,rfl,.inr ⟨.inl (.inl hs),q _ _ [] (.tup hs (rs.imms0 hm)) (λ _ _ z=>z) New.nil⟩⟩
 | _=>cases h
def pairK:D->Option (Key×D)
 | .tup [.int k,x]=>if x.imm=true then some (.inl k,x) else none
 | .tup [.str k,x]=>if x.imm=true then some (.inr k,x) else none
 | _=>none
def qJ0:List D->Option (List (Key×D))
 | []=>some []
 | d::r=>(pairK d).bind λ p=>(qJ0 r).bind λ ps=>some (p::ps)
def Ef(kvs:List (Key×D))(k:Key)(v:D):List (Key×D) :=
 if (kvs.any λ kv=>decide (kv.1=k))=true then kvs.map (λ kv=>if kv.1=k then (kv.1,v) else kv) else kvs++[(k,v)]
def qm6(kvs more:List (Key×D)):List (Key×D):=more.foldl (λ acc kv=>Ef acc kv.1 kv.2) kvs
abbrev KP(F:Addr->Prop)(H:Hp)(kvs:List (Key×V))(kds:List (Key×D)):Prop:=Paired (λ(p:Key×V)(q:Key×D)=>p.1=q.1/\Rep F H p.2 q.2 []) kvs kds
section
variable{F:Addr->Prop}{H:Hp}
theorem KP.maps{kds:List (Key×D)}(h:KP F H kvs kds):kvs.map (·.1)=kds.map (·.1)/\Reps F H (kvs.map (·.2)) (kds.map (·.2)) []:=by
 induction h with
 | nil=>exact⟨rfl,.nil⟩
 | cons a _ ih=>exact⟨by rw[zAu,zAu,a.1,ih.1],.cons (A:=[]) (B:=[]) a.2 ih.2⟩
theorem KP.any{kds:List (Key×D)}(h:KP F H kvs kds)(k:Key):(kvs.any λ kv=>decide (kv.1=k))=kds.any λ kv=>decide (kv.1=k):=by
 induction h with
 | nil=>rfl
 | cons a _ ih=>rw[List.any_cons,List.any_cons,a.1,ih]
theorem KP.append{kvs':List (Key×V)}{kds kds':List (Key×D)}(h:KP F H kvs kds)(h':KP F H kvs' kds'):KP F H (kvs++kvs') (kds++kds'):=by
 induction h with
 | nil=>exact h'
 | cons a _ ih=>exact .cons a ih
theorem KP.mapk{kds:List (Key×D)}(h:KP F H kvs kds){k:Key}{d:D}(r:Rep F H v d []):KP F H (kvs.map λ kv=>if kv.1=k then (kv.1,v) else kv) (kds.map λ kv=>if kv.1=k then (kv.1,d) else kv):=by
 induction h with
 | nil=>exact .nil
 | @cons p q _ _ a _ ih =>
   refine .cons ?_ ih;show (if p.1=k then (p.1,v) else p).1=(if q.1=k then (q.1,d) else q).1/\Rep F H (if p.1=k then (p.1,v) else p).2 (if q.1=k then (q.1,d) else q).2 [];rw[<- a.1];split
   . exact⟨rfl,r⟩
   exact a
theorem KP.put{kds:List (Key×D)}(h:KP F H kvs kds){k:Key}{d:D}(r:Rep F H v d []):KP F H (putK kvs k v) (Ef kds k d):=by
 unfold putK Ef;rw[h.any k];split
 . exact h.mapk r
 exact h.append (.cons ⟨rfl,r⟩ .nil)
theorem KP.merge{more:List (Key×V)}{mored:List (Key×D)}(h:KP F H more mored):∀{kvs:List (Key×V)}{kds:List (Key×D)},KP F H kvs kds->KP F H (qr7 kvs more) (qm6 kds mored):=by
 induction h with
 | nil=>exact λ h=>h
 | @cons p q _ _ a _ ih =>
   intro kvs kds h
   have:=ih (h.put (k:=p.1) a.2)
   rw[a.1] at this;show KP F H (qr7 (putK kvs p.1 p.2) _) (qm6 (Ef kds q.1 q.2) _);rw[a.1];exact this
theorem qae5{ds:Ds}{A:List Addr}{ps:List (Key×D)}(r:Reps F H vs ds A)(h:qJ0 ds=some ps):∃ kvs,qaa8 H vs kvs/\KP F H kvs ps:=by
 induction ds generalizing vs A ps with
 | nil=>cases r;cases h;exact⟨[],.nil,.nil⟩
 | cons d ds ih =>
   cases r with
   | cons r1 t =>
     obtain⟨p,h1,h⟩:=zA1.mp h;obtain⟨ps,h2,h⟩:=zA1.mp h;cases h;obtain⟨kvs,q1,q2⟩:=ih t h2;unfold pairK at h1;split at h1
     . rename_i k x
       split at h1
       . rename_i hm
         cases h1;obtain⟨a,ws,rfl,ha,rw'⟩:=r1.tup_inv;obtain⟨w1,w2,A1,A2,rfl,r1',r2',_⟩:=rw'.two_inv;cases r1'
         have:=r2'.imm hm
         subst this;exact⟨(.inl k,w2)::kvs,.cons ⟨a,rfl,ha⟩ q1,.cons ⟨rfl,r2'⟩ q2⟩
       cases h1
     . rename_i k x
       split at h1
       . rename_i hm
         cases h1;obtain⟨a,ws,rfl,ha,rw'⟩:=r1.tup_inv;obtain⟨w1,w2,A1,A2,rfl,r1',r2',_⟩:=rw'.two_inv;cases r1'
         have:=r2'.imm hm
         subst this;exact⟨(.inr k,w2)::kvs,.cons ⟨a,rfl,ha⟩ q1,.cons ⟨rfl,r2'⟩ q2⟩
       cases h1
     cases h1
theorem qap0{p:Addr}{kds:List (Key×D)}(hp:H p=none)(r:KP F H kvs kds):Rep F (upd H p (.dK kvs)) (.ref p) (.dct false kds) [p]:=.dct qb0 r.maps.1 (r.maps.2.same (Same.new hp))
end
def Ga(x:D):Option D:=match x with
 | .lst _ ys=>(qJ0 ys).map λ ps=>.dct false (qm6 [] ps)
 | _=>none
theorem qaa6:CS1 true qam0 Ga:=by
 intro F H v x B d Q r h q;cases x with
 | lst z ys =>
   obtain⟨ps,h1,rfl⟩:=zAk.mp h;obtain⟨a,vs,A,rfl,hs,rs,_⟩:=r.lst_inv;obtain⟨kvs,q1,q2⟩:=qae5 rs h1;exact⟨a,vs,kvs,rfl,hs,q1,λ p hp=>q _ _ [p] (qap0 hp (q2.merge .nil)) (Same.new hp) (qe6 hp)⟩
 | _=>cases h
def D.kind:D->Option String
 | .non=>some "NoneType" | .bl _=>some "bool" | .int _=>some "int" | .str _=>some "str" | .lst _ _=>some "list" | .tup _=>some "tuple" | .dct _ _=>some "dict"
 | _=>none
theorem Rep.kind{F:Addr->Prop}{H:Hp}{d:D}{B:List Addr}{t:String}(r:Rep F H v d B)(h:d.kind=some t):Bo H v=some t:=by
 cases r with
 | tup e _=>cases h;exact qag5 e
 | lst e _=>cases h;exact qP1 e
 | lstZ e _ _=>cases h;exact qP1 e
 | dct e _ _=>cases h;exact qZ4 e
 | dctZ e _ _ _=>cases h;exact qZ4 e
 | _=>cases h<;>rfl
def isTy(n:String):Bool:=n == "bool" || n == "int" || n == "str" || n == "list" || n == "tuple" || n == "dict"
def gIsi(x y:D):Option D:=match y with
 | .ty n=>if isTy n=true then x.kind.map λ t=>.bl (G5 t n) else none
 | _=>none
def CS2(nw:Bool)(r:List V->Hp->VK->Prop)(g:D->D->Option D):Prop:=∀ F H v w x y A B d (Q:VK),Rep F H v x A->Rep F H w y B->g x y=some d ->
 (∀ v H' B',Rep F H' v d B'->Same H H'->(if nw=true then New H B' else Sub H (A++B) B')->Q v H')->r [v,w] H Q
theorem CS2.ops{nw:Bool}{r:List V->Hp->VK->Prop}{g:D->D->Option D}(h:CS2 nw r g):OpS nw r (fx2 g):=by
 intro F H vs xs B d Q r e q
 match xs,e with
 | [x,y],e =>
   obtain⟨v,w,A,C,rfl,r1,r2,hc⟩:=r.two_inv;refine h F H v w x y A C d Q r1 r2 e λ u H' B' ru s hn=>q u H' B' ru s ?_
   cases nw with
   | true=>exact hn
   | false =>
     rw[if_neg (by decide)] at hn ⊢;exact λ b=>(hn b).imp (λ z=>by rw[zA0] at z;have:=hc b;lia) id
theorem qx8:CS2 true rIsi gIsi:=by
 intro F H v w x y A B d Q r1 r2 e q;cases y with
 | ty n =>
   cases r2;have e:(if isTy n=true then x.kind.map λ t=>D.bl (G5 t n) else none)=some d:=e;by_cases hn:isTy n=true
   . rw[if_pos hn] at e
     obtain⟨t,ht,rfl⟩:=zAk.mp e;refine⟨v,n,t,rfl,r1.kind ht,?_,q _ H [] (.bl _) (λ _ _ z=>z) New.nil⟩;simp only[isTy,Bool.or_eq_true,zBg] at hn;simp only[zA7,zAi,zBb];rcases hn with ((((h | h) | h) | h) | h) | h
     . exact .inl h
     . exact .inr (.inl h)
     . exact .inr (.inr (.inl h))
     . exact .inr (.inr (.inr (.inl h)))
     . exact .inr (.inr (.inr (.inr (.inl h))))
     exact .inr (.inr (.inr (.inr (.inr h))))
   rw[if_neg hn] at e;cases e
 | _=>cases e
def D.isC(C:Addr)(x:D):Option D:=match x with
 | .ins _ C' _=>if C'=C then some (.bl true) else none
 | x=>x.kind.map λ _=>.bl false
def gIsO(C:Addr)(x y:D):Option D:=match y with
 | .adr a=>if a=C then x.isC C else none
 | _=>none
theorem qaA6{C:Addr}:CS2 true (rIsO C) (gIsO C):=by
 intro F H v w x y A B d Q r1 r2 e q;cases y with
 | adr a =>
   cases r2;have e:(if a=C then x.isC C else none)=some d:=e;by_cases hc:a=C
   . rw[if_pos hc] at e
     subst hc;have kind:(x.kind.map λ _=>D.bl false)=some d->rIsO a [v,.ref a] H Q:=λ e=>by
       obtain⟨t,ht,rfl⟩:=zAk.mp e;exact⟨_,rfl,.inr ⟨t,r1.kind ht,q _ H [] (.bl _) (λ _ _ z=>z) New.nil⟩⟩
     cases x with
     | ins z C' fs =>
       have e2:(if C'=a then some (D.bl true) else none)=some d:=e;by_cases hc:C'=a
       . rw[if_pos hc] at e2
         cases e2;subst hc;obtain⟨p,dx,fvs,_,rfl,h,_,_,_⟩:=r1.ins_inv;exact⟨_,rfl,.inl ⟨p,dx,fvs,rfl,h,q _ H [] (.bl _) (λ _ _ z=>z) New.nil⟩⟩
       rw[if_neg hc] at e2;cases e2
     | _=>exact kind e
   rw[if_neg hc] at e;cases e
 | _=>cases e
def gMax2:D->D->Option D
 | .int i,.int j=>some (.int (if j > i then j else i))
 | _,_=>none
def gMin2:D->D->Option D
 | .int i,.int j=>some (.int (if j < i then j else i))
 | _,_=>none
theorem qH4:CS2 true (λ xs H Q=>∃ i j,xs=[.int i,.int j]/\Q (.int (if j > i then j else i)) H) gMax2:=by
 intro F H v w x y A B d Q r1 r2 e q;cases x with
 | int i=>cases y with
   | int j=>cases e;cases r1;cases r2;exact⟨i,j,rfl,q _ H [] (.int _) (λ _ _ z=>z) New.nil⟩
   | _=>cases e
 | _=>cases e
theorem qaa5:CS2 true (λ xs H Q=>∃ i j,xs=[.int i,.int j]/\Q (.int (if j < i then j else i)) H) gMin2:=by
 intro F H v w x y A B d Q r1 r2 e q;cases x with
 | int i=>cases y with
   | int j=>cases e;cases r1;cases r2;exact⟨i,j,rfl,q _ H [] (.int _) (λ _ _ z=>z) New.nil⟩
   | _=>cases e
 | _=>cases e
def bools:List D->Option (List Bool)
 | []=>some []
 | .bl b::r=>(bools r).map λ bs=>b::bs
 | _=>none
theorem Reps.bools{F:Addr->Prop}{H:Hp}:∀{vs:List V}{ds:List D}{A:List Addr}{bs:List Bool},Reps F H vs ds A->LV.bools ds=some bs->vs=bs.map V.bl:=by
 intro vs ds
 induction ds generalizing vs with
 | nil=>intro A bs r h;cases r;cases h;rfl
 | cons d ds ih =>
   intro A bs r h;cases r with
   | cons r1 t =>
     cases d with
     | bl b =>
       obtain⟨bs',h1,rfl⟩:=zAk.mp h;cases r1;rw[ih t h1];rfl
     | _=>cases h
def gAll(x:D):Option D:=match x with
 | .lst _ ys=>(bools ys).map λ bs=>.bl (bs.all id)
 | _=>none
theorem qas2{K:PySem.W.Frag}:CS1 true (λ xs H Q=>∃(a:Addr)(bs:List Bool),xs=[.ref a]/\SqL K H a (bs.map V.bl)/\Q (.bl (bs.all id)) H) gAll:=by
 intro F H v x B d Q r h q;cases x with
 | lst z ys =>
   obtain⟨bs,h1,rfl⟩:=zAk.mp h;obtain⟨a,vs,A,rfl,hs,rs,_⟩:=r.lst_inv;cases rs.bools h1;exact⟨a,bs,rfl,.inl (.inl hs),q _ H [] (.bl _) (λ _ _ z=>z) New.nil⟩
 | _=>cases h
def intsD:List D->Option (List Int)
 | []=>some []
 | .int i::r=>(intsD r).map λ is=>i::is
 | _=>none
theorem Reps.intsD{F:Addr->Prop}{H:Hp}:∀{vs:List V}{ds:List D}{A:List Addr}{bs:List Int},Reps F H vs ds A->LV.intsD ds=some bs->vs=bs.map V.int:=by
 intro vs ds
 induction ds generalizing vs with
 | nil=>intro A bs r h;cases r;cases h;rfl
 | cons d ds ih =>
   intro A bs r h;cases r with
   | cons r1 t =>
     cases d with
     | int b =>
       obtain⟨bs',h1,rfl⟩:=zAk.mp h;cases r1;rw[ih t h1];rfl
     | _=>cases h
def Bl(xs:List D)(lo hi:Option Int):List D:=(xs.drop (HT.sIx xs.length 0 lo)).take (HT.sIx xs.length xs.length hi - HT.sIx xs.length 0 lo)
def gSl(x:D)(lo hi:Option Int):Option D:=match x with
 | .lst _ ys=>gd (D.imms (Bl ys lo hi)=true) (.lst false (Bl ys lo hi))
 | .scr ns=>some (.lst false ((ns.drop (HT.sIx ns.length 0 lo)).take (HT.sIx ns.length ns.length hi - HT.sIx ns.length 0 lo) |>.map .int))
 | .tup ys=>gd (D.imms (Bl ys lo hi)=true/\(Bl ys lo hi).length < ys.length) (.tup (Bl ys lo hi))
 | _=>none
theorem qu1{F:Addr->Prop}{H:Hp}:∀ ns:List Int,Reps F H (ns.map V.int) (ns.map D.int) []
 | []=>.nil
 | n::r=>.cons (A:=[]) (B:=[]) (.int n) (qu1 r)
theorem os_sl{K:PySem.W.Frag}{F:Addr->Prop}{H:Hp}{x d:D}{lo hi:Option Int}{B:List Addr}(r:Rep F H v x B)(h:gSl x lo hi=some d)(hx:∀ ys,x≠.tup ys)(q:∀ v H' B',Rep F H' v d B'->Same H H'->New H B'->Q v H'):rSlL K v lo hi H Q:=by
 cases x with
 | lst z ys =>
   obtain⟨hm,rfl⟩:=qk7 h;obtain⟨a,vs,A,rfl,hs,rs,_⟩:=r.lst_inv;refine⟨a,vs,rfl,.inl (.inl hs),λ p hp=>q _ _ [p] (qs5 hp ?_) (Same.new hp) (qe6 hp)⟩;obtain⟨B',h1,h2⟩:=rs.sub (HT.sIx ys.length 0 lo) (HT.sIx ys.length ys.length hi - HT.sIx ys.length 0 lo);unfold Fe;rw[rs.len];exact h1.imms0 hm
 | scr ns =>
   cases h;cases r with
   | scr e =>
     refine⟨_,_,rfl,.inl (.inr ⟨_,e⟩),λ p hp=>q _ _ [p] (qs5 hp ?_) (Same.new hp) (qe6 hp)⟩;unfold Fe;rw[<- List.map_drop,<- List.map_take,zAj];exact qu1 _
 | tup ys=>exact absurd rfl (hx ys)
 | _=>cases h
def D.fld(C:Addr)(f:Str):D->Option D
 | .ins _ C' fs=>if C'=C then fs.lookup f else none
 | _=>none
theorem qO7{F:Addr->Prop}{H:Hp}:∀{fvs:List (Str×V)}{fds:List (Str×D)}{A:List Addr}{f:Str}{d:D},fvs.map (·.1)=fds.map (·.1)->Reps F H (fvs.map (·.2)) (fds.map (·.2)) A->fds.lookup f=some d->∃ v B,fvs.lookup f=some v/\Rep F H v d B/\∀ b,B.count b<=A.count b:=by
 intro fvs
 induction fvs with
 | nil=>intro fds A f d e r h;cases fds with
   | nil=>cases h
   | cons _ _=>simp at e
 | cons p fvs ih =>
   intro fds A f d e r h;cases fds with
   | nil=>simp at e
   | cons q fds =>
     obtain⟨k,v⟩:=p;obtain⟨k',d'⟩:=q;have e1:k=k':=by simp at e;exact e.1
     have e2:fvs.map (·.1)=fds.map (·.1):=by simp at e;simpa using e.2
     subst e1;cases r with
     | @cons _ _ A1 _ _ A2 r1 t =>
       rw[zAp] at h ⊢;cases hb:f == k with
       | true=>rw[hb] at h;cases h;exact⟨v,A1,rfl,r1,λ b=>by rw[zA0];lia⟩
       | false =>
         rw[hb] at h;obtain⟨w,B,h1,h2,h3⟩:=ih e2 t h;exact⟨w,B,h1,h2,λ b=>by rw[zA0];have:=h3 b;lia⟩
theorem qaw4{K:PySem.W.Frag}{C:Addr}{f:Str}(c:Cls K C)(n:qe3 K C f):OpS1 false (λ x H Q=>∃ a C dx fs v,x=.ref a/\H a=some (.ins C dx fs)/\Cls K C/\qe3 K C f/\fs.lookup f=some v/\Q v H) (D.fld C f):=by
 intro F H v x B d Q r h q;cases x with
 | ins z C' fs =>
   have h2:(if C'=C then fs.lookup f else none)=some d:=h;by_cases hc:C'=C
   . rw[if_pos hc] at h2
     subst hc;obtain⟨a,dx,fvs,A,rfl,ha,e,rs,hcnt⟩:=r.ins_inv;obtain⟨w,B',h3,h4,h5⟩:=qO7 e rs h2;refine⟨a,C',dx,fvs,w,rfl,ha,c,n,h3,q w H B' h4 (λ _ _ z=>z) ?_⟩;rw[if_neg (by decide)];exact λ b=>.inl (by have:=h5 b;have:=hcnt b;lia)
   rw[if_neg hc] at h2;cases h2
 | _=>cases h
def D.key:D->Option Key
 | .int i=>some (.inl i)
 | .str x=>some (.inr x)
 | _=>none
def Bt(kds:List (Key×D))(k:Key):Option D:=(kds.find? λ kv=>decide (kv.1=k)).map (·.2)
theorem Rep.key{F:Addr->Prop}{H:Hp}{x:D}{B:List Addr}{k:Key}(r:Rep F H v x B)(h:x.key=some k):v=kV k:=by
 cases r<;>cases h<;>rfl
theorem qak1{F:Addr->Prop}{H:Hp}:∀{kvs:List (Key×V)}{kds:List (Key×D)}{A:List Addr}(k:Key),kvs.map (·.1)=kds.map (·.1)->Reps F H (kvs.map (·.2)) (kds.map (·.2)) A ->
   (Bt kds k=none/\Dz kvs k=none)∨∃ v d B,Bt kds k=some d/\Dz kvs k=some v/\Rep F H v d B/\∀ b,B.count b<=A.count b:=by
 intro kvs
 induction kvs with
 | nil=>intro kds A k e r;cases kds with
   | nil=>exact .inl ⟨rfl,rfl⟩
   | cons _ _=>simp at e
 | cons p kvs ih =>
   intro kds A k e r;cases kds with
   | nil=>simp at e
   | cons q kds =>
     obtain⟨k1,v⟩:=p;obtain⟨k2,d⟩:=q;have e1:k1=k2:=by simp at e;exact e.1
     have e2:kvs.map (·.1)=kds.map (·.1):=by simp at e;simpa using e.2
     subst e1;cases r with
     | @cons _ _ A1 _ _ A2 r1 t =>
       by_cases hk:k1=k
       . exact .inr ⟨v,d,A1,by simp[Bt,hk],qy7 hk,r1,λ b=>by rw[zA0];lia⟩
       have h1:Bt ((k1,d)::kds) k=Bt kds k:=by simp[Bt,zBn,hk]
       rw[h1,qy8 (p:=(k1,v)) hk];rcases ih k e2 t with h | ⟨w,d',B,h2,h3,h4,h5⟩
       . exact .inl h
       exact .inr ⟨w,d',B,h2,h3,h4,λ b=>by rw[zA0];have:=h5 b;lia⟩
section
variable{c:Vc}{X:Cx}{a b e:Expr}{oa ob own nw:Bool}{fa fb f:FV}{r:R2}{g:D->D->Option D}{ta tb t:VT}{pos:Pos}
theorem vnm(i:Nat){x:Str}(hN:X.N[i]? = some x:=by rfl)(hv:Vis X.env.scope x:=by first | exact Or.inl rfl | exact Or.inr (Or.inl rfl) | exact Or.inr (Or.inr rfl))(hd:(x == ("__debug__" : Str))=false:=by decide)(hcd:(x == ("__classdict__" : Str))=false:=by decide) :
   VV c X (.Name x pos) false (rdN i):=qaj8 (qp0 hN hv hd hcd) (qm0 hN)
def kC(d:D):FV:=λ _=>some d
theorem Aa{i:Int}:VV c X (.Constant (.int i) j pos) true (kC (.int i)):=Fh qA8 λ _ _=>.int _
theorem vbl{i:Bool}:VV c X (.Constant (.bool i) j pos) true (kC (.bl i)):=Fh pe_bl λ _ _=>.bl _
theorem Gp:VV c X (.Constant .none j pos) true (kC .non):=Fh qav8 λ _ _=>.non
theorem Dp{i:Str}:VV c X (.Constant (.str i) j pos) true (kC (.str i)):=Fh qam9 λ _ _=>.str _
theorem vgi{x:Str}{n:Int}{k:Tok}(hm:X.mg x=some (.int n k))(hg:Gl X x:=by rfl)(hd:(x == ("__debug__" : Str))=false:=by decide):VV c X (.Name x pos) true (kC (.int n)):=Fh (qan5 hm hg hd) λ _ _=>.int _
theorem vcls{x:Str}(C:Addr)(hm:X.mg x=some (.ref C))(hg:Gl X x:=by rfl)(hd:(x == ("__debug__" : Str))=false:=by decide):VV c X (.Name x pos) true (kC (.adr C)):=Fh (qav6 C hm hg hd) λ _ _=>.adr _
theorem vty{x:Str}(n:String)(hm:X.mg x=none)(hg:Gl X x:=by rfl)(hv:bootBuiltins x=some (.type n):=by rfl)(hn:x ≠ "__name__" := by decide)(hd:(x == ("__debug__" : Str))=false:=by decide):VV c X (.Name x pos) true (kC (.ty n)):=Fh (qaw0 n hm hg hv hn hd) λ _ _=>.ty _
theorem Fx{i j:Int}(k:Int){m:Nat}{p q:Pos}(hk:i ^ j.toNat=k:=by decide)(h0:0<=j:=by decide)(h1:j<=1000000:=by decide)(h2:i.natAbs < 2 ^ 64:=by decide):VV c X (.BinOp (.Constant (.int i) m p) .Pow (.Constant (.int j) n q) pos) true (kC (.int k)):=Fh (qan0 k hk h0 h1 h2) λ _ _=>.int _
def P2(X:Cx)(e a b:Expr)(r:R2):Prop:=∀ ta tb,PE X a ta->PE X b tb->PE X e (tOp r ta tb)
def T2(X:Cx)(e a b:Expr)(r:R2):Prop:=∀ ta tb,PE X a ta->PE X b tb->PT X e (tTest (tOp r ta tb))
theorem Ag{op:Operator}(ho:OpR X (binaryOp op) r):P2 X (.BinOp a op b pos) a b r:=λ _ _ ha hb=>pe_op ho ha hb
theorem Bb(ho:OpR X (compareOp op) r)(hm:behindInMarks op b=false):P2 X (.Compare a [op] [b] pos) a b r:=λ _ _ ha hb=>qan7 ho ha hb hm
theorem Am(ho:OpR X (compareOp op) r)(hm:behindInMarks op b=false):T2 X (.Compare a [op] [b] pos) a b r:=λ _ _ ha hb=>qam2 ho ha hb hm
theorem Al(ho:IxR X r)(hs:qI7 b:=by exact λ _ _=>rfl):P2 X (.Subscript a b pos) a b r:=λ _ _ ha hb=>G1 ho ha hb hs
theorem v2(p:P2 X e a b r)(h:Av nw r g)(ha:VV c X a oa fa)(hb:VV c X b ob fb):VV c X e (nw||(oa&&ob)) (f2 g fa fb):=⟨PE.mono (p _ _ ha.h hb.h) (op_vv h)⟩
theorem e2(p:P2 X e a b r)(h:Av true r g)(ha:VE c X a ta)(hb:VE c X b tb):VE c X e (t2 g ta tb):=⟨PE.mono (p _ _ ha.h hb.h) (op_ee ha hb h),qX2 ha hb⟩
theorem e2v(p:P2 X e a b r)(h:Av true r g)(ha:VE c X a ta)(hb:VV c X b ob fb):VE c X e (t2v g ta fb):=⟨PE.mono (p _ _ ha.h hb.h) (op_ev ha h),qab8 ha⟩
theorem e2P(p:P2 X e a b r)(h:Av false r g)(ha:VE c X a ta)(hb:VE c X b tb):VE c X e (t2 g ta tb):=⟨PE.mono (p _ _ ha.h hb.h) (qaw9 ha hb h),qX2 ha hb⟩
theorem e2vP(p:P2 X e a b r)(h:Av false r g)(ha:VE c X a ta)(hb:VV c X b ob fb):VE c X e (G9 g ta fb):=⟨PE.mono (p _ _ ha.h hb.h) (qaw8 ha h),qS3 ha⟩
theorem e2n(i:Nat){x:Str}{p0:Pos}(p:P2 X e (.Name x p0) b r)(h:Av true r g)(hb:VE c X b tb)(hN:X.N[i]? = some x:=by rfl)(hv:Vis X.env.scope x:=by first | exact Or.inl rfl | exact Or.inr (Or.inl rfl) | exact Or.inr (Or.inr rfl))(hd:(x == ("__debug__" : Str))=false:=by decide)(hcd:(x == ("__classdict__" : Str))=false:=by decide) :
   VE c X e (t2n g i tb):=⟨λ Dk s σ H Q I q=>p _ _ (qp0 hN hv hd hcd) hb.h Dk s σ H Q I (op_ne hb h (qm0 hN Dk σ H s I) q),qab9 hb⟩
def D.asB:D->Option Bool
 | .bl b=>some b
 | _=>none
theorem Rep.asB{F:Addr->Prop}{H:Hp}{d:D}{B:List Addr}{k:Bool}(r:Rep F H v d B)(h:d.asB=some k):v=.bl k:=by
 cases r<;>cases h<;>rfl
def ttV(f:FV):VTT:=λ ds Q _=>orF ((f ds).bind D.asB) λ b=>Q b ds
def ttE(t:VT):VTT:=λ ds Q xe=>t ds (λ d ds'=>orF d.asB λ b=>Q b ds') xe
theorem qak4:∀ σ H Q,Bw c (ttV f) σ H Q->liftV c own f σ H (λ x H'=>∃ k,x=.bl k/\Q k H'):=by
 rintro σ H Q ⟨F,ds,A,xe,S,x,q⟩;obtain⟨b,e,q⟩:=qa7.mp q;obtain⟨d,e1,e2⟩:=zA1.mp e;exact⟨F,ds,A,d,S,e1,λ v H' B r s _=>⟨b,r.asB e2,q H' F A (S.same s) (.same s)⟩⟩
theorem qak5(h:VE c X e t):∀ σ H Q,Bw c (ttE t) σ H Q->A7 c t σ H (λ x H'=>∃ k,x=.bl k/\Q k H'):=by
 rintro σ H Q ⟨F,ds,A,xe,S,x,q⟩;refine⟨F,ds,A,xe,S,x,h.m _ _ _ _ _ (λ d ds1 q v H1 F1 T A1 r1 S1 o1 s1=>?_) (λ _ _ z=>z) q⟩;obtain⟨b,e,q⟩:=qa7.mp q;exact⟨b,r1.asB e,q H1 F1 A1 S1 (s1.count λ b=>by rw[zA0];lia)⟩
theorem qK6:∀ ds (Q Q':Bool->Ds->Prop) (xe xe':XKd),(∀ d ds',Q d ds'->Q' d ds')->(∀ x ds',xe x ds'->xe' x ds')->ttV f ds Q xe->ttV f ds Q' xe':=λ ds Q Q' xe xe' hQ _=>qa6 λ d=>hQ d ds
theorem qK7(h:VE c X e t):∀ ds (Q Q':Bool->Ds->Prop) (xe xe':XKd),(∀ d ds',Q d ds'->Q' d ds')->(∀ x ds',xe x ds'->xe' x ds')->ttE t ds Q xe->ttE t ds Q' xe':=λ ds Q Q' xe xe' hQ hx=>h.m _ _ _ _ _ (λ d ds'=>qa6 λ z=>hQ z ds') hx
theorem tv(h:VV c X e own f)(he:∀ whole,isTrue e X.env whole=(do let v <- whole;standAt e.pos;holding [v] (truthy v)):=by intro _;rfl):VTe c X e (ttV f):=⟨PT.mono (qad3 h.h he) qak4,qK6⟩
theorem te(h:VE c X e t)(he:∀ whole,isTrue e X.env whole=(do let v <- whole;standAt e.pos;holding [v] (truthy v)):=by intro _;rfl):VTe c X e (ttE t):=⟨PT.mono (qad3 h.h he) (qak5 h),qK7 h⟩
theorem q2(p:T2 X e a b r)(h:Av nw r g)(ha:VV c X a oa fa)(hb:VV c X b ob fb):VTe c X e (ttV (f2 g fa fb)):=⟨PT.mono (p _ _ ha.h hb.h) λ σ H Q q=>op_vv h σ H _ (qak4 σ H Q q),qK6⟩
theorem q2v(p:P2 X e a b r)(p':T2 X e a b r)(h:Av true r g)(ha:VE c X a ta)(hb:VV c X b ob fb):VTe c X e (ttE (t2v g ta fb)):=⟨PT.mono (p' _ _ ha.h hb.h) λ σ H Q q=>op_ev ha h σ H _ (qak5 (e2v p h ha hb) σ H Q q),qK7 (e2v p h ha hb)⟩
variable{qa qb:VTT}{rest:List Expr}
def Dv(t:VTT):VTT:=λ ds Q xe=>t ds (λ b ds'=>Q (!b) ds') xe
theorem Bu(h:VTe c X a qa):VTe c X (.UnaryOp .Not a pos) (Dv qa):=by
 refine⟨PT.mono (qau9 h.h) λ σ H Q ⟨F,ds,A,xe,S,x,q⟩=>⟨F,ds,A,xe,S,x,q⟩,λ ds Q Q' xe xe' hQ hx=>h.m _ _ _ _ _ (λ b ds'=>hQ _ ds') hx⟩
structure VTw(c:Vc)(X:Cx)(e:Expr)(t:VTT):Prop where
 h:PW X e (Bw c t)
 m:∀ ds (Q Q':Bool->Ds->Prop) (xe xe':XKd),(∀ d ds',Q d ds'->Q' d ds')->(∀ x ds',xe x ds'->xe' x ds')->t ds Q xe->t ds Q' xe'
theorem VTw.te(h:VTw c X e qa):VTe c X e qa:=⟨h.h.pt,h.m⟩
theorem Eg(h:VTe c X a qa):VTw c X (.BoolOp .And [a] pos) qa:=⟨qam1 h.h,h.m⟩
theorem Hf(h:VTe c X a qa):VTw c X (.BoolOp .Or [a] pos) qa:=⟨qau7 h.h,h.m⟩
def ttAnd(t u:VTT):VTT:=λ ds Q xe=>t ds (λ k ds1=>if k=true then u ds1 Q xe else Q false ds1) xe
def ttOr(t u:VTT):VTT:=λ ds Q xe=>t ds (λ k ds1=>if k=true then Q true ds1 else u ds1 Q xe) xe
theorem qF2{k:Bool->St->Hp->(Bool->Hp->Prop)->Prop}{K:Bool->Ds->(Bool->Ds->Prop)->XKd->Prop}(ha:VTe c X a qa)(hk:∀(b:Bool) F ds A xe σ H (Q:Bool->Hp->Prop),Sta c F H σ ds A->Xc c xe F H A->K b ds (λ b' ds'=>∀ H' F' A',Sta c F' H' σ ds' A'->Stp F H A F' H' A'->Q b' H') xe->k b σ H Q)(hm:∀(b:Bool) ds (Q Q':Bool->Ds->Prop) (xe:XKd),(∀ d ds',Q d ds'->Q' d ds')->K b ds Q xe->K b ds Q' xe):∀ σ H Q,Bw c (λ ds Q xe=>qa ds (λ b ds1=>K b ds1 Q xe) xe) σ H Q->Bw c qa σ H (λ b H1=>k b σ H1 Q):=by
 rintro σ H Q ⟨F,ds,A,xe,S,x,q⟩;refine⟨F,ds,A,xe,S,x,ha.m _ _ _ _ _ (λ b ds1 q H1 F1 A1 S1 s1=>?_) (λ _ _ z=>z) q⟩;exact hk b F1 ds1 A1 xe σ H1 Q S1 (x.step s1) (hm b ds1 _ _ xe (λ b' ds' q H' F' A' S' s'=>q H' F' A' S' (s1.trans s')) q)
theorem Fl(ha:VTe c X a qa)(hb:VTw c X (.BoolOp .And (b::rest) pos) qb):VTw c X (.BoolOp .And (a::b::rest) pos) (ttAnd qa qb):=by
 refine⟨PW.mono (qau8 ha.h hb.h) ?_,λ ds Q Q' xe xe' hQ hx=>ha.m _ _ _ _ _ (λ k ds1 q=>?_) hx⟩
 . refine qF2 (k:=λ b σ H Q=>if b=true then Bw c qb σ H Q else Q false H) (K:=λ b ds Q xe=>if b=true then qb ds Q xe else Q false ds) ha ?_ ?_
   . intro b F ds A xe σ H Q S x q
     cases b with
     | true=>rw[if_pos rfl] at q ⊢;exact⟨F,ds,A,xe,S,x,q⟩
     | false=>rw[if_neg (by decide)] at q ⊢;exact q H F A S Stp.refl
   intro b ds Q Q' xe hQ;cases b with
   | true=>rw[if_pos rfl,if_pos rfl];exact hb.m _ _ _ _ _ hQ λ _ _ z=>z
   | false=>rw[if_neg (by decide),if_neg (by decide)];exact hQ _ _
 cases k with
 | true=>rw[if_pos rfl] at q ⊢;exact hb.m _ _ _ _ _ hQ hx q
 | false=>rw[if_neg (by decide)] at q ⊢;exact hQ _ _ q
theorem tor(ha:VTe c X a qa)(hb:VTw c X (.BoolOp .Or (b::rest) pos) qb):VTw c X (.BoolOp .Or (a::b::rest) pos) (ttOr qa qb):=by
 refine⟨PW.mono (pw_or ha.h hb.h) ?_,λ ds Q Q' xe xe' hQ hx=>ha.m _ _ _ _ _ (λ k ds1 q=>?_) hx⟩
 . refine qF2 (k:=λ b σ H Q=>if b=true then Q true H else Bw c qb σ H Q) (K:=λ b ds Q xe=>if b=true then Q true ds else qb ds Q xe) ha ?_ ?_
   . intro b F ds A xe σ H Q S x q
     cases b with
     | false=>rw[if_neg (by decide)] at q ⊢;exact⟨F,ds,A,xe,S,x,q⟩
     | true=>rw[if_pos rfl] at q ⊢;exact q H F A S Stp.refl
   intro b ds Q Q' xe hQ;cases b with
   | false=>rw[if_neg (by decide),if_neg (by decide)];exact hb.m _ _ _ _ _ hQ λ _ _ z=>z
   | true=>rw[if_pos rfl,if_pos rfl];exact hQ _ _
 cases k with
 | false=>rw[if_neg (by decide)] at q ⊢;exact hb.m _ _ _ _ _ hQ hx q
 | true=>rw[if_pos rfl] at q ⊢;exact hQ _ _ q
end
section
variable{c:Vc}{X:Cx}{a b e:Expr}{oa ob own nw:Bool}{fa fb f:FV}{ta tb t:VT}{pos:Pos}{rest:List Expr}
def tSeqE(ta:VT)(k:D->VT):VT:=λ ds Q xe=>ta ds (λ x ds1=>k x ds1 Q xe) xe
theorem qag0{k:V->St->Hp->VK->Prop}{K:D->VT}(ha:VE c X a ta)(hm:∀ x ds (Q Q':DK) (xe xe':XKd),(∀ d ds',Q d ds'->Q' d ds')->(∀ x ds',xe x ds'->xe' x ds')->K x ds Q xe->K x ds Q' xe')(hk:∀ F H σ v x T,Rep F H v x T->∀ Q,(∃ ds A xe,Sta c F H σ ds A/\Xc c xe F H A/\K x ds (λ d ds'=>∀ v H' F' T A',Rep F' H' v d T->Sta c F' H' σ ds' A'->Ok F' H' (T++A')->Stp F H A F' H' (T++A')->Q v H') xe)->k v σ H Q) :
   ∀ σ H Q,A7 c (tSeqE ta K) σ H Q->A7 c ta σ H (λ x H1=>k x σ H1 Q):=by
 rintro σ H Q ⟨F,ds,A,xe,S,x,q⟩;refine⟨F,ds,A,xe,S,x,ha.m _ _ _ _ _ (λ d ds1 q v H1 F1 T A1 r1 S1 o1 s1=>?_) (λ _ _ z=>z) q⟩;have s1':Stp F H A F1 H1 A1:=s1.count λ b=>by rw[zA0];lia
 exact hk F1 H1 σ v d T r1 Q ⟨ds1,A1,xe,S1,x.step s1',hm d ds1 _ _ _ _ (λ d' ds' q w H' F' T' A' r S' o s=>q w H' F' T' A' r S' o (s1'.trans s)) (λ _ _ z=>z) q⟩
def Hg(ta tb:VT):VT:=tSeqE ta λ x ds Q xe=>orF x.asB λ k=>if k=true then tb ds Q xe else Q (.bl false) ds
theorem qG1{k:Bool}{p q p' q':Prop}(h1:p->p')(h2:q->q'):(if k=true then p else q)->(if k=true then p' else q'):=by
 cases k with
 | true=>rw[if_pos rfl,if_pos rfl];exact h1
 | false=>rw[if_neg (by decide),if_neg (by decide)];exact h2
theorem qR7(hb:VE c X e tb):∀(x:D) ds (Q Q':DK) (xe xe':XKd),(∀ d ds',Q d ds'->Q' d ds')->(∀ x ds',xe x ds'->xe' x ds')->(orF x.asB λ k=>if k=true then tb ds Q xe else Q (.bl false) ds)->(orF x.asB λ k=>if k=true then tb ds Q' xe' else Q' (.bl false) ds) :=
 λ x ds Q Q' xe xe' hQ hx=>qa6 λ k=>qG1 (hb.m _ _ _ _ _ hQ hx) (hQ _ _)
theorem Hh{op:PySem.BoolOp}(h:VE c X a ta):VE c X (.BoolOp op [a] pos) ta:=⟨qan1 h.h,h.m⟩
theorem Fy(ha:VE c X a ta)(hb:VE c X (.BoolOp .And (b::rest) pos) tb):VE c X (.BoolOp .And (a::b::rest) pos) (Hg ta tb):=by
 refine⟨PE.mono (qan9 ha.h hb.h) ?_,λ ds Q Q' xe xe' hQ hx=>ha.m _ _ _ _ _ (λ d ds1=>qR7 hb d ds1 Q Q' xe xe' hQ hx) hx⟩;refine qag0 (k:=λ v σ H Q=>∃ c',v=.bl c'/\if c'=true then A7 c tb σ H Q else Q (.bl false) H) ha (qR7 hb) ?_;rintro F H σ v x T r Q ⟨ds,A,xe,S,xc,q⟩;obtain⟨k,ek,q⟩:=qa7.mp q;refine⟨k,r.asB ek,?_⟩;cases k with
 | true=>rw[if_pos rfl] at q ⊢;exact⟨F,ds,A,xe,S,xc,q⟩
 | false=>rw[if_neg (by decide)] at q ⊢;exact q _ H F [] A (.bl _) S S.ok Stp.refl
def fAnd(fa fb:FV):FV:=λ ds=>(fa ds).bind λ x=>x.asB.bind λ k=>if k=true then fb ds else some (.bl false)
def fOr(fa fb:FV):FV:=λ ds=>(fa ds).bind λ x=>x.asB.bind λ k=>if k=true then some (.bl true) else fb ds
def fNot(fa:FV):FV:=λ ds=>(fa ds).bind λ x=>x.asB.map λ k=>.bl (!k)
theorem vone{op:PySem.BoolOp}(h:VV c X a oa fa):VV c X (.BoolOp op [a] pos) oa fa:=⟨qan1 h.h⟩
theorem vand(ha:VV c X a oa fa)(hb:VV c X (.BoolOp .And (b::rest) pos) ob fb):VV c X (.BoolOp .And (a::b::rest) pos) ob (fAnd fa fb):=by
 refine⟨PE.mono (qan9 ha.h hb.h) λ σ H Q ⟨F,ds,A,d,S,e,q⟩=>?_⟩;obtain⟨x,h1,e⟩:=zA1.mp e;obtain⟨k,h2,e⟩:=zA1.mp e;refine⟨F,ds,A,x,S,h1,λ v H1 B1 r1 s1 n1=>⟨k,r1.asB h2,?_⟩⟩;cases k with
 | true=>rw[if_pos rfl] at e ⊢;exact⟨F,ds,A,d,S.same s1,e,λ w H2 B2 r2 s2 n2=>q w H2 B2 r2 (s1.trans s2) λ ho=>⟨(n2 ho).one,λ b o e=>(n2 ho).new b o (s1 b o e)⟩⟩
 | false=>rw[if_neg (by decide)] at e ⊢;cases e;exact q _ H1 [] (.bl _) s1 λ _=>New.nil
theorem vor(ha:VV c X a oa fa)(hb:VV c X (.BoolOp .Or (b::rest) pos) ob fb):VV c X (.BoolOp .Or (a::b::rest) pos) ob (fOr fa fb):=by
 refine⟨PE.mono (pe_or ha.h hb.h) λ σ H Q ⟨F,ds,A,d,S,e,q⟩=>?_⟩;obtain⟨x,h1,e⟩:=zA1.mp e;obtain⟨k,h2,e⟩:=zA1.mp e;refine⟨F,ds,A,x,S,h1,λ v H1 B1 r1 s1 n1=>⟨k,r1.asB h2,?_⟩⟩;cases k with
 | false=>rw[if_neg (by decide)] at e ⊢;exact⟨F,ds,A,d,S.same s1,e,λ w H2 B2 r2 s2 n2=>q w H2 B2 r2 (s1.trans s2) λ ho=>⟨(n2 ho).one,λ b o e=>(n2 ho).new b o (s1 b o e)⟩⟩
 | true=>rw[if_pos rfl] at e ⊢;cases e;exact q _ H1 [] (.bl _) s1 λ _=>New.nil
theorem vnot(ha:VV c X a oa fa):VV c X (.UnaryOp .Not a pos) true (fNot fa):=by
 refine⟨PE.mono (qav7 ha.h) λ σ H Q ⟨F,ds,A,d,S,e,q⟩=>?_⟩;obtain⟨x,h1,e⟩:=zA1.mp e;obtain⟨k,h2,rfl⟩:=zAk.mp e;exact⟨F,ds,A,x,S,h1,λ v H1 B1 r1 s1 n1=>⟨k,r1.asB h2,q _ H1 [] (.bl _) s1 λ _=>New.nil⟩⟩
def gNeg:D->Option D
 | .int i=>some (.int (-i))
 | _=>none
theorem qaw2:OpS1 true (rU λ i=>.int (-i)) gNeg:=by
 intro F H v x B d Q r h q;cases x with
 | int i=>cases h;cases r;exact⟨i,rfl,q _ H [] (.int _) (λ _ _ z=>z) New.nil⟩
 | _=>cases h
theorem Gq(ha:VV c X a oa fa):VV c X (.UnaryOp .USub a pos) true (f1 gNeg fa):=⟨PE.mono (pe_un qat6 ha.h) (op_v (nw:=true) qaw2)⟩
theorem E8{f:Str}{C:Addr}{K:PySem.W.Frag}(hK:X.K=K)(ha:VV c X a oa fa)(cl:Cls K C)(n:qe3 K C f)(hb:attributeBase a f X.env (eval a X.env)=eval a X.env:=by rfl):VV c X (.Attribute a f pos) oa (f1 (D.fld C f) fa):=by
 subst hK;exact⟨PE.mono (qav9 ha.h hb) (op_v (nw:=false) (qaw4 cl n))⟩
variable{rc:List V->Hp->VK->Prop}{gc:Ds->Option D}{x:Str}{p:Pos}{es:List Expr}{fs:Ds->Option Ds}{tos:VTA}
def Aw(gc:Ds->Option D)(fs:Ds->Option Ds):FV:=λ ds=>(fs ds).bind gc
theorem vbi{id:String}(hc:CallR X (.builtin id) rc)(h:OpS nw rc gc)(hm:X.mg x=none)(ha:VVs c X (e::es) own fs)(hg:Gl X x:=by rfl)(hv:bootBuiltins x=some (.builtin id):=by rfl)(hn:x ≠ "__name__" := by decide)(hdb:(x == ("__debug__" : Str))=false:=by decide)(he:starEach (e::es) X.env=(false,eval e X.env)::starEach es X.env:=by rfl)(hpl:((backTo pos (starEach es X.env)).any λ x=>x.1)=false:=by rfl) :
   VV c X (.Call (.Name x p) (e::es) [] pos) (nw||own) (Aw gc fs):=⟨PE.mono (cbi hc hm ha.h hg hv hn hdb he hpl) (qao4 h)⟩
theorem Fm{id:String}(hc:CallR X (.type id) rc)(h:OpS nw rc gc)(hm:X.mg x=none)(ha:VVs c X (e::es) own fs)(hg:Gl X x:=by rfl)(hv:bootBuiltins x=some (.type id):=by rfl)(hn:x ≠ "__name__" := by decide)(hdb:(x == ("__debug__" : Str))=false:=by decide)(he:starEach (e::es) X.env=(false,eval e X.env)::starEach es X.env:=by rfl)(hpl:((backTo pos (starEach es X.env)).any λ x=>x.1)=false:=by rfl) :
   VV c X (.Call (.Name x p) (e::es) [] pos) (nw||own) (Aw gc fs):=⟨PE.mono (cty hc hm ha.h hg hv hn hdb he hpl) (qao4 h)⟩
theorem ebi{id:String}(hc:CallR X (.builtin id) rc)(h:OpS true rc gc)(hm:X.mg x=none)(ha:VOs c X (e::es) tos)(hg:Gl X x:=by rfl)(hv:bootBuiltins x=some (.builtin id):=by rfl)(hn:x ≠ "__name__" := by decide)(hdb:(x == ("__debug__" : Str))=false:=by decide)(he:starEach (e::es) X.env=(false,eval e X.env)::starEach es X.env:=by rfl)(hpl:((backTo pos (starEach es X.env)).any λ x=>x.1)=false:=by rfl) :
   VE c X (.Call (.Name x p) (e::es) [] pos) (tcO gc tos):=⟨PE.mono (cbi hc hm ha.h hg hv hn hdb he hpl) (opc_o ha h),qab6 ha⟩
def gLst(xs:Ds):Option D:=gd (D.imms xs=true/\xs.length<=big) (.lst false xs)
def gTup(xs:Ds):Option D:=gd (D.imms xs=true/\xs.length<=big) (.tup xs)
theorem Bf(ha:VVs c X es own fs):VV c X (.List es pos) true (Aw gLst fs):=by
 refine⟨PE.mono (qT3 ha.h) λ σ H Q ⟨F,ds,A,d,S,e,q⟩=>?_⟩;obtain⟨xs,e1,e2⟩:=zA1.mp e;obtain⟨hm,rfl⟩:=qk7 e2;refine⟨F,ds,A,xs,S,e1,λ vs H1 B1 r1 s1 n1=>⟨by rw[r1.len];exact zAm hm.2 qe5,λ p hp=>?_⟩⟩;exact q _ _ [p] (qs5 hp (r1.imms0 hm.1)) (s1.trans (Same.new hp)) λ _=>⟨(qe6 hp).one,λ b o e=>(qe6 hp).new b o (s1 b o e)⟩
theorem Bq{k:Nat}(ha:VVs c X es own fs):VV c X (.Tuple es k pos) true (Aw gTup fs):=by
 refine⟨PE.mono (qae0 ha.h) λ σ H Q ⟨F,ds,A,d,S,e,q⟩=>?_⟩;obtain⟨xs,e1,e2⟩:=zA1.mp e;obtain⟨hm,rfl⟩:=qk7 e2;refine⟨F,ds,A,xs,S,e1,λ vs H1 B1 r1 s1 n1=>⟨by rw[r1.len];exact zAm hm.2 qe5,λ p hp=>?_⟩⟩;exact q _ _ [] (qO0 hp (r1.imms0 hm.1)) (s1.trans (Same.new hp)) λ _=>New.nil
def FO:=Ds->Option (Option Int)
inductive qat4(c:Vc)(f:FO)(σ:St)(H:Hp)(Q:Option Int->Hp->Prop):Prop
 | mk (F:Addr->Prop) (ds:Ds) (A:List Addr) (i:Option Int) (S:Sta c F H σ ds A) (e:f ds=some i) (q:∀ H',Same H H'->Q i H'):qat4 c f σ H Q
def qax9(c:Vc)(f:FO):TO:=qat4 c f
structure VPO(c:Vc)(X:Cx)(e:Option Expr)(f:FO):Prop where
 h:PO X e (qax9 c f)
theorem PO.mono{X:Cx}{e:Option Expr}{t t':TO}(h:PO X e t)(i:∀ σ H Q,t' σ H Q->t σ H Q):PO X e t':=λ Dk s σ H Q I q=>h Dk s σ H Q I (i σ H Q q)
def foN:FO:=λ _=>some none
def D.asI:D->Option Int
 | .int i=>some i
 | _=>none
theorem Rep.asI{F:Addr->Prop}{H:Hp}{d:D}{B:List Addr}{k:Int}(r:Rep F H v d B)(h:d.asI=some k):v=.int k:=by
 cases r<;>cases h<;>rfl
def foS(f:FV):FO:=λ ds=>(f ds).bind λ d=>d.asI.map some
theorem Et:VPO c X none foN:=⟨PO.mono qY5 λ σ H Q ⟨F,ds,A,i,S,e,q⟩=>by cases e;exact q H λ _ _ z=>z⟩
theorem Eu(h:VV c X e own f):VPO c X (some e) (foS f):=by
 refine⟨PO.mono (qY4 h.h) λ σ H Q ⟨F,ds,A,i,S,e,q⟩=>?_⟩;obtain⟨d,e1,e2⟩:=zA1.mp e;obtain⟨j,e3,rfl⟩:=zAk.mp e2;exact⟨F,ds,A,d,S,e1,λ v H' B r s _=>⟨j,r.asI e3,q H' s⟩⟩
def noT:D->Bool
 | .tup _=>false
 | _=>true
def fsl(fa:FV)(lo hi:FO):FV:=λ ds=>(fa ds).bind λ x=>(lo ds).bind λ l=>(hi ds).bind λ h=>if noT x=true then gSl x l h else none
theorem vsl{lo hi:Option Expr}{fl fh:FO}{p2:Pos}(ha:VV c X a oa fa)(hl:VPO c X lo fl)(hh:VPO c X hi fh):VV c X (.Subscript a (.Slice lo hi none p2) pos) true (fsl fa fl fh):=by
 refine⟨PE.mono (qN1 qX4 ha.h hl.h hh.h) λ σ H Q ⟨F,ds,A,d,S,e,q⟩=>?_⟩;obtain⟨x,e1,e⟩:=zA1.mp e;obtain⟨l,e2,e⟩:=zA1.mp e;obtain⟨h,e3,e⟩:=zA1.mp e;by_cases hx:noT x=true
 . rw[if_pos hx] at e
   refine⟨F,ds,A,x,S,e1,λ v H1 B1 r1 s1 _=>⟨F,ds,A,l,S.same s1,e2,λ H2 s2=>⟨F,ds,A,h,(S.same s1).same s2,e3,λ H3 s3=>?_⟩⟩⟩;have s13:=(s1.trans s2).trans s3;refine os_sl ((r1.same s2).same s3) e (λ ys z=>by subst z;cases hx) λ w H' B' r' s' n'=>q w H' B' r' (s13.trans s') λ _=>⟨n'.one,λ b o e=>n'.new b o (s13 b o e)⟩
 rw[if_neg hx] at e;cases e
def fget(fa fk fz:FV):FV:=λ ds=>(fa ds).bind λ x=>(fk ds).bind λ y=>(fz ds).bind λ z=>match x with
 | .dct _ kvs=>y.key.bind λ k=>gd (((Bt kvs k).getD z).imm=true) ((Bt kvs k).getD z)
 | _=>none
theorem vget{k z:Expr}{ok oz:Bool}{fk fz:FV}{apos cpos:Pos}(hu:X.A.units+1 < cLine)(ha:VV c X a oa fa)(hk:VV c X k ok fk)(hz:VV c X z oz fz)(m:M2 X a "get" apos k z cpos):VV c X (.Call (.Attribute a "get" apos) [k,z] [] cpos) true (fget fa fk fz):=by
 refine⟨PE.mono (qae2 hu ha.h hk.h hz.h m) λ σ H Q ⟨F,ds,A,d,S,e,q⟩=>?_⟩;obtain⟨x,e1,e⟩:=zA1.mp e;obtain⟨y,e2,e⟩:=zA1.mp e;obtain⟨w,e3,e⟩:=zA1.mp e;cases x with
 | dct z kds =>
   obtain⟨ky,e4,e⟩:=zA1.mp e;obtain⟨hm,rfl⟩:=qk7 e;refine⟨F,ds,A,_,S,e1,λ v H1 B1 r1 s1 _=>?_⟩;obtain⟨a,kvs,A2,rfl,hs,ek,rs,_⟩:=r1.dct_inv;refine⟨a,rfl,.inl ⟨kvs,.inl hs⟩,F,ds,A,y,S.same s1,e2,λ u H2 B2 r2 s2 _=>⟨F,ds,A,w,(S.same s1).same s2,e3,λ u3 H3 B3 r3 s3 _=>?_⟩⟩;have hs3:=s3 _ _ (s2 _ _ hs);refine⟨Dz kvs ky,.inl ⟨kvs,ky,.inl hs3,(r2.key e4),rfl⟩,?_⟩;have s13:=(s1.trans s2).trans s3;rcases qak1 ky ek rs with⟨n1,n2⟩ | ⟨vv,dd,BB,n1,n2,n3,n4⟩
   . rw[n1] at hm q;rw[n2]
     have:=r3.imm hm
     subst this;exact q _ H3 [] r3 s13 λ _=>New.nil
   rw[n1] at hm q;rw[n2]
   have:=n3.imm hm
   subst this;exact q _ H3 [] ((n3.same s2).same s3) s13 λ _=>New.nil
 | _=>cases e
end
section
variable{c:Vc}{X:Cx}{a b e:Expr}{pos:Pos}{F F':Addr->Prop}{H H':Hp}{σ:St}{ds:Ds}{A:List Addr}
theorem Sta.put1{d:D}(S:Sta c F H σ ds A)(h:ds[i]? = some d)(hd:d≠.unk):∃(v:V)(B C:List Addr),(σ++c.gv)[i]? = some (some v)/\Rep F H v d B/\(∀ b,A.count b=B.count b+C.count b) /\
   ∀{F':Addr->Prop}{H':Hp}{W:Addr->Prop}(d':D)(B':List Addr),Kp F H W F' H'->(∀ b∈C,¬ W b)->Rep F' H' v d' B'->∃ A':List Addr,Locs F' H' (σ++c.gv) (ds.set i d') A'/\∀ b,A'.count b=B'.count b+C.count b:=by
 have hg:A4 ds i []=some d:=by unfold A4;rw[h];rfl
 obtain⟨u,w,B,C,h1,h2,h3,h4,h5⟩:=S.loc.place hg hd;cases h2;refine⟨u,B,C,h1,h3,h4,λ{F' H' W} d' B' k hc r=>?_⟩;obtain⟨A',q1,q2⟩:=h5 d' B' k hc r;refine⟨A',?_,q2⟩;unfold Bp at q1;rw[h] at q1;exact q1
theorem qu8{d:D}(h:d.known=true):d≠.unk:=λ z=>by subst z;cases h
def tMv(i:Nat):VT:=λ ds Q _=>orF (rdN i ds) λ d=>Q d (ds.set i .unk)
theorem emv(i:Nat){x:Str}(hN:X.N[i]? = some x:=by rfl)(hv:Vis X.env.scope x:=by first | exact Or.inl rfl | exact Or.inr (Or.inl rfl) | exact Or.inr (Or.inr rfl))(hd:(x == ("__debug__" : Str))=false:=by decide)(hcd:(x == ("__classdict__" : Str))=false:=by decide) :
   VE c X (.Name x pos) (tMv i):=by
 refine⟨λ Dk s σ H Q I ⟨F,ds,A,xe,S,x,q⟩=>qp0 hN hv hd hcd Dk s σ H Q I ?_,λ ds Q Q' xe xe' hQ _=>qa6 λ d=>hQ _ _⟩;obtain⟨d,ed,q⟩:=qa7.mp q;obtain⟨ed,hk⟩:=qh4.mp ed;obtain⟨v,B,C,h1,h2,h3,h4⟩:=S.put1 ed (qu8 hk);have hi:=qm0 hN Dk σ H s I;rw[zAo hi] at h1;obtain⟨A',q1,q2⟩:=h4 .unk [] (Kp.same (λ _ _ z=>z)) (λ _ _ z=>z) (.unk v);refine⟨v,h1,q v H F B A' h2 ⟨q1,S.ok.count λ b=>by rw[q2,h3];simp,S.len,S.ag⟩ (S.ok.count λ b=>by rw[zA0,q2,h3];simp) ?_⟩;exact⟨λ _ _ e _=>e,λ b o e z=>by rw[zA0,q2];have:=h3 b;simp;lia,λ _ f=>f,λ _ _ _ _ f=>f⟩
def tFz(i:Nat):VT:=λ ds Q _=>orF (rdN i ds) λ d=>Q d.fz (ds.set i d.fz)
theorem share{B C:List Addr}(o:Ok F H A)(hc:∀ b,A.count b=B.count b+C.count b)(cb:∀ b∈B,∃ o,H b=some o/\B7 o=true){A':List Addr}(ha:∀ b,A'.count b=C.count b) :
   Ok (λ b=>F b∨b∈B) H A'/\Stp F H A (λ b=>F b∨b∈B) H A':=by
 refine⟨⟨λ b=>by rw[ha];have:=o.sep b;have:=hc b;lia,λ b f=>?_,λ b f=>?_⟩,λ _ _ e _=>e,λ b o e z=>by rw[ha];have:=hc b;lia,λ b f=>.inl f,λ b u e z f=>?_⟩
 . rw[ha]
   rcases f with f | f
   . have:=o.fro b f;have:=hc b;lia
   have:=qa9.mp f;have:=o.sep b;have:=hc b;lia
 . rcases f with f | f
   . exact o.ex b f
   exact let ⟨u,e,_⟩:=cb b f;⟨u,e⟩
 rcases f with f | f
 . exact f
 have:=qa9.mp f;have:=hc b;lia
theorem efz(i:Nat){x:Str}(hN:X.N[i]? = some x:=by rfl)(hv:Vis X.env.scope x:=by first | exact Or.inl rfl | exact Or.inr (Or.inl rfl) | exact Or.inr (Or.inr rfl))(hd:(x == ("__debug__" : Str))=false:=by decide)(hcd:(x == ("__classdict__" : Str))=false:=by decide) :
   VE c X (.Name x pos) (tFz i):=by
 refine⟨λ Dk s σ H Q I ⟨F,ds,A,xe,S,x,q⟩=>qp0 hN hv hd hcd Dk s σ H Q I ?_,λ ds Q Q' xe xe' hQ _=>qa6 λ d=>hQ _ _⟩;obtain⟨d,ed,q⟩:=qa7.mp q;obtain⟨ed,hk⟩:=qh4.mp ed;obtain⟨v,B,C,h1,h2,h3,h4⟩:=S.put1 ed (qu8 hk);have hi:=qm0 hN Dk σ H s I;rw[zAo hi] at h1;have rz:=h2.fz (F':=λ b=>F b∨b∈B) (λ b f=>.inl f) λ b hb=>.inr hb
 obtain⟨A',q1,q2⟩:=h4 d.fz [] (Kp.more (H:=H) λ b f=>Or.inl f) (λ _ _ z=>z) rz;obtain⟨o',s'⟩:=share S.ok h3 h2.cells (A':=A') (λ b=>by rw[q2];simp);exact⟨v,h1,q v H _ [] A' rz ⟨q1,o',S.len,S.ag⟩ o' s'⟩
abbrev PF:=Ds->Option (Nat×List Nat)
inductive LiftP(c:Vc)(pf:PF)(σ:St)(H:Hp)(Q:VK):Prop
 | mk (F:Addr->Prop) (ds:Ds) (A:List Addr) (i:Nat) (p:List Nat) (d:D) (S:Sta c F H σ ds A) (e:pf ds=some (i,p)) (g:A4 ds i p=some d) (n:d≠.unk) (q:∀ u w H',(σ++c.gv)[i]? = some (some u)->Walk H' u p w->Same H H'->Q w H'):LiftP c pf σ H Q
def liftP(c:Vc)(pf:PF):TE:=LiftP c pf
structure VP(c:Vc)(X:Cx)(e:Expr)(pf:PF):Prop where
 h:PE X e (liftP c pf)
theorem vpn(i:Nat){x:Str}(hN:X.N[i]? = some x:=by rfl)(hv:Vis X.env.scope x:=by first | exact Or.inl rfl | exact Or.inr (Or.inl rfl) | exact Or.inr (Or.inr rfl))(hd:(x == ("__debug__" : Str))=false:=by decide)(hcd:(x == ("__classdict__" : Str))=false:=by decide) :
   VP c X (.Name x pos) (λ _=>some (i,[])):=by
 refine⟨λ Dk s σ H Q I ⟨F,ds,A,j,p,d,S,e,hg,hd',q⟩=>qp0 hN hv hd hcd Dk s σ H Q I ?_⟩;cases e;obtain⟨u,w,B,C,h1,h2,h3,h4,h5⟩:=S.loc.place hg hd';cases h2;have hi:=qm0 hN Dk σ H s I;have h1':=h1;rw[zAo hi] at h1';exact⟨u,h1',q u u H h1 rfl λ _ _ z=>z⟩
theorem qx3:∀{p:List Nat}{d x:D}{q:List Nat},d.getP (p++q)=some x->∃ e,d.getP p=some e/\e.getP q=some x
 | [],d,x,q,h=>⟨d,rfl,h⟩
 | n::p,d,x,q,h=>by
   have h:D.getP d (n::(p++q))=some x:=h;unfold D.getP at h;cases hk:d.kids[n]? with
   | none=>rw[hk] at h;cases h
   | some y =>
     rw[hk] at h;obtain⟨e,h1,h2⟩:=qx3 (p:=p) h;exact⟨e,by unfold D.getP;rw[hk];exact h1,h2⟩
theorem qQ1{p q:List Nat}{x:D}(h:A4 ds i (p++q)=some x):∃ e,A4 ds i p=some e/\e.getP q=some x:=by
 unfold A4 at h ⊢;cases hi:ds[i]? with
 | none=>rw[hi] at h;cases h
 | some d=>rw[hi] at h;exact qx3 h
theorem Walk.snoc:∀{p:List Nat}{u v w:V}{n:Nat},Walk H u p v->Lnk H v n w->Walk H u (p++[n]) w
 | [],_,_,w,n,h,l=>by cases h;exact⟨w,l,rfl⟩
 | m::p,_,_,_,_,⟨x,h1,h2⟩,l=>⟨x,h1,h2.snoc l⟩
theorem qay2{d e:D}(h:d.getP [n]=some e):d≠.unk:=λ z=>by subst z;simp[D.getP,D.kids] at h
theorem Sta.place{p:List Nat}{d:D}{u:V}(S:Sta c F H σ ds A)(h:A4 ds i p=some d)(hd:d≠.unk)(hu:(σ++c.gv)[i]? = some (some u))(hw:Walk H u p w):∃(B C:List Addr),Rep F H w d B/\(∀ b,A.count b=B.count b+C.count b) /\
   ∀{F':Addr->Prop}{H':Hp}{W:Addr->Prop}(d':D)(B':List Addr),Kp F H W F' H'->(∀ b∈C,¬ W b)->Rep F' H' w d' B'->∃ A':List Addr,Locs F' H' (σ++c.gv) (Bp ds i p d') A'/\∀ b,A'.count b=B'.count b+C.count b:=by
 obtain⟨u',w',B,C,h1,h2,h3,h4,h5⟩:=S.loc.place h hd;rw[hu] at h1;cases h1;cases hw.fn h2;exact⟨B,C,h3,h4,h5⟩
def pfIx(pf:PF)(fb:FV):PF:=λ ds=>(pf ds).bind λ q=>(A4 ds q.1 q.2).bind λ d=>d.elems.bind λ ys=>(fb ds).bind λ y=>y.asI.bind λ k=>(ixN ys.length k).map λ n=>(q.1,q.2++[n])
theorem vpix{pf:PF}{ob:Bool}{fb:FV}(ha:VP c X a pf)(hb:VV c X b ob fb)(hs:qI7 b:=by exact λ _ _=>rfl):VP c X (.Subscript a b pos) (pfIx pf fb):=by
 refine⟨PE.mono (G1 qa8 ha.h hb.h hs) λ σ H Q ⟨F,ds,A,i,p,d,S,e,hg,hd,q⟩=>?_⟩;obtain⟨⟨j,p0⟩,e1,e⟩:=zA1.mp e;obtain⟨d0,e2,e⟩:=zA1.mp e;obtain⟨ys,e3,e⟩:=zA1.mp e;obtain⟨y,e4,e⟩:=zA1.mp e;obtain⟨k,e5,e⟩:=zA1.mp e;obtain⟨n,e6,e⟩:=zAk.mp e;cases e;obtain⟨d0',g1,g2⟩:=qQ1 hg;rw[e2] at g1;cases g1;have hne:=qay2 g2;refine⟨F,ds,A,j,p0,d0,S,e1,e2,hne,λ u w H1 hu hw s=>?_⟩;refine⟨F,ds,A,y,S.same s,e4,λ v2 H2 B2 r2 s2 _=>?_⟩;have s12:=s.trans s2;have hw2:=hw.same s2;obtain⟨B,C0,r,_,_⟩:=(S.same s12).place e2 hne hu hw2;cases r2.asI e5;have hn:n < ys.length:=(qF6 e6).2.1;cases d0 with
 | lst z ys' =>
   cases e3;obtain⟨a,vs,A3,rfl,ha,rs,_⟩:=r.lst_inv;obtain⟨vn,hv⟩:∃ x,vs[n]? = some x:=⟨_,zBj (by rw[rs.len];exact hn)⟩
   refine .inl ⟨a,vs,k,_,rfl,rfl,.inl (.inl ha),?_,q u _ H2 hu (hw2.snoc ⟨a,rfl,.inr (.inl ⟨vs,ha,hv⟩)⟩) s12⟩;unfold atI;rw[rs.len,e6];exact hv
 | tup ys' =>
   cases e3;obtain⟨a,vs,rfl,ha,rs⟩:=r.tup_inv;obtain⟨vn,hv⟩:∃ x,vs[n]? = some x:=⟨_,zBj (by rw[rs.len];exact hn)⟩
   refine .inr (.inl ⟨a,vs,k,_,rfl,rfl,.inl (.inl ha),?_,q u _ H2 hu (hw2.snoc ⟨a,rfl,.inl ⟨vs,ha,hv⟩⟩) s12⟩);unfold atI;rw[rs.len,e6];exact hv
 | _=>cases e3
end
inductive Pl where
 | no
 | sl (i:Nat)
 | pl (i:Nat) (p:List Nat) (w:V)
abbrev VTB:=Ds->(Ds->List Pl->Ds->Prop)->XKd->Prop
inductive Em(τ:List (Option V)):List V->List Pl->Prop
 | nil:Em τ [] []
 | no {v:V} {vs:List V} {ps:List Pl} (t:Em τ vs ps):Em τ (v::vs) (.no::ps)
 | sl {v:V} {vs:List V} {ps:List Pl} {i:Nat} (h:τ[i]? = some (some v)) (t:Em τ vs ps):Em τ (v::vs) (.sl i::ps)
 | so {v:V} {vs:List V} {ps:List Pl} {i:Nat} {p:List Nat} (t:Em τ vs ps):Em τ (v::vs) (.pl i p v::ps)
inductive LiftA(c:Vc)(t:VTB)(σ:St)(H:Hp)(Q:List V->Hp->Prop):Prop
 | mk (F:Addr->Prop) (ds:Ds) (A:List Addr) (xe:XKd) (S:Sta c F H σ ds A) (x:Xc c xe F H A) (q:t ds (λ xs pls ds'=>∀ vs H' F' T A',Reps F' H' vs xs T->Em (σ++c.gv) vs pls->Sta c F' H' σ ds' A'->Ok F' H' (T++A')->Stp F H A F' H' (T++A')->Q vs H') xe):LiftA c t σ H Q
def Dw(c:Vc)(t:VTB):TA:=LiftA c t
structure VAs(c:Vc)(X:Cx)(es:List Expr)(t:VTB):Prop where
 h:PA X es (Dw c t)
 m:∀ ds (Q Q':Ds->List Pl->Ds->Prop) (xe xe':XKd),(∀ d p ds',Q d p ds'->Q' d p ds')->(∀ x ds',xe x ds'->xe' x ds')->t ds Q xe->t ds Q' xe'
section
variable{c:Vc}{X:Cx}{e:Expr}{es:List Expr}{ta:VT}{tr:VTB}{F F':Addr->Prop}{H H':Hp}{σ:St}{ds:Ds}{A:List Addr}
def Ay:VTB:=λ ds Q _=>Q [] [] ds
theorem Ab:VAs c X [] Ay:=⟨PA.mono qn2 λ σ H Q ⟨F,ds,A,xe,S,x,q⟩=>q [] H F [] A .nil .nil S S.ok Stp.refl,λ ds Q Q' xe xe' hQ _=>hQ _ _ _⟩
def tbV(ta:VT)(tr:VTB):VTB:=λ ds Q xe=>ta ds (λ x ds1=>tr ds1 (λ xs ps ds2=>Q (x::xs) (.no::ps) ds2) xe) xe
theorem vaV(ha:VE c X e ta)(hr:VAs c X es tr)(hs:starEach (e::es) X.env=(false,eval e X.env)::starEach es X.env:=by rfl):VAs c X (e::es) (tbV ta tr):=by
 refine⟨PA.mono (qd4 ha.h hr.h hs) λ σ H Q ⟨F,ds,A,xe,S,x,q⟩=>?_,λ ds Q Q' xe xe' hQ hx=>ha.m _ _ _ _ _ (λ d ds1=>hr.m _ _ _ _ _ (λ xs ps ds2=>hQ _ _ _) hx) hx⟩;refine⟨F,ds,A,xe,S,x,ha.m _ _ _ _ _ (λ d1 ds1 q v H1 F1 T A1 r1 S1 o1 s1=>?_) (λ _ _ z=>z) q⟩;have s1':Stp F H A F1 H1 A1:=s1.count λ b=>by rw[zA0];lia
 refine⟨F1,ds1,A1,xe,S1,x.step s1',hr.m _ _ _ _ _ (λ xs ps ds2 q vs H2 F2 T2 A2 r2 pk S2 o2 s2=>?_) (λ _ _ z=>z) q⟩;have r1':Rep F2 H2 v d1 T:=r1.keep (s2.kp S1.ok S1.loc.cells) λ b hb hc=>by
   have:=o1.sep b
   rw[zA0] at this
   have:=qa9.mp hb
   lia
 obtain⟨o3,s3⟩:=s2.frame o1 r1.cells o2;exact q (v::vs) H2 F2 (T++T2) A2 (.cons r1' r2) (.no pk) S2 (by rw[zB0];exact o3) (by rw[zB0];exact s1.trans s3)
def tbN(i:Nat)(tr:VTB):VTB:=λ ds Q xe=>(rdN i ds).isSome=true/\tr ds (λ xs ps ds1=>orF (rdN i ds1) λ d=>Q (d::xs) (.sl i::ps) (ds1.set i .unk)) xe
theorem vaN(i:Nat){x:Str}{p:Pos}(hr:VAs c X es tr)(hs:starEach (.Name x p::es) X.env=(false,eval (.Name x p) X.env)::starEach es X.env:=by rfl)(hN:X.N[i]? = some x:=by rfl)(hv:Vis X.env.scope x:=by first | exact Or.inl rfl | exact Or.inr (Or.inl rfl) | exact Or.inr (Or.inr rfl))(hd:(x == ("__debug__" : Str))=false:=by decide)(hcd:(x == ("__classdict__" : Str))=false:=by decide) :
   VAs c X (.Name x p::es) (tbN i tr):=by
 refine⟨λ pos Dk s σ H Q I ⟨F,ds,A,xe,S,x,hs',q⟩=>qd4 (qp0 hN hv hd hcd) hr.h hs pos Dk s σ H Q I ?_,λ ds Q Q' xe xe' hQ hx=>And.imp_right (hr.m _ _ _ _ _ (λ xs ps ds1=>qa6 λ d=>hQ _ _ _) hx)⟩;have hi:=qm0 hN Dk σ H s I;obtain⟨d0,e0⟩:=zB3.mp hs';obtain⟨v,B0,hv0,_,_⟩:=S.name hi e0;refine⟨v,hv0,F,ds,A,xe,S,x,hr.m _ _ _ _ _ (λ xs ps ds1 q vs H2 F2 T2 A2 r2 pk S2 o2 s2=>?_) (λ _ _ z=>z) q⟩;obtain⟨d,ed,q⟩:=qa7.mp q;obtain⟨ed,hk⟩:=qh4.mp ed;obtain⟨v',B,C,h1,h2,h3,h4⟩:=S2.put1 ed (qu8 hk);have h1':=h1;rw[zAo hi,hv0] at h1;cases h1;obtain⟨A3,q1,q2⟩:=h4 .unk [] (Kp.same (F:=F2) λ _ _ z=>z) (λ _ _ z=>z) (.unk v);have hc:∀ b,((B++T2)++A3).count b<=(T2++A2).count b:=λ b=>by simp only[zA0,q2,h3];simp;lia
 exact q (v::vs) H2 F2 (B++T2) A3 (.cons h2 r2) (.sl h1' pk) ⟨q1,(o2.count hc).right,S.len,S.ag⟩ (o2.count hc) (s2.count hc)
def Ap:List Pl->Ds->Ds->Option Ds
 | [],_,ds=>some ds
 | .no::ps,_::ys,ds=>Ap ps ys ds
 | .sl i::ps,y::ys,ds=>Ap ps ys (ds.set i y)
 | .pl i p v::ps,y::ys,ds=>match A4 ds i p with
   | some (.hole w)=>if w=v then Ap ps ys (Bp ds i p y) else none
   | _=>none
 | _::_,[],_=>none
theorem qt5{τ:List (Option V)}{ds:Ds}{C B:List Addr}{y:D}(L:Locs F H τ ds C)(hi:τ[i]? = some (some v))(r:Rep F H v y B):∃ A':List Addr,Locs F H τ (ds.set i y) A'/\∀ b,A'.count b<=B.count b+C.count b:=by
 have hl:=L.len;have hlt:i < τ.length:=(zA5.mp hi).1;obtain⟨d,hd⟩:∃ d,ds[i]? = some d:=⟨_,zBj (by lia)⟩
 obtain⟨σ1,o,σ2,ds1,ds2,A1,B0,A2,e1,e2,e3,e4,e5,l1,l2,l3⟩:=L.split hd;have ho:τ[i]? = some o:=by rw[e1];exact qs9 e3
 rw[hi] at ho;cases ho;have e6:ds.set i y=ds1++y::ds2:=by
   have:=congrArg (λ l=>l.set i y) e2
   rw[this,qk1 e4]
 exact⟨A1++(B++A2),by rw[e1,e6];exact l1.append (.so r l3),λ b=>by rw[e5];simp only[zA0];lia⟩
theorem qm9{pls:List Pl}{ys ds ds':Ds}{σ:List (Option V)}{B C:List Addr}{more:List V}(pk:Em σ vs pls)(r:Reps F H (vs++more) ys B)(L:Locs F H σ ds C)(h:Ap pls ys ds=some ds'):∃ A':List Addr,Locs F H σ ds' A'/\∀ b,A'.count b<=B.count b+C.count b:=by
 induction pk generalizing ys ds B C with
 | nil =>
   have h:some ds=some ds':=by cases ys<;>exact h
   cases h;exact⟨C,L,λ b=>by lia⟩
 | no pk ih =>
   cases r with
   | @cons _ _ A1 _ _ B1 r1 t =>
     obtain⟨A',q1,q2⟩:=ih t L h;exact⟨A',q1,λ b=>by rw[zA0];have:=q2 b;lia⟩
 | sl hi pk ih =>
   cases r with
   | @cons _ _ A1 _ _ B1 r1 t =>
     obtain⟨A2,q1,q2⟩:=qt5 L hi r1;obtain⟨A',q3,q4⟩:=ih t q1 h;exact⟨A',q3,λ b=>by rw[zA0];have:=q4 b;have:=q2 b;lia⟩
 | @so v _ _ i p pk ih =>
   cases r with
   | @cons _ y A1 _ _ B1 r1 t =>
     unfold Ap at h;split at h
     . rename_i w hg
       by_cases hw:w=v
       . rw[if_pos hw] at h
         subst hw;obtain⟨u,w',B2,C2,h1,h2,h3,h4,h5⟩:=L.place hg (by intro z;cases z);cases h3;obtain⟨A2,q1,q2⟩:=h5 y A1 (Kp.same (F:=F) λ _ _ z=>z) (λ _ _ z=>z) r1;obtain⟨A',q3,q4⟩:=ih t q1 h;refine⟨A',q3,λ b=>?_⟩
         have:=q4 b
         have:=q2 b
         have:=h4 b
         simp only[List.count_nil,zA0] at *
         lia
       rw[if_neg hw] at h;cases h
     cases h
abbrev VSp:=Ds->DK->XKd->Prop
inductive LiftF(s:VSp)(vs:List V)(H:Hp)(Q:VK)(E:XK):Prop
 | mk (F:Addr->Prop) (ds:Ds) (A:List Addr) (r:Reps F H vs ds A) (o:Ok F H A) (q:s ds (λ d ys=>∀ v H' F' T A',Rep F' H' v d T->Reps F' H' vs ys A'->Ok F' H' (T++A')->Stp F H A F' H' (T++A')->Q v H')
   (λ x ys=>∀ e H' F' A',RepX F' H' e x->Reps F' H' vs ys A'->Ok F' H' A'->Stp F H A F' H' A'->E (.ref e) none H')):LiftF s vs H Q E
def Eh(s:VSp):Sp:=LiftF s
def Bc(s:VSp):Prop:=∀ ds (Q Q':DK) (xe xe':XKd),(∀ d ds',Q d ds'->Q' d ds')->(∀ x ds',xe x ds'->xe' x ds')->s ds Q xe->s ds Q' xe'
def qh1(s:VSp)(dv:Ds)(tr:VTB):VT:=λ ds Q xe=>tr ds (λ xs ps ds1=>s (xs++dv) (λ d ys=>orF (Ap ps ys ds1) λ ds2=>Q d ds2) (λ x ys=>orF (Ap ps ys ds1) λ ds2=>xe x ds2)) xe
theorem qW4{s:VSp}{dv:Ds}(hs:Bc s)(ha:VAs c X es tr):∀ ds (Q Q':DK) (xe xe':XKd),(∀ d ds',Q d ds'->Q' d ds')->(∀ x ds',xe x ds'->xe' x ds')->qh1 s dv tr ds Q xe->qh1 s dv tr ds Q' xe' :=
 λ ds Q Q' xe xe' hQ hx=>ha.m _ _ _ _ _ (λ xs ps ds1=>hs _ _ _ _ _ (λ d ys=>qa6 λ z=>hQ _ _) (λ x ys=>qa6 λ z=>hx _ _)) hx
def Hi(dvs:List V)(dv:Ds):Prop:=∀ F H,Reps F H dvs dv []
theorem qD2:Hi [] []:=λ _ _=>.nil
theorem qas4{s:VSp}{dvs:List V}{dv:Ds}(hd:Hi dvs dv)(hs:Bc s)(ha:VAs c X es tr):∀ σ H Q,A7 c (qh1 s dv tr) σ H Q->Fd (Eh s) dvs c.E (Dw c tr) σ H Q:=by
 rintro σ H Q ⟨F,ds,A,xe,S,x,q⟩;refine⟨F,ds,A,xe,S,x,ha.m _ _ _ _ _ (λ xs ps ds1 q vs H1 F1 T A1 r1 pk S1 o1 s1=>?_) (λ _ _ z=>z) q⟩;have rall:Reps F1 H1 (vs++dvs) (xs++dv) (T++[]):=r1.append (hd F1 H1);rw[zAa] at rall;refine⟨F1,xs++dv,T,rall,o1.left,hs _ _ _ _ _ (λ d ys q v H2 F2 T2 A2 r2 ra o2 s2=>?_) (λ y ys q e H2 F2 A2 rx ra o2 s2=>?_) q⟩
 . obtain⟨ds2,eb,q⟩:=qa7.mp q
   have o1':Ok F1 H1 (A1++T):=o1.count λ b=>by simp only[zA0];lia
   obtain⟨o3,s3⟩:=s2.frame o1' S1.loc.cells o2;have L1:Locs F2 H2 (σ++c.gv) ds1 A1:=S1.loc.keep (s2.kp o1.left rall.cells) λ b hb hc=>by
     have:=o1.sep b
     rw[zA0] at this
     have:=qa9.mp hb
     lia
   obtain⟨A3,q1,q2⟩:=qm9 pk ra L1 eb;have hc:∀ b,(T2++A3).count b<=(A1++(T2++A2)).count b:=λ b=>by simp only[zA0];have:=q2 b;lia
   have o4:Ok F2 H2 (T2++A3):=o3.count hc;have s4:Stp F H A F2 H2 (T2++A3):=(s1.trans (s3.pre λ b=>by simp only[zA0];lia)).count hc;exact q v H2 F2 T2 A3 r2 ⟨q1,o4.right,S.len,S.ag⟩ o4 s4
 obtain⟨ds2,eb,q⟩:=qa7.mp q;have o1':Ok F1 H1 (A1++T):=o1.count λ b=>by simp only[zA0];lia
 obtain⟨o3,s3⟩:=s2.frame o1' S1.loc.cells o2;have L1:Locs F2 H2 (σ++c.gv) ds1 A1:=S1.loc.keep (s2.kp o1.left rall.cells) λ b hb hc=>by
   have:=o1.sep b
   rw[zA0] at this
   have:=qa9.mp hb
   lia
 obtain⟨A3,q1,q2⟩:=qm9 pk ra L1 eb;have hc:∀ b,A3.count b<=(A1++A2).count b:=λ b=>by simp only[zA0];have:=q2 b;lia
 have o4:Ok F2 H2 A3:=o3.count hc;have s4:Stp F H A F2 H2 A3:=(s1.trans (s3.pre λ b=>by simp only[zA0];lia)).count hc;exact x y ds2 σ e H2 F2 A3 q rx ⟨q1,o4,S.len,S.ag⟩ s4
end
structure VFn(P:Program)(w:World)(K:PySem.W.Frag)(mg:Str->Option Value)(base:Heap)(k:Nat)(f:Addr)(fd:FuncData)(ps:List Str)(s:VSp):Prop where
 ok:Bh P w K mg base (CX1 P w) k f fd ps (Eh s)
 m:Bc s
section
variable{c:Vc}{X:Cx}{a e:Expr}{es:List Expr}{tr:VTB}{F F1:Addr->Prop}{H H1:Hp}{σ:St}{ds ds1:Ds}{A A1 T:List Addr}{pos p apos:Pos}{x qual m:Str}{st:Stmt}{f C:Addr}{fd:FuncData}{ps:List Str}{k:Nat}{s:VSp}{dvs:List V}{dv:Ds}
theorem Ah(D:Df X.K X.mg x qual st f fd ps)(G:VFn X.prog X.w X.K X.mg X.base k f fd ps s)(hl:Lands X c.E)(hr:Room k X.A)(ha:VAs c X (e::es) tr)(hg:Gl X x:=by rfl)(hdb:(x == ("__debug__" : Str))=false:=by decide)(he:starEach (e::es) X.env=(false,eval e X.env)::starEach es X.env:=by rfl)(hpl:(backTo pos (starEach es X.env)).any (·.1)=false:=by rfl):VE c X (.Call (.Name x p) (e::es) [] pos) (qh1 s [] tr) :=
 ⟨PE.mono (qE9 G.ok hr hg D.m D.F.kp D.b .nil hl.passes ha.h hdb he hpl) (qas4 qD2 G.m ha),qW4 G.m ha⟩
theorem qas5{xs:Ds}{pls:List Pl}{xe:XKd}{K:DK}(hd:Hi dvs dv)(hs:Bc s)(S:Sta c F H σ ds A)(x:Xc c xe F H A)(r1:Reps F1 H1 vs xs T)(pk:Em (σ++c.gv) vs pls)(S1:Sta c F1 H1 σ ds1 A1)(o1:Ok F1 H1 (T++A1))(s1:Stp F H A F1 H1 (T++A1))(hK:∀ d ds',K d ds'->∀ v H' F' T A',Rep F' H' v d T->Sta c F' H' σ ds' A'->Ok F' H' (T++A')->Stp F H A F' H' (T++A')->Q v H')(q:s (xs++dv) (λ d ys=>orF (Ap pls ys ds1) λ ds2=>K d ds2) (λ x ys=>orF (Ap pls ys ds1) λ ds2=>xe x ds2)):Eh s (vs++dvs) H1 Q c.E:=by
 have rall:Reps F1 H1 (vs++dvs) (xs++dv) (T++[]):=r1.append (hd F1 H1);rw[zAa] at rall;refine⟨F1,xs++dv,T,rall,o1.left,hs _ _ _ _ _ (λ d ys q v H2 F2 T2 A2 r2 ra o2 s2=>?_) (λ y ys q e H2 F2 A2 rx ra o2 s2=>?_) q⟩
 . obtain⟨ds2,eb,q⟩:=qa7.mp q
   have o1':Ok F1 H1 (A1++T):=o1.count λ b=>by simp only[zA0];lia
   obtain⟨o3,s3⟩:=s2.frame o1' S1.loc.cells o2;have L1:Locs F2 H2 (σ++c.gv) ds1 A1:=S1.loc.keep (s2.kp o1.left rall.cells) λ b hb hc=>by
     have:=o1.sep b
     rw[zA0] at this
     have:=qa9.mp hb
     lia
   obtain⟨A3,q1,q2⟩:=qm9 pk ra L1 eb;have hc:∀ b,(T2++A3).count b<=(A1++(T2++A2)).count b:=λ b=>by simp only[zA0];have:=q2 b;lia
   have o4:Ok F2 H2 (T2++A3):=o3.count hc;have s4:Stp F H A F2 H2 (T2++A3):=(s1.trans (s3.pre λ b=>by simp only[zA0];lia)).count hc;exact hK d ds2 q v H2 F2 T2 A3 r2 ⟨q1,o4.right,S.len,S.ag⟩ o4 s4
 obtain⟨ds2,eb,q⟩:=qa7.mp q;have o1':Ok F1 H1 (A1++T):=o1.count λ b=>by simp only[zA0];lia
 obtain⟨o3,s3⟩:=s2.frame o1' S1.loc.cells o2;have L1:Locs F2 H2 (σ++c.gv) ds1 A1:=S1.loc.keep (s2.kp o1.left rall.cells) λ b hb hc=>by
   have:=o1.sep b
   rw[zA0] at this
   have:=qa9.mp hb
   lia
 obtain⟨A3,q1,q2⟩:=qm9 pk ra L1 eb;have hc:∀ b,A3.count b<=(A1++A2).count b:=λ b=>by simp only[zA0];have:=q2 b;lia
 have o4:Ok F2 H2 A3:=o3.count hc;have s4:Stp F H A F2 H2 A3:=(s1.trans (s3.pre λ b=>by simp only[zA0];lia)).count hc;exact x y ds2 σ e H2 F2 A3 q rx ⟨q1,o4,S.len,S.ag⟩ s4
def D.isM(C:Addr)(m:Str):D->Bool
 | .ins _ C' fs=>decide (C'=C)&&(fs.lookup m).isNone
 | _=>false
theorem qs7{α β:Type}:∀{fs:List (Str×α)}{gs:List (Str×β)}{f:Str},fs.map (·.1)=gs.map (·.1)->(fs.lookup f).isNone=(gs.lookup f).isNone
 | [],[],_,_=>rfl
 | [],_::_,_,h=>by simp at h
 | _::_,[],_,h=>by simp at h
 | (k,_)::r,(k',_)::r',f,h=>by
   have h1:k=k':=by simp at h;exact h.1
   have h2:r.map (·.1)=r'.map (·.1):=by simp at h;simpa using h.2
   subst h1;rw[zAp,zAp];cases f == k with
   | true=>rfl
   | false=>exact qs7 h2
theorem Rep.isM{d:D}{B:List Addr}(r:Rep F H v d B)(h:d.isM C m=true):∃ a dx fs,v=.ref a/\H a=some (.ins C dx fs)/\fs.lookup m=none:=by
 cases d with
 | ins z C' fds =>
   have h:=zA3.mp h;obtain⟨a,dx,fvs,A,rfl,ha,e,rs,_⟩:=r.ins_inv
   have:=zAn h.1
   subst this;refine⟨a,dx,fvs,rfl,ha,?_⟩;have h2:=h.2;rw[<- qs7 e] at h2;exact Option.isNone_iff_eq_none.mp h2
 | _=>cases h
def qy9(C:Addr)(m:Str)(s:VSp)(dv:Ds)(i:Nat)(tr:VTB):VT:=λ ds Q xe=>(orF (rdN i ds) λ d=>d.isM C m=true)/\tr ds (λ xs ps ds1=>orF (rdN i ds1) λ d=>s (d::(xs++dv)) (λ r ys=>orF (Ap (.sl i::ps) ys (ds1.set i .unk)) λ ds2=>Q r ds2) (λ x ys=>orF (Ap (.sl i::ps) ys (ds1.set i .unk)) λ ds2=>xe x ds2)) xe
theorem qO3(hs:Bc s)(ha:VAs c X es tr):∀ ds (Q Q':DK) (xe xe':XKd),(∀ d ds',Q d ds'->Q' d ds')->(∀ x ds',xe x ds'->xe' x ds')->qy9 C m s dv i tr ds Q xe->qy9 C m s dv i tr ds Q' xe' :=
 λ ds Q Q' xe xe' hQ hx=>And.imp_right (ha.m _ _ _ _ _ (λ xs ps ds1=>qa6 λ d=>hs _ _ _ _ _ (λ d ys=>qa6 λ z=>hQ _ _) (λ x ys=>qa6 λ z=>hx _ _)) hx)
theorem qaf7{σ:St}{H:Hp}(hd:Hi dvs dv)(hs:Bc s)(ha:VAs c X es tr)(hi:i < σ.length)(q:A7 c (qy9 C m s dv i tr) σ H Q):tMeth C m (Eh s) dvs c.E (El i) (Dw c tr) σ H Q:=by
 obtain⟨F,ds,A,xe,S,x,hk,q⟩:=q;obtain⟨d0,e0,hk⟩:=qa7.mp hk;obtain⟨v,B0,hv0,r0,_⟩:=S.name hi e0;obtain⟨a,dx,fs,rfl,ha1,ha2⟩:=r0.isM hk;refine⟨.ref a,hv0,a,dx,fs,rfl,ha1,ha2,F,ds,A,xe,S,x,ha.m _ _ _ _ _ (λ xs ps ds2 q vs H2 F2 T2 A2 r2 pk S2 o2 s2=>?_) (λ _ _ z=>z) q⟩;obtain⟨d,ed,q⟩:=qa7.mp q;obtain⟨ed,hkn⟩:=qh4.mp ed;obtain⟨v',B,C0,h1,h2,h3,h4⟩:=S2.put1 ed (qu8 hkn);have h1':=h1;rw[zAo hi,hv0] at h1;cases h1;obtain⟨A3,q1,q2⟩:=h4 .unk [] (Kp.same (F:=F2) λ _ _ z=>z) (λ _ _ z=>z) (.unk _);have hc:∀ b,((B++T2)++A3).count b<=(T2++A2).count b:=λ b=>by simp only[zA0,q2,h3];simp;lia
 exact qas5 (vs:=.ref a::vs) (xs:=d::xs) hd hs S x (.cons h2 r2) (.sl h1' pk) ⟨q1,(o2.count hc).right,S.len,S.ag⟩ (o2.count hc) (s2.count hc) (λ d ds' h=>h) q
theorem qW0{pl:Sem Bool}(i:Nat){xn:Str}{p0:Pos}(D:Md X.K C m qual st f fd ps)(cl:Cls X.K C)(G:VFn X.prog X.w X.K X.mg X.base k f fd ps s)(hl:Lands X c.E)(hr:Room k X.A)(ha:VAs c X (e::es) tr)(hN:X.N[i]? = some xn:=by rfl)(hv:Vis X.env.scope xn:=by first | exact Or.inl rfl | exact Or.inr (Or.inl rfl) | exact Or.inr (Or.inr rfl))(hd:(xn == ("__debug__" : Str))=false:=by decide)(hcd:(xn == ("__classdict__" : Str))=false:=by decide)(hst:starEach (e::es) X.env=(false,eval e X.env)::starEach es X.env:=by rfl)(hpl:(backTo pos (starEach es X.env)).any (·.1)=false:=by rfl)(ht:eval (.Call (.Attribute (.Name xn p0) m apos) (e::es) [] pos) X.env=(do
     let ov <- eval (.Name xn p0) X.env
     standAt apos.atName
     let (f,first) <- holding [ov] (getMethod ov m pl)
     callWith pos f first (backTo pos (starEach (e::es) X.env)) (backToKw pos (keywordEach [] X.env))):=by rfl):VE c X (.Call (.Attribute (.Name xn p0) m apos) (e::es) [] pos) (qy9 C m s [] i tr) :=
 ⟨λ Dk s σ H Q I q=>qan2 (qp0 hN hv hd hcd) cl D.me G.ok hr D.b .nil hl.passes ha.h hst hpl ht Dk s σ H Q I (qaf7 qD2 G.m ha (qm0 hN Dk σ H s I) q),qO3 G.m ha⟩
def qK9(C:Addr)(s:VSp)(dv:Ds)(tr:VTB):VT:=λ ds Q xe=>tr ds (λ xs ps ds1=>s (.ins false C []::(xs++dv)) (λ d ys=>d.isN=some true/\orF ys.head? λ self=>orF (Ap ps ys.tail ds1) λ ds2=>Q self ds2) (λ x ys=>orF (Ap ps ys.tail ds1) λ ds2=>xe x ds2)) xe
theorem qU0(hs:Bc s)(ha:VAs c X es tr):∀ ds (Q Q':DK) (xe xe':XKd),(∀ d ds',Q d ds'->Q' d ds')->(∀ x ds',xe x ds'->xe' x ds')->qK9 C s dv tr ds Q xe->qK9 C s dv tr ds Q' xe' :=
 λ ds Q Q' xe xe' hQ hx=>ha.m _ _ _ _ _ (λ xs ps ds1=>hs _ _ _ _ _ (λ d ys=>And.imp_right (qa6 λ z=>qa6 λ w=>hQ _ _)) (λ x ys=>qa6 λ z=>hx _ _)) hx
theorem qap4(hd:Hi dvs dv)(hs:Bc s)(ha:VAs c X es tr):∀ σ H Q,A7 c (qK9 C s dv tr) σ H Q->tMake C (Eh s) dvs c.E (Dw c tr) σ H Q:=by
 rintro σ H Q ⟨F,ds,A,xe,S,x,q⟩;refine⟨F,ds,A,xe,S,x,ha.m _ _ _ _ _ (λ xs ps ds1 q vs H1 F1 T A1 r1 pk S1 o1 s1=>?_) (λ _ _ z=>z) q⟩;intro y dy hy hdy hne;have same:Same H1 (upd (upd H1 dy (.own y)) y (.ins C dy [])):=(Same.new hdy).trans (Same.new (by rw[qb2 (Ne.symm hne)];exact hy));have rall:Reps F1 (upd (upd H1 dy (.own y)) y (.ins C dy [])) (.ref y::(vs++dvs)) (.ins false C []::(xs++dv)) ([y]++(T++[])) :=
   .cons (.ins qb0 rfl .nil) ((r1.append (hd F1 H1)).same same)
 rw[zAa] at rall;have oN:Ok F1 (upd (upd H1 dy (.own y)) y (.ins C dy [])) ([y]++(T++A1)):=(qe6 hy).ok o1 (λ b hb=>by
   rcases zAd.mp hb with hb | hb
   . exact r1.cells b hb
   exact S1.loc.cells b hb) same
 have oT:Ok F1 (upd (upd H1 dy (.own y)) y (.ins C dy [])) ([y]++T):=oN.count λ b=>by simp only[zA0];lia
 have sN:Stp F H A F1 (upd (upd H1 dy (.own y)) y (.ins C dy [])) ([y]++(T++A1)):=s1.trans ((qe6 hy).stp same);have S1':=S1.same same;refine⟨F1,_,[y]++T,rall,oT,hs _ _ _ _ _ (λ d ys q v H2 F2 T2 A2 r2 ra o2 s2=>?_) (λ ex ys q e H2 F2 A2 rx ra o2 s2=>?_) q⟩
 . obtain⟨hn,q⟩:=q
   have hv:v=.non:=by
     cases d with
     | non=>cases r2;rfl
     | _=>cases hn
   refine⟨hv,?_⟩;obtain⟨self,eh,q⟩:=qa7.mp q;obtain⟨ds2,eb,qf⟩:=qa7.mp q;have o1':Ok F1 _ (A1++([y]++T)):=oN.count λ b=>by simp only[zA0];lia
   obtain⟨o3,s3⟩:=s2.frame o1' S1'.loc.cells o2;have L1:Locs F2 H2 (σ++c.gv) ds1 A1:=S1'.loc.keep (s2.kp oT rall.cells) λ b hb hc=>by
     have:=oN.sep b
     simp only[zA0] at this hc
     have:=qa9.mp hb
     lia
   cases ra with
   | @cons _ d0 Aself _ ys' B' rself rrest =>
     cases eh;obtain⟨A3,q1,q2⟩:=qm9 pk rrest L1 eb;have hc:∀ b,(Aself++A3).count b<=(A1++(T2++(Aself++B'))).count b:=λ b=>by simp only[zA0];have:=q2 b;lia
     have o4:=o3.count hc;have s4:Stp F H A F2 H2 (Aself++A3):=(sN.trans (s3.pre λ b=>by simp only[zA0];lia)).count hc;exact qf (.ref y) H2 F2 Aself A3 rself ⟨q1,o4.right,S.len,S.ag⟩ o4 s4
 obtain⟨ds2,eb,qf⟩:=qa7.mp q;have o1':Ok F1 _ (A1++([y]++T)):=oN.count λ b=>by simp only[zA0];lia
 obtain⟨o3,s3⟩:=s2.frame o1' S1'.loc.cells o2;have L1:Locs F2 H2 (σ++c.gv) ds1 A1:=S1'.loc.keep (s2.kp oT rall.cells) λ b hb hc=>by
   have:=oN.sep b
   simp only[zA0] at this hc
   have:=qa9.mp hb
   lia
 cases ra with
 | @cons _ d0 Aself _ ys' B' rself rrest =>
   obtain⟨A3,q1,q2⟩:=qm9 pk rrest L1 eb;have hc:∀ b,A3.count b<=(A1++(Aself++B')).count b:=λ b=>by simp only[zA0];have:=q2 b;lia
   have o4:=o3.count hc;have s4:Stp F H A F2 H2 A3:=(sN.trans (s3.pre λ b=>by simp only[zA0];lia)).count hc;exact x ex ds2 σ e H2 F2 A3 qf rx ⟨q1,o4,S.len,S.ag⟩ s4
theorem emake(cl:Cl X.K X.mg x C)(M:Mk X.K C f)(D:Md X.K C m qual st f fd ps)(G:VFn X.prog X.w X.K X.mg X.base k f fd ps s)(hl:Lands X c.E)(hr:Room (k+1) X.A)(ha:VAs c X (e::es) tr)(hg:Gl X x:=by rfl)(hdb:(x == ("__debug__" : Str))=false:=by decide)(he:starEach (e::es) X.env=(false,eval e X.env)::starEach es X.env:=by rfl)(hpl:(backTo pos (starEach es X.env)).any (·.1)=false:=by rfl):VE c X (.Call (.Name x p) (e::es) [] pos) (qK9 C s [] tr) :=
 ⟨PE.mono (qan3 M G.ok hr hg cl.m D.b .nil hl.passes ha.h hdb he hpl) (qap4 qD2 G.m ha),qU0 G.m ha⟩
def tLstV(tr:VTB):VT:=λ ds Q xe=>tr ds (λ xs ps ds1=>xs.length<=big/\Q (.lst false xs) ds1) xe
def Hj(tr:VTB):VT:=λ ds Q xe=>tr ds (λ xs ps ds1=>xs.length<=big/\Q (.tup xs) ds1) xe
theorem Dq(ha:VAs c X es tr):VE c X (.List es pos) (tLstV tr):=by
 refine⟨PE.mono (qT3 ha.h) λ σ H Q ⟨F,ds,A,xe,S,x,q⟩=>?_,λ ds Q Q' xe xe' hQ hx=>ha.m _ _ _ _ _ (λ xs ps ds1=>And.imp_right (hQ _ _)) hx⟩;refine⟨F,ds,A,xe,S,x,ha.m _ _ _ _ _ (λ xs ps ds1 q vs H1 F1 T A1 r1 pk S1 o1 s1=>⟨by rw[r1.len];exact zAm q.1 qe5,λ y hy=>?_⟩) (λ _ _ z=>z) q⟩;have same:=Same.new (u:=.lst vs) hy;have oN:=(qe6 hy).ok o1 (λ b hb=>by
   rcases zAd.mp hb with hb | hb
   . exact r1.cells b hb
   exact S1.loc.cells b hb) same
 exact q.2 (.ref y) _ F1 (y::T) A1 (.lst qb0 (r1.same same)) (S1.same same) oN (s1.trans ((qe6 hy).stp same))
theorem etup(ha:VAs c X es tr):VE c X (.Tuple es n pos) (Hj tr):=by
 refine⟨PE.mono (qae0 ha.h) λ σ H Q ⟨F,ds,A,xe,S,x,q⟩=>?_,λ ds Q Q' xe xe' hQ hx=>ha.m _ _ _ _ _ (λ xs ps ds1=>And.imp_right (hQ _ _)) hx⟩;refine⟨F,ds,A,xe,S,x,ha.m _ _ _ _ _ (λ xs ps ds1 q vs H1 F1 T A1 r1 pk S1 o1 s1=>⟨by rw[r1.len];exact zAm q.1 qe5,λ y hy=>?_⟩) (λ _ _ z=>z) q⟩;have same:=Same.new (u:=.tup vs) hy;exact q.2 (.ref y) _ F1 T A1 (qO0 hy r1) (S1.same same) (o1.same same) (s1.trans (.same same))
end
structure VEnds where
 nx:Ds->Prop
 rt:DK
 bk:Ds->Prop
 ct:Ds->Prop
 xe:XKd
abbrev VTS:=VEnds->Ds->Prop
structure VEnds.Le(e e':VEnds):Prop where
 nx:∀ ds,e.nx ds->e'.nx ds
 rt:∀ d ds,e.rt d ds->e'.rt d ds
 bk:∀ ds,e.bk ds->e'.bk ds
 ct:∀ ds,e.ct ds->e'.ct ds
 xe:∀ x ds,e.xe x ds->e'.xe x ds
structure Lk(c:Vc)(E:B6)(F:Addr->Prop)(H:Hp)(A:List Addr)(e:VEnds):Prop where
 nx:∀ ds' σ' H' F' A',e.nx ds'->Sta c F' H' σ' ds' A'->Stp F H A F' H' A'->E.nx σ' H'
 rt:∀ d ds' v σ' H' F' T A',e.rt d ds'->Rep F' H' v d T->Sta c F' H' σ' ds' A'->Ok F' H' (T++A')->Stp F H A F' H' (T++A')->E.rt v H'
 bk:∀ ds' σ' H' F' A',e.bk ds'->Sta c F' H' σ' ds' A'->Stp F H A F' H' A'->E.bk σ' H'
 ct:∀ ds' σ' H' F' A',e.ct ds'->Sta c F' H' σ' ds' A'->Stp F H A F' H' A'->E.ct σ' H'
 xe:Xc c e.xe F H A
theorem Lk.step{c:Vc}{F F1:Addr->Prop}{H H1:Hp}{A A1:List Addr}{e:VEnds}(l:Lk c E F H A e)(s:Stp F H A F1 H1 A1):Lk c E F1 H1 A1 e :=
 ⟨λ ds' σ' H' F' A' h S t=>l.nx ds' σ' H' F' A' h S (s.trans t),λ d ds' v σ' H' F' T A' h r S o t=>l.rt d ds' v σ' H' F' T A' h r S o (s.trans t),λ ds' σ' H' F' A' h S t=>l.bk ds' σ' H' F' A' h S (s.trans t),λ ds' σ' H' F' A' h S t=>l.ct ds' σ' H' F' A' h S (s.trans t),l.xe.step s⟩
inductive LiftS(c:Vc)(t:VTS)(E:B6)(σ:St)(H:Hp):Prop
 | mk (F:Addr->Prop) (ds:Ds) (A:List Addr) (e:VEnds) (S:Sta c F H σ ds A) (l:Lk c E F H A e) (q:t e ds):LiftS c t E σ H
def Ei(c:Vc)(t:VTS):TS:=LiftS c t
structure VS(c:Vc)(X:Cx)(st:Stmt)(t:VTS):Prop where
 h:PS X st (Ei c t)
 m:∀(e e':VEnds) ds,e.Le e'->t e ds->t e' ds
structure VSs(c:Vc)(X:Cx)(st:List Stmt)(t:VTS):Prop where
 h:PSs X st (Ei c t)
 m:∀(e e':VEnds) ds,e.Le e'->t e ds->t e' ds
section
variable{c:Vc}{X:Cx}{b e:Expr}{st:Stmt}{rest:List Stmt}{t u:VTS}{te:VT}{pos:Pos}
def En:VTS:=λ e ds=>e.nx ds
def Eo(t u:VTS):VTS:=λ e ds=>t { e with nx:=u e } ds
theorem At:VSs c X [] En:=⟨PSs.mono qY2 λ E σ H ⟨F,ds,A,e,S,l,q⟩=>l.nx ds σ H F A q S Stp.refl,λ e e' ds h=>h.nx ds⟩
theorem Ac(h1:VS c X st t)(h2:VSs c X rest u):VSs c X (st::rest) (Eo t u):=by
 refine⟨PSs.mono (qM8 h1.h h2.h) λ E σ H ⟨F,ds,A,e,S,l,q⟩=>?_,λ e e' ds h=>h1.m _ _ _ ⟨λ ds=>h2.m _ _ _ h,h.rt,h.bk,h.ct,h.xe⟩⟩;exact⟨F,ds,A,{ e with nx:=u e },S,⟨λ ds' σ' H' F' A' q S' s=>⟨F',ds',A',e,S',l.step s,q⟩,l.rt,l.bk,l.ct,l.xe⟩,q⟩
theorem Ak(h1:VS c X st t):VSs c X [st] t:=⟨qw7 h1.h,h1.m⟩
def sRet(te:VT):VTS:=λ e ds=>te ds e.rt e.xe
theorem Aq(h:VE c X e te):VS c X (.Return (some e) pos) (sRet te):=by
 refine⟨PS.mono (qad5 h.h) λ E σ H ⟨F,ds,A,e,S,l,q⟩=>⟨F,ds,A,e.xe,S,l.xe,h.m _ _ _ _ _ (λ d ds' q v H' F' T A' r S' o s=>l.rt d ds' v σ H' F' T A' q r S' o s) (λ _ _ z=>z) q⟩,λ e e' ds hl=>h.m _ _ _ _ _ hl.rt hl.xe⟩
def sExpr(te:VT):VTS:=λ e ds=>te ds (λ _ ds'=>e.nx ds') e.xe
theorem Ev(h:VE c X e te)(hs:swapsWith e none pos.line X.env=pure false:=by rfl):VS c X (.Expr e pos) (sExpr te):=by
 refine⟨PS.mono (qam5 h.h hs) λ E σ H ⟨F,ds,A,e,S,l,q⟩=>⟨F,ds,A,e.xe,S,l.xe,h.m _ _ _ _ _ (λ d ds' q v H' F' T A' r S' o s=>l.nx ds' σ H' F' A' q S' (s.count λ b=>by rw[zA0];lia)) (λ _ _ z=>z) q⟩,λ e e' ds hl=>h.m _ _ _ _ _ (λ _=>hl.nx) hl.xe⟩
def sIf(qc:VTT)(t u:VTS):VTS:=λ e ds=>qc ds (λ k ds'=>if k=true then t e ds' else u e ds') e.xe
theorem sif{cd:Expr}{x y:List Stmt}{qc:VTT}(hc:VTe c X cd qc)(ha:VSs c X x t)(hb:VSs c X y u):VS c X (.If cd x y pos) (sIf qc t u):=by
 refine⟨PS.mono (ps_if hc.h ha.h hb.h) λ E σ H ⟨F,ds,A,e,S,l,q⟩=>⟨F,ds,A,e.xe,S,l.xe,hc.m _ _ _ _ _ (λ k ds' q H' F' A' S' s=>?_) (λ _ _ z=>z) q⟩,λ e e' ds hl=>hc.m _ _ _ _ _ (λ k ds'=>qG1 (ha.m _ _ _ hl) (hb.m _ _ _ hl)) hl.xe⟩;cases k with
 | true=>rw[if_pos rfl] at q ⊢;exact⟨F',ds',A',e,S',l.step s,q⟩
 | false=>rw[if_neg (by decide)] at q ⊢;exact⟨F',ds',A',e,S',l.step s,q⟩
abbrev VTG:=D->Ds->(Ds->Prop)->Prop
inductive LiftG(c:Vc)(g:VTG)(v:V)(σ:St)(H:Hp)(Q:St->Hp->Prop):Prop
 | mk (F:Addr->Prop) (ds:Ds) (A T:List Addr) (d:D) (r:Rep F H v d T) (S:Sta c F H σ ds A) (o:Ok F H (T++A)) (q:g d ds (λ ds'=>∀ σ' H' F' A',Sta c F' H' σ' ds' A'->Stp F H (T++A) F' H' A'->Q σ' H')):LiftG c g v σ H Q
def Fo(c:Vc)(g:VTG):TG:=LiftG c g
structure VG(c:Vc)(X:Cx)(e:Expr)(g:VTG):Prop where
 h:PG X e (Fo c g)
 m:∀ d ds (Q Q':Ds->Prop),(∀ ds',Q ds'->Q' ds')->g d ds Q->g d ds Q'
theorem PG.mono{g g':TG}(h:PG X e g)(i:∀ v σ H Q,g' v σ H Q->g v σ H Q):PG X e g':=λ Dk s σ H v u Q I r q=>h Dk s σ H v u Q I r (i v σ H Q q)
theorem Sta.store{F:Addr->Prop}{H:Hp}{σ:St}{ds:Ds}{A T:List Addr}{d:D}(S:Sta c F H σ ds A)(hW:c.W i=false)(hi:i < σ.length)(r:Rep F H v d T)(o:Ok F H (T++A)) :
   ∃ A',Sta c F H (σ.set i (some v)) (ds.set i d) A'/\Stp F H (T++A) F H A':=by
 have hl:=S.loc.len;rw[zAf] at hl;obtain⟨σ1,o1,σ2,ds1,ds2,A1,B,A2,e1,e2,e3,e4,e5,l1,l2,l3⟩:=S.loc.split (i:=i) (d:=ds[i]'(by lia)) (by simp);have hσ:σ.set i (some v)++c.gv=σ1++some v::σ2:=by
   rw[<- List.set_append_left _ _ hi,e1,qk1 e3]
 have hds:ds.set i d=ds1++d::ds2:=by
   have:=congrArg (λ l=>l.set i d) e2
   rw[this,qk1 e4]
 have cnt:∀ b,(A1++(T++A2)).count b<=(T++A).count b:=λ b=>by rw[e5];simp only[zA0];lia
 refine⟨A1++(T++A2),⟨by rw[hσ,hds];exact l1.append (.so r l3),o.count cnt,?_,λ j hj=>?_⟩,Stp.refl.count cnt⟩
 . rw[S.len,zAf,zAf,List.length_set]
 have hne:i≠j:=λ z=>by subst z;rw[hW] at hj;cases hj
 rw[<- S.ag j hj,<- List.set_append_left _ _ hi,zB6 hne]
def gNm(i:Nat):VTG:=λ d ds Q=>Q (ds.set i d)
theorem Br(i:Nat){x:Str}(hN:X.N.Nodup)(hW:c.W i=false:=by rfl)(hi:X.N[i]? = some x:=by rfl)(hx:Loc X.env.scope x:=by first | exact Or.inl rfl | exact Or.inr rfl)(hf:X.fn x=true∨X.env.scope.names.lookup x=some .local:=by first | exact .inl rfl | exact .inr rfl | assumption):VG c X (.Name x pos) (gNm i):=by
 refine⟨λ Dk s σ H v u0 Q I r0 ⟨F,ds,A,T,d,r,S,o,q⟩=>qY6 hN hi hx hf Dk s σ H v u0 Q I r0 ?_,λ d ds Q Q' hQ=>hQ _⟩;obtain⟨A',S',s'⟩:=S.store hW (qm0 hi Dk σ H s I) r o;exact q _ H F A' S' s'
def Dm(te:VT)(g:VTG):VTS:=λ e ds=>te ds (λ d ds'=>g d ds' e.nx) e.xe
theorem qaB2{tg:Expr}{g:VTG}(h:VE c X e te)(hg:VG c X tg g):∀ E σ H,Ei c (Dm te g) E σ H->Gj (A7 c te) (Fo c g) E σ H:=by
 rintro E σ H ⟨F,ds,A,en,S,l,q⟩;refine⟨F,ds,A,en.xe,S,l.xe,h.m _ _ _ _ _ (λ d ds' q v H' F' T A' r S' o s=>?_) (λ _ _ z=>z) q⟩;exact⟨F',ds',A',T,d,r,S',o,hg.m _ _ _ _ (λ ds2 q σ2 H2 F2 A2 S2 s2=>l.nx ds2 σ2 H2 F2 A2 q S2 (s.trans s2)) q⟩
theorem qR6{tg:Expr}{g:VTG}(h:VE c X e te)(hg:VG c X tg g):∀(en en':VEnds) ds,en.Le en'->Dm te g en ds->Dm te g en' ds:=λ en en' ds hl=>h.m _ _ _ _ _ (λ d ds'=>hg.m _ _ _ _ hl.nx) hl.xe
theorem sasg{tg:Expr}{g:VTG}(h:VE c X e te)(hg:VG c X tg g)(hs:swapsWithSole [tg] e pos.line X.env=pure false:=by rfl)(hw:swappedStores [tg] e X.env=pure none:=by rfl)(h1:(assignEach [tg] X.env).map (·.2)=[assign tg X.env]:=by rfl):VS c X (.Assign [tg] e pos) (Dm te g) :=
 ⟨PS.mono (qav2 h.h hg.h hs hw h1) (qaB2 h hg),qR6 h hg⟩
theorem Aj(i:Nat){x:Str}{pos':Pos}(hN:X.N.Nodup)(h:VE c X e te)(hW:c.W i=false:=by rfl)(hi:X.N[i]? = some x:=by rfl)(hx:Loc X.env.scope x:=by first | exact Or.inl rfl | exact Or.inr rfl)(hs:swapsWith e (some (.Name x pos')) pos.line X.env=pure false:=by rfl)(hf:X.fn x=true∨X.env.scope.names.lookup x=some .local:=by first | exact .inl rfl | exact .inr rfl | assumption) :
   VS c X (.Assign [.Name x pos'] e pos) (Dm te (gNm i)):=by
 have hg:VG c X (.Name x pos') (gNm i):=Br i hN hW hi hx hf;refine⟨λ Dk s σ H E I q=>qam3 hN hi hx h.h hs hf Dk s σ H E I ?_,qR6 h hg⟩;obtain⟨F,ds,A,en,S,l,q⟩:=q;refine⟨F,ds,A,en.xe,S,l.xe,h.m _ _ _ _ _ (λ d ds' q v H' F' T A' r S' o s0=>?_) (λ _ _ z=>z) q⟩;obtain⟨A2,S2,s2⟩:=S'.store hW (qm0 hi Dk σ H s I) r o;exact l.nx _ _ H' F' A2 q S2 (s0.trans s2)
end
section
variable{c:Vc}{F:Addr->Prop}{H:Hp}{σ:St}{ds:Ds}{A T:List Addr}
theorem qy4{a:Addr}{o o':HO}(h:H a=some o)(hm:B7 o=true)(hf:¬ F a):Kp F H (λ b=>b=a) F (upd H a o') :=
 ⟨λ b u e w=>by rw[qb2 w];exact e,λ b w=>by subst w;exact⟨o,h,hm⟩,λ b w=>by subst w;exact hf,λ _ f=>f⟩
theorem Reps.setAt{ys:List D}{Tv:List Addr}{d:D}(r:Reps F H vs ys Ael)(hn:n < ys.length)(rv:Rep F H v d Tv):∃ B,Reps F H (vs.set n v) (ys.set n d) B/\∀ b,B.count b<=Ael.count b+Tv.count b:=by
 obtain⟨vs1,w,vs2,ys1,ys2,A1,B,A2,e1,e2,e3,e4,e5,l1,l2,l3⟩:=r.split (i:=n) (d:=ys[n]) (by simp);have e6:ys.set n d=ys1++d::ys2:=by
   have:=congrArg (λ l=>l.set n d) e2
   rw[this,qk1 e4]
 rw[e1,qk1 e3,e6];exact⟨A1++(Tv++A2),l1.append (.cons rv l3),λ b=>by rw[e5];simp only[zA0];lia⟩
theorem qj6{ys:List D}{B:List Addr}(r:Rep F H v (.lst false ys) B):∃ a vs Ael,v=.ref a/\H a=some (.lst vs)/\Reps F H vs ys Ael/\B=a::Ael:=by
 cases r with
 | lst h r=>exact⟨_,_,_,rfl,h,r,rfl⟩
theorem qi1{p:List Nat}{ys:List D}{u:V}(S:Sta c F H σ ds A)(h:A4 ds i p=some (.lst false ys))(hu:(σ++c.gv)[i]? = some (some u))(hw:Walk H u p w) :
   ∃(a:Addr)(vs:List V)(Ael:List Addr),w=.ref a/\H a=some (.lst vs)/\Reps F H vs ys Ael /\
   ∀(vs':List V)(ys':List D)(B' R T:List Addr),Ok F H (T++A)->Reps F H vs' ys' B'->(∀ b,B'.count b+R.count b<=Ael.count b+T.count b) ->
     (∃ A',Sta c F (upd H a (.lst vs')) σ (Bp ds i p (.lst false ys')) A'/\Ok F (upd H a (.lst vs')) (R++A')/\Stp F H (T++A) F (upd H a (.lst vs')) (R++A'))/\∀ v d,Rep F H v d R->Rep F (upd H a (.lst vs')) v d R:=by
 obtain⟨B,C,r,h3,h4⟩:=S.place h (by intro z;cases z) hu hw;obtain⟨a,vs,Ael,rfl,ha,rs,rfl⟩:=qj6 r;refine⟨a,vs,Ael,rfl,ha,rs,λ vs' ys' B' R T ok r' hc=>?_⟩;have h3':∀ b,A.count b=(if b=a then 1 else 0)+Ael.count b+C.count b:=λ b=>by
   rw[h3,zAg];by_cases hb:b=a
   . subst hb;simp;lia
   simp[hb,Ne.symm hb]
 have ha3:=h3' a;rw[if_pos rfl] at ha3;have sa:=ok.sep a;rw[zA0] at sa;have hca:=hc a;have hf:¬ F a:=λ f=>by have:=ok.fro a f;rw[zA0] at this;lia
 have k:=qy4 (F:=F) (o':=.lst vs') ha rfl hf;have rep':Rep F (upd H a (.lst vs')) (.ref a) (.lst false ys') (a::B'):=.lst qb0 (r'.keep k λ b hb w=>by subst w;have:=qa9.mp hb;lia);obtain⟨A',q1,q2⟩:=h4 _ _ k (λ b hb w=>by subst w;have:=qa9.mp hb;lia) rep';have q2':∀ b,A'.count b=(if b=a then 1 else 0)+B'.count b+C.count b:=λ b=>by
   rw[q2,zAg];by_cases hb:b=a
   . subst hb;simp;lia
   simp[hb,Ne.symm hb]
 have hcnt:∀ b,(R++A').count b<=(T++A).count b:=λ b=>by rw[zA0,zA0,q2',h3'];have:=hc b;lia
 have ex:∀ b,F b->∃ o,upd H a (.lst vs') b=some o:=λ b f=>by
   obtain⟨x,e⟩:=ok.ex b f;exact⟨x,by rw[qb2 (show b≠a from λ w=>hf (w ▸ f))];exact e⟩
 have o4:Ok F (upd H a (.lst vs')) (R++A'):=⟨λ b=>zAm (hcnt b) (ok.sep b),λ b f=>by have:=ok.fro b f;have:=hcnt b;lia,ex⟩
 refine⟨⟨A',⟨q1,o4.right,S.len,S.ag⟩,o4,λ b u e z=>?_,λ b u e z=>by have:=hcnt b;lia,λ _ f=>f,λ _ _ _ _ f=>f⟩,λ v d rv=>rv.keep k λ b hb w=>by subst w;have:=qa9.mp hb;lia⟩;rw[qb2 λ w=>?_]
 . exact e
 subst w;have:=h3' b;rw[if_pos rfl] at this;rw[zA0] at z;lia
def Fp(r:V->List V->Hp->VK->Prop)(g:Ds->Ds->Option (Ds×D)):Prop:=∀ F H a vs ys Ael ws xs T ys' d (Q:VK),H a=some (.lst vs)->Reps F H vs ys Ael->Reps F H ws xs T->g ys xs=some (ys',d) ->
 (∀ vs' v B' R,Reps F H vs' ys' B'->Rep F H v d R->(∀ b,B'.count b+R.count b<=Ael.count b+T.count b)->Q v (upd H a (.lst vs')))->r (.ref a) ws H Q
def Gr(ys xs:Ds):Option (Ds×D):=match xs with
 | [x]=>if ys.length < big then some (ys++[x],.non) else none
 | _=>none
theorem qaf4:Fp qY1 Gr:=by
 intro F H a vs ys Ael ws xs T ys' d Q ha r rx h q
 match xs,h with
 | [x],h =>
   obtain⟨w,rfl,rw'⟩:=rx.one_inv;have h:(if ys.length < big then some (ys++[x],D.non) else none)=some (ys',d):=h;by_cases hl:ys.length < big
   . rw[if_pos hl] at h
     cases h;refine⟨a,vs,w,rfl,rfl,ha,by rw[r.len];exact zAb hl qe5,?_⟩;exact q _ .non (Ael++(T++[])) [] (r.append (.cons rw' .nil)) .non λ b=>by simp[zA0]
   rw[if_neg hl] at h;cases h
def gPop(ys xs:Ds):Option (Ds×D):=match xs with
 | []=>(ys[ys.length - 1]?).map λ d=>(ys.dropLast,d)
 | _=>none
theorem Reps.last{ys:Ds}{d:D}(r:Reps F H vs ys Ael)(h:ys[ys.length - 1]? = some d):∃ v B R,vs[vs.length - 1]? = some v/\Reps F H vs.dropLast ys.dropLast B/\Rep F H v d R/\∀ b,B.count b+R.count b<=Ael.count b:=by
 obtain⟨vs1,v,vs2,ys1,ys2,A1,B,A2,e1,e2,e3,e4,e5,l1,l2,l3⟩:=r.split h;have hy:ys2=[]:=by
   have:=congrArg List.length e2
   rw[zAf,zAr,e4] at this;cases ys2 with
   | nil=>rfl
   | cons _ _=>simp at this;lia
 subst hy;cases l3;refine⟨v,A1,B,?_,?_,l2,λ b=>by rw[e5];simp only[zA0,List.count_nil];lia⟩
 . rw[e1]
   simp
 rw[e1,e2,List.dropLast_concat,List.dropLast_concat];exact l1
theorem qax4:Fp rPop gPop:=by
 intro F H a vs ys Ael ws xs T ys' d Q ha r rx h q
 match xs,h with
 | [],h =>
   cases rx;obtain⟨e,h1,h2⟩:=zAk.mp h;cases h2;obtain⟨v,B,R,h3,h4,h5,h6⟩:=r.last h1;exact⟨a,vs,v,rfl,rfl,ha,h3,q _ v B R h4 h5 λ b=>by have:=h6 b;lia⟩
def gIns(ys xs:Ds):Option (Ds×D):=match xs with
 | [.int i,x]=>if 0<=i/\i < 1000000/\ys.length < big then some (ys.take i.toNat++x::ys.drop i.toNat,.non) else none
 | _=>none
theorem Reps.cut{ys:Ds}(r:Reps F H vs ys Ael)(n:Nat):∃ B C,Reps F H (vs.take n) (ys.take n) B/\Reps F H (vs.drop n) (ys.drop n) C/\∀ b,Ael.count b=B.count b+C.count b:=by
 induction n generalizing vs ys Ael with
 | zero=>exact⟨[],Ael,.nil,r,λ b=>by simp⟩
 | succ n ih =>
   cases r with
   | nil=>exact⟨[],[],.nil,.nil,λ b=>by simp⟩
   | cons h t =>
     obtain⟨B,C,q1,q2,q3⟩:=ih t;exact⟨_++B,C,.cons h q1,q2,λ b=>by simp only[zA0,q3];lia⟩
theorem qax5:Fp qY0 gIns:=by
 intro F H a vs ys Ael ws xs T ys' d Q ha r rx h q;unfold gIns at h;split at h
 . rename_i i x
   obtain⟨w1,w2,T1,T2,rfl,r1,r2,hc⟩:=rx.two_inv;cases r1;have h:(if 0<=i/\i < 1000000/\ys.length < big then some (ys.take i.toNat++x::ys.drop i.toNat,D.non) else none)=some (ys',d):=h;by_cases hl:0<=i/\i < 1000000/\ys.length < big
   . rw[if_pos hl] at h
     cases h;obtain⟨B,C,q1,q2,q3⟩:=r.cut i.toNat;refine⟨a,vs,w2,i,rfl,rfl,ha,hl.1,by lia,by rw[r.len];exact zAb hl.2.2 qe5,?_⟩;exact q _ .non (B++(T2++C)) [] (q1.append (.cons r2 q2)) .non λ b=>by simp only[zA0,List.count_nil];have:=q3 b;have:=hc b;lia
   rw[if_neg hl] at h;cases h
 cases h
end
section
variable{c:Vc}{X:Cx}{a b e o:Expr}{pf:PF}{tr:VTB}{es:List Expr}{r:V->List V->Hp->VK->Prop}{g:Ds->Ds->Option (Ds×D)}
def D.own:D->Option Ds
 | .lst false ys=>some ys
 | _=>none
theorem qN5{d:D}{ys:Ds}(h:d.own=some ys):d=.lst false ys:=by
 cases d with
 | lst z xs=>cases z with
   | false=>cases h;rfl
   | true=>cases h
 | _=>cases h
def Dx(g:Ds->Ds->Option (Ds×D))(i:Nat)(tr:VTB):VT:=λ ds Q xe=>((rdN i ds).bind D.own).isSome=true/\tr ds (λ xs _ ds1=>orF ((rdN i ds1).bind D.own) λ ys=>orF (g ys xs) λ z=>Q z.2 (ds1.set i (.lst false z.1))) xe
theorem qC6{ds:Ds}{d:D}(h:ds[i]? = some d):A4 ds i []=some d:=by unfold A4;rw[h];rfl
theorem qA0{ds:Ds}{d x:D}(h:ds[i]? = some d):Bp ds i [] x=ds.set i x:=by unfold Bp;rw[h];rfl
theorem qY9{T:String}(hT:T = "list"){σ:St}{H:Hp}(hm:Fp r g)(ha:VAs c X es tr)(hi:i < σ.length)(q:A7 c (Dx g i tr) σ H Q):tBM X.K T r (El i) (Dw c tr) σ H Q:=by
 subst hT;obtain⟨F,ds,A,xe,S,x,hs,q⟩:=q;obtain⟨ys0,hys0⟩:=zB3.mp hs;obtain⟨d0,e0,e0'⟩:=zA1.mp hys0;cases qN5 e0';obtain⟨v,B0,hv,r0,_⟩:=S.name hi e0;obtain⟨a,vs0,A0,rfl,ha0,_,_⟩:=r0.lst_inv;refine⟨.ref a,hv,.inl ⟨rfl,vs0,.inl (.inl ha0)⟩,F,ds,A,xe,S,x,ha.m _ _ _ _ _ (λ xs ps ds1 q vs H1 F1 T A1 r1 pk S1 o1 s1=>?_) (λ _ _ z=>z) q⟩;obtain⟨ys,e1,q⟩:=qa7.mp q;obtain⟨d1,e2,e3⟩:=zA1.mp e1;cases qN5 e3;obtain⟨⟨ys',d⟩,e4,q⟩:=qa7.mp q;obtain⟨e5,hk⟩:=qh4.mp e2;have hu:(σ++c.gv)[i]? = some (some (.ref a)):=by rw[zAo hi];exact hv
 obtain⟨a2,vs2,Ael,ea,ha2,rs,wr⟩:=qi1 S1 (qC6 e5) hu (p:=[]) (w:=.ref a) rfl;cases ea;refine hm F1 H1 a vs2 ys Ael vs xs T ys' d Q ha2 rs r1 e4 λ vs' v B' R h1 h2 h3=>?_
 obtain⟨⟨A',S2,o2,s2⟩,kr⟩:=wr vs' ys' B' R T o1 h1 h3;rw[qA0 e5] at S2;exact q v _ F1 R A' (kr v d h2) S2 o2 (s1.trans s2)
theorem qF0(ha:VAs c X es tr):∀ ds (Q Q':DK) (xe xe':XKd),(∀ d ds',Q d ds'->Q' d ds')->(∀ x ds',xe x ds'->xe' x ds')->Dx g i tr ds Q xe->Dx g i tr ds Q' xe' :=
 λ ds Q Q' xe xe' hQ hx=>And.imp_right (ha.m _ _ _ _ _ (λ xs ps ds1=>qa6 λ y=>qa6 λ z=>hQ _ _) hx)
theorem qS0{F F':Addr->Prop}{H H':Hp}{W:Addr->Prop}(k:Kp F H W F' H'):∀{p:List Nat}{v0:V}{d0 d:D}{B:List Addr}{w w':V},(∀ b∈B,¬ W b)->Rep F H v0 d0 B->d0.getP p=some d->Walk H v0 p w->Walk H' v0 p w'->w'=w:=by
 intro p
 induction p with
 | nil=>intro v0 d0 d B w w' _ _ _ h h';cases h;cases h';rfl
 | cons n p ih =>
   intro v0 d0 d B w w' hB r hg h h';unfold D.getP at hg;cases hk:d0.kids[n]? with
   | none=>rw[hk] at hg;cases hg
   | some e =>
     rw[hk] at hg;obtain⟨x,l1,h1⟩:=h;obtain⟨x',l1',h1'⟩:=h';obtain⟨y,B1,C1,m1,m2,m3,_⟩:=r.kid hk;obtain⟨y',B1',C1',m1',_,_,_⟩:=(r.keep k hB).kid hk;cases l1.fn m1;cases l1'.fn m1';have hlk:Lnk H' v0 n x:=by
       obtain⟨a,rfl,hh⟩:=m1;refine⟨a,rfl,?_⟩;cases r with
       | tup e0 _ =>
         rcases hh with⟨vs,e,h⟩ | ⟨vs,e,h⟩ | ⟨vs,e,h⟩ | ⟨C,dx,vs,e,h⟩
         . exact .inl ⟨vs,k.tup e,h⟩
         . rw[e0] at e;cases e
         . rw[e0] at e;cases e
         rw[e0] at e;cases e
       | lst e0 _ =>
         have k0:=k.fr _ _ e0 (hB _ zAc);rcases hh with⟨vs,e,h⟩ | ⟨vs,e,h⟩ | ⟨vs,e,h⟩ | ⟨C,dx,vs,e,h⟩
         . rw[e0] at e;cases e
         . rw[e0] at e;cases e;exact .inr (.inl ⟨_,k0,h⟩)
         . rw[e0] at e;cases e
         rw[e0] at e;cases e
       | dct e0 _ _ =>
         have k0:=k.fr _ _ e0 (hB _ zAc);rcases hh with⟨vs,e,h⟩ | ⟨vs,e,h⟩ | ⟨vs,e,h⟩ | ⟨C,dx,vs,e,h⟩
         . rw[e0] at e;cases e
         . rw[e0] at e;cases e
         . rw[e0] at e;cases e;exact .inr (.inr (.inl ⟨_,k0,h⟩))
         rw[e0] at e;cases e
       | ins e0 _ _ =>
         have k0:=k.fr _ _ e0 (hB _ zAc);rcases hh with⟨vs,e,h⟩ | ⟨vs,e,h⟩ | ⟨vs,e,h⟩ | ⟨C,dx,vs,e,h⟩
         . rw[e0] at e;cases e
         . rw[e0] at e;cases e
         . rw[e0] at e;cases e
         rw[e0] at e;cases e;exact .inr (.inr (.inr ⟨_,_,_,k0,h⟩))
       | _=>simp[D.kids] at hk
     cases hlk.fn m1';exact ih (B:=B1) (λ b hb=>hB b (qa9.mpr (by have:=m3 b;have:=qa9.mp hb;lia))) m2 hg h1 h1'
def Ew(g:Ds->Ds->Option (Ds×D))(pf:PF)(tr:VTB):VT:=λ ds Q xe=>orF (pf ds) λ q=>orF ((A4 ds q.1 q.2).bind D.own) λ ys=>orF ds[q.1]? λ d0=>tr (ds.set q.1 .unk) (λ xs _ ds1=>orF (g ys xs) λ z=>Q z.2 (Bp (ds1.set q.1 d0) q.1 q.2 (.lst false z.1))) xe
theorem qT7(ha:VAs c X es tr):∀ ds (Q Q':DK) (xe xe':XKd),(∀ d ds',Q d ds'->Q' d ds')->(∀ x ds',xe x ds'->xe' x ds')->Ew g pf tr ds Q xe->Ew g pf tr ds Q' xe' :=
 λ ds Q Q' xe xe' hQ hx=>qa6 λ q=>qa6 λ ys=>qa6 λ d0=>ha.m _ _ _ _ _ (λ xs ps ds1=>qa6 λ z=>hQ _ _) hx
theorem qap2(hm:Fp r g)(ha:VAs c X es tr):∀ σ H Q,A7 c (Ew g pf tr) σ H Q->tBM X.K "list" r (liftP c pf) (Dw c tr) σ H Q:=by
 rintro σ H Q ⟨F,ds,A,xe,S,x,q⟩;obtain⟨⟨i,p⟩,e1,q⟩:=qa7.mp q;obtain⟨ys,e2,q⟩:=qa7.mp q;obtain⟨dl,e3,e4⟩:=zA1.mp e2;cases qN5 e4;obtain⟨d0,e5,q⟩:=qa7.mp q;refine⟨F,ds,A,i,p,_,S,e1,e3,D.noConfusion,λ u w H1 hu hw s0=>?_⟩;have S0:=S.same s0;obtain⟨a,vs0,Ael0,rfl,ha0,rs0,_⟩:=qi1 S0 e3 hu hw;refine⟨.inl ⟨rfl,vs0,.inl (.inl ha0)⟩,?_⟩;have hd0:d0≠.unk:=λ z=>by
   subst z;have e3':=e3;unfold A4 at e3';rw[e5] at e3';cases (qQ0 e3').2
 obtain⟨u',B,C,h1,h2,h3,h4⟩:=S0.put1 e5 hd0;rw[hu] at h1;cases h1;obtain⟨A1,q1,q2⟩:=h4 .unk [] (Kp.same (F:=F) λ _ _ z=>z) (λ _ _ z=>z) (.unk u);have o1:Ok F H1 (B++A1):=S0.ok.count λ b=>by rw[zA0,q2,h3];simp
 have s1:Stp F H A F H1 (B++A1):=⟨λ b o e _=>s0 b o e,λ b o e z=>by rw[zA0,q2];have:=h3 b;simp;lia,λ _ f=>f,λ _ _ _ _ f=>f⟩
 have S1:Sta c F H1 σ (ds.set i .unk) A1:=⟨q1,o1.right,S.len,S.ag⟩
 have s1':Stp F H A F H1 A1:=s1.count λ b=>by rw[zA0];lia
 refine⟨F,_,A1,xe,S1,x.step s1',ha.m _ _ _ _ _ (λ xs ps ds2 q vs H2 F2 T2 A2 r2 pk S2 o2 s2=>?_) (λ _ _ z=>z) q⟩;obtain⟨⟨ys',d⟩,e7,q⟩:=qa7.mp q;have kp:=s2.kp S1.ok S1.loc.cells;have hBout:∀ b∈B,¬ (A1.count b≠0):=λ b hb hc=>by
   have:=o1.sep b
   rw[zA0] at this
   have:=qa9.mp hb
   lia
 have r1':Rep F2 H2 u d0 B:=h2.keep kp hBout;obtain⟨o3,s3⟩:=s2.frame o1 h2.cells o2;obtain⟨A3,k1,k2⟩:=qt5 S2.loc hu r1';have hc3:∀ b,A3.count b<=B.count b+A2.count b:=k2;have o4:Ok F2 H2 (T2++A3):=o3.count λ b=>by simp only[zA0];have:=hc3 b;lia
 have s4:Stp F H A F2 H2 (T2++A3):=(s1.trans s3).count λ b=>by simp only[zA0];have:=hc3 b;lia
 have S3:Sta c F2 H2 σ (ds2.set i d0) A3:=⟨k1,o4.right,S.len,S.ag⟩
 have hlen:i < ds2.length:=by rw[<- S2.loc.len];exact(zA5.mp hu).1
 have e8:A4 (ds2.set i d0) i p=some (.lst false ys):=by
   unfold A4 at e3 ⊢;rw[e5] at e3;rw[zB9 hlen];exact e3
 have hw2:Walk H2 u p (.ref a):=by
   obtain⟨w',_,_,w1,_,_,_⟩:=h2.path (p:=p) (d:=.lst false ys) (by unfold A4 at e3;rw[e5] at e3;exact e3);cases hw.fn w1;obtain⟨w2,_,_,w3,_,_,_⟩:=r1'.path (p:=p) (d:=.lst false ys) (by unfold A4 at e3;rw[e5] at e3;exact e3)
   have:w2=.ref a:=by
     refine qS0 (d:=.lst false ys) kp hBout h2 ?_ w1 w3;unfold A4 at e3;rw[e5] at e3;exact e3
   rw[<- this];exact w3
 obtain⟨a2,vs2,Ael,ea,ha2,rs,wr⟩:=qi1 S3 e8 hu hw2;cases ea;refine hm F2 H2 a vs2 ys Ael vs xs T2 ys' d Q ha2 rs r2 e7 λ vs' v B' R z1 z2 z3=>?_
 obtain⟨⟨A',S4,o5,s5⟩,kr⟩:=wr vs' ys' B' R T2 o4 z1 z3;exact q v _ F2 R A' (kr v d z2) S4 o5 (s4.trans s5)
end
section
variable{c:Vc}{X:Cx}{a b e o:Expr}{pos cpos apos:Pos}{pf:PF}{tr:VTB}{es:List Expr}{fb:FV}{ob:Bool}{r:V->List V->Hp->VK->Prop}{g:Ds->Ds->Option (Ds×D)}{name:Str}{id:String}
theorem emutN(i:Nat){x:Str}{p0:Pos}(hg:Fp r g)(pa:PlainAttrs "list")(slot:Slot "list" name id)(hty:typeOf (.builtin id)=pure (.type "method_descriptor"))(hm:MtM X id r)(ha:VAs c X (e::es) tr)(hN:X.N[i]? = some x:=by rfl)(hv:Vis X.env.scope x:=by first | exact Or.inl rfl | exact Or.inr (Or.inl rfl) | exact Or.inr (Or.inr rfl))(hd:(x == ("__debug__" : Str))=false:=by decide)(hcd:(x == ("__classdict__" : Str))=false:=by decide)(hbase:attributeBase (.Name x p0) name X.env (eval (.Name x p0) X.env)=eval (.Name x p0) X.env:=by rfl)(hfew:((backTo cpos (starEach (e::es) X.env)).all (λ x=>!x.1)&&(backToKw cpos (keywordEach [] X.env)).all (λ x=>x.1.isSome)
     && decide ((e::es).length+([]:List Keyword).length+(if ([]:List Keyword).isEmpty then 0 else 1) < 30))=true:=by rfl)(hline:(apos.endLine == cpos.line)=true:=by rfl)(hs:starEach (e::es) X.env=(false,eval e X.env)::starEach es X.env:=by rfl)(hplain:(backTo cpos (starEach es X.env)).any (·.1)=false:=by rfl) :
   VE c X (.Call (.Attribute (.Name x p0) name apos) (e::es) [] cpos) (Dx g i tr) :=
 ⟨λ Dk s σ H Q I q=>G2 pa slot hty hm (qp0 hN hv hd hcd) ha.h hbase hfew hline hs hplain Dk s σ H Q I (qY9 rfl hg ha (qm0 hN Dk σ H s I) q),qF0 ha⟩
theorem qaA2(i:Nat){x:Str}{p0:Pos}(hg:Fp r g)(pa:PlainAttrs "list")(slot:Slot "list" name id)(hty:typeOf (.builtin id)=pure (.type "method_descriptor"))(hm:MtM X id r)(hN:X.N[i]? = some x:=by rfl)(hv:Vis X.env.scope x:=by first | exact Or.inl rfl | exact Or.inr (Or.inl rfl) | exact Or.inr (Or.inr rfl))(hd:(x == ("__debug__" : Str))=false:=by decide)(hcd:(x == ("__classdict__" : Str))=false:=by decide)(hbase:attributeBase (.Name x p0) name X.env (eval (.Name x p0) X.env)=eval (.Name x p0) X.env:=by rfl)(hline:(apos.endLine == cpos.line)=true:=by rfl) :
   VE c X (.Call (.Attribute (.Name x p0) name apos) [] [] cpos) (Dx g i Ay) :=
 ⟨λ Dk s σ H Q I q=>qaw1 pa slot hty hm (qp0 hN hv hd hcd) hbase hline Dk s σ H Q I (by
   obtain⟨v,hv,hty,F,ds,A,xe,S,x,q⟩:=qY9 (X:=X) rfl hg Ab (qm0 hN Dk σ H s I) q;exact⟨v,hv,hty,q [] H F [] A .nil .nil S S.ok Stp.refl⟩),qF0 (c:=c) (X:=X) Ab⟩
theorem emutP(hg:Fp r g)(pa:PlainAttrs "list")(slot:Slot "list" name id)(hty:typeOf (.builtin id)=pure (.type "method_descriptor"))(hm:MtM X id r)(ho:VP c X o pf)(ha:VAs c X (e::es) tr)(hbase:attributeBase o name X.env (eval o X.env)=eval o X.env:=by rfl)(hfew:((backTo cpos (starEach (e::es) X.env)).all (λ x=>!x.1)&&(backToKw cpos (keywordEach [] X.env)).all (λ x=>x.1.isSome)
     && decide ((e::es).length+([]:List Keyword).length+(if ([]:List Keyword).isEmpty then 0 else 1) < 30))=true:=by rfl)(hline:(apos.endLine == cpos.line)=true:=by rfl)(hs:starEach (e::es) X.env=(false,eval e X.env)::starEach es X.env:=by rfl)(hplain:(backTo cpos (starEach es X.env)).any (·.1)=false:=by rfl) :
   VE c X (.Call (.Attribute o name apos) (e::es) [] cpos) (Ew g pf tr) :=
 ⟨PE.mono (G2 pa slot hty hm ho.h ha.h hbase hfew hline hs hplain) (qap2 hg ha),qT7 ha⟩
def Ex(pf:PF)(fb:FV):VTG:=λ d ds Q=>orF (pf ds) λ q=>orF ((A4 ds q.1 q.2).bind D.own) λ ys=>orF ((fb ds).bind D.asI) λ k=>orF (ixN ys.length k) λ n=>Q (Bp ds q.1 q.2 (.lst false (ys.set n d)))
theorem Gb(ho:VP c X o pf)(hi:VV c X b ob fb)(ha:∀ v,assign (.Subscript o b pos) X.env v=(do
     let ov <- holding [v] (eval o X.env)
     let iv <- holding [v,ov] (eval b X.env)
     standAt pos
     holding [v,ov,iv] (setItem ov iv v)
     release [v,ov,iv] []):=by intro _;rfl):VG c X (.Subscript o b pos) (Ex pf fb):=by
 refine⟨PG.mono (qav4 ho.h hi.h qL4 ha) λ v σ H Q ⟨F,ds,A,T,d,r,S,ok,q⟩=>?_,λ d ds Q Q' hQ=>qa6 λ _=>qa6 λ _=>qa6 λ _=>qa6 λ _=>hQ _⟩;obtain⟨⟨i,p⟩,e1,q⟩:=qa7.mp q;obtain⟨ys,e2,q⟩:=qa7.mp q;obtain⟨dl,e3,e4⟩:=zA1.mp e2;cases qN5 e4;obtain⟨k,e5,q⟩:=qa7.mp q;obtain⟨dk,e6,e7⟩:=zA1.mp e5;obtain⟨n,e8,q⟩:=qa7.mp q;refine⟨F,ds,A,i,p,_,S,e1,e3,D.noConfusion,λ u w H1 hu hw s1=>⟨F,ds,A,dk,S.same s1,e6,λ vk H2 B2 r2 s2 _=>?_⟩⟩;have s12:=s1.trans s2;have S2:=S.same s12;cases r2.asI e7;obtain⟨a,vs,Ael,rfl,ha,rs,wr⟩:=qi1 S2 e3 hu (hw.same s2);have hn:n < ys.length:=(qF6 e8).2.1;obtain⟨B',r3,h3⟩:=rs.setAt hn (r.same s12);obtain⟨⟨A',S3,o3,s3⟩,_⟩:=wr _ _ B' [] T (ok.same s12) r3 λ b=>by have:=h3 b;simp;lia
 exact⟨a,vs,k,n,rfl,rfl,ha,by rw[rs.len];exact e8,q σ _ F A' S3 ((Stp.same s12).trans s3)⟩
def sAugV(f:Int->Int->Int)(pf:PF)(fb fe:FV):VTS:=λ e ds=>orF (pf ds) λ q=>orF ((A4 ds q.1 q.2).bind D.own) λ ys=>orF ((fb ds).bind D.asI) λ k=>0<=k/\orF ((ys[k.toNat]?).bind D.asI) λ x=>orF ((fe ds).bind D.asI) λ y=>e.nx (Bp ds q.1 q.2 (.lst false (ys.set k.toNat (.int (f x y)))))
theorem saug{op:Operator}{f:Int->Int->Int}{fe:FV}{oe:Bool}{tpos:Pos}(ho:VP c X o pf)(hi:VV c X b ob fb)(he:VV c X e oe fe)(hp:PIp X op (ipI f))(ha:∀ ov iv new,augStore b ov iv new=(do holding [new,ov,iv] (setItem ov iv new);release [new,ov,iv] [];pure .next):=by intros;rfl):VS c X (.AugAssign (.Subscript o b tpos) op e pos) (sAugV f pf fb fe):=by
 refine⟨PS.mono (qam7 ho.h hi.h qah0 he.h hp qL4 ha) λ E σ H ⟨F,ds,A,en,S,l,q⟩=>?_,λ en en' ds hl=>qa6 λ _=>qa6 λ _=>qa6 λ _=>And.imp_right (qa6 λ _=>qa6 λ _=>hl.nx _)⟩;obtain⟨⟨i,p⟩,e1,q⟩:=qa7.mp q;obtain⟨ys,e2,q⟩:=qa7.mp q;obtain⟨dl,e3,e4⟩:=zA1.mp e2;cases qN5 e4;obtain⟨k,e5,h0,q⟩:=qa7.mp q;obtain⟨dk,e6,e7⟩:=zA1.mp e5;obtain⟨x,e8,q⟩:=qa7.mp q;obtain⟨dx,e9,e10⟩:=zA1.mp e8;obtain⟨y,e11,q⟩:=qa7.mp q;obtain⟨dy,e12,e13⟩:=zA1.mp e11;refine⟨F,ds,A,i,p,_,S,e1,e3,D.noConfusion,λ u w H1 hu hw s1=>⟨F,ds,A,dk,S.same s1,e6,λ vk H2 B2 r2 s2 _=>?_⟩⟩;have s12:=s1.trans s2;cases r2.asI e7;obtain⟨a,vs,Ael,rfl,ha2,rs2,_⟩:=qi1 (S.same s12) e3 hu (hw.same s2);obtain⟨vx,Bx,hx,rx,_⟩:=rs2.get e9;cases rx.asI e10;refine⟨a,vs,k,_,rfl,rfl,ha2,h0,hx,F,ds,A,dy,S.same s12,e12,λ vy H3 B3 r3 s3 _=>?_⟩;cases r3.asI e13;have s13:=s12.trans s3;have S3:=S.same s13;obtain⟨a',vs',Ael',ea,ha3,rs3,wr⟩:=qi1 S3 e3 hu ((hw.same s2).same s3);cases ea;have hn:k.toNat < ys.length:=(zA5.mp e9).1;obtain⟨B',r4,h4⟩:=rs3.setAt hn (.int (f x y));obtain⟨⟨A',S4,o4,s4⟩,_⟩:=wr _ _ B' [] [] S3.ok r4 λ b=>by have:=h4 b;simpa using this
 refine⟨x,y,rfl,rfl,a,vs',k,k.toNat,rfl,rfl,ha3,?_,l.nx _ σ _ F A' q S4 ((Stp.same s13).trans s4)⟩;rw[rs3.len];unfold ixN;rw[if_pos h0,if_pos (by lia)]
def Ey(f:Str)(d:D):List (Str×D)->List (Str×D)
 | []=>[(f,d)]
 | (g,x)::r=>if g=f then (g,d)::r else (g,x)::Ey f d r
end
section
variable{c:Vc}{X:Cx}{F:Addr->Prop}{H:Hp}{σ:St}{ds:Ds}{A T:List Addr}{a b e o:Expr}{pos cpos apos:Pos}{te:VT}{pf:PF}{fa fb:FV}{oa ob:Bool}
theorem qE7:∀{fvs:List (Str×V)}{fds:List (Str×D)}{B Tv:List Addr}{f:Str}{v:V}{d:D},fvs.map (·.1)=fds.map (·.1)->Reps F H (fvs.map (·.2)) (fds.map (·.2)) B->Rep F H v d Tv->(Be f v fvs).map (·.1)=(Ey f d fds).map (·.1)/\∃ B',Reps F H ((Be f v fvs).map (·.2)) ((Ey f d fds).map (·.2)) B'/\∀ b,B'.count b<=B.count b+Tv.count b
 | [],[],B,Tv,f,v,d,_,r,rv=>⟨rfl,Tv++[],.cons rv .nil,λ b=>by simp⟩
 | [],_::_,_,_,_,_,_,h,_,_=>by simp at h
 | _::_,[],_,_,_,_,_,h,_,_=>by simp at h
 | (k,w)::r,(k',x)::r',B,Tv,f,v,d,h,rs,rv=>by
   have h1:k=k':=by simp at h;exact h.1
   have h2:r.map (·.1)=r'.map (·.1):=by simp at h;simpa using h.2
   subst h1;cases rs with
   | @cons _ _ B1 _ _ B2 q t =>
     by_cases hk:k=f
     . simp only[Be,Ey,if_pos hk,zAu,h2,true_and]
       exact⟨Tv++B2,.cons rv t,λ b=>by simp only[zA0];lia⟩
     obtain⟨m1,B',m2,m3⟩:=qE7 (f:=f) h2 t rv;simp only[Be,Ey,if_neg hk,zAu,m1,true_and];exact⟨B1++B',.cons q m2,λ b=>by simp only[zA0];have:=m3 b;lia⟩
def D.ownI(C:Addr):D->Option (List (Str×D))
 | .ins false C' fs=>if C'=C then some fs else none
 | _=>none
theorem qao2{d:D}{C:Addr}{fs:List (Str×D)}(h:d.ownI C=some fs):d=.ins false C fs:=by
 cases d with
 | ins z C' xs=>cases z with
   | false =>
     have h:(if C'=C then some xs else none)=some fs:=h;by_cases hc:C'=C
     . rw[if_pos hc] at h;cases h;rw[hc]
     rw[if_neg hc] at h;cases h
   | true=>cases h
 | _=>cases h
theorem qao1{p:List Nat}{C:Addr}{fds:List (Str×D)}{u:V}(S:Sta c F H σ ds A)(h:A4 ds i p=some (.ins false C fds))(hu:(σ++c.gv)[i]? = some (some u))(hw:Walk H u p w) :
   ∃(a dx:Addr)(fvs:List (Str×V))(Ael:List Addr),w=.ref a/\H a=some (.ins C dx fvs)/\fvs.map (·.1)=fds.map (·.1)/\Reps F H (fvs.map (·.2)) (fds.map (·.2)) Ael /\
   ∀(fvs':List (Str×V))(fds':List (Str×D))(B' T:List Addr),Ok F H (T++A)->fvs'.map (·.1)=fds'.map (·.1)->Reps F H (fvs'.map (·.2)) (fds'.map (·.2)) B'->(∀ b,B'.count b<=Ael.count b+T.count b) ->
     ∃ A',Sta c F (upd H a (.ins C dx fvs')) σ (Bp ds i p (.ins false C fds')) A'/\Stp F H (T++A) F (upd H a (.ins C dx fvs')) A':=by
 obtain⟨B,C0,r,h3,h4⟩:=S.place h D.noConfusion hu hw;cases r with
 | @ins a _ dx fvs _ Ael ha hk rs =>
 refine⟨a,dx,fvs,Ael,rfl,ha,hk,rs,λ fvs' fds' B' T ok hk' r' hc=>?_⟩;have h3':∀ b,A.count b=(if b=a then 1 else 0)+Ael.count b+C0.count b:=λ b=>by
   rw[h3,zAg];by_cases hb:b=a
   . subst hb;simp;lia
   simp[hb,Ne.symm hb]
 have ha3:=h3' a;rw[if_pos rfl] at ha3;have sa:=ok.sep a;rw[zA0] at sa;have hca:=hc a;have hf:¬ F a:=λ f=>by have:=ok.fro a f;rw[zA0] at this;lia
 have k:=qy4 (F:=F) (o':=.ins C dx fvs') ha rfl hf;have rep':Rep F (upd H a (.ins C dx fvs')) (.ref a) (.ins false C fds') (a::B'):=.ins qb0 hk' (r'.keep k λ b hb w=>by subst w;have:=qa9.mp hb;lia);obtain⟨A',q1,q2⟩:=h4 _ _ k (λ b hb w=>by subst w;have:=qa9.mp hb;lia) rep';have q2':∀ b,A'.count b=(if b=a then 1 else 0)+B'.count b+C0.count b:=λ b=>by
   rw[q2,zAg];by_cases hb:b=a
   . subst hb;simp;lia
   simp[hb,Ne.symm hb]
 have hcnt:∀ b,A'.count b<=(T++A).count b:=λ b=>by rw[zA0,q2',h3'];have:=hc b;lia
 have ex:∀ b,F b->∃ o,upd H a (.ins C dx fvs') b=some o:=λ b f=>by
   obtain⟨x,e⟩:=ok.ex b f;exact⟨x,by rw[qb2 (show b≠a from λ w=>hf (w ▸ f))];exact e⟩
 refine⟨A',⟨q1,⟨λ b=>zAm (hcnt b) (ok.sep b),λ b f=>by have:=ok.fro b f;have:=hcnt b;lia,ex⟩,S.len,S.ag⟩,λ b u e z=>?_,λ b u e z=>by have:=hcnt b;lia,λ _ f=>f,λ _ _ _ _ f=>f⟩;rw[qb2 λ w=>?_]
 . exact e
 subst w;have:=h3' b;rw[if_pos rfl] at this;rw[zA0] at z;lia
def sFldV(C:Addr)(f:Str)(te:VT)(pf:PF):VTS:=λ e ds=>te ds (λ d ds1=>orF (pf ds1) λ q=>orF ((A4 ds1 q.1 q.2).bind (D.ownI C)) λ fs=>fs.length < 100/\e.nx (Bp ds1 q.1 q.2 (.ins false C (Ey f d fs)))) e.xe
theorem sfld{C:Addr}{f:Str}{K:PySem.W.Frag}{pos':Pos}(hK:X.K=K)(ho:VP c X o pf)(hv:VE c X e te)(cl:Cls K C)(na:qe3 K C f)(hs:swapsWith e (some (.Attribute o f pos')) pos.line X.env=pure false:=by rfl):VS c X (.Assign [.Attribute o f pos'] e pos) (sFldV C f te pf):=by
 subst hK;refine⟨PS.mono (qav1 ho.h hv.h hs) λ E σ H ⟨F,ds,A,en,S,l,q⟩=>?_,λ en en' ds hl=>hv.m _ _ _ _ _ (λ d ds1=>qa6 λ _=>qa6 λ _=>And.imp_right (hl.nx _)) hl.xe⟩;refine⟨F,ds,A,en.xe,S,l.xe,hv.m _ _ _ _ _ (λ d ds1 q v H1 F1 T A1 r1 S1 o1 s1=>?_) (λ _ _ z=>z) q⟩;obtain⟨⟨i,p⟩,e1,q⟩:=qa7.mp q;obtain⟨fs,e2,hl,q⟩:=qa7.mp q;obtain⟨dl,e3,e4⟩:=zA1.mp e2;cases qao2 e4;refine⟨F1,ds1,A1,i,p,_,S1,e1,e3,D.noConfusion,λ u w H2 hu hw s2=>?_⟩;have S2:=S1.same s2;obtain⟨a,dx,fvs,Ael,rfl,ha,hk,rs,wr⟩:=qao1 S2 e3 hu hw;have hlen:fvs.length=fs.length:=by have:=congrArg List.length hk;simpa using this
 refine⟨a,C,dx,fvs,rfl,ha,cl,na,by lia,?_⟩;obtain⟨m1,B',m2,m3⟩:=qE7 (f:=f) hk rs (r1.same s2);obtain⟨A',S3,s3⟩:=wr _ _ B' T (o1.same s2) m1 m2 m3;exact l.nx _ σ _ F1 A' q S3 (s1.trans ((Stp.same s2).trans s3))
def gAllV(pf:PF):VTG:=λ d ds Q=>orF (pf ds) λ q=>orF ((A4 ds q.1 q.2).bind D.own) λ xs=>orF (match d with | .lst _ ys=>some ys | _=>none) λ ys=>D.imms ys=true/\xs.length+ys.length<=big/\Q (Bp ds q.1 q.2 (.lst false ys))
def idxV(x:V):List V->Option Nat
 | []=>none
 | y::r=>if eqV y x=true then some 0 else (idxV x r).map (· + 1)
theorem qZ9{x:V}:∀{xs:List V}{j:Nat},idxV x xs=some j->∃ z,xs[j]? = some z/\eqV z x=true/\∀ m z',m < j->xs[m]? = some z'->eqV z' x=false
 | [],j,h=>by cases h
 | y::r,j,h=>by
   unfold idxV at h;by_cases hy:eqV y x=true
   . rw[if_pos hy] at h;cases h
     exact⟨y,rfl,hy,λ m z' hm=>by lia⟩
   rw[if_neg hy] at h;obtain⟨k,hk,rfl⟩:=zAk.mp h;obtain⟨z,h1,h2,h3⟩:=qZ9 hk;refine⟨z,by simpa using h1,h2,λ m z' hm hz=>?_⟩;cases m with
   | zero =>
     have:y=z':=by simpa using hz
     subst this;simpa using hy
   | succ m=>exact h3 m z' (by lia) (by simpa using hz)
def gIdx(x y:D):Option D:=match x with
 | .lst _ ys=>y.flat.bind λ v=>(flats ys).bind λ ws=>(idxV v ws).map λ j=>.int (j:Nat)
 | _=>none
def rL1(r:V->List V->Hp->VK->Prop):R2:=λ x y H Q=>r x [y] H Q
theorem qaw3:Av true (rL1 qal9) gIdx:=by
 intro F H v w x y B d Q r h q;cases r with | @cons _ _ A _ _ _ r1 t=>cases t with | @cons _ _ A2 _ _ _ r2 _ =>
 cases x with
 | lst z ys =>
   obtain⟨v',h1,h⟩:=zA1.mp h;obtain⟨ws,h2,h⟩:=zA1.mp h;obtain⟨j,h3,rfl⟩:=zAk.mp h;obtain⟨rfl,f⟩:=r2.flat h1;obtain⟨a,vs,A3,rfl,hs,rs,_⟩:=r1.lst_inv;obtain⟨rfl,g⟩:=rs.flats h2;obtain⟨z,q1,q2,q3⟩:=qZ9 h3;exact⟨a,vs,w,j,z,rfl,rfl,hs,f,g,q1,q2,q3,q _ H [] (.int _) (λ _ _ z=>z) New.nil⟩
 | _=>cases h
theorem vbm{r:V->List V->Hp->VK->Prop}{g:D->D->Option D}{name:Str}{id:String}(hg:Av true (rL1 r) g)(pa:PlainAttrs "list")(slot:Slot "list" name id)(hty:typeOf (.builtin id)=pure (.type "method_descriptor"))(hm:MtM X id r)(ho:VV c X o oa fa)(hb:VV c X b ob fb)(hl:∀ x y d,g x y=some d->∃ z ys,x=.lst z ys)(hbase:attributeBase o name X.env (eval o X.env)=eval o X.env:=by rfl)(hfew:((backTo cpos (starEach [b] X.env)).all (λ x=>!x.1)&&(backToKw cpos (keywordEach [] X.env)).all (λ x=>x.1.isSome)
     && decide (([b]:List Expr).length+([]:List Keyword).length+(if ([]:List Keyword).isEmpty then 0 else 1) < 30))=true:=by rfl)(hline:(apos.endLine == cpos.line)=true:=by rfl)(hs:starEach [b] X.env=(false,eval b X.env)::starEach [] X.env:=by rfl)(hplain:(backTo cpos (starEach [] X.env)).any (·.1)=false:=by rfl) :
   VV c X (.Call (.Attribute o name apos) [b] [] cpos) true (f2 g fa fb):=by
 refine⟨PE.mono (G2 pa slot hty hm ho.h (qd4 hb.h qn2 hs) hbase hfew hline hs hplain) λ σ H Q ⟨F,ds,A,d,S,e,q⟩=>?_⟩;obtain⟨x,y,ea,eb,eg⟩:=qah4.mp e;obtain⟨z,ys,rfl⟩:=hl x y d eg;refine⟨F,ds,A,_,S,ea,λ v H1 B1 r1 s1 n1=>?_⟩;obtain⟨a,vs,A3,rfl,hs1,rs,_⟩:=r1.lst_inv;refine⟨.inl ⟨rfl,vs,.inl (.inl hs1)⟩,F,ds,A,y,S.same s1,eb,λ w H2 B2 r2 s2 n2=>?_⟩;exact hg F H2 _ w _ y _ d Q (E7 (r1.same s2) r2) eg λ u H3 B3 r3 s3 h3=>q u H3 B3 r3 ((s1.trans s2).trans s3) λ _=>⟨h3.one,λ b o e=>h3.new b o (s2 b o (s1 b o e))⟩
theorem qaq4:∀ x y d,gIdx x y=some d->∃ z ys,x=.lst z ys:=λ x y d h=>by cases x with | lst z ys=>exact⟨z,ys,rfl⟩ | _=>cases h
end
def Dt(g:VTG)(t:VTS)(e:VEnds):List D->Ds->Prop
 | [],ds=>e.nx ds
 | x::xs,ds=>g x ds λ ds1=>t { e with nx:=Dt g t e xs,ct:=Dt g t e xs,bk:=e.nx } ds1
def whN(qc:VTT)(t:VTS)(e:VEnds):Nat->Ds->Prop
 | 0,_=>False
 | n+1,ds=>qc ds (λ b ds1=>if b=true then t { e with nx:=whN qc t e n,ct:=whN qc t e n,bk:=e.nx } ds1 else e.nx ds1) e.xe
def qal5(qc:VTT)(t:VTS):VTS:=λ e ds=>∃ n,whN qc t e n ds
section
variable{c:Vc}{X:Cx}{a b e tg:Expr}{body:List Stmt}{g:VTG}{t:VTS}{te:VT}{qc:VTT}{pos:Pos}
theorem qo1(hg:VG c X tg g)(ht:VSs c X body t){en en':VEnds}(hl:en.Le en'):∀(xs:List D) ds,Dt g t en xs ds->Dt g t en' xs ds
 | [],ds=>hl.nx ds
 | x::xs,ds=>hg.m _ _ _ _ λ ds1=>ht.m _ _ _ ⟨qo1 hg ht hl xs,hl.rt,hl.nx,qo1 hg ht hl xs,hl.xe⟩
theorem qy6{cd:Expr}(hc:VTe c X cd qc)(ht:VSs c X body t){en en':VEnds}(hl:en.Le en'):∀(n:Nat) ds,whN qc t en n ds->whN qc t en' n ds
 | 0,ds=>id
 | n+1,ds=>hc.m _ _ _ _ _ (λ b ds1=>qG1 (ht.m _ _ _ ⟨qy6 hc ht hl n,hl.rt,hl.nx,qy6 hc ht hl n,hl.xe⟩) (hl.nx _)) hl.xe
theorem qal0{cd:Expr}(hp:PassesOwn (model X.prog X.w) X.A X.env X.xe)(hc:VTe c X cd qc)(ht:VSs c X body t):VS c X (.While cd body [] pos) (qal5 qc t):=by
 refine⟨PS.mono (qad4 hp hc.h ht.h) λ E σ H ⟨F,ds,A,en,S,l,n,q⟩=>?_,λ en en' ds hl ⟨n,q⟩=>⟨n,qy6 hc ht hl n ds q⟩⟩;refine⟨λ m σ H=>∃ F ds A,Sta c F H σ ds A/\Lk c E F H A en/\whN qc t en m ds,⟨n,F,ds,A,S,l,q⟩,?_⟩;rintro m σ H ⟨F,ds,A,S,l,q⟩;cases m with
 | zero=>exact q.elim
 | succ m =>
   refine⟨F,ds,A,en.xe,S,l.xe,hc.m _ _ _ _ _ (λ b ds1 q H1 F1 A1 S1 s1=>?_) (λ _ _ z=>z) q⟩;cases b with
   | false=>rw[if_neg (by decide)] at q ⊢;exact l.nx _ _ _ _ _ q S1 s1
   | true =>
     rw[if_pos rfl] at q ⊢;have l1:=l.step s1;refine⟨λ σ' H'=>∃ F' ds' A',Sta c F' H' σ' ds' A'/\Lk c E F' H' A' en/\whN qc t en m ds',λ σ' H' h=>⟨m,by lia,h⟩,F1,ds1,A1,{ en with nx:=whN qc t en m,ct:=whN qc t en m,bk:=en.nx },S1,⟨?_,l1.rt,l1.nx,?_,l1.xe⟩,q⟩
     . exact λ ds' σ' H' F' A' q S' s'=>⟨F',ds',A',S',l1.step s',q⟩
     exact λ ds' σ' H' F' A' q S' s'=>⟨F',ds',A',S',l1.step s',q⟩
theorem qX0{en:VEnds}{F:Addr->Prop}{H:Hp}{σ:St}{ds:Ds}{A:List Addr}{x:V}{y:D}{N:St->Hp->Prop}{nxt:Ds->Prop}(hg:VG c X tg g)(S:Sta c F H σ ds A)(l:Lk c E F H A en)(r:Rep F H x y [])(hN:∀ ds' σ' H' F' A',nxt ds'->Sta c F' H' σ' ds' A'->Stp F H A F' H' A'->N σ' H')(q:g y ds λ ds1=>t { en with nx:=nxt,ct:=nxt,bk:=en.nx } ds1) :
   Fo c g x σ H λ σ2 H2=>Ei c t { E with nx:=N,ct:=N,bk:=E.nx } σ2 H2:=by
 refine⟨F,ds,A,[],y,r,S,S.ok,hg.m _ _ _ _ (λ ds1 q σ1 H1 F1 A1 S1 s1=>?_) q⟩;have l1:=l.step s1;exact⟨F1,ds1,A1,{ en with nx:=nxt,ct:=nxt,bk:=en.nx },S1,⟨λ ds' σ' H' F' A' q S' s'=>hN ds' σ' H' F' A' q S' (Stp.trans s1 s'),l1.rt,l1.nx,λ ds' σ' H' F' A' q S' s'=>hN ds' σ' H' F' A' q S' (Stp.trans s1 s'),l1.xe⟩,q⟩
def D.lstOf:D->Option Ds
 | .lst _ ys=>some ys
 | _=>none
theorem qC0{d:D}{ys:Ds}(h:d.lstOf=some ys):∃ z,d=.lst z ys:=by
 cases d with
 | lst z xs=>cases h;exact⟨z,rfl⟩
 | _=>cases h
theorem qC4:∀{ys:List D}{i:Nat}{y:D},D.imms ys=true->ys[i]? = some y->y.imm=true
 | [],i,y,_,h=>by simp at h
 | d::r,0,y,hm,h=>by
   have:d=y:=by simpa using h
   subst this;exact(zA3.mp hm).1
 | d::r,i+1,y,hm,h=>qC4 (zA3.mp hm).2 (by simpa using h)
theorem qo2{xs:List α}{x:α}(h:xs[i]? = some x):xs.drop i=x::xs.drop (i+1):=by
 obtain⟨hi,rfl⟩:=zA5.mp h;exact List.drop_eq_getElem_cons hi
def sForL(te:VT)(g:VTG)(t:VTS):VTS:=λ e ds=>te ds (λ d ds1=>orF d.lstOf λ ys=>D.imms ys=true/\Dt g t e ys ds1) e.xe
theorem Gc(hp:PassesOwn (model X.prog X.w) X.A X.env X.xe)(hi:VE c X e te)(hg:VG c X tg g)(ht:VSs c X body t)(hc:X.calm=true:=by rfl)(hfs:∀ v,foldedSetIterable e X.env v=pure v:=by intro _;rfl):VS c X (.For tg e body [] pos) (sForL te g t):=by
 refine⟨PS.mono (qam4 hp hc (qE8 hi.h) hg.h ht.h hfs) λ E σ H ⟨F,ds,A,en,S,l,q⟩=>?_,λ en en' ds hl=>hi.m _ _ _ _ _ (λ d ds1=>qa6 λ ys=>And.imp_right (qo1 hg ht hl ys ds1)) hl.xe⟩;refine⟨F,ds,A,en.xe,S,l.xe,hi.m _ _ _ _ _ (λ d ds1 q v H1 F1 T A1 r1 S1 o1 s1=>?_) (λ _ _ z=>z) q⟩;obtain⟨ys,ey,hm,qf⟩:=qa7.mp q;obtain⟨z,rfl⟩:=qC0 ey;obtain⟨a,vs,Ael,rfl,ha,rs,_⟩:=r1.lst_inv;have s1':Stp F H A F1 H1 A1:=s1.count λ b=>by rw[zA0];lia
 refine⟨a,rfl,⟨vs,.inl (.inl ha)⟩,qah3 (K:=X.K) (a:=a) (xs:=vs) (λ i σ H=>∃ F ds A,Sta c F H σ ds A/\Lk c E F H A en/\Rep F H (.ref a) (.lst z ys) T/\H a=some (.lst vs)/\Ok F H (T++A)/\Dt g t en (ys.drop i) ds) ⟨F1,ds1,A1,S1,l.step s1',r1,ha,o1,qf⟩ ?_ ?_ ?_⟩
 . rintro i σ H _ ⟨F,ds,A,S,l,r,ha,o,q⟩
   exact .inl (.inl ha)
 . rintro i x σ H hx ⟨F,ds,A,S,l,r,ha,o,q⟩
   obtain⟨a',vs',Ael',ea,ha',rs',_⟩:=r.lst_inv;cases ea;rw[ha] at ha';cases ha';obtain⟨y,B,hy,ry⟩:=rs'.getV hx
   have:=ry.imm (qC4 hm hy)
   subst this;rw[qo2 hy] at q;refine qX0 hg S l ry (λ ds' σ' H' F' A' q' S' s'=>?_) q;have kp:=s'.kp S.ok S.loc.cells;have hT:∀ b∈T,¬ (A.count b≠0):=λ b hb hc=>by
     have:=o.sep b
     rw[zA0] at this
     have:=qa9.mp hb
     lia
   have r':=r.keep kp hT;obtain⟨o',_⟩:=s'.frame o r.cells S'.ok;have ha2:H' a=some (.lst vs):=by
     cases r with
     | lst h _=>exact kp.fr _ _ ha (hT _ zAc)
     | lstZ h f _=>exact kp.fr _ _ ha λ w=>kp.wf _ w f
   exact⟨F',ds',A',S',l.step s',r',ha2,o',q'⟩
 rintro σ H ⟨F,ds,A,S,l,r,ha,o,q⟩;rw[rs.len,List.drop_length] at q;exact l.nx _ _ _ _ _ q S Stp.refl
def A5(lo:Int)(n:Nat):List D:=(List.range n).map λ(i:Nat)=>.int (lo+(i:Int))
theorem qM4(h:i < n):(A5 lo n)[i]? = some (.int (lo+(i:Int))):=by
 unfold A5;rw[zBe,List.getElem?_range h];rfl
theorem qX8(lo:Int)(n:Nat):(A5 lo n).length=n:=by simp[A5]
def Fq(i:Int):Bool:=decide (-(2 ^ 62)<=i)&&decide (i < 2 ^ 62)
theorem qO2{i:Int}(h:Fq i=true):-(2 ^ 62)<=i/\i < 2 ^ 62:=by
 have:=zA3.mp h
 exact⟨zAn this.1,zAn this.2⟩
theorem qar2{en:VEnds}{F:Addr->Prop}{H:Hp}{σ:St}{ds:Ds}{A:List Addr}(hg:VG c X tg g)(S:Sta c F H σ ds A)(l:Lk c E F H A en)(q:Dt g t en (A5 lo n) ds) :
   ∃ W:Nat->Nat->St->Hp->Prop,(∃ m,W 0 m σ H)/\∀ i m σ H,W i m σ H ->
     ((Itr lo n).stop i H/\E.nx σ H)∨((Itr lo n).go i H/\∃ N:St->Hp->Prop,(∀ σ' H',N σ' H'->∃ m',m' < m/\W (i+1) m' σ' H')/\∀ x H',(Itr lo n).yld i H x H'->Fo c g x σ H' λ σ2 H2=>Ei c t { E with nx:=N,ct:=N,bk:=E.nx } σ2 H2):=by
 refine qU9 (λ i σ H=>∃ F ds A,Sta c F H σ ds A/\Lk c E F H A en/\Dt g t en ((A5 lo n).drop i) ds) ⟨F,ds,A,S,l,q⟩ ?_ ?_
 . rintro i σ H hi ⟨F,ds,A,S,l,q⟩
   rw[qo2 (qM4 hi)] at q;exact qX0 hg S l (.int _) (λ ds' σ' H' F' A' q' S' s'=>⟨F',ds',A',S',l.step s',q'⟩) q
 rintro σ H ⟨F,ds,A,S,l,q⟩;rw[List.drop_of_length_le (by rw[qX8];exact zA8 _)] at q;exact l.nx _ _ _ _ _ q S Stp.refl
def Hk:Ds->Option Int
 | [.int j]=>some j
 | _=>none
theorem qY7{xs:Ds}{j:Int}(h:Hk xs=some j):xs=[.int j]:=by
 unfold Hk at h;split at h
 . cases h;rfl
 cases h
def qac9(tr:VTA)(g:VTG)(t:VTS):VTS:=λ e ds=>tr ds (λ xs ds1=>orF (Hk xs) λ j=>Fq j=true/\Dt g t e (A5 0 j.toNat) ds1) e.xe
theorem qS7{tr:VTA}{p cpos:Pos}(hp:PassesOwn (model X.prog X.w) X.A X.env X.xe)(hm:X.mg "range" = none)(ha:VOs c X [a] tr)(hg:VG c X tg g)(ht:VSs c X body t)(hgl:Gl X "range" := by rfl)(hs:starEach [a] X.env=[(false,eval a X.env)]:=by rfl)(hc:X.calm=true:=by rfl) :
   VS c X (.For tg (.Call (.Name "range" p) [a] [] cpos) body [] pos) (qac9 tr g t):=by
 refine⟨PS.mono (qam4 hp hc (qu2 hgl hm ha.h hs) hg.h ht.h) λ E σ H ⟨F,ds,A,en,S,l,q⟩=>?_,λ en en' ds hl=>ha.m _ _ _ _ _ (λ xs ds1=>qa6 λ j=>And.imp_right (qo1 hg ht hl _ ds1)) hl.xe⟩;refine⟨F,ds,A,en.xe,S,l.xe,ha.m _ _ _ _ _ (λ xs ds1 q vs H1 F1 T A1 r1 S1 s1=>?_) (λ _ _ z=>z) q⟩;obtain⟨j,ej,hm,qf⟩:=qa7.mp q;cases qY7 ej;obtain⟨v,rfl,rv⟩:=r1.one_inv;cases rv
 have:=qO2 hm
 exact⟨j,rfl,this.1,this.2,qar2 hg S1 (l.step s1) qf⟩
def tFzV(te:VT):VT:=λ ds Q xe=>te ds (λ d ds1=>Q d.fz ds1) xe
theorem An(h:VE c X e te):VE c X e (tFzV te):=by
 refine⟨PE.mono h.h λ σ H Q ⟨F,ds,A,xe,S,x,q⟩=>⟨F,ds,A,xe,S,x,h.m _ _ _ _ _ (λ d ds1 q v H1 F1 T A1 r1 S1 o1 s1=>?_) (λ _ _ z=>z) q⟩,λ ds Q Q' xe xe' hQ hx=>h.m _ _ _ _ _ (λ d ds1=>hQ _ _) hx⟩;have rz:=r1.fz (F':=λ b=>F1 b∨b∈T) (λ b f=>.inl f) λ b hb=>.inr hb
 obtain⟨o',s'⟩:=share (A:=T++A1) (B:=T) (C:=A1) o1 (λ b=>by rw[zA0]) r1.cells (A':=A1) (λ b=>rfl);have L:=S1.loc.keep (Kp.more (H:=H1) λ b f=>Or.inl (b:=b∈T) f) λ _ _ z=>z
 exact q v H1 _ [] A1 rz ⟨L,o',S1.len,S1.ag⟩ o' (s1.trans s')
end
def fin(W:Nat->Bool):Nat->Ds->Ds->Ds
 | k,d::r,d'::r'=>(if W k=true then d' else d)::fin W (k+1) r r'
 | _,_,_=>[]
def F4(W:Nat->Bool):Nat->Ds->Bool
 | _,[]=>true
 | k,d::r=>(W k||d.imm)&&F4 W (k+1) r
def qV9(W:Nat->Bool)(ds:Ds)(Q:DK)(xe:XKd):VEnds where
 nx ds':=Q .non (fin W 0 ds ds')
 rt d ds':=Q d (fin W 0 ds ds')
 bk _:=False
 ct _:=False
 xe x ds':=xe x (fin W 0 ds ds')
section
variable{F F':Addr->Prop}{H H':Hp}
theorem qaA0{W:Nat->Bool}{Wr:Addr->Prop}(kp:Kp F H Wr F' H'):∀{vs:List V}{ds:Ds}{A:List Addr}{k:Nat}{σ':List (Option V)}{ds':Ds}{A':List Addr},Reps F H vs ds A->F4 W k ds=true->Locs F' H' σ' ds' A'->vs.length<=σ'.length->(∀ i,i < vs.length->W (k+i)=true->σ'[i]? = (vs.map some)[i]?) ->
   ∃ A2,Reps F' H' vs (fin W k ds ds') A2/\∀ b,A2.count b<=A'.count b:=by
 intro vs
 induction vs with
 | nil =>
   intro ds A k σ' ds' A' r hm L hl ag;cases r;exact⟨[],by cases ds'<;>exact .nil,λ b=>by simp⟩
 | cons v vs ih =>
   intro ds A k σ' ds' A' r hm L hl ag;cases r with
   | @cons _ d B _ ds B2 r1 t =>
     have hm:=zA3.mp hm;have step:∀{σ2:List (Option V)}{ds2:Ds}{A2:List Addr}(o:Option V),σ'=o::σ2->Locs F' H' σ2 ds2 A2->∃ A3,Reps F' H' vs (fin W (k+1) ds ds2) A3/\∀ b,A3.count b<=A2.count b:=λ{σ2 ds2 A2} o e L2=>by
       subst e;refine ih t hm.2 L2 (by simpa using hl) λ i hi hw=>?_
       have:=ag (i+1) (by simpa using hi) (by rw[<- hw];congr 1;lia)
       simpa using this
     cases L with
     | nil=>simp at hl
     | no L2 =>
       obtain⟨A3,q1,q2⟩:=step none rfl L2;by_cases hw:W k=true
       . have:=ag 0 (by simp) (by simpa using hw)
         simp at this
       have hi:d.imm=true:=by
         rcases Bool.or_eq_true_iff.mp hm.1 with h | h
         . exact absurd h hw
         exact h
       have:=r1.imm hi
       subst this;refine⟨[]++A3,?_,λ b=>by simpa using q2 b⟩;show Reps F' H' (v::vs) ((if W k=true then _ else d)::_) _;rw[if_neg hw];exact .cons (r1.keep kp λ b hb=>by cases hb) q1
     | @so v' d' B' σ2 ds2 A2 rr L2 =>
       obtain⟨A3,q1,q2⟩:=step (some v') rfl L2;by_cases hw:W k=true
       . have:=ag 0 (by simp) (by simpa using hw)
         simp at this;subst this;refine⟨B'++A3,?_,λ b=>by simp only[zA0];have:=q2 b;lia⟩;show Reps F' H' (v'::vs) ((if W k=true then d' else d)::_) _;rw[if_pos hw];exact .cons rr q1
       have hi:d.imm=true:=by
         rcases Bool.or_eq_true_iff.mp hm.1 with h | h
         . exact absurd h hw
         exact h
       have:=r1.imm hi
       subst this;refine⟨[]++A3,?_,λ b=>by simp only[zBc,zA0];have:=q2 b;lia⟩;show Reps F' H' (v::vs) ((if W k=true then d' else d)::_) _;rw[if_neg hw];exact .cons (r1.keep kp λ b hb=>by cases hb) q1
theorem Reps.locs{ds:Ds}{A:List Addr}(r:Reps F H vs ds A):Locs F H (vs.map some) ds A:=by
 induction vs generalizing ds A with
 | nil=>cases r;exact .nil
 | cons v vs ih=>cases r with | cons h t=>exact .so h (ih t)
theorem qo0:∀ n:Nat,Locs F H (List.replicate n none) (List.replicate n .unk) []
 | 0=>.nil
 | n+1=>.no (qo0 n)
end
structure FunE(K:PySem.W.Frag)(x qual:Str)(st:Stmt)(f:Addr)(fd:FuncData):Prop where
 ex:∃(oc:Value)(od:Option Addr)(dV kV doc pm:Value)(an:Option Addr)(cdv ct:Value)(osl:Array (Option Value)),
   fd=PySem.W.fnOf x qual (qf4 st) (qd0 st) (qa4 st) dV kV doc pm an cdv ct/\K.lookup f=some ⟨oc,od,.func fd,osl⟩/\PySem.W.codeIn K cdv qual=true
theorem FunE.of{K:PySem.W.Frag}{x qual:Str}{st:Stmt}{f:Addr}{fd:FuncData}(F:Fun K x qual st f fd):FunE K x qual st f fd :=
 let ⟨oc,od,kV,doc,pm,an,cdv,ct,osl,e,lk,hcd⟩:=F.ex
 ⟨⟨oc,od,.none,kV,doc,pm,an,cdv,ct,osl,e,lk,hcd⟩⟩
theorem FunE.okX{w:World}{K:PySem.W.Frag}{x qual:Str}{st:Stmt}{f:Addr}{fd:FuncData}{ps:List Str}{k:Nat}{sp:Sp}(F:FunE K x qual st f fd)(S:qb1 N ps (qa4 st))(len:∀ vs H Q E,sp vs H Q E->vs.length=ps.length)(hbody:∀(cdv:Value)(A:Around)(outer:List Env)(s:Shared)(H:Hp)(vs:List V)(Q:VK)(E:XK),Room k (A.deeper (PyProof.Rows.envOfC qual (qa4 st) s.heap.objs.size f cdv))->sp vs H Q E ->
     ∃ t,PSs (B9 (CX1 P w) P w K mg base N qual (qa4 st) f cdv A outer s H E) (qd0 st) t/\t { nx:=λ _ H'=>Q .non H',rt:=Q } (L2.start N vs) H):Bh P w K mg base (CX1 P w) (k+1) f fd ps sp:=by
 obtain⟨oc,od,dV,kV,doc,pm,an,cdv,ct,osl,rfl,lk,hcd⟩:=F.ex;exact G0 lk hcd S len λ A outer s H vs Q E hr hsp=>hbody cdv A outer s H vs Q E hr hsp
theorem VFn.mkE{w:World}{K:PySem.W.Frag}{x qual:Str}{st:Stmt}{f:Addr}{fd:FuncData}{ps:List Str}{k:Nat}{s:VSp}(Fu:FunE K x qual st f fd)(Sc:qb1 N ps (qa4 st))(W:Nat->Bool)(hs:Bc s)(hlen:∀ ds Q xe,s ds Q xe->ds.length=ps.length)(himm:∀ ds Q xe,s ds Q xe->F4 W 0 ds=true)(hbody:∀(cdv:Value)(A:Around)(outer:List Env)(sh:Shared)(H:Hp)(E:XK)(av:List (Option V)),Room k (A.deeper (PyProof.Rows.envOfC qual (qa4 st) sh.heap.objs.size f cdv)) ->
     ∃ t,VSs ⟨E,W,av,[]⟩ (B9 (CX1 P w) P w K mg base N qual (qa4 st) f cdv A outer sh H E) (qd0 st) t/\∀ ds Q xe,s ds Q xe->t (qV9 W ds Q xe) (ds++List.replicate (N.length - ds.length) .unk)) :
   VFn P w K mg base (k+1) f fd ps s:=by
 refine⟨Fu.okX Sc (λ vs H Q E ⟨F,ds,A,r,o,h⟩=>by rw[r.len];exact hlen _ _ _ h) λ cdv Ar outer sh H vs Q E hr ⟨F,ds,A,r,o,h⟩=>?_,hs⟩;obtain⟨t,hv,ht⟩:=hbody cdv Ar outer sh H E (L2.start N vs) hr;have hl:=hlen _ _ _ h;have hi:=himm _ _ _ h;have hN:ps.length<=N.length:=by have:=congrArg List.length Sc.pre;rw[zBl] at this;lia
 have L0:Locs F H (L2.start N vs++[]) (ds++List.replicate (N.length - ds.length) .unk) A:=by
   rw[zAa];unfold L2.start;rw[r.len]
   have:=r.locs.append (qo0 (F:=F) (H:=H) (N.length - ds.length))
   rwa[zAa] at this
 have S0:Sta ⟨E,W,L2.start N vs,[]⟩ F H (L2.start N vs) (ds++List.replicate (N.length - ds.length) .unk) A:=⟨L0,o,by simp,λ i _=>by simp⟩
 have key:∀{σ':St}{H':Hp}{F':Addr->Prop}{ds':Ds}{A' A2:List Addr},Sta ⟨E,W,L2.start N vs,[]⟩ F' H' σ' ds' A'->Stp F H A F' H' A2->∃ A3,Reps F' H' vs (fin W 0 ds ds') A3/\∀ b,A3.count b<=A'.count b:=λ{σ' H' F' ds' A' A2} S' s'=>by
   have hlen':=S'.len;simp only[zAa] at hlen';refine qaA0 (s'.kp o r.cells) r hi (by have:=S'.loc;simpa using this) ?_ λ i hiv hw=>?_
   . rw[<- hlen'];unfold L2.start;simp
   have:=S'.ag i (by simpa using hw)
   simp only[zAa] at this;rw[this];show (L2.start N vs)[i]? = _;unfold L2.start;rw[zAo (by simpa using hiv)]
 refine⟨_,hv.h,F,_,A,qV9 W ds _ _,S0,⟨?_,?_,λ _ _ _ _ _ z=>False.elim z,λ _ _ _ _ _ z=>False.elim z,?_⟩,ht _ _ _ h⟩
 . intro ds' σ' H' F' A' q S' s'
   obtain⟨A3,q1,q2⟩:=key S' s';have hc:∀ b,([]++A3).count b<=A'.count b:=λ b=>by simpa using q2 b
   exact q .non H' F' [] A3 .non q1 (S'.ok.count hc) (s'.count hc)
 . intro d ds' v σ' H' F' T A' q rv S' oT s'
   obtain⟨A3,q1,q2⟩:=key S' s';have hc:∀ b,(T++A3).count b<=(T++A').count b:=λ b=>by simp only[zA0];have:=q2 b;lia
   exact q v H' F' T A3 rv q1 (oT.count hc) (s'.count hc)
 intro y ds' σ' e H' F' A' q rx S' s';obtain⟨A3,q1,q2⟩:=key S' s';exact q e H' F' A3 rx q1 (S'.ok.count q2) (s'.count q2)
theorem VFn.mk'{w:World}{K:PySem.W.Frag}{x qual:Str}{st:Stmt}{f:Addr}{fd:FuncData}{ps:List Str}{k:Nat}{s:VSp}(Fu:Fun K x qual st f fd)(Sc:qb1 N ps (qa4 st))(W:Nat->Bool)(hs:Bc s)(hlen:∀ ds Q xe,s ds Q xe->ds.length=ps.length)(himm:∀ ds Q xe,s ds Q xe->F4 W 0 ds=true)(hbody:∀(cdv:Value)(A:Around)(outer:List Env)(sh:Shared)(H:Hp)(E:XK)(av:List (Option V)),Room k (A.deeper (PyProof.Rows.envOfC qual (qa4 st) sh.heap.objs.size f cdv)) ->
     ∃ t,VSs ⟨E,W,av,[]⟩ (B9 (CX1 P w) P w K mg base N qual (qa4 st) f cdv A outer sh H E) (qd0 st) t/\∀ ds Q xe,s ds Q xe->t (qV9 W ds Q xe) (ds++List.replicate (N.length - ds.length) .unk)) :
   VFn P w K mg base (k+1) f fd ps s:=VFn.mkE (FunE.of Fu) Sc W hs hlen himm hbody
def Bi:List (Option Nat)->Ds->Ds×Ds
 | [],ds=>([],ds)
 | none::r,ds=>(.unk::(Bi r ds).1,(Bi r ds).2)
 | some j::r,ds=>((ds[j]?).getD .unk::(Bi r (ds.set j .unk)).1,(Bi r (ds.set j .unk)).2)
def Ez:List (Option Nat)->Ds->Ds->Ds
 | none::r,_::i,o=>Ez r i o
 | some j::r,d::i,o=>Ez r i (o.set j d)
 | _,_,o=>o
def B8(g:VTG)(qf:VTT)(te:VT)(K:Ds->Ds->Prop):List D->Ds->Ds->Prop
 | [],acc,ι=>K acc ι
 | x::xs,acc,ι=>g x ι λ ι1=>qf ι1 (λ b ι2=>if b=true then te ι2 (λ d ι3=>acc.length < big/\B8 g qf te K xs (acc++[d]) ι3) (λ _ _=>False) else B8 g qf te K xs acc ι2) (λ _ _=>False)
def capW(src:List (Option Nat)):Nat->Bool:=λ i=>match src[i]? with | some (some _)=>true | _=>false
abbrev cIn(src:List (Option Nat))(av:List (Option V)):Vc:=⟨λ _ _ _=>False,capW src,av,[]⟩
structure VF(c:Vc)(X:Cx)(ifs:List Expr)(t:VTT):Prop where
 h:PFs X ifs (Bw c t)
 m:∀ ds (Q Q':Bool->Ds->Prop) (xe xe':XKd),(∀ d ds',Q d ds'->Q' d ds')->(∀ x ds',xe x ds'->xe' x ds')->t ds Q xe->t ds Q' xe'
def qYes:VTT:=λ ds Q _=>Q true ds
theorem Fs{c:Vc}{X:Cx}:VF c X [] qYes:=⟨λ Dk s σ H Q I ⟨F,ds,A,xe,S,x,q⟩=>qam8 Dk s σ H Q I (q H F A S Stp.refl),λ ds Q Q' xe xe' hQ _=>hQ _ _⟩
theorem Hl{c:Vc}{X:Cx}{e:Expr}{t:VTT}(h:VTe c X e t):VF c X [e] t:=⟨qav5 h.h,h.m⟩
section
variable{F F':Addr->Prop}{H H':Hp}
theorem qK8:∀{src:List (Option Nat)}{σ gv:List (Option V)}{ds:Ds}{A:List Addr},Locs F H (σ++gv) ds A->(∀ j,some j∈src->j < σ.length) ->
   ∃ Ai Ao,Locs F H (Bn σ src) (Bi src ds).1 Ai/\Locs F H (σ++gv) (Bi src ds).2 Ao/\∀ b,A.count b=Ai.count b+Ao.count b
 | [],σ,gv,ds,A,L,_=>⟨[],A,.nil,L,λ b=>by simp⟩
 | none::r,σ,gv,ds,A,L,h=>by
   obtain⟨Ai,Ao,q1,q2,q3⟩:=qK8 (src:=r) L λ j hj=>h j (zA9 _ hj)
   exact⟨Ai,Ao,.no q1,q2,q3⟩
 | some j::r,σ,gv,ds,A,L,h=>by
   have hj:=h j zAc;have hl:=L.len;rw[zAf] at hl;obtain⟨dj,hds⟩:∃ d,ds[j]? = some d:=⟨_,zBj (by lia)⟩
   obtain⟨σ1,o,σ2,ds1,ds2,A1,B,A2,e1,e2,e3,e4,e5,l1,l2,l3⟩:=L.split hds;have ho:(σ++gv)[j]? = some o:=by rw[e1];exact qs9 e3
   rw[zAo hj] at ho;have e6:ds.set j .unk=ds1++.unk::ds2:=by
     have:=congrArg (λ l=>l.set j .unk) e2
     rw[this,qk1 e4]
   have L':Locs F H (σ++gv) (ds.set j .unk) (A1++A2):=by
     rw[e1,e6];cases l2 with
     | no=>exact l1.append (.no l3)
     | @so v _ _ _=>exact l1.append (.so (B:=[]) (.unk v) l3)
   obtain⟨Ai,Ao,q1,q2,q3⟩:=qK8 (src:=r) L' λ j hj=>h j (zA9 _ hj)
   refine⟨B++Ai,Ao,?_,q2,λ b=>by rw[e5];have:=q3 b;simp only[zA0] at *;lia⟩;show Locs F H (((σ[j]?).getD none)::Bn σ r) ((ds[j]?).getD .unk::_) _;rw[ho,hds];exact Locs.cons l2 q1
theorem qx1:∀{src:List (Option Nat)}{σ gv σ':List (Option V)}{ι o:Ds}{Ai Ao:List Addr},Locs F H σ' ι Ai->Locs F H (σ++gv) o Ao->(∀ j,some j∈src->j < σ.length)->(∀(i j:Nat),src[i]? = some (some j)->σ'[i]? = some ((σ[j]?).getD none))->σ'.length=src.length ->
   ∃ A',Locs F H (σ++gv) (Ez src ι o) A'/\∀ b,A'.count b<=Ai.count b+Ao.count b
 | [],σ,gv,σ',ι,o,Ai,Ao,L,Lo,_,_,_=>⟨Ao,by cases ι<;>exact Lo,λ b=>by lia⟩
 | none::r,σ,gv,σ',ι,o,Ai,Ao,L,Lo,h,ag,hl=>by
   cases L with
   | nil=>simp at hl
   | no L2 =>
     obtain⟨A',q1,q2⟩:=qx1 (src:=r) L2 Lo (λ j hj=>h j (zA9 _ hj)) (λ i j e=>by simpa using ag (i+1) j (by simpa using e)) (by simpa using hl);exact⟨A',q1,q2⟩
   | so r1 L2 =>
     obtain⟨A',q1,q2⟩:=qx1 (src:=r) L2 Lo (λ j hj=>h j (zA9 _ hj)) (λ i j e=>by simpa using ag (i+1) j (by simpa using e)) (by simpa using hl);exact⟨A',q1,λ b=>by rw[zA0];have:=q2 b;lia⟩
 | some j::r,σ,gv,σ',ι,o,Ai,Ao,L,Lo,h,ag,hl=>by
   have hj:=h j zAc;have hlo:=Lo.len;rw[zAf] at hlo;obtain⟨oj,hoj⟩:∃ d,o[j]? = some d:=⟨_,zBj (by lia)⟩
   obtain⟨σ1,ov,σ2,ds1,ds2,A1,B,A2,e1,e2,e3,e4,e5,l1,l2,l3⟩:=Lo.split hoj;have ho:(σ++gv)[j]? = some ov:=by rw[e1];exact qs9 e3
   rw[zAo hj] at ho;have h0:=ag 0 j rfl;rw[ho] at h0;have e6:∀ d,o.set j d=ds1++d::ds2:=λ d=>by
     have:=congrArg (λ l=>l.set j d) e2
     rw[this,qk1 e4]
   cases L with
   | nil=>simp at hl
   | no L2 =>
     have:ov=none:=by simpa using h0.symm
     subst this;have Lo':Locs F H (σ++gv) (o.set j .unk) (A1++A2):=by rw[e1,e6];exact l1.append (.no l3)
     obtain⟨A',q1,q2⟩:=qx1 (src:=r) L2 Lo' (λ j hj=>h j (zA9 _ hj)) (λ i j e=>by simpa using ag (i+1) j (by simpa using e)) (by simpa using hl);exact⟨A',q1,λ b=>by rw[e5];have:=q2 b;simp only[zA0] at *;lia⟩
   | @so v d Bv _ _ _ r1 L2 =>
     have:ov=some v:=by simpa using h0.symm
     subst this;have Lo':Locs F H (σ++gv) (o.set j d) (A1++(Bv++A2)):=by rw[e1,e6];exact l1.append (.so r1 l3)
     obtain⟨A',q1,q2⟩:=qx1 (src:=r) L2 Lo' (λ j hj=>h j (zA9 _ hj)) (λ i j e=>by simpa using ag (i+1) j (by simpa using e)) (by simpa using hl);exact⟨A',q1,λ b=>by rw[e5];have:=q2 b;simp only[zA0] at *;lia⟩
theorem qad8(σ:St)(src:List (Option Nat)):(Bn σ src).length=src.length:=by simp[Bn]
theorem qad9{σ:St}{src:List (Option Nat)}(h:src[i]? = some (some j)):(Bn σ src)[i]? = some ((σ[j]?).getD none):=by
 unfold Bn;rw[zBe,h];rfl
structure Gs(Pp:(Addr->Prop)->Hp->Prop)(T:List Addr):Prop where
 keep:∀{F F':Addr->Prop}{H H':Hp}{W:Addr->Prop},Kp F H W F' H'->(∀ b∈T,¬ W b)->Pp F H->Pp F' H'
 cells:∀{F:Addr->Prop}{H:Hp},Pp F H->∀ b∈T,∃ o,H b=some o/\B7 o=true
end
section
variable{c:Vc}{F F':Addr->Prop}{H H':Hp}{Pp:(Addr->Prop)->Hp->Prop}{τ:List (Option V)}{o:Ds}{Dd:Addr}{acc:Ds}{T A A' Tv:List Addr}{σ:St}{ds:Ds}
def Tot(B T Ao A:List Addr):List Addr:=B++(T++(Ao++A))
theorem qu3(st:Gs Pp T){B:List Addr}(r:Rep F H (.ref Dd) (.lst false acc) B)(hp:Pp F H)(L:Locs F H τ o Ao)(ok:Ok F H (Tot B T Ao A))(S:Sta c F H σ ds A)(s:Stp F H A F' H' A')(o':Ok F' H' A') :
   Rep F' H' (.ref Dd) (.lst false acc) B/\Pp F' H'/\Locs F' H' τ o Ao/\Ok F' H' (Tot B T Ao A')/\Stp F H (Tot B T Ao A) F' H' (Tot B T Ao A'):=by
 unfold Tot at *
 have kp:=s.kp S.ok S.loc.cells;have hc:∀ b,(B++(T++(Ao++A))).count b=((B++(T++Ao))++A).count b:=λ b=>by simp only[zA0];lia
 have hout:∀ b,b∈B∨b∈T∨b∈Ao->¬ (A.count b≠0):=λ b hb hcn=>by
   have:=ok.sep b
   simp only[zA0] at this;rcases hb with hb | hb | hb<;>have:=qa9.mp hb<;>lia
 have cT:∀ b∈B++(T++Ao),∃ o,H b=some o/\B7 o=true:=λ b hb=>by
   rcases zAd.mp hb with hb | hb
   . exact r.cells b hb
   rcases zAd.mp hb with hb | hb
   . exact st.cells hp b hb
   exact L.cells b hb
 obtain⟨o2,s2⟩:=s.frame (T:=B++(T++Ao)) (ok.count λ b=>by rw[hc];exact zA8 _) cT o';have hc':∀ b,(B++(T++(Ao++A'))).count b=((B++(T++Ao))++A').count b:=λ b=>by simp only[zA0];lia
 exact⟨r.keep kp λ b hb=>hout b (.inl hb),st.keep kp (λ b hb=>hout b (.inr (.inl hb))) hp,L.keep kp λ b hb=>hout b (.inr (.inr hb)),o2.count λ b=>by rw[hc'];exact zA8 _,(s2.pre λ b=>by rw[hc]).count λ b=>by rw[hc'];exact zA8 _⟩
theorem qae6(st:Gs Pp T){B:List Addr}{d:D}(r:Rep F H (.ref Dd) (.lst false acc) B)(hp:Pp F H)(L:Locs F H τ o Ao)(S:Sta c F H σ ds A)(rv:Rep F H v d Tv)(ok:Ok F H (Tot B T Ao (Tv++A))) :
   ∃ vs B',H Dd=some (.lst vs)/\vs.length=acc.length/\Rep F (upd H Dd (.lst (vs++[v]))) (.ref Dd) (.lst false (acc++[d])) B'/\Pp F (upd H Dd (.lst (vs++[v])))/\Locs F (upd H Dd (.lst (vs++[v]))) τ o Ao/\Sta c F (upd H Dd (.lst (vs++[v]))) σ ds A/\Ok F (upd H Dd (.lst (vs++[v]))) (Tot B' T Ao A)/\Stp F H (Tot B T Ao (Tv++A)) F (upd H Dd (.lst (vs++[v]))) (Tot B' T Ao A):=by
 unfold Tot at *
 obtain⟨a,vs,Ael,ea,ha,rs,rfl⟩:=qj6 r;cases ea;have hs:=ok.sep Dd;simp only[zA0,zAg,zBa,if_true] at hs;have hf:¬ F Dd:=λ f=>by have:=ok.fro Dd f;simp only[zA0,zAg,zBa,if_true] at this;lia
 have k:=qy4 (F:=F) (o':=.lst (vs++[v])) ha rfl hf;have no:∀ X:List Addr,X.count Dd=0->∀ b∈X,¬ b=Dd:=λ X hx b hb w=>by subst w;exact(qa9.mp hb) hx
 have hcnt:∀ b,(Dd::(Ael++(Tv++[]))++(T++(Ao++A))).count b<=(Dd::Ael++(T++(Ao++(Tv++A)))).count b:=λ b=>by simp only[zA0,zAg,List.count_nil];lia
 have ex:∀ b,F b->∃ o,upd H Dd (.lst (vs++[v])) b=some o:=λ b f=>by
   obtain⟨x,e⟩:=ok.ex b f;exact⟨x,by rw[qb2 (show b≠Dd from λ w=>hf (w ▸ f))];exact e⟩
 refine⟨vs,Dd::(Ael++(Tv++[])),ha,rs.len,?_,st.keep k (no T (by lia)) hp,L.keep k (no Ao (by lia)),⟨S.loc.keep k (no A (by lia)),⟨S.ok.sep,S.ok.fro,ex⟩,S.len,S.ag⟩,⟨λ b=>zAm (hcnt b) (ok.sep b),λ b f=>by have:=ok.fro b f;have:=hcnt b;lia,ex⟩,λ b u e z=>?_,λ b u e z=>by have:=hcnt b;lia,λ _ f=>f,λ _ _ _ _ f=>f⟩
 . exact .lst qb0 ((rs.append (.cons rv .nil)).keep k (no _ (by simp only[zA0,List.count_nil];lia)))
 rw[qb2 λ w=>?_]
 . exact e
 subst w;simp only[zA0,zAg,zBa,if_true] at z;lia
end
def qs0(src:List (Option Nat))(g:VTG):TG:=λ v σ H Q=>∃ av,Fo (cIn src av) g v σ H Q
def qr9(src:List (Option Nat))(q:VTT):TT:=λ σ H Q=>∃ av,Bw (cIn src av) q σ H Q
def Bz(src:List (Option Nat))(t:VT):TE:=λ σ H Q=>∃ av,A7 (cIn src av) t σ H Q
structure Blk(X:Cx)(NY:List Str)(sc:Scope)(src:List (Option Nat))(tg:Expr)(ifs:List Expr)(elt:Expr)(g:VTG)(qf:VTT)(te:VT):Prop where
 g:∀ av C s0 H0 ex,VG (cIn src av) (qg0 X NY sc C s0 H0 ex) tg g
 f:∀ av C s0 H0 ex,VF (cIn src av) (qg0 X NY sc C s0 H0 ex) ifs qf
 e:∀ av C s0 H0 ex,VE (cIn src av) (qg0 X NY sc C s0 H0 ex) elt te
 lt:∀ Dk σ H s,Inv X Dk σ H s->∀ j,some j∈src->j < σ.length
section
variable{c:Vc}{X:Cx}{NY:List Str}{sc:Scope}{src:List (Option Nat)}{tg elt e:Expr}{ifs:List Expr}{g:VTG}{qf:VTT}{te:VT}
theorem Blk.pg(b:Blk X NY sc src tg ifs elt g qf te):∀ C s0 H0 ex,PG (qg0 X NY sc C s0 H0 ex) tg (qs0 src g):=λ C s0 H0 ex Dk s σ H v u Q I r ⟨av,q⟩=>(b.g av C s0 H0 ex).h Dk s σ H v u Q I r q
theorem Blk.pf(b:Blk X NY sc src tg ifs elt g qf te):∀ C s0 H0 ex,PFs (qg0 X NY sc C s0 H0 ex) ifs (qr9 src qf):=λ C s0 H0 ex Dk s σ H Q I ⟨av,q⟩=>(b.f av C s0 H0 ex).h Dk s σ H Q I q
theorem Blk.pe(b:Blk X NY sc src tg ifs elt g qf te):∀ C s0 H0 ex,PE (qg0 X NY sc C s0 H0 ex) elt (Bz src te):=λ C s0 H0 ex Dk s σ H Q I ⟨av,q⟩=>(b.e av C s0 H0 ex).h Dk s σ H Q I q
theorem Blk.gm(b:Blk X NY sc src tg ifs elt g qf te):∀ d ds (Q Q':Ds->Prop),(∀ ds',Q ds'->Q' ds')->g d ds Q->g d ds Q':=(b.g [] 0 {} (λ _=>none) []).m
theorem Blk.fm(b:Blk X NY sc src tg ifs elt g qf te):∀ ds (Q Q':Bool->Ds->Prop) (xe xe':XKd),(∀ d ds',Q d ds'->Q' d ds')->(∀ x ds',xe x ds'->xe' x ds')->qf ds Q xe->qf ds Q' xe':=(b.f [] 0 {} (λ _=>none) []).m
theorem Blk.em(b:Blk X NY sc src tg ifs elt g qf te):∀ ds (Q Q':DK) (xe xe':XKd),(∀ d ds',Q d ds'->Q' d ds')->(∀ x ds',xe x ds'->xe' x ds')->te ds Q xe->te ds Q' xe':=(b.e [] 0 {} (λ _=>none) []).m
theorem qj9(b:Blk X NY sc src tg ifs elt g qf te){K K':Ds->Ds->Prop}(h:∀ acc ι,K acc ι->K' acc ι):∀(xs:List D) acc ι,B8 g qf te K xs acc ι->B8 g qf te K' xs acc ι
 | [],acc,ι=>h acc ι
 | x::xs,acc,ι=>b.gm _ _ _ _ λ ι1=>b.fm _ _ _ _ _ (λ k ι2=>qG1 (b.em _ _ _ _ _ (λ d ι3=>And.imp_right (qj9 b h xs _ _)) λ _ _ z=>z) (qj9 b h xs _ _)) λ _ _ z=>z
variable{F F0:Addr->Prop}{H H0:Hp}{Pp:(Addr->Prop)->Hp->Prop}{τ:List (Option V)}{o0:Ds}{Dd:Addr}{acc:Ds}{T A A0:List Addr}{σ:St}{ds ι:Ds}{av:List (Option V)}{K:Ds->Ds->Prop}
def Mid(src:List (Option Nat))(av:List (Option V))(Pp:(Addr->Prop)->Hp->Prop)(T:List Addr)(τ:List (Option V))(o0:Ds)(Dd:Addr)(F0:Addr->Prop)(H0:Hp)(A0:List Addr)(g:VTG)(qf:VTT)(te:VT)(K:Ds->Ds->Prop)(xs:List D)(σ:St)(H:Hp):Prop :=
 ∃ F ι A acc B Ao,Sta (cIn src av) F H σ ι A/\Rep F H (.ref Dd) (.lst false acc) B/\Pp F H/\Locs F H τ o0 Ao/\Ok F H (Tot B T Ao A)/\Stp F0 H0 A0 F H (Tot B T Ao A)/\B8 g qf te K xs acc ι
theorem qH5(b:Blk X NY sc src tg ifs elt g qf te)(st:Gs Pp T){B:List Addr}{x:V}{y:D}{xs:List D}(S:Sta (cIn src av) F H σ ι A)(r:Rep F H (.ref Dd) (.lst false acc) B)(hp:Pp F H)(L:Locs F H τ o0 Ao)(ok:Ok F H (Tot B T Ao A))(s0:Stp F0 H0 A0 F H (Tot B T Ao A))(ry:Rep F H x y [])(q:B8 g qf te K (y::xs) acc ι) :
   qs0 src g x σ H λ σ2 H2=>qr9 src qf σ2 H2 λ okk H3=>if okk=true then Bz src te σ2 H3 λ v H4=>∃ ys,H4 Dd=some (.lst ys)/\ys.length < sizeLine/\Mid src av Pp T τ o0 Dd F0 H0 A0 g qf te K xs σ2 (upd H4 Dd (.lst (ys++[v]))) else Mid src av Pp T τ o0 Dd F0 H0 A0 g qf te K xs σ2 H3:=by
 have noX:∀(F:Addr->Prop)(H:Hp)(A:List Addr),Xc (cIn src av) (λ _ _=>False) F H A:=λ F H A x ds' σ' e H' F' A' z=>z.elim
 refine⟨av,F,ι,A,[],y,ry,S,S.ok,b.gm _ _ _ _ (λ ι1 q σ1 H1 F1 A1 S1 s1=>?_) q⟩;obtain⟨r1,hp1,L1,ok1,t1⟩:=qu3 st r hp L ok S (show Stp F H A F1 H1 A1 from s1) S1.ok;refine⟨av,F1,ι1,A1,_,S1,noX _ _ _,b.fm _ _ _ _ _ (λ k ι2 q H2 F2 A2 S2 s2=>?_) (λ _ _ z=>z) q⟩;obtain⟨r2,hp2,L2,ok2,t2⟩:=qu3 st r1 hp1 L1 ok1 S1 s2 S2.ok;cases k with
 | false =>
   rw[if_neg (by decide)] at q ⊢;exact⟨F2,ι2,A2,acc,B,Ao,S2,r2,hp2,L2,ok2,(s0.trans t1).trans t2,q⟩
 | true =>
   rw[if_pos rfl] at q ⊢;refine⟨av,F2,ι2,A2,_,S2,noX _ _ _,b.em _ _ _ _ _ (λ d ι3 q v H3 F3 Tv A3 rv S3 o3 s3=>?_) (λ _ _ z=>z) q⟩;obtain⟨r3,hp3,L3,ok3,t3⟩:=qu3 st r2 hp2 L2 ok2 S2 s3 o3;obtain⟨vs,B',e1,e2,r4,hp4,L4,S4,ok4,t4⟩:=qae6 st r3 hp3 L3 S3 rv ok3;exact⟨vs,e1,by rw[e2];exact zAb q.1 qe5,F3,ι3,A3,acc++[d],B',Ao,S4,r4,hp4,L4,ok4,((s0.trans t1).trans t2).trans (t3.trans t4),q.2⟩
theorem qD3{xs:List D}(hlt:∀ j,some j∈src->j < σ.length)(S:Sta c F H σ ds A)(ok:Ok F H (T++A))(hp:Pp F H)(st:Gs Pp T)(hD:H Dd=none)(q:B8 g qf te K xs [] (Bi src ds).1) :
   Mid src (Bn σ src) Pp T (σ++c.gv) (Bi src ds).2 Dd F H (T++A) g qf te K xs (Bn σ src) (upd H Dd (.lst [])):=by
 obtain⟨Ai,Ao,q1,q2,q3⟩:=qK8 S.loc hlt;have sm:=Same.new (u:=.lst []) hD;have kp:=Kp.same (F:=F) sm;have okN:Ok F (upd H Dd (.lst [])) ([Dd]++(T++A)):=(qe6 hD).ok ok (λ b hb=>by
   rcases zAd.mp hb with hb | hb
   . exact st.cells hp b hb
   exact S.loc.cells b hb) sm
 have hc:∀ b,(Tot [Dd] T Ao Ai).count b=([Dd]++(T++A)).count b:=λ b=>by unfold Tot;simp only[zA0,q3];lia
 have okT:Ok F (upd H Dd (.lst [])) (Tot [Dd] T Ao Ai):=okN.count λ b=>by rw[hc];exact zA8 _
 have okI:Ok F (upd H Dd (.lst [])) Ai:=okT.count λ b=>by unfold Tot;simp only[zA0];lia
 refine⟨F,_,Ai,[],[Dd],Ao,⟨by rw[zAa];exact q1.same sm,okI,by simp,λ i _=>by simp⟩,.lst qb0 .nil,st.keep kp (λ _ _=>id) hp,q2.same sm,okT,((qe6 hD).stp sm).count λ b=>by rw[hc];exact zA8 _,q⟩
theorem qD4{H':Hp}{Fz:Addr->Prop}{Hz:Hp}{Az:List Addr}(hlt:∀ j,some j∈src->j < σ.length)(S:Sta c Fz Hz σ ds Az)(m:Mid src (Bn σ src) Pp T (σ++c.gv) o0 Dd F0 H0 A0 g qf te (λ acc ι'=>∀ v H' F' B A',Rep F' H' v (.lst false acc) B->Sta c F' H' σ (Ez src ι' o0) A'->Pp F' H'->Ok F' H' (B++(T++A'))->Stp F0 H0 A0 F' H' (B++(T++A'))->Q v H') [] σ' H'):Q (.ref Dd) H':=by
 obtain⟨F,ι,A,acc,B,Ao,S1,r,hp,L,ok,s,q⟩:=m;have hl1:=S1.len;simp only[zAa] at hl1;obtain⟨A',k1,k2⟩:=qx1 (src:=src) (by have:=S1.loc;simpa using this) L hlt (λ i j e=>by
   have:=S1.ag i (by show capW src i=true;unfold capW;rw[e])
   simp only[zAa] at this;rw[this];exact qad9 e) (by rw[<- hl1,qad8])
 have hc:∀ b,(B++(T++A')).count b<=(Tot B T Ao A).count b:=λ b=>by unfold Tot;simp only[zA0];have:=k2 b;lia
 have o1:=ok.count hc;exact q (.ref Dd) H' F B A' r ⟨k1,o1.right.right,S.len,S.ag⟩ hp o1 (s.count hc)
theorem qz1{a:Addr}{ys:Ds}{T:List Addr}:Gs (λ F H=>Rep F H (.ref a) (.lst z ys) T/\H a=some (.lst vs)) T where
 keep:=λ{F F' H H' W} k h p=>by
   refine⟨p.1.keep k h,?_⟩;cases p.1 with
   | lst _ _=>exact k.fr _ _ p.2 (h _ zAc)
   | lstZ _ f _=>exact k.fr _ _ p.2 λ w=>k.wf _ w f
 cells:=λ p=>p.1.cells
theorem qE5:Gs (λ _ _=>True) [] where
 keep:=λ _ _ p=>p
 cells:=λ _ b hb=>by cases hb
theorem qaz8{a:Addr}{ys:Ds}{T:List Addr}{x:V}(r:Rep F H (.ref a) (.lst z ys) T)(h:H a=some (.lst vs))(hm:D.imms ys=true)(hx:vs[i]? = some x):∃ y,ys[i]? = some y/\Rep F H x y []:=by
 obtain⟨a',vs',Ael',ea,ha',rs',_⟩:=r.lst_inv;cases ea;rw[h] at ha';cases ha';obtain⟨y,B,hy,ry⟩:=rs'.getV hx
 have:=ry.imm (qC4 hm hy)
 subst this;exact⟨y,hy,ry⟩
theorem qay0{a:Addr}{ys:Ds}{T:List Addr}(r:Rep F H (.ref a) (.lst z ys) T)(h:H a=some (.lst vs)):vs.length=ys.length:=by
 obtain⟨a',vs',Ael',ea,ha',rs',_⟩:=r.lst_inv;cases ea;rw[h] at ha';cases ha';exact rs'.len
theorem qK3{K':PySem.W.Frag}{a:Addr}{ys:Ds}{Q:Hp->Prop}(b:Blk X NY sc src tg ifs elt g qf te)(hm:D.imms ys=true)(m:Mid src av (λ F H=>Rep F H (.ref a) (.lst z ys) T/\H a=some (.lst vs)) T τ o0 Dd F0 H0 A0 g qf te K ys σ' H)(hQ:∀ σ2 H2,Mid src av (λ F H=>Rep F H (.ref a) (.lst z ys) T/\H a=some (.lst vs)) T τ o0 Dd F0 H0 A0 g qf te K [] σ2 H2->Q H2):qv9 (Itl K' a) (qs0 src g) (qr9 src qf) (Bz src te) Dd Q σ' H:=by
 obtain⟨_,_,_,_,_,_,_,_,hp0,_⟩:=id m;have hlen:=qay0 hp0.1 hp0.2;refine qH6 (xs:=vs) (λ i σ H=>Mid src av (λ F H=>Rep F H (.ref a) (.lst z ys) T/\H a=some (.lst vs)) T τ o0 Dd F0 H0 A0 g qf te K (ys.drop i) σ H) m ?_ ?_ ?_
 . rintro i σ H _ ⟨_,_,_,_,_,_,_,_,hp,_⟩
   exact .inl (.inl hp.2)
 . rintro i x σ H hx ⟨F,ι,A,acc,B,Ao,S1,r,hp,L,ok,s,q⟩
   obtain⟨y,hy,ry⟩:=qaz8 hp.1 hp.2 hm hx;rw[qo2 hy] at q;exact qH5 b qz1 S1 r hp L ok s ry q
 intro σ H m;rw[hlen,List.drop_length] at m;exact hQ _ _ m
theorem qab2{Q:Hp->Prop}(b:Blk X NY sc src tg ifs elt g qf te)(m:Mid src av (λ _ _=>True) [] τ o0 Dd F0 H0 A0 g qf te K (A5 lo n) σ' H)(hQ:∀ σ2 H2,Mid src av (λ _ _=>True) [] τ o0 Dd F0 H0 A0 g qf te K [] σ2 H2->Q H2):qv9 (Itr lo n) (qs0 src g) (qr9 src qf) (Bz src te) Dd Q σ' H:=by
 refine qR0 (λ i σ H=>Mid src av (λ _ _=>True) [] τ o0 Dd F0 H0 A0 g qf te K ((A5 lo n).drop i) σ H) m ?_ ?_
 . rintro i σ H hi ⟨F,ι,A,acc,B,Ao,S1,r,hp,L,ok,s,q⟩
   rw[qo2 (qM4 hi)] at q;exact qH5 b qE5 S1 r hp L ok s (.int _) q
 intro σ H m;rw[List.drop_of_length_le (by rw[qX8];exact zA8 _)] at m;exact hQ _ _ m
end
def Imp(c:Vc)(X:Cx)(t:VT)(tc:TE):Prop:=∀ Dk s σ H Q,Inv X Dk σ H s->A7 c t σ H Q->tc σ H Q
def Ft(t:VT):Prop:=∀ ds (Q Q':DK) (xe xe':XKd),(∀ d ds',Q d ds'->Q' d ds')->(∀ x ds',xe x ds'->xe' x ds')->t ds Q xe->t ds Q' xe'
section
variable{c:Vc}{X:Cx}{NY:List Str}{sc:Scope}{src:List (Option Nat)}{tg elt e o:Expr}{ifs:List Expr}{g:VTG}{qf:VTT}{te t0:VT}
theorem qak0{tc:TE}{t:VT}(h:PE X e tc)(i:Imp c X t tc)(m:Ft t):VE c X e t:=⟨λ Dk s σ H Q I q=>h Dk s σ H Q I (i Dk s σ H Q I q),m⟩
theorem qaj9{tc:TE}{t:VT}{x:Str}{px spos:Pos}(h:PS X (.Assign [.Name x px] e spos) (Gj tc (Ec i)))(im:Imp c X t tc)(m:Ft t)(hW:c.W i=false)(hi:X.N[i]? = some x):VS c X (.Assign [.Name x px] e spos) (Dm t (gNm i)):=by
 refine⟨λ Dk s σ H E I q=>h Dk s σ H E I (im Dk s σ H _ I ?_),λ en en' ds hl=>m _ _ _ _ _ (λ d ds'=>hl.nx _) hl.xe⟩;obtain⟨F,ds,A,en,S,l,q⟩:=q;refine⟨F,ds,A,en.xe,S,l.xe,m _ _ _ _ _ (λ d ds' q v H' F' T A' r S' o s0=>?_) (λ _ _ z=>z) q⟩;obtain⟨A2,S2,s2⟩:=S'.store hW (qm0 hi Dk σ H s I) r o;exact l.nx _ _ H' F' A2 q S2 (s0.trans s2)
def E2(src:List (Option Nat))(g:VTG)(qf:VTT)(te:VT)(ys:List D):Ds->DK->Prop:=λ ds1 Q=>B8 g qf te (λ acc ι'=>Q (.lst false acc) (Ez src ι' (Bi src ds1).2)) ys [] (Bi src ds1).1
theorem qw0(b:Blk X NY sc src tg ifs elt g qf te){ys:List D}{ds1:Ds}{Q Q':DK}(h:∀ d ds',Q d ds'->Q' d ds'):E2 src g qf te ys ds1 Q->E2 src g qf te ys ds1 Q':=qj9 b (λ acc ι=>h _ _) _ _ _
def tCL(src:List (Option Nat))(t0:VT)(g:VTG)(qf:VTT)(te:VT):VT:=λ ds Q xe=>t0 ds (λ d ds1=>orF d.lstOf λ ys=>D.imms ys=true/\E2 src g qf te ys ds1 Q) xe
theorem qab7(b:Blk X NY sc src tg ifs elt g qf te)(hi:VE c X e t0):Ft (tCL src t0 g qf te):=λ ds Q Q' xe xe' hQ hx=>hi.m _ _ _ _ _ (λ d ds1=>qa6 λ ys=>And.imp_right (qw0 b hQ)) hx
theorem qaz2{K:PySem.W.Frag}(b:Blk X NY sc src tg ifs elt g qf te)(hi:VE c X e t0):Imp c X (tCL src t0 g qf te) (Es (Gy K (A7 c t0)) src (qs0 src g) (qr9 src qf) (Bz src te)):=by
 rintro Dk s σ H Q I ⟨F,ds,A,xe,S,x,q⟩;have hlt:=b.lt Dk σ H s I;refine⟨F,ds,A,xe,S,x,hi.m _ _ _ _ _ (λ d ds1 q v H1 F1 T A1 r1 S1 o1 s1=>?_) (λ _ _ z=>z) q⟩;obtain⟨ys,ey,hm,qf'⟩:=qa7.mp q;obtain⟨z,rfl⟩:=qC0 ey;obtain⟨a,vs,Ael,rfl,ha,rs,_⟩:=r1.lst_inv;refine⟨a,rfl,⟨vs,.inl (.inl ha)⟩,λ Dd hD=>qK3 b hm (qD3 hlt S1 o1 ⟨r1,ha⟩ qz1 hD (qj9 b (λ acc ι q v H' F' B A' r S' _ ok s=>q v H' F' B A' r S' (ok.count λ b=>by simp only[zA0];lia) ((s1.trans s).count λ b=>by simp only[zA0];lia)) _ _ _ qf')) λ σ2 H2 m=>qD4 hlt S1 m⟩
def Hm(src:List (Option Nat))(tr:VTA)(g:VTG)(qf:VTT)(te:VT):VT:=λ ds Q xe=>tr ds (λ xs ds1=>orF (Hk xs) λ j=>Fq j=true/\E2 src g qf te (A5 0 j.toNat) ds1 Q) xe
theorem qE4{es:List Expr}{tr:VTA}(b:Blk X NY sc src tg ifs elt g qf te)(hi:VOs c X es tr):Ft (Hm src tr g qf te):=λ ds Q Q' xe xe' hQ hx=>hi.m _ _ _ _ _ (λ d ds1=>qa6 λ ys=>And.imp_right (qw0 b hQ)) hx
theorem qad1{F:Addr->Prop}{H:Hp}{A:List Addr}{F1:Addr->Prop}{H1:Hp}{A1:List Addr}{σ:St}{ds1:Ds}(b:Blk X NY sc src tg ifs elt g qf te)(hlt:∀ j,some j∈src->j < σ.length)(S1:Sta c F1 H1 σ ds1 A1)(s1:Stp F H A F1 H1 A1)(q:E2 src g qf te (A5 lo n) ds1 (λ d ds'=>∀ v H' F' T A',Rep F' H' v d T->Sta c F' H' σ ds' A'->Ok F' H' (T++A')->Stp F H A F' H' (T++A')->Q v H')):∀ Dd,H1 Dd=none->qv9 (Itr lo n) (qs0 src g) (qr9 src qf) (Bz src te) Dd (λ H'=>Q (.ref Dd) H') (Bn σ src) (upd H1 Dd (.lst [])):=λ Dd hD =>
 qab2 b (qD3 (T:=[]) hlt S1 S1.ok trivial qE5 hD (qj9 b (λ acc ι q v H' F' B A' r S' _ ok s=>q v H' F' B A' r S' ok (s1.trans s)) _ _ _ q)) λ σ2 H2 m=>qD4 hlt S1 m
theorem qZ8{es:List Expr}{tr:VTA}(b:Blk X NY sc src tg ifs elt g qf te)(hi:VOs c X es tr):Imp c X (Hm src tr g qf te) (Es (iRng1 (qag1 c tr)) src (qs0 src g) (qr9 src qf) (Bz src te)):=by
 rintro Dk s σ H Q I ⟨F,ds,A,xe,S,x,q⟩;have hlt:=b.lt Dk σ H s I;refine⟨F,ds,A,xe,S,x,hi.m _ _ _ _ _ (λ xs ds1 q vs H1 F1 T A1 r1 S1 s1=>?_) (λ _ _ z=>z) q⟩;obtain⟨j,ej,hm,qf'⟩:=qa7.mp q;cases qY7 ej;obtain⟨v,rfl,rv⟩:=r1.one_inv;cases rv
 have:=qO2 hm
 exact⟨j,rfl,this.1,this.2,qad1 b hlt S1 s1 qf'⟩
def capOk(X:Cx)(src:List (Option Nat)):Bool:=src.all λ o=>match o with | none=>true | some j=>decide (j < X.N.length)
theorem blk(hg:∀ av C s0 H0 ex,VG (cIn src av) (qg0 X NY sc C s0 H0 ex) tg g)(hf:∀ av C s0 H0 ex,VF (cIn src av) (qg0 X NY sc C s0 H0 ex) ifs qf)(he:∀ av C s0 H0 ex,VE (cIn src av) (qg0 X NY sc C s0 H0 ex) elt te)(hs:capOk X src=true:=by rfl):Blk X NY sc src tg ifs elt g qf te :=
 ⟨hg,hf,he,λ Dk σ H s I j hj=>by
   have:=zAy.mp hs _ hj
   rw[I.len];exact zAn this⟩
end
theorem qp7{X:Cx}{NY:List Str}{sc:Scope}{C:Addr}{s0:Shared}{H0:Hp}{ex:List Addr}{src:List (Option Nat)}{av:List (Option V)}:Lands (qg0 X NY sc C s0 H0 ex) (cIn src av).E:=λ _ _ _ _ _ _ _ _ _ z=>z.elim
section
variable{c:Vc}{X:Cx}{NY:List Str}{sc:Scope}{src:List (Option Nat)}{tg elt iter a:Expr}{ifs:List Expr}{g:VTG}{qf:VTT}{te t0:VT}{pos px spos:Pos}{pf:PF}{x:Str}
theorem ecR1{tr:VTA}{p cpos:Pos}(hm:X.mg "range" = none)(ha:VOs c X [a] tr)(bl:Blk X NY sc src tg ifs elt g qf te)(hgl:Gl X "range" := by rfl)(hs1:starEach [a] X.env=[(false,eval a X.env)]:=by rfl)(hc:X.calm=true:=by rfl)(ck:qs3 X NY src sc=true:=by rfl)(hs:∀ x,foldedSetIterable (.Call (.Name "range" p) [a] [] cpos) X.env x=pure x:=by intro _;rfl):VE c X (.ListComp elt [⟨tg,.Call (.Name "range" p) [a] [] cpos,ifs,0⟩] sc pos) (Hm src tr g qf te) :=
 qak0 (qN3 NY src (qu2 hgl hm ha.h hs1) bl.pg bl.pf bl.pe hc ck hs) (qZ8 bl ha) (qE4 bl ha)
theorem scL(i:Nat)(hN:X.N.Nodup)(hi:VE c X iter t0)(bl:Blk X NY sc src tg ifs elt g qf te)(hW:c.W i=false:=by rfl)(hix:X.N[i]? = some x:=by rfl)(hx:Loc X.env.scope x:=by first | exact Or.inl rfl | exact Or.inr rfl)(hc:X.calm=true:=by rfl)(ck:qs3 X NY src sc=true:=by rfl)(hsw:swapsWith (.ListComp elt [⟨tg,iter,ifs,0⟩] sc pos) (some (.Name x px)) spos.line X.env=pure true:=by rfl)(hs:∀ x,foldedSetIterable iter X.env x=pure x:=by intro _;rfl)(hfn:X.fn x=true∨X.env.scope.names.lookup x=some .local:=by first | exact .inl rfl | exact .inr rfl | assumption):VS c X (.Assign [.Name x px] (.ListComp elt [⟨tg,iter,ifs,0⟩] sc pos) spos) (Dm (tCL src t0 g qf te) (gNm i)) :=
 qaj9 (qY3 i NY src hN (qE8 hi.h) bl.pg bl.pf bl.pe hix hx hc ck hsw hs hfn) (qaz2 bl hi) (qab7 bl hi) hW hix
theorem scR1{tr:VTA}{p cpos:Pos}(i:Nat)(hN:X.N.Nodup)(hm:X.mg "range" = none)(ha:VOs c X [a] tr)(bl:Blk X NY sc src tg ifs elt g qf te)(hW:c.W i=false:=by rfl)(hgl:Gl X "range" := by rfl)(hs1:starEach [a] X.env=[(false,eval a X.env)]:=by rfl)(hix:X.N[i]? = some x:=by rfl)(hx:Loc X.env.scope x:=by first | exact Or.inl rfl | exact Or.inr rfl)(hc:X.calm=true:=by rfl)(ck:qs3 X NY src sc=true:=by rfl)(hsw:swapsWith (.ListComp elt [⟨tg,.Call (.Name "range" p) [a] [] cpos,ifs,0⟩] sc pos) (some (.Name x px)) spos.line X.env=pure true:=by rfl)(hs:∀ x,foldedSetIterable (.Call (.Name "range" p) [a] [] cpos) X.env x=pure x:=by intro _;rfl)(hfn:X.fn x=true∨X.env.scope.names.lookup x=some .local:=by first | exact .inl rfl | exact .inr rfl | assumption):VS c X (.Assign [.Name x px] (.ListComp elt [⟨tg,.Call (.Name "range" p) [a] [] cpos,ifs,0⟩] sc pos) spos) (Dm (Hm src tr g qf te) (gNm i)) :=
 qaj9 (qY3 i NY src hN (qu2 hgl hm ha.h hs1) bl.pg bl.pf bl.pe hix hx hc ck hsw hs hfn) (qZ8 bl ha) (qE4 bl ha) hW hix
end
section
variable{c:Vc}{X:Cx}{es:List Expr}{tb:VTB}
def Gu(tb:VTB):VTA:=λ ds Q xe=>tb ds (λ xs _ ds1=>Q xs ds1) xe
theorem Du(h:VAs c X es tb):VOs c X es (Gu tb):=⟨PA.mono h.h λ σ H Q ⟨F,ds,A,xe,S,x,q⟩=>⟨F,ds,A,xe,S,x,h.m _ _ _ _ _ (λ xs ps ds1 q vs H' F' T A' r _ S' o s=>q vs H' F' T A' r S' (s.count λ b=>by rw[zA0];lia)) (λ _ _ z=>z) q⟩,λ ds Q Q' xe xe' hQ hx=>h.m _ _ _ _ _ (λ xs ps ds1=>hQ _ _) hx⟩
end
structure Bg(x y z:Int)(ns:List Int):Prop where
 x0:0<=x
 y0:0<=y
 y1:y < 2147483647
 z0:0<=z
 nn:∀ n∈ns,0<=n
def bagD(x y z:Int)(ns:List Int):D:=.lst false [.int x,.int y,.int z,.lst false (ns.map .int)]
def lawE:VEnds where
 nx _:=False
 rt d _:=d.asB=some true
 bk _:=False
 ct _:=False
 xe _ _:=False
theorem qU2{c:Vc}{X:Cx}{rest:List Stmt}{t:VTS}{H:Hp}{p L:Addr}{x y z:Int}{ns:List Int}(hav:c.av.length=2+n)(hW:∀ i,c.W i=false)(hgv:c.gv=[])(hp:H p=some (.lst [.int x,.int y,.int z,.ref L]))(hL:H L=some (.lst (ns.map V.int)))(ne:L≠p)(hE:∀ H',E.rt (.bl true) H')(ht:t lawE (.hole w::bagD x y z ns::List.replicate n .unk)):Ei c t E (some w::some (.ref p)::List.replicate n none) H:=by
 have L0:Locs (λ _=>False) H (some w::some (.ref p)::List.replicate n none) (.hole w::bagD x y z ns::List.replicate n .unk) ([]++((p::([]++([]++([]++((L::[])++[])))))++[])) :=
   .so (.hole w) (.so (.lst hp (.cons (.int x) (.cons (.int y) (.cons (.int z) (.cons (.lst hL (qu1 ns)) .nil))))) (qo0 n))
 refine⟨λ _=>False,_,_,lawE,⟨by rw[hgv,zAa];exact L0,⟨λ b=>?_,λ b f=>f.elim,λ b f=>f.elim⟩,by rw[hgv,hav];simp;lia,λ i hi=>by rw[hW i] at hi;cases hi⟩,⟨λ _ _ _ _ _ z=>False.elim z,λ d ds' v σ' H' F' T A' q r _ _ _=>by rw[r.asB q];exact hE H',λ _ _ _ _ _ z=>False.elim z,λ _ _ _ _ _ z=>False.elim z,λ _ _ _ _ _ _ _ z=>False.elim z⟩,ht⟩;simp only[zBc,zAa,zAg,List.count_nil];by_cases h1:p=b
 . subst h1;simp[ne]
 by_cases h2:L=b
 . subst h2;simp[h1]
 simp[h1,h2]
section
variable{c:Vc}{b d e o:Expr}{oa ob oc:Bool}{fa fb fc:FV}
def f3(g g':D->D->Option D)(fa fb fc:FV):FV:=λ ds=>(fa ds).bind λ x=>(fb ds).bind λ y=>(g x y).bind λ z=>z.asB.bind λ k=>if k=true then (fc ds).bind λ u=>g' y u else some (.bl false)
theorem qai7{r r':R2}{g g':D->D->Option D}(h:Av true r g)(h':Av true r' g'):∀ σ H Q,liftV c true (f3 g g' fa fb fc) σ H Q->qak7 r r' (liftV c oa fa) (liftV c ob fb) (liftV c oc fc) σ H Q:=by
 rintro σ H Q ⟨F,ds,A,d,S,e,q⟩;obtain⟨x,e1,e⟩:=zA1.mp e;obtain⟨y,e2,e⟩:=zA1.mp e;obtain⟨z,e3,e⟩:=zA1.mp e;obtain⟨k,e4,e⟩:=zA1.mp e;refine⟨F,ds,A,x,S,e1,λ v H1 B1 r1 s1 n1=>⟨F,ds,A,y,S.same s1,e2,λ w H2 B2 r2 s2 n2=>?_⟩⟩;have s12:=s1.trans s2;refine h F H2 v w x y _ z _ (E7 (r1.same s2) r2) e3 λ u H3 B3 r3 s3 h3=>⟨k,r3.asB e4,?_⟩
 have s13:=s12.trans s3;cases k with
 | false=>rw[if_neg (by decide)] at e ⊢;cases e;exact q _ H3 [] (.bl _) s13 λ _=>New.nil
 | true =>
   rw[if_pos rfl] at e ⊢;obtain⟨uu,e5,e6⟩:=zA1.mp e;refine⟨F,ds,A,uu,S.same s13,e5,λ w4 H4 B4 r4 s4 n4=>?_⟩;refine h' F H4 w w4 y uu _ d Q (E7 ((r2.same s3).same s4) r4) e6 λ u5 H5 B5 r5 s5 h5=>q u5 H5 B5 r5 ((s13.trans s4).trans s5) λ _=>⟨h5.one,λ b o e=>h5.new b o (s4 b o (s13 b o e))⟩
end
section
variable{c:Vc}{X:Cx}{a b d e:Expr}{pos:Pos}{oa ob oc:Bool}{fa fb fc:FV}
theorem vch{op':CmpOp}{r r':R2}{g g':D->D->Option D}(ho:OpR X (compareOp op) r)(h:Av true r g)(ho':OpR X (compareOp op') r')(h':Av true r' g')(ha:VV c X a oa fa)(hb:VV c X b ob fb)(hc:VV c X d oc fc)(hm:lastMarks [op,op'] [b,d]=false:=by with_unfolding_all rfl) :
   VV c X (.Compare a [op,op'] [b,d] pos) true (f3 g g' fa fb fc):=⟨PE.mono (qae3 ho ho' ha.h hb.h hc.h hm) (qai7 h h')⟩
def Gd(x:D):Option D:=match x with
 | .lst _ ys=>(intsD ys).bind λ ns=>gd (ns.length<=1000) (.int (qh9 ns))
 | _=>none
theorem vlenS{p p2 cpos:Pos}(hml:X.mg "len" = none)(hms:X.mg "set" = none)(ha:VV c X a oa fa)(hgl:Gl X "len" := by rfl)(hgs:Gl X "set" := by rfl)(hc:X.calm=true:=by rfl)(he:starEach [a] X.env=(false,eval a X.env)::starEach [] X.env:=by rfl)(hpl:((backTo cpos (starEach [] X.env)).any λ x=>x.1)=false:=by rfl)(he2:starEach [.Call (.Name "set" p2) [a] [] cpos] X.env=(false,eval (.Call (.Name "set" p2) [a] [] cpos) X.env)::starEach [] X.env:=by rfl)(hpl2:((backTo pos (starEach [] X.env)).any λ x=>x.1)=false:=by rfl) :
   VV c X (.Call (.Name "len" p) [.Call (.Name "set" p2) [a] [] cpos] [] pos) true (f1 Gd fa):=by
 refine⟨PE.mono (cbi qW6 hml (qd4 (cty (qW3 hc) hms (qd4 ha.h qn2 he) hgs (by rfl) (by decide) (by decide) he hpl) qn2 he2) hgl (by rfl) (by decide) (by decide) he2 hpl2) λ σ H Q ⟨F,ds,A,d,S,e,q⟩=>?_⟩;obtain⟨x,e1,e2⟩:=qah5.mp e;cases x with
 | lst z ys =>
   obtain⟨ns,e3,e4⟩:=zA1.mp e2;obtain⟨hl,rfl⟩:=qk7 e4;refine⟨F,ds,A,_,S,e1,λ v H1 B1 r1 s1 n1=>?_⟩;obtain⟨a,vs,A2,rfl,hs,rs,_⟩:=r1.lst_inv;cases rs.intsD e3;refine⟨a,ns,rfl,.inl (.inl hs),hl,λ p St hp=>⟨p,St,_,rfl,qb0,?_⟩⟩;exact q _ _ [] (.int _) (s1.trans (Same.new hp)) λ _=>New.nil
 | _=>cases e2
def Bj(f:Ds->Option D):VSp:=λ ds Q _=>orF (f ds) λ d=>Q d ds
theorem qn8{f:Ds->Option D}:Bc (Bj f):=λ ds Q Q' xe xe' hQ _=>qa6 λ d=>hQ d ds
def wOf(l:List Bool)(i:Nat):Bool:=l.getD i false
end
section
variable{c:Vc}{X:Cx}{NY:List Str}{sc:Scope}{src:List (Option Nat)}{tg elt e o a b:Expr}{ifs:List Expr}{g:VTG}{qf:VTT}{te:VT}{pos p0:Pos}{x xn:Str}
def tCNx(en:Ds->List D)(src:List (Option Nat))(i:Nat)(g:VTG)(qf:VTT)(te:VT):VT:=λ ds Q xe=>orF (rdN i ds) λ d=>orF d.lstOf λ ys=>D.imms ys=true/\B8 g qf te (λ acc ι'=>Q (.lst false acc) ((Ez src ι' (Bi src (ds.set i .unk)).2).set i d)) (en ys) [] (Bi src (ds.set i .unk)).1
theorem qS2{en:Ds->List D}(bl:Blk X NY sc src tg ifs elt g qf te):Ft (tCNx en src i g qf te):=λ ds Q Q' xe xe' hQ hx=>qa6 λ d=>qa6 λ ys=>And.imp_right (qj9 bl (λ acc ι=>hQ _ _) _ _ _)
theorem qas3{K:PySem.W.Frag}{en:Ds->List D}{wi:TI}{J:Addr->It}(bl:Blk X NY sc src tg ifs elt g qf te)(hN:X.N[i]? = some xn)(hw:∀{a:Addr}{vs:List V}{z:Bool}{ys:Ds}{T:List Addr}{τ:List (Option V)}{o0:Ds}{Dd:Addr}{F0:Addr->Prop}{H0 H:Hp}{A0:List Addr}{K0:Ds->Ds->Prop}{av:List (Option V)}{Q:Hp->Prop}{σ':St},D.imms ys=true->Mid src av (λ F H=>Rep F H (.ref a) (.lst z ys) T/\H a=some (.lst vs)) T τ o0 Dd F0 H0 A0 g qf te K0 (en ys) σ' H ->
     (∀ σ2 H2,Mid src av (λ F H=>Rep F H (.ref a) (.lst z ys) T/\H a=some (.lst vs)) T τ o0 Dd F0 H0 A0 g qf te K0 [] σ2 H2->Q H2)->qv9 (J a) (qs0 src g) (qr9 src qf) (Bz src te) Dd Q σ' H)(hwi:∀ σ H R,El i σ H (λ x H1=>∃ a,x=.ref a/\(∃ xs,SqL K H1 a xs)/\R (J a) H1)->wi σ H R):Imp c X (tCNx en src i g qf te) (Es wi src (qs0 src g) (qr9 src qf) (Bz src te)):=by
 rintro Dk s σ H Q I ⟨F,ds,A,xe,S,x,q⟩;have hlt:=bl.lt Dk σ H s I;have hi:=qm0 hN Dk σ H s I;refine hwi σ H _ ?_;obtain⟨d,ed,q⟩:=qa7.mp q;obtain⟨ed,hk⟩:=qh4.mp ed;obtain⟨ys,ey,hm,q⟩:=qa7.mp q;obtain⟨z,rfl⟩:=qC0 ey;obtain⟨v,B,C,h1,h2,h3,h4⟩:=S.put1 ed D.noConfusion;have h1':=h1;rw[zAo hi] at h1;obtain⟨A1,q1,q2⟩:=h4 .unk [] (Kp.same (F:=F) λ _ _ z=>z) (λ _ _ z=>z) (.unk v);have o1:Ok F H (B++A1):=S.ok.count λ b=>by rw[zA0,q2,h3];simp
 have s1:Stp F H A F H (B++A1):=⟨λ b o e _=>e,λ b o e z=>by rw[zA0,q2];have:=h3 b;simp;lia,λ _ f=>f,λ _ _ _ _ f=>f⟩
 have S1:Sta c F H σ (ds.set i .unk) A1:=⟨q1,o1.right,S.len,S.ag⟩
 obtain⟨a,vs,Ael,rfl,ha,rs,_⟩:=h2.lst_inv;refine⟨.ref a,h1,a,rfl,⟨vs,.inl (.inl ha)⟩,λ Dd hD=>hw hm (qD3 hlt S1 o1 ⟨h2,ha⟩ qz1 hD (qj9 bl (λ acc ι q v H' F' B' A' rv S' hp ok s=>?_) _ _ _ q)) λ σ2 H2 m=>qD4 hlt S1 m⟩;obtain⟨A2,k1,k2⟩:=qt5 S'.loc h1' hp.1;have hc:∀ b,(B'++A2).count b<=(B'++(B++A')).count b:=λ b=>by have:=k2 b;simp only[zA0] at *;lia
 exact q v H' F' B' A2 rv ⟨k1,(ok.count hc).right,S.len,S.ag⟩ (ok.count hc) ((s1.trans s).count hc)
theorem qaz1{K:PySem.W.Frag}(bl:Blk X NY sc src tg ifs elt g qf te)(hN:X.N[i]? = some xn):Imp c X (tCNx (λ ys=>ys) src i g qf te) (Es (Gy K (El i)) src (qs0 src g) (qr9 src qf) (Bz src te)) :=
 qas3 (K:=K) (J:=Itl K) bl hN (λ hm m hQ=>qK3 bl hm m hQ) λ σ H R h=>h
theorem ecN(i:Nat)(bl:Blk X NY sc src tg ifs elt g qf te)(hN:X.N[i]? = some xn:=by rfl)(hv:Vis X.env.scope xn:=by first | exact Or.inl rfl | exact Or.inr (Or.inl rfl) | exact Or.inr (Or.inr rfl))(hd:(xn == ("__debug__" : Str))=false:=by decide)(hcd:(xn == ("__classdict__" : Str))=false:=by decide)(hc:X.calm=true:=by rfl)(ck:qs3 X NY src sc=true:=by rfl)(hs:∀ x,foldedSetIterable (.Name xn p0) X.env x=pure x:=by intro _;rfl):VE c X (.ListComp elt [⟨tg,.Name xn p0,ifs,0⟩] sc pos) (tCNx (λ ys=>ys) src i g qf te) :=
 qak0 (qN3 NY src (qE8 (qp0 hN hv hd hcd)) bl.pg bl.pf bl.pe hc ck hs) (qaz1 bl hN) (qS2 bl)
theorem qm8{g:VTG}{qf:VTT}{te:VT}{K:Ds->Ds->Prop}(I:Ds->Prop)(f:D->Option D):∀(xs:List D)(acc ι:Ds),acc.length+xs.length < big->I ι->(∀ x∈xs,∀ ι acc,I ι->∀ R:Ds->Ds->Prop,(∀ ι',I ι'->R (acc++(f x).toList) ι')->acc.length < big->g x ι λ ι1=>qf ι1 (λ b ι2=>if b=true then te ι2 (λ d ι3=>acc.length < big/\R (acc++[d]) ι3) (λ _ _=>False) else R acc ι2) (λ _ _=>False))->(∀ ι',I ι'->K (acc++xs.filterMap f) ι')->B8 g qf te K xs acc ι
 | [],acc,ι,_,h,_,hK=>by
   have:=hK ι h
   rw[List.filterMap_nil,zAa] at this;exact this
 | x::xs,acc,ι,hl,h,hs,hK=>by
   refine hs x zAc ι acc h (λ a i=>B8 g qf te K xs a i) (λ ι' hι=>?_) (by simp at hl;lia);refine qm8 I f xs _ ι' ?_ hι (λ y hy=>hs y (zA9 _ hy)) λ ι2 h2=>?_
   . cases hf:f x with
     | none=>simp at hl ⊢;lia
     | some y=>simp at hl ⊢;lia
   have:=hK ι2 h2
   rw[zBr] at this;cases hf:f x with
   | none=>rw[hf] at this;simpa using this
   | some y=>rw[hf] at this;simpa using this
end
def spX1(C:Addr)(fl:Str):Sp:=λ vs H Q _=>∃(e:Addr)(v:V),vs=[.ref e,v]/\H e=some (Ba e C none true)/\∀ dx,H dx=none->dx≠e->Q .non (upd (upd H dx (XD dx [(fl,v)])) e (Ba e C (some dx) true))
section
variable{c:Vc}{X:Cx}{e:Expr}{te:VT}{pos cpos np:Pos}{k:Nat}{f C:Addr}{fd:FuncData}{ps:List Str}{x fl:Str}{t:VTS}
def qo8(C:Addr)(fl:Str)(te:VT):VTS:=λ e ds=>te ds (λ d ds'=>d.imm=true/\e.xe ⟨C,[(fl,d)]⟩ ds') e.xe
theorem qw1(M:MkE X.K C f)(Fn:Bh X.prog X.w X.K X.mg X.base CX0 k f fd ps (spX1 C fl))(hr:Room (k+1) X.A)(hm:X.mg x=some (.ref C))(hb:Binds X.K fd ps [])(hl:Lands X c.E)(ha:VE c X e te)(hg:Gl X x:=by rfl)(hdb:(x == ("__debug__" : Str))=false:=by decide)(he:starEach [e] X.env=(false,eval e X.env)::starEach [] X.env:=by rfl)(hpl:(backTo cpos (starEach [] X.env)).any (·.1)=false:=by rfl) :
   VS c X (.Raise (some (.Call (.Name x np) [e] [] cpos)) none pos) (qo8 C fl te):=by
 refine⟨PS.mono (qad6 M Fn hr hm hb hl (qd4 ha.h qn2 he) hg hdb he hpl) λ E σ H ⟨F,ds,A,ends,S,l,q⟩=>?_,λ e e' ds h=>ha.m _ _ _ _ _ (λ d ds' z=>⟨z.1,h.xe _ _ z.2⟩) h.xe⟩;refine⟨F,ds,A,ends.xe,S,l.xe,ha.m _ _ _ _ _ (λ d ds' ⟨hi,q⟩ v H' F' T A' r S' o s=>?_) (λ _ _ z=>z) q⟩;refine⟨by show 1<=1000;decide,λ a na=>⟨a,v,rfl,qb0,λ dx h1 h2=>⟨rfl,some dx,qb0,?_⟩⟩⟩;have nx:H' dx=none:=by rwa[qb2 h2] at h1
 obtain rfl:=r.imm hi;have sm:Same H' (upd (upd (upd (upd H' a (Ba a C none true)) dx (XD dx [(fl,v)])) a (Ba a C (some dx) true)) a (Ba a C (some dx) false)):=λ b u eb=>by
   have b1:b≠a:=λ z=>by rw[z,na] at eb;cases eb
   have b2:b≠dx:=λ z=>by rw[z,nx] at eb;cases eb
   rw[qb2 b1,qb2 b1,qb2 b2,qb2 b1];exact eb
 refine l.xe ⟨C,[(fl,d)]⟩ ds' σ a _ F' A' q ⟨some dx,qb0,.inr ⟨dx,[(fl,v)],rfl,?_,rfl,?_⟩⟩ (S'.same sm) ((s.count λ b=>by rw[zA0];lia).trans (Stp.same sm))
 . rw[qb2 h2,qb2 h2,qb0]
 exact .cons (A:=[]) (B:=[]) (r.same sm) .nil
def Hn(t:VTS)(hd:Exn->VEnds->Ds->Prop):VTS:=λ e ds=>t { e with xe:=λ x ds'=>hd x e (List.replicate ds.length .unk) } ds
theorem stry{body:List Stmt}{h₀:ExceptHandler}{hs:List ExceptHandler}{th:Addr->TS}{hd:Exn->VEnds->Ds->Prop}(hg:c.gv=[])(hW:∀ i,c.W i=false)(hb:∀ E xe pn,Lands (Xt X xe pn) E->VSs { c with E:=E } (Xt X xe pn) body t)(hh:PH X (h₀::hs) th)(hm:∀ x (e e':VEnds) ds,e.Le e'->hd x e ds->hd x e' ds)(hth:∀ x a (e:VEnds) D F H (σ:St) ds,RepX F H a x->Sta c F H σ ds []->Lk c D F H [] e->σ=List.replicate σ.length none->hd x e ds->th a D σ H)(hst:X.stack=X.env::X.outer:=by rfl)(hfr:X.env.frame=some X.env.locals:=by rfl):VS c X (.Try body (h₀::hs) [] [] pos) (Hn t hd):=by
 refine⟨PS.mono (qav0 (tb:=λ E=>Ei { c with E:=E } t) (λ E xe pn hl=>(hb E xe pn hl).h) hh hst hfr) λ D σ H ⟨F,ds,A,e,S,l,q⟩=>?_,λ e e' ds h=>(hb (λ _ _ _=>False) (λ _ _=>True) [] λ _ _ _ _ _ _ _ _ _ z=>z.elim).m _ _ _ ⟨h.nx,h.rt,h.bk,h.ct,λ x ds'=>hm x _ _ _ h⟩⟩;have hlen:σ.length=ds.length:=by
   have:=S.loc.len
   rw[hg,zAa] at this;exact this
 refine⟨λ ev _ H'=>∃ x a ds' σ' F' A',ev=.ref a/\hd x e (List.replicate ds.length .unk)/\RepX F' H' a x/\Sta c F' H' σ' ds' A'/\Stp F H A F' H' A',⟨F,ds,A,_,⟨S.loc,S.ok,S.len,S.ag⟩,⟨?_,?_,?_,?_,?_⟩,q⟩,λ a H' ⟨x,a',ds',σ',F',A',ea,qh,rx,S',s'⟩=>?_⟩
 . exact λ ds' σ' H' F' A' q S'=>l.nx ds' σ' H' F' A' q ⟨S'.loc,S'.ok,S'.len,S'.ag⟩
 . exact λ d ds' v σ' H' F' T A' q r S'=>l.rt d ds' v σ' H' F' T A' q r ⟨S'.loc,S'.ok,S'.len,S'.ag⟩
 . exact λ ds' σ' H' F' A' q S'=>l.bk ds' σ' H' F' A' q ⟨S'.loc,S'.ok,S'.len,S'.ag⟩
 . exact λ ds' σ' H' F' A' q S'=>l.ct ds' σ' H' F' A' q ⟨S'.loc,S'.ok,S'.len,S'.ag⟩
 . exact λ x ds' σ' a H' F' A' q rx S' s'=>⟨x,a,ds',σ',F',A',rfl,q,rx,⟨S'.loc,S'.ok,S'.len,S'.ag⟩,s'⟩
 cases ea;have S2:Sta c F' H' (List.replicate σ.length none) (List.replicate ds.length .unk) []:=by
   refine⟨?_,S'.ok.count λ b=>by simp,?_,λ i hi=>by rw[hW i] at hi;cases hi⟩
   . rw[hg,zAa,hlen];exact qo0 _
   rw[S.len,hg];simp
 have s2:Stp F H A F' H' []:=s'.count λ b=>by simp
 exact hth x a e D F' H' _ _ rx S2 (l.step s2) (by simp) qh
end
section
variable{X:Cx}{a:Expr}{p p2 pos pos2:Pos}
def E9(n:Nat):List V:=(List.range n).map λ i=>V.int (i:Nat)
def tLR(ta:TA):TE:=λ σ H Q=>ta σ H λ vs H1=>∃ j:Int,vs=[.int j]/\0<=j/\j<=2 ^ 20/\∀ l,H1 l=none->Q (.ref l) (upd H1 l (.lst (E9 j.toNat)))
theorem qK4:∀{xs:List V}{us:List Value},xs.length=us.length->(∀(i:Nat)(x:V)(u:Value),xs[i]? = some x->us[i]? = some u->RelV x u)->Vals xs us
 | [],[],_,_=>.nil
 | x::xs,u::us,hl,h=>.cons (h 0 x u rfl rfl) (qK4 (Nat.succ.inj hl) λ i y v h1 h2=>h (i+1) y v h1 h2)
theorem qS9{acc:Array Value}(h:ItemsOf (λ i v=>∃ t,v=Value.int (0+(i:Int) * 1) t) acc n):Vals (E9 n) acc.toList:=by
 refine qK4 (by unfold E9;rw[zAj,List.length_range,Array.length_toList];exact h.1.symm) λ i x u hx hu=>?_
 obtain⟨t,rfl⟩:=h.2 i u (by rw[<- hu,Array.getElem?_toList]);unfold E9 at hx;rw[zBe] at hx;cases e:(List.range n)[i]? with
 | none=>rw[e] at hx;cases hx
 | some j =>
   rw[e] at hx;obtain⟨h1,h2⟩:=zA5.mp e;rw[List.getElem_range] at h2;subst h2;cases hx;exact⟨t,by simp⟩
theorem qT4{ta:TA}(hl:X.mg "list" = none)(hm:X.mg "range" = none)(hc:X.calm=true)(ha:PA X [a] ta)(hg1:Gl X "list" := by rfl)(hg2:Gl X "range" := by rfl)(hs:starEach [a] X.env=[(false,eval a X.env)]:=by rfl)(hs2:starEach [.Call (.Name "range" p2) [a] [] pos2] X.env=[(false,eval (.Call (.Name "range" p2) [a] [] pos2) X.env)]:=by rfl):PE X (.Call (.Name "list" p) [.Call (.Name "range" p2) [a] [] pos2] [] pos) (tLR ta):=by
 intro Dk s σ H Q I h;refine wpAny_Call_Name_kw (qJ7 I hg1 hl (by rfl:bootBuiltins "list" = some (.type "list")) (PyProof.Rows.callWith_type1 ?_ hs2 rfl));show wpAny _ _ (spliced ((false,eval _ X.env)::[])) _ _ s;refine Calls.spliced_cons ?_;refine wpAny_Call_Name_kw (qJ7 I hg2 hm (by rfl:bootBuiltins "range" = some (.type "range")) (PyProof.Rows.callWith_type1 (thn (ha pos2 Dk s σ H _ I h) λ us s1 ⟨vs,H1,I1,r1,q1⟩=>?_) hs rfl));obtain⟨j,e,j0,j1,q⟩:=q1;subst e;obtain⟨u,rfl,t,rfl⟩:=Bm r1;refine call_range_1 ?_;refine Calls.spliced_nil ?_;have hh:=I1.ok.hd hc;refine call_list_range hh (IsRange.new ..) (small_one (by lia) (by lia) (by lia) (by lia)) (n:=j.toNat) ?_ ?_ λ h' tk acc c' kp e it=>?_
 . rw[rangeSize_one];split<;>lia
 . lia
 have sz:=Heap.size_push s1.heap { cls:=.type "range",data:=.fields #[.int 0 s1.toks,.int j t,.int 1 (s1.toks+1)] };refine⟨.ref _,_,I1.laid (t':=tk) (λ b o eb=>kp b o (zA2 _ eb)) ?_ (show ObjOk X.prog X.w _ h' _ (.lst (E9 j.toNat)) from⟨?_,acc.toList,c',qS9 it,by simpa using e⟩),rfl,q _ (I1.hok.fresh ?_)⟩
 . exact Nat.le_of_lt (Nat.lt_of_lt_of_eq (zBs _) sz.symm)
 . unfold E9;rw[zAj,List.length_range,sizeLine_eq];lia
 exact Nat.le_of_lt (Nat.lt_of_lt_of_eq (zBs _) sz.symm)
theorem qT0{F:Addr->Prop}{H:Hp}(n:Nat):Reps F H (E9 n) (A5 0 n) []:=by
 unfold E9 A5
 induction List.range n with
 | nil=>exact .nil
 | cons i r ih =>
   have:=Reps.cons (A:=[]) (B:=[]) (Rep.int (F:=F) (H:=H) ((i:Nat):Int)) ih
   simpa using this
def tLRV(t:VTA):VT:=λ ds Q xe=>t ds (λ xs ds1=>∃ j:Int,xs=[.int j]/\0<=j/\j<=2 ^ 20/\Q (.lst false (A5 0 j.toNat)) ds1) xe
theorem qar7{c:Vc}{t:VTA}(hl:X.mg "list" = none)(hm:X.mg "range" = none)(ha:VOs c X [a] t)(hc:X.calm=true:=by rfl)(hg1:Gl X "list" := by rfl)(hg2:Gl X "range" := by rfl)(hs:starEach [a] X.env=[(false,eval a X.env)]:=by rfl)(hs2:starEach [.Call (.Name "range" p2) [a] [] pos2] X.env=[(false,eval (.Call (.Name "range" p2) [a] [] pos2) X.env)]:=by rfl):VE c X (.Call (.Name "list" p) [.Call (.Name "range" p2) [a] [] pos2] [] pos) (tLRV t):=by
 refine⟨PE.mono (qT4 hl hm hc ha.h hg1 hg2 hs hs2) λ σ H Q ⟨F,ds,A,xe,S,x,q⟩=>⟨F,ds,A,xe,S,x,ha.m _ _ _ _ _ (λ xs ds' ⟨j,e,j0,j1,q⟩ vs H' F' T A' r S' s=>?_) (λ _ _ z=>z) q⟩,λ ds Q Q' xe xe' hQ hx=>ha.m _ _ _ _ _ (λ xs ds' ⟨j,e,j0,j1,q⟩=>⟨j,e,j0,j1,hQ _ _ q⟩) hx⟩;subst e;obtain rfl:vs=[V.int j]:=by
   cases r with | cons h t=>cases h;cases t;rfl
 refine⟨j,rfl,j0,j1,λ l hn=>?_⟩;have sm:Same H' (upd H' l (.lst (E9 j.toNat))):=Same.new hn;have nw:New H' [l]:=⟨λ b=>by simp[zAg];split<;>lia,λ b o e=>by
   have:b≠l:=λ z=>by rw[z,hn] at e;cases e
   simp[zAg,Ne.symm this]⟩
 refine q (.ref l) _ F' [l] A' (.lst qb0 (qT0 _)) (S'.same sm) (nw.ok S'.ok S'.loc.cells sm) (s.trans (nw.stp sm))
end
theorem Ge{c:Vc}{X:Cx}{pos:Pos}:VV c X (.Dict [] [] pos) true (λ _=>some (.dct false [])) :=
 ⟨PE.mono qae1 λ σ H Q ⟨F,ds,A,d,S,e,q⟩ p hp=>by
   cases e;exact q _ _ [p] (.dct (kvs:=[]) (kds:=[]) qb0 rfl .nil) (Same.new hp) λ _=>qe6 hp⟩
end LV
namespace L2
open PySem PySem.Spec PyProof.Rows
section
variable{prog:Program}{w:World}{A:Around}{E:Value->Shared->Prop}{s:Shared}{K:PySem.W.Frag}{x C:Addr}
theorem qV8{Q:Option Value->Shared->Prop}{ox:Obj}{odo:Option Obj}(X:K.In s.heap)(c:Exc K C)(I:PySem.W.InstAt s.heap x ox C odo)(hf:PySem.W.findObj K C odo "__class__" = some (.bind (.builtin "getset_descriptor.__get__") (.builtin "object.__class__")))(hm:PySem.W.mroIn K C (.type "object")=some true)(h:Q (some (.ref C)) { s with toks:=s.toks+1 }):wpAny (model prog w) A (getAttr? (.ref x) "__class__") Q E s:=by
 have FB:=PySem.F.excAttr_ValueError;obtain⟨h0,g,d,t,os⟩:=s;have L0:=I.type (M:=model prog w);have L1:=PySem.W.looks_findIn (M:=model prog w) X c.ga;have L2:=PySem.W.looks_findIn (M:=model prog w) X c.gt;have L3:=PySem.W.looks_find (M:=model prog w) X I hf;have sub:PySem.W.Looks (model prog w) h0 (isInstance (.ref x) (.type "BaseException")) true:=L0.andThen (PySem.W.looks_mroIn X c.be);have k1:builtinKind "BaseException.__getattribute__" = some .slot:=by decide +kernel
 have k2:splitId "BaseException.__getattribute__" = some ("BaseException", "__getattribute__"):=by decide +kernel
 unfold getAttr? getAttrBy? getAttrBy;refine wpAny_bind (wpAny_mkText (wpAny_bind (wpAny_attempt (wpAny_holding (wpAny_bind (L0.at (wpAny_bind (L1.at ?_))))))));dsimp only;have ne:(Value.builtin "BaseException.__getattribute__" == Value.builtin "object.__getattribute__")=false:=by decide +kernel
 rw[ne,zAx,if_neg zAe];unfold getAttrByItsOwn hookBefore;refine wpAny_bind ?_;rw[if_pos (by rfl)];refine L2.at ?_;unfold callGetattribute boundAndCalled;rw[if_neg (by decide)];refine wpAny_bind (wpAny_attempt (wpAny_holding ?_));rw[FB.ga.bind (.ref x)];refine wpAny_bind (wpAny_pure (wpAny_call ?_));refine codeAny_call_builtin FB.ga.plain PySem.F.entry_bexc_ga (@PySem.W.check_slot (model prog w) _ _ _ "BaseException.__getattribute__" "BaseException" "__getattribute__" (.ref x) [.str "__class__" t] [] _ k1 k2 sub (PySem.F.args_bexc_ga (.ref x) (.str "__class__" t)) ?_);unfold Builtin.«object.__getattribute__»;refine wpAny_bind (wpAny_pure (wpAny_bind (wpAny_pure (wpAny_bind (L0.at (wpAny_bind (L3.at ?_)))))));dsimp only;show wpAny _ _ (holding [Value.builtin "object.__class__"] (call (Value.builtin "getset_descriptor.__get__") [Value.builtin "object.__class__",.ref x,.ref C]) >>= ret) _ _ _;refine wpAny_bind (wpAny_holding (wpAny_call (PySem.W.class_get (s:=⟨h0,g,d,t+1,os⟩) (ox:=ox) (od:=odo) X I hm ?_)));refine wpAny_pure ?_;exact PySem.W.handed_on rfl (wpAny_pure h)
end
structure IsX(K:PySem.W.Frag)(C:Addr):Prop where
 ex:Exc K C
 ca:PySem.W.findIn K (.ref C) "__class__" = some (some (.builtin "object.__class__"))
 cn:PySem.W.specialIn K (.builtin "object.__class__") "__get__" = some (some (.builtin "getset_descriptor.__get__"))
 ct:PySem.W.takesIn K (.builtin "object.__class__")=some true
theorem qag3{K:PySem.W.Frag}{x C:Addr}{ox od:Obj}(i:IsX K C):PySem.W.KitX K (.ref x) (.ref C) (λ h=>PySem.W.InstAt h x ox C (some od)) where
 ty:=λ _ _ _ I=>I.type
 it:=λ _ _ X _=>by
   obtain⟨cdD,hcD,_⟩:=PySem.W.any_some i.ex.hd;unfold PySem.W.clsIn at hcD;split at hcD
   . rename_i c' d' cd' sl' ho
     intro A' Q' E' s' k q;unfold isType loadHead;exact wpAny_bind (wpAny_loadPart (k _ _ (X _ _ ho)) (wpAny_pure q))
   cases hcD
 ne:=λ h tp dd its n sl X htp=>by
   obtain⟨cdD,hcD,_⟩:=PySem.W.any_some i.ex.hd;refine Bool.eq_false_iff.mpr λ q=>?_
   have e:C=tp:=Value.ref.inj (zBg.mp q);subst e;unfold PySem.W.clsIn at hcD;split at hcD
   . rename_i c' d' cd' sl' ho
     have z:=(X _ _ ho).symm.trans htp;cases z
   cases hcD
 ca:=λ X I k=>qV8 X i.ex I (PySem.W.findObj_data (by obtain⟨cd,hc,_⟩:=PySem.W.any_some i.ex.hd;rw[hc];rfl) i.ca i.cn i.ct) i.ex.ob k
def rIsX(K:PySem.W.Frag):List V->Hp->VK->Prop:=λ xs H Q=>∃ a d u C dx fr fs b,xs=[.ref a,d]/\RelV d u/\(∀ u',RelV d u'->u'=u)/\H a=some (Ba a C (some dx) fr)/\H dx=some (XD dx fs)/\IsX K C/\PySem.W.kitOne K (.ref C) u=some b/\Q (.bl b) H
theorem qai8{X:Cx}:CallR X (.builtin "isinstance") (rIsX X.K):=by
 intro Dk s σ H xs us Q I r h;obtain⟨a,d,u,C,dx,fr,fs,b,rfl,rd,one,ea,ed,ix,hk,q⟩:=h;obtain⟨u1,u2,rfl,r1,r2⟩:=Fc r;obtain rfl:u1=Value.ref a:=r1;obtain rfl:=one _ r2;obtain⟨oe,vs,h1,h2,h3,h4,_⟩:=qC8 I.hok ea;obtain⟨mA,n1,r,wi,_⟩:=G8 I.hok ed;obtain⟨od,ho,hlk⟩:=qn9 n1;obtain⟨oc,odi,oda,osl⟩:=oe;dsimp only at h2 h3 h4;subst h2 h3 h4;have J:PySem.W.InstAt s.heap a ⟨.ref C,some dx,.fields vs,osl⟩ C (some od):=⟨h1,rfl,rfl,ho⟩
 exact PySem.W.kia_one (qag3 ix) I.kIn J hk (λ z=>nomatch z) λ tk=>⟨.bl b,H,I.tok tk,rfl,q⟩
end L2
namespace LV
open PySem L2
variable{CH:Addr}{t:TS}
def Ho(K:PySem.W.Frag)(x:Exn):Prop:=IsX K x.C/\x.fs≠[]
section
variable{c:Vc}{K:PySem.W.Frag}{j:Nat}
abbrev XQ:=Exn->(Bool->Prop)->Prop
abbrev XV:=Exn->(D->Prop)->Prop
abbrev XH:=Exn->VEnds->Ds->Prop
structure HTs(K:PySem.W.Frag)(j:Nat)(tt:TT)(q:XQ):Prop where
 ok:∀ x a F H (σ:St) (Q:Bool->Hp->Prop),RepX F H a x->Ho K x->σ[j]? = some (some (.ref a))->q x (λ k=>Q k H)->tt σ H Q
 m:∀ x (Q Q':Bool->Prop),(∀ k,Q k->Q' k)->q x Q->q x Q'
def qIs(K:PySem.W.Frag)(u:Value):XQ:=λ x Q=>∃ k,PySem.W.kitOne K (.ref x.C) u=some k/\Q k
theorem RepX.fields{F:Addr->Prop}{H:Hp}{a:Addr}{x:Exn}(r:RepX F H a x)(h:x.fs≠[]):∃ dx fvs,H a=some (Ba a x.C (some dx) false)/\H dx=some (XD dx fvs)/\fvs.map (·.1)=x.fs.map (·.1)/\Reps F H (fvs.map (·.2)) (x.fs.map (·.2)) []:=by
 obtain⟨od,e,q⟩:=r;rcases q with q | ⟨dx,fvs,rfl,h1,h2,h3⟩
 . exact absurd q h
 exact⟨dx,fvs,e,h1,h2,h3⟩
theorem ht_is{d:V}{u:Value}(rd:RelV d u)(one:∀ u',RelV d u'->u'=u):HTs K j (tB (tCB (rIsX K) (Er (El j) (Er (tC d) tNil)))) (qIs K u) :=
 ⟨λ x a F H σ Q r ix hs ⟨k,hk,q⟩=>by
   obtain⟨dx,fvs,e,h1,h2,h3⟩:=r.fields ix.2;exact⟨_,hs,a,d,u,x.C,dx,false,fvs,k,rfl,rd,one,e,h1,ix.1,hk,k,rfl,q⟩,λ x Q Q' h ⟨k,hk,q⟩=>⟨k,hk,h k q⟩⟩
structure HVs(K:PySem.W.Frag)(j:Nat)(te:TE)(g:XV):Prop where
 ok:∀ x a F H (σ:St) (Q:VK),RepX F H a x->Ho K x->σ[j]? = some (some (.ref a))->g x (λ d=>∀ v H',Same H H'->Rep F H' v d []->Q v H')->te σ H Q
 m:∀ x (Q Q':D->Prop),(∀ d,Q d->Q' d)->g x Q->g x Q'
def vFld(K:PySem.W.Frag)(f:Str):XV:=λ x Q=>qe3 K x.C f/\∃ d,x.fs.lookup f=some d/\Q d
theorem qs6{F:Addr->Prop}{H:Hp}{f:Str}{d:D}:∀(fvs:List (Str×V))(fds:List (Str×D)),fvs.map (·.1)=fds.map (·.1)->Reps F H (fvs.map (·.2)) (fds.map (·.2)) []->fds.lookup f=some d->∃ v,fvs.lookup f=some v/\Rep F H v d []
 | [],[],_,_,h=>by cases h
 | [],_::_,e,_,_=>by cases e
 | _::_,[],e,_,_=>by cases e
 | (k,v)::fvs,(k',d')::fds,e,r,h=>by
   have e1:k=k':=(List.cons.inj e).1;subst e1;have r:Reps F H (v::fvs.map (·.2)) (d'::fds.map (·.2)) []:=r;generalize hN:([]:List Addr)=N at r;cases r with
   | @cons _ _ B _ _ B' h1 t =>
     obtain⟨rfl,rfl⟩:=List.append_eq_nil_iff.mp hN.symm;rw[zAp] at h ⊢;cases hk:f == k with
     | true =>
       rw[hk] at h;cases h;exact⟨v,rfl,h1⟩
     | false =>
       rw[hk] at h;exact qs6 fvs fds (List.cons.inj e).2 t h
theorem qaz5{f:Str}:HVs K j (tEF K (El j) f) (vFld K f) :=
 ⟨λ x a F H σ Q r ix hs ⟨n,d,hd,q⟩=>by
   obtain⟨dx,fvs,e,h1,h2,h3⟩:=r.fields ix.2;obtain⟨v,hv,rv⟩:=qs6 fvs x.fs h2 h3 hd;exact⟨_,hs,a,x.C,dx,false,fvs,v,rfl,e,h1,ix.1.ex,n,hv,q v H (λ _ _ z=>z) rv⟩,λ x Q Q' h ⟨n,d,hd,q⟩=>⟨n,d,hd,h d q⟩⟩
def vCon(d:D):XV:=λ _ Q=>Q d
theorem qaz4{w:Str}:HVs K j (tC (.str w)) (vCon (.str w)):=⟨λ x a F H σ Q r ix hs q=>q _ H (λ _ _ z=>z) (.str w),λ x Q Q' h=>h _⟩
def vTup(g g':XV):XV:=λ x Q=>g x λ d=>g' x λ d'=>Q (.tup [d,d'])
theorem RepX.same{F:Addr->Prop}{H H':Hp}{a:Addr}{x:Exn}(r:RepX F H a x)(s:Same H H'):RepX F H' a x:=by
 obtain⟨od,e,q⟩:=r;refine⟨od,s _ _ e,?_⟩;rcases q with q | ⟨dx,fvs,rfl,h1,h2,h3⟩
 . exact .inl q
 exact .inr ⟨dx,fvs,rfl,s _ _ h1,h2,h3.same s⟩
theorem qaz3{te te':TE}{g g':XV}(h:HVs K j te g)(h':HVs K j te' g'):HVs K j (tTup (Er te (Er te' tNil))) (vTup g g') :=
 ⟨λ x a F H σ Q r ix hs q=>h.ok x a F H σ _ r ix hs (h.m x _ _ (λ d q v H' s rv=>by
   refine h'.ok x a F H' σ _ (r.same s) ix hs (h'.m x _ _ (λ d' q v' H2 s' rv'=>?_) q);refine⟨by show 2<=sizeLine;rw[sizeLine_eq];lia,λ p hp=>q _ _ (λ b o e=>Same.new hp _ _ (s' _ _ (s _ _ e))) (.tup qb0 (.cons (A:=[]) (B:=[]) ((rv.same s').same (Same.new hp)) (.cons (A:=[]) (B:=[]) (rv'.same (Same.new hp)) .nil)))⟩) q),
   λ x Q Q' hQ=>h.m x _ _ λ d=>h'.m x _ _ λ d'=>hQ _⟩
structure HSs(c:Vc)(K:PySem.W.Frag)(j:Nat)(t:TS)(h:XH):Prop where
 ok:∀ x a (e:VEnds) (D D2:B6) F H (σ:St) ds,RepX F H a x->Ho K x->Sta c F H σ ds []->Lk c D F H [] e->σ=List.replicate σ.length none->j < σ.length->D2.rt=D.rt->D2.nx=(λ σ H=>D.nx (σ.set j none) H)->h x e ds->t D2 (σ.set j (some (.ref a))) H
 m:∀ x (e e':VEnds) ds,e.Le e'->h x e ds->h x e' ds
structure HRs(c:Vc)(K:PySem.W.Frag)(j:Nat)(t:TS)(h:XH):Prop where
 ok:∀ x a (e:VEnds) (D D2:B6) F H (σ:St) ds,RepX F H a x->Ho K x->Sta c F H σ ds []->Lk c D F H [] e->σ=List.replicate σ.length none->j < σ.length->D2.rt=D.rt->h x e ds->t D2 (σ.set j (some (.ref a))) H
 m:∀ x (e e':VEnds) ds,e.Le e'->h x e ds->h x e' ds
def hRet(g:XV):XH:=λ x e ds=>g x λ d=>e.rt d ds
theorem qaz6{te:TE}{g:XV}(h:HVs K j te g):HRs c K j (tRet te) (hRet g) :=
 ⟨λ x a e D D2 F H σ ds r ix S l hσ hj hD q=>h.ok x a F H _ _ r ix (zB9 hj) (h.m x _ _ (λ d q v H' s rv=>by
   rw[hD];exact l.rt d ds v σ H' F [] [] q rv (S.same s) (S.ok.same s) (Stp.same s)) q),λ x e e' ds hl=>h.m x _ _ λ d=>hl.rt _ _⟩
def hNx:XH:=λ _ e ds=>e.nx ds
theorem qaq5:HSs c K j Gw hNx :=
 ⟨λ x a e D D2 F H σ ds rx ix S l hσ hj hD hN q=>by
   show D2.nx _ H;rw[hN];show D.nx _ H;have e:(σ.set j (some (.ref a))).set j none=σ:=by
     rw[List.set_set];refine List.ext_getElem? λ i=>?_
     by_cases z:j=i
     . subst z
       rw[zB9 hj,hσ,List.getElem?_replicate,if_pos hj]
     rw[zB6 z]
   rw[e];exact l.nx ds σ H F [] q S Stp.refl,λ x e e' ds hl=>hl.nx ds⟩
def hIf(q:XQ)(h h':XH):XH:=λ x e ds=>q x λ k=>if k=true then h x e ds else h' x e ds
theorem hif_m{q:XQ}{tt:TT}{h h':XH}(hq:HTs K j tt q)(m:∀ x (e e':VEnds) ds,e.Le e'->h x e ds->h x e' ds)(m':∀ x (e e':VEnds) ds,e.Le e'->h' x e ds->h' x e' ds):∀ x (e e':VEnds) ds,e.Le e'->hIf q h h' x e ds->hIf q h h' x e' ds:=λ x e e' ds hl=>hq.m x _ _ λ k=>by
 cases k with
 | true=>exact m x e e' ds hl
 | false=>exact m' x e e' ds hl
theorem hs_if{tt:TT}{q:XQ}{h:XH}(hq:HTs K j tt q)(hr:HRs c K j t h):HSs c K j (tIfS tt t Gw) (hIf q h hNx) :=
 ⟨λ x a e D D2 F H σ ds rx ix S l hσ hj hD hN z=>hq.ok x a F H _ _ rx ix (zB9 hj) (hq.m x _ _ (λ k z=>by
   cases k with
   | true=>exact hr.ok x a e D D2 F H σ ds rx ix S l hσ hj hD z
   | false=>exact qaq5.ok x a e D D2 F H σ ds rx ix S l hσ hj hD hN z) z),hif_m hq hr.m (qaq5 (c:=c) (K:=K) (j:=j)).m⟩
def hTop(K:PySem.W.Frag)(CH:Addr)(j:Nat)(h:XH):XH:=λ x e ds=>j < ds.length/\Ho K x/\PySem.W.mroIn K x.C (.ref CH)=some true/\h x e ds
theorem qaz7{h:XH}(hs:HSs c K j t h):∀ x (e e':VEnds) ds,e.Le e'->hTop K CH j h x e ds->hTop K CH j h x e' ds:=λ x e e' ds hl ⟨h1,h2,h3,h4⟩=>⟨h1,h2,h3,hs.m x e e' ds hl h4⟩
theorem qaq6{h:XH}{tr:Addr->TS}(hg:c.gv=[])(hs:HSs c K j t h):∀ x a (e:VEnds) D F H (σ:St) ds,RepX F H a x->Sta c F H σ ds []->Lk c D F H [] e->σ=List.replicate σ.length none->hTop K CH j h x e ds->tHd K CH j (λ _=>t) tr a D σ H:=by
 intro x a e D F H σ ds rx S l hσ ⟨hj,ix,hm,q⟩;have hlen:σ.length=ds.length:=by
   have:=S.loc.len
   rw[hg,zAa] at this;exact this
 obtain⟨dx,fvs,he,_⟩:=rx.fields ix.2;exact⟨x.C,some dx,true,he,hm,iteT (hs.ok x a e D (qaj3 j D) F H σ ds rx ix S l hσ (by lia) rfl rfl q)⟩
end
theorem stryH{c:Vc}{X:Cx}{pos:Pos}{j:Nat}{h:XH}{tr:Addr->TS}{u:VTS}{body:List Stmt}{h₀:ExceptHandler}{hs:List ExceptHandler}(hg:c.gv=[])(hW:∀ i,c.W i=false)(hb:∀ E xe pn,Lands (Xt X xe pn) E->VSs { c with E:=E } (Xt X xe pn) body u)(hh:PH X (h₀::hs) (tHd X.K CH j (λ _=>t) tr))(hh':HSs c X.K j t h)(hst:X.stack=X.env::X.outer:=by rfl)(hfr:X.env.frame=some X.env.locals:=by rfl):VS c X (.Try body (h₀::hs) [] [] pos) (Hn u (hTop X.K CH j h)) :=
 stry hg hW hb hh (qaz7 hh') (qaq6 hg hh') hst hfr
theorem rm{j k:Nat}{A:Around}(r:Room k A)(h:j<=k:=by decide):Room j A:=r.mono h
theorem VFn.mk2{P:Program}{w:World}{K:PySem.W.Frag}{mg:Str->Option Value}{base:Heap}{x qual:Str}{st:Stmt}{f:Addr}{fd:FuncData}{N ps:List Str}{k:Nat}{s:VSp}(Fu:Fun K x qual st f fd)(Sc:qb1 N ps (qa4 st))(W:Nat->Bool)(hs:Bc s)(h:∀ ds Q xe,s ds Q xe->ds.length=ps.length/\F4 W 0 ds=true)(hbody:∀(cdv:Value)(A:Around)(outer:List Env)(sh:Shared)(H:Hp)(E:XK)(av:List (Option V)),Room k (A.deeper (PyProof.Rows.envOfC qual (qa4 st) sh.heap.objs.size f cdv)) ->
     ∃ t,VSs ⟨E,W,av,[]⟩ (B9 (CX1 P w) P w K mg base N qual (qa4 st) f cdv A outer sh H E) (qd0 st) t/\∀ ds Q xe,s ds Q xe->t (qV9 W ds Q xe) (ds++List.replicate (N.length - ds.length) .unk)) :
   VFn P w K mg base (k+1) f fd ps s:=VFn.mk' Fu Sc W hs (λ ds Q xe z=>(h ds Q xe z).1) (λ ds Q xe z=>(h ds Q xe z).2) hbody
def gMin3:Ds->Option D
 | [.int i,.int j,.int k]=>some (.int (if j < i then (if k < j then k else j) else (if k < i then k else i)))
 | _=>none
def rMin3:List V->Hp->VK->Prop:=λ xs H Q=>∃ i j k:Int,xs=[.int i,.int j,.int k]/\Q (.int (if j < i then (if k < j then k else j) else (if k < i then k else i))) H
theorem qW5{X:Cx}(hc:X.calm=true):CallR X (.builtin "min") rMin3:=by
 intro Dk s σ H xs us Q I r h;obtain⟨i,j,k,rfl,q⟩:=h;cases r with | cons r1 t=>cases t with | cons r2 t=>cases t with | cons r3 t =>
   cases t;obtain⟨t1,rfl⟩:=r1;obtain⟨t2,rfl⟩:=r2;obtain⟨t3,rfl⟩:=r3;refine min_three_ints (I.ok.hd hc) λ h' tk kp=>⟨_,H,I.kept kp,?_,q⟩
   repeat' split
   all_goals exact⟨_,rfl⟩
theorem qao3:OpS true rMin3 gMin3:=by
 intro F H vs xs B d Q r e q;unfold gMin3 at e;split at e
 . cases e
   cases r with | cons r1 t=>cases t with | cons r2 t=>cases t with | cons r3 t =>
     cases t;cases r1;cases r2;cases r3;exact⟨_,_,_,rfl,q _ H [] (.int _) (λ _ _ z=>z) New.nil⟩
 cases e
mutual
def D.plain:D->Bool
 | .tup ds=>D.plains ds
 | .lst z ds=>!z&&D.plains ds
 | .non=>true | .bl _=>true | .int _=>true | .str _=>true
 | _=>false
def D.plains:List D->Bool
 | []=>true
 | d::r=>d.plain&&D.plains r
end
theorem Rep.plain{F F':Addr->Prop}{H:Hp}{v:V}{d:D}{A:List Addr}(r:Rep F H v d A):d.plain=true->Rep F' H v d A:=by
 induction r using Rep.rec (motive_2:=λ vs ds A _=>D.plains ds=true->Reps F' H vs ds A) with
 | tup e r i=>exact λ h=>.tup e (i h)
 | lst e r i=>exact λ h=>.lst e (i h)
 | non=>exact λ _=>.non
 | bl b=>exact λ _=>.bl b
 | int i=>exact λ _=>.int i
 | str x=>exact λ _=>.str x
 | nil=>exact Reps.nil
 | cons _ _ i j h=>exact Reps.cons (i (zA3.mp h).1) (j (zA3.mp h).2)
 | _=>nofun
section
variable{c:Vc}{X:Cx}{e:Expr}{es:List Expr}{tr:VTB}{pos p:Pos}{x qual:Str}{st:Stmt}{f:Addr}{fd:FuncData}{ps:List Str}{k:Nat}{s:VSp}
def qak8(s:VSp)(tr:VTB):VT:=λ ds Q xe=>tr ds (λ xs ps ds1=>s (D.fzs xs) (λ d _=>d.plain=true/\orF (Ap ps xs ds1) λ ds2=>Q d ds2) (λ _ _=>False)) xe
theorem qaj1(hs:Bc s)(ha:VAs c X es tr):∀ σ H Q,A7 c (qak8 s tr) σ H Q->Fd (Eh s) [] c.E (Dw c tr) σ H Q:=by
 rintro σ H Q ⟨F,ds,A,xe,S,x,q⟩;refine⟨F,ds,A,xe,S,x,ha.m _ _ _ _ _ (λ xs ps ds1 q vs H1 F1 T A1 r1 pk S1 o1 s1=>?_) (λ _ _ z=>z) q⟩;rw[zAa];refine⟨λ b=>F1 b∨b∈T,D.fzs xs,[],r1.fz (λ _=>.inl) (λ _=>.inr),⟨λ b=>by simp,λ b _=>by simp,λ b h=>h.elim (o1.ex b) λ h=>let ⟨o,e,_⟩:=r1.cells b h;⟨o,e⟩⟩,hs _ _ _ _ _ (λ d ys q v H2 F2 T2 A2 r2 ra o2 s2=>?_) (λ y ys q=>q.elim) q⟩;obtain⟨hp,q⟩:=q;obtain⟨ds2,eb,q⟩:=qa7.mp q;have sm:Same H1 H2:=λ b o e=>s2.fr b o e (by simp)
 have nw:New H1 T2:=⟨λ b=>by have:=o2.sep b;rw[zA0] at this;lia,λ b o e=>by have:=s2.sub b o e (by simp);rw[zA0] at this;lia⟩
 obtain⟨A3,q1,q2⟩:=qm9 (more:=[]) pk (by rw[zAa];exact r1.same sm) (S1.loc.same sm) eb;have cl:∀ b∈T++A1,∃ o,H1 b=some o/\B7 o=true:=λ b hb=>(zAd.mp hb).elim (r1.cells b) (S1.loc.cells b)
 have hc:∀ b,(T2++A3).count b<=(T2++(T++A1)).count b:=λ b=>by simp only[zA0];have:=q2 b;lia
 have o4:Ok F1 H2 (T2++A3):=(nw.ok o1 cl sm).count hc;exact q v H2 F1 T2 A3 (r2.plain hp) ⟨q1,o4.right,S.len,S.ag⟩ o4 ((s1.trans (nw.stp sm)).count hc)
theorem qaA3(D:Df X.K X.mg x qual st f fd ps)(G:VFn X.prog X.w X.K X.mg X.base k f fd ps s)(hl:Lands X c.E)(hr:Room k X.A)(ha:VAs c X (e::es) tr)(hg:Gl X x:=by rfl)(hdb:(x == ("__debug__" : Str))=false:=by decide)(he:starEach (e::es) X.env=(false,eval e X.env)::starEach es X.env:=by rfl)(hpl:(backTo pos (starEach es X.env)).any (·.1)=false:=by rfl):VE c X (.Call (.Name x p) (e::es) [] pos) (qak8 s tr) :=
 ⟨PE.mono (qE9 G.ok hr hg D.m D.F.kp D.b .nil hl.passes ha.h hdb he hpl) (qaj1 G.m ha),λ ds Q Q' xe xe' hQ hx=>ha.m _ _ _ _ _ (λ xs ps ds1=>G.m _ _ _ _ _ (λ d ys=>And.imp_right (qa6 λ z=>hQ _ _)) (λ _ _ z=>z)) hx⟩
end
end LV
namespace LV
open PySem L2 PyProof.Rows
end LV
namespace LV
open PySem L2
section
variable{c:Vc}{X:Cx}{e:Expr}{es:List Expr}{tr:VTB}{pos lpos p:Pos}{x qual:Str}{st:Stmt}{f:Addr}{fd:FuncData}{ps:List Str}{k:Nat}{s:VSp}
def qak9(s:VSp)(tr:VTB):VT:=λ ds Q xe=>tr ds (λ xs ps ds1=>xs.length<=big/\s [.lst true (D.fzs xs)] (λ d _=>d.plain=true/\orF (Ap ps xs ds1) λ ds2=>Q d ds2) (λ _ _=>False)) xe
theorem qaj2(hs:Bc s)(ha:VAs c X es tr):∀ σ H Q,A7 c (qak9 s tr) σ H Q->Fd (Eh s) [] c.E (Er (tLst (Dw c tr)) tNil) σ H Q:=by
 rintro σ H Q ⟨F,ds,A,xe,S,x,q⟩;refine⟨F,ds,A,xe,S,x,ha.m _ _ _ _ _ (λ xs ps ds1 q vs H1 F1 T A1 r1 pk S1 o1 s1=>⟨by rw[r1.len];exact zAm q.1 qe5,λ y hy=>?_⟩) (λ _ _ z=>z) q⟩;obtain⟨_,q⟩:=q;have same:=Same.new (u:=.lst vs) hy;have r3:Reps F1 (upd H1 y (.lst vs)) [.ref y] [.lst false xs] ((y::T)++[]):=.cons (.lst qb0 (r1.same same)) .nil;rw[zAa] at r3;have cl:∀ b∈T++A1,∃ o,H1 b=some o/\B7 o=true:=λ b hb=>(zAd.mp hb).elim (r1.cells b) (S1.loc.cells b)
 have oN:Ok F1 (upd H1 y (.lst vs)) ([y]++(T++A1)):=(qe6 hy).ok o1 cl same;refine⟨λ b=>F1 b∨b∈y::T,[.lst true (D.fzs xs)],[],r3.fz (λ _=>.inl) (λ _=>.inr),⟨λ b=>by simp,λ b _=>by simp,λ b h=>h.elim (oN.ex b) λ h=>let ⟨o,e,_⟩:=r3.cells b h;⟨o,e⟩⟩,hs _ _ _ _ _ (λ d ys q v H2 F2 T2 A2 r2 ra o2 s2=>?_) (λ y ys q=>q.elim) q⟩;obtain⟨hp,q⟩:=q;obtain⟨ds2,eb,q⟩:=qa7.mp q;have sm0:Same (upd H1 y (.lst vs)) H2:=λ b o e=>s2.fr b o e (by simp)
 have sm:Same H1 H2:=λ b o e=>sm0 b o (same b o e)
 have nw:New H1 T2:=⟨λ b=>by have:=o2.sep b;rw[zA0] at this;lia,λ b o e=>by have:=s2.sub b o (same b o e) (by simp);rw[zA0] at this;lia⟩
 obtain⟨A3,q1,q2⟩:=qm9 (more:=[]) pk (by rw[zAa];exact r1.same sm) (S1.loc.same sm) eb;have hc:∀ b,(T2++A3).count b<=(T2++(T++A1)).count b:=λ b=>by simp only[zA0];have:=q2 b;lia
 have o4:Ok F1 H2 (T2++A3):=(nw.ok o1 cl sm).count hc;exact q v H2 F1 T2 A3 (r2.plain hp) ⟨q1,o4.right,S.len,S.ag⟩ o4 ((s1.trans (nw.stp sm)).count hc)
theorem qai3(D:Df X.K X.mg x qual st f fd ps)(G:VFn X.prog X.w X.K X.mg X.base k f fd ps s)(hl:Lands X c.E)(hr:Room k X.A)(ha:VAs c X es tr)(hg:Gl X x:=by rfl)(hdb:(x == ("__debug__" : Str))=false:=by decide)(he:starEach [.List es lpos] X.env=[(false,eval (.List es lpos) X.env)]:=by rfl):VE c X (.Call (.Name x p) [.List es lpos] [] pos) (qak9 s tr) :=
 ⟨PE.mono (qE9 G.ok hr hg D.m D.F.kp D.b .nil hl.passes (qd4 (qT3 ha.h) qn2 he) hdb he rfl) (qaj2 G.m ha),λ ds Q Q' xe xe' hQ hx=>ha.m _ _ _ _ _ (λ xs ps ds1=>And.imp_right (G.m _ _ _ _ _ (λ d ys=>And.imp_right (qa6 λ z=>hQ _ _)) (λ _ _ z=>z))) hx⟩
end
end LV
namespace LV
open PySem L2 PyProof.Rows
end LV
namespace LV.My
open PySem L2 Row _root_.My
variable{N i j s:Nat}{Q:DK}{R:Ds->D->Prop}{S T ks ns:List Int}{b z':Bool}{d x y:D}{ds xs ys:Ds}{e:VEnds}{f fa fb:FV}{fl:Str}{fs:List (Str×D)}{g:D->D->Option D}{k m:Int}{qc:VTT}{t u:VTS}{ta tb te:VT}{tr:VTB}{xe:XKd}{α:Type}
def _root_.LV.D.whole:D->Bool
 | .int _=>true
 | _=>false
def _root_.LV.D.within(l m:Int):D->Bool
 | .int i=>decide (l<=i)&&decide (i<=m)
 | _=>false
def _root_.LV.D.num:D->Bool:=D.within 0 1000000000000000000
def fx3(g:D->D->D->Option D):Ds->Option D
 | [x,y,z]=>g x y z
 | _=>none
theorem qP0{g:D->Option D}(h:Bj (fx1 g) ds Q xe):ds.length=1:=by
 match ds,h with
 | [_],_=>rfl
theorem qap9{g:D->D->D->Option D}(h:Bj (fx3 g) ds Q xe):ds.length=3:=by
 match ds,h with
 | [_,_,_],_=>rfl
theorem imm1{g:D->Option D}(h:Bj (fx1 g) ds Q xe):F4 (wOf [true]) 0 ds=true:=by
 match ds,h with
 | [_],_=>rfl
theorem imm3{g:D->D->D->Option D}(h:Bj (fx3 g) ds Q xe):F4 (wOf [true,true,true]) 0 ds=true:=by
 match ds,h with
 | [_,_,_],_=>rfl
theorem Hq{g:D->Option D}(h:Bj (fx1 g) ds Q xe):∃ x d,ds=[x]/\g x=some d/\Q d [x]:=by
 match ds,h with
 | [x],h=>obtain⟨d,e,q⟩:=qa7.mp h;exact⟨x,d,rfl,e,q⟩
theorem pure3{g:D->D->D->Option D}(h:Bj (fx3 g) ds Q xe):∃ x y z d,ds=[x,y,z]/\g x y z=some d/\Q d [x,y,z]:=by
 match ds,h with
 | [x,y,z],h=>obtain⟨d,e,q⟩:=qa7.mp h;exact⟨x,y,z,d,rfl,e,q⟩
theorem qe2{t:String}(h:x.kind=some t):x.known=true:=by
 cases x<;>first | rfl | cases h
def Bd(P:Ds->D->Prop):VSp:=λ ds Q _=>∃ d,P ds d/\Q d ds
theorem qe0{P:Ds->D->Prop}:Bc (Bd P):=λ _ _ _ _ _ hQ _ ⟨d,p,q⟩=>⟨d,p,hQ _ _ q⟩
def prD(ps:Pr):Ds:=ps.map λ p=>.tup [.int p.1,.int p.2]
def kvD(ps:Pr):List (Key×D):=ps.map λ p=>(.inl p.1,.int p.2)
def planD(z:Bool)(C:Addr)(n:Int)(wr:Bool)(ps:Pr):D:=.ins z C [("rooms",.int n),("wraps",.bl wr),("homes",.lst z (prD ps)),("home_numbers",.dct z (kvD ps))]
def caseD(n:Int)(wr:Bool)(ps:Pr):D:=.lst false [.int n,.bl wr,.lst false (prD ps)]
def ksD(ks:List Int):Ds:=ks.map .int
theorem qG0:∀ ps:Pr,D.imms (prD ps)=true
 | []=>rfl
 | p::r=>by show (D.imms [.int p.1,.int p.2]&&D.imms (prD r))=true;rw[qG0 r];rfl
theorem qc9:∀ ks:List Int,D.imms (ksD ks)=true
 | []=>rfl
 | k::r=>by show (true&&D.imms (ksD r))=true;rw[qc9 r];rfl
theorem qZ7:∀ ks:List Int,intsD (ksD ks)=some ks
 | []=>rfl
 | k::r=>by show (intsD (ksD r)).map (λ is=>k::is)=some (k::r);rw[qZ7 r];rfl
theorem qC7:∀ ks:List Int,flats (ksD ks)=some (ks.map V.int)
 | []=>rfl
 | k::r=>by show (Option.bind (some (V.int k)) λ v=>(flats (ksD r)).bind λ vs=>some (v::vs))=_;rw[qC7 r];rfl
theorem qe9(ks:List Int):(ksD ks).length=ks.length:=zAj _
theorem qN4:∀ ps:Pr,qJ0 (prD ps)=some (kvD ps)
 | []=>rfl
 | p::r=>by
   show (Option.bind (some ((Sum.inl p.1:Key),D.int p.2)) λ q=>(qJ0 (prD r)).bind λ ps=>some (q::ps))=_;rw[qN4 r];rfl
theorem qT1{ps:Pr}(h:¬ k∈ps.map (·.1)):Ef (kvD ps) (.inl k) (.int m)=kvD (ps++[(k,m)]):=by
 unfold Ef;rw[if_neg]
 . unfold kvD;rw[zBh];rfl
 intro e;obtain⟨q,hq,e⟩:=List.any_eq_true.mp e;obtain⟨r,hr,rfl⟩:=zAv.mp hq;have e:(Sum.inl r.1:Key)=Sum.inl k:=zAn e;exact h (zAv.mpr ⟨r,hr,Sum.inl.inj e⟩)
theorem qF1:∀(qs ps:Pr),((ps++qs).map (·.1)).Nodup->qm6 (kvD ps) (kvD qs)=kvD (ps++qs)
 | [],ps,_=>by rw[zAa];rfl
 | q::qs,ps,h=>by
   show qm6 (Ef (kvD ps) (.inl q.1) (.int q.2)) (kvD qs)=_;have hn:¬ q.1∈ps.map (·.1):=by
     rw[zBh,zAu,List.nodup_append] at h;exact λ z=>h.2.2 _ z _ zAc rfl
   rw[qT1 hn,qF1 qs (ps++[(q.1,q.2)]) (by rw[zB0];exact h),zB0];rfl
theorem qT9{ps:Pr}(h:(ps.map (·.1)).Nodup):qm6 [] (kvD ps)=kvD ps:=qF1 ps [] h
theorem qaa4{z:Bool}{ps:Pr}(h:(ps.map (·.1)).Nodup):Ga (.lst z (prD ps))=some (.dct false (kvD ps)):=by
 show (qJ0 (prD ps)).map (λ ps=>D.dct false (qm6 [] ps))=_;rw[qN4];show some (D.dct false (qm6 [] (kvD ps)))=_;rw[qT9 h]
theorem qW9(k:Int):∀ ps:Pr,Bt (kvD ps) (.inl k)=(ps.lookup k).map .int
 | []=>rfl
 | (p,m)::r=>by
   show Bt ((.inl p,.int m)::kvD r) _=_;by_cases e:p=k
   . subst e
     simp[Bt,zAp]
   have h1:Bt ((.inl p,D.int m)::kvD r) (.inl k)=Bt (kvD r) (.inl k):=by simp[Bt,zBn,e]
   rw[h1,qW9 k r]
   have:(k == p)=false:=by simpa using λ z=>e z.symm
   simp only[zAp,this]
theorem qa1{o:Option α}{a:α}{k:α->Prop}(e:o=some a)(h:k a):orF o k:=by rw[e];exact h
theorem E3{p:Prop}[Decidable p]{a b:Prop}(h:p)(x:a):if p then a else b:=by rw[if_pos h];exact x
theorem ite_f{p:Prop}[Decidable p]{a b:Prop}(h:¬ p)(x:b):if p then a else b:=by rw[if_neg h];exact x
theorem ite_b{p:Bool}{a b:Prop}(h1:p=true->a)(h2:p=false->b):if p=true then a else b:=by cases p with | true=>exact h1 rfl | false=>exact h2 rfl
theorem qW8{s:VSp}(hx:rdN i ds=some x)(h:s [x] (λ d ys=>orF (Ap [.sl i] ys (ds.set i .unk)) λ ds2=>Q d ds2) (λ e ys=>orF (Ap [.sl i] ys (ds.set i .unk)) λ ds2=>xe e ds2)):qh1 s [] (tbN i Ay) ds Q xe :=
 ⟨by rw[hx];rfl,by show orF (rdN i ds) _;rw[hx];exact h⟩
theorem qo9{f:Ds->Option D}(e:f ds=some d)(q:Q d ds):Bj f ds Q xe:=qa1 e q
theorem qu6(e:R ds d)(q:Q d ds):Bd R ds Q xe:=⟨d,e,q⟩
theorem qb6{K:Ds->List Pl->Ds->Prop}(hx:rdN i ds=some x)(h:tr ds (λ xs ps ds1=>orF (rdN i ds1) λ d=>K (d::xs) (.sl i::ps) (ds1.set i .unk)) xe):tbN i tr ds K xe:=⟨by rw[hx];rfl,h⟩
theorem qc6{K:Ds->List Pl->Ds->Prop}(hf:f ds=some y)(h:tr ds (λ xs ps ds2=>K (y::xs) (.no::ps) ds2) xe):tbV (A9 f) tr ds K xe:=qa1 (k:=λ y=>tr ds (λ xs ps ds2=>K (y::xs) (.no::ps) ds2) xe) hf h
theorem rd0{r:Ds}(h:d.known=true):rdN 0 (d::r)=some d:=qh4.mpr ⟨rfl,h⟩
theorem qV1{β:Type}(f:α->β)(l:List α):l.filterMap (λ a=>some (f a))=l.map f:=by simp
section
variable{z:Bool}{C:Addr}{n:Int}{wr:Bool}{ps:Pr}
theorem qG9{f:Str}(h:fs.lookup f=some d):D.fld C f (.ins z C fs)=some d:=by
 show (if C=C then fs.lookup f else none)=some d;rw[if_pos rfl,h]
theorem qk9:D.fld C "rooms" (planD z C n wr ps)=some (.int n):=qG9 (by rfl)
theorem qG8:D.fld C "wraps" (planD z C n wr ps)=some (.bl wr):=qG9 (by rfl)
theorem qV3:D.fld C "homes" (planD z C n wr ps)=some (.lst z (prD ps)):=qG9 (by rfl)
theorem qJ8:D.fld C "home_numbers" (planD z C n wr ps)=some (.dct z (kvD ps)):=qG9 (by rfl)
theorem qaq3{m:Str}(h:fs.lookup m=none):(D.ins z C fs).isM C m=true:=by
 show (decide (C=C)&&(fs.lookup m).isNone)=true;rw[zAh rfl,h];rfl
theorem qC3{m:Str}(h:([("rooms",.int n),("wraps",.bl wr),("homes",.lst z (prD ps)),("home_numbers",.dct z (kvD ps))]:List (Str×D)).lookup m=none):(planD z C n wr ps).isM C m=true:=qaq3 h
theorem E4{g:D->Option D}(h:fa ds=some x)(h':g x=some y):f1 g fa ds=some y:=qah5.mpr ⟨x,h,h'⟩
theorem Ad(h:fa ds=some x)(h':fb ds=some y)(h2:g x y=some d):f2 g fa fb ds=some d:=qah4.mpr ⟨x,y,h,h',h2⟩
theorem qn6:(D.ins false C fs).ownI C=some fs:=by
 show (if C=C then some fs else none)=some fs;rw[if_pos rfl]
end
theorem qaf8{C:Addr}{m:Str}{s:VSp}{p:D}(hp:rdN i ds=some p)(hm:p.isM C m=true)(h:tr ds (λ xs ps ds1=>orF (rdN i ds1) λ d=>s (d::(xs++[])) (λ r ys=>orF (Ap (.sl i::ps) ys (ds1.set i .unk)) λ ds2=>Q r ds2) (λ x ys=>orF (Ap (.sl i::ps) ys (ds1.set i .unk)) λ ds2=>xe x ds2)) xe):qy9 C m s [] i tr ds Q xe:=⟨qa1 hp hm,h⟩
theorem qU1(hx:rdN i ds=some x)(r:R [x] d)(hb:Ap [.sl i] [x] (ds.set i .unk)=some ds)(q:Q d ds):qh1 (Bd R) [] (tbN i Ay) ds Q xe:=qW8 hx (qu6 r (qa1 hb q))
theorem qap6(hx:rdN i ds=some x)(hy:rdN j ds=some y)(hx':rdN i (ds.set j .unk)=some x)(r:R [x,y] d)(hb:Ap [.sl i,.sl j] [x,y] ((ds.set j .unk).set i .unk)=some ds)(q:Q d ds):qh1 (Bd R) [] (tbN i (tbN j Ay)) ds Q xe :=
 qb6 hx (qb6 hy (qa1 hy (qa1 hx' (qu6 r (qa1 hb q)))))
theorem qap5{l:Nat}{w:D}(hx:rdN i ds=some x)(hy:rdN j ds=some y)(hw:rdN l ds=some w)(hy':rdN j (ds.set l .unk)=some y)(hx':rdN i ((ds.set l .unk).set j .unk)=some x)(r:R [x,y,w] d)(hb:Ap [.sl i,.sl j,.sl l] [x,y,w] (((ds.set l .unk).set j .unk).set i .unk)=some ds)(q:Q d ds):qh1 (Bd R) [] (tbN i (tbN j (tbN l Ay))) ds Q xe :=
 qb6 hx (qb6 hy (qb6 hw (qa1 hw (qa1 hy' (qa1 hx' (qu6 r (qa1 hb q)))))))
theorem qax8{C:Addr}{m:Str}{p:D}(hp:rdN i ds=some p)(hm:p.isM C m=true)(hx:rdN j ds=some x)(hp':rdN i (ds.set j .unk)=some p)(r:R [p,x] d)(hb:Ap [.sl i,.sl j] [p,x] ((ds.set j .unk).set i .unk)=some ds)(q:Q d ds):qy9 C m (Bd R) [] i (tbN j Ay) ds Q xe :=
 qaf8 hp hm (qb6 hx (qa1 hx (qa1 hp' (qu6 r (qa1 hb q)))))
theorem if_v{v:VTS}(h:f ds=some (.bl b))(h1:b=true->u e ds)(h2:b=false->v e ds):sIf (ttV f) u v e ds:=by
 show orF ((f ds).bind D.asB) _;rw[h];exact ite_b h1 h2
theorem qB9(e:f ds=some d)(q:Q d ds):A9 f ds Q xe:=qa1 e q
theorem qag7{w:VTS}(b:Bool)(h:f ds=some (.bl b))(h1:b=true->u { e with nx:=w e } ds)(h2:b=false->w e ds):Eo (sIf (ttV f) u En) w e ds:=if_v (u:=u) (v:=En) h h1 h2
theorem qj3{t:VT}(h:t ds e.rt e.xe):sRet t e ds:=h
theorem qi6(d:D)(h:f ds=some d)(q:e.rt d ds):sRet (A9 f) e ds:=qa1 h q
theorem As(ds':Ds)(h:ds=ds')(q:t e ds'):t e ds:=h ▸ q
theorem qag6{z:Bool}(h:rdN i ds=some (.lst z ys)):Aw (fx2 gIsi) (Au (rdN i) (Au (kC (D.ty "list")) λ _=>some [])) ds=some (.bl true):=by
 unfold Aw Au;rw[h];rfl
theorem qu7{z:Bool}(h:rdN i ds=some (.lst z ys)):Aw (fx1 Go) (Au (rdN i) λ _=>some []) ds=some (.int (ys.length:Nat)):=by
 unfold Aw Au;rw[h];rfl
theorem qc5{Q:Bool->Ds->Prop}(h:f ds=some (.bl b))(q:Q b ds):ttV f ds Q xe:=by
 show orF ((f ds).bind D.asB) _;rw[h];exact q
theorem qe8{Q:Bool->Ds->Prop}(h:f ds=some (.bl b))(q:Q (!b) ds):Dv (ttV f) ds Q xe:=qc5 (Q:=λ b ds=>Q (!b) ds) h q
theorem qs4{t u:VTT}{Q:Bool->Ds->Prop}(b c:Bool)(h1:∀ Q:Bool->Ds->Prop,Q b ds->t ds Q xe)(h2:b=false->∀ Q:Bool->Ds->Prop,Q c ds->u ds Q xe)(q:Q (b||c) ds):ttOr t u ds Q xe:=h1 _ (by
 cases b with
 | false=>exact h2 rfl _ q
 | true=>exact q)
theorem qh0{t u:VTT}{Q:Bool->Ds->Prop}(b c:Bool)(h1:∀ Q:Bool->Ds->Prop,Q b ds->t ds Q xe)(h2:b=true->∀ Q:Bool->Ds->Prop,Q c ds->u ds Q xe)(q:Q (b&&c) ds):ttAnd t u ds Q xe:=h1 _ (by
 cases b with
 | false=>exact q
 | true=>exact h2 rfl _ q)
theorem if_of(b:Bool)(h:∀ Q:Bool->Ds->Prop,Q b ds->qc ds Q e.xe)(h1:b=true->t e ds)(h2:b=false->u e ds):sIf qc t u e ds:=h _ (ite_b h1 h2)
theorem qd5{w:VTS}(b:Bool)(h:∀ Q:Bool->Ds->Prop,Q b ds->qc ds Q e.xe)(h1:b=true->t { e with nx:=w e } ds)(h2:b=false->w e ds):Eo (sIf qc t En) w e ds:=h _ (ite_b h1 h2)
theorem qas9(h:∀ k∈ks,A6 k):(ksD ks).all D.num=true:=by
 rw[zAy];intro y hy;obtain⟨k,hk,rfl⟩:=zAv.mp hy
 have:=h k hk
 show (decide (0<=k)&&decide (k<=1000000000000000000))=true;rw[zAh this.1,zAh this.2];rfl
theorem qP7{t:VT}{n:VTS}(h:∀(Q:DK)(xe:XKd),Q (.bl true) ds->t ds Q xe)(h2:e.nx ds):sIf (Dv (ttE t)) n En e ds:=h _ _ h2
theorem qaq7{n:VTS}(h:f ds=some (.bl true))(h2:u e ds):Eo (sIf (Dv (ttV f)) n En) u e ds:=qe8 (Q:=λ k ds'=>if k=true then n { e with nx:=u e } ds' else u e ds') (xe:=e.xe) h h2
theorem qg8{g:VTG}{t:VTS}{e:VEnds}(I:Nat->Ds->Prop):∀(xs:List D)(i:Nat)(ds:Ds),I i ds->(∀(j:Nat)(x:D),xs[j]? = some x->∀ ds,I (i+j) ds->∀ K:Ds->Prop,(∀ ds',I (i+j+1) ds'->K ds')->g x ds λ ds1=>t { e with nx:=K,ct:=K,bk:=e.nx } ds1)->(∀ ds',I (i+xs.length) ds'->e.nx ds')->Dt g t e xs ds
 | [],_,ds,h,_,hn=>hn ds h
 | x::xs,i,ds,h,hs,hn=>hs 0 x rfl ds h _ λ ds' h'=>qg8 I xs (i+1) ds' h' (λ j y hy ds2 h2 K hK=>hs (j+1) y hy ds2 (by rw[show i+(j+1)=i+1+j by lia];exact h2) K λ ds3 h3=>hK ds3 (by rw[show i+1+j+1=i+(j+1)+1 by lia];exact h3)) λ ds2 h2=>hn ds2 (by rw[zAr,show i+(xs.length+1)=i+1+xs.length by lia];exact h2)
theorem qaf6{n:Int}(h0:0<=n)(h1:n<=1000):Fq n=true:=by
 unfold Fq;rw[zAh (by lia),zAh (by lia)];rfl
theorem qal7{m:Nat}(h:(A5 0 m)[j]? = some x):j < m/\x=.int (j:Int):=by
 by_cases hj:j < m
 . rw[qM4 hj] at h
   cases h;exact⟨hj,by rw[Int.zero_add]⟩
 rw[List.getElem?_eq_none (by unfold A5;rw[zAj,List.length_range];lia)] at h;cases h
def Ej(p:Int->Bool)(y:D):Option D:=y.asI.bind λ k=>if p k=true then some (.int k) else none
theorem qP3{p:Int->Bool}(h:p k=true):Ej p (.int k)=some (.int k):=if_pos h
theorem qP4{p:Int->Bool}(h:p k=false):Ej p (.int k)=none:=if_neg (by rw[h];decide)
theorem qv1(p:Int->Bool):∀ ks:List Int,(ksD ks).filterMap (Ej p)=ksD (ks.filter p)
 | []=>rfl
 | k::ks=>by
   show List.filterMap (Ej p) (D.int k::ksD ks)=_;rw[zBr];cases h:p k with
   | true=>rw[qP3 h,List.filter_cons_of_pos h];show D.int k::(ksD ks).filterMap (Ej p)=_;rw[qv1 p ks];rfl
   | false=>rw[qP4 h,List.filter_cons_of_neg (by rw[h];decide),qv1 p ks]
theorem qaA1{a:Bool}(h1:fa ds=some (.bl a))(h2:fb ds=some (.bl b)):fOr fa fb ds=some (.bl (a||b)):=by
 unfold fOr;rw[h1,h2];cases a<;>rfl
theorem qd6(ds1:Ds)(h1:∀ K:Ds->Prop,K ds1->t { e with nx:=K } ds)(h2:u e ds1):Eo t u e ds:=h1 (u e) h2
theorem qc0(R:Ds->Prop)(h1:∀ K:Ds->Prop,(∀ ds1,R ds1->K ds1)->t { e with nx:=K } ds)(h2:∀ ds1,R ds1->u e ds1):Eo t u e ds:=h1 (u e) h2
theorem qab1(I:Nat->Ds->Prop)(n:Nat)(h:I n ds)(hs:∀ n ds,I n ds->∀ K:Ds->Prop,(∀ m ds',m < n->I m ds'->K ds')->qc ds (λ b ds1=>if b=true then t { e with nx:=K,ct:=K,bk:=e.nx } ds1 else e.nx ds1) e.xe):qal5 qc t e ds:=by
 have go:∀ N n ds,n < N->I n ds->whN qc t e N ds:=by
   intro N
   induction N with
   | zero=>intro n ds h;exact absurd h (Nat.not_lt_zero _)
   | succ N ih=>intro n ds hn h;exact hs n ds h _ λ m ds' hm h'=>ih m ds' (by lia) h'
 exact⟨n+1,go (n+1) n ds (zBs n) h⟩
theorem qR4{s:VSp}(hx:rdN i ds=some x)(hy:rdN j ds=some y)(hx':rdN i (ds.set j .unk)=some x)(h:s [x,y] (λ d ys=>orF (Ap [.sl i,.sl j] ys ((ds.set j .unk).set i .unk)) λ ds2=>Q d ds2) (λ e ys=>orF (Ap [.sl i,.sl j] ys ((ds.set j .unk).set i .unk)) λ ds2=>xe e ds2)):qh1 s [] (tbN i (tbN j Ay)) ds Q xe :=
 qb6 hx (qb6 hy (qa1 hy (qa1 hx' h)))
theorem qaA8{s:VSp}{l:Nat}{w:D}(hx:rdN i ds=some x)(hy:rdN j ds=some y)(hw:rdN l ds=some w)(hy':rdN j (ds.set l .unk)=some y)(hx':rdN i ((ds.set l .unk).set j .unk)=some x)(h:s [x,y,w] (λ d ys=>orF (Ap [.sl i,.sl j,.sl l] ys (((ds.set l .unk).set j .unk).set i .unk)) λ ds2=>Q d ds2) (λ e ys=>orF (Ap [.sl i,.sl j,.sl l] ys (((ds.set l .unk).set j .unk).set i .unk)) λ ds2=>xe e ds2)):qh1 s [] (tbN i (tbN j (tbN l Ay))) ds Q xe :=
 qb6 hx (qb6 hy (qb6 hw (qa1 hw (qa1 hy' (qa1 hx' h)))))
theorem qac5(h:ds[j]? = some d):ds.set j d=ds:=by
 obtain⟨hj,e⟩:=zA5.mp h;rw[<- e];exact List.set_getElem_self hj
theorem qb7(h:ds[i]? = some d)(hk:d.known=true):rdN i ds=some d:=qh4.mpr ⟨h,hk⟩
def isBag(ns:List Int)(b:D):Prop:=∃ x y z,b=bagD x y z ns/\Bg x y z ns
theorem isBag.known{b:D}(h:isBag ns b):b.known=true:=by obtain⟨x,y,z,rfl,_⟩:=h;rfl
def qt4:VSp:=λ ds Q _=>∃ b m ns,ds=[b,.int m]/\isBag ns b/\0 < m/\m < 2 ^ 200/\∀ v b',0<=v->v < m->isBag ns b'->Q (.int v) [b',.int m]
theorem qc1{b:D}(hx:ds[i]? = some b)(B:isBag ns b)(hf:f ds=some (.int m))(h0:0 < m)(h1:m < 2 ^ 200)(q:∀ v b',0<=v->v < m->isBag ns b'->Q (.int v) (ds.set i b')):qh1 qt4 [] (tbN i (tbV (A9 f) Ay)) ds Q xe:=by
 have hb:=qb7 hx B.known;refine qb6 hb (qc6 hf (qa1 hb ⟨b,m,ns,rfl,B,h0,h1,λ v b' v0 v1 B'=>?_⟩));show Q (.int v) ((ds.set i .unk).set i b');rw[List.set_set];exact q v b' v0 v1 B'
theorem qt1{b:D}(hx:ds[i]? = some b)(B:isBag ns b)(hf:f ds=some (.int m))(h0:0 < m)(h1:m < 2 ^ 200)(q:∀ v b',0<=v->v < m->isBag ns b'->Q (.int v) (ds.set i b')):qh1 qt4 [] (tbN i (tbV (By f) Ay)) ds Q xe:=by
 have hb:=qb7 hx B.known;refine qb6 hb (qa1 hf ⟨rfl,qa1 hb ⟨b,m,ns,rfl,B,h0,h1,λ v b' v0 v1 B'=>?_⟩⟩);show Q (.int v) ((ds.set i .unk).set i b');rw[List.set_set];exact q v b' v0 v1 B'
theorem qE3{b:D}(hx:ds[i]? = some b)(B:isBag ns b)(hy:ds[j]? = some (.int m))(ne:i≠j)(h0:0 < m)(h1:m < 2 ^ 200)(q:∀ v b',0<=v->v < m->isBag ns b'->Q (.int v) (ds.set i b')):qh1 qt4 [] (tbN i (tbN j Ay)) ds Q xe:=by
 have hb:=qb7 hx B.known;have hm:rdN j ds=some (.int m):=qb7 hy rfl;have hj:j < ds.length:=(zA5.mp hy).1;refine qR4 hb hm (qb7 (by rw[zB6 (Ne.symm ne)];exact hx) B.known) ⟨b,m,ns,rfl,B,h0,h1,λ v b' v0 v1 B'=>?_⟩;show Q (.int v) ((((ds.set j .unk).set i .unk).set i b').set j (.int m));have e:(((ds.set j .unk).set i .unk).set i b').set j (.int m)=ds.set i b':=by
   rw[List.set_set,List.set_comm _ _ (Ne.symm ne),List.set_set];exact qac5 (by rw[zB6 ne];exact hy)
 rw[e];exact q v b' v0 v1 B'
theorem mulR{i j:Int}(h:small j=true):Ha (.int i) (.int j)=some (.int (i * j)):=qh8 (by rw[h,Bool.or_true])
theorem Gv{i j:Int}(h:small i=true):Ha (.int i) (.int j)=some (.int (i * j)):=qh8 (by rw[h,Bool.true_or])
theorem qai5{i j:Int}(h:0 < j)(h1:j < 2 ^ 200):gDiv (.int i) (.int j)=some (.int (i / j)):=qh8 (by show (decide (0 < j)&&decide (j < 2 ^ 200))=true;rw[zAh h,zAh h1];rfl)
theorem Bs{x n:Int}(h:0 < n):Gn (.int x) (.int n)=some (.int (x % n)):=qh8 (zAh h)
theorem qz7{i:Int}(h:-(2 ^ 64) < i)(h':i < 2 ^ 64):small i=true:=by unfold small;rw[zAh h,zAh h'];rfl
theorem qv6{g:VTG}{n:Int}(h:f ds=some (.int n))(h0:Fq n=true)(k:Dt g t e (A5 0 n.toNat) ds):qac9 (Gu (tbV (A9 f) Ay)) g t e ds:=by
 show orF (f ds) _;rw[h];exact⟨h0,k⟩
theorem qV0{g:VTG}{n:Int}(h:rdN i ds=some (.int n))(h0:Fq n=true)(k:Dt g t e (A5 0 n.toNat) (ds.set i .unk)):qac9 (Gu (tbN i Ay)) g t e ds:=by
 refine⟨by rw[h];rfl,?_⟩;exact qa1 h ⟨h0,k⟩
theorem qN9{z:Bool}:gInB true (.int k) (.lst z (ksD ks))=some (.bl (!decide (k∈ks))):=by
 show ((flats (ksD ks)).bind λ ws=>some (D.bl (if true=true then !inV (.int k) ws else inV (.int k) ws)))=_;rw[qC7];show some (D.bl (!inV (.int k) (ks.map V.int)))=_;rw[qP6]
theorem qZ5{z:Bool}:gInB false (.int k) (.lst z (ksD ks))=some (.bl (decide (k∈ks))):=by
 show ((flats (ksD ks)).bind λ ws=>some (D.bl (if false=true then !inV (.int k) ws else inV (.int k) ws)))=_;rw[qC7];show some (D.bl (inV (.int k) (ks.map V.int)))=_;rw[qP6]
theorem qO9(lo:Int)(n:Nat):(A5 lo n).length=n:=by unfold A5;rw[zAj,List.length_range]
theorem qv4(e:f ds=some d)(hi:d.imm=true)(q:Q d ds):By f ds Q xe:=qa1 (a:=d) (k:=λ(d:D)=>d.imm=true/\Q d ds) e ⟨hi,q⟩
theorem qo5(h:f ds=some d)(hi:d.imm=true)(q:e.nx (ds.set i d)):Dm (By f) (gNm i) e ds:=qv4 (Q:=λ d ds'=>gNm i d ds' e.nx) h hi q
theorem qf8(h:f ds=some d)(q:e.nx (ds.set i d)):Dm (A9 f) (gNm i) e ds:=qB9 (Q:=λ d ds'=>gNm i d ds' e.nx) h q
theorem qaa2{n:Nat}{K:Ds->Prop}(hi:ds[i]? = some (.lst false ys))(hk:fb ds=some (.int k))(hn:ixN ys.length k=some n)(q:K (ds.set i (.lst false (ys.set n d)))):Ex (λ _=>some (i,[])) fb d ds K:=by
 refine qa1 (a:=(i,([]:List Nat))) rfl ?_;refine qa1 (a:=ys) (by show (A4 ds i []).bind D.own=_;rw[qC6 hi];rfl) ?_;refine qa1 (a:=k) (by rw[hk];rfl) ?_;refine qa1 hn ?_;show K (Bp ds i [] (.lst false (ys.set n d)));rw[qA0 hi];exact q
theorem qal1{n:Nat}(hf:f ds=some d)(hd:d.imm=true)(hi:ds[i]? = some (.lst false ys))(hk:fb ds=some (.int k))(hn:ixN ys.length k=some n)(q:e.nx (ds.set i (.lst false (ys.set n d)))):Dm (By f) (Ex (λ _=>some (i,[])) fb) e ds :=
 qv4 (Q:=λ d ds'=>Ex (λ _=>some (i,[])) fb d ds' e.nx) hf hd (qaa2 hi hk hn q)
theorem qX3{n:Nat}(hf:f ds=some d)(hi:ds[i]? = some (.lst false ys))(hk:fb ds=some (.int k))(hn:ixN ys.length k=some n)(q:e.nx (ds.set i (.lst false (ys.set n d)))):Dm (A9 f) (Ex (λ _=>some (i,[])) fb) e ds :=
 qB9 (Q:=λ d ds'=>Ex (λ _=>some (i,[])) fb d ds' e.nx) hf (qaa2 hi hk hn q)
theorem qd1{K:Ds->List Pl->Ds->Prop}(hf:f ds=some y)(hi:y.imm=true)(h:tr ds (λ xs ps ds2=>K (y::xs) (.no::ps) ds2) xe):tbV (By f) tr ds K xe:=qv4 (Q:=λ y ds1=>tr ds1 (λ xs ps ds2=>K (y::xs) (.no::ps) ds2) xe) hf hi h
theorem qas7(hi:ds[i]? = some (.lst false ys))(hf:f ds=some d)(hl:ys.length < big)(q:Q .non (ds.set i (.lst false (ys++[d])))):Dx Gr i (tbV (A9 f) Ay) ds Q xe:=by
 have e:(rdN i ds).bind D.own=some ys:=by rw[qb7 hi rfl];rfl
 refine⟨by rw[e];rfl,qc6 hf ?_⟩;refine qa1 (k:=λ ys=>orF (Gr ys [d]) λ z=>Q z.2 (ds.set i (.lst false z.1))) e ?_;exact qa1 (a:=(ys++[d],D.non)) (if_pos hl) q
theorem qaB3(hi:ds[i]? = some (.lst false ys))(hj:ds[j]? = some d)(hd:d.known=true)(ne:i≠j)(hl:ys.length < big)(q:Q .non ((ds.set j .unk).set i (.lst false (ys++[d])))):Dx Gr i (tbN j Ay) ds Q xe:=by
 have e:(rdN i ds).bind D.own=some ys:=by rw[qb7 hi rfl];rfl
 have e2:(rdN i (ds.set j .unk)).bind D.own=some ys:=by rw[qb7 (d:=.lst false ys) (by rw[zB6 (Ne.symm ne)];exact hi) rfl];rfl
 refine⟨by rw[e];rfl,qb6 (qb7 hj hd) ?_⟩;refine qa1 (k:=λ d=>orF ((rdN i (ds.set j .unk)).bind D.own) λ ys=>orF (Gr ys [d]) λ z=>Q z.2 ((ds.set j .unk).set i (.lst false z.1))) (qb7 hj hd) ?_;refine qa1 (k:=λ ys=>orF (Gr ys [d]) λ z=>Q z.2 ((ds.set j .unk).set i (.lst false z.1))) e2 ?_;exact qa1 (a:=(ys++[d],D.non)) (if_pos hl) q
theorem qY8{g:Ds->Ds->Option (Ds×D)}{pf:PF}{p:List Nat}{d0:D}(h1:pf ds=some (i,p))(h2:(A4 ds i p).bind D.own=some ys)(h3:ds[i]? = some d0)(h:tr (ds.set i .unk) (λ xs _ ds1=>orF (g ys xs) λ z=>Q z.2 (Bp (ds1.set i d0) i p (.lst false z.1))) xe):Ew g pf tr ds Q xe:=by
 unfold Ew;rw[h1];show orF ((A4 ds i p).bind D.own) _;rw[h2];show orF ds[i]? _;rw[h3];exact h
theorem qaB0{f:Int->Int->Int}{fe:FV}{x y:Int}(hi:ds[i]? = some (.lst false ys))(hk:fb ds=some (.int k))(k0:0<=k)(hx:ys[k.toNat]? = some (.int x))(hy:fe ds=some (.int y))(q:e.nx (ds.set i (.lst false (ys.set k.toNat (.int (f x y)))))):sAugV f (λ _=>some (i,[])) fb fe e ds:=by
 refine qa1 (a:=(i,([]:List Nat))) rfl ?_;refine qa1 (a:=ys) (by show (A4 ds i []).bind D.own=_;rw[qC6 hi];rfl) ?_;refine qa1 (a:=k) (by rw[hk];rfl) ⟨k0,?_⟩;refine qa1 (a:=x) (by rw[hx];rfl) ?_;refine qa1 (a:=y) (by rw[hy];rfl) ?_;show e.nx (Bp ds i [] _);rw[qA0 hi];exact q
theorem qh7{K:Ds->Prop}(h:K (ds.set i d)):gNm i d ds K:=h
theorem qc3{K:Ds->List Pl->Ds->Prop}(h:K [] [] ds):Ay ds K xe:=h
theorem qx4(h:te ds (λ _ ds'=>e.nx ds') e.xe):sExpr te e ds:=h
theorem qR8{Q:Bool->Ds->Prop}(h:Q true ds):qYes ds Q xe:=h
theorem qZ3:ksD S++[.int k]=ksD (S++[k]):=by unfold ksD;rw[zBh];rfl
theorem qX1{tr2:VTB}{K:Ds->List Pl->Ds->Prop}(h:tr ds (λ xs _ ds1=>xs.length<=big/\tr2 ds1 (λ ys qs ds2=>K (.tup xs::ys) (.no::qs) ds2) xe) xe):tbV (Hj tr) tr2 ds K xe:=h
theorem qf5{K:Ds->List Pl->Ds->Prop}(h:ta ds (λ x ds1=>tr ds1 (λ xs ps ds2=>K (x::xs) (.no::ps) ds2) xe) xe):tbV ta tr ds K xe:=h
theorem qm3(ha:fa ds=some x)(hb:fb ds=some y)(hx:x.imm=true)(hy:y.imm=true):Aw gTup (Au fa (Au fb λ _=>some [])) ds=some (.tup [x,y]):=by
 unfold Aw Au;rw[ha,hb];show gd (D.imms [x,y]=true/\[x,y].length<=big) (.tup [x,y])=_;refine qh8 ⟨?_,by show 2<=1000000;decide⟩;show (x.imm&&(y.imm&&true))=true;rw[hx,hy];rfl
theorem qv7{r:Nat}:Bl ys none (some (r:Int))=ys.take r:=by
 unfold Bl;have e1:HT.sIx ys.length ys.length (some ((r:Nat):Int))=min r ys.length:=HT.qM3 _ _ r;rw[e1,HT.qA6,List.drop_zero,Nat.sub_zero];by_cases h:r<=ys.length
 . rw[Nat.min_eq_left h]
 rw[Nat.min_eq_right (by lia),List.take_length,zB8 (by lia)]
theorem qM7{Q:Bool->Ds->Prop}(h:ta ds (λ x ds1=>orF ((fb ds1).bind (g x)) λ d=>orF d.asB λ b=>Q b ds1) xe):ttE (t2v g ta fb) ds Q xe:=h
theorem qg9{s:VSp}(h:tr ds (λ xs ps ds1=>s (xs++[]) (λ d ys=>orF (Ap ps ys ds1) λ ds2=>Q d ds2) (λ x ys=>orF (Ap ps ys ds1) λ ds2=>xe x ds2)) xe):qh1 s [] tr ds Q xe:=h
theorem qS4(hf:fa ds=some x)(h:tb ds (λ y ds2=>orF (g x y) λ d=>Q d ds2) xe):t2 g (A9 fa) tb ds Q xe:=qB9 (xe:=xe) (Q:=λ x ds1=>tb ds1 (λ y ds2=>orF (g x y) λ d=>Q d ds2) xe) hf h
theorem qz0(h:ta ds (λ x ds1=>orF ((fb ds1).bind (g x)) λ d=>Q d ds1) xe):t2v g ta fb ds Q xe:=h
theorem qL0(h:ta ds (λ x ds1=>orF (fb ds1) λ y=>y.imm=true/\orF (g x y) λ d=>Q d ds1) xe):G9 g ta fb ds Q xe:=h
theorem qj6(h:tr ds (λ xs _ ds1=>xs.length<=big/\Q (.lst false xs) ds1) xe):tLstV tr ds Q xe:=h
theorem qf2(h:te ds (λ d ds'=>e.nx (ds'.set i d)) e.xe):Dm te (gNm i) e ds:=h
theorem qaB4(h:ta ds (λ x ds1=>orF x.asB λ k=>if k=true then tb ds1 Q xe else Q (.bl false) ds1) xe):Hg ta tb ds Q xe:=h
theorem qZ1{C:Addr}{s:VSp}(h:tr ds (λ xs ps ds1=>s (.ins false C []::(xs++[])) (λ d ys=>d.isN=some true/\orF ys.head? λ self=>orF (Ap ps ys.tail ds1) λ ds2=>Q self ds2) (λ x ys=>orF (Ap ps ys.tail ds1) λ ds2=>xe x ds2)) xe):qK9 C s [] tr ds Q xe:=h
theorem qO8{z:Bool}(h:rdN i ds=some (.lst z (ksD S)):=by rfl):Aw (fx1 He) (Au (rdN i) λ _=>some []) ds=some (.lst false (ksD S)):=by
 unfold Aw Au;rw[h];exact qh8 (qc9 S)
theorem eq_ks:∀ ks ls:List Int,Eb (eqN 20) (ksD ks) (ksD ls)=some (decide (ks=ls))
 | [],[]=>rfl
 | [],_::_=>rfl
 | _::_,[]=>rfl
 | k::ks,l::ls=>by
   show ((some (k == l)).bind λ a=>(Eb (eqN 20) (ksD ks) (ksD ls)).bind λ b=>some (a&&b))=_;rw[eq_ks ks ls];show some ((k == l)&&decide (ks=ls))=_;by_cases h:k=l
   . subst h;simp
   simp[h]
theorem qar0{z:Bool}(ks ls:List Int):gNe (.lst z (ksD ks)) (.lst z' (ksD ls))=some (.bl (!decide (ks=ls))):=by
 show (Eb (eqN 20) (ksD ks) (ksD ls)).map (λ b=>D.bl (!b))=_;rw[eq_ks];rfl
theorem qb4{K:Ds->List Pl->Ds->Prop}(hf:f ds=some y)(h:tr ds (λ xs ps ds2=>K (y.fz::xs) (.no::ps) ds2) xe):tbV (tFzV (A9 f)) tr ds K xe:=qa1 (k:=λ(y:D)=>tr ds (λ xs ps ds2=>K (y.fz::xs) (.no::ps) ds2) xe) hf h
theorem qm4{K:Ds->List Pl->Ds->Prop}(hf:f ds=some y)(hi:y.imm=true)(h:tr ds (λ xs ps ds2=>K (y.fz::xs) (.no::ps) ds2) xe):tbV (tFzV (By f)) tr ds K xe:=qv4 (xe:=xe) (Q:=λ(y:D) ds1=>tr ds1 (λ xs ps ds2=>K (y.fz::xs) (.no::ps) ds2) xe) hf hi h
theorem fz_to(h:te ds (λ d ds1=>Q d.fz ds1) xe):tFzV te ds Q xe:=h
def okN:Nat->D->Bool
 | n+1,.lst _ xs=>xs.all (okN n)
 | n+1,.tup xs=>xs.all (okN n)
 | _,x=>x.d0||x.flat.isSome
theorem qi3{f:D->D->Option Bool}:∀{xs:List D},(∀ x∈xs,f x x=some true)->Eb f xs xs=some true
 | [],_=>rfl
 | x::xs,h=>by
   show ((f x x).bind λ a=>(Eb f xs xs).bind λ b=>some (a&&b))=_;rw[h x zAc,qi3 λ y hy=>h y (zA9 _ hy)];rfl
theorem qC9(h:(x.d0||x.flat.isSome)=true):eqZ x x=some true:=by
 unfold eqZ;split
 . rfl
 rename_i hn
 have hd:x.d0=false:=by
   cases e:x.d0 with
   | false=>rfl
   | true=>rw[e] at hn;exact absurd rfl hn
 rw[hd,Bool.false_or] at h;cases x with
 | non=>rfl
 | bl b=>show some (eqV (.bl b) (.bl b))=_;rw[qp8 rfl]
 | int i=>show some (eqV (.int i) (.int i))=_;rw[qp8 rfl]
 | str i=>show some (eqV (.str i) (.str i))=_;rw[qp8 rfl]
 | _=>cases h
theorem qj7:∀{n:Nat}{x:D},okN n x=true->eqN n x x=some true
 | 0,x,h=>by
   rw[qD0];refine qC9 ?_;cases x<;>exact h
 | n+1,x,h=>by
   cases x with
   | lst z xs=>exact qi3 λ y hy=>qj7 (zAy.mp h y hy)
   | tup xs=>exact qi3 λ y hy=>qj7 (zAy.mp h y hy)
   | _=>exact qC9 h
theorem qQ2(h:okN 21 x=true):gNe x x=some (.bl false):=by
 have e:eqT x x=some true:=by
   cases x with
   | lst z xs=>exact qi3 λ y hy=>qj7 (zAy.mp h y hy)
   | tup xs=>exact qi3 λ y hy=>qj7 (zAy.mp h y hy)
   | _=>exact qC9 h
 unfold gNe;rw[e];rfl
theorem qaA7{src:List (Option Nat)}{g:VTG}{qf:VTT}(h:tr ds (λ xs _ ds1=>orF (Hk xs) λ j=>Fq j=true/\E2 src g qf te (A5 0 j.toNat) ds1 Q) xe):Hm src (Gu tr) g qf te ds Q xe:=h
theorem qH8{g:VTG}{qf:VTT}{K:Ds->Ds->Prop}{acc ι:Ds}(h:g x ι λ ι1=>qf ι1 (λ b ι2=>if b=true then te ι2 (λ d ι3=>acc.length < big/\B8 g qf te K xs (acc++[d]) ι3) (λ _ _=>False) else B8 g qf te K xs acc ι2) (λ _ _=>False)):B8 g qf te K (x::xs) acc ι:=h
theorem qay1(h:(ksD ks)[i]? = some y):∃ z,ks[i]? = some z/\y=.int z:=by
 unfold ksD at h;rw[zBe] at h;cases e:ks[i]? with
 | none=>rw[e] at h;cases h
 | some z=>rw[e] at h;exact⟨z,rfl,(Option.some.inj h).symm⟩
theorem qv5:∀ ks:List Int,D.fzs (ksD ks)=ksD ks
 | []=>rfl
 | k::r=>congrArg (D.int k::·) (qv5 r)
theorem qQ3:∀ ps:Pr,D.fzs (prD ps)=prD ps
 | []=>rfl
 | p::r=>congrArg (D.tup [.int p.1,.int p.2]::·) (qQ3 r)
theorem qar1:∀ ps:Pr,D.fzk (kvD ps)=kvD ps
 | []=>rfl
 | p::r=>congrArg ((Sum.inl p.1,D.int p.2)::·) (qar1 r)
theorem qk8{z:Bool}{C:Addr}{n:Int}{wr:Bool}{ps:Pr}:(planD z C n wr ps).fz=planD true C n wr ps:=by
 show D.ins true C [("rooms",.int n),("wraps",.bl wr),("homes",.lst true (D.fzs (prD ps))),("home_numbers",.dct true (D.fzk (kvD ps)))]=_;rw[qQ3,qar1];rfl
theorem Bk{z:Bool}(ks:List Int):(D.lst z (ksD ks)).fz=.lst true (ksD ks):=congrArg (D.lst true) (qv5 ks)
theorem qM9:∀{ps qs:Pr},prD ps=prD qs->ps=qs
 | [],[],_=>rfl
 | [],_::_,h=>by cases h
 | _::_,[],h=>by cases h
 | (x,y)::ps,(x',y')::qs,h=>by
   have h:D.tup [.int x,.int y]::prD ps=D.tup [.int x',.int y']::prD qs:=h;obtain⟨h1,h2⟩:=List.cons.inj h;cases h1;rw[qM9 h2]
theorem qah1{z:Bool}(S:List Int):gNe (.lst z (ksD S)) (.lst z' (ksD S))=some (.bl false):=by
 rw[qar0,zAh rfl];rfl
theorem qQ9{z:Bool}{lo hi:FO}{l h:Option Int}(hx:rdN i ds=some (.lst z (ksD S)))(h1:lo ds=some l)(h2:hi ds=some h)(e:Bl (ksD S) l h=ksD T):fsl (rdN i) lo hi ds=some (.lst false (ksD T)):=by
 unfold fsl;rw[hx,Option.bind_some,h1,Option.bind_some,h2,Option.bind_some,if_pos (show noT (D.lst z (ksD S))=true from rfl)];show gd (D.imms (Bl (ksD S) l h)=true) (D.lst false (Bl (ksD S) l h))=_;rw[e];exact qh8 (qc9 T)
theorem qas0(S:List Int):Bl (ksD S) none (some 1)=ksD (S.take 1):=by
 rw[show (some (1:Int))=some ((1:Nat):Int) from rfl,qv7];unfold ksD;rw[List.map_take]
theorem qat2{z:Bool}{A B:List Int}(h:A.length+B.length<=1000):gAdd (.lst z (ksD A)) (.lst z' (ksD B))=some (.lst false (ksD (A++B))):=by
 show gd _ (D.lst false (ksD A++ksD B))=_;rw[show ksD (A++B)=ksD A++ksD B from zBh];exact qh8 ⟨qc9 A,qc9 B,by rw[qe9,qe9];unfold big;lia⟩
theorem Gf{gc:Ds->Option D}(h:tr ds (λ xs _ ds1=>orF (gc xs) λ d=>Q d ds1) xe):tcO gc (Gu tr) ds Q xe:=h
theorem qF8{C:Addr}(h:x.isC C=some d):x.known=true:=by
 cases x with
 | unk=>cases h
 | hole v=>cases h
 | _=>rfl
theorem qal8{C:Addr}{n:Int}(h:f ds=some (.bl false))(q:e.xe ⟨C,[(fl,.int n)]⟩ ds):Eo (sIf (Dv (ttV f)) (qo8 C fl (A9 (kC (.int n)))) En) u e ds :=
 qe8 (Q:=λ k ds'=>if k=true then qo8 C fl (A9 (kC (.int n))) { e with nx:=u e } ds' else u e ds') (xe:=e.xe) h ⟨rfl,q⟩
theorem qM6{t:VT}{C:Addr}{n:Int}(h:∀(Q:DK)(xe:XKd),Q (.bl false) ds->t ds Q xe)(q:e.xe ⟨C,[(fl,.int n)]⟩ ds):sIf (Dv (ttE t)) (qo8 C fl (A9 (kC (.int n)))) En e ds:=h _ _ ⟨rfl,q⟩
theorem qG3{t:VT}{C:Addr}{n:Int}(b:Bool)(h:∀(Q:DK)(xe:XKd),Q (.bl b) ds->t ds Q xe)(h1:b=true->u e ds)(h2:b=false->e.xe ⟨C,[(fl,.int n)]⟩ ds):Eo (sIf (Dv (ttE t)) (qo8 C fl (A9 (kC (.int n)))) En) u e ds:=h _ _ (by
 cases b with
 | true=>exact h1 rfl
 | false=>exact⟨rfl,h2 rfl⟩)
theorem qaq8{C:Addr}{n:Int}(b:Bool)(h:f ds=some (.bl b))(h1:b=true->u e ds)(h2:b=false->e.xe ⟨C,[(fl,.int n)]⟩ ds):Eo (sIf (Dv (ttV f)) (qo8 C fl (A9 (kC (.int n)))) En) u e ds :=
 qe8 (Q:=λ k ds'=>if k=true then qo8 C fl (A9 (kC (.int n))) { e with nx:=u e } ds' else u e ds') (xe:=e.xe) h (by
   cases b with
   | true=>exact h1 rfl
   | false=>exact⟨rfl,h2 rfl⟩)
theorem qk0{l n:Int}(h1:l<=n)(h2:n<=m):(D.int n).within l m=true:=by
 show (decide (l<=n)&&decide (n<=m))=true;rw[zAh h1,zAh h2];rfl
theorem qat7(h:tr ds (λ xs _ ds1=>xs.length<=big/\Q (.tup xs) ds1) xe):Hj tr ds Q xe:=h
theorem qat8{hd:XH}(h:t { e with nx:=u e,xe:=λ x _=>hd x { e with nx:=u e } (List.replicate ds.length .unk) } ds):Eo (Hn t hd) u e ds:=h
theorem qac0(h:ta ds (λ x ds1=>tb ds1 (λ y ds2=>orF (g x y) λ d=>Q d ds2) xe) xe):t2 g ta tb ds Q xe:=h
theorem qv8(h:rdN i ds=some d)(q:Q d.fz (ds.set i d.fz)):tFz i ds Q xe:=qa1 h q
def Ax(N s t:Nat):List Int:=(List.range (t+1)).map λ i=>((rot N s i:Nat):Int)
theorem qR9{t:Nat}:Ax N s t++[((rot N s (t+1):Nat):Int)]=Ax N s (t+1):=by
 unfold Ax;rw[List.range_succ (n:=t+1),zBh];rfl
theorem qK2{t b:Nat}(hs:s < N)(hb:b < N)(ht:t < N):((b:Nat):Int)∈Ax N s t↔dist N s b<=t:=by
 unfold Ax;rw[zAv];constructor
 . rintro⟨i,hi,e⟩
   have hi:=List.mem_range.mp hi;have e:rot N s i=b:=by lia
   rw[<- e,qQ8 hs (by lia)];lia
 intro h;exact⟨dist N s b,List.mem_range.mpr (by lia),by rw[qA7 hs hb]⟩
theorem qy5{t:Nat}:(Ax N s t).length=t+1:=by unfold Ax;rw[zAj,List.length_range]
theorem qD9{t:Nat}{z:Bool}:gIx (.lst z (ksD (Ax N s t))) (.int (-1))=some (.int (rot N s t:Nat)):=by
 have e:ksD (Ax N s t)=ksD ((List.range t).map λ i=>((rot N s i:Nat):Int))++[.int (rot N s t:Nat)]:=by
   unfold Ax ksD;rw[List.range_succ,zBh,zBh];rfl
 rw[e];exact qaj4 _ _
local macro_rules | `(tactic| walk_at "s")=>`(tactic| exact⟨rfl,rfl,rfl,by decide +kernel,rfl,by decide +kernel,by decide +kernel⟩)
def top(i:Nat):Stmt:=PySem.Challenge.pw_homeward_k52_shows.main.body.getD i (.Pass ⟨0,0,0,0⟩)
abbrev qX6:Stmt:=top 0
abbrev qj2:Stmt:=qs8 (top 3) 0
abbrev qo7:Stmt:=top 9
abbrev qe4:Stmt:=top 10
abbrev ql5:Stmt:=top 11
abbrev qj1:Stmt:=top 12
abbrev qh3:Stmt:=top 13
abbrev qf0:Stmt:=top 14
abbrev qg4:Stmt:=top 15
abbrev ql6:Stmt:=qs8 (top 16) 0
abbrev qg6:Stmt:=qs8 (top 16) 2
abbrev qf6:Stmt:=qs8 (top 16) 3
abbrev ql7:Stmt:=qs8 (top 16) 4
abbrev qw6:Stmt:=qs8 (top 16) 5
abbrev qg3:Stmt:=top 18
abbrev ql4:Stmt:=top 21
abbrev qg2:Stmt:=top 22
abbrev qg5:Stmt:=top 23
abbrev ql3:Stmt:=top 24
abbrev qac8:Stmt:=top 26
abbrev qL8:Stmt:=top 27
abbrev qM2:Stmt:=top 28
abbrev qac7:Stmt:=top 29
abbrev qM0:Stmt:=top 30
abbrev qM1:Stmt:=top 31
abbrev qt9:Stmt:=top 32
abbrev qL9:Stmt:=top 33
abbrev qu0:Stmt:=top 34
abbrev qL7:Stmt:=top 35
abbrev ql8:Stmt:=top 36
abbrev Fv:Stmt:=top 37
set_option genInjectivity false in
set_option genSizeOf false in
structure Adr where
 f0:Addr
 d0:FuncData
 f1:Addr
 d1:FuncData
 f2:Addr
 d2:FuncData
 f3:Addr
 d3:FuncData
 f4:Addr
 d4:FuncData
 f5:Addr
 d5:FuncData
 f6:Addr
 d6:FuncData
 f7:Addr
 d7:FuncData
 f8:Addr
 d8:FuncData
 f9:Addr
 d9:FuncData
 f10:Addr
 d10:FuncData
 f11:Addr
 d11:FuncData
 f12:Addr
 d12:FuncData
 f13:Addr
 d13:FuncData
 f14:Addr
 d14:FuncData
 f15:Addr
 d15:FuncData
 f16:Addr
 d16:FuncData
 f17:Addr
 d17:FuncData
 f18:Addr
 d18:FuncData
 f19:Addr
 d19:FuncData
 f20:Addr
 d20:FuncData
 f21:Addr
 d21:FuncData
 f22:Addr
 d22:FuncData
 f23:Addr
 d23:FuncData
 f24:Addr
 d24:FuncData
 f25:Addr
 d25:FuncData
 f26:Addr
 d26:FuncData
 f27:Addr
 d27:FuncData
 f28:Addr
 d28:FuncData
 f29:Addr
 d29:FuncData
 f30:Addr
 d30:FuncData
 Ca:Tok
 Cf:Tok
 Ce:Tok
 Ch:Tok
 Ci:Tok
 C3:Addr
 C7:Addr
 C6:Addr
structure Txt(K:PySem.W.Frag)(mg:Str->Option Value)(a:Adr):Prop where
 d0:Df K mg "_wall" "_wall" qX6 a.f0 a.d0 ["k"]
 d1:Md K a.C6 "__init__" "Wrong.__init__" qj2 a.f1 a.d1 ["self", "at"]
 d2:Df K mg "is_whole" "is_whole" qo7 a.f2 a.d2 ["thing"]
 d3:Df K mg "is_whole_within" "is_whole_within" qe4 a.f3 a.d3 ["thing", "least", "most"]
 d4:Df K mg "is_number" "is_number" ql5 a.f4 a.d4 ["thing"]
 d5:Df K mg "are_parted" "are_parted" qj1 a.f5 a.d5 ["numbers"]
 d6:Df K mg "is_key_list" "is_key_list" qh3 a.f6 a.d6 ["thing"]
 d7:Df K mg "is_number_pair" "is_number_pair" qf0 a.f7 a.d7 ["thing"]
 d8:Df K mg "is_home_list" "is_home_list" qg4 a.f8 a.d8 ["thing"]
 d9:Md K a.C3 "__init__" "Plan.__init__" ql6 a.f9 a.d9 ["self", "rooms", "wraps", "homes"]
 d10:Md K a.C3 "is_room" "Plan.is_room" qg6 a.f10 a.d10 ["self", "thing"]
 d11:Md K a.C3 "rooms_on" "Plan.rooms_on" qf6 a.f11 a.d11 ["self", "first", "many"]
 d12:Md K a.C3 "home" "Plan.home" ql7 a.f12 a.d12 ["self", "key"]
 d13:Md K a.C3 "far" "Plan.far" qw6 a.f13 a.d13 ["self", "key", "room"]
 d14:Df K mg "refuse_wrong" "refuse_wrong" qg3 a.f14 a.d14 ["plan", "keys"]
 d15:Df K mg "is_window" "is_window" ql4 a.f15 a.d15 ["plan", "thing"]
 d16:Df K mg "window_rooms" "window_rooms" qg2 a.f16 a.d16 ["plan", "window"]
 d17:Df K mg "is_far_shown" "is_far_shown" qg5 a.f17 a.d17 ["plan", "keys", "far", "window"]
 d18:Df K mg "shows_far" "shows_far" ql3 a.f18 a.d18 ["plan", "keys", "far", "window"]
 d19:Df K mg "_law_bag" "_law_bag" qac8 a.f19 a.d19 ["_law_script"]
 d20:Df K mg "_law_take" "_law_take" qL8 a.f20 a.d20 ["_law_bag_here", "_law_many"]
 d21:Df K mg "_law_case" "_law_case" qM2 a.f21 a.d21 ["_law_bag_here", "_law_most"]
 d22:Df K mg "_law_key" "_law_key" qac7 a.f22 a.d22 ["_law_bag_here", "_law_rooms", "_law_home_here"]
 d23:Df K mg "_law_keys" "_law_keys" qM0 a.f23 a.d23 ["_law_bag_here", "_law_case_here", "_law_many"]
 d24:Df K mg "_law_home" "_law_home" qM1 a.f24 a.d24 ["_law_case_here", "_law_key_here"]
 d25:Df K mg "_law_window" "_law_window" qt9 a.f25 a.d25 ["_law_bag_here", "_law_case_here"]
 d26:Df K mg "_law_more" "_law_more" qL9 a.f26 a.d26 ["_law_case_here", "_law_keys_here", "_law_window_here"]
 d27:Df K mg "_law_spoilt" "_law_spoilt" qu0 a.f27 a.d27 ["_law_bag_here", "_law_case_here", "_law_which", "_law_thing"]
 d28:Df K mg "_law_told" "_law_told" qL7 a.f28 a.d28 ["_law_handed"]
 d29:Df K mg "_law_by_turns" "_law_by_turns" ql8 a.f29 a.d29 ["_law_bag_here", "_law_case_here", "_law_plan", "_law_keys_here"]
 d30:Df K mg "law" "law" Fv a.f30 a.d30 ["_law_script"]
 Cq:mg "MOST_NUMBER" = some (.int 1000000000000000000 a.Ca)
 Ct:mg "MOST_ROOMS" = some (.int 64 a.Cf)
 Cr:mg "MOST_HOMES" = some (.int 64 a.Ce)
 Cw:mg "MOST_KEYS" = some (.int 100 a.Ch)
 D3:mg "MOST_FAR" = some (.int 100 a.Ci)
 Di:mg "abs" = none
 De:mg "all" = none
 D0:mg "bool" = none
 D7:mg "dict" = none
 Dg:mg "int" = none
 C4:mg "isinstance" = none
 Cm:mg "len" = none
 Cn:mg "list" = none
 D6:mg "max" = none
 D9:mg "min" = none
 Ck:mg "range" = none
 Dj:mg "set" = none
 Cs:mg "tuple" = none
 C5:Cl K mg "Plan" a.C3
 D5:Mk K a.C3 a.f9
 C9:qe3 K a.C3 "rooms"
 Cj:qe3 K a.C3 "wraps"
 Co:qe3 K a.C3 "homes"
 Cc:qe3 K a.C3 "home_numbers"
 Db:IsO K a.C3
 Cy:mg "HomeError" = some (.ref a.C7)
 Cu:Exc K a.C7
 Dc:W.kitOne K (.ref a.C7) (.type "ValueError")=some true
 Cv:W.mroIn K a.C7 (.ref a.C7)=some true
 D4:W.mroIn K a.C7 (.ref a.C6)=some false
 Cd:mg "Wrong" = some (.ref a.C6)
 D8:Exc K a.C6
 Dh:W.kitOne K (.ref a.C6) (.type "ValueError")=some true
 Cb:MkE K a.C6 a.f1
 Cg:qe3 K a.C6 "at"
 Cp:IsX K a.C6
 Cz:W.kitOne K (.ref a.C6) (.ref a.C7)=some true
 C8:W.mroIn K a.C6 (.ref a.C7)=some true
 Da:W.mroIn K a.C6 (.ref a.C6)=some true
section
variable{P:Program}{w:World}{K:PySem.W.Frag}{mg:Str->Option Value}{base:Heap}{a:Adr}
theorem qw5:qb1 ["self", "at"] ["self", "at"] (qa4 qj2):=by walk_at "s"
theorem qc4(T:Txt K mg a):Bh P w K mg base CX0 1 a.f1 a.d1 ["self", "at"] (spX1 a.C6 "at"):=by
 refine T.d1.F.ok qw5 (λ vs H Q E h=>?_) (λ cdv A outer s H vs Q E hr h=>?_)
 . obtain⟨e,v,rfl,_⟩:=h
   rfl
 obtain⟨e,v,rfl,he,k⟩:=h;exact⟨_,(qw7 (qam6 (pv 0) (pv 1))),_,rfl,_,rfl,e,a.C6,rfl,T.D8,T.Cg,.inl ⟨he,λ dx h1 h2=>k dx h1 h2⟩⟩
theorem qI9:qb1 ["thing"] ["thing"] (qa4 qo7):=by walk_at "s"
def qI8:VSp:=Bj (fx1 λ x=>x.kind.map λ _=>.bl x.whole)
theorem qJ1(T:Txt K mg a):VFn P w K mg base 1 a.f2 a.d2 ["thing"] qI8:=by
 refine VFn.mk' T.d2.F qI9 (wOf [true]) qn8 (λ _ _ _=>qP0) (λ _ _ _=>imm1) (λ cdv A outer sh H E av hr=>⟨_,(Ak (Aq (qa3 (vand (vbi qi0 qx8.ops T.C4 (qa0 (vnm 0) (qa0 (vty "int" T.Dg) qa5 rfl) rfl)) (vone (vnot (vbi qi0 qx8.ops T.C4 (qa0 (vnm 0) (qa0 (vty "bool" T.D0) qa5 rfl) rfl)))))))),λ ds Q xe h=>?_⟩);obtain⟨x,d,rfl,e,q⟩:=Hq h;obtain⟨t,ht,rfl⟩:=zAk.mp e;cases x<;>first | exact q | cases ht
theorem ql1:qb1 ["thing", "least", "most"] ["thing", "least", "most"] (qa4 qe4):=by walk_at "s"
def ql0:VSp:=Bj (fx3 λ x l m=>x.kind.bind λ _=>l.asI.bind λ i=>m.asI.map λ j=>.bl (x.within i j))
theorem qc7(T:Txt K mg a):VFn P w K mg base 2 a.f3 a.d3 ["thing", "least", "most"] ql0:=by
 refine VFn.mk' T.d3.F ql1 (wOf [true,true,true]) qn8 (λ _ _ _=>qap9) (λ _ _ _=>imm3) (λ cdv A outer sh H E av hr=>⟨_,(Ak (Aq (Fy (Ah T.d2 (qJ1 T) qa2 (rm hr) (vaN 0 Ab)) (Hh (qa3 (vch Fb Fj Fb Fj (vnm 1) (vnm 0) (vnm 2))))))),λ ds Q xe h=>?_⟩);obtain⟨x,l,m,d,rfl,e,q⟩:=pure3 h;obtain⟨t,ht,e⟩:=zA1.mp e;obtain⟨i,hi,e⟩:=zA1.mp e;obtain⟨j,hj,rfl⟩:=zAk.mp e;cases l<;>cases hi
 cases m<;>cases hj
 cases x with
 | int n =>
   refine⟨rfl,?_⟩;show orF (f3 gLe gLe (rdN 1) (rdN 0) (rdN 2) [.int n,.int i,.int j]) _;have e3:f3 gLe gLe (rdN 1) (rdN 0) (rdN 2) [.int n,.int i,.int j]=some (.bl (decide (i<=n)&&decide (n<=j))):=by
     show (if decide (i<=n)=true then some (D.bl (decide (n<=j))) else some (.bl false))=_;cases decide (i<=n)<;>rfl
   rw[e3];exact q
 | _=>first | exact⟨rfl,q⟩ | cases ht
theorem qw4:qb1 ["numbers"] ["numbers"] (qa4 qj1):=by walk_at "s"
def qw2:VSp:=Bd λ ds d=>∃ z ks,ds=[.lst z (ksD ks)]/\ks.length<=1000/\d=.bl (decide ks.Nodup)
theorem qm5(T:Txt K mg a):VFn P w K mg base 1 a.f5 a.d5 ["numbers"] qw2:=by
 refine VFn.mk2 T.d5.F qw4 (wOf [true]) qe0 (λ ds Q xe h=>by obtain⟨d,⟨z,ks,e,_⟩,_⟩:=h;rw[e];exact⟨rfl,rfl⟩) (λ cdv A outer sh H E av hr=>⟨_,(Ak (Aq (qa3 (v2 (Bb (qf9 hr.u64) (qb8 _)) A8 (vlenS T.Cm T.Dj (vnm 0)) (vbi qq1 qq0.ops T.Cm (qa0 (vnm 0) qa5 rfl)))))),λ ds Q xe h=>?_⟩);obtain⟨d,⟨z,ks,rfl,hl,rfl⟩,q⟩:=h;have e1:f1 Gd (rdN 0) [.lst z (ksD ks)]=some (.int (qh9 ks)):=by
   show ((intsD (ksD ks)).bind λ ns=>gd (ns.length<=1000) (.int (qh9 ns)))=_;rw[qZ7];exact qh8 hl
 have e2:f2 gEq (f1 Gd (rdN 0)) (Aw (fx1 Go) (Au (rdN 0) λ x=>some [])) [.lst z (ksD ks)]=some (.bl (decide ks.Nodup)):=by
   show ((f1 Gd (rdN 0) [.lst z (ksD ks)]).bind λ x=>gEq x (.int (ksD ks).length))=_;rw[e1,qe9];show some (D.bl ((qh9 ks:Int) == (ks.length:Int)))=_
   have:=qD1 ks
   by_cases h:ks.Nodup
   . rw[zAh h,this.mpr h,zBa]
   have hn:¬ ((qh9 ks:Int)=(ks.length:Int)):=λ z=>h (this.mp (by exact_mod_cast z))
   rw[zAq h];simp[hn]
 exact qa1 e2 q
theorem qA3:qb1 ["thing"] ["thing"] (qa4 ql5):=by walk_at "s"
def qi9:VSp:=Bj (fx1 λ x=>x.kind.map λ _=>.bl x.num)
theorem qg7(T:Txt K mg a):VFn P w K mg base 3 a.f4 a.d4 ["thing"] qi9:=by
 refine VFn.mk' T.d4.F qA3 (wOf [true]) qn8 (λ _ _ _=>qP0) (λ _ _ _=>imm1) (λ cdv A outer sh H E av hr=>⟨_,(Ak (Aq (Ah T.d3 (qc7 T) qa2 (rm hr) (vaN 0 (vaV (qa3 Aa) (vaV (qa3 (vgi T.Cq)) Ab)))))),λ ds Q xe h=>?_⟩);obtain⟨x,d,rfl,e,q⟩:=Hq h;obtain⟨t,ht,rfl⟩:=zAk.mp e;cases x<;>first | exact⟨rfl,q⟩ | cases ht
theorem qn1:qb1 ["thing"] ["thing"] (qa4 qf0):=by walk_at "s"
def _root_.LV.D.pairB:D->Bool
 | .tup [x,y]=>x.num&&y.num
 | _=>false
def _root_.LV.D.kinded:D->Bool
 | .tup ds=>(ds.all λ d=>d.kind.isSome&&d.imm)&&decide (ds.length<=1000)
 | _=>true
def qn0:VSp:=Bj (fx1 λ x=>if x.kinded=true then x.kind.map λ _=>.bl x.pairB else none)
theorem qn3(T:Txt K mg a):VFn P w K mg base 4 a.f7 a.d7 ["thing"] qn0:=by
 refine VFn.mk' T.d7.F qn1 (wOf [true]) qn8 (λ _ _ _=>qP0) (λ _ _ _=>imm1) (λ cdv A outer sh H E av hr=>⟨_,(Ak (Aq (Fy (qa3 (vbi qi0 qx8.ops T.C4 (qa0 (vnm 0) (qa0 (vty "tuple" T.Cs) qa5 rfl) rfl))) (Fy (qa3 (v2 (Bb (qf9 hr.u64) (qb8 _)) A8 (vbi qq1 qq0.ops T.Cm (qa0 (vnm 0) qa5 rfl)) Aa)) (Fy (Ah T.d4 (qg7 T) qa2 (rm hr) (vaV (qb9 (v2 (Al qa8) Af (vnm 0) Aa)) Ab)) (Hh (Ah T.d4 (qg7 T) qa2 (rm hr) (vaV (qb9 (v2 (Al qa8) Af (vnm 0) Aa)) Ab)))))))),λ ds Q xe h=>?_⟩);obtain⟨x,d,rfl,e,q⟩:=Hq h;cases x with
 | tup ds =>
   by_cases hk:(D.tup ds).kinded=true
   . rw[if_pos hk] at e
     cases e;have hk:=zA3.mp hk;have ha:=zAy.mp hk.1
     match ds with
     | []=>exact q
     | [_]=>exact q
     | [x,y] =>
       have hx:=zA3.mp (ha x (by simp));have hy:=zA3.mp (ha y (by simp));obtain⟨t,ht⟩:=zB3.mp hx.1;obtain⟨u,hu⟩:=zB3.mp hy.1;refine⟨hx.2,?_⟩;refine qa1 (a:=D.bl x.num) (by show (x.kind.map _)=_;rw[ht];rfl) ?_;refine ite_b (λ hn=>⟨hy.2,qa1 (a:=D.bl y.num) (by show (y.kind.map _)=_;rw[hu];rfl) ?_⟩) λ hn=>?_
       . have:(D.tup [x,y]).pairB=y.num:=by show (x.num&&y.num)=_;rw[hn];rfl
         rw[this] at q;exact q
       have:(D.tup [x,y]).pairB=false:=by show (x.num&&y.num)=_;rw[hn];rfl
       rw[this] at q;exact q
     | x::y::z::r =>
       have e2:f2 gEq (Aw (fx1 Go) (Au (rdN 0) λ x=>some [])) (kC (D.int 2)) [.tup (x::y::z::r)]=some (.bl false):=by
         show some (D.bl (((x::y::z::r).length:Int) == 2))=_
         have:(((x::y::z::r).length:Int) == 2)=false:=by
           have:((x::y::z::r).length:Int)≠2:=by simp;lia
           simpa using this
         rw[this]
       have:orF (f2 gEq (Aw (fx1 Go) (Au (rdN 0) λ x=>some [])) (kC (D.int 2)) [.tup (x::y::z::r)]) (λ d=>orF d.asB λ k=>if k=true then Hg (qh1 qi9 [] (tbV (By (f2 gIx (rdN 0) (kC (D.int 0)))) Ay)) (qh1 qi9 [] (tbV (By (f2 gIx (rdN 0) (kC (D.int 1)))) Ay)) [.tup (x::y::z::r)] (λ d ds=>Q d (fin (wOf [true]) 0 [.tup (x::y::z::r)] ds)) (λ x1 ds=>xe x1 (fin (wOf [true]) 0 [.tup (x::y::z::r)] ds)) else Q (.bl false) [.tup (x::y::z::r)]):=by
         rw[e2];exact q
       exact this
   rw[if_neg hk] at e;cases e
 | _=>first | (cases e;exact q) | cases e
theorem qq9:qb1 ["thing"] ["thing"] (qa4 qg4):=by walk_at "s"
def Fw:D->Option Int
 | .tup (.int k::_)=>some k
 | _=>none
def _root_.LV.D.homesB:D->Bool
 | .lst _ ys=>decide (ys.length<=64)&&(ys.all D.pairB&&decide (ys.filterMap Fw).Nodup)
 | _=>false
def _root_.LV.D.lstOk(p:D->Bool):D->Bool
 | .lst _ ys=>D.imms ys&&ys.all p&&decide (ys.length<=1000)
 | x=>x.kind.isSome
def F5(y:D):Bool:=y.kind.isSome&&y.kinded
theorem qao9(h:x.num=true):∃ n,x=.int n/\A6 n:=by
 cases x with
 | int n =>
   have:=zA3.mp h
   exact⟨n,rfl,zAn this.1,zAn this.2⟩
 | _=>cases h
theorem qB6{n:Int}(h:A6 n):(D.int n).num=true:=by
 show (decide (0<=n)&&decide (n<=1000000000000000000))=true;rw[zAh h.1,zAh h.2];rfl
theorem qao0(h:y.pairB=true):∃ k m,y=.tup [.int k,.int m]/\A6 k/\A6 m:=by
 cases y with
 | tup ds =>
   match ds,h with
   | [x,y],h =>
     have h:=zA3.mp h;obtain⟨k,rfl,hk⟩:=qao9 h.1;obtain⟨m,rfl,hm⟩:=qao9 h.2;exact⟨k,m,rfl,hk,hm⟩
 | _=>cases h
theorem qad7:∀{ys:Ds},ys.all D.pairB=true->∃ ps:Pr,ys=prD ps/\∀ p∈ps,A6 p.1/\A6 p.2
 | [],_=>⟨[],rfl,λ p h=>by simp at h⟩
 | y::r,h=>by
   rw[List.all_cons,zAz] at h;obtain⟨k,m,rfl,hk,hm⟩:=qao0 h.1;obtain⟨ps,rfl,hp⟩:=qad7 h.2;refine⟨(k,m)::ps,rfl,λ p hp'=>?_⟩;rcases zA7.mp hp' with rfl | hp'
   . exact⟨hk,hm⟩
   exact hp p hp'
theorem qF4:∀ ps:Pr,(prD ps).filterMap Fw=ps.map (·.1)
 | []=>rfl
 | p::r=>by show p.1::(prD r).filterMap Fw=_;rw[qF4 r];rfl
theorem qas8:∀{ps:Pr},(∀ p∈ps,A6 p.1/\A6 p.2)->(prD ps).all D.pairB=true
 | [],_=>rfl
 | p::r,h=>by
   show (((D.int p.1).num&&(D.int p.2).num)&&(prD r).all D.pairB)=true;rw[qB6 (h p zAc).1,qB6 (h p zAc).2,qas8 λ q hq=>h q (zA9 _ hq)];rfl
theorem qat0:∀ ps:Pr,(prD ps).all F5=true
 | []=>rfl
 | p::r=>by show (true&&(prD r).all F5)=true;rw[qat0 r];rfl
theorem qk6{z:Bool}{ps:Pr}(h:qK1 ps):(D.lst z (prD ps)).homesB=true/\(D.lst z (prD ps)).lstOk F5=true:=by
 have hl:(prD ps).length<=64:=by simpa[prD] using h.len
 constructor
 . show (decide ((prD ps).length<=64)&&((prD ps).all D.pairB&&decide ((prD ps).filterMap Fw).Nodup))=true
   rw[zAh hl,qas8 h.nums,qF4,zAh h.nd];rfl
 show (D.imms (prD ps)&&(prD ps).all F5&&decide ((prD ps).length<=1000))=true;rw[qG0,qat0,zAh (by lia)];rfl
theorem qI1{α:Type}(f:α->Bool):∀ l:List α,bools (l.map λ a=>.bl (f a))=some (l.map f)
 | []=>rfl
 | a::r=>by show (bools (r.map λ a=>D.bl (f a))).map (λ bs=>f a::bs)=_;rw[qI1 f r];rfl
theorem qat1(f:α->Bool)(l:List α):gAll (.lst false (l.map λ a=>.bl (f a)))=some (.bl (l.all f)):=by
 show (bools (l.map λ a=>D.bl (f a))).map (λ bs=>D.bl (bs.all id))=_;rw[qI1];show some (D.bl ((l.map f).all id))=_;rw[List.all_map];rfl
def qq5:VSp:=Bd λ ds d=>∃ x,ds=[x]/\x.lstOk F5=true/\d=.bl x.homesB
theorem qr5(T:Txt K mg a):VFn P w K mg base 5 a.f8 a.d8 ["thing"] qq5:=by
 refine VFn.mk2 T.d8.F qq9 (wOf [true]) qe0 (λ ds Q xe ⟨d,⟨x,e,_⟩,_⟩=>by rw[e];exact⟨rfl,rfl⟩) (λ cdv A outer sh H E av hr=>⟨_,(Ac (sif (tor (Bu (tv (vbi qi0 qx8.ops T.C4 (qa0 (vnm 0) (qa0 (vty "list" T.Cn) qa5 rfl) rfl)))) (Hf (q2 (Am Ed (qb8 _)) Ee (vbi qq1 qq0.ops T.Cm (qa0 (vnm 0) qa5 rfl)) (vgi T.Cr)))).te
     (Ak (Aq (qa3 vbl)))
     At)
     (Ak (Aq (Fy (ebi (qI0 rfl) qas2.ops T.De (Du (vaV (ecN (NY:=["pair"]) (src:=[none]) 0 (blk (λ av C s0 H0 ex=>(Br 0 (show (["pair"]:List Str).Nodup by decide +kernel))) (λ av C s0 H0 ex=>Fs) (λ av C s0 H0 ex=>(Ah T.d7 (qn3 T) qp7 (rm hr) (vaN 0 Ab))))) Ab))) (Hh (Ah T.d5 (qm5 T) qa2 (rm hr) (vaV (ecN (NY:=["pair"]) (src:=[none]) 0 (blk (λ av C s0 H0 ex=>(Br 0 (show (["pair"]:List Str).Nodup by decide +kernel))) (λ av C s0 H0 ex=>Fs) (λ av C s0 H0 ex=>(qb9 (v2 (Al qa8) Af (vnm 0) Aa))))) Ab))))))),λ ds Q xe h=>?_⟩)
 obtain⟨d,⟨x,rfl,hk,rfl⟩,q⟩:=h;cases x with
 | lst z ys =>
   have hk:=zA3.mp hk;have hk1:=zA3.mp hk.1;have hlen:=zAn hk.2;refine ite_b (p:=decide ((64:Int) < (ys.length:Nat))) (λ h=>?_) (λ h=>?_)
   . have hn:¬ ys.length<=64:=by have:=zAn h;lia
     have:(D.lst z ys).homesB=false:=by
       show (decide (ys.length<=64)&&_)=false;rw[zAq hn];rfl
     rw[this] at q;exact q
   have hn:ys.length<=64:=by have:=zBt h;lia
   have hb:(D.lst z ys).homesB=(ys.all D.pairB&&decide (ys.filterMap Fw).Nodup):=by
     show (decide (ys.length<=64)&&_)=_;rw[zAh hn];rfl
   have hall:=zAy.mp hk1.2;refine⟨hk1.1,?_⟩;refine qm8 (λ ι=>∃ d,ι=[d]) (λ y=>some (.bl y.pairB)) ys [] _ (by show 0+ys.length < big;unfold big;lia) ⟨_,rfl⟩ ?_ ?_
   . rintro y hy ι acc ⟨d,rfl⟩ R hR hacc
     have h1:=zA3.mp (hall y hy);obtain⟨t,ht⟩:=zB3.mp h1.1;refine qW8 (x:=y) (rd0 (qe2 ht)) (qa1 (a:=D.bl y.pairB) ?_ ?_)
     . show (if y.kinded=true then y.kind.map _ else none)=_
       rw[if_pos h1.2,ht];rfl
     exact⟨hacc,hR _ ⟨_,rfl⟩⟩
   rintro ι ⟨d,rfl⟩;rw[zBc,qV1];refine qa1 (qat1 D.pairB ys) (ite_b (λ ha=>?_) λ ha=>?_)
   . obtain⟨ps,rfl,hp⟩:=qad7 ha
     refine⟨qG0 ps,qm8 (λ ι=>∃ d,ι=[d]) (λ y=>(Fw y).map .int) (prD ps) [] _ (by show 0+(prD ps).length < big;unfold big;lia) ⟨_,rfl⟩ ?_ ?_⟩
     . rintro y hy ι acc ⟨d,rfl⟩ R hR hacc
       obtain⟨p,hp',rfl⟩:=zAv.mp hy;exact⟨rfl,hacc,hR _ ⟨_,rfl⟩⟩
     rintro ι ⟨d,rfl⟩;have e:[]++(prD ps).filterMap (λ y=>(Fw y).map D.int)=ksD (ps.map (·.1)):=by
       rw[zBc];unfold prD ksD;rw[List.filterMap_map,List.map_map];exact qV1 _ _
     rw[e];rw[hb,ha,qF4] at q;exact⟨_,⟨false,_,rfl,by simp;simp[prD] at hn;lia,rfl⟩,q⟩
   rw[hb,ha] at q;exact q
 | _=>first | exact q | cases hk
theorem qA4:qb1 ["self", "rooms", "wraps", "homes"] ["self", "rooms", "wraps", "homes"] (qa4 ql6):=by walk_at "s"
def _root_.LV.D.isB:D->Bool
 | .bl _=>true
 | _=>false
theorem qZ2{z:Bool}{ps:Pr}:He (.lst z (prD ps))=some (.lst false (prD ps)):=qh8 (qG0 ps)
theorem qf7{l:Int}(h:x.within l m=true):∃ n,x=.int n/\l<=n/\n<=m:=by
 cases x with
 | int n =>
   have h:(decide (l<=n)&&decide (n<=m))=true:=h;rw[zAz,zBm,zBm] at h;exact⟨n,rfl,h⟩
 | _=>cases h
theorem qU6{h:D}(e:h.homesB=true):∃ z ps,h=.lst z (prD ps)/\qK1 ps:=by
 cases h with
 | lst z ys =>
   have e:(decide (ys.length<=64)&&(ys.all D.pairB&&decide (ys.filterMap Fw).Nodup))=true:=e;rw[zAz,zAz,zBm,zBm] at e;obtain⟨ps,rfl,hp⟩:=qad7 e.2.1;rw[qF4] at e;exact⟨z,ps,rfl,⟨by simpa[prD] using e.1,e.2.2,hp⟩⟩
 | _=>cases e
def qz4(C CW:Addr):VSp:=λ ds Q xe=>∃ x y h,ds=[.ins false C [],x,y,h]/\(∃ t,x.kind=some t)/\(∃ t,y.kind=some t)/\h.lstOk F5=true /\
 (x.within 1 64=false->xe ⟨CW,[("at",.int 0)]⟩ ds)/\(x.within 1 64=true->y.isB=false->xe ⟨CW,[("at",.int 1)]⟩ ds)/\(x.within 1 64=true->y.isB=true->h.homesB=false->xe ⟨CW,[("at",.int 2)]⟩ ds) /\
 ∀ n wr z ps,x=.int n->y=.bl wr->h=.lst z (prD ps)->1<=n->n<=64->qK1 ps->Q .non [planD false C n wr ps,.int n,.bl wr,.lst z (prD ps)]
theorem qJ5{h:D}(k:h.lstOk F5=true):h.known=true:=by
 cases h with
 | unk=>cases k
 | hole v=>cases k
 | _=>rfl
theorem qp4(T:Txt K mg a):VFn P w K mg base 6 a.f9 a.d9 ["self", "rooms", "wraps", "homes"] (qz4 a.C3 a.C6):=by
 refine VFn.mk2 T.d9.F qA4 (wOf [true,true,true,true]) (λ ds Q Q' xe xe' hQ hx h=>by obtain⟨x,y,h,e,h1,h2,h3,q0,q1,q2,q3⟩:=h;exact⟨x,y,h,e,h1,h2,h3,λ a=>hx _ _ (q0 a),λ a b=>hx _ _ (q1 a b),λ a b c=>hx _ _ (q2 a b c),λ n wr z ps a b c d f g=>hQ _ _ (q3 n wr z ps a b c d f g)⟩) (λ ds Q xe ⟨x,y,h,e,_⟩=>by rw[e];exact⟨rfl,rfl⟩) (λ cdv A outer sh H E av hr=>⟨_,(Ac (sif (Bu (te (Ah T.d3 (qc7 T) qa2 (rm hr) (vaN 1 (vaV (qa3 Aa) (vaV (qa3 (vgi T.Ct)) Ab))))))
     (Ak (qw1 T.Cb (qc4 T) (rm hr) T.Cd T.d1.b qa2 (qa3 Aa)))
     At)
     (Ac (sif (Bu (tv (vbi qi0 qx8.ops T.C4 (qa0 (vnm 2) (qa0 (vty "bool" T.D0) qa5 rfl) rfl))))
     (Ak (qw1 T.Cb (qc4 T) (rm hr) T.Cd T.d1.b qa2 (qa3 Aa)))
     At)
     (Ac (sif (Bu (te (Ah T.d8 (qr5 T) qa2 (rm hr) (vaN 3 Ab))))
     (Ak (qw1 T.Cb (qc4 T) (rm hr) T.Cd T.d1.b qa2 (qa3 Aa)))
     At)
     (Ac (sfld rfl (vpn 0) (qb9 (vnm 1)) T.C5.cl T.C9)
     (Ac (sfld rfl (vpn 0) (qb9 (vnm 2)) T.C5.cl T.Cj)
     (Ac (sfld rfl (vpn 0) (qa3 (Fm qf1 qx7.ops T.Cn (qa0 (vnm 3) qa5 rfl))) T.C5.cl T.Co)
     (Ak (sfld rfl (vpn 0) (qa3 (Fm (qy2 rfl) qaa6.ops T.D7 (qa0 (vnm 3) qa5 rfl))) T.C5.cl T.Cc)))))))),λ ds Q xe h=>?_⟩)
 obtain⟨x,y,h,rfl,⟨tx,hx⟩,⟨ty,hy⟩,hh,q0,q1,q2,q3⟩:=h;have kx:=qe2 hx;have ky:=qe2 hy;have kh:=qJ5 hh;refine As [.ins false a.C3 [],x,y,h] rfl ?_;refine qG3 (x.within 1 64) (λ Q xe q=>?_) (λ b0=>?_) λ b0=>q0 b0
 . refine qg9 (qb6 (x:=x) (qb7 rfl kx) (qc6 (y:=.int 1) rfl (qc6 (y:=.int 64) rfl (qc3 ?_))))
   refine qa1 (qb7 rfl kx) (qo9 (d:=.bl (x.within 1 64)) (by show (x.kind.bind λ _=>some (D.bl (x.within 1 64)))=_;rw[hx];rfl) ?_);exact q
 refine qaq8 y.isB ?_ (λ b1=>?_) λ b1=>q1 b0 b1
 . unfold Aw Au
   rw[qb7 (ds:=[.ins false a.C3 [],x,y,h]) (i:=2) (d:=y) rfl ky];show (y.kind.map λ t=>D.bl (G5 t "bool"))=_;cases y<;>first | rfl | cases hy
 refine qG3 h.homesB (λ Q xe q=>?_) (λ b2=>?_) λ b2=>q2 b0 b1 b2
 . exact qU1 (x:=h) (qb7 rfl kh) ⟨h,rfl,hh,rfl⟩ rfl q
 obtain⟨n,rfl,n1,n2⟩:=qf7 b0;obtain⟨wr,rfl⟩:∃ wr,y=.bl wr:=by cases y<;>first | exact⟨_,rfl⟩ | cases b1
 obtain⟨z,ps,rfl,hp⟩:=qU6 b2;have q:=q3 n wr z ps rfl rfl rfl n1 n2 hp;refine qd6 [.ins false a.C3 [("rooms",.int n)],.int n,.bl wr,.lst z (prD ps)] (λ K hK=>⟨rfl,qa1 (a:=(0,[])) rfl (qa1 qn6 ⟨by decide,hK⟩)⟩) ?_;refine qd6 [.ins false a.C3 [("rooms",.int n),("wraps",.bl wr)],.int n,.bl wr,.lst z (prD ps)] (λ K hK=>⟨rfl,qa1 (a:=(0,[])) rfl (qa1 qn6 ⟨by show 1 < 100;decide,hK⟩)⟩) ?_;refine qd6 [.ins false a.C3 [("rooms",.int n),("wraps",.bl wr),("homes",.lst false (prD ps))],.int n,.bl wr,.lst z (prD ps)] (λ K hK=>?_) ?_
 . refine qa1 (qZ2 (z:=z)) ?_
   exact qa1 (a:=(0,[])) rfl (qa1 qn6 ⟨by show 2 < 100;decide,hK⟩)
 refine qa1 (qaa4 (z:=z) hp.nd) ?_;exact qa1 (a:=(0,[])) rfl (qa1 qn6 ⟨by show 3 < 100;decide,q⟩)
theorem qt7:qb1 ["thing"] ["thing"] (qa4 qh3):=by walk_at "s"
theorem qaf1(h:(D.int k).num=true):A6 k:=by
 have h:(decide (0<=k)&&decide (k<=1000000000000000000))=true:=h;rw[zAz,zBm,zBm] at h;exact h
def _root_.LV.D.keyL:D->Bool
 | .lst _ ys=>decide (ys.length<=100)&&(ys.all D.num&&decide (ys.filterMap D.asI).Nodup)
 | _=>false
def okK(y:D):Prop:=(∃ t,y.kind=some t)/\∀ z ys,y=.lst z ys->D.imms ys=true/\ys.length<=1000/\∀ x∈ys,∃ t,x.kind=some t
theorem qZ6:∀{ys:Ds},ys.all D.num=true->ys=ksD (ys.filterMap D.asI)/\∀ k∈ys.filterMap D.asI,A6 k
 | [],_=>⟨rfl,λ _ h=>by simp at h⟩
 | y::ys,h=>by
   obtain⟨h1,h2⟩:=zA3.mp (show (y.num&&ys.all D.num)=true from h);obtain⟨e,hk⟩:=qZ6 h2;cases y with
   | int k =>
     refine⟨?_,λ x hx=>?_⟩
     . show D.int k::ys=D.int k::ksD (ys.filterMap D.asI)
       rw[<- e]
     rcases zA7.mp (show x∈k::ys.filterMap D.asI from hx) with rfl | hx
     . exact qaf1 h1
     exact hk x hx
   | _=>cases h1
theorem fm_ks:∀ ks:List Int,(ksD ks).filterMap D.asI=ks
 | []=>rfl
 | k::r=>congrArg (k::·) (fm_ks r)
theorem qF3{z:Bool}:(D.lst z (ksD ks)).keyL=(decide (ks.length<=100)&&((ksD ks).all D.num&&decide ks.Nodup)):=by
 show (decide ((ksD ks).length<=100)&&((ksD ks).all D.num&&decide ((ksD ks).filterMap D.asI).Nodup))=_;rw[fm_ks,qe9]
def qt3:VSp:=Bd λ ds d=>∃ x,ds=[x]/\okK x/\d=.bl x.keyL
theorem qu4(T:Txt K mg a):VFn P w K mg base 4 a.f6 a.d6 ["thing"] qt3:=by
 refine VFn.mk2 T.d6.F qt7 (wOf [true]) qe0 (λ ds Q xe ⟨d,⟨x,e,_⟩,_⟩=>by rw[e];exact⟨rfl,rfl⟩) (λ cdv A outer sh H E av hr=>⟨_,(Ac (sif (tor (Bu (tv (vbi qi0 qx8.ops T.C4 (qa0 (vnm 0) (qa0 (vty "list" T.Cn) qa5 rfl) rfl)))) (Hf (q2 (Am Ed (qb8 _)) Ee (vbi qq1 qq0.ops T.Cm (qa0 (vnm 0) qa5 rfl)) (vgi T.Cw)))).te
     (Ak (Aq (qa3 vbl)))
     At)
     (Ak (Aq (Fy (ebi (qI0 rfl) qas2.ops T.De (Du (vaV (ecN (NY:=["key"]) (src:=[none]) 0 (blk (λ av C s0 H0 ex=>(Br 0 (show (["key"]:List Str).Nodup by decide +kernel))) (λ av C s0 H0 ex=>Fs) (λ av C s0 H0 ex=>(Ah T.d4 (qg7 T) qp7 (rm hr) (vaN 0 Ab))))) Ab))) (Hh (Ah T.d5 (qm5 T) qa2 (rm hr) (vaN 0 Ab))))))),λ ds Q xe h=>?_⟩)
 obtain⟨d,⟨x,rfl,⟨⟨t,ht⟩,hx⟩,rfl⟩,q⟩:=h;cases x with
 | lst z ys =>
   obtain⟨hi,hl,hk⟩:=hx z ys rfl;refine As [.lst z ys] rfl ?_;have hg:f2 gGt (Aw (fx1 Go) (Au (rdN 0) λ _=>some [])) (kC (D.int 100)) [.lst z ys]=some (.bl (decide ((100:Int) < (ys.length:Nat)))):=Ad (qu7 rfl) rfl rfl;refine qd5 (decide ((100:Int) < (ys.length:Nat))) (λ Q q=>qs4 false (decide ((100:Int) < (ys.length:Nat))) (λ Q q=>qe8 (qag6 rfl) q) (λ _ Q q=>qc5 hg q) q) (λ h=>?_) λ h=>qj3 ?_
   . have hn:¬ ys.length<=100:=by have:=zAn h;lia
     have:(D.lst z ys).keyL=false:=by
       show (decide (ys.length<=100)&&_)=false;rw[zAq hn];rfl
     rw[this] at q;exact q
   have hn:ys.length<=100:=by have:=zBt h;lia
   refine⟨hi,?_⟩;refine qm8 (λ ι=>∃ d,ι=[d]) (λ y=>some (.bl y.num)) ys [] _ (by show 0+ys.length < big;unfold big;lia) ⟨_,rfl⟩ ?_ ?_
   . rintro y hy ι acc ⟨d,rfl⟩ R hR hacc
     obtain⟨t',ht'⟩:=hk y hy;exact qW8 (x:=y) (rd0 (qe2 ht')) (qo9 (d:=.bl y.num) (by show y.kind.map _=_;rw[ht'];rfl) ⟨hacc,hR _ ⟨_,rfl⟩⟩)
   rintro ι ⟨d,rfl⟩;rw[zBc,qV1];refine qa1 (qat1 D.num ys) (ite_b (λ ha=>?_) λ ha=>?_)
   . obtain⟨ks,rfl⟩:∃ ks,ys=ksD ks:=⟨_,(qZ6 ha).1⟩
     rw[qF3,ha] at q;rw[qe9] at hn;rw[zAh hn] at q;exact qU1 (x:=.lst z (ksD ks)) rfl ⟨z,ks,rfl,by lia,rfl⟩ rfl q
   have:(D.lst z ys).keyL=false:=by
     show (_&&(ys.all D.num&&_))=false;rw[ha,zBp,zAx]
   rw[this] at q;exact q
 | _=>first | exact q | cases ht
theorem qq8:qb1 ["plan", "keys"] ["plan", "keys"] (qa4 qg3):=by walk_at "s"
def qaj6(C CW:Addr)(G:Ds->DK->Prop):VSp:=λ ds Q xe=>∃ x y bp,ds=[x,y]/\x.isC C=some (.bl bp)/\y.known=true/\(bp=false->xe ⟨CW,[("at",.int 0)]⟩ ds)/\(bp=true->okK y/\(y.keyL=false->xe ⟨CW,[("at",.int 1)]⟩ ds)/\(y.keyL=true->G ds Q))
theorem qO1{C CW:Addr}{G:Ds->DK->Prop}(h:∀ ds (Q Q':DK),(∀ d ds',Q d ds'->Q' d ds')->G ds Q->G ds Q'):Bc (qaj6 C CW G) :=
 λ ds Q Q' xe xe' hQ hx ⟨x,y,bp,e,h1,h0,h2,h3⟩=>⟨x,y,bp,e,h1,h0,λ b=>hx _ _ (h2 b),λ b=>⟨(h3 b).1,λ k=>hx _ _ ((h3 b).2.1 k),λ k=>h _ _ _ hQ ((h3 b).2.2 k)⟩⟩
def qq4(C CW:Addr):VSp:=qaj6 C CW λ ds Q=>Q .non ds
theorem qr4(T:Txt K mg a):VFn P w K mg base 5 a.f14 a.d14 ["plan", "keys"] (qq4 a.C3 a.C6):=by
 refine VFn.mk2 T.d14.F qq8 (wOf [true,true]) (qO1 λ ds Q Q' h q=>h _ _ q) (λ ds Q xe ⟨x,y,bp,e,_⟩=>by rw[e];exact⟨rfl,rfl⟩) (λ cdv A outer sh H E av hr=>⟨_,(Ac (sif (Bu (tv (vbi (qai9 T.Db T.C5.cl) qaA6.ops T.C4 (qa0 (vnm 0) (qa0 (vcls a.C3 T.C5.m) qa5 rfl) rfl))))
     (Ak (qw1 T.Cb (qc4 T) (rm hr) T.Cd T.d1.b qa2 (qa3 Aa)))
     At)
     (Ak (sif (Bu (te (Ah T.d6 (qu4 T) qa2 (rm hr) (vaN 1 Ab))))
     (Ak (qw1 T.Cb (qc4 T) (rm hr) T.Cd T.d1.b qa2 (qa3 Aa)))
     At))),λ ds Q xe h=>?_⟩)
 obtain⟨x,y,bp,rfl,hC,hy,h0,h1⟩:=h;have hx:=qF8 hC;refine As [x,y] rfl ?_;have hO:Aw (fx2 (gIsO a.C3)) (Au (rdN 0) (Au (kC (D.adr a.C3)) λ _=>some [])) [x,y]=some (.bl bp):=by
   unfold Aw Au;rw[rd0 hx];show (if a.C3=a.C3 then x.isC a.C3 else none)=_;rw[if_pos rfl,hC]
 cases bp with
 | false =>
   exact qal8 hO (h0 rfl)
 | true =>
   obtain⟨hk,hF,hT⟩:=h1 rfl;refine qaq7 hO ?_;cases hb:y.keyL with
   | true=>exact qP7 (λ Q xe q=>qU1 (x:=y) (qb7 rfl hy) ⟨y,rfl,hk,by rw[hb]⟩ rfl q) (hT hb)
   | false=>exact qM6 (λ Q xe q=>qU1 (x:=y) (qb7 rfl hy) ⟨y,rfl,hk,by rw[hb]⟩ rfl q) (hF hb)
theorem qr0:qb1 ["self", "thing"] ["self", "thing"] (qa4 qg6):=by walk_at "s"
def qi4(C:Addr):VSp:=Bd λ ds d=>∃ z n wr ps x t,ds=[planD z C n wr ps,x]/\x.kind=some t/\d=.bl (x.within 0 (n - 1))
theorem qi7(T:Txt K mg a):VFn P w K mg base 3 a.f10 a.d10 ["self", "thing"] (qi4 a.C3):=by
 refine VFn.mk2 T.d10.F qr0 (wOf [true,true]) qe0 (λ ds Q xe h=>by obtain⟨d,⟨z,n,wr,ps,x,t,e,_⟩,_⟩:=h;rw[e];exact⟨rfl,rfl⟩) (λ cdv A outer sh H E av hr=>⟨_,(Ak (Aq (Ah T.d3 (qc7 T) qa2 (rm hr) (vaN 1 (vaV (qa3 Aa) (vaV (qa3 (v2 (Ag qj5) qj4 (E8 rfl (vnm 0) T.C5.cl T.C9) Aa)) Ab)))))),λ ds Q xe h=>?_⟩);obtain⟨d,⟨z,n,wr,ps,x,t,rfl,hk,rfl⟩,q⟩:=h;have hx:rdN 1 [planD z a.C3 n wr ps,x]=some x:=qh4.mpr ⟨rfl,qe2 hk⟩;have e1:f2 gSub (f1 (D.fld a.C3 "rooms") (rdN 0)) (kC (.int 1)) [planD z a.C3 n wr ps,x]=some (.int (n - 1)):=Ad (E4 rfl qk9) rfl rfl;show qh1 _ _ (tbN 1 _) [planD z a.C3 n wr ps,x] _ _;refine qb6 hx ?_;refine qc6 (y:=.int 0) rfl ?_;refine qc6 e1 ?_;refine qa1 hx ?_;refine qo9 (d:=.bl (x.within 0 (n - 1))) ?_ (qa1 rfl q);show x.kind.bind _=_;rw[hk];rfl
theorem qA2:qb1 ["plan", "thing"] ["plan", "thing"] (qa4 ql4):=by walk_at "s"
def caseF(z:Bool)(n:Int)(wr:Bool)(ps:Pr):D:=.lst z [.int n,.bl wr,.lst z (prD ps)]
theorem qt0{z:Bool}{n:Int}{wr:Bool}{ps:Pr}:(caseF z n wr ps).fz=caseF true n wr ps:=by
 show D.lst true [.int n,.bl wr,.lst true (D.fzs (prD ps))]=_;rw[qQ3];rfl
def leD:D->D->Bool
 | .int i,.int j=>decide (i<=j)
 | _,_=>false
def _root_.LV.D.winB(n:Int)(wr:Bool):D->Bool
 | .tup [a,b]=>a.within 0 (n - 1)&&(b.within 0 (n - 1)&&(wr||leD a b))
 | _=>false
def okW(x:D):Prop:=(∃ t,x.kind=some t)/\∀ xs,x=.tup xs->D.imms xs=true/\∀ y∈xs,∃ t,y.kind=some t
theorem qab0{n:Int}{wr:Bool}(h:xs.length≠2):(D.tup xs).winB n wr=false:=by
 match xs,h with
 | [],_=>rfl
 | [_],_=>rfl
 | [_,_],h=>exact absurd rfl h
 | _::_::_::_,_=>rfl
def qz3(C:Addr):VSp:=Bd λ ds d=>∃ z n wr ps x,ds=[planD z C n wr ps,x]/\okW x/\d=.bl (x.winB n wr)
theorem qB2(T:Txt K mg a):VFn P w K mg base 4 a.f15 a.d15 ["plan", "thing"] (qz3 a.C3):=by
 refine VFn.mk2 T.d15.F qA2 (wOf [true,true]) qe0 (λ ds Q xe h=>by obtain⟨d,⟨z,n,wr,ps,x,e,_⟩,_⟩:=h;rw[e];exact⟨rfl,rfl⟩) (λ cdv A outer sh H E av hr=>⟨_,(Ac (sif (tor (Bu (tv (vbi qi0 qx8.ops T.C4 (qa0 (vnm 1) (qa0 (vty "tuple" T.Cs) qa5 rfl) rfl)))) (Hf (q2 (Am (qp2 hr.u64) (qb8 _)) Dl (vbi qq1 qq0.ops T.Cm (qa0 (vnm 1) qa5 rfl)) Aa))).te
     (Ak (Aq (qa3 vbl)))
     At)
     (Ac (sif (tor (Bu (te (qW0 0 T.d10 T.C5.cl (qi7 T) qa2 (rm hr) (vaV (qb9 (v2 (Al qa8) Af (vnm 1) Aa)) Ab)))) (Hf (Bu (te (qW0 0 T.d10 T.C5.cl (qi7 T) qa2 (rm hr) (vaV (qb9 (v2 (Al qa8) Af (vnm 1) Aa)) Ab)))))).te
     (Ak (Aq (qa3 vbl)))
     At)
     (Ak (Aq (qa3 (vor (E8 rfl (vnm 0) T.C5.cl T.Cj) (vone (v2 (Bb Fb (qb8 _)) Fj (v2 (Al qa8) Af (vnm 1) Aa) (v2 (Al qa8) Af (vnm 1) Aa))))))))),λ ds Q xe h=>?_⟩)
 obtain⟨d,⟨z,n,wr,ps,x,rfl,⟨⟨t,ht⟩,hx⟩,rfl⟩,q⟩:=h;cases x with
 | tup xs =>
   obtain⟨hi,hk⟩:=hx xs rfl;refine As [planD z a.C3 n wr ps,.tup xs] rfl ?_;by_cases hl:xs.length=2
   . obtain⟨c,d,rfl⟩:∃ c d,xs=[c,d]:=by
       match xs,hl with
       | [c,d],_=>exact⟨c,d,rfl⟩
     obtain⟨t1,h1⟩:=hk c zAc;obtain⟨t2,h2⟩:=hk d (zA9 _ zAc);have i1:c.imm=true:=(zA3.mp hi).1;have i2:d.imm=true:=(zA3.mp (zA3.mp hi).2).1;refine qd5 false (λ Q q=>qs4 false false (λ Q q=>qe8 (b:=true) rfl q) (λ _ Q q=>qc5 (b:=false) rfl q) q) (λ h=>(nomatch h)) λ _=>?_
     have q:Q (.bl (c.within 0 (n - 1)&&(d.within 0 (n - 1)&&(wr||leD c d)))) [planD z a.C3 n wr ps,.tup [c,d]]:=q;have room:∀(y:D)(j:Int)(t:String)(R:DK)(xe:XKd),y.kind=some t->y.imm=true->gIx (.tup [c,d]) (.int j)=some y->R (.bl (y.within 0 (n - 1))) [planD z a.C3 n wr ps,.tup [c,d]]->qy9 a.C3 "is_room" (qi4 a.C3) [] 0 (tbV (By (f2 gIx (rdN 1) (kC (.int j)))) Ay) [planD z a.C3 n wr ps,.tup [c,d]] R xe:=λ y j t R xe hk hi hg hR =>
       qaf8 (p:=planD z a.C3 n wr ps) rfl (qC3 rfl) (qd1 (y:=y) (Ad rfl rfl hg) hi (qc3 (qa1 (a:=planD z a.C3 n wr ps) rfl ⟨_,⟨z,n,wr,ps,y,t,rfl,hk,rfl⟩,qa1 (a:=[planD z a.C3 n wr ps,.tup [c,d]]) rfl hR⟩)))
     refine qd5 (!c.within 0 (n - 1)||!d.within 0 (n - 1)) (λ Q q=>qs4 (!c.within 0 (n - 1)) (!d.within 0 (n - 1)) (λ Q q=>room c 0 t1 _ _ h1 i1 rfl (qa1 (a:=c.within 0 (n - 1)) rfl q)) (λ _ Q q=>room d 1 t2 _ _ h2 i2 rfl (qa1 (a:=d.within 0 (n - 1)) rfl q)) q) (λ h=>?_) λ h=>?_
     . have e:(c.within 0 (n - 1)&&(d.within 0 (n - 1)&&(wr||leD c d)))=false:=by
         cases e1:c.within 0 (n - 1) with
         | false=>rfl
         | true =>
           rw[e1] at h;cases e2:d.within 0 (n - 1) with
           | false=>rfl
           | true=>rw[e2] at h;cases h
       rw[e] at q;exact qi6 (.bl false) rfl q
     have e1:c.within 0 (n - 1)=true:=by
       cases e1:c.within 0 (n - 1) with
       | true=>rfl
       | false=>rw[e1] at h;cases h
     have e2:d.within 0 (n - 1)=true:=by
       cases e2:d.within 0 (n - 1) with
       | true=>rfl
       | false=>rw[e1,e2] at h;cases h
     obtain⟨i,rfl,_,_⟩:=qf7 e1;obtain⟨j,rfl,_,_⟩:=qf7 e2;rw[e1,e2] at q;refine qi6 (.bl (wr||decide (i<=j))) ?_ q;exact qaA1 (a:=wr) (b:=decide (i<=j)) (E4 rfl qG8) (Ad (Ad rfl rfl rfl) (Ad rfl rfl rfl) rfl)
   refine qd5 true (λ Q q=>qs4 false true (λ Q q=>qe8 (b:=true) rfl q) (λ _ Q q=>qc5 (b:=true) (Ad (x:=.int (xs.length:Nat)) (y:=.int 2) rfl rfl ?_) q) q) (λ _=>?_) λ h=>(nomatch h)
   . show some (D.bl (!(((xs.length:Nat):Int) == 2)))=_
     rw[zB4.mpr (by lia)];rfl
   rw[qab0 hl] at q;exact qi6 (.bl false) rfl q
 | _=>first | exact q | cases ht
theorem qA5:qb1 ["self", "key"] ["self", "key"] (qa4 ql7):=by walk_at "s"
def qz5(C:Addr):VSp:=Bd λ ds d=>∃ z n wr ps k,ds=[planD z C n wr ps,.int k]/\1<=n/\A6 k/\d=.int (qC5 n ps k)
theorem qP9{z:Bool}{ps:Pr}(h:fa ds=some (.dct z (kvD ps)))(hk:rdN i ds=some (.int k)):fget fa (rdN i) (rdN i) ds=some (.int ((ps.lookup k).getD k)):=by
 unfold fget;rw[h,hk];show gd (((Bt (kvD ps) (.inl k)).getD (.int k)).imm=true) ((Bt (kvD ps) (.inl k)).getD (.int k))=_;rw[qW9];cases ps.lookup k<;>rfl
theorem qax7{x n:Int}(h:1<=n):Gn (.int x) (.int n)=some (.int (x % n)):=qh8 (zAh (by lia))
theorem qB3(T:Txt K mg a):VFn P w K mg base 4 a.f12 a.d12 ["self", "key"] (qz5 a.C3):=by
 refine VFn.mk2 T.d12.F qA5 (wOf [true,true]) qe0 (λ ds Q xe h=>by obtain⟨d,⟨z,n,wr,ps,k,e,_⟩,_⟩:=h;rw[e];exact⟨rfl,rfl⟩) (λ cdv A outer sh H E av hr=>⟨_,(Ac (sif (Bu (te (Ah T.d4 (qg7 T) qa2 (rm hr) (vaN 1 Ab))))
     (Ak (qw1 T.Cb (qc4 T) (rm hr) T.Cd T.d1.b qa2 (qa3 Aa)))
     At)
     (Ak (Aq (qa3 (v2 (Ag qh6) qh5 (vget (hu_of hr) (E8 rfl (vnm 0) T.C5.cl T.Cc) (vnm 1) (vnm 1) ⟨rfl,rfl,rfl,rfl⟩) (E8 rfl (vnm 0) T.C5.cl T.C9)))))),λ ds Q xe h=>?_⟩)
 obtain⟨d,⟨z,n,wr,ps,k,rfl,h1,hk,rfl⟩,q⟩:=h;have key:orF (f2 Gn (fget (f1 (D.fld a.C3 "home_numbers") (rdN 0)) (rdN 1) (rdN 1)) (f1 (D.fld a.C3 "rooms") (rdN 0)) [planD z a.C3 n wr ps,.int k]) (λ d=>Q d [planD z a.C3 n wr ps,.int k]):=qa1 (Ad (qP9 (E4 rfl qJ8) rfl) (E4 rfl qk9) (qax7 h1)) q;exact qW8 rfl (qo9 (d:=D.bl true) (by show some (D.bl (D.int k).num)=_;rw[qB6 hk]) (qa1 rfl (qa1 (a:=true) rfl key)))
theorem qo6:qb1 ["self", "first", "many"] ["self", "first", "many"] (qa4 qf6):=by walk_at "s"
def onD(n h:Int)(m:Nat):Ds:=(List.range m).map λ(s:Nat)=>D.int ((h+(0+(s:Int))) % n)
theorem qau5{n h:Int}{m:Nat}:((A5 0 m).map λ x=>match x with | .int s=>.int ((h+s) % n) | d=>d)=onD n h m:=by unfold A5 onD;rw[List.map_map];rfl
def qo4(C:Addr):VSp:=λ ds Q _=>∃ z n wr ps h m,ds=[planD z C n wr ps,.int h,.int m]/\1<=n/\0<=m/\m<=64/\Q (.lst false (onD n h m.toNat)) [planD z C n wr ps,.int h,.unk]
theorem qp3(T:Txt K mg a):VFn P w K mg base 1 a.f11 a.d11 ["self", "first", "many"] (qo4 a.C3):=by
 refine VFn.mk2 T.d11.F qo6 (wOf [true,true,true]) (λ ds Q Q' xe xe' hQ _ h=>by obtain⟨z,n,wr,ps,h,m,e,h1,h2,h3,q⟩:=h;exact⟨z,n,wr,ps,h,m,e,h1,h2,h3,hQ _ _ q⟩) (λ ds Q xe h=>by obtain⟨z,n,wr,ps,h,m,e,_⟩:=h;rw[e];exact⟨rfl,rfl⟩) (λ cdv A outer sh H E av hr=>⟨_,(Ak (Aq (ecR1 (NY:=["step", "first", "self"]) (src:=[none,some 1,some 0]) T.Ck (Du (vaN 2 Ab)) (blk (λ av C s0 H0 ex=>(Br 0 (show (["step", "first", "self"]:List Str).Nodup by decide +kernel))) (λ av C s0 H0 ex=>Fs) (λ av C s0 H0 ex=>(qa3 (v2 (Ag qh6) qh5 (v2 (Ag qd8) qd7 (vnm 1) (vnm 0)) (E8 rfl (vnm 2) T.C5.cl T.C9)))))))),λ ds Q xe h=>?_⟩);obtain⟨z,n,wr,ps,h,m,rfl,n1,m0,m1,q⟩:=h;refine As [planD z a.C3 n wr ps,.int h,.int m] rfl ?_;refine qj3 ?_;refine⟨rfl,qc3 (qa1 (a:=D.int m) rfl (qa1 (a:=m) rfl ⟨qaf6 m0 (by lia),?_⟩))⟩;refine qm8 (λ ι=>∃ d,ι=[d,.int h,planD z a.C3 n wr ps]) (λ x=>some (match x with | .int s=>.int ((h+s) % n) | d=>d)) (A5 0 m.toNat) [] _ (by show 0+_ < big;rw[qO9];unfold big;lia) ⟨_,rfl⟩ ?_ ?_
 . rintro y hy ι acc ⟨d,rfl⟩ R hR hacc
   obtain⟨s,hs,rfl⟩:=zAv.mp hy;have this:=hR _ ⟨.int (0+(s:Nat)),rfl⟩;refine qa1 (a:=D.int ((h+(0+(s:Nat))) % n)) (Ad (x:=.int (h+(0+(s:Nat)))) rfl (E4 rfl qk9) (Bs (by lia))) ⟨hacc,this⟩
 rintro ι ⟨d,rfl⟩;rw[zBc,qV1,qau5];exact q
theorem qq7:qb1 ["plan", "window"] ["plan", "window"] (qa4 qg2):=by walk_at "s"
theorem qax2{n:Int}{m:Nat}(hs:s < n.toNat)(hm:m < n.toNat):onD n ((s:Nat):Int) (m+1)=ksD (Ax n.toNat s m):=by
 unfold onD ksD Ax;rw[List.map_map];refine List.map_congr_left λ i hi=>?_
 have hi:=List.mem_range.mp hi;show D.int ((((s:Nat):Int)+(0+(i:Int))) % n)=D.int ((rot n.toNat s i:Nat):Int);rw[<- qX7 hs (by lia),Int.natCast_emod,show ((n.toNat:Nat):Int)=n by lia,Int.zero_add];rfl
def qq3(C:Addr):VSp:=Bd λ ds d=>∃ z n wr ps s h,ds=[planD z C n wr ps,.tup [.int ((s:Nat):Int),.int ((h:Nat):Int)]]/\1<=n/\n<=64/\s < n.toNat/\h < n.toNat/\d=.lst false (ksD (Ax n.toNat s (dist n.toNat s h)))
theorem qr3(T:Txt K mg a):VFn P w K mg base 2 a.f16 a.d16 ["plan", "window"] (qq3 a.C3):=by
 refine VFn.mk2 T.d16.F qq7 (wOf [true,true]) qe0 (λ ds Q xe h=>by obtain⟨d,⟨z,n,wr,ps,s,h,e,_⟩,_⟩:=h;rw[e];exact⟨rfl,rfl⟩) (λ cdv A outer sh H E av hr=>⟨_,(Ak (Aq (qW0 0 T.d11 T.C5.cl (qp3 T) qa2 (rm hr) (vaV (qb9 (v2 (Al qa8) Af (vnm 1) Aa)) (vaV (qa3 (v2 (Ag qd8) qd7 (v2 (Ag qh6) qh5 (v2 (Ag qj5) qj4 (v2 (Al qa8) Af (vnm 1) Aa) (v2 (Al qa8) Af (vnm 1) Aa)) (E8 rfl (vnm 0) T.C5.cl T.C9)) Aa)) Ab))))),λ ds Q xe h=>?_⟩);obtain⟨d,⟨z,n,wr,ps,s,h,rfl,n1,n2,hs,hh,rfl⟩,q⟩:=h;refine As [planD z a.C3 n wr ps,.tup [.int ((s:Nat):Int),.int ((h:Nat):Int)]] rfl ?_;have hdl:=qx6 hh hs;have e:(((h:Nat):Int) - ((s:Nat):Int)) % n+1=((dist n.toNat s h+1:Nat):Int):=by
   unfold dist;split
   . rw[Int.emod_eq_of_lt (by lia) (by lia)];lia
   rw[<- Int.add_emod_right,Int.emod_eq_of_lt (by lia) (by lia)];lia
 refine qj3 (qaf8 (p:=planD z a.C3 n wr ps) rfl (qC3 rfl) (qd1 (y:=.int ((s:Nat):Int)) (Ad rfl rfl rfl) rfl (qc6 (y:=.int ((dist n.toNat s h+1:Nat):Int)) ?_ (qc3 (qa1 (a:=planD z a.C3 n wr ps) rfl ⟨z,n,wr,ps,(s:Nat),((dist n.toNat s h+1:Nat):Int),rfl,n1,by lia,by lia,?_⟩)))))
 . rw[<- e]
   exact Ad (Ad (x:=.int (((h:Nat):Int) - ((s:Nat):Int))) (y:=.int n) (Ad (Ad rfl rfl rfl) (Ad rfl rfl rfl) rfl) (E4 rfl qk9) (Bs (by lia))) rfl rfl
 refine qa1 (a:=[planD z a.C3 n wr ps,.tup [.int ((s:Nat):Int),.int ((h:Nat):Int)]]) rfl ?_;rw[Int.toNat_natCast,qax2 hs hdl];exact q
theorem qi5:qb1 ["plan", "keys", "far", "window", "rooms"] ["plan", "keys", "far", "window"] (qa4 qg5):=by walk_at "s"
def qt6(n:Int)(ps:Pr)(S:List Int)(s h:Nat):Nat:=(S.filter λ y=>decide (dist n.toNat s (hmOf n ps y)<=dist n.toNat s h)).length
def qq6(C:Addr):VSp:=Bd λ ds d=>∃ z n wr ps z' S f s h,ds=[planD z C n wr ps,.lst z' (ksD S),.int f,.tup [.int ((s:Nat):Int),.int ((h:Nat):Int)]]/\1<=n/\n<=64/\(∀ k∈S,A6 k)/\S.length<=1000/\s < n.toNat/\h < n.toNat/\d=.bl (decide (((dist n.toNat s h+1:Nat):Int)+f<=((qt6 n ps S s h:Nat):Int)))
theorem qr6(T:Txt K mg a):VFn P w K mg base 5 a.f17 a.d17 ["plan", "keys", "far", "window"] (qq6 a.C3):=by
 refine VFn.mk2 T.d17.F qi5 (wOf [true,true,true,true]) qe0 (λ ds Q xe h=>by obtain⟨d,⟨z,n,wr,ps,z',S,f,s,h,e,_⟩,_⟩:=h;rw[e];exact⟨rfl,rfl⟩) (λ cdv A outer sh H E av hr=>⟨_,(Ac (Aj 4 qi5.nd (Ah T.d16 (qr3 T) qa2 (rm hr) (vaN 0 (vaN 3 Ab))))
     (Ak (Aq (e2v (Bb F6 (qb8 _)) F9 (ebi qq1 qq0.ops T.Cm (Du (vaV (ecN (NY:=["key", "rooms", "plan"]) (src:=[none,some 4,some 0]) 1 (blk (λ av C s0 H0 ex=>(Br 0 (show (["key", "rooms", "plan"]:List Str).Nodup by decide +kernel))) (λ av C s0 H0 ex=>(Hl (q2v (Bb qk2 (by with_unfolding_all rfl)) (Am qk2 (by with_unfolding_all rfl)) Fk (qW0 2 T.d12 T.C5.cl (qB3 T) qp7 (rm hr) (vaN 0 Ab)) (vnm 1)))) (λ av C s0 H0 ex=>(qb9 (vnm 0))))) Ab))) (v2 (Ag qd8) qd7 (vbi qq1 qq0.ops T.Cm (qa0 (vnm 4) qa5 rfl)) (vnm 2)))))),λ ds Q xe h=>?_⟩)
 obtain⟨d,⟨z,n,wr,ps,z',S,f,s,h,rfl,n1,n2,hk,hlen,hs,hh,rfl⟩,q⟩:=h;have hdl:=qx6 hh hs;refine As [planD z a.C3 n wr ps,.lst z' (ksD S),.int f,.tup [.int ((s:Nat):Int),.int ((h:Nat):Int)],.unk] rfl ?_;refine qd6 [planD z a.C3 n wr ps,.lst z' (ksD S),.int f,.tup [.int ((s:Nat):Int),.int ((h:Nat):Int)],.lst false (ksD (Ax n.toNat s (dist n.toNat s h)))] (λ K hK=>?_) ?_
 . exact qf2 (qap6 (x:=planD z a.C3 n wr ps) (y:=.tup [.int ((s:Nat):Int),.int ((h:Nat):Int)]) rfl rfl rfl ⟨z,n,wr,ps,s,h,rfl,n1,n2,hs,hh,rfl⟩ rfl hK)
 refine qj3 (qz0 (Gf (qf5 (qa1 (a:=D.lst z' (ksD S)) rfl (qa1 (a:=ksD S) rfl ⟨qc9 S,?_⟩)))));refine qm8 (λ ι=>∃ d,ι=[d,.lst false (ksD (Ax n.toNat s (dist n.toNat s h))),planD z a.C3 n wr ps]) (Ej λ y=>decide (dist n.toNat s (hmOf n ps y)<=dist n.toNat s h)) _ [] _ (by show 0+_ < 1000000;rw[qe9];lia) ⟨_,rfl⟩ ?_ ?_
 . rintro y hy ι acc ⟨d,rfl⟩ R hR hacc
   obtain⟨k,hkS,rfl⟩:=zAv.mp hy;have this:=hR [.int k,.lst false (ksD (Ax n.toNat s (dist n.toNat s h))),planD z a.C3 n wr ps] ⟨_,rfl⟩;refine qh7 (qM7 (qax8 (p:=planD z a.C3 n wr ps) (x:=.int k) (d:=.int (qC5 n ps k)) rfl (qC3 rfl) rfl rfl ⟨z,n,wr,ps,k,rfl,n1,hk k hkS,rfl⟩ rfl ?_));rw[<- qaa1 n1 k];refine qa1 (a:=D.bl (decide (((hmOf n ps k:Nat):Int)∈Ax n.toNat s (dist n.toNat s h)))) (qZ5 (z:=false)) (qa1 (a:=decide (((hmOf n ps k:Nat):Int)∈Ax n.toNat s (dist n.toNat s h))) rfl ?_);rw[decide_eq_decide.mpr (qK2 hs (hm_lt n1 k) hdl)];refine ite_b (λ h=>?_) λ h=>?_
   . rw[qP3 h] at this
     exact qv4 (d:=.int k) rfl rfl ⟨hacc,this⟩
   rw[qP4 h] at this;have this:R (acc++[]) _:=this;rw[zAa] at this;exact this
 rintro ι ⟨d,rfl⟩;rw[qv1,zBc];refine qc3 (qa1 (a:=D.int ((qt6 n ps S s h:Nat):Int)) (by show some (D.int ((ksD _).length:Nat))=_;rw[qe9];rfl) ?_);refine qa1 (a:=D.bl (decide (((dist n.toNat s h+1:Nat):Int)+f<=((qt6 n ps S s h:Nat):Int)))) ?_ q;rw[Ad (x:=.int ((dist n.toNat s h+1:Nat):Int)) (y:=.int f) (d:=.int (((dist n.toNat s h+1:Nat):Int)+f)) (by rw[qu7 (z:=false) (ys:=ksD (Ax n.toNat s (dist n.toNat s h))) rfl,qe9,qy5]) rfl rfl];rfl
theorem qA1:qb1 ["plan", "keys", "far", "window"] ["plan", "keys", "far", "window"] (qa4 ql3):=by walk_at "s"
theorem qv3{z:Bool}{C:Addr}{n:Int}{wr:Bool}{ps:Pr}:(planD z C n wr ps).isC C=some (.bl true):=if_pos rfl
theorem qao7{z:Bool}(h:ks.length<=1000):okK (.lst z (ksD ks)):=⟨⟨_,rfl⟩,λ z' ys e=>by
 cases e;exact⟨qc9 _,by rw[qe9];lia,λ x hx=>by obtain⟨k,_,rfl⟩:=zAv.mp hx;exact⟨_,rfl⟩⟩⟩
theorem qaa9{n:Int}{wr:Bool}(h:x.winB n wr=true):∃ s h:Nat,x=.tup [.int ((s:Nat):Int),.int ((h:Nat):Int)]/\s < n.toNat/\h < n.toNat:=by
 match x,h with
 | .tup [c,d],h =>
   obtain⟨h1,h2⟩:=zA3.mp h;obtain⟨i,rfl,i0,i1⟩:=qf7 h1;obtain⟨j,rfl,j0,j1⟩:=qf7 (zA3.mp h2).1;exact⟨i.toNat,j.toNat,by rw[show ((i.toNat:Nat):Int)=i by lia,show ((j.toNat:Nat):Int)=j by lia],by lia,by lia⟩
def qz2(C CW:Addr):VSp:=λ ds Q xe=>∃ x y v u bp,ds=[x,y,v,u]/\x.isC C=some (.bl bp)/\y.known=true/\(∃ t,v.kind=some t)/\u.known=true/\(bp=false->xe ⟨CW,[("at",.int 0)]⟩ ds) /\
 (bp=true->okK y/\okW u/\(y.keyL=false->xe ⟨CW,[("at",.int 1)]⟩ ds)/\(y.keyL=true->∃ z n wr ps z' ks,x=planD z C n wr ps/\y=.lst z' (ksD ks)/\1<=n/\n<=64/\(∀ k∈ks,A6 k)/\ks.length<=1000 /\
   (v.within 0 100=false->xe ⟨CW,[("at",.int 2)]⟩ ds)/\(v.within 0 100=true->(u.winB n wr=false->xe ⟨CW,[("at",.int 3)]⟩ ds) /\
   (∀(f:Int)(s h:Nat),v=.int f->u=.tup [.int ((s:Nat):Int),.int ((h:Nat):Int)]->s < n.toNat->h < n.toNat->u.winB n wr=true->Q (.bl (decide (((dist n.toNat s h+1:Nat):Int)+f<=((qt6 n ps ks s h:Nat):Int)))) ds))))
theorem qB1(T:Txt K mg a):VFn P w K mg base 6 a.f18 a.d18 ["plan", "keys", "far", "window"] (qz2 a.C3 a.C6):=by
 refine VFn.mk2 T.d18.F qA1 (wOf [true,true,true,true]) (λ ds Q Q' xe xe' hQ hx h=>by obtain⟨x,y,v,u,bp,e,h1,h2,h3,h4,h5,h6⟩:=h;exact⟨x,y,v,u,bp,e,h1,h2,h3,h4,λ b=>hx _ _ (h5 b),λ b=>⟨(h6 b).1,(h6 b).2.1,λ k=>hx _ _ ((h6 b).2.2.1 k),λ k=>let ⟨z,n,wr,ps,z',ks,a1,a2,a3,a4,a5,a6,a7,a8⟩:=(h6 b).2.2.2 k;⟨z,n,wr,ps,z',ks,a1,a2,a3,a4,a5,a6,λ q=>hx _ _ (a7 q),λ q=>⟨λ p=>hx _ _ ((a8 q).1 p),λ f s h e1 e2 e3 e4 e5=>hQ _ _ ((a8 q).2 f s h e1 e2 e3 e4 e5)⟩⟩⟩⟩) (λ ds Q xe h=>by obtain⟨x,y,v,u,bp,e,_⟩:=h;rw[e];exact⟨rfl,rfl⟩) (λ cdv A outer sh H E av hr=>⟨_,(Ac (Ev (Ah T.d14 (qr4 T) qa2 (rm hr) (vaN 0 (vaN 1 Ab))))
     (Ac (sif (Bu (te (Ah T.d3 (qc7 T) qa2 (rm hr) (vaN 2 (vaV (qa3 Aa) (vaV (qa3 (vgi T.D3)) Ab))))))
     (Ak (qw1 T.Cb (qc4 T) (rm hr) T.Cd T.d1.b qa2 (qa3 Aa)))
     At)
     (Ac (sif (Bu (te (Ah T.d15 (qB2 T) qa2 (rm hr) (vaN 0 (vaN 3 Ab)))))
     (Ak (qw1 T.Cb (qc4 T) (rm hr) T.Cd T.d1.b qa2 (qa3 Aa)))
     At)
     (Ak (Aq (Ah T.d17 (qr6 T) qa2 (rm hr) (vaN 0 (vaN 1 (vaN 2 (vaN 3 Ab)))))))))),λ ds Q xe h=>?_⟩)
 obtain⟨x,y,v,u,bp,rfl,hC,hy,⟨t,hv⟩,hu,h0,h1⟩:=h;have hx:=qF8 hC;have hvk:=qe2 hv;refine As [x,y,v,u] rfl ?_;refine qc0 (λ ds=>ds=[x,y,v,u]/\bp=true/\y.keyL=true) (λ K hK=>?_) ?_
 . refine qx4 (qR4 (x:=x) (y:=y) (rd0 hx) (qb7 rfl hy) (rd0 hx) ⟨x,y,bp,rfl,hC,hy,λ b=>?_,λ b=>⟨(h1 b).1,λ k=>?_,λ k=>?_⟩⟩)
   . exact qa1 (a:=[x,y,v,u]) rfl (h0 b)
   . exact qa1 (a:=[x,y,v,u]) rfl ((h1 b).2.2.1 k)
   exact qa1 (a:=[x,y,v,u]) rfl (hK _ ⟨rfl,b,k⟩)
 rintro ds ⟨rfl,b,k⟩;obtain⟨_,hW,_,hT⟩:=h1 b;obtain⟨z,n,wr,ps,z',ks,rfl,rfl,n1,n2,hk,hl,q2,q3⟩:=hT k;refine qG3 (v.within 0 100) (λ Q xe q=>?_) (λ h=>?_) q2
 . refine qg9 (qb6 (x:=v) (qb7 rfl hvk) (qc6 (y:=.int 0) rfl (qc6 (y:=.int 100) rfl (qc3 (qa1 (a:=v) (qb7 rfl hvk) ?_)))))
   refine qo9 (d:=.bl (v.within 0 100)) ?_ (qa1 rfl q);show v.kind.bind _=_;rw[hv];rfl
 refine qG3 (u.winB n wr) (λ Q xe q=>?_) (λ hw=>?_) (q3 h).1
 . exact qap6 (x:=planD z a.C3 n wr ps) (y:=u) rfl (qb7 rfl hu) rfl ⟨z,n,wr,ps,u,rfl,hW,rfl⟩ rfl q
 obtain⟨f,rfl,f0,f1⟩:=qf7 h;obtain⟨s,e,rfl,hs,he⟩:=qaa9 hw;refine qj3 (qg9 (qb6 (x:=planD z a.C3 n wr ps) rfl (qb6 (x:=.lst z' (ksD ks)) rfl (qb6 (x:=.int f) rfl (qb6 (x:=.tup [.int ((s:Nat):Int),.int ((e:Nat):Int)]) rfl (qc3 ?_))))));refine qa1 (a:=D.tup [.int ((s:Nat):Int),.int ((e:Nat):Int)]) rfl (qa1 (a:=D.int f) rfl (qa1 (a:=D.lst z' (ksD ks)) rfl (qa1 (a:=planD z a.C3 n wr ps) rfl ?_)));exact⟨_,⟨z,n,wr,ps,z',ks,f,s,e,rfl,n1,n2,hk,hl,hs,he,rfl⟩,qa1 (a:=[planD z a.C3 n wr ps,.lst z' (ksD ks),.int f,.tup [.int ((s:Nat):Int),.int ((e:Nat):Int)]]) rfl ((q3 h).2 f s e rfl rfl hs he hw)⟩
theorem qal4:qb1 ["_law_script"] ["_law_script"] (qa4 qac8):=by walk_at "s"
theorem qao5(T:Txt K mg a):Bh P w K mg base CX0 1 a.f19 a.d19 ["_law_script"] (qau2 K):=by
 refine T.d19.F.ok qal4 (λ vs H Q E h=>?_) (λ cdv A outer s H vs Q E hr h=>?_)
 . obtain⟨l,ns,rfl,_⟩:=h
   rfl
 obtain⟨l,ns,rfl,hS,hl,k⟩:=h;refine⟨_,(qw7 (qad5 (qT3 (qd4 qA8 (qd4 qA8 (qd4 qA8 (qd4 (qN3 ["_law_cell"] [none] (qE8 (qN1 qX4 (pv 0) qY5 (qY4 qA8))) (λ C s0 H0 ex=>(gnm 0 (show (["_law_cell"]:List Str).Nodup by decide +kernel))) (λ C s0 H0 ex=>qam8) (λ C s0 H0 ex=>(cbi qaj0 T.Di (qd4 (pv 0) qn2)))) qn2))))))),?_⟩;refine⟨_,rfl,_,rfl,l,_,rfl,hS,λ c hc=>?_⟩;have ec:Fe (ns.map V.int) none (some 63)=ns.map V.int:=by
   unfold Fe;have e63:HT.sIx (ns.map V.int).length (ns.map V.int).length (some (63:Int))=min 63 (ns.map V.int).length:=HT.qM3 _ _ 63;rw[e63,HT.qA6,List.drop_zero,Nat.sub_zero];apply zB8;rw[zAj];lia
 rw[ec];refine⟨c,rfl,⟨_,SqL.of qb0⟩,λ D hD=>?_⟩;have nD:D≠c:=λ z=>by rw[z,qb0] at hD;cases hD
 have hD':H D=none:=by rw[qb2 nD] at hD;exact hD
 refine qH6 (K:=K) (xs:=ns.map V.int) (λ i σ H1=>∃ v,σ=[v]/\H1=upd (upd H c (.lst (ns.map V.int))) D (.lst (((ns.take i).map λ n=>if n < 0 then -n else n).map V.int))) ⟨none,rfl,rfl⟩ ?_ ?_ ?_
 . rintro i σ H1 _ ⟨v,rfl,rfl⟩
   refine SqL.of ?_;rw[qb2 nD.symm,qb0]
 . rintro i x σ H1 hi ⟨v,rfl,rfl⟩
   obtain⟨n,hn,rfl⟩:∃ n,ns[i]? = some n/\V.int n=x:=by
     rw[zBe] at hi;cases e:ns[i]? with
     | none=>rw[e] at hi;cases hi
     | some z=>rw[e] at hi;exact⟨z,rfl,Option.some.inj hi⟩
   refine⟨_,rfl,_,rfl,_,qb0,?_,_,rfl,?_⟩
   . rw[zAj,zAj,zBl]
     exact qS6 (by lia)
   rw[qak2];congr 1;rw[List.take_add_one,hn];simp
 rintro σ H1 ⟨v,rfl,rfl⟩;rw[zAj,zB8 (zA8 _)];refine⟨by show 4<=sizeLine;decide,λ p hp=>?_⟩;have npD:p≠D:=λ z=>by rw[z,qb0] at hp;cases hp
 rw[qb2 npD] at hp;have npc:p≠c:=λ z=>by rw[z,qb0] at hp;cases hp
 rw[qb2 npc] at hp;refine k p D _ hp hD' (λ b o e=>?_) ⟨0,1234567891,0,ns.map λ n=>if n < 0 then -n else n,qb0,?_,by decide,by decide,by decide,by decide,?_⟩
 . rw[qb2 (qc2 e hp),qb2 (qc2 e hD'),qb2 (qc2 e hc)]
   exact e
 . rw[qb2 npD.symm,qb0]
 intro n hn;obtain⟨m,_,rfl⟩:=zAv.mp hn
 split<;>lia
theorem ql2:qb1 ["_law_bag_here", "_law_many", "_law_cell", "_law_value", "_law_first", "_law_second"] ["_law_bag_here", "_law_many"] (qa4 qL8):=by walk_at "s"
theorem qb3(T:Txt K mg a):VFn P w K mg base 1 a.f20 a.d20 ["_law_bag_here", "_law_many"] qt4:=by
 refine VFn.mk' T.d20.F ql2 (wOf [true,true]) (λ ds Q Q' xe xe' hQ _ h=>by obtain⟨b,m,ns,e,h1,h2,h3,q⟩:=h;exact⟨b,m,ns,e,h1,h2,h3,λ v b' v0 v1 B=>hQ _ _ (q v b' v0 v1 B)⟩) (λ ds Q xe ⟨b,m,ns,e,_⟩=>by rw[e];rfl) (λ ds Q xe h=>by obtain⟨b,m,ns,e,⟨x,y,z,eb,_⟩,_⟩:=h;rw[e,eb];rfl) (λ cdv A outer sh H E av hr=>⟨_,(Ac (sif (q2 (Am (qf9 hr.u64) (qb8 _)) A8 (v2 (Al qa8) Af (vnm 0) Aa) Aa)
     (Ac (Aj 2 ql2.nd (qa3 Aa))
     (Ac (sif (q2 (Am Gz (qb8 _)) Hb (v2 (Al qa8) Af (vnm 0) Aa) (vbi qq1 qq0.ops T.Cm (qa0 (v2 (Al qa8) Af (vnm 0) Aa) qa5 rfl)))
     (Ak (Aj 2 ql2.nd (qb9 (v2 (Al qa8) Af (v2 (Al qa8) Af (vnm 0) Aa) (v2 (Al qa8) Af (vnm 0) Aa)))))
     At)
     (Ac (saug (vpn 0) Aa Aa qaz0)
     (Ac (sif (q2 (Am F6 (qb8 _)) F9 (vnm 2) Aa)
     (Ak (sasg (qb9 (vnm 2)) (Gb (vpn 0) Aa)))
     At)
     (Ak (sasg (qa3 (v2 (Ag qh6) qh5 (v2 (Ag qd8) qd7 (v2 (Ag qd8) qd7 (v2 (Ag qr2) qr1 (v2 (Al qa8) Af (vnm 0) Aa) Aa) (v2 (Ag qh6) qh5 (vnm 2) Aa)) (v2 (Ag qr2) qr1 Aa (v2 (Al qa8) Af (vnm 0) Aa))) Aa)) (Gb (vpn 0) Aa)))))))
     At)
     (Ac (sif (q2 (Am Ed (qb8 _)) Ee (v2 (Al qa8) Af (vnm 0) Aa) Aa)
     (Ac (Aj 3 ql2.nd (qa3 (v2 (Ag qh6) qh5 (v2 (Al qa8) Af (vnm 0) Aa) (vnm 1))))
     (Ac (sasg (qa3 (v2 (Ag qB0) qae7 (v2 (Al qa8) Af (vnm 0) Aa) (vnm 1))) (Gb (vpn 0) Aa))
     (Ak (Aq (emv 3)))))
     At)
     (Ac (Aj 4 ql2.nd (qa3 (v2 (Ag qh6) qh5 (v2 (Ag qr2) qr1 (v2 (Ag qd8) qd7 (v2 (Al qa8) Af (vnm 0) Aa) Aa) Aa) Aa)))
     (Ac (Aj 5 ql2.nd (qa3 (v2 (Ag qh6) qh5 (v2 (Ag qr2) qr1 (v2 (Ag qh6) qh5 (v2 (Ag qr2) qr1 (vnm 4) (vnm 4)) Aa) Aa) Aa)))
     (Ac (sif (q2 (Am Ed (qb8 _)) Ee (vnm 1) Aa)
     (Ak (Aq (qa3 (v2 (Ag qh6) qh5 (v2 (Ag qd8) qd7 (v2 (Ag qr2) qr1 (vnm 5) Aa) (vnm 4)) (vnm 1)))))
     At)
     (Ak (Aq (qa3 (v2 (Ag qh6) qh5 (v2 (Ag qB0) qae7 (vnm 5) Aa) (vnm 1)))))))))),λ ds Q xe h=>?_⟩)
 obtain⟨b,m,ns,rfl,⟨x,y,z,rfl,B⟩,hm0,hm1,k⟩:=h;refine As [bagD x y z ns,.int m,.unk,.unk,.unk,.unk] rfl ?_;refine qc0 (λ ds=>∃ x' y' z' c,ds=[bagD x' y' z' ns,.int m,c,.unk,.unk,.unk]/\Bg x' y' z' ns) (λ K hK=>?_) ?_
 . refine if_v (b:=decide (x=0)) rfl (λ _=>?_) (λ _=>hK _ ⟨x,y,z,_,rfl,B⟩)
   refine qd6 [bagD x y z ns,.int m,.int 0,.unk,.unk,.unk] (λ K hK=>hK) ?_;refine qc0 (λ ds=>∃ c:Int,0<=c/\ds=[bagD x y z ns,.int m,.int c,.unk,.unk,.unk]) (λ K hK=>?_) ?_
   . refine if_v (b:=decide (z < (((ns.map D.int).length:Nat):Int))) rfl (λ h2=>?_) (λ _=>hK _ ⟨0,by decide,rfl⟩)
     obtain⟨v,hv,e⟩:=qg1 (xs:=ns.map D.int) (i:=z) B.z0 (zAn h2);obtain⟨c,hc,rfl⟩:=zAv.mp hv;exact qo5 (Ad (y:=.int z) (x:=.lst false (ns.map .int)) rfl rfl e) rfl (hK _ ⟨c,B.nn c hc,rfl⟩)
   rintro ds ⟨c,hc,rfl⟩;refine qd6 [bagD x y (z+1) ns,.int m,.int c,.unk,.unk,.unk] (λ K hK=>?_) ?_
   . exact qaB0 (k:=2) (x:=z) (y:=1) (ys:=[.int x,.int y,.int z,.lst false (ns.map .int)]) rfl rfl (by decide) rfl rfl hK
   refine qc0 (λ ds=>∃ x':Int,0<=x'/\ds=[bagD x' y (z+1) ns,.int m,.int c,.unk,.unk,.unk]) (λ K hK=>?_) ?_
   . refine if_v (b:=decide (1000000000000000000<=c)) rfl (λ _=>?_) (λ _=>hK _ ⟨x,B.x0,rfl⟩)
     exact qal1 (d:=.int c) (ys:=[.int x,.int y,.int (z+1),.lst false (ns.map .int)]) (k:=0) (n:=0) rfl rfl rfl rfl rfl (hK _ ⟨c,hc,rfl⟩)
   rintro ds ⟨x',hx',rfl⟩;have e1:f2 Gn (f2 gAdd (f2 gAdd (f2 Ha (f2 gIx (rdN 0) (kC (.int 1))) (kC (.int 48271))) (f2 Gn (rdN 2) (kC (.int 2147483647)))) (f2 Ha (kC (.int 7919)) (f2 gIx (rdN 0) (kC (.int 2))))) (kC (.int 2147483647)) [bagD x' y (z+1) ns,.int m,.int c,.unk,.unk,.unk]=some (.int ((y * 48271+c % 2147483647+7919 * (z+1)) % 2147483647)) :=
     Ad (Ad (Ad (Ad (x:=.int y) rfl rfl (mulR (by decide))) (Ad rfl rfl (Bs (by decide))) rfl) (Ad (y:=.int (z+1)) rfl rfl (Gv (by decide))) rfl) rfl (Bs (by decide))
   exact qX3 (ys:=[.int x',.int y,.int (z+1),.lst false (ns.map .int)]) (k:=1) (n:=1) e1 rfl rfl rfl (hK _ ⟨x',_,z+1,_,rfl,hx',zBo _ (by decide),zBk _ (by decide),by have:=B.z0;lia,B.nn⟩)
 rintro ds ⟨x',y',z',c,rfl,B'⟩;refine qag7 (decide (0 < x')) rfl (λ h1=>?_) λ _=>?_
 . refine qd6 [bagD x' y' z' ns,.int m,c,.int (x' % m),.unk,.unk] (λ K hK=>qa1 (Ad (x:=.int x') rfl rfl (Bs hm0)) hK) ?_
   refine qd6 [bagD (x' / m) y' z' ns,.int m,c,.int (x' % m),.unk,.unk] (λ K hK=>?_) ?_
   . exact qX3 (ys:=[.int x',.int y',.int z',.lst false (ns.map .int)]) (k:=0) (n:=0) (Ad (x:=.int x') rfl rfl (qai5 hm0 hm1)) rfl rfl rfl hK
   exact k (x' % m) _ (zBo _ (by lia)) (zBk _ hm0) ⟨_,_,_,rfl,Int.ediv_nonneg B'.x0 (by lia),B'.y0,B'.y1,B'.z0,B'.nn⟩
 have f0:0<=(y'+1) * 39373 % 1000000007:=zBo _ (by decide);have f1:(y'+1) * 39373 % 1000000007 < 1000000007:=zBk _ (by decide);refine qd6 [bagD x' y' z' ns,.int m,c,.unk,.int ((y'+1) * 39373 % 1000000007),.unk] (λ K hK=>qa1 (Ad (Ad (Ad (x:=.int y') rfl rfl rfl) rfl (mulR (by decide))) rfl (Bs (by decide))) hK) ?_;generalize (y'+1) * 39373 % 1000000007=f at f0 f1;refine qd6 [bagD x' y' z' ns,.int m,c,.unk,.int f,.int (f * f % 998244353 * 30011 % 998244353)] (λ K hK=>qa1 (Ad (Ad (Ad (Ad rfl rfl (Gv (qz7 (by lia) (by lia)))) rfl (Bs (by decide))) rfl (mulR (by decide))) rfl (Bs (by decide))) hK) ?_;generalize f * f % 998244353 * 30011 % 998244353=s;have kk:∀ v,Q (.int (v % m)) [bagD x' y' z' ns,.int m]:=λ v=>k _ _ (zBo _ (by lia)) (zBk _ hm0) ⟨_,_,_,rfl,B'⟩
 refine qag7 (decide (1000000 < m)) rfl (λ _=>?_) λ _=>?_
 . exact qi6 _ (Ad (Ad (Ad rfl rfl (mulR (by decide))) rfl rfl) rfl (Bs hm0)) (kk _)
 exact qi6 _ (Ad (Ad rfl rfl (qai5 (by decide) (by decide))) rfl (Bs hm0)) (kk _)
theorem qt8:qb1 ["_law_bag_here", "_law_most", "_law_way", "_law_rooms"] ["_law_bag_here", "_law_most"] (qa4 qM2):=by walk_at "s"
def qac4:VSp:=λ ds Q _=>∃ b ns,ds=[b,.int 64]/\isBag ns b/\∀ b' n wr,isBag ns b'->1<=n->n<=64->Q (caseD n wr []) [b',.int 64]
theorem qaf0(T:Txt K mg a):VFn P w K mg base 2 a.f21 a.d21 ["_law_bag_here", "_law_most"] qac4:=by
 refine VFn.mk' T.d21.F qt8 (wOf [true,true]) (λ ds Q Q' xe xe' hQ _ ⟨b,ns,e,h1,q⟩=>⟨b,ns,e,h1,λ b' n wr a1 a2 a3=>hQ _ _ (q b' n wr a1 a2 a3)⟩) (λ ds Q xe ⟨b,ns,e,_⟩=>by rw[e];rfl) (λ ds Q xe h=>by obtain⟨b,ns,e,⟨x,y,z,eb,_⟩,_⟩:=h;rw[e,eb];rfl) (λ cdv A outer sh H E av hr=>⟨_,(Ac (Aj 2 qt8.nd (Ah T.d20 (qb3 T) qa2 (rm hr) (vaN 0 (vaV (qa3 Aa) Ab))))
     (Ac (Aj 3 qt8.nd (qb9 (vnm 1)))
     (Ac (sif (q2 (Am Gz (qb8 _)) Hb (vnm 2) Aa)
     (Ak (Aj 3 qt8.nd (e2 (Ag qd8) qd7 (qa3 Aa) (Ah T.d20 (qb3 T) qa2 (rm hr) (vaN 0 (vaV (qb9 (v2 (Al qa8) Af (Bf (qa0 Aa (qa0 Aa (qa0 (vnm 1) qa5 rfl) rfl) rfl)) (vnm 2))) Ab))))))
     At)
     (Ak (Aq (Dq (vaV (qb9 (vnm 3)) (vaV (e2v (Bb (qf9 hr.u64) (qb8 _)) A8 (Ah T.d20 (qb3 T) qa2 (rm hr) (vaN 0 (vaV (qa3 Aa) Ab))) Aa) (vaV (qa3 (Bf qa5)) Ab))))))))),λ ds Q xe h=>?_⟩)
 obtain⟨b,ns,rfl,B,k⟩:=h;refine As [b,.int 64,.unk,.unk] rfl ?_;refine qc0 (λ ds=>∃ b w,ds=[b,.int 64,.int w,.unk]/\isBag ns b/\0<=w/\w < 4) (λ K hK=>?_) ?_
 . exact qc1 rfl B rfl (by decide) (by decide) λ v b' v0 v1 B'=>hK _ ⟨b',v,rfl,B',v0,v1⟩
 rintro ds ⟨b,way,rfl,B,w0,w1⟩;refine qd6 [b,.int 64,.int way,.int 64] (λ K hK=>qo5 (d:=.int 64) rfl rfl hK) ?_;refine qc0 (λ ds=>∃ b n,ds=[b,.int 64,.int way,.int n]/\isBag ns b/\1<=n/\n<=64) (λ K hK=>?_) ?_
 . refine if_v (b:=decide (way < 3)) rfl (λ hb=>?_) λ _=>hK _ ⟨b,64,rfl,B,by decide,by decide⟩
   have hb:way < 3:=zAn hb;obtain⟨d,hd,ed⟩:=qg1 (xs:=[D.int 4,D.int 8,D.int 64]) (i:=way) w0 hb;obtain⟨m,rfl,m0,m1⟩:∃ m:Int,d=.int m/\1<=m/\m<=64:=by
     simp only[zA7,zAi,zBb] at hd;rcases hd with rfl | rfl | rfl
     . exact⟨_,rfl,by decide,by decide⟩
     . exact⟨_,rfl,by decide,by decide⟩
     exact⟨_,rfl,by decide,by decide⟩
   refine qf2 (qS4 (x:=.int 1) rfl ?_);refine qt1 (ds:=[b,.int 64,.int way,.int 64]) (m:=m) rfl B (Ad rfl rfl ed) (by lia) (by lia) λ v b' v0 v1 B'=>?_
   exact qa1 (a:=D.int (1+v)) rfl (hK _ ⟨b',1+v,rfl,B',by lia,by lia⟩)
 rintro ds ⟨b,n,rfl,B,n1,n2⟩;refine qj3 (qj6 (qd1 (y:=.int n) rfl rfl (qf5 (qz0 ?_))));refine qc1 (ds:=[b,.int 64,.int way,.int n]) rfl B rfl (by decide) (by decide) λ v b' v0 v1 B'=>?_
 refine qa1 (a:=D.bl (decide (v=1))) rfl ?_;refine qc6 (y:=.lst false []) rfl (qc3 ⟨by show 3<=1000000;decide,?_⟩);exact k b' n (decide (v=1)) B' n1 n2
theorem qX5:qb1 ["_law_bag_here", "_law_rooms", "_law_home_here", "_law_way"] ["_law_bag_here", "_law_rooms", "_law_home_here"] (qa4 qac7):=by walk_at "s"
def qal2:VSp:=λ ds Q _=>∃ b n h ns,ds=[b,.int n,.int h]/\isBag ns b/\1<=n/\n<=64/\0<=h/\h < n/\∀ k b',qn4 k->isBag ns b'->Q (.int k) [b',.int n,.int h]
theorem qN8(T:Txt K mg a):VFn P w K mg base 2 a.f22 a.d22 ["_law_bag_here", "_law_rooms", "_law_home_here"] qal2:=by
 refine VFn.mk' T.d22.F qX5 (wOf [true,true,true]) (λ ds Q Q' xe xe' hQ _ h=>by obtain⟨b,n,h,ns,e,h1,h2,h3,h4,h5,q⟩:=h;exact⟨b,n,h,ns,e,h1,h2,h3,h4,h5,λ k b' l B=>hQ _ _ (q k b' l B)⟩) (λ ds Q xe h=>by obtain⟨b,n,h,ns,e,_⟩:=h;rw[e];rfl) (λ ds Q xe h=>by obtain⟨b,n,h,ns,e,⟨x,y,z,eb,_⟩,_⟩:=h;rw[e,eb];rfl) (λ cdv A outer sh H E av hr=>⟨_,(Ac (Aj 3 qX5.nd (Ah T.d20 (qb3 T) qa2 (rm hr) (vaN 0 (vaV (qa3 Aa) Ab))))
     (Ac (sif (q2 (Am (qf9 hr.u64) (qb8 _)) A8 (vnm 3) Aa)
     (Ak (Aq (e2 (Ag qj5) qj4 (qa3 (v2 (Ag qj5) qj4 (Fx 1000000000000000000) (v2 (Ag qh6) qh5 (v2 (Ag qj5) qj4 (Fx 1000000000000000000) (vnm 2)) (vnm 1)))) (e2n 1 (Ag qr2) qr1 (Ah T.d20 (qb3 T) qa2 (rm hr) (vaN 0 (vaV (qa3 Aa) Ab)))))))
     At)
     (Ak (Aq (e2n 2 (Ag qd8) qd7 (e2n 1 (Ag qr2) qr1 (Ah T.d20 (qb3 T) qa2 (rm hr) (vaN 0 (vaV (qa3 (v2 (Al qa8) Af (Bf (qa0 Aa (qa0 Aa (qa0 Aa (qa0 Aa (qa0 (Fx 1000000000000000) qa5 rfl) rfl) rfl) rfl) rfl)) (v2 (Ag qj5) qj4 (vnm 3) Aa))) Ab))))))))),λ ds Q xe h=>?_⟩)
 obtain⟨b,n,h,ns,rfl,B,n1,n2,h0,h1,k⟩:=h;refine As [b,.int n,.int h,.unk] rfl ?_;refine qc0 (λ ds=>∃ b w,ds=[b,.int n,.int h,.int w]/\isBag ns b/\0<=w/\w < 6) (λ K hK=>?_) ?_
 . exact qc1 rfl B rfl (by decide) (by decide) λ v b' v0 v1 B'=>hK _ ⟨b',v,rfl,B',v0,v1⟩
 rintro ds ⟨b,way,rfl,B,w0,w1⟩;refine qag7 (decide (way=0)) rfl (λ _=>?_) λ hw=>?_
 . refine qj3 ?_
   have e0:0<=(1000000000000000000 - h) % n:=zBo _ (by lia);have e1:(1000000000000000000 - h) % n < n:=zBk _ (by lia);refine qa1 (a:=D.int (1000000000000000000 - (1000000000000000000 - h) % n)) (Ad rfl (Ad rfl rfl (Bs (by lia))) rfl) ?_;refine⟨rfl,qc1 (ds:=[b,.int n,.int h,.int way]) rfl B rfl (by decide) (by decide) λ v b' v0 v1 B'=>?_⟩;have e2:0<=n * v:=Int.mul_nonneg (by lia) v0;have e3:n * v<=64 * 8:=by
     have q1:n * v<=64 * v:=Int.mul_le_mul_of_nonneg_right n2 v0;lia
   refine qa1 (a:=D.int (n * v)) (Gv (qz7 (by lia) (by lia))) (qa1 (a:=D.int (1000000000000000000 - (1000000000000000000 - h) % n - n * v)) rfl ?_);exact k _ _ (.inr ⟨by lia,by lia⟩) B'
 have hw:¬ way=0:=zBt hw;obtain⟨f,hf,ef⟩:=qg1 (xs:=[D.int 9,D.int 9,D.int 9,D.int 9,D.int 1000000000000000]) (i:=way - 1) (by lia) (by show way - 1 < 5;lia);obtain⟨g,rfl,g0,g1⟩:∃ g:Int,f=.int g/\0 < g/\g<=1000000000000000:=by
   simp only[zA7,zAi,zBb] at hf;rcases hf with rfl | rfl | rfl | rfl | rfl
   . exact⟨9,rfl,by decide,by decide⟩
   . exact⟨9,rfl,by decide,by decide⟩
   . exact⟨9,rfl,by decide,by decide⟩
   . exact⟨9,rfl,by decide,by decide⟩
   exact⟨_,rfl,by decide,by decide⟩
 refine qj3 ⟨rfl,rfl,?_⟩;refine qc1 (ds:=[b,.int n,.int h,.int way]) (m:=g) rfl B (Ad (x:=.lst false [.int 9,.int 9,.int 9,.int 9,.int 1000000000000000]) (y:=.int (way - 1)) rfl rfl ef) g0 (Int.lt_of_le_of_lt g1 (by decide)) λ v b' v0 v1 B'=>?_
 have e2:0<=n * v:=Int.mul_nonneg (by lia) v0;have e3:n * v<=64 * 1000000000000000:=by
   have q1:n * v<=64 * v:=Int.mul_le_mul_of_nonneg_right n2 v0;lia
 refine qa1 (a:=D.int (n * v)) (Gv (qz7 (by lia) (by lia))) (qa1 (a:=D.int (h+n * v)) rfl ?_);exact k _ _ (.inl ⟨by lia,by lia⟩) B'
theorem qd3:qb1 ["_law_bag_here", "_law_case_here", "_law_many", "_law_rooms", "_law_way", "_law_homes", "_law_found", "_law_k", "_law_home_here", "_law_key_here", "_law_told_here"] ["_law_bag_here", "_law_case_here", "_law_many"] (qa4 qM0):=by walk_at "s"
def qac2:VSp:=λ ds Q _=>∃ b n wr m ns,ds=[b,caseD n wr [],.int m]/\isBag ns b/\1<=n/\n<=64/\0<=m/\m<=100 /\
 ∀ b' ks ps,isBag ns b'->ks.Nodup->(∀ k∈ks,qn4 k)->(ks.length:Int)<=m->(1<=m->ks≠[])->Drawn ks ps->Q (.lst false (ksD ks)) [b',caseD n wr ps,.unk]
theorem qaA5{j:Int}(h:0<=j):gSl (.lst false (ksD ks)) none (some j)=some (.lst false (ksD (ks.take j.toNat))):=by
 have e:Bl (ksD ks) none (some j)=ksD (ks.take j.toNat):=by
   rw[show j=((j.toNat:Nat):Int) by lia,qv7,Int.toNat_natCast];unfold ksD;rw[List.map_take]
 show gd (D.imms (Bl (ksD ks) none (some j))=true) (.lst false (Bl (ksD ks) none (some j)))=_;rw[e];exact qh8 (qc9 _)
theorem qae8(T:Txt K mg a):VFn P w K mg base 3 a.f23 a.d23 ["_law_bag_here", "_law_case_here", "_law_many"] qac2:=by
 refine VFn.mk' T.d23.F qd3 (wOf [true,true,true]) (λ ds Q Q' xe xe' hQ _ h=>by obtain⟨b,n,wr,m,ns,e,h1,h2,h3,h4,h5,q⟩:=h;exact⟨b,n,wr,m,ns,e,h1,h2,h3,h4,h5,λ b' ks ps a1 a2 a3 a4 a5 a6=>hQ _ _ (q b' ks ps a1 a2 a3 a4 a5 a6)⟩) (λ ds Q xe h=>by obtain⟨b,n,wr,m,ns,e,_⟩:=h;rw[e];rfl) (λ ds Q xe h=>by obtain⟨b,n,wr,m,ns,e,⟨x,y,z,eb,_⟩,_⟩:=h;rw[e,eb];rfl) (λ cdv A outer sh H E av hr=>⟨_,(Ac (Aj 3 qd3.nd (qb9 (v2 (Al qa8) Af (vnm 1) Aa)))
     (Ac (Aj 4 qd3.nd (Ah T.d20 (qb3 T) qa2 (rm hr) (vaN 0 (vaV (qa3 Aa) Ab))))
     (Ac (Aj 5 qd3.nd (Dq (vaV (Ah T.d20 (qb3 T) qa2 (rm hr) (vaN 0 (vaN 3 Ab))) (vaV (Ah T.d20 (qb3 T) qa2 (rm hr) (vaN 0 (vaN 3 Ab))) Ab))))
     (Ac (Aj 6 qd3.nd (qa3 (Bf qa5)))
     (Ac (qS7 PassesOwn.leaving T.Ck (Du (vaN 2 Ab)) (Br 7 qd3.nd)
     (Ac (Aj 8 qd3.nd (Ah T.d20 (qb3 T) qa2 (rm hr) (vaN 0 (vaN 3 Ab))))
     (Ac (sif (q2 (Am (qf9 hr.u64) (qb8 _)) A8 (vnm 4) Aa)
     (Ak (Aj 8 qd3.nd (qa3 (v2 (Ag qj5) qj4 (v2 (Ag qj5) qj4 (vnm 3) Aa) (v2 (Ag qB0) qae7 (vnm 8) Aa)))))
     At)
     (Ac (sif (q2 (Am (qf9 hr.u64) (qb8 _)) A8 (vnm 4) Aa)
     (Ak (Aj 8 qd3.nd (qb9 (v2 (Al qa8) Af (vnm 5) (v2 (Ag qh6) qh5 (vnm 8) Aa)))))
     At)
     (Ac (sif (Fl (q2 (Am (qf9 hr.u64) (qb8 _)) A8 (vnm 4) Aa) (Eg (q2 (Am Ed (qb8 _)) Ee (v2 (Ag qh6) qh5 (vnm 8) Aa) Aa))).te
     (Ak (Aj 8 qd3.nd (qb9 (v2 (Al qa8) Af (vnm 5) Aa))))
     At)
     (Ac (Aj 9 qd3.nd (Ah T.d22 (qN8 T) qa2 (rm hr) (vaN 0 (vaN 3 (vaN 8 Ab)))))
     (Ak (sif (q2 (Am qp1 (by with_unfolding_all rfl)) Fk (vnm 9) (vnm 6))
     (Ak (Ev (emutN 6 qaf4 PySem.F.plainAttrs_list PySem.F.slot_list_append PySem.F.type_list_append qn7 (vaN 9 Ab))))
     At))))))))
     (Ac (Aj 10 qd3.nd (Ah T.d20 (qb3 T) qa2 (rm hr) (vaN 0 (vaV (qa3 Aa) Ab))))
     (Ac (Gc PassesOwn.leaving (qa3 (vsl (vnm 6) Et (Eu (v2 (Al qa8) Af (Bf (qa0 Aa (qa0 Aa (qa0 Aa (qa0 Aa (qa0 Aa (qa0 Aa (qa0 Aa (qa0 Aa (qa0 Aa (qa0 Aa qa5 rfl) rfl) rfl) rfl) rfl) rfl) rfl) rfl) rfl) rfl)) (vnm 10))))) (Br 9 qd3.nd)
     (Ak (Ev (emutP qaf4 PySem.F.plainAttrs_list PySem.F.slot_list_append PySem.F.type_list_append qn7 (vpix (vpn 1) Aa) (vaV (etup (vaV (qb9 (vnm 9)) (vaV (Ah T.d22 (qN8 T) qa2 (rm hr) (vaN 0 (vaN 3 (vaV (Ah T.d20 (qb3 T) qa2 (rm hr) (vaN 0 (vaN 3 Ab))) Ab)))) Ab))) Ab)))))
     (Ac (qS7 PassesOwn.leaving T.Ck (Du (vaV (qa3 (v2 (Ag qh6) qh5 (vnm 10) Aa)) Ab)) (Br 7 qd3.nd)
     (Ak (Ev (emutP qax5 PySem.F.plainAttrs_list PySem.F.slot_list_insert PySem.F.type_list_insert qT8 (vpix (vpn 1) Aa) (vaV (qa3 Aa) (vaV (etup (vaV (qa3 (v2 (Ag qd8) qd7 (v2 (Ag qd8) qd7 (v2 (Ag qr2) qr1 Aa (Fx 100000000000000000)) (v2 (Ag qr2) qr1 Aa (vnm 7))) (vnm 10))) (vaV (Ah T.d22 (qN8 T) qa2 (rm hr) (vaN 0 (vaN 3 (vaV (qa3 Aa) Ab)))) Ab))) Ab))))))
     (Ak (Aq (emv 6))))))))))),λ ds Q xe h=>?_⟩)
 obtain⟨b,n,wr,m,ns,rfl,B,n1,n2,m0,m1,q⟩:=h;refine As [b,caseD n wr [],.int m,.unk,.unk,.unk,.unk,.unk,.unk,.unk,.unk] rfl ?_;refine qd6 [b,caseD n wr [],.int m,.int n,.unk,.unk,.unk,.unk,.unk,.unk,.unk] (λ K hK=>qo5 (d:=.int n) rfl rfl hK) ?_;refine qc0 (λ ds=>∃ b w,ds=[b,caseD n wr [],.int m,.int n,.int w,.unk,.unk,.unk,.unk,.unk,.unk]/\isBag ns b/\0<=w/\w < 4) (λ K hK=>?_) ?_
 . exact qc1 rfl B rfl (by decide) (by decide) λ v b' v0 v1 B'=>hK _ ⟨b',v,rfl,B',v0,v1⟩
 rintro ds ⟨b,way,rfl,B,w0,w1⟩;refine qc0 (λ ds=>∃ b g1 g2,ds=[b,caseD n wr [],.int m,.int n,.int way,.lst false [.int g1,.int g2],.unk,.unk,.unk,.unk,.unk]/\isBag ns b/\0<=g1/\g1 < n/\0<=g2/\g2 < n) (λ K hK=>?_) ?_
 . refine qE3 (ds:=[b,caseD n wr [],.int m,.int n,.int way,.unk,.unk,.unk,.unk,.unk,.unk]) (m:=n) rfl B rfl (by decide) (by lia) (by lia) λ g1 b1 a0 a1 B1=>?_
   refine qE3 (ds:=[b1,caseD n wr [],.int m,.int n,.int way,.unk,.unk,.unk,.unk,.unk,.unk]) (m:=n) rfl B1 rfl (by decide) (by lia) (by lia) λ g2 b2 c0 c1 B2=>?_
   exact⟨by show 2<=1000000;decide,hK _ ⟨b2,g1,g2,rfl,B2,a0,a1,c0,c1⟩⟩
 rintro ds ⟨b,g1,g2,rfl,B,a0,a1,c0,c1⟩;refine qd6 [b,caseD n wr [],.int m,.int n,.int way,.lst false [.int g1,.int g2],.lst false (ksD []),.unk,.unk,.unk,.unk] (λ K hK=>hK) ?_;refine qc0 (λ ds=>∃ b ks d7 d8 d9,ds=[b,caseD n wr [],.unk,.int n,.int way,.lst false [.int g1,.int g2],.lst false (ksD ks),d7,d8,d9,.unk]/\isBag ns b/\ks.Nodup/\(∀ k∈ks,qn4 k)/\ks.length<=m.toNat/\(1<=m.toNat->ks≠[])) (λ K hK=>?_) ?_
 . refine qV0 (n:=m) rfl (qaf6 (by lia) (by lia)) ?_
   refine qg8 (λ i ds=>∃ b ks d7 d8 d9,ds=[b,caseD n wr [],.unk,.int n,.int way,.lst false [.int g1,.int g2],.lst false (ksD ks),d7,d8,d9,.unk]/\isBag ns b/\ks.Nodup/\(∀ k∈ks,qn4 k)/\ks.length<=i/\(1<=i->ks≠[])) _ 0 _ ⟨b,[],_,_,_,rfl,B,List.nodup_nil,λ _ h=>by simp at h,zA8 _,λ h=>absurd h (by decide)⟩ ?_ ?_
   . rintro i x hx ds ⟨b,ks,d7,d8,d9,rfl,B,nd,lk,hlen,hne⟩ K2 hK2
     rw[zBv] at hlen hne hK2;obtain⟨hi,rfl⟩:=qal7 hx;refine As [b,caseD n wr [],.unk,.int n,.int way,.lst false [.int g1,.int g2],.lst false (ksD ks),.int (i:Nat),d8,d9,.unk] rfl ?_;refine qc0 (λ ds=>∃ b h,ds=[b,caseD n wr [],.unk,.int n,.int way,.lst false [.int g1,.int g2],.lst false (ksD ks),.int (i:Nat),.int h,d9,.unk]/\isBag ns b/\0<=h/\h < n) (λ K hK=>?_) ?_
     . exact qE3 (m:=n) rfl B rfl (by decide) (by lia) (by lia) λ v b' v0 v1 B'=>hK _ ⟨b',v,rfl,B',v0,v1⟩
     rintro ds ⟨b,h,rfl,B,h0,h1⟩;refine qc0 (λ ds=>∃ h,ds=[b,caseD n wr [],.unk,.int n,.int way,.lst false [.int g1,.int g2],.lst false (ksD ks),.int (i:Nat),.int h,d9,.unk]/\0<=h/\h < n) (λ K hK=>?_) ?_
     . refine if_v (b:=decide (way=1)) rfl (λ _=>?_) λ _=>hK _ ⟨h,rfl,h0,h1⟩
       exact qf8 (d:=.int (n - 1 - h / 3)) (Ad (x:=.int (n - 1)) rfl (Ad (x:=.int h) (y:=.int 3) rfl rfl (qai5 (by decide) (by decide))) rfl) (hK _ ⟨_,rfl,by lia,by lia⟩)
     rintro ds ⟨h,rfl,h0,h1⟩;refine qc0 (λ ds=>∃ h,ds=[b,caseD n wr [],.unk,.int n,.int way,.lst false [.int g1,.int g2],.lst false (ksD ks),.int (i:Nat),.int h,d9,.unk]/\0<=h/\h < n) (λ K hK=>?_) ?_
     . refine if_v (b:=decide (way=2)) rfl (λ _=>?_) λ _=>hK _ ⟨h,rfl,h0,h1⟩
       obtain⟨v,hv,ev⟩:=qg1 (xs:=[D.int g1,D.int g2]) (i:=h % 2) (zBo _ (by decide)) (by show h % 2 < 2;lia);simp only[zA7,zAi,zBb] at hv;rcases hv with rfl | rfl
       . exact qo5 (Ad (x:=.lst false [.int g1,.int g2]) rfl (Ad (x:=.int h) (y:=.int 2) rfl rfl (Bs (by decide))) ev) rfl (hK _ ⟨g1,rfl,a0,a1⟩)
       exact qo5 (Ad (x:=.lst false [.int g1,.int g2]) rfl (Ad (x:=.int h) (y:=.int 2) rfl rfl (Bs (by decide))) ev) rfl (hK _ ⟨g2,rfl,c0,c1⟩)
     rintro ds ⟨h,rfl,h0,h1⟩;refine qc0 (λ ds=>∃ h,ds=[b,caseD n wr [],.unk,.int n,.int way,.lst false [.int g1,.int g2],.lst false (ksD ks),.int (i:Nat),.int h,d9,.unk]/\0<=h/\h < n) (λ K hK=>?_) ?_
     . refine if_of (decide (way=3)&&decide (0 < h % 3)) (λ Q q=>qh0 (decide (way=3)) (decide (0 < h % 3)) (λ Q q=>qc5 rfl q) (λ _ Q q=>qc5 (Ad (Ad (x:=.int h) (y:=.int 3) rfl rfl (Bs (by decide))) rfl rfl) q) q) (λ _=>?_) λ _=>hK _ ⟨h,rfl,h0,h1⟩
       exact qo5 (d:=.int g1) rfl rfl (hK _ ⟨g1,rfl,a0,a1⟩)
     rintro ds ⟨h,rfl,h0,h1⟩;refine qc0 (λ ds=>∃ b kk,ds=[b,caseD n wr [],.unk,.int n,.int way,.lst false [.int g1,.int g2],.lst false (ksD ks),.int (i:Nat),.int h,.int kk,.unk]/\isBag ns b/\qn4 kk) (λ K hK=>?_) ?_
     . exact qaA8 (x:=b) (y:=.int n) (w:=.int h) (qb7 rfl B.known) rfl rfl rfl (qb7 rfl B.known) ⟨b,n,h,ns,rfl,B,n1,n2,h0,h1,λ kk b' l B'=>hK _ ⟨b',kk,rfl,B',l⟩⟩
     rintro ds ⟨b,kk,rfl,B,l⟩;refine if_v (b:=!decide (kk∈ks)) (Ad rfl rfl qN9) (λ hb=>?_) λ hb=>?_
     . have hm:¬ kk∈ks:=λ z=>by rw[zAh z] at hb;cases hb
       refine qaB3 (ys:=ksD ks) (d:=.int kk) rfl rfl rfl (by decide) (by rw[qe9];unfold big;lia) ?_;rw[qZ3];refine hK2 _ ⟨b,ks++[kk],_,_,_,rfl,B,List.nodup_append.mpr ⟨nd,(by simp),λ x hx y hy e=>hm (by rw[<- zB7.mp hy,<- e];exact hx)⟩,λ x hx=>?_,by rw[zAf];exact Nat.add_le_add_right hlen 1,λ _=>by simp⟩;rcases zAd.mp hx with h | h
       . exact lk x h
       rw[zB7.mp h];exact l
     have hm:kk∈ks:=by
       by_cases z:kk∈ks
       . exact z
       rw[zAq z] at hb;cases hb
     exact hK2 _ ⟨b,ks,_,_,_,rfl,B,nd,lk,by lia,λ _ e=>by rw[e] at hm;simp at hm⟩
   rintro ds ⟨b,ks,d7,d8,d9,rfl,h⟩;rw[zBv,qO9] at h;exact hK _ ⟨b,ks,d7,d8,d9,rfl,h⟩
 rintro ds ⟨b,ks,d7,d8,d9,rfl,B,nd,lk,hlen,hne⟩;refine qc0 (λ ds=>∃ b told,ds=[b,caseD n wr [],.unk,.int n,.int way,.lst false [.int g1,.int g2],.lst false (ksD ks),d7,d8,d9,.int told]/\isBag ns b/\0<=told/\told < 10) (λ K hK=>?_) ?_
 . exact qc1 rfl B rfl (by decide) (by decide) λ v b' v0 v1 B'=>hK _ ⟨b',v,rfl,B',v0,v1⟩
 rintro ds ⟨b,told,rfl,B,t0,t1⟩;obtain⟨v,hv,ev⟩:=qg1 (xs:=[D.int 0,.int 0,.int 0,.int 0,.int 1,.int 1,.int 2,.int 3,.int 3,.int 12]) t0 t1;obtain⟨j,rfl,j0,j1⟩:∃ j:Int,v=.int j/\0<=j/\j<=12:=by
   simp only[zA7,zAi,zBb] at hv;rcases hv with rfl | rfl | rfl | rfl | rfl | rfl | rfl | rfl | rfl | rfl
   all_goals exact⟨_,rfl,by decide,by decide⟩
 have hlj:(ks.take j.toNat).length<=12:=by rw[zBl];lia
 refine qc0 (λ ds=>∃ b ps d9,ds=[b,caseD n wr ps,.unk,.int n,.int way,.lst false [.int g1,.int g2],.lst false (ksD ks),d7,d8,d9,.int told]/\isBag ns b/\ps.map (·.1)=ks.take j.toNat/\∀ q∈ps,qn4 q.2) (λ K hK=>?_) ?_
 . refine qa1 (a:=D.lst false (ksD (ks.take j.toNat))) ?_ (qa1 (a:=ksD (ks.take j.toNat)) rfl ⟨qc9 _,?_⟩)
   . show (((f2 gIx (Aw gLst _) (rdN 10) [b,caseD n wr [],.unk,.int n,.int way,.lst false [.int g1,.int g2],.lst false (ksD ks),d7,d8,d9,.int told]).bind λ d=>d.asI.map some).bind λ h=>gSl (.lst false (ksD ks)) none h)=_
     rw[Ad (x:=.lst false [D.int 0,.int 0,.int 0,.int 0,.int 1,.int 1,.int 2,.int 3,.int 3,.int 12]) (y:=.int told) rfl rfl ev];exact qaA5 j0
   refine qg8 (λ i ds=>∃ b ps d9,ds=[b,caseD n wr ps,.unk,.int n,.int way,.lst false [.int g1,.int g2],.lst false (ksD ks),d7,d8,d9,.int told]/\isBag ns b/\ps.map (·.1)=(ks.take j.toNat).take i/\∀ q∈ps,qn4 q.2) _ 0 _ ⟨b,[],d9,rfl,B,rfl,λ _ h=>by simp at h⟩ ?_ ?_
   . rintro i x hx ds ⟨b,ps,d9,rfl,B,hps,hq2⟩ K2 hK2
     rw[zBv] at hps hK2;obtain⟨key,hkey,rfl⟩:=qay1 hx;have hpl:ps.length<=12:=by
       have q2:=congrArg List.length hps;rw[zAj,zBl] at q2;lia
     refine qh7 (qx4 ?_);refine qY8 (i:=1) (p:=[2]) (ys:=prD ps) (d0:=caseD n wr ps) rfl rfl rfl ?_;refine qX1 (qd1 (y:=.int key) rfl rfl (qf5 ?_));refine qb6 (x:=b) (qb7 rfl B.known) (qb6 (x:=.int n) rfl (qE3 (m:=n) rfl B rfl (by decide) (by lia) (by lia) λ h b1 h0 h1 B1=>?_));refine qc3 ?_;refine qa1 (a:=D.int n) rfl ?_;refine qa1 (a:=b1) (qb7 rfl B1.known) ⟨b1,n,h,ns,rfl,B1,n1,n2,h0,h1,λ kk b2 l B2=>?_⟩;refine⟨by show 2<=1000000;decide,qa1 (a:=(prD ps++[D.tup [D.int key,D.int kk]],D.non)) (if_pos (by unfold prD;rw[zAj];unfold big;lia)) ?_⟩;have e:prD ps++[.tup [.int key,.int kk]]=prD (ps++[(key,kk)]):=by unfold prD;rw[zBh];rfl
     rw[e];refine hK2 _ ⟨b2,ps++[(key,kk)],_,rfl,B2,?_,?_⟩
     . rw[zBh,hps,List.take_add_one,hkey]
       rfl
     intro q hq;rcases zAd.mp hq with hq | hq
     . exact hq2 q hq
     rw[zB7.mp hq];exact l
   rintro ds ⟨b,ps,d9,rfl,B,hps,hq2⟩;rw[zBv,qe9,List.take_length] at hps;exact hK _ ⟨b,ps,d9,rfl,B,hps,hq2⟩
 rintro ds ⟨b,ps,d9,rfl,B,hps,hq2⟩;have hpl:ps.length<=12:=by
   have q2:=congrArg List.length hps;rw[zAj] at q2;lia
 have hnd:(ps.map (·.1)).Nodup:=by
   rw[hps];exact nd.sublist (List.take_sublist _ _)
 have h3:0<=told % 3:=zBo told (by decide);have h4:told % 3 < 3:=zBk told (by decide);refine qc0 (λ ds=>∃ b ps d7,ds=[b,caseD n wr ps,.unk,.int n,.int way,.lst false [.int g1,.int g2],.lst false (ksD ks),d7,d8,d9,.int told]/\isBag ns b/\Drawn ks ps) (λ K hK=>?_) ?_
 . refine qv6 (n:=told % 3) (Ad rfl rfl (Bs (by decide))) (qaf6 (by lia) (by lia)) ?_
   refine qg8 (λ i ds=>∃ b ps d7,ds=[b,caseD n wr ps,.unk,.int n,.int way,.lst false [.int g1,.int g2],.lst false (ksD ks),d7,d8,d9,.int told]/\isBag ns b/\ps.length<=12+i/\(ps.map (·.1)).Nodup/\(∀ q∈ps,qn4 q.2)/\(∀ q∈ps,q.1∈ks∨(300000000000000000<=q.1/\q.1 < 300000000000000000+64 * (i:Int)+told))) _ 0 _ ⟨b,ps,d7,rfl,B,by lia,hnd,hq2,λ q hq=>.inl ?_⟩ ?_ ?_
   . have:q.1∈ps.map (·.1):=zAv.mpr ⟨q,hq,rfl⟩
     rw[hps] at this;exact List.mem_of_mem_take this
   . rintro i x hx ds ⟨b,ps,d7,rfl,B,hlen9,hnd9,hq9,hk9⟩ K2 hK2
     rw[zBv] at hlen9 hk9 hK2;obtain⟨hi,rfl⟩:=qal7 hx;refine qh7 (qx4 ?_);refine qY8 (i:=1) (p:=[2]) (ys:=prD ps) (d0:=caseD n wr ps) rfl rfl rfl ?_;refine qc6 (y:=.int 0) rfl (qX1 (qc6 (y:=.int (3 * 100000000000000000+64 * (i:Int)+told)) (Ad (x:=.int (3 * 100000000000000000+64 * (i:Int))) (Ad (Ad (x:=.int 3) rfl rfl (Gv (by decide))) (Ad (x:=.int 64) rfl rfl (Gv (by decide))) rfl) rfl rfl) (qf5 ?_)));refine qb6 (x:=b) (qb7 rfl B.known) (qb6 (x:=.int n) rfl (qc6 (y:=.int 0) rfl ?_));refine qc3 ?_;refine qa1 (a:=D.int n) rfl ?_;refine qa1 (a:=b) (qb7 rfl B.known) ⟨b,n,0,ns,rfl,B,n1,n2,by decide,by lia,λ kk b2 l B2=>?_⟩;refine⟨by show 2<=1000000;decide,qa1 (a:=(D.tup [D.int (3 * 100000000000000000+64 * (i:Int)+told),D.int kk]::prD ps,D.non)) (if_pos ⟨by decide,by decide,by unfold prD;rw[zAj];unfold big;lia⟩) ?_⟩;have hnew:¬ (3 * 100000000000000000+64 * (i:Int)+told)∈ps.map (·.1):=λ z=>by
       obtain⟨q,hq,e⟩:=zAv.mp z;rcases hk9 q hq with hh | hh
       . have:=lk _ hh
         rw[e] at this;rcases this with w | w<;>lia
       lia
     refine hK2 _ ⟨b2,(3 * 100000000000000000+64 * (i:Int)+told,kk)::ps,_,rfl,B2,by rw[zAr];lia,by rw[zAu];exact zBu.mpr ⟨hnew,hnd9⟩,?_,?_⟩
     . intro q hq
       rcases zA7.mp hq with rfl | hq
       . exact l
       exact hq9 q hq
     intro q hq;rcases zA7.mp hq with rfl | hq
     . refine .inr ⟨?_,?_⟩
       . show 300000000000000000<=3 * 100000000000000000+64 * (i:Int)+told
         lia
       show 3 * 100000000000000000+64 * (i:Int)+told < 300000000000000000+64 * ((i+1:Nat):Int)+told;lia
     rcases hk9 q hq with z | z
     . exact .inl z
     exact .inr ⟨z.1,by lia⟩
   rintro ds ⟨b,ps,d7,rfl,B,hlen9,hnd9,hq9,hk9⟩;rw[zBv,qO9] at hlen9 hk9;refine hK _ ⟨b,ps,d7,rfl,B,by lia,hnd9,λ q hq=>?_,hq9⟩;rcases hk9 q hq with z | z
   . exact .inl z
   exact .inr ⟨z.1,by lia⟩
 rintro ds ⟨b,ps,d7,rfl,B,Dr⟩;exact q b ks ps B nd lk (by lia) (λ h=>hne (by lia)) Dr
theorem qd2:qb1 ["_law_bag_here", "_law_case_here", "_law_way", "_law_first", "_law_last"] ["_law_bag_here", "_law_case_here"] (qa4 qt9):=by walk_at "s"
def qL1:VSp:=λ ds Q _=>∃ b ns z n wr ps,ds=[b,caseF z n wr ps]/\isBag ns b/\1<=n/\n<=64/\∀ b' (s h:Nat),isBag ns b'->s < n.toNat->h < n.toNat->(wr=false->s<=h)->Q (.tup [.int ((s:Nat):Int),.int ((h:Nat):Int)]) [b',caseF z n wr ps]
theorem qw8(T:Txt K mg a):VFn P w K mg base 2 a.f25 a.d25 ["_law_bag_here", "_law_case_here"] qL1:=by
 refine VFn.mk' T.d25.F qd2 (wOf [true,true]) (λ ds Q Q' xe xe' hQ _ h=>by obtain⟨b,ns,z,n,wr,ps,e,h1,h2,h3,q⟩:=h;exact⟨b,ns,z,n,wr,ps,e,h1,h2,h3,λ b' s h a1 a2 a3 a4=>hQ _ _ (q b' s h a1 a2 a3 a4)⟩) (λ ds Q xe h=>by obtain⟨b,ns,z,n,wr,ps,e,_⟩:=h;rw[e];rfl) (λ ds Q xe h=>by obtain⟨b,ns,z,n,wr,ps,e,⟨x,y,w,eb,_⟩,_⟩:=h;rw[e,eb];rfl) (λ cdv A outer sh H E av hr=>⟨_,(Ac (Aj 2 qd2.nd (Ah T.d20 (qb3 T) qa2 (rm hr) (vaN 0 (vaV (qa3 Aa) Ab))))
     (Ac (Aj 3 qd2.nd (Ah T.d20 (qb3 T) qa2 (rm hr) (vaN 0 (vaV (qb9 (v2 (Al qa8) Af (vnm 1) Aa)) Ab))))
     (Ac (Aj 4 qd2.nd (Ah T.d20 (qb3 T) qa2 (rm hr) (vaN 0 (vaV (qb9 (v2 (Al qa8) Af (vnm 1) Aa)) Ab))))
     (Ac (sif (q2 (Am (qf9 hr.u64) (qb8 _)) A8 (vnm 2) Aa)
     (Ak (Aj 4 qd2.nd (qb9 (vnm 3))))
     At)
     (Ac (sif (q2 (Am (qf9 hr.u64) (qb8 _)) A8 (vnm 2) Aa)
     (Ac (Aj 3 qd2.nd (qa3 Aa))
     (Ak (Aj 4 qd2.nd (qa3 (v2 (Ag qj5) qj4 (v2 (Al qa8) Af (vnm 1) Aa) Aa)))))
     At)
     (Ac (sif (Fl (q2 (Am (qf9 hr.u64) (qb8 _)) A8 (vnm 2) Aa) (Eg (tv (v2 (Al qa8) Af (vnm 1) Aa)))).te
     (Ac (Aj 3 qd2.nd (qa3 (v2 (Ag qj5) qj4 (v2 (Al qa8) Af (vnm 1) Aa) Aa)))
     (Ak (Aj 4 qd2.nd (qa3 (vbi (qW5 rfl) qao3 T.D9 (qa0 (vnm 4) (qa0 Aa (qa0 (v2 (Ag qj5) qj4 (v2 (Al qa8) Af (vnm 1) Aa) Aa) qa5 rfl) rfl) rfl))))))
     At)
     (Ac (sif (Fl (Bu (tv (v2 (Al qa8) Af (vnm 1) Aa))) (Eg (q2 (Am Ed (qb8 _)) Ee (vnm 3) (vnm 4)))).te
     (Ak (Aq (qa3 (Bq (qa0 (vnm 4) (qa0 (vnm 3) qa5 rfl) rfl)))))
     At)
     (Ak (Aq (qa3 (Bq (qa0 (vnm 3) (qa0 (vnm 4) qa5 rfl) rfl)))))))))))),λ ds Q xe h=>?_⟩)
 obtain⟨b,ns,z,n,wr,ps,rfl,B,n1,n2,q⟩:=h;refine As [b,caseF z n wr ps,.unk,.unk,.unk] rfl ?_;refine qc0 (λ ds=>∃ b way,ds=[b,caseF z n wr ps,.int way,.unk,.unk]/\isBag ns b) (λ K hK=>?_) ?_
 . exact qc1 rfl B rfl (by decide) (by decide) λ v b' v0 v1 B'=>hK _ ⟨b',v,rfl,B'⟩
 rintro ds ⟨b,way,rfl,B⟩;refine qc0 (λ ds=>∃ b f,ds=[b,caseF z n wr ps,.int way,.int f,.unk]/\isBag ns b/\0<=f/\f < n) (λ K hK=>?_) ?_
 . exact qt1 (m:=n) rfl B rfl (by lia) (by lia) λ v b' v0 v1 B'=>hK _ ⟨b',v,rfl,B',v0,v1⟩
 rintro ds ⟨b,f,rfl,B,f0,f1⟩;refine qc0 (λ ds=>∃ b l,ds=[b,caseF z n wr ps,.int way,.int f,.int l]/\isBag ns b/\0<=l/\l < n) (λ K hK=>?_) ?_
 . exact qt1 (m:=n) rfl B rfl (by lia) (by lia) λ v b' v0 v1 B'=>hK _ ⟨b',v,rfl,B',v0,v1⟩
 rintro ds ⟨b,l,rfl,B,l0,l1⟩;refine qc0 (λ ds=>∃ l,ds=[b,caseF z n wr ps,.int way,.int f,.int l]/\0<=l/\l < n) (λ K hK=>?_) ?_
 . exact if_of (way == 0) (λ Q q=>qc5 rfl q) (λ _=>qo5 (d:=.int f) rfl rfl (hK _ ⟨f,rfl,f0,f1⟩)) λ _=>hK _ ⟨l,rfl,l0,l1⟩
 clear l0 l1 l;rintro ds ⟨l,rfl,l0,l1⟩;refine qc0 (λ ds=>∃ f l,ds=[b,caseF z n wr ps,.int way,.int f,.int l]/\0<=f/\f < n/\0<=l/\l < n) (λ K hK=>?_) ?_
 . refine if_of (way == 1) (λ Q q=>qc5 rfl q) (λ _=>?_) λ _=>hK _ ⟨f,l,rfl,f0,f1,l0,l1⟩
   refine qd6 [b,caseF z n wr ps,.int way,.int 0,.int l] (λ K hK=>qf8 rfl hK) ?_;exact qf8 (d:=.int (n - 1)) rfl (hK _ ⟨0,n - 1,rfl,by lia,by lia,by lia,by lia⟩)
 clear l0 l1 l f0 f1 f;rintro ds ⟨f,l,rfl,f0,f1,l0,l1⟩;refine qc0 (λ ds=>∃ f l,ds=[b,caseF z n wr ps,.int way,.int f,.int l]/\0<=f/\f < n/\0<=l/\l < n) (λ K hK=>?_) ?_
 . refine if_of (way == 2&&wr) (λ Q q=>qh0 (way == 2) wr (λ Q q=>qc5 rfl q) (λ _ Q q=>qc5 rfl q) q) (λ _=>?_) λ _=>hK _ ⟨f,l,rfl,f0,f1,l0,l1⟩
   refine qd6 [b,caseF z n wr ps,.int way,.int (n - 1),.int l] (λ K hK=>qf8 rfl hK) ?_;refine qf8 (d:=.int (if 2 < l then (if n - 1 < 2 then n - 1 else 2) else (if n - 1 < l then n - 1 else l))) rfl (hK _ ⟨n - 1,_,rfl,by lia,by lia,?_,?_⟩)
   . split<;>split<;>lia
   split<;>split<;>lia
 clear l0 l1 l f0 f1 f;rintro ds ⟨f,l,rfl,f0,f1,l0,l1⟩;have out:∀ i j:Int,0<=i->i < n->0<=j->j < n->(wr=false->i<=j)->Q (.tup [.int i,.int j]) [b,caseF z n wr ps]:=λ i j i0 i1 j0 j1 h=>by
   have:=q b i.toNat j.toNat B (by lia) (by lia) (λ w=>by have:=h w;lia)
   rw[show ((i.toNat:Nat):Int)=i by lia,show ((j.toNat:Nat):Int)=j by lia] at this;exact this
 refine qd5 (!wr&&decide (l < f)) (λ Q q=>qh0 (!wr) (decide (l < f)) (λ Q q=>qe8 (b:=wr) rfl q) (λ _ Q q=>qc5 rfl q) q) (λ h=>?_) λ h=>?_
 . have h2:=zAn (zA3.mp h).2
   exact qi6 (.tup [.int l,.int f]) (qm3 rfl rfl rfl rfl) (out l f l0 l1 f0 f1 λ _=>by lia)
 refine qi6 (.tup [.int f,.int l]) (qm3 rfl rfl rfl rfl) (out f l f0 f1 l0 l1 λ w=>?_);subst w
 have:=zBt (show decide (l < f)=false from h)
 lia
theorem qac6:qb1 ["_law_case_here", "_law_key_here"] ["_law_case_here", "_law_key_here"] (qa4 qM1):=by walk_at "s"
def qac3:VSp:=Bd λ ds d=>∃ z n wr ps k,ds=[caseF z n wr ps,.int k]/\1<=n/\(ps.map (·.1)).Nodup/\d=.int (qC5 n ps k)
theorem qae9(T:Txt K mg a):VFn P w K mg base 1 a.f24 a.d24 ["_law_case_here", "_law_key_here"] qac3:=by
 refine VFn.mk2 T.d24.F qac6 (wOf [true,true]) qe0 (λ ds Q xe h=>by obtain⟨d,⟨z,n,wr,ps,k,e,_⟩,_⟩:=h;rw[e];exact⟨rfl,rfl⟩) (λ cdv A outer sh H E av hr=>⟨_,(Ak (Aq (qa3 (v2 (Ag qh6) qh5 (vget (hu_of hr) (Fm (qy2 rfl) qaa6.ops T.D7 (qa0 (v2 (Al qa8) Af (vnm 0) Aa) qa5 rfl)) (vnm 1) (vnm 1) ⟨rfl,rfl,rfl,rfl⟩) (v2 (Al qa8) Af (vnm 0) Aa))))),λ ds Q xe h=>?_⟩);obtain⟨d,⟨z,n,wr,ps,k,rfl,n1,nd,rfl⟩,q⟩:=h;have ed:Aw (fx1 Ga) (Au (f2 gIx (rdN 0) (kC (.int 2))) λ _=>some []) [caseF z n wr ps,.int k]=some (.dct false (kvD ps)):=by
   show Ga (.lst z (prD ps))=_;exact qaa4 nd
 exact qi6 _ (Ad (qP9 ed rfl) (y:=.int n) rfl (Bs (by lia))) q
theorem qL6:qb1 ["_law_case_here", "_law_keys_here", "_law_window_here", "_law_rooms"] ["_law_case_here", "_law_keys_here", "_law_window_here"] (qa4 qL9):=by walk_at "s"
def Ae(n:Int)(ps:Pr)(S:List Int)(s h:Nat):Int:=((qt6 n ps S s h:Nat):Int) - ((dist n.toNat s h+1:Nat):Int)
def qac1:VSp:=Bd λ ds d=>∃ z n wr ps z' S s h,ds=[caseF z n wr ps,.lst z' (ksD S),.tup [.int ((s:Nat):Int),.int ((h:Nat):Int)]]/\1<=n/\n<=64/\(ps.map (·.1)).Nodup/\S.length<=1000/\s < n.toNat/\h < n.toNat/\d=.int (Ae n ps S s h)
theorem qB4(T:Txt K mg a):VFn P w K mg base 2 a.f26 a.d26 ["_law_case_here", "_law_keys_here", "_law_window_here"] qac1:=by
 refine VFn.mk2 T.d26.F qL6 (wOf [true,true,true]) qe0 (λ ds Q xe h=>by obtain⟨d,⟨z,n,wr,ps,z',S,s,h,e,_⟩,_⟩:=h;rw[e];exact⟨rfl,rfl⟩) (λ cdv A outer sh H E av hr=>⟨_,(Ac (Aj 3 qL6.nd (qa3 (Bf (qa0 (v2 (Al qa8) Af (vnm 2) Aa) qa5 rfl))))
     (Ac (qal0 PassesOwn.leaving (q2 (Am (qp2 hr.u64) (qb8 _)) Dl (v2 (Al qa8) Af (vnm 3) (Gq Aa)) (v2 (Al qa8) Af (vnm 2) Aa))
     (Ak (Ev (emutN 3 qaf4 PySem.F.plainAttrs_list PySem.F.slot_list_append PySem.F.type_list_append qn7 (vaV (qa3 (v2 (Ag qh6) qh5 (v2 (Ag qd8) qd7 (v2 (Al qa8) Af (vnm 3) (Gq Aa)) Aa) (v2 (Al qa8) Af (vnm 0) Aa))) Ab)))))
     (Ak (Aq (e2v (Ag qj5) qj4 (ebi qq1 qq0.ops T.Cm (Du (vaV (ecN (NY:=["_law_key_here", "_law_rooms", "_law_case_here"]) (src:=[none,some 3,some 0]) 1 (blk (λ av C s0 H0 ex=>(Br 0 (show (["_law_key_here", "_law_rooms", "_law_case_here"]:List Str).Nodup by decide +kernel))) (λ av C s0 H0 ex=>(Hl (q2v (Bb qk2 (by with_unfolding_all rfl)) (Am qk2 (by with_unfolding_all rfl)) Fk (Ah T.d24 (qae9 T) qp7 (rm hr) (vaN 2 (vaN 0 Ab))) (vnm 1)))) (λ av C s0 H0 ex=>(qb9 (vnm 0))))) Ab))) (vbi qq1 qq0.ops T.Cm (qa0 (vnm 3) qa5 rfl))))))),λ ds Q xe h=>?_⟩)
 obtain⟨d,⟨z,n,wr,ps,z',S,s,h,rfl,n1,n2,nd,hlen,hs,hh,rfl⟩,q⟩:=h;refine As [caseF z n wr ps,.lst z' (ksD S),.tup [.int (s:Nat),.int (h:Nat)],.unk] rfl ?_;have hz:rot n.toNat s 0=s:=by have:=qA7 hs hs;rwa[(qW1 hs hs).mpr rfl] at this
 refine qd6 [caseF z n wr ps,.lst z' (ksD S),.tup [.int (s:Nat),.int (h:Nat)],.lst false (ksD (Ax n.toNat s 0))] (λ K hK=>?_) ?_
 . refine qf8 (d:=.lst false (ksD (Ax n.toNat s 0))) ?_ hK
   unfold Ax;show _=some (D.lst false [.int (rot n.toNat s 0:Nat)]);rw[hz];rfl
 have hdl:=qx6 hh hs;refine qd6 [caseF z n wr ps,.lst z' (ksD S),.tup [.int (s:Nat),.int (h:Nat)],.lst false (ksD (Ax n.toNat s (dist n.toNat s h)))] (λ K hK=>?_) ?_
 . refine qab1 (λ m ds=>∃ t,ds=[caseF z n wr ps,.lst z' (ksD S),.tup [.int (s:Nat),.int (h:Nat)],.lst false (ksD (Ax n.toNat s t))]/\t+m=dist n.toNat s h) (dist n.toNat s h) ⟨0,rfl,by lia⟩ ?_
   rintro m ds ⟨t,rfl,ht⟩ K2 hK2;refine qc5 (b:=!(((rot n.toNat s t:Nat):Int) == ((h:Nat):Int))) (Ad (Ad rfl rfl qD9) rfl rfl) ?_;by_cases e:t=dist n.toNat s h
   . have e2:rot n.toNat s t=h:=by rw[e];exact qA7 hs hh
     rw[e2,zBa];refine ite_f (by decide) ?_;rw[e];exact hK
   have e2:rot n.toNat s t≠h:=λ z=>e (by rw[<- z,qQ8 hs (by lia)])
   have e3:(((rot n.toNat s t:Nat):Int) == ((h:Nat):Int))=false:=zB4.mpr (by lia);rw[e3];refine E3 rfl (qx4 (qas7 (ys:=ksD (Ax n.toNat s t)) (d:=.int (rot n.toNat s (t+1):Nat)) rfl (Ad (Ad (Ad rfl rfl qD9) rfl rfl) rfl ?_) (by rw[qe9,qy5];unfold big;lia) ?_))
   . rw[Bs (by lia)]
     have a:=qau4 hs (show t < n.toNat by lia);have e4:rot n.toNat s (t+1)=(rot n.toNat s t+1) % n.toNat:=by
       rw[qX7 a (by lia)];unfold rot
       split<;>split<;>split<;>lia
     rw[e4];exact congrArg (λ x=>some (D.int x)) (by rw[Int.natCast_emod,show ((n.toNat:Nat):Int)=n by lia];rfl)
   rw[qZ3,qR9];exact hK2 (m - 1) _ (by lia) ⟨t+1,rfl,by lia⟩
 refine qj3 (qz0 (Gf (qf5 (qa1 (a:=D.lst z' (ksD S)) rfl (qa1 (a:=ksD S) rfl ⟨qc9 S,?_⟩)))));refine qm8 (λ ι=>∃ d,ι=[d,.lst false (ksD (Ax n.toNat s (dist n.toNat s h))),caseF z n wr ps]) (Ej λ y=>decide (dist n.toNat s (hmOf n ps y)<=dist n.toNat s h)) _ [] _ (by show 0+_ < 1000000;rw[qe9];lia) ⟨_,rfl⟩ ?_ ?_
 . rintro y hy ι acc ⟨d,rfl⟩ R hR hacc
   obtain⟨k,_,rfl⟩:=zAv.mp hy;have this:=hR [.int k,.lst false (ksD (Ax n.toNat s (dist n.toNat s h))),caseF z n wr ps] ⟨_,rfl⟩;refine qh7 (qM7 (qR4 (x:=caseF z n wr ps) (y:=.int k) rfl rfl rfl ⟨_,⟨z,n,wr,ps,k,rfl,n1,nd,rfl⟩,?_⟩));refine qa1 (a:=[.int k,.lst false (ksD (Ax n.toNat s (dist n.toNat s h))),caseF z n wr ps]) rfl ?_;rw[<- qaa1 n1 k];refine qa1 (a:=D.bl (decide (((hmOf n ps k:Nat):Int)∈Ax n.toNat s (dist n.toNat s h)))) (qZ5 (z:=false)) (qa1 (a:=decide (((hmOf n ps k:Nat):Int)∈Ax n.toNat s (dist n.toNat s h))) rfl ?_);rw[decide_eq_decide.mpr (qK2 hs (hm_lt n1 k) hdl)];refine ite_b (λ h=>?_) λ h=>?_
   . rw[qP3 h] at this
     exact qv4 (d:=.int k) rfl rfl ⟨hacc,this⟩
   rw[qP4 h] at this;have this:R (acc++[]) _:=this;rw[zAa] at this;exact this
 rintro ι ⟨d,rfl⟩;rw[qv1,zBc];refine qc3 (qa1 (a:=D.int ((qt6 n ps S s h:Nat):Int)) (by show some (D.int ((ksD _).length:Nat))=_;rw[qe9];rfl) ?_);refine qa1 (a:=D.int (Ae n ps S s h)) ?_ q;rw[qu7 (z:=false) (ys:=ksD (Ax n.toNat s (dist n.toNat s h))) rfl,qe9,qy5];rfl
theorem qe1:qb1 ["_law_bag_here", "_law_case_here", "_law_which", "_law_thing", "_law_way", "_law_far", "_law_at", "_law_odd", "_law_some", "_law_none"] ["_law_bag_here", "_law_case_here", "_law_which", "_law_thing"] (qa4 qu0):=by walk_at "s"
theorem lr_to(h:tr ds (λ xs _ ds1=>∃ j:Int,xs=[.int j]/\0<=j/\j<=2 ^ 20/\Q (.lst false (A5 0 j.toNat)) ds1) xe):tLRV (Gu tr) ds Q xe:=h
theorem qau6(j:Nat):A5 0 j=ksD ((List.range j).map λ(i:Nat)=>(0+(i:Int))):=by
 unfold A5 ksD;rw[List.map_map];rfl
theorem qah2:∀ xs ys:Ds,D.fzs (xs++ys)=D.fzs xs++D.fzs ys
 | [],_=>rfl
 | x::xs,ys=>congrArg (x.fz::·) (qah2 xs ys)
theorem qas1(t:Nat):Bl (ksD S) none (some (t:Int))=ksD (S.take t):=by
 rw[qv7];unfold ksD;rw[List.map_take]
theorem qar9(t:Nat):Bl (ksD S) (some (t:Int)) none=ksD (S.drop t):=by
 have e:Bl (ksD S) (some (t:Int)) none=(ksD S).drop t:=by
   unfold Bl;rw[HT.qM3,HT.qA6];by_cases h:t<=(ksD S).length
   . rw[Nat.min_eq_left h]
     exact zB8 (by rw[List.length_drop];lia)
   rw[Nat.min_eq_right (by lia),List.drop_eq_nil_of_le (zA8 _),List.drop_eq_nil_of_le (by lia),List.take_nil]
 rw[e];unfold ksD;rw[List.map_drop]
structure Bad(C:Addr)(n:Int)(wr:Bool)(j:Int)(d:D):Prop where
 kn:d.known=true
 im:d.imm=true
 fz:d.fz=d
 c0:j=0->d.isC C=some (.bl false)
 c1:j=1->okK d/\d.keyL=false
 c2:j=2->(∃ t,d.kind=some t)/\d.within 0 100=false
 c3:j=3->okW d/\d.winB n wr=false
theorem Hr{C:Addr}{n:Int}{wr:Bool}(h1:d.known=true)(h2:d.imm=true)(h3:d.fz=d)(h:d.isC C=some (.bl false)):Bad C n wr 0 d:=⟨h1,h2,h3,λ _=>h,λ e=>absurd e (by decide),λ e=>absurd e (by decide),λ e=>absurd e (by decide)⟩
theorem Gg{C:Addr}{n:Int}{wr:Bool}(h1:d.known=true)(h2:d.imm=true)(h3:d.fz=d)(h:okK d)(h':d.keyL=false):Bad C n wr 1 d:=⟨h1,h2,h3,λ e=>absurd e (by decide),λ _=>⟨h,h'⟩,λ e=>absurd e (by decide),λ e=>absurd e (by decide)⟩
theorem Gh{C:Addr}{n:Int}{wr:Bool}(h1:d.known=true)(h2:d.imm=true)(h3:d.fz=d)(h:∃ t,d.kind=some t)(h':d.within 0 100=false):Bad C n wr 2 d:=⟨h1,h2,h3,λ e=>absurd e (by decide),λ e=>absurd e (by decide),λ _=>⟨h,h'⟩,λ e=>absurd e (by decide)⟩
theorem Ek{C:Addr}{n:Int}{wr:Bool}(h1:d.known=true)(h2:d.imm=true)(h3:d.fz=d)(h:okW d)(h':d.winB n wr=false):Bad C n wr 3 d:=⟨h1,h2,h3,λ e=>absurd e (by decide),λ e=>absurd e (by decide),λ e=>absurd e (by decide),λ _=>⟨h,h'⟩⟩
theorem Hs{C:Addr}{n:Int}{wr:Bool}(hf:D.fzs ys=ys)(h:D.imms ys=true)(hl:ys.length<=1000)(hk:∀ x∈ys,∃ t,x.kind=some t)(hn:(D.lst true ys).keyL=false):Bad C n wr 1 (.lst true ys):=Gg rfl rfl (congrArg (D.lst true) hf) ⟨⟨_,rfl⟩,λ z zs e=>by cases e;exact⟨h,hl,hk⟩⟩ hn
theorem qJ2(h:∃ t,d.kind=some t)(h':∀ xs,d≠.tup xs):okW d:=⟨h,λ xs e=>absurd e (h' xs)⟩
theorem qp5(h:D.imms xs=true)(h':∀ y∈xs,∃ t,y.kind=some t):okW (.tup xs):=⟨⟨_,rfl⟩,λ zs e=>by cases e;exact⟨h,h'⟩⟩
def qL2(C:Addr):VSp:=λ ds Q _=>∃ b ns n wr ps j x,ds=[b,caseF true n wr ps,.int j,x]/\isBag ns b/\1<=n/\n<=64/\x.known=true/\(j=0∨(j=1/\∃ z S,x=.lst z (ksD S)/\S≠[]/\S.length<=100)∨j=2∨j=3)/\∀ b' d,isBag ns b'->Bad C n wr j d->Q d [b',caseF true n wr ps,.int j,x]
theorem qN7(T:Txt K mg a):VFn P w K mg base 2 a.f27 a.d27 ["_law_bag_here", "_law_case_here", "_law_which", "_law_thing"] (qL2 a.C3):=by
 refine VFn.mk' T.d27.F qe1 (wOf [true,true,true,true]) (λ ds Q Q' xe xe' hQ _ h=>by obtain⟨b,ns,n,wr,ps,j,x,e,h1,h2,h3,h4,h5,q⟩:=h;exact⟨b,ns,n,wr,ps,j,x,e,h1,h2,h3,h4,h5,λ b' d a1 a2=>hQ _ _ (q b' d a1 a2)⟩) (λ ds Q xe h=>by obtain⟨b,ns,n,wr,ps,j,x,e,_⟩:=h;rw[e];rfl) (λ ds Q xe h=>by obtain⟨b,ns,n,wr,ps,j,x,e,⟨x',y,w,eb,_⟩,_⟩:=h;rw[e,eb];rfl) (λ cdv A outer sh H E av hr=>⟨_,(Ac (Aj 4 qe1.nd (Ah T.d20 (qb3 T) qa2 (rm hr) (vaN 0 (vaV (qa3 Aa) Ab))))
     (Ac (Aj 5 qe1.nd (Ah T.d20 (qb3 T) qa2 (rm hr) (vaN 0 (vaV (qa3 (Fx 100000000000000000000)) Ab))))
     (Ac (sif (q2 (Am (qf9 hr.u64) (qb8 _)) A8 (vnm 2) Aa)
     (Ak (Aq (qb9 (v2 (Al qa8) Af (Bf (qa0 Gp (qa0 (vnm 1) (qa0 Aa (qa0 Dp (qa0 (Bq qa5) (qa0 vbl qa5 rfl) rfl) rfl) rfl) rfl) rfl)) (vnm 4)))))
     At)
     (Ac (sif (q2 (Am (qf9 hr.u64) (qb8 _)) A8 (vnm 2) Aa)
     (Ac (Aj 6 qe1.nd (Ah T.d20 (qb3 T) qa2 (rm hr) (vaN 0 (vaV (qa3 (v2 (Ag qd8) qd7 (vbi qq1 qq0.ops T.Cm (qa0 (vnm 3) qa5 rfl)) Aa)) Ab))))
     (Ac (Aj 7 qe1.nd (e2P (Al qa8) Af (Dq (vaV (An (qa3 (Gq Aa))) (vaV (An (qa3 (v2 (Ag qd8) qd7 (Fx 1000000000000000000) Aa))) (vaV (An (qa3 Dp)) (vaV (An (qa3 (Bf (qa0 Aa qa5 rfl)))) (vaV (An (qa3 Ge)) (vaV (An (qa3 Gp)) (vaV (An (qa3 vbl)) (vaV (An (qa3 (Bq (qa0 Aa qa5 rfl)))) Ab))))))))) (Ah T.d20 (qb3 T) qa2 (rm hr) (vaN 0 (vaV (qa3 Aa) Ab)))))
     (Ac (Aj 8 qe1.nd (Dq (vaV (An (qa3 (Fm qy1 qai6.ops T.Cs (qa0 (vnm 3) qa5 rfl)))) (vaV (An (qa3 (v2 (Ag qd8) qd7 (v2 (Ag qd8) qd7 (vsl (vnm 3) Et (Eu (vnm 6))) (Bf (qa0 (vnm 7) qa5 rfl))) (vsl (vnm 3) (Eu (vnm 6)) Et)))) (vaV (An (qa3 (v2 (Ag qd8) qd7 (v2 (Ag qd8) qd7 (vsl (vnm 3) Et (Eu (vnm 6))) (vsl (vnm 3) Et (Eu Aa))) (vsl (vnm 3) (Eu (vnm 6)) Et)))) (vaV (An (qa3 Gp)) Ab))))))
     (Ak (Aq (e2vP (Al qa8) Af (e2n 8 (Ag qd8) qd7 (Dq (vaV (An (qar7 T.Cn T.Ck (Du (vaV (qa3 Aa) Ab)))) (vaV (An (qa3 Ge)) Ab)))) (vnm 4)))))))
     At)
     (Ac (sif (q2 (Am (qf9 hr.u64) (qb8 _)) A8 (vnm 2) Aa)
     (Ak (Aq (qb9 (v2 (Al qa8) Af (Bf (qa0 (Gq Aa) (qa0 Aa (qa0 (v2 (Ag qd8) qd7 Aa (vnm 5)) (qa0 vbl (qa0 Gp (qa0 Dp qa5 rfl) rfl) rfl) rfl) rfl) rfl)) (vnm 4)))))
     At)
     (Ac (sif (Fl (q2 (Am (qf9 hr.u64) (qb8 _)) A8 (vnm 4) Aa) (Fl (Bu (tv (v2 (Al qa8) Af (vnm 1) Aa))) (Eg (q2 (Am Ed (qb8 _)) Ee (v2 (Al qa8) Af (vnm 1) Aa) Aa)))).te
     (Ak (Aq (qa3 (Bq (qa0 (v2 (Ag qj5) qj4 (v2 (Al qa8) Af (vnm 1) Aa) Aa) (qa0 Aa qa5 rfl) rfl)))))
     At)
     (Ac (Aj 7 qe1.nd (e2P (Al qa8) Af (Dq (vaV (An (qb9 (v2 (Al qa8) Af (vnm 1) Aa))) (vaV (An (qa3 (Gq Aa))) (vaV (An (qa3 (v2 (Ag qd8) qd7 (v2 (Al qa8) Af (vnm 1) Aa) (vnm 5)))) (vaV (An (qa3 (v2 (Ag qj5) qj4 (Gq Aa) (vnm 5)))) (vaV (An (qa3 vbl)) (vaV (An (qa3 vbl)) (vaV (An (qa3 Gp)) (vaV (An (qa3 Dp)) (vaV (An (qa3 (Bf (qa0 Aa qa5 rfl)))) (vaV (An (qa3 (Bq (qa0 Aa qa5 rfl)))) (vaV (An (qa3 Ge)) Ab)))))))))))) (Ah T.d20 (qb3 T) qa2 (rm hr) (vaN 0 (vaV (qa3 Aa) Ab)))))
     (Ac (Aj 9 qe1.nd (e2P (Al qa8) Af (Dq (vaV (An (qa3 Gp)) (vaV (An (qa3 Aa)) (vaV (An (qa3 Dp)) (vaV (An (qa3 Ge)) (vaV (An (qa3 (Bf qa5))) (vaV (An (qa3 (Bq qa5))) Ab))))))) (Ah T.d20 (qb3 T) qa2 (rm hr) (vaN 0 (vaV (qa3 Aa) Ab)))))
     (Ak (Aq (e2vP (Al qa8) Af (Dq (vaV (An (qa3 (Bf (qa0 Aa (qa0 Aa qa5 rfl) rfl)))) (vaV (An (qa3 (Bq (qa0 Aa qa5 rfl)))) (vaV (An (qa3 (Bq (qa0 Aa (qa0 Aa (qa0 Aa qa5 rfl) rfl) rfl)))) (vaV (An (qa3 (Bq (qa0 (vnm 7) (qa0 Aa qa5 rfl) rfl)))) (vaV (An (qa3 (Bq (qa0 Aa (qa0 (vnm 7) qa5 rfl) rfl)))) (vaV (An (qb9 (vnm 9))) Ab))))))) (vnm 4)))))))))))),λ ds Q xe h=>?_⟩)
 obtain⟨b,ns,n,wr,ps,j,x,rfl,B,n1,n2,hx,hj,q⟩:=h;refine As [b,caseF true n wr ps,.int j,x,.unk,.unk,.unk,.unk,.unk,.unk] rfl ?_;refine qc0 (λ ds=>∃ b way,ds=[b,caseF true n wr ps,.int j,x,.int way,.unk,.unk,.unk,.unk,.unk]/\isBag ns b/\0<=way/\way < 6) (λ K hK=>?_) ?_
 . exact qc1 rfl B rfl (by decide) (by decide) λ v b' v0 v1 B'=>hK _ ⟨b',v,rfl,B',v0,v1⟩
 rintro ds ⟨b,way,rfl,B,w0,w1⟩;refine qc0 (λ ds=>∃ b far,ds=[b,caseF true n wr ps,.int j,x,.int way,.int far,.unk,.unk,.unk,.unk]/\isBag ns b/\0<=far) (λ K hK=>?_) ?_
 . exact qc1 (m:=100000000000000000000) rfl B rfl (by decide) (by decide) λ v b' v0 v1 B'=>hK _ ⟨b',v,rfl,B',v0⟩
 rintro ds ⟨b,far,rfl,B,r0⟩;rcases hj with rfl | ⟨rfl,z,S,rfl,hne,lS⟩ | rfl | rfl
 . refine qd5 true (λ Q q=>qc5 (b:=true) rfl q) (λ _=>qj3 ?_) λ h=>(nomatch h)
   obtain⟨d,hd,ed⟩:=qg1 (xs:=[D.non,caseF true n wr ps,.int 7,.str "plan",.tup [],.bl true]) (i:=way) w0 w1;have hB:Bad a.C3 n wr 0 d:=by
     simp only[zA7,zAi,zBb] at hd;rcases hd with rfl | rfl | rfl | rfl | rfl | rfl
     . exact Hr rfl rfl rfl rfl
     . exact Hr rfl rfl qt0 rfl
     all_goals exact Hr rfl rfl rfl rfl
   exact qv4 (d:=d) (Ad (x:=.lst false [D.non,caseF true n wr ps,.int 7,.str "plan",.tup [],.bl true]) (y:=.int way) rfl rfl ed) hB.im (q b d B hB)
 . refine qd5 false (λ Q q=>qc5 (b:=false) rfl q) (λ h=>(nomatch h)) λ _=>?_
   refine qd5 true (λ Q q=>qc5 (b:=true) rfl q) (λ _=>?_) λ h=>(nomatch h)
   refine qc0 (λ ds=>∃(b:D)(t:Nat),ds=[b,caseF true n wr ps,.int 1,.lst z (ksD S),.int way,.int far,.int (t:Nat),.unk,.unk,.unk]/\isBag ns b/\t<=S.length) (λ K hK=>?_) ?_
   . refine qc1 (m:=(S.length:Nat)+1) rfl B (Ad (qu7 (z:=z) (ys:=ksD S) rfl) rfl (by rw[qe9];rfl)) (by lia) (by lia) λ v b' v0 v1 B'=>hK _ ⟨b',v.toNat,by rw[show ((v.toNat:Nat):Int)=v by lia];rfl,B',by lia⟩
   rintro ds ⟨b,t,rfl,B,ht⟩;refine qc0 (λ ds=>∃ b y,ds=[b,caseF true n wr ps,.int 1,.lst z (ksD S),.int way,.int far,.int (t:Nat),y,.unk,.unk]/\isBag ns b/\D.fz y=y/\y.imm=true/\(∃ t,y.kind=some t)/\y.num=false) (λ K hK=>?_) ?_
   . refine qf2 (qac0 (qj6 (qb4 (y:=.int (-1)) rfl (qb4 (y:=.int (1000000000000000000+1)) rfl (qb4 (y:=.str "3") rfl (qb4 (y:=.lst false [.int 3]) rfl (qb4 (y:=.dct false []) rfl (qb4 (y:=.non) rfl (qb4 (y:=.bl true) rfl (qb4 (y:=.tup [.int 3]) rfl (qc3 ⟨by show 8<=1000000;decide,?_⟩)))))))))))
     refine qc1 (ds:=[b,caseF true n wr ps,.int 1,.lst z (ksD S),.int way,.int far,.int (t:Nat),.unk,.unk,.unk]) (m:=8) rfl B rfl (by decide) (by decide) λ v b' v0 v1 B'=>?_
     obtain⟨d,hd,ed⟩:=qg1 (xs:=[D.int (-1),.int (1000000000000000000+1),.str "3",.lst true [.int 3],.dct true [],.non,.bl true,.tup [.int 3]]) (i:=v) v0 v1;refine qa1 (a:=d) ed (hK _ ⟨b',d,rfl,B',?_⟩);simp only[zA7,zAi,zBb] at hd;rcases hd with rfl | rfl | rfl | rfl | rfl | rfl | rfl | rfl<;>exact⟨rfl,rfl,⟨_,rfl⟩,rfl⟩
   rintro ds ⟨b,y,rfl,B,fy,iy,⟨ty,ky⟩,ny⟩;have hky:=qe2 ky;have l1:(S.take t).length+(S.drop t).length<=100:=by rw[zBl,List.length_drop];lia
   have l2:=(List.take_sublist 1 S).length_le;refine qc0 (λ ds=>∃ os,ds=[b,caseF true n wr ps,.int 1,.lst z (ksD S),.int way,.int far,.int (t:Nat),y,.lst false os,.unk]/\os.length=4/\D.imms os=true/\∀ d∈os,Bad a.C3 n wr 1 d) (λ K hK=>?_) ?_
   . refine qf2 (qj6 ?_)
     refine qb4 (y:=.tup (ksD S)) (qh8 (qc9 S)) ?_;refine qb4 (y:=.lst false (ksD (S.take t)++[y]++ksD (S.drop t))) ?_ ?_
     . refine Ad (x:=.lst false (ksD (S.take t)++[y])) (y:=.lst false (ksD (S.drop t))) ?_ (qQ9 (z:=z) rfl rfl rfl (qar9 t)) ?_
       . refine Ad (x:=.lst false (ksD (S.take t))) (y:=.lst false [y]) (qQ9 (z:=z) rfl rfl rfl (qas1 t)) ?_ (qh8 ⟨qc9 _,by show (y.imm&&true)=true;rw[iy];rfl,by rw[qe9];show _+1<=1000000;lia⟩)
         unfold Aw Au;rw[qb7 (i:=7) (d:=y) rfl hky];exact qh8 ⟨by show (y.imm&&true)=true;rw[iy];rfl,by show 1<=1000000;decide⟩
       exact qh8 ⟨by rw[qi2,qc9];show (true&&(y.imm&&true))=true;rw[iy];rfl,qc9 _,by rw[zAf,qe9,qe9];show _+1+_<=1000000;lia⟩
     refine qb4 (y:=.lst false (ksD (S.take t++S.take 1++S.drop t))) ?_ ?_
     . refine Ad (x:=.lst false (ksD (S.take t++S.take 1))) (y:=.lst false (ksD (S.drop t))) (Ad (qQ9 (z:=z) rfl rfl rfl (qas1 t)) (qQ9 (z:=z) rfl rfl rfl (qas0 S)) (qat2 (by lia))) (qQ9 (z:=z) rfl rfl rfl (qar9 t)) (qat2 (by rw[zAf];lia))
     refine qb4 (y:=.non) rfl (qc3 ⟨by show 4<=1000000;decide,hK _ ⟨_,rfl,rfl,?_,λ d hd=>?_⟩⟩)
     . show ((D.imms (D.fzs (ksD S)))&&_)=true
       rw[qv5,qc9];rfl
     simp only[zA7,zAi,zBb] at hd;rcases hd with rfl | rfl | rfl | rfl
     . show Bad _ _ _ 1 (.tup (D.fzs (ksD S)))
       rw[qv5];exact Gg rfl (qc9 S) (congrArg D.tup (qv5 S)) ⟨⟨_,rfl⟩,λ z ys h=>nomatch h⟩ rfl
     . have e:D.fzs (ksD (S.take t)++[y]++ksD (S.drop t))=ksD (S.take t)++[y]++ksD (S.drop t):=by
         rw[qah2,qah2,qv5,qv5];show ksD _++[y.fz]++ksD _=_;rw[fy]
       show Bad _ _ _ 1 (.lst true (D.fzs (ksD (S.take t)++[y]++ksD (S.drop t))));rw[e];refine Hs e ?_ ?_ ?_ ?_
       . rw[qi2,qi2,qc9,qc9]
         show (true&&(y.imm&&true)&&true)=true;rw[iy];rfl
       . rw[zAf,zAf,qe9,qe9]
         show _+1+_<=1000;lia
       . intro x hx
         rcases zAd.mp hx with hx | hx
         . rcases zAd.mp hx with hx | hx
           . obtain⟨k,_,rfl⟩:=zAv.mp hx;exact⟨_,rfl⟩
           rw[zB7.mp hx];exact⟨_,ky⟩
         obtain⟨k,_,rfl⟩:=zAv.mp hx;exact⟨_,rfl⟩
       show (decide _&&((ksD (S.take t)++[y]++ksD (S.drop t)).all D.num&&_))=false;rw[List.all_append,List.all_append];show (decide _&&(((ksD (S.take t)).all D.num&&(y.num&&true))&&_&&_))=false;rw[ny,zBp,zAx,zBp,zBp,zAx]
     . rw[Bk]
       refine Hs (qv5 _) (qc9 _) (by rw[qe9,zAf,zAf];lia) (λ y hy=>by obtain⟨k,_,rfl⟩:=zAv.mp hy;exact⟨_,rfl⟩) ?_;have nn:¬ (S.take t++S.take 1++S.drop t).Nodup:=λ h=>by
         have p:(S.take t++S.take 1++S.drop t).Perm (S.take 1++S):=by
           have p1:(S.take t++S.take 1++S.drop t).Perm (S.take 1++S.take t++S.drop t):=List.perm_append_comm.append_right _;rwa[zB0 (S.take 1),List.take_append_drop] at p1
         have h:=p.nodup_iff.mp h;cases S with
         | nil=>exact hne rfl
         | cons k r=>exact(zBu.mp (show (k::k::r).Nodup from h)).1 zAc
       rw[qF3,zAq nn,zAx,zAx]
     exact Gg rfl rfl rfl ⟨⟨_,rfl⟩,λ z ys h=>nomatch h⟩ rfl
   rintro ds ⟨os,rfl,lo,io,ho⟩;refine qj3 (qL0 ⟨rfl,qj6 (qf5 (fz_to (lr_to (qc6 (y:=.int 101) rfl (qc3 ⟨101,rfl,by decide,by decide,qb4 (y:=.dct false []) rfl (qc3 ⟨by show 2<=1000000;decide,?_⟩)⟩)))))⟩);have er:(D.lst false (A5 0 (101:Int).toNat)).fz=.lst true (ksD ((List.range 101).map λ(i:Nat)=>(0+(i:Int)))):=by rw[qau6,Bk];rfl
   refine qa1 (a:=D.lst false (os++[(D.lst false (A5 0 (101:Int).toNat)).fz,.dct true []])) (qh8 ⟨io,rfl,by rw[lo];show 4+2<=1000000;decide⟩) (qa1 (a:=D.int way) rfl ⟨rfl,?_⟩);obtain⟨d,hd,ed⟩:=qg1 (xs:=os++[(D.lst false (A5 0 (101:Int).toNat)).fz,.dct true []]) (i:=way) w0 (by rw[zAf,lo];exact w1);refine qa1 (a:=d) ed (q b d B ?_);rcases zAd.mp hd with hd | hd
   . exact ho d hd
   simp only[zA7,zAi,zBb] at hd;rcases hd with rfl | rfl
   . rw[er]
     refine Hs (qv5 _) (qc9 _) (by rw[qe9];simp) (λ y hy=>by obtain⟨k,_,rfl⟩:=zAv.mp hy;exact⟨_,rfl⟩) ?_;rw[qF3,zAq (by simp),zBp]
   exact Gg rfl rfl rfl ⟨⟨_,rfl⟩,λ z ys h=>nomatch h⟩ rfl
 . refine qd5 false (λ Q q=>qc5 (b:=false) rfl q) (λ h=>(nomatch h)) λ _=>?_
   refine qd5 false (λ Q q=>qc5 (b:=false) rfl q) (λ h=>(nomatch h)) λ _=>?_
   refine qd5 true (λ Q q=>qc5 (b:=true) rfl q) (λ _=>qj3 ?_) λ h=>(nomatch h)
   obtain⟨d,hd,ed⟩:=qg1 (xs:=[D.int (-1),.int 101,.int (101+far),.bl true,.non,.str "0"]) (i:=way) w0 w1;have hB:Bad a.C3 n wr 2 d:=by
     simp only[zA7,zAi,zBb] at hd;rcases hd with rfl | rfl | rfl | rfl | rfl | rfl
     . exact Gh rfl rfl rfl ⟨_,rfl⟩ rfl
     . exact Gh rfl rfl rfl ⟨_,rfl⟩ rfl
     . refine Gh rfl rfl rfl ⟨_,rfl⟩ ?_
       show (decide _&&decide (101+far<=100))=false;rw[zAq (p:=101+far<=100) (by lia),zAx]
     all_goals exact Gh rfl rfl rfl ⟨_,rfl⟩ rfl
   exact qv4 (d:=d) (Ad (x:=.lst false [D.int (-1),.int 101,.int (101+far),.bl true,.non,.str "0"]) (y:=.int way) rfl rfl ed) hB.im (q b d B hB)
 refine qd5 false (λ Q q=>qc5 (b:=false) rfl q) (λ h=>(nomatch h)) λ _=>?_
 refine qd5 false (λ Q q=>qc5 (b:=false) rfl q) (λ h=>(nomatch h)) λ _=>?_
 refine qd5 false (λ Q q=>qc5 (b:=false) rfl q) (λ h=>(nomatch h)) λ _=>?_
 refine qd5 (way == 0&&(!wr&&decide (1 < n))) (λ Q q=>qh0 (way == 0) (!wr&&decide (1 < n)) (λ Q q=>qc5 rfl q) (λ _ Q q=>qh0 (!wr) (decide (1 < n)) (λ Q q=>qe8 (b:=wr) rfl q) (λ _ Q q=>qc5 rfl q) q) q) (λ h=>?_) λ _=>?_
 . have h:=zA3.mp (zA3.mp h).2
   have h1:=zAn h.2;have h2:wr=false:=by cases wr with | false=>rfl | true=>cases h.1
   refine qi6 (.tup [.int (n - 1),.int 0]) (qm3 rfl rfl rfl rfl) (q b _ B (Ek rfl rfl rfl (qp5 rfl λ y hy=>?_) ?_))
   . simp only[zA7,zAi,zBb] at hy
     rcases hy with rfl | rfl<;>exact⟨_,rfl⟩
   show (_&&(_&&(wr||decide (n - 1<=0))))=false;rw[h2,zAq (p:=n - 1<=0) (by lia),Bool.or_false,zAx,zAx]
 refine qc0 (λ ds=>∃ b y,ds=[b,caseF true n wr ps,.int 3,x,.int way,.int far,.unk,y,.unk,.unk]/\isBag ns b/\D.fz y=y/\y.imm=true/\(∃ t,y.kind=some t)/\y.within 0 (n - 1)=false) (λ K hK=>?_) ?_
 . refine qf2 (qac0 (qj6 (qm4 (y:=.int n) rfl rfl (qb4 (y:=.int (-1)) rfl (qb4 (y:=.int (n+far)) rfl (qb4 (y:=.int (-1 - far)) rfl (qb4 (y:=.bl true) rfl (qb4 (y:=.bl false) rfl (qb4 (y:=.non) rfl (qb4 (y:=.str "0") rfl (qb4 (y:=.lst false [.int 0]) rfl (qb4 (y:=.tup [.int 0]) rfl (qb4 (y:=.dct false []) rfl (qc3 ⟨by show 11<=1000000;decide,?_⟩))))))))))))))
   refine qc1 (ds:=[b,caseF true n wr ps,.int 3,x,.int way,.int far,.unk,.unk,.unk,.unk]) (m:=11) rfl B rfl (by decide) (by decide) λ v b' v0 v1 B'=>?_
   obtain⟨d,hd,ed⟩:=qg1 (xs:=[D.int n,.int (-1),.int (n+far),.int (-1 - far),.bl true,.bl false,.non,.str "0",.lst true [.int 0],.tup [.int 0],.dct true []]) (i:=v) v0 v1;refine qa1 (a:=d) ed (hK _ ⟨b',d,rfl,B',?_⟩);have no:∀ k:Int,k < 0∨n<=k->(D.int k).within 0 (n - 1)=false:=λ k h=>by
     show (decide (0<=k)&&decide (k<=n - 1))=false;rcases h with h | h
     . rw[zAq (by lia),zBp]
     rw[zAq (p:=k<=n - 1) (by lia),zAx]
   simp only[zA7,zAi,zBb] at hd;rcases hd with rfl | rfl | rfl | rfl | rfl | rfl | rfl | rfl | rfl | rfl | rfl
   . exact⟨rfl,rfl,⟨_,rfl⟩,no _ (by lia)⟩
   . exact⟨rfl,rfl,⟨_,rfl⟩,no _ (by lia)⟩
   . exact⟨rfl,rfl,⟨_,rfl⟩,no _ (by lia)⟩
   . exact⟨rfl,rfl,⟨_,rfl⟩,no _ (by lia)⟩
   all_goals exact⟨rfl,rfl,⟨_,rfl⟩,rfl⟩
 rintro ds ⟨b,y,rfl,B,fy,iy,⟨ty,ky⟩,ny⟩;have hky:=qe2 ky;refine qc0 (λ ds=>∃ b w,ds=[b,caseF true n wr ps,.int 3,x,.int way,.int far,.unk,y,.unk,w]/\isBag ns b/\D.fz w=w/\w.imm=true/\w.known=true/\okW w/\w.winB n wr=false) (λ K hK=>?_) ?_
 . refine qf2 (qac0 (qj6 (qb4 (y:=.non) rfl (qb4 (y:=.int 7) rfl (qb4 (y:=.str "00") rfl (qb4 (y:=.dct false []) rfl (qb4 (y:=.lst false []) rfl (qb4 (y:=.tup []) rfl (qc3 ⟨by show 6<=1000000;decide,?_⟩)))))))))
   refine qc1 (ds:=[b,caseF true n wr ps,.int 3,x,.int way,.int far,.unk,y,.unk,.unk]) (m:=6) rfl B rfl (by decide) (by decide) λ v b' v0 v1 B'=>?_
   obtain⟨d,hd,ed⟩:=qg1 (xs:=[D.non,.int 7,.str "00",.dct true [],.lst true [],.tup []]) (i:=v) v0 v1;refine qa1 (a:=d) ed (hK _ ⟨b',d,rfl,B',?_⟩);simp only[zA7,zAi,zBb] at hd;rcases hd with rfl | rfl | rfl | rfl | rfl | rfl
   . exact⟨rfl,rfl,rfl,qJ2 ⟨_,rfl⟩ nofun,rfl⟩
   . exact⟨rfl,rfl,rfl,qJ2 ⟨_,rfl⟩ nofun,rfl⟩
   . exact⟨rfl,rfl,rfl,qJ2 ⟨_,rfl⟩ nofun,rfl⟩
   . exact⟨rfl,rfl,rfl,qJ2 ⟨_,rfl⟩ nofun,rfl⟩
   . exact⟨rfl,rfl,rfl,qJ2 ⟨_,rfl⟩ nofun,rfl⟩
   exact⟨rfl,rfl,rfl,qp5 rfl nofun,rfl⟩
 rintro ds ⟨b,w,rfl,B,fw,iw,hkw,oW,nW⟩;refine qj3 (qL0 (qj6 ?_));refine qb4 (y:=.lst false [.int 0,.int 0]) rfl ?_;refine qb4 (y:=.tup [.int 0]) rfl ?_;refine qb4 (y:=.tup [.int 0,.int 0,.int 0]) rfl ?_;refine qb4 (y:=.tup [y,.int 0]) (qm3 (qb7 rfl hky) rfl iy rfl) ?_;refine qb4 (y:=.tup [.int 0,y]) (qm3 rfl (qb7 rfl hky) rfl iy) ?_;refine qm4 (y:=w) (qb7 rfl hkw) iw ?_;refine qc3 ⟨by show 6<=1000000;decide,?_⟩;obtain⟨d,hd,ed⟩:=qg1 (xs:=[D.lst true [.int 0,.int 0],.tup [.int 0],.tup [.int 0,.int 0,.int 0],.tup [y.fz,.int 0],.tup [.int 0,y.fz],D.fz w]) (i:=way) w0 w1;refine qa1 (a:=D.int way) rfl ⟨rfl,qa1 (a:=d) ed (q b d B ?_)⟩;rw[fy,fw] at hd;simp only[zA7,zAi,zBb] at hd;rcases hd with rfl | rfl | rfl | rfl | rfl | rfl
 . exact Ek rfl rfl rfl (qJ2 ⟨_,rfl⟩ nofun) rfl
 . exact Ek rfl rfl rfl (qp5 rfl λ y hy=>by rw[zB7.mp hy];exact⟨_,rfl⟩) rfl
 . refine Ek rfl rfl rfl (qp5 rfl λ y hy=>?_) rfl
   simp only[zA7,zAi,zBb] at hy;rcases hy with rfl | rfl | rfl<;>exact⟨_,rfl⟩
 . refine Ek rfl (by show (y.imm&&true)=true;rw[iy];rfl) (by show D.tup [y.fz,.int 0]=_;rw[fy]) (qp5 (by show (y.imm&&true)=true;rw[iy];rfl) λ x hx=>?_) ?_
   . simp only[zA7,zAi,zBb] at hx
     rcases hx with rfl | rfl
     . exact⟨_,ky⟩
     exact⟨_,rfl⟩
   show (y.within 0 (n - 1)&&_)=false;rw[ny];rfl
 . refine Ek rfl (by show (true&&(y.imm&&true))=true;rw[iy];rfl) (by show D.tup [.int 0,y.fz]=_;rw[fy]) (qp5 (by show (true&&(y.imm&&true))=true;rw[iy];rfl) λ x hx=>?_) ?_
   . simp only[zA7,zAi,zBb] at hx
     rcases hx with rfl | rfl
     . exact⟨_,rfl⟩
     exact⟨_,ky⟩
   show (_&&(y.within 0 (n - 1)&&_))=false;rw[ny,zBp,zAx]
 exact Ek hkw iw fw oW nW
theorem qL5:qb1 ["_law_handed", "e"] ["_law_handed"] (qa4 qL7):=by walk_at "s"
def wrD(i:Int):D:=.tup [.str "wrong",.int i]
def toD(b:Bool):D:=.tup [.str "told",.bl b]
def qj0(C:Addr):VSp:=λ ds Q _=>∃ x y v u bp,ds=[.lst true [x,y,v,u]]/\x.isC C=some (.bl bp)/\(∃ t,v.kind=some t)/\y.known=true/\u.known=true/\D.imms [x,y,v,u]=true/\(bp=false->Q (wrD 0) ds) /\
 (bp=true->okK y/\okW u/\(y.keyL=false->Q (wrD 1) ds)/\(y.keyL=true->∃ z n wr ps z' ks,x=planD z C n wr ps/\y=.lst z' (ksD ks)/\1<=n/\n<=64/\(∀ k∈ks,A6 k)/\ks.length<=1000 /\
   (v.within 0 100=false->Q (wrD 2) ds)/\(v.within 0 100=true->(u.winB n wr=false->Q (wrD 3) ds) /\
   (∀(f:Int)(s h:Nat),v=.int f->u=.tup [.int ((s:Nat):Int),.int ((h:Nat):Int)]->s < n.toNat->h < n.toNat->u.winB n wr=true->Q (toD (decide (((dist n.toNat s h+1:Nat):Int)+f<=((qt6 n ps ks s h:Nat):Int)))) ds))))
theorem qu5(T:Txt K mg a):VFn P w K mg base 7 a.f28 a.d28 ["_law_handed"] (qj0 a.C3):=by
 refine VFn.mk2 T.d28.F qL5 (wOf []) (λ ds Q Q' xe xe' hQ _ h=>by obtain⟨x,y,v,u,bp,e,h1,h2,h3,h4,hi,h5,h6⟩:=h;exact⟨x,y,v,u,bp,e,h1,h2,h3,h4,hi,λ b=>hQ _ _ (h5 b),λ b=>⟨(h6 b).1,(h6 b).2.1,λ k=>hQ _ _ ((h6 b).2.2.1 k),λ k=>let ⟨z,n,wr,ps,z',ks,a1,a2,a3,a4,a5,a6,a7,a8⟩:=(h6 b).2.2.2 k;⟨z,n,wr,ps,z',ks,a1,a2,a3,a4,a5,a6,λ q=>hQ _ _ (a7 q),λ q=>⟨λ p=>hQ _ _ ((a8 q).1 p),λ f s h e1 e2 e3 e4 e5=>hQ _ _ ((a8 q).2 f s h e1 e2 e3 e4 e5)⟩⟩⟩⟩) (λ ds Q xe h=>by obtain⟨x,y,v,u,bp,e,_⟩:=h;rw[e];exact⟨rfl,rfl⟩) (λ cdv A outer sh H E av hr=>⟨_,(Ac (stryH rfl (λ _=>rfl) (λ E' xe pn hl=>(Ak (Aq (etup (vaV (qa3 Dp) (vaV (Ah T.d18 (qB1 T) hl (rm hr) (vaV (qb9 (v2 (Al qa8) Af (vnm 0) Aa)) (vaV (qb9 (v2 (Al qa8) Af (vnm 0) Aa)) (vaV (qb9 (v2 (Al qa8) Af (vnm 0) Aa)) (vaV (qb9 (v2 (Al qa8) Af (vnm 0) Aa)) Ab))))) Ab))))))
     (ph_as 1 qL5.nd T.Cu T.Cy (λ ea=>(qw7 (ps_if (qad3 (cbi qai8 T.C4 (qd4 (pv 1) (qd4 (qan4 a.C6 T.Cd) qn2)))) (qw7 (qad5 (qae0 (qd4 qam9 (qd4 (qan6 (pv 1)) qn2))))) qY2))) qav3) (hs_if (ht_is (d:=.ref a.C6) rfl λ _ z=>z) (qaz6 (qaz3 qaz4 qaz5))))
     (Ak (Aq (qa3 (Bq (qa0 Dp (qa0 Aa qa5 rfl) rfl)))))),λ ds Q xe h=>?_⟩)
 obtain⟨x,y,v,u,bp,rfl,hC,hv,hy,hu,hi,h0,h1⟩:=h;refine As [.lst true [x,y,v,u],.unk] rfl ?_;obtain⟨ix,hi⟩:=zA3.mp hi;obtain⟨iy,hi⟩:=zA3.mp hi;obtain⟨iv,hi⟩:=zA3.mp hi;have iu:=(zA3.mp hi).1;refine qat8 (qj3 (qat7 (qc6 (y:=.str "told") rfl (qf5 (qg9 ?_)))));refine qd1 (y:=x) (Ad rfl rfl rfl) ix (qd1 (y:=y) (Ad rfl rfl rfl) iy (qd1 (y:=v) (Ad rfl rfl rfl) iv (qd1 (y:=u) (Ad rfl rfl rfl) iu (qc3 ?_))));refine⟨x,y,v,u,bp,rfl,hC,hy,hv,hu,λ b=>qa1 (a:=[.lst true [x,y,v,u],.unk]) rfl ⟨by show 1 < 2;decide,⟨T.Cp,λ z=>by cases z⟩,T.C8,true,qu9 _ _,T.Cg,.int 0,rfl,h0 b⟩,λ b=>⟨(h1 b).1,(h1 b).2.1,λ k=>qa1 (a:=[.lst true [x,y,v,u],.unk]) rfl ⟨by show 1 < 2;decide,⟨T.Cp,λ z=>by cases z⟩,T.C8,true,qu9 _ _,T.Cg,.int 1,rfl,(h1 b).2.2.1 k⟩,λ k=>?_⟩⟩;obtain⟨z,n,wr,ps,z',ks,e1,e2,n1,n2,hk,hl,q2,q3⟩:=(h1 b).2.2.2 k;refine⟨z,n,wr,ps,z',ks,e1,e2,n1,n2,hk,hl,λ h=>qa1 (a:=[.lst true [x,y,v,u],.unk]) rfl ⟨by show 1 < 2;decide,⟨T.Cp,λ z=>by cases z⟩,T.C8,true,qu9 _ _,T.Cg,.int 2,rfl,q2 h⟩,λ h=>⟨λ hw=>qa1 (a:=[.lst true [x,y,v,u],.unk]) rfl ⟨by show 1 < 2;decide,⟨T.Cp,λ z=>by cases z⟩,T.C8,true,qu9 _ _,T.Cg,.int 3,rfl,(q3 h).1 hw⟩,λ f s h' e3 e4 hs hh hw=>?_⟩⟩;exact qa1 (a:=[.lst true [x,y,v,u],.unk]) rfl (qc3 ⟨by show 2<=1000000;decide,(q3 h).2 f s h' e3 e4 hs hh hw⟩)
theorem qb5:qb1 ["_law_bag_here", "_law_case_here", "_law_plan", "_law_keys_here", "_law_others", "_law_bare", "_law_plans", "_law_some", "_law_window_here", "_law_more_here", "_law_far", "_law_found", "_law_handed", "_law_at"] ["_law_bag_here", "_law_case_here", "_law_plan", "_law_keys_here"] (qa4 ql8):=by walk_at "s"
structure Handy(T:List Int):Prop where
 num:∀ k∈T,A6 k
 nd:T.Nodup
 len:T.length<=100
theorem Handy.sub{U:List Int}(h:Handy T)(s:U.Sublist T):Handy U:=⟨λ k hk=>h.num k (s.subset hk),h.nd.sublist s,zAm s.length_le h.len⟩
theorem Handy.keyL{z:Bool}(h:Handy T):(D.lst z (ksD T)).keyL=true:=by
 rw[qF3,qas9 h.num,zAh h.len,zAh h.nd];rfl
theorem qQ4{g:VTG}(h:te ds (λ d ds1=>orF d.lstOf λ ys=>D.imms ys=true/\Dt g t e ys ds1) e.xe):sForL te g t e ds:=h
theorem qap3{g:Ds->Ds->Option (Ds×D)}(h1:ds[i]? = some (.lst false ys))(h:tr ds (λ xs _ ds1=>orF ((rdN i ds1).bind D.own) λ ys=>orF (g ys xs) λ z=>Q z.2 (ds1.set i (.lst false z.1))) xe):Dx g i tr ds Q xe:=⟨by rw[qb7 h1 rfl];rfl,h⟩
theorem qE2{C:Addr}{n:Int}{wr:Bool}{ps:Pr}{f:Int}{h:Nat}(n1:1<=n)(n2:n<=64)(F:Handy T)(hs:s < n.toNat)(hh:h < n.toNat)(hw:wr=false->s<=h)(f0:0<=f)(q:f<=100->Q (toD (decide (f<=Ae n ps T s h))) [.lst true [planD true C n wr ps,.lst true (ksD T),.int f,.tup [.int ((s:Nat):Int),.int ((h:Nat):Int)]]])(q2:100 < f->Q (wrD 2) [.lst true [planD true C n wr ps,.lst true (ksD T),.int f,.tup [.int ((s:Nat):Int),.int ((h:Nat):Int)]]]) :
   qj0 C [.lst true [planD true C n wr ps,.lst true (ksD T),.int f,.tup [.int ((s:Nat):Int),.int ((h:Nat):Int)]]] Q xe:=by
 have hW:(D.tup [.int ((s:Nat):Int),.int ((h:Nat):Int)]).winB n wr=true:=by
   show ((D.int ((s:Nat):Int)).within 0 (n - 1)&&((D.int ((h:Nat):Int)).within 0 (n - 1)&&(wr||decide (((s:Nat):Int)<=((h:Nat):Int)))))=true;rw[qk0 (by lia) (by lia),qk0 (by lia) (by lia)];cases wr with
   | true=>rfl
   | false=>have:=hw rfl;rw[zAh (by lia)];rfl
 refine⟨_,_,_,_,true,rfl,qv3,⟨_,rfl⟩,rfl,rfl,rfl,λ h=>(nomatch h),λ _=>⟨qao7 (by have:=F.len;lia),⟨⟨_,rfl⟩,λ xs e=>?_⟩,λ k=>(by rw[F.keyL] at k;cases k),λ _=>⟨true,n,wr,ps,true,T,rfl,rfl,n1,n2,F.num,by have:=F.len;lia,λ hf=>q2 ?_,λ hf=>⟨λ e=>(by rw[hW] at e;cases e),λ f' s' h' e1 e2 _ _ _=>?_⟩⟩⟩⟩
 . cases e
   refine⟨rfl,λ y hy=>?_⟩;simp only[zA7,zAi,zBb] at hy;rcases hy with rfl | rfl<;>exact⟨_,rfl⟩
 . have hf:(decide (0<=f)&&decide (f<=100))=false:=hf
   rw[zAh f0,Bool.true_and] at hf
   have:=zBt hf
   lia
 cases e1;have e3:s'=s:=by cases e2;rfl
 have e4:h'=h:=by cases e2;rfl
 subst e3 e4;have hf:(decide (0<=f)&&decide (f<=100))=true:=hf;have q:=q (zAn (zA3.mp hf).2);unfold Ae at q;rw[show decide (f<=((qt6 n ps T s' h':Nat):Int) - ((dist n.toNat s' h'+1:Nat):Int))=decide (((dist n.toNat s' h'+1:Nat):Int)+f<=((qt6 n ps T s' h':Nat):Int)) from decide_eq_decide.mpr (by lia)] at q;exact q
theorem Gi(b:Bool):gNe (toD b) (toD b)=some (.bl false):=qQ2 rfl
def Dy(S:List Int)(k:Int):Bool:=decide (k < 1000000000000000000)&&!decide (k+1∈S)
def E5(S:List Int)(y:D):Option D:=y.asI.bind λ k=>if Dy S k=true then some (.int (k+1)) else none
theorem qB8(S:List Int):∀ L:List Int,(ksD L).filterMap (E5 S)=ksD ((L.filter (Dy S)).map (· + 1))
 | []=>rfl
 | k::r=>by
   show List.filterMap (E5 S) (D.int k::ksD r)=_;cases h:Dy S k with
   | true =>
     have e:E5 S (.int k)=some (.int (k+1)):=if_pos h;rw[List.filterMap_cons_some e,qB8 S r,List.filter_cons_of_pos h];rfl
   | false =>
     have e:E5 S (.int k)=none:=if_neg (by rw[h];decide);rw[List.filterMap_cons_none e,qB8 S r,List.filter_cons_of_neg (by rw[h];decide)]
theorem Handy.next(F:Handy S):Handy ((S.filter (Dy S)).map (· + 1)):=by
 refine⟨λ k hk=>?_,?_,?_⟩
 . obtain⟨i,hi,rfl⟩:=zAv.mp hk
   obtain⟨h1,h2⟩:=List.mem_filter.mp hi;have h3:=zAn (zA3.mp h2).1;have h4:=F.num i h1;exact⟨by have:=h4.1;lia,by lia⟩
 . rw[List.nodup_iff_pairwise_ne,List.pairwise_map]
   exact(List.nodup_iff_pairwise_ne.mp (F.nd.sublist List.filter_sublist)).imp λ h=>by lia
 rw[zAj];exact zAm List.filter_sublist.length_le F.len
def qz6(C:Addr):VSp:=λ ds Q _=>∃ b ns n wr ps S,ds=[b,caseF true n wr ps,planD true C n wr ps,.lst true (ksD S)]/\isBag ns b/\1<=n/\n<=64/\(ps.map (·.1)).Nodup/\Handy S/\∀ b',isBag ns b'->Q (.bl true) [b',caseF true n wr ps,planD true C n wr ps,.lst true (ksD S)]
theorem qB5(T:Txt K mg a):VFn P w K mg base 8 a.f29 a.d29 ["_law_bag_here", "_law_case_here", "_law_plan", "_law_keys_here"] (qz6 a.C3):=by
 refine VFn.mk' T.d29.F qb5 (wOf [true,true,true,true]) (λ ds Q Q' xe xe' hQ _ h=>by obtain⟨b,ns,n,wr,ps,S,e,h1,h2,h3,h4,h5,q⟩:=h;exact⟨b,ns,n,wr,ps,S,e,h1,h2,h3,h4,h5,λ b' B'=>hQ _ _ (q b' B')⟩) (λ ds Q xe h=>by obtain⟨b,ns,n,wr,ps,S,e,_⟩:=h;rw[e];rfl) (λ ds Q xe h=>by obtain⟨b,ns,n,wr,ps,S,e,⟨x,y,w,eb,_⟩,_⟩:=h;rw[e,eb];rfl) (λ cdv A outer sh H E av hr=>⟨_,(Ac (scL (NY:=["_law_key_here", "_law_keys_here"]) (src:=[none,some 3]) 4 qb5.nd (qb9 (vnm 3)) (blk (λ av C s0 H0 ex=>(Br 0 (show (["_law_key_here", "_law_keys_here"]:List Str).Nodup by decide +kernel))) (λ av C s0 H0 ex=>(Hl (Fl (q2 (Am Gz (qb8 _)) Hb (vnm 0) (Fx 1000000000000000000)) (Eg (q2 (Am qp1 (by with_unfolding_all rfl)) Fk (v2 (Ag qd8) qd7 (vnm 0) Aa) (vnm 1)))).te)) (λ av C s0 H0 ex=>(qa3 (v2 (Ag qd8) qd7 (vnm 0) Aa)))))
     (Ac (Aj 5 qb5.nd (An (Dq (vaV (An (qb9 (v2 (Al qa8) Af (vnm 1) Aa))) (vaV (An (qb9 (v2 (Al qa8) Af (vnm 1) Aa))) (vaV (An (qa3 (Bf qa5))) Ab))))))
     (Ac (Aj 6 qb5.nd (Dq (vaV (An (emake T.C5 T.D5 T.d9 (qp4 T) qa2 (rm hr) (vaV (qb9 (v2 (Al qa8) Af (vnm 1) Aa)) (vaV (qb9 (v2 (Al qa8) Af (vnm 1) Aa)) (vaV (qa3 (Bf qa5)) Ab))))) (vaV (An (qb9 (vnm 2))) Ab))))
     (Ac (Gc PassesOwn.leaving (Dq (vaV (efz 3) (vaV (efz 4) (vaV (efz 3) Ab)))) (Br 7 qb5.nd)
     (Ac (Aj 8 qb5.nd (Ah T.d25 (qw8 T) qa2 (rm hr) (vaN 0 (vaN 1 Ab))))
     (Ac (Aj 9 qb5.nd (Ah T.d26 (qB4 T) qa2 (rm hr) (vaN 1 (vaN 7 (vaN 8 Ab)))))
     (Ac (Gc PassesOwn.leaving (qa3 (Bf (qa0 (vbi (qo3 rfl) qH4.ops T.D6 (qa0 Aa (qa0 (vnm 9) qa5 rfl) rfl)) (qa0 (v2 (Ag qd8) qd7 (vbi (qo3 rfl) qH4.ops T.D6 (qa0 Aa (qa0 (vnm 9) qa5 rfl) rfl)) Aa) qa5 rfl) rfl))) (Br 10 qb5.nd)
     (Ac (Aj 11 qb5.nd (qai3 T.d28 (qu5 T) qa2 (rm hr) (vaN 2 (vaV (qa3 (Fm qf1 qx7.ops T.Cn (qa0 (vnm 7) qa5 rfl))) (vaN 10 (vaN 8 Ab))))))
     (Ak (sif (Fl (q2 (Am Fb (qb8 _)) Fj (vnm 10) Aa) (Eg (q2 (Am (qp2 hr.u64) (qb8 _)) Dl (vnm 11) (Bq (qa0 Dp (qa0 (v2 (Bb F6 (qb8 _)) F9 (vnm 9) (vnm 10)) qa5 rfl) rfl))))).te
     (Ak (Aq (qa3 vbl)))
     At))))
     (Ac (Aj 12 qb5.nd (qa3 (Fm qf1 qx7.ops T.Cn (qa0 (vnm 7) qa5 rfl))))
     (Ak (Gc PassesOwn.leaving (qa3 (Bf (qa0 Aa (qa0 Aa (qa0 Aa qa5 rfl) rfl) rfl))) (Br 13 qb5.nd)
     (Ac (Aj 9 qb5.nd (Ah T.d26 (qB4 T) qa2 (rm hr) (vaV (qb9 (v2 (Al qa8) Af (Bf (qa0 (vnm 5) (qa0 (vnm 1) qa5 rfl) rfl)) (vnm 13))) (vaN 12 (vaN 8 Ab)))))
     (Ac (sif (q2v (Bb (qp2 hr.u64) (qb8 _)) (Am (qp2 hr.u64) (qb8 _)) Dl (qai3 T.d28 (qu5 T) qa2 (rm hr) (vaV (qb9 (v2 (Al qa8) Af (vnm 6) (vnm 13))) (vaN 12 (vaV (qa3 (vbi (qo3 rfl) qH4.ops T.D6 (qa0 Aa (qa0 (vbi (qH9 rfl) qaa5.ops T.D9 (qa0 Aa (qa0 (vnm 9) qa5 rfl) rfl)) qa5 rfl) rfl))) (vaN 8 Ab))))) (Bq (qa0 Dp (qa0 (v2 (Bb Fb (qb8 _)) Fj Aa (vnm 9)) qa5 rfl) rfl)))
     (Ak (Aq (qa3 vbl)))
     At)
     (Ak (sif (q2 (Am (qp2 hr.u64) (qb8 _)) Dl (vnm 12) (Bf qa5))
     (Ak (Ev (qaA2 12 qax4 PySem.F.plainAttrs_list PySem.F.slot_list_pop PySem.F.type_list_pop qax6)))
     At)))))))))))
     (Ak (Aq (qa3 vbl))))))),λ ds Q xe h=>?_⟩)
 obtain⟨b,ns,n,wr,ps,S,rfl,B,n1,n2,nd,F,q⟩:=h;have hlS:=F.len;refine As [b,caseF true n wr ps,planD true a.C3 n wr ps,.lst true (ksD S),.unk,.unk,.unk,.unk,.unk,.unk,.unk,.unk,.unk,.unk] rfl ?_;refine qc0 (λ ds=>∃ O,ds=[b,caseF true n wr ps,planD true a.C3 n wr ps,.lst true (ksD S),.lst false (ksD O),.unk,.unk,.unk,.unk,.unk,.unk,.unk,.unk,.unk]/\Handy O) (λ K hK=>?_) ?_
 . refine qf2 (qv4 (d:=.lst true (ksD S)) rfl rfl (qa1 (a:=ksD S) rfl ⟨qc9 S,?_⟩))
   refine qm8 (λ ι=>∃ d,ι=[d,.lst true (ksD S)]) (E5 S) _ [] _ (by show 0+_ < 1000000;rw[qe9];lia) ⟨_,rfl⟩ ?_ ?_
   . rintro y hy ι acc ⟨d,rfl⟩ R hR hacc
     obtain⟨k,_,rfl⟩:=zAv.mp hy;have this:=hR [.int k,.lst true (ksD S)] ⟨_,rfl⟩;have e:E5 S (.int k)=if Dy S k=true then some (.int (k+1)) else none:=rfl
     rw[e] at this;refine qh7 (qh0 (decide (k < 1000000000000000000)) (!decide (k+1∈S)) (λ Q q=>qc5 rfl q) (λ _ Q q=>qc5 (Ad (x:=.int (k+1)) rfl rfl (qN9 (z:=true))) q) ?_);refine ite_b (λ h=>?_) λ h=>?_
     . rw[if_pos (show Dy S k=true from h)] at this
       exact qB9 (d:=.int (k+1)) rfl ⟨hacc,this⟩
     rw[if_neg (show ¬ Dy S k=true by rw[show Dy S k=false from h];decide)] at this;have this:R (acc++[]) _:=this;rw[zAa] at this;exact this
   rintro ι ⟨d,rfl⟩;rw[qB8,zBc];exact hK _ ⟨_,rfl,F.next⟩
 rintro ds ⟨O,rfl,FO⟩;refine qd6 [b,caseF true n wr ps,planD true a.C3 n wr ps,.lst true (ksD S),.lst false (ksD O),caseF true n wr [],.unk,.unk,.unk,.unk,.unk,.unk,.unk,.unk] (λ K hK=>?_) ?_
 . exact qf2 (fz_to (qj6 (qm4 (y:=.int n) rfl rfl (qm4 (y:=.bl wr) rfl rfl (qb4 (y:=.lst false []) rfl (qc3 ⟨by show 3<=1000000;decide,hK⟩))))))
 refine qd6 [b,caseF true n wr ps,planD true a.C3 n wr ps,.lst true (ksD S),.lst false (ksD O),caseF true n wr [],.lst false [planD true a.C3 n wr [],planD true a.C3 n wr ps],.unk,.unk,.unk,.unk,.unk,.unk,.unk] (λ K hK=>?_) ?_
 . refine qf2 (qj6 (qf5 (fz_to (qZ1 (qd1 (y:=.int n) rfl rfl (qd1 (y:=.bl wr) rfl rfl (qc6 (y:=.lst false (prD [])) rfl (qc3 ?_))))))))
   have G:qK1 []:=⟨Nat.zero_le _,List.nodup_nil,nofun⟩
   refine⟨.int n,.bl wr,.lst false (prD []),rfl,⟨_,rfl⟩,⟨_,rfl⟩,(qk6 G).2,λ h=>?_,λ _ h=>(nomatch h),λ _ _ h=>?_,λ n' wr' z' ps' e1 e2 e3 _ _ _=>?_⟩
   . rw[qk0 (by lia) (by lia)] at h;cases h
   . rw[(qk6 G).1] at h;cases h
   cases e1;cases e2;have e4:=(D.lst.inj e3).2;cases (D.lst.inj e3).1;cases qM9 (qs:=[]) e4.symm;refine⟨rfl,?_⟩;refine qa1 (a:=planD false a.C3 n wr []) rfl (qa1 (a:=[b,caseF true n wr ps,planD true a.C3 n wr ps,.lst true (ksD S),.lst false (ksD O),caseF true n wr [],.unk,.unk,.unk,.unk,.unk,.unk,.unk,.unk]) rfl (qm4 (y:=planD true a.C3 n wr ps) rfl rfl (qc3 ⟨by show 2<=1000000;decide,?_⟩)));rw[qk8,qk8];exact hK
 refine qc0 (λ ds=>∃ b d7 d8 d9 d10 d11 d12 d13,ds=[b,caseF true n wr ps,planD true a.C3 n wr ps,.lst true (ksD S),.lst true (ksD O),caseF true n wr [],.lst false [planD true a.C3 n wr [],planD true a.C3 n wr ps],d7,d8,d9,d10,d11,d12,d13]/\isBag ns b) (λ K hK=>?_) ?_
 . refine qQ4 (qj6 ?_)
   refine qf5 (qv8 (d:=.lst true (ksD S)) rfl ?_);refine qf5 (qv8 (d:=.lst false (ksD O)) rfl ?_);refine qf5 (qv8 (d:=(D.lst true (ksD S)).fz) rfl ?_);refine qc3 ⟨by show 3<=1000000;decide,?_⟩;rw[Bk,Bk,Bk];refine qa1 (a:=[.lst true (ksD S),.lst true (ksD O),.lst true (ksD S)]) rfl ⟨rfl,?_⟩;refine qg8 (λ _ ds=>∃ b d7 d8 d9 d10 d11 d12 d13,ds=[b,caseF true n wr ps,planD true a.C3 n wr ps,.lst true (ksD S),.lst true (ksD O),caseF true n wr [],.lst false [planD true a.C3 n wr [],planD true a.C3 n wr ps],d7,d8,d9,d10,d11,d12,d13]/\isBag ns b) _ 0 _ ⟨_,_,_,_,_,_,_,_,rfl,B⟩ ?_ ?_
   . rintro i x hx ds ⟨b,d7,d8,d9,d10,d11,d12,d13,rfl,B⟩ K2 hK2
     obtain⟨T,rfl,FT⟩:∃ T,x=.lst true (ksD T)/\Handy T:=by
       have hx:=zBd hx;simp only[zA7,zAi,zBb] at hx;rcases hx with rfl | rfl | rfl
       . exact⟨_,rfl,F⟩
       . exact⟨_,rfl,FO⟩
       exact⟨_,rfl,F⟩
     have hlT:=FT.len;refine qh7 (As [b,caseF true n wr ps,planD true a.C3 n wr ps,.lst true (ksD S),.lst true (ksD O),caseF true n wr [],.lst false [planD true a.C3 n wr [],planD true a.C3 n wr ps],.lst true (ksD T),d8,d9,d10,d11,d12,d13] rfl ?_);refine qc0 (λ ds=>∃ b s h,ds=[b,caseF true n wr ps,planD true a.C3 n wr ps,.lst true (ksD S),.lst true (ksD O),caseF true n wr [],.lst false [planD true a.C3 n wr [],planD true a.C3 n wr ps],.lst true (ksD T),.tup [.int ((s:Nat):Int),.int ((h:Nat):Int)],d9,d10,d11,d12,d13]/\isBag ns b/\s < n.toNat/\h < n.toNat/\(wr=false->s<=h)) (λ K hK=>?_) ?_
     . exact qf2 (qR4 (x:=b) (y:=caseF true n wr ps) (qb7 rfl B.known) rfl (qb7 rfl B.known) ⟨b,ns,true,n,wr,ps,rfl,B,n1,n2,λ b' s h B' hs hh hw=>qa1 (a:=[b',caseF true n wr ps,planD true a.C3 n wr ps,.lst true (ksD S),.lst true (ksD O),caseF true n wr [],.lst false [planD true a.C3 n wr [],planD true a.C3 n wr ps],.lst true (ksD T),d8,d9,d10,d11,d12,d13]) rfl (hK _ ⟨b',s,h,rfl,B',hs,hh,hw⟩)⟩)
     rintro ds ⟨b,s,h,rfl,B,hs,hh,hw⟩;refine qd6 [b,caseF true n wr ps,planD true a.C3 n wr ps,.lst true (ksD S),.lst true (ksD O),caseF true n wr [],.lst false [planD true a.C3 n wr [],planD true a.C3 n wr ps],.lst true (ksD T),.tup [.int ((s:Nat):Int),.int ((h:Nat):Int)],.int (Ae n ps T s h),d10,d11,d12,d13] (λ K hK=>qf2 (qap5 (x:=caseF true n wr ps) (y:=.lst true (ksD T)) (w:=.tup [.int ((s:Nat):Int),.int ((h:Nat):Int)]) rfl rfl rfl rfl rfl ⟨true,n,wr,ps,true,T,s,h,rfl,n1,n2,nd,by lia,hs,hh,rfl⟩ rfl hK)) ?_;refine qc0 (λ ds=>∃ d10 d11,ds=[b,caseF true n wr ps,planD true a.C3 n wr ps,.lst true (ksD S),.lst true (ksD O),caseF true n wr [],.lst false [planD true a.C3 n wr [],planD true a.C3 n wr ps],.lst true (ksD T),.tup [.int ((s:Nat):Int),.int ((h:Nat):Int)],.int (Ae n ps T s h),d10,d11,d12,d13]) (λ K hK=>?_) ?_
     . refine qQ4 (qB9 (d:=.lst false [.int (if Ae n ps T s h > 0 then Ae n ps T s h else 0),.int ((if Ae n ps T s h > 0 then Ae n ps T s h else 0)+1)]) rfl (qa1 (a:=[.int (if Ae n ps T s h > 0 then Ae n ps T s h else 0),.int ((if Ae n ps T s h > 0 then Ae n ps T s h else 0)+1)]) rfl ⟨rfl,?_⟩))
       refine qg8 (λ _ ds=>∃ d10 d11,ds=[b,caseF true n wr ps,planD true a.C3 n wr ps,.lst true (ksD S),.lst true (ksD O),caseF true n wr [],.lst false [planD true a.C3 n wr [],planD true a.C3 n wr ps],.lst true (ksD T),.tup [.int ((s:Nat):Int),.int ((h:Nat):Int)],.int (Ae n ps T s h),d10,d11,d12,d13]) _ 0 _ ⟨_,_,rfl⟩ ?_ ?_
       . rintro j x hx ds ⟨d10,d11,rfl⟩ K3 hK3
         obtain⟨f,rfl,f0⟩:∃ f,x=.int f/\0<=f:=by
           have hx:=zBd hx;simp only[zA7,zAi,zBb] at hx;rcases hx with rfl | rfl
           . exact⟨_,rfl,by split<;>lia⟩
           exact⟨_,rfl,by split<;>lia⟩
         refine qh7 (As [b,caseF true n wr ps,planD true a.C3 n wr ps,.lst true (ksD S),.lst true (ksD O),caseF true n wr [],.lst false [planD true a.C3 n wr [],planD true a.C3 n wr ps],.lst true (ksD T),.tup [.int ((s:Nat):Int),.int ((h:Nat):Int)],.int (Ae n ps T s h),.int f,d11,d12,d13] rfl ?_);refine qc0 (λ ds=>∃ fd,ds=[b,caseF true n wr ps,planD true a.C3 n wr ps,.lst true (ksD S),.lst true (ksD O),caseF true n wr [],.lst false [planD true a.C3 n wr [],planD true a.C3 n wr ps],.lst true (ksD T),.tup [.int ((s:Nat):Int),.int ((h:Nat):Int)],.int (Ae n ps T s h),.int f,fd,d12,d13]/\fd.known=true/\(f<=100->fd=toD (decide (f<=Ae n ps T s h)))) (λ K hK=>?_) ?_
         . refine qf2 (qb6 (x:=planD true a.C3 n wr ps) rfl (qc6 (y:=.lst false (ksD T)) (qO8 (z:=true)) (qb6 (x:=.int f) rfl (qb6 (x:=.tup [.int ((s:Nat):Int),.int ((h:Nat):Int)]) rfl (qc3 (qa1 (a:=D.tup [.int ((s:Nat):Int),.int ((h:Nat):Int)]) rfl (qa1 (a:=D.int f) rfl (qa1 (a:=planD true a.C3 n wr ps) rfl ⟨by show 4<=1000000;decide,?_⟩))))))))
           show qj0 _ [.lst true [(planD true a.C3 n wr ps).fz,(D.lst false (ksD T)).fz,.int f,.tup [.int ((s:Nat):Int),.int ((h:Nat):Int)]]] _ _;rw[qk8,Bk];exact qE2 n1 n2 FT hs hh hw f0 (λ _=>⟨rfl,qa1 (a:=[b,caseF true n wr ps,planD true a.C3 n wr ps,.lst true (ksD S),.lst true (ksD O),caseF true n wr [],.lst false [planD true a.C3 n wr [],planD true a.C3 n wr ps],.lst true (ksD T),.tup [.int ((s:Nat):Int),.int ((h:Nat):Int)],.int (Ae n ps T s h),.int f,d11,d12,d13]) rfl (hK _ ⟨_,rfl,rfl,λ _=>rfl⟩)⟩) λ hf=>⟨rfl,qa1 (a:=[b,caseF true n wr ps,planD true a.C3 n wr ps,.lst true (ksD S),.lst true (ksD O),caseF true n wr [],.lst false [planD true a.C3 n wr [],planD true a.C3 n wr ps],.lst true (ksD T),.tup [.int ((s:Nat):Int),.int ((h:Nat):Int)],.int (Ae n ps T s h),.int f,d11,d12,d13]) rfl (hK _ ⟨_,rfl,rfl,λ h'=>absurd h' (by lia)⟩)⟩
         rintro ds ⟨fd,rfl,hk,hfd⟩;refine if_of false (λ Q q=>qh0 (decide (f<=100)) false (λ Q q=>qc5 rfl q) (λ hf Q q=>qc5 (b:=false) (Ad (x:=fd) (y:=toD (decide (f<=Ae n ps T s h))) (qb7 rfl hk) (qm3 rfl rfl rfl rfl) ?_) q) (by rw[zAx];exact q)) (λ h=>(nomatch h)) λ _=>hK3 _ ⟨_,_,rfl⟩
         rw[hfd (zAn hf)];exact Gi _
       rintro ds ⟨d10,d11,rfl⟩;exact hK _ ⟨_,_,rfl⟩
     rintro ds ⟨d10,d11,rfl⟩;refine qd6 [b,caseF true n wr ps,planD true a.C3 n wr ps,.lst true (ksD S),.lst true (ksD O),caseF true n wr [],.lst false [planD true a.C3 n wr [],planD true a.C3 n wr ps],.lst true (ksD T),.tup [.int ((s:Nat):Int),.int ((h:Nat):Int)],.int (Ae n ps T s h),d10,d11,.lst false (ksD T),d13] (λ K hK=>qf8 (qO8 (z:=true)) hK) ?_;refine qQ4 (qB9 (d:=.lst false [.int 0,.int 1,.int 0]) rfl (qa1 (a:=[.int 0,.int 1,.int 0]) rfl ⟨rfl,?_⟩));refine qg8 (λ _ ds=>∃ V d9 d13,ds=[b,caseF true n wr ps,planD true a.C3 n wr ps,.lst true (ksD S),.lst true (ksD O),caseF true n wr [],.lst false [planD true a.C3 n wr [],planD true a.C3 n wr ps],.lst true (ksD T),.tup [.int ((s:Nat):Int),.int ((h:Nat):Int)],d9,d10,d11,.lst false (ksD V),d13]/\Handy V) _ 0 _ ⟨T,_,_,rfl,FT⟩ ?_ ?_
     . rintro j x hx ds ⟨V,d9,d13,rfl,FV⟩ K3 hK3
       have hlV:=FV.len;obtain⟨i,pp,rfl,ndp,e1,e2⟩:∃(i:Int)(pp:Pr),x=.int i/\(pp.map (·.1)).Nodup/\gIx (.lst false [caseF true n wr [],caseF true n wr ps]) (.int i)=some (caseF true n wr pp)/\gIx (.lst false [planD true a.C3 n wr [],planD true a.C3 n wr ps]) (.int i)=some (planD true a.C3 n wr pp):=by
         have hx:=zBd hx;simp only[zA7,zAi,zBb] at hx;rcases hx with rfl | rfl | rfl
         . exact⟨0,[],rfl,List.nodup_nil,rfl,rfl⟩
         . exact⟨1,ps,rfl,nd,rfl,rfl⟩
         exact⟨0,[],rfl,List.nodup_nil,rfl,rfl⟩
       refine qh7 (As [b,caseF true n wr ps,planD true a.C3 n wr ps,.lst true (ksD S),.lst true (ksD O),caseF true n wr [],.lst false [planD true a.C3 n wr [],planD true a.C3 n wr ps],.lst true (ksD T),.tup [.int ((s:Nat):Int),.int ((h:Nat):Int)],d9,d10,d11,.lst false (ksD V),.int i] rfl ?_);refine qd6 [b,caseF true n wr ps,planD true a.C3 n wr ps,.lst true (ksD S),.lst true (ksD O),caseF true n wr [],.lst false [planD true a.C3 n wr [],planD true a.C3 n wr ps],.lst true (ksD T),.tup [.int ((s:Nat):Int),.int ((h:Nat):Int)],.int (Ae n pp V s h),d10,d11,.lst false (ksD V),.int i] (λ K hK=>?_) ?_
       . refine qf2 (qg9 (qd1 (y:=caseF true n wr pp) (Ad (x:=.lst false [caseF true n wr [],caseF true n wr ps]) (y:=.int i) rfl rfl e1) rfl (qb6 (x:=.lst false (ksD V)) rfl (qb6 (x:=.tup [.int ((s:Nat):Int),.int ((h:Nat):Int)]) rfl (qc3 (qa1 (a:=D.tup [.int ((s:Nat):Int),.int ((h:Nat):Int)]) rfl (qa1 (a:=D.lst false (ksD V)) rfl ?_)))))))
         exact⟨_,⟨true,n,wr,pp,false,V,s,h,rfl,n1,n2,ndp,by lia,hs,hh,rfl⟩,qa1 (a:=[b,caseF true n wr ps,planD true a.C3 n wr ps,.lst true (ksD S),.lst true (ksD O),caseF true n wr [],.lst false [planD true a.C3 n wr [],planD true a.C3 n wr ps],.lst true (ksD T),.tup [.int ((s:Nat):Int),.int ((h:Nat):Int)],d9,d10,d11,.lst false (ksD V),.int i]) rfl hK⟩
       refine qd5 false (λ Q q=>?_) (λ h=>(nomatch h)) λ _=>?_
       . refine qM7 (qd1 (y:=planD true a.C3 n wr pp) (Ad rfl rfl e2) rfl (qb6 (x:=.lst false (ksD V)) rfl (qc6 (y:=.int (if (if Ae n pp V s h < 99 then Ae n pp V s h else 99) > 0 then (if Ae n pp V s h < 99 then Ae n pp V s h else 99) else 0)) rfl (qb6 (x:=.tup [.int ((s:Nat):Int),.int ((h:Nat):Int)]) rfl (qc3 (qa1 (a:=D.tup [.int ((s:Nat):Int),.int ((h:Nat):Int)]) rfl (qa1 (a:=D.lst false (ksD V)) rfl ⟨by show 4<=1000000;decide,?_⟩)))))))
         show qj0 _ [.lst true [(planD true a.C3 n wr pp).fz,(D.lst false (ksD V)).fz,.int (if (if Ae n pp V s h < 99 then Ae n pp V s h else 99) > 0 then (if Ae n pp V s h < 99 then Ae n pp V s h else 99) else 0),.tup [.int ((s:Nat):Int),.int ((h:Nat):Int)]]] _ _;rw[qk8,Bk];have h1:(0:Int)<=(if (if Ae n pp V s h < 99 then Ae n pp V s h else 99) > 0 then (if Ae n pp V s h < 99 then Ae n pp V s h else 99) else 0):=by split<;>lia
         have h2:(if (if Ae n pp V s h < 99 then Ae n pp V s h else 99) > 0 then (if Ae n pp V s h < 99 then Ae n pp V s h else 99) else 0)<=100:=by split<;>split<;>lia
         have h3:decide ((if (if Ae n pp V s h < 99 then Ae n pp V s h else 99) > 0 then (if Ae n pp V s h < 99 then Ae n pp V s h else 99) else 0)<=Ae n pp V s h)=decide (0<=Ae n pp V s h):=decide_eq_decide.mpr (by split<;>split<;>lia);refine qE2 n1 n2 FV hs hh hw h1 (λ _=>⟨rfl,qa1 (a:=[b,caseF true n wr ps,planD true a.C3 n wr ps,.lst true (ksD S),.lst true (ksD O),caseF true n wr [],.lst false [planD true a.C3 n wr [],planD true a.C3 n wr ps],.lst true (ksD T),.tup [.int ((s:Nat):Int),.int ((h:Nat):Int)],.int (Ae n pp V s h),d10,d11,.lst false (ksD V),.int i]) rfl ?_⟩) λ h=>absurd h (by lia)
         rw[h3];exact qa1 (a:=D.bl false) (by rw[qm3 (x:=.str "told") (y:=.bl (decide (0<=Ae n pp V s h))) rfl rfl rfl rfl];exact Gi _) (qa1 (a:=false) rfl q)
       refine if_of (!decide (V=[])) (λ Q q=>qc5 (Ad (x:=.lst false (ksD V)) (y:=.lst false (ksD [])) rfl rfl (qar0 V [])) q) (λ h=>?_) λ _=>hK3 _ ⟨V,_,_,rfl,FV⟩
       have hV:V≠[]:=λ e=>by rw[e] at h;cases h
       refine qx4 (qap3 (ys:=ksD V) rfl (qc3 (qa1 (a:=ksD V) rfl (qa1 (a:=(ksD V.dropLast,D.int (V.getLast hV))) ?_ (hK3 _ ⟨V.dropLast,_,_,rfl,FV.sub (List.dropLast_sublist V)⟩)))));show (((ksD V)[(ksD V).length - 1]?).map λ d=>((ksD V).dropLast,d))=_;unfold ksD;rw[<- List.getLast?_eq_getElem?,List.getLast?_map,List.getLast?_eq_getLast hV,List.map_dropLast];rfl
     rintro ds ⟨V,d9,d13,rfl,_⟩;exact hK2 _ ⟨_,_,_,_,_,_,_,_,rfl,B⟩
   rintro ds ⟨b,d7,d8,d9,d10,d11,d12,d13,rfl,B⟩;exact hK _ ⟨_,_,_,_,_,_,_,_,rfl,B⟩
 rintro ds ⟨b,d7,d8,d9,d10,d11,d12,d13,rfl,B⟩;exact qi6 (.bl true) rfl (q b B)
theorem qh2:qb1 ["_law_script", "_law_bag_here", "_law_way", "_law_case_here", "_law_keys_here", "_law_plan", "_law_k", "_law_spoils", "_law_window_here", "_law_more_here", "_law_far", "_law_handed", "_law_j", "_law_due", "_law_found"] ["_law_script"] (qa4 Fv):=by walk_at "s"
theorem qar5{n:Int}{wr:Bool}{ps:Pr}:gEq (.lst false [.int n,.bl wr,.lst true (prD ps)]) (caseF true n wr ps)=some (.bl true):=by
 have e:eqN 20 (D.lst true (prD ps)) (.lst true (prD ps))=some true:=qi3 λ x hx=>by
   obtain⟨p,_,rfl⟩:=zAv.mp hx;exact qj7 rfl
 have e1:eqN 20 (.int n) (.int n)=some true:=qj7 rfl;have e2:eqN 20 (.bl wr) (.bl wr)=some true:=qj7 rfl;unfold gEq caseF;show Option.map _ ((eqN 20 (.int n) (.int n)).bind λ a=>((eqN 20 (.bl wr) (.bl wr)).bind λ a=>((eqN 20 (D.lst true (prD ps)) (.lst true (prD ps))).bind λ a=>(some true).bind λ b=>some (a&&b)).bind λ b=>some (a&&b)).bind λ b=>some (a&&b))=_;rw[e,e1,e2];rfl
theorem if_to(h:qc ds (λ b ds1=>if b=true then t e ds1 else u e ds1) e.xe):sIf qc t u e ds:=h
theorem qI6{t:VT}{g:VTG}(h:t ds (λ d ds1=>g d ds1 e.nx) e.xe):Dm t g e ds:=h
def Hd(C:Addr)(n:Int)(wr:Bool)(j:Int)(p:Bool)(o d:D):Prop:=(p=true->Bad C n wr j d)/\(p=false->d=o)
theorem Hd.kn{C:Addr}{n:Int}{wr:Bool}{j:Int}{p:Bool}{o:D}(H:Hd C n wr j p o d)(h1:o.known=true)(h2:o.imm=true)(h3:o.fz=o):d.known=true/\d.imm=true/\d.fz=d:=by
 cases p with
 | true=>exact⟨(H.1 rfl).kn,(H.1 rfl).im,(H.1 rfl).fz⟩
 | false=>rw[H.2 rfl];exact⟨h1,h2,h3⟩
theorem ne_wr(i:Int):gNe (wrD i) (wrD i)=some (.bl false):=qQ2 rfl
theorem qao6{i j:Int}:okW (.tup [.int i,.int j]):=qp5 rfl λ y hy=>by
 simp only[zA7,zAi,zBb] at hy;rcases hy with rfl | rfl<;>exact⟨_,rfl⟩
theorem qab5{C:Addr}{n:Int}{wr:Bool}{ps:Pr}{f:Int}{h:Nat}{p0 p1 p2 p3:Bool}{v t D1:D}(n1:1<=n)(n2:n<=64)(F:Handy S)(hs:s < n.toNat)(hh:h < n.toNat)(hw:wr=false->s<=h)(f0:0<=f)(f1:f<=100)(hx:Hd C n wr 0 p0 (planD true C n wr ps) x)(hy:Hd C n wr 1 p1 (.lst true (ksD S)) y)(hv:Hd C n wr 2 p2 (.int f) v)(ht:Hd C n wr 3 p3 (.tup [.int ((s:Nat):Int),.int ((h:Nat):Int)]) t)(hD:D1=if p0 then wrD 0 else if p1 then wrD 1 else if p2 then wrD 2 else if p3 then wrD 3 else toD (decide (f<=Ae n ps S s h)))(q:Q D1 [.lst true [x,y,v,t]]):qj0 C [.lst true [x,y,v,t]] Q xe:=by
 have kx:=hx.kn rfl rfl qk8;have ky:=hy.kn rfl rfl (Bk S);have kv:=hv.kn rfl rfl rfl;have kt:=ht.kn rfl rfl rfl;have im:D.imms [x,y,v,t]=true:=by
   show (x.imm&&(y.imm&&(v.imm&&(t.imm&&true))))=true;rw[kx.2.1,ky.2.1,kv.2.1,kt.2.1];rfl
 have kk:∃ t,v.kind=some t:=by
   cases p2 with
   | true=>exact((hv.1 rfl).c2 rfl).1
   | false=>rw[hv.2 rfl];exact⟨_,rfl⟩
 have oy:okK y:=by
   cases p1 with
   | true=>exact((hy.1 rfl).c1 rfl).1
   | false=>rw[hy.2 rfl];exact qao7 (by have:=F.len;lia)
 have ot:okW t:=by
   cases p3 with
   | true=>exact((ht.1 rfl).c3 rfl).1
   | false=>rw[ht.2 rfl];exact qao6
 cases p0 with
 | true=>exact⟨x,y,v,t,false,rfl,(hx.1 rfl).c0 rfl,kk,ky.1,kt.1,im,λ _=>by rw[hD] at q;exact q,λ h=>(nomatch h)⟩
 | false =>
   cases hx.2 rfl;cases p1 with
   | true=>exact⟨_,y,v,t,true,rfl,qv3,kk,ky.1,kt.1,im,λ h=>(nomatch h),λ _=>⟨oy,ot,λ _=>by rw[hD] at q;exact q,λ k=>by rw[((hy.1 rfl).c1 rfl).2] at k;cases k⟩⟩
   | false =>
     cases hy.2 rfl;cases p2 with
     | true=>exact⟨_,_,v,t,true,rfl,qv3,kk,rfl,kt.1,im,λ h=>(nomatch h),λ _=>⟨oy,ot,λ k=>(by rw[F.keyL] at k;cases k),λ _=>⟨true,n,wr,ps,true,S,rfl,rfl,n1,n2,F.num,by have:=F.len;lia,λ _=>by rw[hD] at q;exact q,λ k=>by rw[((hv.1 rfl).c2 rfl).2] at k;cases k⟩⟩⟩
     | false =>
       cases hv.2 rfl;cases p3 with
       | true=>exact⟨_,_,_,t,true,rfl,qv3,kk,rfl,kt.1,im,λ h=>(nomatch h),λ _=>⟨oy,ot,λ k=>(by rw[F.keyL] at k;cases k),λ _=>⟨true,n,wr,ps,true,S,rfl,rfl,n1,n2,F.num,by have:=F.len;lia,λ k=>(by rw[qk0 f0 f1] at k;cases k),λ _=>⟨λ _=>by rw[hD] at q;exact q,λ _ _ _ _ _ _ _ k=>by rw[((ht.1 rfl).c3 rfl).2] at k;cases k⟩⟩⟩⟩
       | false =>
         cases ht.2 rfl;exact qE2 n1 n2 F hs hh hw f0 (λ _=>by rw[hD] at q;exact q) λ h=>absurd h (by lia)
theorem qax3(T:Txt K mg a):Bh P w K mg base (CX1 P w) 9 a.f30 a.d30 ["_law_script"] (F7 K):=by
 refine T.d30.F.okX qh2 (λ vs H Q E h=>?_) (λ cdv A outer s H vs Q E hr h=>?_)
 . obtain⟨l,ns,rfl,_⟩:=h
   rfl
 obtain⟨l,ns,rfl,hS,hl,k⟩:=h;refine⟨_,qM8 (sset 1 qh2.nd (callD T.d19 (qao5 T) (rm hr) (qd4 (pv 0) qn2))) (show VSs ⟨E,λ _=>false,List.replicate 15 none,[]⟩ (B9 (CX1 P w) P w K mg base ["_law_script", "_law_bag_here", "_law_way", "_law_case_here", "_law_keys_here", "_law_plan", "_law_k", "_law_spoils", "_law_window_here", "_law_more_here", "_law_far", "_law_handed", "_law_j", "_law_due", "_law_found"] "law" (qa4 Fv) a.f30 cdv A outer s H E) _ _ from(Ac (Aj 2 qh2.nd (Ah T.d20 (qb3 T) qa2 (rm hr) (vaN 1 (vaV (qa3 Aa) Ab))))
     (Ac (Aj 3 qh2.nd (Ah T.d21 (qaf0 T) qa2 (rm hr) (vaN 1 (vaV (qa3 Aa) Ab))))
     (Ac (Aj 4 qh2.nd (An (Ah T.d23 (qae8 T) qa2 (rm hr) (vaN 1 (vaN 3 (vaV (e2vP (Al qa8) Af (Dq (vaV (e2 (Ag qd8) qd7 (qa3 Aa) (Ah T.d20 (qb3 T) qa2 (rm hr) (vaN 1 (vaV (qb9 (v2 (Al qa8) Af (vnm 3) Aa)) Ab)))) (vaV (qb9 (v2 (Al qa8) Af (vnm 3) Aa)) (vaV (e2 (Ag qd8) qd7 (qa3 Aa) (Ah T.d20 (qb3 T) qa2 (rm hr) (vaN 1 (vaV (qa3 Aa) Ab)))) Ab)))) (vnm 2)) Ab))))))
     (Ac (Aj 5 qh2.nd (An (emake T.C5 T.D5 T.d9 (qp4 T) qa2 (rm hr) (vaV (qb9 (v2 (Al qa8) Af (vnm 3) Aa)) (vaV (qb9 (v2 (Al qa8) Af (vnm 3) Aa)) (vaV (qa3 (Fm qf1 qx7.ops T.Cn (qa0 (v2 (Al qa8) Af (vnm 3) Aa) qa5 rfl))) Ab))))))
     (Ac (qS7 PassesOwn.leaving T.Ck (Du (vaV (qa3 Aa) Ab)) (Br 6 qh2.nd)
     (Ac (scR1 (NY:=["_law_j", "_law_bag_here"]) (src:=[none,some 1]) 7 qh2.nd T.Ck (Du (vaV (qa3 Aa) Ab)) (blk (λ av C s0 H0 ex=>(Br 0 (show (["_law_j", "_law_bag_here"]:List Str).Nodup by decide +kernel))) (λ av C s0 H0 ex=>Fs) (λ av C s0 H0 ex=>(e2v (Bb (qf9 hr.u64) (qb8 _)) A8 (Ah T.d20 (qb3 T) qp7 (rm hr) (vaN 1 (vaV (qa3 Aa) Ab))) Aa))))
     (Ac (Aj 8 qh2.nd (Ah T.d25 (qw8 T) qa2 (rm hr) (vaN 1 (vaN 3 Ab))))
     (Ac (Aj 9 qh2.nd (Ah T.d26 (qB4 T) qa2 (rm hr) (vaN 3 (vaN 4 (vaN 8 Ab)))))
     (Ac (Aj 10 qh2.nd (ebi (qH9 rfl) qaa5.ops T.D9 (Du (vaV (qa3 Aa) (vaV (ebi (qo3 rfl) qH4.ops T.D6 (Du (vaV (qa3 Aa) (vaV (e2 (Ag qd8) qd7 (qa3 (v2 (Ag qj5) qj4 (vnm 9) Aa)) (Ah T.d20 (qb3 T) qa2 (rm hr) (vaN 1 (vaV (qa3 Aa) Ab)))) Ab)))) Ab)))))
     (Ac (sif (q2v (Bb (qf9 hr.u64) (qb8 _)) (Am (qf9 hr.u64) (qb8 _)) A8 (Ah T.d20 (qb3 T) qa2 (rm hr) (vaN 1 (vaV (qa3 Aa) Ab))) Aa)
     (Ak (Aj 10 qh2.nd (qa3 Aa)))
     At)
     (Ac (Aj 11 qh2.nd (Dq (vaV (An (qb9 (vnm 5))) (vaV (An (qa3 (Fm qf1 qx7.ops T.Cn (qa0 (vnm 4) qa5 rfl)))) (vaV (An (qb9 (vnm 10))) (vaV (An (qb9 (vnm 8))) Ab))))))
     (Ac (qS7 PassesOwn.leaving T.Ck (Du (vaV (qa3 Aa) Ab)) (Br 12 qh2.nd)
     (Ak (sif (tv (v2 (Al qa8) Af (vnm 7) (vnm 12)))
     (Ak (sasg (An (Ah T.d27 (qN7 T) qa2 (rm hr) (vaN 1 (vaV (efz 3) (vaN 12 (vaV (qb9 (v2 (Al qa8) Af (vnm 11) (vnm 12))) Ab)))))) (Gb (vpn 11) (vnm 12))))
     At)))
     (Ac (Aj 13 qh2.nd (qa3 (Bq (qa0 Dp (qa0 (v2 (Bb F6 (qb8 _)) F9 (vnm 9) (vnm 10)) qa5 rfl) rfl))))
     (Ac (sif (q2 (Am qk2 (by with_unfolding_all rfl)) Fk vbl (vnm 7))
     (Ak (Aj 13 qh2.nd (qa3 (Bq (qa0 Dp (qa0 (vbm qaw3 PySem.F.plainAttrs_list PySem.F.slot_list_index PySem.F.type_list_index qaf5 (vnm 7) vbl qaq4) qa5 rfl) rfl)))))
     At)
     (Ac (Aj 14 qh2.nd (qaA3 T.d28 (qu5 T) qa2 (rm hr) (vaN 11 Ab)))
     (Ac (sif (tor (q2 (Am (qp2 hr.u64) (qb8 _)) Dl (vnm 14) (vnm 13)) (Hf (q2 (Am (qp2 hr.u64) (qb8 _)) Dl (vbi qi0 qx8.ops T.C4 (qa0 (v2 (Al qa8) Af (vnm 14) Aa) (qa0 (vty "bool" T.D0) qa5 rfl) rfl)) (v2 (Bb (qf9 hr.u64) (qb8 _)) A8 (v2 (Al qa8) Af (vnm 13) Aa) Dp)))).te
     (Ak (Aq (qa3 vbl)))
     At)
     (Ac (sif (Fl (Bu (tv (v2 (Al qa8) Af (vnm 7) Aa))) (Eg (q2 (Am (qp2 hr.u64) (qb8 _)) Dl (v2 (Al qa8) Af (vnm 11) Aa) (vnm 4)))).te
     (Ak (Aq (qa3 vbl)))
     At)
     (Ak (sif (q2v (Bb (qp2 hr.u64) (qb8 _)) (Am (qp2 hr.u64) (qb8 _)) Dl (qai3 T.d28 (qu5 T) qa2 (rm hr) (vaN 5 (vaV (qa3 (Bf qa5)) (vaN 10 (vaN 8 Ab))))) (Bq (qa0 Dp (qa0 vbl qa5 rfl) rfl)))
     (Ak (Aq (qa3 vbl)))
     At)))))))))))))))
     (Ak (Aq (Fy (Ah T.d29 (qB5 T) qa2 (rm hr) (vaN 1 (vaV (efz 3) (vaN 5 (vaN 4 Ab))))) (Hh (qa3 (v2 (Bb (qf9 hr.u64) (qb8 _)) A8 (Bf (qa0 (E8 rfl (vnm 5) T.C5.cl T.C9) (qa0 (E8 rfl (vnm 5) T.C5.cl T.Cj) (qa0 (E8 rfl (vnm 5) T.C5.cl T.Co) qa5 rfl) rfl) rfl)) (vnm 3))))))))))))).h,?_⟩
 refine⟨_,rfl,l,ns,rfl,hS,hl,λ p L H' hp hL kp B=>?_⟩;obtain⟨x,y,z,ns',B⟩:=B;refine qU2 (rest:=[]) (X:=B9 (CX1 P w) P w K mg base [] "law" (qa4 Fv) a.f30 cdv A outer s H E) (n:=13) (x:=x) (y:=y) (z:=z) (ns:=ns') rfl (λ _=>rfl) rfl B.at_ B.li B.ne (λ H'=>k H') ?_;have B0:isBag ns' (bagD x y z ns'):=⟨x,y,z,rfl,B.x0,B.y0,B.y1,B.z0,B.nn⟩
 generalize bagD x y z ns'=b at B0;generalize V.ref l=u;refine As [D.hole u,b,.unk,.unk,.unk,.unk,.unk,.unk,.unk,.unk,.unk,.unk,.unk,.unk,.unk] rfl ?_;refine qc0 (λ ds=>∃ b way,ds=[D.hole u,b,.int way,.unk,.unk,.unk,.unk,.unk,.unk,.unk,.unk,.unk,.unk,.unk,.unk]/\isBag ns' b/\0<=way/\way < 3) (λ K hK=>?_) ?_
 . exact qc1 rfl B0 rfl (by decide) (by decide) λ v b' v0 v1 B'=>hK _ ⟨b',v,rfl,B',v0,v1⟩
 rintro ds ⟨b,way,rfl,B,w0,w1⟩;refine qc0 (λ ds=>∃ b n wr,ds=[D.hole u,b,.int way,caseD n wr [],.unk,.unk,.unk,.unk,.unk,.unk,.unk,.unk,.unk,.unk,.unk]/\isBag ns' b/\1<=n/\n<=64) (λ K hK=>?_) ?_
 . refine qf2 (qg9 (qb6 (x:=b) (qb7 rfl B.known) (qc6 (y:=.int 64) rfl (qc3 ?_))))
   refine qa1 (a:=b) (qb7 rfl B.known) ?_;exact⟨b,ns',rfl,B,λ b' n wr B' n1 n2=>hK _ ⟨b',n,wr,rfl,B',n1,n2⟩⟩
 rintro ds ⟨b,n,wr,rfl,B,n1,n2⟩;refine qc0 (λ ds=>∃ b ps S,ds=[D.hole u,b,.int way,caseD n wr ps,.lst true (ksD S),.unk,.unk,.unk,.unk,.unk,.unk,.unk,.unk,.unk,.unk]/\isBag ns' b/\(ps.map (·.1)).Nodup/\qK1 ps/\Handy S/\S≠[]) (λ K hK=>?_) ?_
 . refine qf2 (fz_to (qg9 (qb6 (x:=b) (qb7 rfl B.known) (qb6 (x:=caseD n wr []) rfl (qf5 (qL0 (qj6 (qf5 (qS4 (x:=.int 1) rfl ?_)))))))))
   refine qt1 (ds:=[D.hole u,b,.int way,caseD n wr [],.unk,.unk,.unk,.unk,.unk,.unk,.unk,.unk,.unk,.unk,.unk]) (m:=n) rfl B rfl (by lia) (by lia) λ v b1 a0 a1 B1=>?_
   refine qa1 (a:=D.int (1+v)) rfl ?_;refine qd1 (y:=.int n) rfl rfl (qf5 (qS4 (x:=.int 1) rfl ?_));refine qc1 (ds:=[D.hole u,b1,.int way,caseD n wr [],.unk,.unk,.unk,.unk,.unk,.unk,.unk,.unk,.unk,.unk,.unk]) (m:=100) rfl B1 rfl (by lia) (by lia) λ v' b2 a0' a1' B2=>?_
   refine qa1 (a:=D.int (1+v')) rfl (qc3 ⟨by show 3<=1000000;decide,?_⟩);refine qa1 (a:=D.int way) rfl ⟨rfl,?_⟩;obtain⟨d,hd,ed⟩:=qg1 (xs:=[D.int (1+v),D.int n,D.int (1+v')]) (i:=way) w0 w1;obtain⟨m,rfl,m0,m1⟩:∃ m:Int,d=.int m/\1<=m/\m<=100:=by
     simp only[zA7,zAi,zBb] at hd;rcases hd with rfl | rfl | rfl
     . exact⟨_,rfl,by lia,by lia⟩
     . exact⟨_,rfl,by lia,by lia⟩
     exact⟨_,rfl,by lia,by lia⟩
   refine qa1 (a:=D.int m) ed ?_;refine qc3 ?_;refine qa1 (a:=caseD n wr []) rfl ?_;refine qa1 (a:=b2) (qb7 rfl B2.known) ?_;refine⟨b2,n,wr,m,ns',rfl,B2,n1,n2,by lia,m1,λ b' ks ps B' nd lk hlen hne Dr=>?_⟩;refine qa1 (a:=[D.hole u,b',.int way,caseD n wr ps,.unk,.unk,.unk,.unk,.unk,.unk,.unk,.unk,.unk,.unk,.unk]) rfl ?_;rw[Bk];exact hK _ ⟨b',ps,ks,rfl,B',Dr.nd,Dr.good lk,⟨λ k hk=>(lk k hk).num,nd,by lia⟩,hne m0⟩
 rintro ds ⟨b,ps,S,rfl,B,nd,G,F,hne⟩;have hlS:=F.len;refine qd6 [D.hole u,b,.int way,caseD n wr ps,.lst true (ksD S),planD true a.C3 n wr ps,.unk,.unk,.unk,.unk,.unk,.unk,.unk,.unk,.unk] (λ K hK=>?_) ?_
 . refine qf2 (fz_to (qZ1 (qd1 (y:=.int n) rfl rfl (qd1 (y:=.bl wr) rfl rfl (qc6 (y:=.lst false (prD ps)) (qZ2 (z:=false)) (qc3 ?_))))))
   refine⟨.int n,.bl wr,.lst false (prD ps),rfl,⟨_,rfl⟩,⟨_,rfl⟩,(qk6 G).2,λ h=>?_,λ _ h=>(nomatch h),λ _ _ h=>?_,λ n' wr' z' ps' e1 e2 e3 _ _ _=>?_⟩
   . rw[qk0 (by lia) (by lia)] at h;cases h
   . rw[(qk6 G).1] at h;cases h
   cases e1;cases e2;have e4:=(D.lst.inj e3).2;cases (D.lst.inj e3).1;cases qM9 e4;refine⟨rfl,?_⟩;show K (List.set _ 5 (planD false a.C3 n wr ps).fz);rw[qk8];exact hK
 refine qc0 (λ ds=>∃ b z d6 d7 d8 d9 d10 d11 d12 d13 d14,ds=[D.hole u,b,.int way,caseF z n wr ps,.lst true (ksD S),planD true a.C3 n wr ps,d6,d7,d8,d9,d10,d11,d12,d13,d14]/\isBag ns' b) (λ K hK=>?_) ?_
 . refine qv6 (n:=12) rfl (by decide) ?_
   refine qg8 (λ _ ds=>∃ b z d6 d7 d8 d9 d10 d11 d12 d13 d14,ds=[D.hole u,b,.int way,caseF z n wr ps,.lst true (ksD S),planD true a.C3 n wr ps,d6,d7,d8,d9,d10,d11,d12,d13,d14]/\isBag ns' b) _ 0 _ ⟨b,false,_,_,_,_,_,_,_,_,_,rfl,B⟩ ?_ ?_
   . rintro i x hx ds ⟨b,z,d6,d7,d8,d9,d10,d11,d12,d13,d14,rfl,B⟩ K2 hK2
     refine qh7 (As [D.hole u,b,.int way,caseF z n wr ps,.lst true (ksD S),planD true a.C3 n wr ps,x,d7,d8,d9,d10,d11,d12,d13,d14] rfl ?_);refine qc0 (λ ds=>∃ b p0 p1 p2 p3,ds=[D.hole u,b,.int way,caseF z n wr ps,.lst true (ksD S),planD true a.C3 n wr ps,x,.lst false [.bl p0,.bl p1,.bl p2,.bl p3],d8,d9,d10,d11,d12,d13,d14]/\isBag ns' b) (λ K hK=>?_) ?_
     . refine qf2 (qaA7 (qc6 (y:=.int 4) rfl (qc3 (qa1 (a:=4) rfl ⟨by decide,?_⟩))))
       show B8 _ _ _ _ [.int 0,.int 1,.int 2,.int 3] [] [.unk,b];refine qH8 (qh7 (qR8 (E3 rfl (qz0 (qc1 (ds:=[.int 0,b]) (m:=8) rfl B rfl (by decide) (by decide) λ v0 b0 _ _ B0=>qa1 (a:=D.bl (v0 == 0)) rfl ⟨by show 0 < 1000000;decide,?_⟩)))));refine qH8 (qh7 (qR8 (E3 rfl (qz0 (qc1 (ds:=[.int 1,b0]) (m:=8) rfl B0 rfl (by decide) (by decide) λ v1 b1 _ _ B1=>qa1 (a:=D.bl (v1 == 0)) rfl ⟨by show 1 < 1000000;decide,?_⟩)))));refine qH8 (qh7 (qR8 (E3 rfl (qz0 (qc1 (ds:=[.int 2,b1]) (m:=8) rfl B1 rfl (by decide) (by decide) λ v2 b2 _ _ B2=>qa1 (a:=D.bl (v2 == 0)) rfl ⟨by show 2 < 1000000;decide,?_⟩)))));refine qH8 (qh7 (qR8 (E3 rfl (qz0 (qc1 (ds:=[.int 3,b2]) (m:=8) rfl B2 rfl (by decide) (by decide) λ v3 b3 _ _ B3=>qa1 (a:=D.bl (v3 == 0)) rfl ⟨by show 3 < 1000000;decide,?_⟩)))));exact hK _ ⟨b3,v0 == 0,v1 == 0,v2 == 0,v3 == 0,rfl,B3⟩
     rintro ds ⟨b,p0,p1,p2,p3,rfl,B⟩;refine qc0 (λ ds=>∃ b s h,ds=[D.hole u,b,.int way,caseF z n wr ps,.lst true (ksD S),planD true a.C3 n wr ps,x,.lst false [.bl p0,.bl p1,.bl p2,.bl p3],.tup [.int ((s:Nat):Int),.int ((h:Nat):Int)],d9,d10,d11,d12,d13,d14]/\isBag ns' b/\s < n.toNat/\h < n.toNat/\(wr=false->s<=h)) (λ K hK=>?_) ?_
     . exact qf2 (qR4 (x:=b) (y:=caseF z n wr ps) (qb7 rfl B.known) rfl (qb7 rfl B.known) ⟨b,ns',z,n,wr,ps,rfl,B,n1,n2,λ b' s h B' hs hh hw=>qa1 (a:=[D.hole u,b',.int way,caseF z n wr ps,.lst true (ksD S),planD true a.C3 n wr ps,x,.lst false [.bl p0,.bl p1,.bl p2,.bl p3],d8,d9,d10,d11,d12,d13,d14]) rfl (hK _ ⟨b',s,h,rfl,B',hs,hh,hw⟩)⟩)
     rintro ds ⟨b,s,h,rfl,B,hs,hh,hw⟩;refine qd6 [D.hole u,b,.int way,caseF z n wr ps,.lst true (ksD S),planD true a.C3 n wr ps,x,.lst false [.bl p0,.bl p1,.bl p2,.bl p3],.tup [.int ((s:Nat):Int),.int ((h:Nat):Int)],.int (Ae n ps S s h),d10,d11,d12,d13,d14] (λ K hK=>qf2 (qap5 (x:=caseF z n wr ps) (y:=.lst true (ksD S)) (w:=.tup [.int ((s:Nat):Int),.int ((h:Nat):Int)]) rfl rfl rfl rfl rfl ⟨z,n,wr,ps,true,S,s,h,rfl,n1,n2,nd,by lia,hs,hh,rfl⟩ rfl hK)) ?_;refine qc0 (λ ds=>∃ b f,ds=[D.hole u,b,.int way,caseF z n wr ps,.lst true (ksD S),planD true a.C3 n wr ps,x,.lst false [.bl p0,.bl p1,.bl p2,.bl p3],.tup [.int ((s:Nat):Int),.int ((h:Nat):Int)],.int (Ae n ps S s h),.int f,d11,d12,d13,d14]/\isBag ns' b/\0<=f/\f<=100) (λ K hK=>?_) ?_
     . refine qf2 (Gf (qc6 (y:=.int 100) rfl (qf5 (Gf (qc6 (y:=.int 0) rfl (qf5 (qS4 (x:=.int (Ae n ps S s h - 1)) rfl ?_)))))))
       refine qc1 (ds:=[D.hole u,b,.int way,caseF z n wr ps,.lst true (ksD S),planD true a.C3 n wr ps,x,.lst false [.bl p0,.bl p1,.bl p2,.bl p3],.tup [.int ((s:Nat):Int),.int ((h:Nat):Int)],.int (Ae n ps S s h),d10,d11,d12,d13,d14]) (m:=3) rfl B rfl (by decide) (by decide) λ v b' v0 v1 B'=>qa1 (a:=D.int (Ae n ps S s h - 1+v)) rfl (qc3 ?_)
       refine qa1 (a:=D.int (if Ae n ps S s h - 1+v > 0 then Ae n ps S s h - 1+v else 0)) rfl (qc3 ?_);have m0:0<=(if Ae n ps S s h - 1+v > 0 then Ae n ps S s h - 1+v else 0):=by split<;>lia
       generalize (if Ae n ps S s h - 1+v > 0 then Ae n ps S s h - 1+v else 0)=m at m0 ⊢;exact qa1 (a:=D.int (if m < 100 then m else 100)) rfl (hK _ ⟨b',_,rfl,B',by split<;>lia,by split<;>lia⟩)
     rintro ds ⟨b,f,rfl,B,f0,f1⟩;refine qc0 (λ ds=>∃ b f,ds=[D.hole u,b,.int way,caseF z n wr ps,.lst true (ksD S),planD true a.C3 n wr ps,x,.lst false [.bl p0,.bl p1,.bl p2,.bl p3],.tup [.int ((s:Nat):Int),.int ((h:Nat):Int)],.int (Ae n ps S s h),.int f,d11,d12,d13,d14]/\isBag ns' b/\0<=f/\f<=100) (λ K hK=>?_) ?_
     . refine if_to (qM7 (qc1 (ds:=[D.hole u,b,.int way,caseF z n wr ps,.lst true (ksD S),planD true a.C3 n wr ps,x,.lst false [.bl p0,.bl p1,.bl p2,.bl p3],.tup [.int ((s:Nat):Int),.int ((h:Nat):Int)],.int (Ae n ps S s h),.int f,d11,d12,d13,d14]) (m:=8) rfl B rfl (by decide) (by decide) λ v b' v0 v1 B'=>qa1 (a:=D.bl (v == 0)) rfl (qa1 (a:=(v == 0)) rfl (ite_b (λ _=>?_) λ _=>?_))))
       . exact qf8 (d:=.int 100) rfl (hK _ ⟨b',100,rfl,B',by decide,by decide⟩)
       exact hK _ ⟨b',f,rfl,B',f0,f1⟩
     clear f0 f1;rintro ds ⟨b,f,rfl,B,f0,f1⟩;refine qd6 [D.hole u,b,.int way,caseF z n wr ps,.lst true (ksD S),planD true a.C3 n wr ps,x,.lst false [.bl p0,.bl p1,.bl p2,.bl p3],.tup [.int ((s:Nat):Int),.int ((h:Nat):Int)],.int (Ae n ps S s h),.int f,.lst false [planD true a.C3 n wr ps,.lst true (ksD S),.int f,.tup [.int ((s:Nat):Int),.int ((h:Nat):Int)]],d12,d13,d14] (λ K hK=>?_) ?_
     . refine qf2 (qj6 (qm4 (y:=planD true a.C3 n wr ps) rfl rfl (qb4 (y:=.lst false (ksD S)) (qO8 (z:=true)) (qm4 (y:=.int f) rfl rfl (qm4 (y:=.tup [.int ((s:Nat):Int),.int ((h:Nat):Int)]) rfl rfl (qc3 ⟨by show 4<=1000000;decide,?_⟩))))))
       rw[qk8,Bk];exact hK
     refine qc0 (λ ds=>∃ b z d12 x0 x1 x2 x3,ds=[D.hole u,b,.int way,caseF z n wr ps,.lst true (ksD S),planD true a.C3 n wr ps,x,.lst false [.bl p0,.bl p1,.bl p2,.bl p3],.tup [.int ((s:Nat):Int),.int ((h:Nat):Int)],.int (Ae n ps S s h),.int f,.lst false [x0,x1,x2,x3],d12,d13,d14]/\isBag ns' b/\Hd a.C3 n wr 0 p0 (planD true a.C3 n wr ps) x0/\Hd a.C3 n wr 1 p1 (.lst true (ksD S)) x1/\Hd a.C3 n wr 2 p2 (.int f) x2/\Hd a.C3 n wr 3 p3 (.tup [.int ((s:Nat):Int),.int ((h:Nat):Int)]) x3) (λ K hK=>?_) ?_
     . refine qv6 (n:=4) rfl (by decide) ?_
       refine qg8 (λ i ds=>∃ b z d12 x0 x1 x2 x3,ds=[D.hole u,b,.int way,caseF z n wr ps,.lst true (ksD S),planD true a.C3 n wr ps,x,.lst false [.bl p0,.bl p1,.bl p2,.bl p3],.tup [.int ((s:Nat):Int),.int ((h:Nat):Int)],.int (Ae n ps S s h),.int f,.lst false [x0,x1,x2,x3],d12,d13,d14]/\isBag ns' b/\(if 0 < i then Hd a.C3 n wr 0 p0 (planD true a.C3 n wr ps) x0 else x0=planD true a.C3 n wr ps)/\(if 1 < i then Hd a.C3 n wr 1 p1 (.lst true (ksD S)) x1 else x1=.lst true (ksD S))/\(if 2 < i then Hd a.C3 n wr 2 p2 (.int f) x2 else x2=.int f)/\(if 3 < i then Hd a.C3 n wr 3 p3 (.tup [.int ((s:Nat):Int),.int ((h:Nat):Int)]) x3 else x3=.tup [.int ((s:Nat):Int),.int ((h:Nat):Int)])) _ 0 _ ⟨b,z,_,_,_,_,_,rfl,B,rfl,rfl,rfl,rfl⟩ ?_ ?_
       . rintro j y hy ds ⟨b,z,d12,x0,x1,x2,x3,rfl,B,h0,h1,h2,h3⟩ K3 hK3
         rw[zBv] at h0 h1 h2 h3;have hj:j=0∨j=1∨j=2∨j=3:=by
           have:=(zA5.mp hy).1
           have:j < 4:=this
           lia
         rcases hj with rfl | rfl | rfl | rfl
         . cases (show y=.int 0 from(Option.some.inj hy).symm)
           have h0:x0=planD true a.C3 n wr ps:=h0;have h1:x1=.lst true (ksD S):=h1;have h2:x2=.int f:=h2;have h3:x3=.tup [.int ((s:Nat):Int),.int ((h:Nat):Int)]:=h3;subst h0 h1 h2 h3;refine qh7 (As [D.hole u,b,.int way,caseF z n wr ps,.lst true (ksD S),planD true a.C3 n wr ps,x,.lst false [.bl p0,.bl p1,.bl p2,.bl p3],.tup [.int ((s:Nat):Int),.int ((h:Nat):Int)],.int (Ae n ps S s h),.int f,.lst false [planD true a.C3 n wr ps,.lst true (ksD S),.int f,.tup [.int ((s:Nat):Int),.int ((h:Nat):Int)]],.int 0,d13,d14] rfl ?_);refine if_of p0 (λ Q q=>qc5 rfl q) (λ hp=>?_) λ hp=>hK3 _ ⟨b,z,_,_,_,_,_,rfl,B,⟨λ e=>(by rw[hp] at e;cases e),λ _=>rfl⟩,rfl,rfl,rfl⟩
           refine qI6 (fz_to (qg9 (qb6 (x:=b) (qb7 rfl B.known) (qf5 (qv8 (d:=caseF z n wr ps) rfl ?_)))));rw[qt0];refine qb6 (x:=.int 0) rfl (qd1 (y:=planD true a.C3 n wr ps) (Ad rfl rfl rfl) rfl (qc3 (qa1 (a:=D.int 0) rfl (qa1 (a:=b) (qb7 rfl B.known) ⟨b,ns',n,wr,ps,0,_,rfl,B,n1,n2,rfl,.inl rfl,λ b' d B' hd=>qa1 (a:=[D.hole u,b',.int way,caseF true n wr ps,.lst true (ksD S),planD true a.C3 n wr ps,x,.lst false [.bl p0,.bl p1,.bl p2,.bl p3],.tup [.int ((s:Nat):Int),.int ((h:Nat):Int)],.int (Ae n ps S s h),.int f,.lst false [planD true a.C3 n wr ps,.lst true (ksD S),.int f,.tup [.int ((s:Nat):Int),.int ((h:Nat):Int)]],.int 0,d13,d14]) rfl ?_⟩))));rw[hd.fz];exact qa1 (a:=(11,[])) rfl (qa1 (a:=[planD true a.C3 n wr ps,.lst true (ksD S),.int f,.tup [.int ((s:Nat):Int),.int ((h:Nat):Int)]]) rfl (qa1 (a:=(0:Int)) rfl (qa1 (a:=0) rfl (hK3 _ ⟨b',true,_,_,_,_,_,rfl,B',⟨λ _=>hd,λ e=>(by rw[hp] at e;cases e)⟩,rfl,rfl,rfl⟩))))
         . cases (show y=.int 1 from(Option.some.inj hy).symm)
           have h0:Hd a.C3 n wr 0 p0 (planD true a.C3 n wr ps) x0:=h0;have h1:x1=.lst true (ksD S):=h1;have h2:x2=.int f:=h2;have h3:x3=.tup [.int ((s:Nat):Int),.int ((h:Nat):Int)]:=h3;subst h1 h2 h3;refine qh7 (As [D.hole u,b,.int way,caseF z n wr ps,.lst true (ksD S),planD true a.C3 n wr ps,x,.lst false [.bl p0,.bl p1,.bl p2,.bl p3],.tup [.int ((s:Nat):Int),.int ((h:Nat):Int)],.int (Ae n ps S s h),.int f,.lst false [x0,.lst true (ksD S),.int f,.tup [.int ((s:Nat):Int),.int ((h:Nat):Int)]],.int 1,d13,d14] rfl ?_);refine if_of p1 (λ Q q=>qc5 rfl q) (λ hp=>?_) λ hp=>hK3 _ ⟨b,z,_,_,_,_,_,rfl,B,h0,⟨λ e=>(by rw[hp] at e;cases e),λ _=>rfl⟩,rfl,rfl⟩
           refine qI6 (fz_to (qg9 (qb6 (x:=b) (qb7 rfl B.known) (qf5 (qv8 (d:=caseF z n wr ps) rfl ?_)))));rw[qt0];refine qb6 (x:=.int 1) rfl (qd1 (y:=.lst true (ksD S)) (Ad rfl rfl rfl) rfl (qc3 (qa1 (a:=D.int 1) rfl (qa1 (a:=b) (qb7 rfl B.known) ⟨b,ns',n,wr,ps,1,_,rfl,B,n1,n2,rfl,.inr (.inl ⟨rfl,true,S,rfl,hne,hlS⟩),λ b' d B' hd=>qa1 (a:=[D.hole u,b',.int way,caseF true n wr ps,.lst true (ksD S),planD true a.C3 n wr ps,x,.lst false [.bl p0,.bl p1,.bl p2,.bl p3],.tup [.int ((s:Nat):Int),.int ((h:Nat):Int)],.int (Ae n ps S s h),.int f,.lst false [x0,.lst true (ksD S),.int f,.tup [.int ((s:Nat):Int),.int ((h:Nat):Int)]],.int 1,d13,d14]) rfl ?_⟩))));rw[hd.fz];exact qa1 (a:=(11,[])) rfl (qa1 (a:=[x0,.lst true (ksD S),.int f,.tup [.int ((s:Nat):Int),.int ((h:Nat):Int)]]) rfl (qa1 (a:=(1:Int)) rfl (qa1 (a:=1) rfl (hK3 _ ⟨b',true,_,_,_,_,_,rfl,B',h0,⟨λ _=>hd,λ e=>(by rw[hp] at e;cases e)⟩,rfl,rfl⟩))))
         . cases (show y=.int 2 from(Option.some.inj hy).symm)
           have h0:Hd a.C3 n wr 0 p0 (planD true a.C3 n wr ps) x0:=h0;have h1:Hd a.C3 n wr 1 p1 (.lst true (ksD S)) x1:=h1;have h2:x2=.int f:=h2;have h3:x3=.tup [.int ((s:Nat):Int),.int ((h:Nat):Int)]:=h3;subst h2 h3;refine qh7 (As [D.hole u,b,.int way,caseF z n wr ps,.lst true (ksD S),planD true a.C3 n wr ps,x,.lst false [.bl p0,.bl p1,.bl p2,.bl p3],.tup [.int ((s:Nat):Int),.int ((h:Nat):Int)],.int (Ae n ps S s h),.int f,.lst false [x0,x1,.int f,.tup [.int ((s:Nat):Int),.int ((h:Nat):Int)]],.int 2,d13,d14] rfl ?_);refine if_of p2 (λ Q q=>qc5 rfl q) (λ hp=>?_) λ hp=>hK3 _ ⟨b,z,_,_,_,_,_,rfl,B,h0,h1,⟨λ e=>(by rw[hp] at e;cases e),λ _=>rfl⟩,rfl⟩
           refine qI6 (fz_to (qg9 (qb6 (x:=b) (qb7 rfl B.known) (qf5 (qv8 (d:=caseF z n wr ps) rfl ?_)))));rw[qt0];refine qb6 (x:=.int 2) rfl (qd1 (y:=.int f) (Ad rfl rfl rfl) rfl (qc3 (qa1 (a:=D.int 2) rfl (qa1 (a:=b) (qb7 rfl B.known) ⟨b,ns',n,wr,ps,2,_,rfl,B,n1,n2,rfl,.inr (.inr (.inl rfl)),λ b' d B' hd=>qa1 (a:=[D.hole u,b',.int way,caseF true n wr ps,.lst true (ksD S),planD true a.C3 n wr ps,x,.lst false [.bl p0,.bl p1,.bl p2,.bl p3],.tup [.int ((s:Nat):Int),.int ((h:Nat):Int)],.int (Ae n ps S s h),.int f,.lst false [x0,x1,.int f,.tup [.int ((s:Nat):Int),.int ((h:Nat):Int)]],.int 2,d13,d14]) rfl ?_⟩))));rw[hd.fz];exact qa1 (a:=(11,[])) rfl (qa1 (a:=[x0,x1,.int f,.tup [.int ((s:Nat):Int),.int ((h:Nat):Int)]]) rfl (qa1 (a:=(2:Int)) rfl (qa1 (a:=2) rfl (hK3 _ ⟨b',true,_,_,_,_,_,rfl,B',h0,h1,⟨λ _=>hd,λ e=>(by rw[hp] at e;cases e)⟩,rfl⟩))))
         cases (show y=.int 3 from(Option.some.inj hy).symm);have h0:Hd a.C3 n wr 0 p0 (planD true a.C3 n wr ps) x0:=h0;have h1:Hd a.C3 n wr 1 p1 (.lst true (ksD S)) x1:=h1;have h2:Hd a.C3 n wr 2 p2 (.int f) x2:=h2;have h3:x3=.tup [.int ((s:Nat):Int),.int ((h:Nat):Int)]:=h3;subst h3;refine qh7 (As [D.hole u,b,.int way,caseF z n wr ps,.lst true (ksD S),planD true a.C3 n wr ps,x,.lst false [.bl p0,.bl p1,.bl p2,.bl p3],.tup [.int ((s:Nat):Int),.int ((h:Nat):Int)],.int (Ae n ps S s h),.int f,.lst false [x0,x1,x2,.tup [.int ((s:Nat):Int),.int ((h:Nat):Int)]],.int 3,d13,d14] rfl ?_);refine if_of p3 (λ Q q=>qc5 rfl q) (λ hp=>?_) λ hp=>hK3 _ ⟨b,z,_,_,_,_,_,rfl,B,h0,h1,h2,⟨λ e=>(by rw[hp] at e;cases e),λ _=>rfl⟩⟩
         refine qI6 (fz_to (qg9 (qb6 (x:=b) (qb7 rfl B.known) (qf5 (qv8 (d:=caseF z n wr ps) rfl ?_)))));rw[qt0];refine qb6 (x:=.int 3) rfl (qd1 (y:=.tup [.int ((s:Nat):Int),.int ((h:Nat):Int)]) (Ad rfl rfl rfl) rfl (qc3 (qa1 (a:=D.int 3) rfl (qa1 (a:=b) (qb7 rfl B.known) ⟨b,ns',n,wr,ps,3,_,rfl,B,n1,n2,rfl,.inr (.inr (.inr rfl)),λ b' d B' hd=>qa1 (a:=[D.hole u,b',.int way,caseF true n wr ps,.lst true (ksD S),planD true a.C3 n wr ps,x,.lst false [.bl p0,.bl p1,.bl p2,.bl p3],.tup [.int ((s:Nat):Int),.int ((h:Nat):Int)],.int (Ae n ps S s h),.int f,.lst false [x0,x1,x2,.tup [.int ((s:Nat):Int),.int ((h:Nat):Int)]],.int 3,d13,d14]) rfl ?_⟩))));rw[hd.fz];exact qa1 (a:=(11,[])) rfl (qa1 (a:=[x0,x1,x2,.tup [.int ((s:Nat):Int),.int ((h:Nat):Int)]]) rfl (qa1 (a:=(3:Int)) rfl (qa1 (a:=3) rfl (hK3 _ ⟨b',true,_,_,_,_,_,rfl,B',h0,h1,h2,⟨λ _=>hd,λ e=>(by rw[hp] at e;cases e)⟩⟩))))
       rintro ds ⟨b,z,d12,x0,x1,x2,x3,rfl,B,h0,h1,h2,h3⟩;exact hK _ ⟨b,z,d12,x0,x1,x2,x3,rfl,B,h0,h1,h2,h3⟩
     rintro ds ⟨b,z,d12,x0,x1,x2,x3,rfl,B,h0,h1,h2,h3⟩;refine qd6 [D.hole u,b,.int way,caseF z n wr ps,.lst true (ksD S),planD true a.C3 n wr ps,x,.lst false [.bl p0,.bl p1,.bl p2,.bl p3],.tup [.int ((s:Nat):Int),.int ((h:Nat):Int)],.int (Ae n ps S s h),.int f,.lst false [x0,x1,x2,x3],d12,toD (decide (f<=Ae n ps S s h)),d14] (λ K hK=>qf8 (qm3 (x:=.str "told") (y:=.bl (decide (f<=Ae n ps S s h))) rfl rfl rfl rfl) hK) ?_;refine qc0 (λ ds=>∃ D1,ds=[D.hole u,b,.int way,caseF z n wr ps,.lst true (ksD S),planD true a.C3 n wr ps,x,.lst false [.bl p0,.bl p1,.bl p2,.bl p3],.tup [.int ((s:Nat):Int),.int ((h:Nat):Int)],.int (Ae n ps S s h),.int f,.lst false [x0,x1,x2,x3],d12,D1,d14]/\D1=if p0 then wrD 0 else if p1 then wrD 1 else if p2 then wrD 2 else if p3 then wrD 3 else toD (decide (f<=Ae n ps S s h))) (λ K hK=>?_) ?_
     . cases p0 with
       | true=>exact if_v (b:=true) rfl (λ _=>qf8 (d:=wrD 0) rfl (hK _ ⟨_,rfl,rfl⟩)) λ h=>(nomatch h)
       | false =>
         cases p1 with
         | true=>exact if_v (b:=true) rfl (λ _=>qf8 (d:=wrD 1) rfl (hK _ ⟨_,rfl,rfl⟩)) λ h=>(nomatch h)
         | false =>
           cases p2 with
           | true=>exact if_v (b:=true) rfl (λ _=>qf8 (d:=wrD 2) rfl (hK _ ⟨_,rfl,rfl⟩)) λ h=>(nomatch h)
           | false =>
             cases p3 with
             | true=>exact if_v (b:=true) rfl (λ _=>qf8 (d:=wrD 3) rfl (hK _ ⟨_,rfl,rfl⟩)) λ h=>(nomatch h)
             | false=>exact if_v (b:=false) rfl (λ h=>(nomatch h)) λ _=>hK _ ⟨_,rfl,rfl⟩
     rintro ds ⟨D1,rfl,hD⟩;have hD1:(∃ i,D1=wrD i)∨∃ c,D1=toD c:=by
       rw[hD];split
       . exact .inl ⟨_,rfl⟩
       split
       . exact .inl ⟨_,rfl⟩
       split
       . exact .inl ⟨_,rfl⟩
       split
       . exact .inl ⟨_,rfl⟩
       exact .inr ⟨_,rfl⟩
     have hp:D1.plain=true:=by rcases hD1 with⟨i,rfl⟩ | ⟨c,rfl⟩<;>rfl
     have hkn:D1.known=true:=by rcases hD1 with⟨i,rfl⟩ | ⟨c,rfl⟩<;>rfl
     refine qd6 [D.hole u,b,.int way,caseF z n wr ps,.lst true (ksD S),planD true a.C3 n wr ps,x,.lst false [.bl p0,.bl p1,.bl p2,.bl p3],.tup [.int ((s:Nat):Int),.int ((h:Nat):Int)],.int (Ae n ps S s h),.int f,.lst false [x0,x1,x2,x3],d12,D1,D1] (λ K hK=>?_) ?_
     . refine qf2 (qb6 (x:=.lst false [x0,x1,x2,x3]) rfl (qc3 (qa1 (a:=D.lst false [x0,x1,x2,x3]) rfl ?_)))
       show qj0 _ [.lst true [x0.fz,x1.fz,x2.fz,x3.fz]] _ _;rw[(h0.kn rfl rfl qk8).2.2,(h1.kn rfl rfl (Bk S)).2.2,(h2.kn rfl rfl rfl).2.2,(h3.kn rfl rfl rfl).2.2];refine qab5 n1 n2 F hs hh hw f0 f1 h0 h1 h2 h3 hD ⟨hp,?_⟩;exact qa1 (a:=[D.hole u,b,.int way,caseF z n wr ps,.lst true (ksD S),planD true a.C3 n wr ps,x,.lst false [.bl p0,.bl p1,.bl p2,.bl p3],.tup [.int ((s:Nat):Int),.int ((h:Nat):Int)],.int (Ae n ps S s h),.int f,.lst false [x0,x1,x2,x3],d12,D1,d14]) rfl hK
     refine qd5 false (λ Q q=>?_) (λ h=>(nomatch h)) λ _=>?_
     . rcases hD1 with⟨i,rfl⟩ | ⟨c,rfl⟩
       . exact qs4 false false (λ Q q=>qc5 (b:=false) (Ad (x:=wrD i) (y:=wrD i) rfl rfl (ne_wr i)) q) (λ _ Q q=>qc5 (b:=false) (Ad (x:=.bl false) (y:=.bl false) rfl rfl rfl) q) q
       exact qs4 false false (λ Q q=>qc5 (b:=false) (Ad (x:=toD c) (y:=toD c) rfl rfl (Gi c)) q) (λ _ Q q=>qc5 (b:=false) (Ad (x:=.bl true) (y:=.bl true) rfl rfl rfl) q) q
     refine qd5 false (λ Q q=>qh0 (!p1) false (λ Q q=>qe8 (b:=p1) rfl q) (λ hp Q q=>?_) (by rw[zAx];exact q)) (λ h=>(nomatch h)) λ _=>?_
     . have e:x1=.lst true (ksD S):=h1.2 (by cases p1 with | false=>rfl | true=>cases hp)
       subst e;exact qc5 (b:=false) (Ad (x:=.lst true (ksD S)) (y:=.lst true (ksD S)) rfl rfl (qah1 S)) q
     refine if_of false (λ Q q=>?_) (λ h=>(nomatch h)) λ _=>hK2 _ ⟨b,z,_,_,_,_,_,_,_,_,_,rfl,B⟩
     refine qM7 (qb6 (x:=planD true a.C3 n wr ps) rfl (qc6 (y:=.lst false (ksD [])) rfl (qb6 (x:=.int f) rfl (qb6 (x:=.tup [.int ((s:Nat):Int),.int ((h:Nat):Int)]) rfl (qc3 (qa1 (a:=D.tup [.int ((s:Nat):Int),.int ((h:Nat):Int)]) rfl (qa1 (a:=D.int f) rfl (qa1 (a:=planD true a.C3 n wr ps) rfl ⟨by show 4<=1000000;decide,?_⟩))))))));show qj0 _ [.lst true [(planD true a.C3 n wr ps).fz,(D.lst false (ksD [])).fz,.int f,.tup [.int ((s:Nat):Int),.int ((h:Nat):Int)]]] _ _;rw[qk8,Bk];refine qE2 n1 n2 (F.sub (List.nil_sublist _)) hs hh hw f0 (λ _=>⟨rfl,qa1 (a:=[D.hole u,b,.int way,caseF z n wr ps,.lst true (ksD S),planD true a.C3 n wr ps,x,.lst false [.bl p0,.bl p1,.bl p2,.bl p3],.tup [.int ((s:Nat):Int),.int ((h:Nat):Int)],.int (Ae n ps S s h),.int f,.lst false [x0,x1,x2,x3],d12,D1,D1]) rfl ?_⟩) λ h=>absurd h (by lia)
     rw[show decide (f<=Ae n ps [] s h)=false from zAq (by show ¬ f<=((0:Nat):Int) - ((dist n.toNat s h+1:Nat):Int);lia)];exact qa1 (a:=D.bl false) (Gi false) (qa1 (a:=false) rfl q)
   rintro ds ⟨b,z,d6,d7,d8,d9,d10,d11,d12,d13,d14,rfl,B⟩;exact hK _ ⟨b,z,d6,d7,d8,d9,d10,d11,d12,d13,d14,rfl,B⟩
 rintro ds ⟨b,z,d6,d7,d8,d9,d10,d11,d12,d13,d14,rfl,B⟩;refine qj3 (qaB4 (qg9 (qb6 (x:=b) (qb7 rfl B.known) (qf5 (qv8 (d:=caseF z n wr ps) rfl ?_)))));rw[qt0];refine qb6 (x:=planD true a.C3 n wr ps) rfl (qb6 (x:=.lst true (ksD S)) rfl (qc3 (qa1 (a:=D.lst true (ksD S)) rfl (qa1 (a:=planD true a.C3 n wr ps) rfl (qa1 (a:=b) (qb7 rfl B.known) ?_)))));refine⟨b,ns',n,wr,ps,S,rfl,B,n1,n2,nd,F,λ b' B'=>qa1 (a:=[D.hole u,b',.int way,caseF true n wr ps,.lst true (ksD S),planD true a.C3 n wr ps,d6,d7,d8,d9,d10,d11,d12,d13,d14]) rfl (qa1 (a:=true) rfl (E3 rfl (qB9 (d:=.bl true) (Ad (x:=.lst false [.int n,.bl wr,.lst true (prD ps)]) (y:=caseF true n wr ps) ?_ rfl qar5) rfl)))⟩;unfold Aw Au f1;rw[show rdN 5 [D.hole u,b',.int way,caseF true n wr ps,.lst true (ksD S),planD true a.C3 n wr ps,d6,d7,d8,d9,d10,d11,d12,d13,d14]=some (planD true a.C3 n wr ps) from rfl];simp only[Option.bind_some];rw[qk9,qG8,qV3];rfl
end
theorem dfX{K:W.Frag}{mg:Str->Option Value}{x qual:Str}{st:Stmt}{f:Addr}{ps:List Str}{oc:Value}{od an:Option Addr}{osl:Array (Option Value)}{kV doc pm cdv ct:Value}{h:Heap}(X:K.In h)(G:h.Ns mainGlobals mg)(a:W.nsIn K mainGlobals x=some (some (.ref f)))(l:K.lookup f=some ⟨oc,od,.func (W.fnOf x qual (qf4 st) (qd0 st) (qa4 st) .none kV doc pm an cdv ct),osl⟩)(c:W.codeIn K cdv qual=true)(k:W.keepIn K (.ref f)=true)(b:∀(kV doc pm:Value)(an:Option Addr)(cdv ct:Value)(us:List Value),us.length=ps.length->bindArgs (W.fnOf x qual (qf4 st) (qd0 st) (qa4 st) .none kV doc pm an cdv ct) ⟨us,[]⟩=pure (ps.zip us)) :
 Df K mg x qual st f (W.fnOf x qual (qf4 st) (qd0 st) (qa4 st) .none kV doc pm an cdv ct) ps:=dfmk l c k (W.mg_of X G a) b
theorem qaB5{l:W.OpenLaw}{w:World}{K:W.Frag}{mg:Str->Option Value}{fa f0 f1 f2 f3 f4 f5 f6 f7 f8 f9 f10 f11 f12 f13 f14 f15 f16 f17 f18 f19 f20 f21 f22 f23 f24 f25 f26 f27 f28 f29 f30 C0 C1 C2:Addr}{d0 d1 d2 d3 d4 d5 d6 d7 d8 d9 d10 d11 d12 d13 d14 d15 d16 d17 d18 d19 d20 d21 d22 d23 d24 d25 d26 d27 d28 d29 d30:FuncData}{Ca Cf Ce Ch Ci:Tok}(hfa:mg "law" = some (.ref fa))(j0:Df K mg "_wall" "_wall" qX6 f0 d0 ["k"])(j1:Md K C2 "__init__" "Wrong.__init__" qj2 f1 d1 ["self", "at"])(j2:Df K mg "is_whole" "is_whole" qo7 f2 d2 ["thing"])(j3:Df K mg "is_whole_within" "is_whole_within" qe4 f3 d3 ["thing", "least", "most"])(j4:Df K mg "is_number" "is_number" ql5 f4 d4 ["thing"])(j5:Df K mg "are_parted" "are_parted" qj1 f5 d5 ["numbers"])(j6:Df K mg "is_key_list" "is_key_list" qh3 f6 d6 ["thing"])(j7:Df K mg "is_number_pair" "is_number_pair" qf0 f7 d7 ["thing"])(j8:Df K mg "is_home_list" "is_home_list" qg4 f8 d8 ["thing"])(j9:Md K C0 "__init__" "Plan.__init__" ql6 f9 d9 ["self", "rooms", "wraps", "homes"])(j10:Md K C0 "is_room" "Plan.is_room" qg6 f10 d10 ["self", "thing"])(j11:Md K C0 "rooms_on" "Plan.rooms_on" qf6 f11 d11 ["self", "first", "many"])(j12:Md K C0 "home" "Plan.home" ql7 f12 d12 ["self", "key"])(j13:Md K C0 "far" "Plan.far" qw6 f13 d13 ["self", "key", "room"])(j14:Df K mg "refuse_wrong" "refuse_wrong" qg3 f14 d14 ["plan", "keys"])(j15:Df K mg "is_window" "is_window" ql4 f15 d15 ["plan", "thing"])(j16:Df K mg "window_rooms" "window_rooms" qg2 f16 d16 ["plan", "window"])(j17:Df K mg "is_far_shown" "is_far_shown" qg5 f17 d17 ["plan", "keys", "far", "window"])(j18:Df K mg "shows_far" "shows_far" ql3 f18 d18 ["plan", "keys", "far", "window"])(j19:Df K mg "_law_bag" "_law_bag" qac8 f19 d19 ["_law_script"])(j20:Df K mg "_law_take" "_law_take" qL8 f20 d20 ["_law_bag_here", "_law_many"])(j21:Df K mg "_law_case" "_law_case" qM2 f21 d21 ["_law_bag_here", "_law_most"])(j22:Df K mg "_law_key" "_law_key" qac7 f22 d22 ["_law_bag_here", "_law_rooms", "_law_home_here"])(j23:Df K mg "_law_keys" "_law_keys" qM0 f23 d23 ["_law_bag_here", "_law_case_here", "_law_many"])(j24:Df K mg "_law_home" "_law_home" qM1 f24 d24 ["_law_case_here", "_law_key_here"])(j25:Df K mg "_law_window" "_law_window" qt9 f25 d25 ["_law_bag_here", "_law_case_here"])(j26:Df K mg "_law_more" "_law_more" qL9 f26 d26 ["_law_case_here", "_law_keys_here", "_law_window_here"])(j27:Df K mg "_law_spoilt" "_law_spoilt" qu0 f27 d27 ["_law_bag_here", "_law_case_here", "_law_which", "_law_thing"])(j28:Df K mg "_law_told" "_law_told" qL7 f28 d28 ["_law_handed"])(j29:Df K mg "_law_by_turns" "_law_by_turns" ql8 f29 d29 ["_law_bag_here", "_law_case_here", "_law_plan", "_law_keys_here"])(j30:Df K mg "law" "law" Fv f30 d30 ["_law_script"])(j31:mg "MOST_NUMBER" = some (.int 1000000000000000000 Ca))(j32:mg "MOST_ROOMS" = some (.int 64 Cf))(j33:mg "MOST_HOMES" = some (.int 64 Ce))(j34:mg "MOST_KEYS" = some (.int 100 Ch))(j35:mg "MOST_FAR" = some (.int 100 Ci))(j36:mg "abs" = none)(j37:mg "all" = none)(j38:mg "bool" = none)(j39:mg "dict" = none)(j40:mg "int" = none)(j41:mg "isinstance" = none)(j42:mg "len" = none)(j43:mg "list" = none)(j44:mg "max" = none)(j45:mg "min" = none)(j46:mg "range" = none)(j47:mg "set" = none)(j48:mg "tuple" = none)(j49:Cl K mg "Plan" C0)(j50:Mk K C0 f9)(j51:qe3 K C0 "rooms")(j52:qe3 K C0 "wraps")(j53:qe3 K C0 "homes")(j54:qe3 K C0 "home_numbers")(j55:IsO K C0)(j56:mg "HomeError" = some (.ref C1))(j57:Exc K C1)(j58:W.kitOne K (.ref C1) (.type "ValueError")=some true)(j59:W.mroIn K C1 (.ref C1)=some true)(j60:W.mroIn K C1 (.ref C2)=some false)(j61:mg "Wrong" = some (.ref C2))(j62:Exc K C2)(j63:W.kitOne K (.ref C2) (.type "ValueError")=some true)(j64:MkE K C2 f1)(j65:qe3 K C2 "at")(j66:IsX K C2)(j67:W.kitOne K (.ref C2) (.ref C1)=some true)(j68:W.mroIn K C2 (.ref C1)=some true)(j69:W.mroIn K C2 (.ref C2)=some true)(hb:∀(s:Shared)(v:Value),BindsTo s d30 ⟨[v],[]⟩ [("_law_script",v)]):∃ fd:FuncData,(∀(s:Shared)(v:Value),BindsTo s fd ⟨[v],[]⟩ [("_law_script",v)])/\∀ base:Heap,K.In base->base.Ns mainGlobals mg->Bh l.prog w K mg base (CX1 l.prog w) 9 fa fd ["_law_script"] (F7 K):=by
 have e:=hfa.symm.trans j30.m;injection e with e
 injection e with e
 subst e;exact⟨d30,hb,λ base _ _=>qax3 (a:=⟨f0,d0,f1,d1,f2,d2,f3,d3,f4,d4,f5,d5,f6,d6,f7,d7,f8,d8,f9,d9,f10,d10,f11,d11,f12,d12,f13,d13,f14,d14,f15,d15,f16,d16,f17,d17,f18,d18,f19,d19,f20,d20,f21,d21,f22,d22,f23,d23,f24,d24,f25,d25,f26,d26,f27,d27,f28,d28,f29,d29,fa,d30,Ca,Cf,Ce,Ch,Ci,C0,C1,C2⟩) ⟨j0,j1,j2,j3,j4,j5,j6,j7,j8,j9,j10,j11,j12,j13,j14,j15,j16,j17,j18,j19,j20,j21,j22,j23,j24,j25,j26,j27,j28,j29,j30,j31,j32,j33,j34,j35,j36,j37,j38,j39,j40,j41,j42,j43,j44,j45,j46,j47,j48,j49,j50,j51,j52,j53,j54,j55,j56,j57,j58,j59,j60,j61,j62,j63,j64,j65,j66,j67,j68,j69⟩⟩
theorem walk{l:W.OpenLaw}{q:Program}{loose:List Str}{XP:(Str->Option Value)->Heap->Prop}{YP:World->Heap->Prop}{d:DefRec}{K:Params->W.Frag}(hn:l.most=some 63)(hdf:d.params.defaults=[])(hY:∀(w:World)(h:Heap),YP w h->(K w.params).In h)(F:∀(w:World)(mg:Str->Option Value)(fa:Addr)(h:Heap),(K w.params).In h->h.Ns mainGlobals mg->mg d.name=some (.ref fa) ->
 ∃ fd:FuncData,(∀(s:Shared)(u:Value),BindsTo s fd ⟨[u],[]⟩ [("_law_script",u)])/\∀ base:Heap,(K w.params).In base->base.Ns mainGlobals mg->Bh l.prog w (K w.params) mg base (CX1 l.prog w) 9 fa fd ["_law_script"] (F7 (K w.params))) :
 W.WalkO q loose XP YP l.row.toRowW d [] (λ f vs=>PySem.call f vs) :=
 L2.qaj7 (n:=63) (k:=9) (x := "_law_script") (CX:=λ w=>CX1 l.prog w) (sp:=λ w=>F7 (K w.params)) hn (by decide) hdf ⟨rfl,by decide,by decide⟩ hY F (λ _ _ a ns hl _ hS=>⟨a,ns,rfl,hS,hl,λ _=>rfl⟩) λ _ _ _ _ _ ⟨_,_,_,_,_,_,_,_,z⟩=>z
end LV.My
open PySem PySem.W PyProof.Rows L2
local macro_rules | `(tactic| walk_at "d1")=>`(tactic| (refine' LV.My.dfX (by assumption) (by assumption) ?a ?l ?c ?k ?b;(case a=>k_is);(case l=>k_is);(case c=>k_is);(case k=>k_is);(case b=>intro _ _ _ _ _ _ us h0;obtain⟨_,us,e,h1⟩:=LV.ec h0;subst e;have e:=zB5.mp h1;subst e;rfl)))
local macro_rules | `(tactic| walk_at "d2")=>`(tactic| (refine' LV.My.dfX (by assumption) (by assumption) ?a ?l ?c ?k ?b;(case a=>k_is);(case l=>k_is);(case c=>k_is);(case k=>k_is);(case b=>intro _ _ _ _ _ _ us h0;obtain⟨_,us,e,h1⟩:=LV.ec h0;subst e;obtain⟨_,us,e,h2⟩:=LV.ec h1;subst e;have e:=zB5.mp h2;subst e;rfl)))
local macro_rules | `(tactic| walk_at "e2")=>`(tactic| (refine' mdmk ?l ?c ?k ?a ?i ?b;(case a=>k_is);(case i=>k_is);(case l=>k_is);(case c=>k_is);(case k=>k_is);(case b=>intro _ _ _ _ _ _ us h0;obtain⟨_,us,e,h1⟩:=LV.ec h0;subst e;obtain⟨_,us,e,h2⟩:=LV.ec h1;subst e;have e:=zB5.mp h2;subst e;rfl)))
local macro_rules | `(tactic| walk_at "d3")=>`(tactic| (refine' LV.My.dfX (by assumption) (by assumption) ?a ?l ?c ?k ?b;(case a=>k_is);(case l=>k_is);(case c=>k_is);(case k=>k_is);(case b=>intro _ _ _ _ _ _ us h0;obtain⟨_,us,e,h1⟩:=LV.ec h0;subst e;obtain⟨_,us,e,h2⟩:=LV.ec h1;subst e;obtain⟨_,us,e,h3⟩:=LV.ec h2;subst e;have e:=zB5.mp h3;subst e;rfl)))
local macro_rules | `(tactic| walk_at "e3")=>`(tactic| (refine' mdmk ?l ?c ?k ?a ?i ?b;(case a=>k_is);(case i=>k_is);(case l=>k_is);(case c=>k_is);(case k=>k_is);(case b=>intro _ _ _ _ _ _ us h0;obtain⟨_,us,e,h1⟩:=LV.ec h0;subst e;obtain⟨_,us,e,h2⟩:=LV.ec h1;subst e;obtain⟨_,us,e,h3⟩:=LV.ec h2;subst e;have e:=zB5.mp h3;subst e;rfl)))
local macro_rules | `(tactic| walk_at "d4")=>`(tactic| (refine' LV.My.dfX (by assumption) (by assumption) ?a ?l ?c ?k ?b;(case a=>k_is);(case l=>k_is);(case c=>k_is);(case k=>k_is);(case b=>intro _ _ _ _ _ _ us h0;obtain⟨_,us,e,h1⟩:=LV.ec h0;subst e;obtain⟨_,us,e,h2⟩:=LV.ec h1;subst e;obtain⟨_,us,e,h3⟩:=LV.ec h2;subst e;obtain⟨_,us,e,h4⟩:=LV.ec h3;subst e;have e:=zB5.mp h4;subst e;rfl)))
local macro_rules | `(tactic| walk_at "e4")=>`(tactic| (refine' mdmk ?l ?c ?k ?a ?i ?b;(case a=>k_is);(case i=>k_is);(case l=>k_is);(case c=>k_is);(case k=>k_is);(case b=>intro _ _ _ _ _ _ us h0;obtain⟨_,us,e,h1⟩:=LV.ec h0;subst e;obtain⟨_,us,e,h2⟩:=LV.ec h1;subst e;obtain⟨_,us,e,h3⟩:=LV.ec h2;subst e;obtain⟨_,us,e,h4⟩:=LV.ec h3;subst e;have e:=zB5.mp h4;subst e;rfl)))
local macro_rules | `(tactic| walk_at "c")=>`(tactic| (refine' mg_of (by assumption) (by assumption) ?a;k_is))
local macro_rules | `(tactic| walk_at "z")=>`(tactic| (refine' mg_none_of (by assumption) (by assumption) ?a;k_is))
local macro_rules | `(tactic| walk_at "q")=>`(tactic| (first | k_is | kernel_rfl | rfl))
local macro_rules | `(tactic| walk_at "cl")=>`(tactic| (refine' ⟨⟨?b,?c,?d,?e⟩,mg_of (by assumption) (by assumption) ?a⟩;(case a=>k_is);(case b=>k_is);(case c=>k_is);(case d=>k_is);(case e=>k_is)))
local macro_rules | `(tactic| walk_at "m4")=>`(tactic| (refine⟨?a,?b,?c,?d⟩;(case a=>k_is);(case b=>k_is);(case c=>k_is);(case d=>k_is)))
local macro_rules | `(tactic| walk_at "n")=>`(tactic| (show findIn _ _ _=some none;k_is))
local macro_rules | `(tactic| walk_at "io")=>`(tactic| (refine⟨?_,?_,?_,?_,kf_of ?_ ?_ ?_ ?_ ?_ ?_ ?_⟩<;>walk_at "q"))
local macro_rules | `(tactic| walk_at "x9")=>`(tactic| (refine⟨?_,?_,?_,?_,?_,?_,?_,?_,?_⟩<;>walk_at "q"))
local macro_rules | `(tactic| walk_at "ix")=>`(tactic| (refine⟨⟨?_,?_,?_,?_,?_,?_,?_,?_,?_⟩,?_,?_,?_⟩<;>walk_at "q"))
local macro_rules | `(tactic| walk_at "me")=>`(tactic| (refine⟨⟨?_,?_,?_,?_,?_,?_,?_,?_,?_⟩,?_,?_,?_,?_⟩<;>walk_at "q"))
theorem PySem.Challenge.cw_homeward_k52_shows_holds : PySem.Challenge.rw_homeward_k52_shows.Holds := by
 w_on;o_law;k_head;(case hw=>w_witness2)
 k_fill
 refine LV.My.walk (l:=PySem.Challenge.rw_homeward_k52_shows) rfl rfl (λ w h Y=>PySem.W.kIn_of Y) ?F
 case F =>
 intro w mg fa h KX G hmg;refine' LV.My.qaB5 hmg ?j0 ?j1 ?j2 ?j3 ?j4 ?j5 ?j6 ?j7 ?j8 ?j9 ?j10 ?j11 ?j12 ?j13 ?j14 ?j15 ?j16 ?j17 ?j18 ?j19 ?j20 ?j21 ?j22 ?j23 ?j24 ?j25 ?j26 ?j27 ?j28 ?j29 ?j30 ?j31 ?j32 ?j33 ?j34 ?j35 ?j36 ?j37 ?j38 ?j39 ?j40 ?j41 ?j42 ?j43 ?j44 ?j45 ?j46 ?j47 ?j48 ?j49 ?j50 ?j51 ?j52 ?j53 ?j54 ?j55 ?j56 ?j57 ?j58 ?j59 ?j60 ?j61 ?j62 ?j63 ?j64 ?j65 ?j66 ?j67 ?j68 ?j69 ?hb
 case j31=>walk_at "c"
 case j32=>walk_at "c"
 case j33=>walk_at "c"
 case j34=>walk_at "c"
 case j35=>walk_at "c"
 case j49=>walk_at "cl"
 case j56=>walk_at "c"
 case j61=>walk_at "c"
 case j0=>walk_at "d1"
 case j1=>walk_at "e2"
 case j2=>walk_at "d1"
 case j3=>walk_at "d3"
 case j4=>walk_at "d1"
 case j5=>walk_at "d1"
 case j6=>walk_at "d1"
 case j7=>walk_at "d1"
 case j8=>walk_at "d1"
 case j9=>walk_at "e4"
 case j10=>walk_at "e2"
 case j11=>walk_at "e3"
 case j12=>walk_at "e2"
 case j13=>walk_at "e3"
 case j14=>walk_at "d2"
 case j15=>walk_at "d2"
 case j16=>walk_at "d2"
 case j17=>walk_at "d4"
 case j18=>walk_at "d4"
 case j19=>walk_at "d1"
 case j20=>walk_at "d2"
 case j21=>walk_at "d2"
 case j22=>walk_at "d3"
 case j23=>walk_at "d3"
 case j24=>walk_at "d2"
 case j25=>walk_at "d2"
 case j26=>walk_at "d3"
 case j27=>walk_at "d4"
 case j28=>walk_at "d1"
 case j29=>walk_at "d4"
 case j30=>walk_at "d1"
 case j36=>walk_at "z"
 case j37=>walk_at "z"
 case j38=>walk_at "z"
 case j39=>walk_at "z"
 case j40=>walk_at "z"
 case j41=>walk_at "z"
 case j42=>walk_at "z"
 case j43=>walk_at "z"
 case j44=>walk_at "z"
 case j45=>walk_at "z"
 case j46=>walk_at "z"
 case j47=>walk_at "z"
 case j48=>walk_at "z"
 case j51=>walk_at "n"
 case j52=>walk_at "n"
 case j53=>walk_at "n"
 case j54=>walk_at "n"
 case j55=>walk_at "io"
 case j57=>walk_at "x9"
 case j58=>walk_at "q"
 case j59=>walk_at "q"
 case j60=>walk_at "q"
 case j62=>walk_at "x9"
 case j63=>walk_at "q"
 case j65=>walk_at "n"
 case j66=>walk_at "ix"
 case j67=>walk_at "q"
 case j68=>walk_at "q"
 case j69=>walk_at "q"
 case j50=>walk_at "m4"
 case j64=>walk_at "me"
 case hb=>exact λ s v=>.of_eq rfl
#print axioms PySem.Challenge.cw_homeward_k52_shows_holds
