import PyProof.Rows.All
import Wide.All
import OpenK.AllK
import Wide.FinOn
import Lean
import PyProof.EqAt
import PyProof.EqKinds
import PyProof.TupleCall
import PyProof.CompFree
import KE.KIsAll
import PyProof.AttrMiss
import PyProof.IsiH_list
import KE.KDictOf
import PyProof.ConsumeWalk
import PyProof.Rows.SetFrom
import PyProof.NeKinds
import KE.KEqDict
import PyProof.AutoListH
import PyProof.EnumMake
import PyProof.EnumFor
import PyProof.EnumStmt
import PyProof.LayNew
import PyProof.Rows.EnumRows
import KE.KDictList
import KE.KItemsList
import PyProof.ZipIter
import PyProof.Rows.ZipGen
import KE.KRevIter
import PyProof.Rows.Range3
import PyProof.Draws
import PyProof.Rows.CallKwBuiltin
import KE.KDictSum
import PyProof.InstEq
import PyProof.CallStr
import PyProof.ExcClass2
import PyProof.CollectIter
import PyProof.TupleIter
import PySem.Challenge.RW_homeward_k15_refusals_apart
set_option linter.all false
set_option Elab.async false
def zA0:=@List.count_append
def zA1:=@PySem.Heap.get?_push_of_some
def zA2:=@List.size_toArray
def zA3:=@Option.bind_eq_some_iff
def zA4:=@PySem.Heap.lt_size
def zA5:=@List.mem_cons_of_mem
def zA6:=@Nat.le_refl
def zA7:=@Bool.false_ne_true
def zA8:=@Nat.lt_of_lt_of_le
def zA9:=@List.getElem?_append_left
def zAa:=@PySem.Heap.get?_update_other
def zAb:=@Nat.le_trans
def zAc:=@Nat.ne_of_lt
def zAd:=@List.getElem?_eq_some_iff
def zAe:=@List.mem_cons_self
def zAf:=@List.mem_append
def zAg:=@List.count_cons
def zAh:=@List.append_nil
def zAi:=@List.forall_mem_cons
def zAj:=@List.append_assoc
def zAk:=@List.length_append
def zAl:=@PySem.Heap.get?_push_size
def zAm:=@List.mem_cons
def zAn:=@List.lookup_cons
def zAo:=@List.length_cons
def zAp:=@PySem.Heap.get?_update_self
def zAq:=@List.mem_append_right
def zAr:=@Bool.and_eq_true_iff
def zAs:=@beq_self_eq_true
def zAt:=@of_decide_eq_true
def zAu:=@List.mem_singleton
def zAv:=@List.length_map
def zAw:=@List.forall_mem_append
def zAx:=@List.replicate_succ
def zAy:=@Option.isSome_iff_exists
def zAz:=@Bool.and_eq_true
def zB0:=@List.getElem?_map
def zB1:=@beq_eq_false_iff_ne
def zB2:=@Nat.le_succ
def zB3:=@List.getElem?_append_right
def zB4:=@beq_iff_eq
def zB5:=@decide_eq_true
def zB6:=@List.flatten_cons
def zB7:=@List.map_cons
def zB8:=@Nat.lt_irrefl
def zB9:=@List.not_mem_nil
def zBa:=@PySem.Heap.size_push
set_option genSizeOf false
set_option genInjectivity false
set_option maxRecDepth 100000
noncomputable section
structure PySem.W.Fast:Prop where
 (tw1436630356141926252 tw418276169824127528 tw18309539377036270973 tw8903917085705249024 tw7136657430998686741 tw11324506355026725161 tw3727495580677455844 tw17353938997319448453 tw9542952386553584762 tw10284647844708933673 tw14142720157932023996 tw10340993029823953495 tw5723741354369117939 tw11109500329473587467 tw16758042731565101583 tw1982298158528682455 tw12600340487775101872 tw1038241311661491930 tw12244795632527390560 tw9629759468511764265 tw12183715815482270316 tw17513329032147849424 tw1954551216539192899 tw14564760690071341973 tw1564160906870854963 tw11231206641542647593 tw7401922935313100704 tw8115120063475448940 tw7324785718469498319 tw15170952517956279938 tw8548822112537098168 tw15656629500195544183 tw15961884469716843327 tw10915024485262315765 tw16053331183251975274 tw17685135108408676789 tw4853811548366824276 tw8735945746342372628 tw8521114138798713191 tw5317685061522718755
 tw7919170619971521919 tw4539872953910112804 tw14768210466280881047 tw11431286762178428181 tw3987773812628563952 tw1775335824794594017 tw17149685438928154440 tw10712081740334083653 tw2060402576750554858 tw8245813817252785072 tw7724696347280492681 tw16265154121861804177 tw8866021602446677340 tw1048892333520929630 tw1036387619559258509 tw9217598629576459708 tw2090069491782963484 tw15051783352424054944 tw11860922716328905910 tw13824186464838899536 tw3422428383921051836 tw16234245223836435528 tw14075436950178954109 tw8147999479016690104 tw4018960448085816186 tw2716760223170042670 tw16239823168208840981 tw1790559680635008340 tw16160250345378341309 tw6272541412136265220 tw5983487365048943424 tw333434892840992252 tw8436481919459882659 tw7851253951616258707 tw5375751236948130238 tw15205173659030620187 tw10251448059306275043 tw16905980059113328023 tw12739013797232382442 tw15982887487231551092
 tw17494499911354333908 tw10668249588560444766 tw1618145556774740617 tw17979424203409899517 tw8821071299206726302 tw7317324955751659340 tw6983926179986017730 tw6823875027282627122 tw5704206549076489139 tw11314059882367703746 tw673790688409839246 tw8310835014321820831 tw4673759197158622281 tw14108290394483167725 tw12968216189797271349 tw10611598532856825216 tw2437373403883076729 tw7497842961837101047 tw16355162813219383891 tw11951524269785535461 tw9304883517685563070 tw8837832004499305685 tw8289578507850441612 tw7117213407632258834 tw2678690805805481959 tw14594227438708762119 tw2042878282150506553 tw15932368432865988253 tw13379600251084423660 tw561378061413474812 tw3594802150307202263 tw6865301336656733798 tw11755434423693913539 tw5933118683239310579 tw4270494313782250235 tw17395379215492340280 tw2537444793319602557 tw11260825370710481811 tw472133391789802659 tw3256179746736037655
 tw44534107898311536 tw16844459153111421543 tw7855377086072741865:True)
abbrev N'(x:PySem.Str):Prop:=(x == ("__debug__" : PySem.Str))=false
abbrev γ:=PySem.Addr
abbrev V':=PySem.Value
abbrev Sh:=PySem.Shared
abbrev δ:=PySem.FuncData
open PySem renaming wpAny_bind→D',wpAny_pure→G',starEach→Jj,sizeLine→Jk,compareOp→Jl,foldedSetIterable→Jm,wpAny_holding→Jn,bootBuiltins→Jo,wpAny_truthy_bool→Jp,attributeBase→Jq,sizeLine_eq→Jr,mainGlobals→Js,wpAny_loadPart_at→Jt,sysModules→Ju,wpAny_mono→Jv,wpAny_rule→Jw,wpAny_passesOwn→Jx,call_meets→Jy,assignEach→Jz,binaryOp→J0,wpAny→J1,model→J',Program→Kq,Around→Kr,World→Ks,Expr→Kt,Stmt→Ku
open PyProof.Rows renaming Keyed→Kv,kindOf→Kw
open _root_.List renaming replicate→Kx,lookup→Ky,mem_append_left→Kz,length_take→La,filterMap_cons→Lb,range→Lc,drop_of_length_le→Ld,take_of_length_le→Lf,length_nil→Lg,contains_cons→Lh,all_cons→Li,of_mem_zip→Lj,length_set→Ll,length→Lm,set_append_right→Ln,set_append_left→Lp,take_add_one→Lq,all_eq_true→Lr,foldl_cons→Ls,nil_append→Lu,any_cons→Lv,foldl→Lw
open PySem.Value renaming ref→Lx,none→Ly,int→Lz,builtin→L5,bool→L6,type→L7,str→L8,float→L9,bytes→Ma
open And renaming imp_right→Mb
open Option.some renaming inj→Mc
open PySem.W renaming kitOne→Me,Frag→Mf
open PySem.F renaming sub_tuple_dict→Mg,excBase_ValueError→Mh,slot_tuple_eq_refl→Mi,slot_tuple_ne_refl→Mj,excAttr_ValueError→Mk,sub_dict_tuple→Ml,slot_int_rmul→Mm,entry_bexc_ga→Mn,slot_dict_eq→Mo,slot_dict_ne→Mp,args_bexc_ga→Mq
open PySem.NameKind renaming free→Mr,cell→Ms
open False renaming elim→Mt
open Or renaming inr→Mu,inl→Mv
namespace L2
open PySem PySem.Spec PyProof.Rows
variable{M:Model}{N:List Str}{base:Heap}{body:List Ku}{ch fp:List γ}{i t':Nat}{mg:Str->Option V'}{op:CmpOp}{us:List V'}
abbrev Key:=Sum Int Str
noncomputable def Is:Key->V'->Bool
 | .inl k,v=>Value.isInt k v
 | .inr x,v=>Value.isStrOf x v
noncomputable def keyH(w:Ks):Key->Int
 | .inl k=>hashInt k
 | .inr x=>hashStr w x
theorem qb4:∀{k:Key}{v:V'},Is k v=true->(∃ i t,k=Sum.inl i/\v=Lz i t)∨(∃ x t,k=Sum.inr x/\v=L8 x t)
 | .inl i,v,h=>by
   obtain⟨t,e⟩:=Value.isInt_shape h;exact .inl ⟨i,t,rfl,e⟩
 | .inr x,v,h=>by
   obtain⟨t,e⟩:=Value.isStrOf_shape h;exact .inr ⟨x,t,rfl,e⟩
theorem qV4(a b:Int):decide ((Sum.inl a:Key)=Sum.inl b)=(a == b):=by grind
theorem qV1(a b:Str):decide ((Sum.inr a:Key)=Sum.inr b)=decide (a=b):=by grind
theorem qV3(a:Int)(b:Str):decide ((Sum.inl a:Key)=Sum.inr b)=false:=decide_eq_false (λ q=>nomatch q)
theorem qV2(a:Str)(b:Int):decide ((Sum.inr a:Key)=Sum.inl b)=false:=decide_eq_false (λ q=>nomatch q)
def qe2(prog:Kq)(w:Ks):PySem.KeyKind prog w Key where
 is:=Is
 hash:=keyH w
 inj:=λ v a b d c=>by
   rcases qb4 d with⟨i,t,rfl,rfl⟩ | ⟨x,t,rfl,rfl⟩
   . rcases qb4 c with⟨j,u,rfl,e⟩ | ⟨y,u,rfl,e⟩
     . injection e with e1 _;rw[e1]
     exact nomatch e
   rcases qb4 c with⟨j,u,rfl,e⟩ | ⟨y,u,rfl,e⟩
   . exact nomatch e
   injection e with e1 _;rw[e1]
 byValue:=λ k v h=>by
   rcases qb4 h with⟨i,t,rfl,rfl⟩ | ⟨x,t,rfl,rfl⟩<;>rfl
 pyHash:=λ hv h=>by
   rcases qb4 hv with⟨i,t,rfl,rfl⟩ | ⟨x,t,rfl,rfl⟩
   . exact wpAny_pyHash_int h
   exact wpAny_pyHash_str h
 eqBool:=λ f hv h=>by
   rcases qb4 f with⟨i,t,rfl,rfl⟩ | ⟨x,t,rfl,rfl⟩
   . rcases qb4 hv with⟨j,u,rfl,rfl⟩ | ⟨y,u,rfl,rfl⟩
     . rw[qV4] at h;exact wpAny_eqBool_int h
     rw[qV3] at h;exact SeqAt.EqAt.int_str i t y u _ _ _ _ h
   rcases qb4 hv with⟨j,u,rfl,rfl⟩ | ⟨y,u,rfl,rfl⟩
   . rw[qV2] at h;exact SeqAt.EqAt.str_int x t j u _ _ _ _ h
   rw[qV1] at h;exact wpAny_eqBool_str h
 «strs»:=λ k x t v h=>by
   rcases qb4 h with⟨i,u,rfl,e⟩ | ⟨y,u,rfl,e⟩
   . exact nomatch e
   injection e with e1 _
   subst e1;cases v<;>rfl
inductive V where
 | non | bl (b:Bool) | int (i:Int) | str (x:Str) | byt (b:Array UInt8) | flt (b:UInt64) | ref (a:γ) | ty (n:String)
 deriving DecidableEq
def Mx:V->V'->Prop
 | .non,u=>u=Ly
 | .bl b,u=>u=L6 b
 | .int i,u=>∃ t,u=Lz i t
 | .str x,u=>∃ t,u=L8 x t
 | .byt b,u=>∃ t,u=Ma b t
 | .flt b,u=>∃ t,u=L9 b t
 | .ref a,u=>u=Lx a
 | .ty n,u=>u=L7 n
abbrev Mz:List V->List V'->Prop:=Paired Mx
theorem Mz.length{xs:List V}(r:Mz xs us):xs.length=us.length:=Paired.length r
theorem Mz.get:∀{xs:List V}{us:List V'}{i:Nat}{x:V},Mz xs us->xs[i]? = some x->∃ u,us[i]? = some u/\Mx x u
 | _,_,_,_,.nil,e=>by simp at e
 | _,_,0,_,.cons r _,e=>by simp at e;subst e;exact⟨_,rfl,r⟩
 | _,_,i+1,x,.cons _ t,e=>by
   obtain⟨u,a,b⟩:=Mz.get t (by simpa using e);exact⟨u,by simpa using a,b⟩
theorem Mz.set{x:V}{u:V'}(r:Mx x u):∀{xs:List V}{us:List V'}(i:Nat),Mz xs us->Mz (xs.set i x) (us.set i u)
 | _,_,_,.nil=>.nil
 | _,_,0,.cons _ t=>.cons r t
 | _,_,i+1,.cons q t=>.cons q (Mz.set r i t)
theorem Mz.append{xs ys:List V}{a:List V'}(h:Mz xs us)(s:Mz ys a):Mz (xs++ys) (us++a):=by
 induction h with
 | nil=>exact s
 | cons r t i=>exact .cons r i
theorem Mz.take:∀{xs:List V}{us:List V'}(n:Nat),Mz xs us->Mz (xs.take n) (us.take n)
 | _,_,0,_=>.nil
 | _,_,_+1,.nil=>.nil
 | _,_,n+1,.cons r t=>.cons r (Mz.take n t)
theorem Mz.drop:∀{xs:List V}{us:List V'}(n:Nat),Mz xs us->Mz (xs.drop n) (us.drop n)
 | _,_,0,r=>r
 | _,_,_+1,.nil=>.nil
 | _,_,n+1,.cons _ t=>Mz.drop n t
def RelO:Option V->Option V'->Prop
 | some v,some u=>Mx v u
 | none,none=>True
 | _,_=>False
def KV{a:Type}:List (a×V)->List (a×V')->Prop:=Paired λ(p:a×V)(q:a×V')=>p.1=q.1/\Mx p.2 q.2
noncomputable def kV:Key->V
 | .inl i=>.int i
 | .inr x=>.str x
inductive HO where
   | l (xs:List V)
   | q (xs:List V)
   | dK (kvs:List (Key×V)) | dT (kvs:List (List Key×V))
   | set (S:Int->Bool) (n:Nat)
   | ins (C dx:γ) (fs:List (Str×V))
   | own (x:γ)
   | xd (fs:List (Str×V))
   | met (f x:γ)
   | rng (lo hi:Int)
   | frz (o:Obj) (u:HO)
   | tbl (ps:Array V')
   | ext (φ:Heap->Prop)
noncomputable abbrev Hp:=γ->Option HO
noncomputable def upd(H:Hp)(a:γ)(o:HO):Hp:=λ b=>if b=a then some o else H b
theorem qa3{H:Hp}{a:γ}{o:HO}:upd H a o a=some o:=by unfold upd;rw[if_pos rfl]
theorem qa4{H:Hp}{a b:γ}{o:HO}(h:b≠a):upd H a o b=H b:=by unfold upd;rw[if_neg h]
theorem qD2{H:Hp}{a:γ}{o u:HO}:upd (upd H a o) a u=upd H a u:=by
 funext b;unfold upd;split<;>rfl
theorem ne_of{H:Hp}{a b:γ}{o u:HO}(h:H a=some o)(h':H b=some u)(d:o≠u):a≠b:=by
 intro e;subst e;rw[h] at h';exact d (Mc h')
theorem qa9{H:Hp}{a b:γ}{o:HO}(h:H a=some o)(h':H b=none):a≠b:=by grind
section
variable(P:Kq)(w:Ks)
def ObjOk(H:Hp)(h:Heap)(a:γ):HO->Prop
 | .l xs=>xs.length<=Jk/\∃(its:List V')(n:Nat),Mz xs its/\h.get? a=some { cls:=.type "list",data:=.seq its.toArray n }
 | .q xs=>xs.length<=Jk/\∃ its:List V',Mz xs its/\IsTup h a its.toArray
 | .dK kvs=>kvs.length<=Jk/\(a == Ju)=false/\∃ vs,KV kvs vs/\h.DictOf (qe2 P w) a vs
 | .dT kvs=>kvs.length<=Jk/\(a == Ju)=false/\∃ xs:List (List Key×γ×V'),
     Paired (λ(p:List Key×V)(q:List Key×γ×V')=>p.1=q.1/\H q.2.1=some (.q (p.1.map kV))/\Mx p.2 q.2.2) kvs xs /\
     ∃ o es c,h.get? a=some o/\o.ExactDict/\o.data=.dict es c/\es.toList=xs.map (entryOfKey (tupleKind (qe2 P w)))/\(xs.map (·.1)).Nodup
 | .set S n=>h.SetOf (intKind P w) a S n
 | .ins C dx fs=>H dx=some (.own a)/\fs.length<=1000/\dx≠a/\h.get? a=some (W.instObj C dx) /\
     ∃ b,h.Ns1 dx b/\(∀ f,RelO (fs.lookup f) (b f))/\PySem.Within b (fs.map (·.1))
 | .own _=>∃ o,h.get? a=some o
 | .xd fs=>∃ b,h.Ns1 a b/\∀ f,RelO (fs.lookup f) (b f)
 | .rng lo hi=>∃ t u v,h.get? a=some { cls:=.type "range",data:=.fields #[.int lo t,.int hi u,.int 1 v] }
 | .frz o u=>h.get? a=some o/\ObjOk H h a u
 | .tbl ps=>h.get? a=some { cls:=.none,data:=.fields ps }
 | .met f x=>h.get? a=some (W.methodObj (.ref f) (.ref x))
 | .ext φ=>φ h/\(∃ o,h.get? a=some o)/\∀ h1 h2:Heap,φ h1->(∀ o,h1.get? a=some o->h2.get? a=some o)->φ h2
def HOk(H:Hp)(h:Heap):Prop:=∀ a o,H a=some o->ObjOk P w H h a o
end
section
variable{P:Kq}{w:Ks}{H H':Hp}{h h':Heap}{a:γ}{o:HO}
theorem ObjOk.lt(x:ObjOk P w H h a o):a < h.objs.size:=by
 cases o with
 | l c=>obtain⟨_,_,_,_,e⟩:=x;exact zA4 e
 | q c=>obtain⟨_,_,_,p⟩:=x;exact p.lt
 | dK b=>obtain⟨_,_,_,_,o,_,_,e,_⟩:=x;exact zA4 e
 | dT b=>obtain⟨_,_,_,_,o,_,_,e,_⟩:=x;exact zA4 e
 | set S n=>obtain⟨o,_,_,_,e,_⟩:=x;exact zA4 e
 | ins C g d=>obtain⟨_,_,_,e,_⟩:=x;exact zA4 e
 | own y=>obtain⟨_,e⟩:=x;exact zA4 e
 | xd d=>obtain⟨_,⟨_,_,_,e,_⟩,_⟩:=x;exact zA4 e
 | rng i j=>obtain⟨_,_,_,e⟩:=x;exact zA4 e
 | frz k u=>obtain⟨e,_⟩:=x;exact zA4 e
 | tbl l=>exact zA4 (show h.get? a=some _ from x)
 | met f y=>exact zA4 (show h.get? a=some _ from x)
 | ext φ=>obtain⟨_,⟨_,e⟩,_⟩:=x;exact zA4 e
theorem Paired.mapP{α β:Type}{F G:α->β->Prop}{l:List α}{m:List β}(h:Paired F l m)(f:∀ a b,F a b->G a b):Paired G l m:=by
 induction h with
 | nil=>exact .nil
 | cons r t i=>exact .cons (f _ _ r) i
theorem ObjOk.stay(x:ObjOk P w H h a o)(k:∀ b u,(b=a∨H b=some (.own a))->h.get? b=some u->h'.get? b=some u)(D:∀ b,H b=some (.own a)->H' b=some (.own a))(E:∀ b xs,H b=some (.q xs)->H' b=some (.q xs)):ObjOk P w H' h' a o:=by
 induction o with
 | l xs=>obtain⟨z,l,n,r,e⟩:=x;exact⟨z,l,n,r,k _ _ (.inl rfl) e⟩
 | q xs=>obtain⟨z,l,r,g,e,c⟩:=x;exact⟨z,l,r,g,k _ _ (.inl rfl) e,c⟩
 | dK m=>obtain⟨z,y,F,r,g,i,j,e,c⟩:=x;exact⟨z,y,F,r,g,i,j,k _ _ (.inl rfl) e,c⟩
 | dT m =>
   obtain⟨z,y,xs,r,g,i,j,e,c⟩:=x;exact⟨z,y,xs,Paired.mapP r λ p q z=>⟨z.1,E _ _ z.2.1,z.2.2⟩,g,i,j,k _ _ (.inl rfl) e,c⟩
 | set S n=>obtain⟨g,i,j,t,e,c⟩:=x;exact⟨g,i,j,t,k _ _ (.inl rfl) e,c⟩
 | ins C L G =>
   obtain⟨d,z,I,e,s,⟨A,i,j,J,c⟩,r⟩:=x;exact⟨D _ d,z,I,k _ _ (.inl rfl) e,s,⟨A,i,j,k _ _ (.inr d) J,c⟩,r⟩
 | own y=>obtain⟨g,e⟩:=x;exact⟨g,k _ _ (.inl rfl) e⟩
 | xd G=>obtain⟨s,⟨A,i,j,e,c⟩,r⟩:=x;exact⟨s,⟨A,i,j,k _ _ (.inl rfl) e,c⟩,r⟩
 | rng M N=>obtain⟨t,u,v,e⟩:=x;exact⟨t,u,v,k _ _ (.inl rfl) e⟩
 | frz g u K=>obtain⟨e,q⟩:=x;exact⟨k _ _ (.inl rfl) e,K q⟩
 | tbl O =>
   have e:=x;exact k a _ (.inl rfl) e
 | met f y =>
   have e:=x;exact k a _ (.inl rfl) e
 | ext φ=>obtain⟨p,⟨o,e⟩,B⟩:=x;exact⟨B _ _ p λ o q=>k _ _ (.inl rfl) q,⟨o,k _ _ (.inl rfl) e⟩,B⟩
theorem HOk.lt(x:HOk P w H h)(e:H a=some o):a < h.objs.size:=(x a o e).lt
theorem HOk.fresh(x:HOk P w H h)(e:h.objs.size<=a):H a=none:=by
 cases q:H a with
 | none=>rfl
 | some u=>exact absurd (zA8 (x.lt q) e) (zB8 _)
theorem HOk.kept(x:HOk P w H h)(k:∀ b u,h.get? b=some u->h'.get? b=some u):HOk P w H h':=λ a o e =>
 (x a o e).stay (λ b u _ q=>k b u q) (λ _ q=>q) λ _ _ q=>q
theorem HOk.laid(x:HOk P w H h)(k:∀ b u,h.get? b=some u->h'.get? b=some u)(i:h.objs.size<=a)(d:ObjOk P w (upd H a o) h' a o):HOk P w (upd H a o) h':=λ b u e=>by
 have f:=x.fresh i;by_cases g:b=a
 . subst g;rw[qa3] at e;cases e;exact d
 rw[qa4 g] at e;exact(x b u e).stay (λ c v _ q=>k c v q) (λ c q=>by rw[qa4 (qa9 q f)];exact q) λ c j q=>by rw[qa4 (qa9 q f)];exact q
end
def Rd(H:Hp)(a:γ)(u:HO):Prop:=H a=some u∨∃ o,H a=some (.frz o u)
theorem Rd.ok{P:Kq}{w:Ks}{H:Hp}{h:Heap}{a:γ}{u:HO}(r:Rd H a u)(x:HOk P w H h):ObjOk P w H h a u:=by
 rcases r with r | ⟨o,r⟩
 . exact x a u r
 obtain⟨_,q⟩:=x a _ r;exact q
def Mut:Option HO->Prop
 | some (.l _)=>True
 | some (.dK _)=>True
 | some (.dT _)=>True
 | some (.set _ _)=>True
 | some (.ins _ _ _)=>True
 | some (.ext _)=>True
 | _=>False
section
variable{P:Kq}{w:Ks}{H:Hp}{h h':Heap}{x e:γ}{o':HO}
theorem HOk.write(o:HOk P w H h)(d:Mut (H x))(m:e=x∨H e=some (.own x))(k:∀ b u,b≠e->h.get? b=some u->h'.get? b=some u)(j:∃ u,h'.get? e=some u)(l:ObjOk P w (upd H x o') h' x o'):HOk P w (upd H x o') h':=λ b u q=>by
 have nown:∀ c y,H c=some (.own y)->c≠x:=λ c y r z=>by subst z;rw[r] at d;exact d
 have ntup:∀ c f,H c=some (.q f)->c≠x:=λ c f r z=>by subst z;rw[r] at d;exact d
 by_cases g:b=x
 . subst g;rw[qa3] at q;cases q;exact l
 rw[qa4 g] at q;by_cases a:b=e
 . have n:H b=some (.own x):=by
     rcases m with z | z
     . exact absurd (a.trans z) g
     rw[a];exact z
   rw[q] at n;cases n;obtain⟨v,p⟩:=j;exact⟨v,by rw[a];exact p⟩
 refine(o b u q).stay (λ c v i r=>k c v ?_ r) (λ c r=>by rw[qa4 (nown c b r)];exact r) λ c f r=>by rw[qa4 (ntup c f r)];exact r
 rcases i with rfl | i
 . exact a
 rintro rfl;rcases m with z | z
 . exact nown c b i z
 rw[i] at z;cases z;exact g rfl
end
structure Un(fs ex:List γ)(H H':Hp)(h h':Heap):Prop where
 keep:∀ b o,h.get? b=some o->H b=none->b∉fs->b∉ex->h'.get? b=some o
 slot:∀ b o,h.get? b=some o->H b=none->b∈fs->b∉ex->∃ sl,h'.get? b=some { o with slots:=sl }
 free:∀ b o,h.get? b=some o->H b=none->b∉ex->H' b=none
 there:∀ b o,h.get? b=some o->b∉ex->∃ o',h'.get? b=some o'
 tups:∀ b xs,H b=some (.q xs)->H' b=some (.q xs)
 frzs:∀ b o u,H b=some (.frz o u)->H' b=some (.frz o u)
 tbls:∀ b ps,H b=some (.tbl ps)->∃ more,H' b=some (.tbl (ps++more))
section
variable{fs s:List γ}{H v w:Hp}{h t y h':Heap}{a x e:γ}{o:HO}
theorem Un.any(u:Un fs s H v h t){b:γ}{ob:Obj}(q:h.get? b=some ob)(n:H b=none)(a:b∉s):∃ d,t.get? b=some { ob with slots:=d }:=by
 by_cases c:b∈fs
 . exact u.slot b ob q n c a
 exact⟨ob.slots,u.keep b ob q n c a⟩
theorem Un.trans(a:Un fs s H v h t)(b:Un fs s v w t y):Un fs s H w h y where
 keep:=λ c d q n g e=>b.keep c d (a.keep c d q n g e) (a.free c d q n e) g e
 slot:=λ c d q n g e=>by
   obtain⟨r,f⟩:=a.slot c d q n g e;obtain⟨j,k⟩:=b.slot c _ f (a.free c d q n e) g e;exact⟨j,k⟩
 free:=λ c d q n e=>by
   obtain⟨l,f⟩:=a.there c d q e;exact b.free c l f (a.free c d q n e) e
 there:=λ c d q e=>by
   obtain⟨l,f⟩:=a.there c d q e;exact b.there c l f e
 tups:=λ c i q=>b.tups c i (a.tups c i q)
 frzs:=λ c d i q=>b.frzs c d i (a.frzs c d i q)
 tbls:=λ c m q=>by
   obtain⟨o,f⟩:=a.tbls c m q;obtain⟨p,k⟩:=b.tbls c _ f;exact⟨o++p,by rw[k,Array.append_assoc]⟩
theorem Un.kept(k:∀ b u,h.get? b=some u->h'.get? b=some u):Un fs s H H h h' :=
 ⟨λ b a q _ _ _=>k b a q,λ b a q _ _ _=>⟨a.slots,k b a q⟩,λ _ _ _ n _=>n,λ b a q _=>⟨a,k b a q⟩,λ _ _ q=>q,λ _ _ _ q=>q,λ _ c q=>⟨#[],by rw[q];simp⟩⟩
theorem Un.refl:Un fs s H H h h:=Un.kept λ _ _ q=>q
theorem Un.laid(k:∀ b u,h.get? b=some u->h'.get? b=some u)(d:h.objs.size<=a)(c:H a=none):Un fs s H (upd H a o) h h' where
 keep:=λ b u q _ _ _=>k b u q
 slot:=λ b u q _ _ _=>⟨u.slots,k b u q⟩
 free:=λ b u q n _=>by rw[qa4 (zAc (zA8 (zA4 q) d))];exact n
 there:=λ b u q _=>⟨u,k b u q⟩
 tups:=λ b e q=>by rw[qa4 (qa9 q c)];exact q
 frzs:=λ b u e q=>by rw[qa4 (qa9 q c)];exact q
 tbls:=λ b f q=>⟨#[],by rw[qa4 (qa9 q c),q];simp⟩
theorem Un.write(c:Mut (H x))(j:e=x∨H e=some (.own x))(k:∀ b u,b≠e->h.get? b=some u->h'.get? b=some u)(d:∃ u,h'.get? e=some u):Un fs s H (upd H x o) h h':=by
 have g:∀ b,H b=none->b≠x:=λ b n z=>by subst z;rw[n] at c;exact c
 have i:∀ b,H b=none->b≠e:=λ b n z=>by
   subst z;rcases j with r | r
   . exact g b n r
   grind
 have f:∀ b u,H b=some u->¬ Mut (some u)->b≠x:=λ b u q l z=>by subst z;rw[q] at c;exact l c
 refine⟨λ b u q n _ _=>k b u (i b n) q,λ b u q n _ _=>⟨u.slots,k b u (i b n) q⟩,λ b u q n _=>by rw[qa4 (g b n)];exact n,λ b u q _=>?_,
   λ b m q=>by rw[qa4 (f b _ q λ z=>z)];exact q,λ b u m q=>by rw[qa4 (f b _ q λ z=>z)];exact q,λ b p q=>⟨#[],by rw[qa4 (f b _ q λ z=>z),q];simp⟩⟩
 by_cases a:b=e
 . subst a;exact d
 exact⟨u,k b u a q⟩
end
noncomputable def trk(h:Heap)(H:Hp):List γ:=(Lc h.objs.size).filter λ a=>(H a).isSome
def B8(h:Heap)(H:Hp):Heap:=W.hideAll h (trk h H)
theorem qB7(h:Heap)(H:Hp):(B8 h H).objs.size=h.objs.size:=W.hideAll_size _ _
theorem qI3{h:Heap}{H:Hp}{b:γ}{o:Obj}(e:h.get? b=some o)(n:H b=none):(B8 h H).get? b=some o :=
 W.hideAll_get _ e λ a=>by
   have q:=(List.mem_filter.mp a).2;rw[n] at q;simp at q
theorem qP1{h:Heap}{H:Hp}{b:γ}{o:Obj}(e:(B8 h H).get? b=some o):h.get? b=some o/\H b=none:=by
 have a:=W.of_hideAll (trk h H) e;refine⟨a,?_⟩;cases q:H b with
 | none=>rfl
 | some x =>
   have z:(B8 h H).get? b=none:=W.hideAll_none (trk h H) (List.mem_filter.mpr ⟨List.mem_range.mpr (zA4 a),by simp[q]⟩)
   grind
structure Mod(K:Mf)(mg:Str->Option V')(base:Heap):Prop where
 kin:K.In base
 glob:base.Ns Js mg
 blt:∃ mb,base.Ns builtinsNs mb/\∀ x:Str,x ≠ "__name__" -> mb x=Jo x
 nolimit:base.NoLimit
structure Cx where
 prog:Kq
 w:Ks
 K:Mf
 mg:Str->Option V'
 base:Heap
 A:Kr
 N:List Str
 s₀:Sh
 H₀:Hp
 env:Env
 outer:List Env
 stack:List Env
 ex:List γ
 fn:Str->Bool
 calm:Bool
 pn:List (γ×Obj)
 xe:V'->Sh->Prop
noncomputable def frs(l:List Env):List γ:=l.filterMap (·.frame)
abbrev Cx.fs(X:Cx):List γ:=frs X.outer
def Vis(sc:Scope)(x:Str):Prop:=sc.names.lookup x=some .local∨sc.names.lookup x=some .cell∨sc.names.lookup x=some .free
def Loc(sc:Scope)(x:Str):Prop:=sc.names.lookup x=some .local∨sc.names.lookup x=some .cell
def Look(env:Env)(h:Heap)(m:Str->Option V')(x:Str)(u:V'):Prop :=
 (env.kindOf x=some .local/\m x=some u)∨((env.kindOf x=some .cell∨env.kindOf x=some .free)/\∃ c,env.cells.lookup x=some c/\h.IsCell c (some u))
structure Cx.Ok(X:Cx):Prop where
 mod:Mod X.K X.mg X.base
 kind:X.env.scope.kind=.function
 glob:X.env.globals=Js
 blt:X.env.builtins=builtinsNs
 above:X.s₀.heap.objs.size<=X.env.locals
 inj:∀ x y c,X.env.cells.lookup x=some c->X.env.cells.lookup y=some c->x=y
 has:∀ x,(X.env.kindOf x=some .cell∨X.env.kindOf x=some .free)->∃ c,X.env.cells.lookup x=some c
 cab:∀ x c,X.fn x=true->X.env.cells.lookup x=some c->X.s₀.heap.objs.size<=c
 hd:X.calm=true->X.A.handled=none
 frames:X.A.frames=some X.stack
 stk:X.stack=X.outer∨(X.stack=X.env::X.outer/\X.env.frame=some X.env.locals)
 exf:∀ b∈X.ex,b≠X.env.locals/\∀ x c,X.env.cells.lookup x=some c->c≠b
 bs:∀ b o,X.base.get? b=some o->X.s₀.heap.get? b=some o/\X.H₀ b=none
 bsz:X.base.objs.size<=X.s₀.heap.objs.size
 noex:∀ b o,X.base.get? b=some o->b∉X.ex
 exfs:∀ b∈X.ex,b∉X.fs
 funs:X.s₀.heap.FunFrames X.base X.outer
 frf:∀ b∈X.fs,X.H₀ b=none
structure M1(X:Cx)(Ko:List (γ×Obj))(a:List (Option V))(H:Hp)(s:Sh):Prop where
 ok:X.Ok
 os:s.os=X.s₀.os
 bare:AllBare s.gens
 base:Un X.fs X.ex X.H₀ H X.s₀.heap s.heap
 loc:∃ m,s.heap.Ns X.env.locals m/\∀(i:Nat)(x:Str)(v:V),X.N[i]? = some x->a[i]? = some (some v)->Vis X.env.scope x->∃ u,Mx v u/\Look X.env s.heap m x u
 cell:∀ x c,X.env.cells.lookup x=some c->∃ v,s.heap.IsCell c v
 free:H X.env.locals=none
 freeC:∀ x c,X.env.cells.lookup x=some c->H c=none
 pin:∀ p∈X.pn++Ko,s.heap.get? p.1=some p.2/\H p.1=none/\p.1≠X.env.locals/\p.1∉X.fs/\∀ v,p.2.data≠.cell v
 hok:HOk X.prog X.w H s.heap
 len:a.length=X.N.length
section
variable{X:Cx}{Ko:List (γ×Obj)}{σ:List (Option V)}{H H':Hp}{s:Sh}{h':Heap}
theorem Cx.Ok.nofr(a:X.Ok){b:γ}{o:Obj}(e:X.base.get? b=some o):b∉X.fs:=λ c=>by
 have:=(a.funs.mem c).1
 rw[e] at this;cases this
theorem M1.bs(I:M1 X Ko σ H s):∀ b o,X.base.get? b=some o->s.heap.get? b=some o/\H b=none:=λ b o e =>
 ⟨I.base.keep b o (I.ok.bs b o e).1 (I.ok.bs b o e).2 (I.ok.nofr e) (I.ok.noex b o e),I.base.free b o (I.ok.bs b o e).1 (I.ok.bs b o e).2 (I.ok.noex b o e)⟩
theorem M1.bk(I:M1 X Ko σ H s):∀ b o,X.base.get? b=some o->s.heap.get? b=some o:=λ b o e=>(I.bs b o e).1
theorem M1.mod(I:M1 X Ko σ H s):Mod X.K X.mg X.base:=I.ok.mod
theorem M1.kIn(I:M1 X Ko σ H s):X.K.In s.heap:=I.ok.mod.kin.keeps I.bk
theorem M1.lt(I:M1 X Ko σ H s):X.env.locals < s.heap.objs.size:=let ⟨_,hn,_⟩:=I.loc;hn.lt
theorem M1.sz(I:M1 X Ko σ H s):X.s₀.heap.objs.size<=s.heap.objs.size:=zAb I.ok.above (Nat.le_of_lt I.lt)
theorem M1.nofs(I:M1 X Ko σ H s){a:γ}(h:s.heap.objs.size<=a):a∉X.fs:=λ b=>by
 obtain⟨_,o,c,_⟩:=I.ok.funs.mem b;exact absurd (zA8 (zA4 c) (zAb I.sz h)) (zB8 _)
theorem M1.cne(I:M1 X Ko σ H s):∀ x c,X.env.cells.lookup x=some c->c≠X.env.locals:=λ x c e z=>by
 obtain⟨v,o,d,f⟩:=I.cell x c e;obtain⟨m,⟨g,h,i,a,b,_⟩,_⟩:=I.loc;rw[z,a] at d;cases d;rw[b] at f;cases f
theorem M1.funs(I:M1 X Ko σ H s):s.heap.FunFrames X.base X.outer:=by
 have all:∀(l:List Env),(∀ b∈frs l,b∈X.fs)->X.s₀.heap.FunFrames X.base l->s.heap.FunFrames X.base l:=by
   intro l
   induction l with
   | nil=>intro _ _;trivial
   | cons g r h =>
     intro f i;obtain⟨j,⟨L,o,a,k,m,n⟩,p⟩:=i;have c:=f L (by unfold frs;rw[Lb,a];exact zAe);obtain⟨q,e⟩:=I.base.slot L o m (I.ok.frf L c) c λ z=>I.ok.exfs L z c
     exact⟨j,⟨L,_,a,k,e,n⟩,h (λ b d=>f b (by unfold frs;rw[Lb,a];exact zA5 _ d)) p⟩
 exact all X.outer (λ _ d=>d) I.ok.funs
theorem M1.stack(I:M1 X Ko σ H s):s.heap.FunFrames X.base X.stack:=by
 rcases I.ok.stk with e | ⟨e,a⟩
 . rw[e];exact I.funs
 rw[e];obtain⟨m,b,_⟩:=I.loc;refine .cons (by rw[I.ok.kind];decide) a b ?_ I.funs;exact Heap.get?_none_of_le (zAb I.ok.bsz I.ok.above)
theorem M1.stkSub(I:M1 X Ko σ H s):∀ b∈frs X.stack,b∈X.env.locals::X.fs:=λ b a=>by
 rcases I.ok.stk with e | ⟨e,c⟩
 . rw[e] at a;exact zA5 _ a
 rw[e] at a;unfold frs at a;rw[Lb,c] at a;exact a
theorem M1.stkFree(I:M1 X Ko σ H s):∀ b∈frs X.stack,H b=none:=λ b a=>by
 rcases zAm.mp (I.stkSub b a) with e | a
 . rw[e];exact I.free
 obtain⟨_,o,c,_⟩:=I.ok.funs.mem a;exact I.base.free b o c (I.ok.frf b a) λ z=>I.ok.exfs b z a
theorem M1.step{g':Array GenState}{d':Drawn}(I:M1 X Ko σ H s)(f:∀ b∈ch,(b∈X.ex∨X.s₀.heap.objs.size<=b)/\b≠X.env.locals/\(∀ x c,X.env.cells.lookup x=some c->c≠b)/\∀ p∈X.pn++Ko,p.1≠b)(keep:∀ b o,b≠X.env.locals->b∉X.fs->b∉ch->s.heap.get? b=some o->H b=none->h'.get? b=some o)(slot:∀ b o,b≠X.env.locals->b∈X.fs->b∉ch->s.heap.get? b=some o->H b=none->∃ C,h'.get? b=some { o with slots:=C })(free:∀ b o,b∉ch->s.heap.get? b=some o->H b=none->H' b=none)(there:∀ b o,b∉ch->s.heap.get? b=some o->∃ o',h'.get? b=some o')(tups:∀ b xs,H b=some (.q xs)->H' b=some (.q xs))(frzs:∀ b o u,H b=some (.frz o u)->H' b=some (.frz o u))(tbls:∀ b ps,H b=some (.tbl ps)->∃ more,H' b=some (.tbl (ps++more)))(ns:∀ m,s.heap.Ns X.env.locals m->h'.Ns X.env.locals m)(D:HOk X.prog X.w H' h')(M:AllBare g') :
   M1 X Ko σ H' { s with heap:=h',gens:=g',drawn:=d',toks:=t' }:=by
 have A:∀ b o,X.s₀.heap.get? b=some o->b≠X.env.locals:=λ b o e=>zAc (zA8 (zA4 e) I.ok.above)
 have h:∀ b o,X.s₀.heap.get? b=some o->b∉X.ex->b∉ch:=λ b o e a t=>by
   rcases (f b t).1 with z | z
   . exact a z
   exact absurd (zA8 (zA4 e) z) (zB8 _)
 have cellK:∀ x c,X.env.cells.lookup x=some c->∀ v,s.heap.IsCell c v->h'.IsCell c v:=λ x c e v ⟨o,y,E⟩=>by
   have g:=λ z=>(f c z).2.2.1 x c e rfl
   by_cases G:c∈X.fs
   . obtain⟨C,q⟩:=slot c o (I.cne x c e) G g y (I.freeC x c e)
     exact⟨_,q,E⟩
   exact⟨o,keep c o (I.cne x c e) G g y (I.freeC x c e),E⟩
 refine⟨I.ok,I.os,M,⟨λ b o e n t a=>?_,λ b o e n t a=>?_,λ b o e n a=>?_,λ b o e a=>?_,λ b xs e=>tups b xs (I.base.tups b xs e),λ b o xs e=>frzs b o xs (I.base.frzs b o xs e),λ b ps e=>?_⟩,?_,λ x c e=>?_,?_,λ x c e=>?_,λ p J=>?_,D,I.len⟩
 . exact keep b o (A b o e) t (h b o e a) (I.base.keep b o e n t a) (I.base.free b o e n a)
 . obtain⟨C,j⟩:=I.base.slot b o e n t a
   obtain⟨F,B⟩:=slot b _ (A b o e) t (h b o e a) j (I.base.free b o e n a);exact⟨F,B⟩
 . obtain⟨o',j⟩:=I.base.there b o e a
   exact free b o' (h b o e a) j (I.base.free b o e n a)
 . obtain⟨o',j⟩:=I.base.there b o e a
   exact there b o' (h b o e a) j
 . obtain⟨N,j⟩:=I.base.tbls b ps e
   obtain⟨O,B⟩:=tbls b _ j;exact⟨N++O,by rw[B,Array.append_assoc]⟩
 . obtain⟨m,P,Q⟩:=I.loc
   refine⟨m,ns m P,λ i x v j B R=>?_⟩;obtain⟨u,r,l⟩:=Q i x v j B R;refine⟨u,r,?_⟩;rcases l with l | ⟨k,c,e,z⟩
   . exact .inl l
   exact .inr ⟨k,c,e,cellK x c e _ z⟩
 . obtain⟨v,z⟩:=I.cell x c e
   exact⟨v,cellK x c e v z⟩
 . obtain⟨m,⟨o,_,_,y,_⟩,_⟩:=I.loc
   exact free _ o (λ z=>(f _ z).2.1 rfl) y I.free
 . obtain⟨v,o,y,E⟩:=I.cell x c e
   exact free c o (λ z=>(f c z).2.2.1 x c e rfl) y (I.freeC x c e)
 obtain⟨e,n,K,L,d⟩:=I.pin p J;have g:=λ z=>(f p.1 z).2.2.2 p J rfl
 exact⟨keep p.1 p.2 K L g e n,free p.1 p.2 g e n,K,L,d⟩
theorem M1.un(I:M1 X Ko σ H s)(u:Un X.fs [] H H' s.heap h')(c:HOk X.prog X.w H' h'):M1 X Ko σ H' { s with heap:=h',toks:=t' }:=by
 obtain⟨m,⟨o,l,p,h,r⟩,_⟩:=id I.loc;obtain⟨q,i⟩:=u.any h I.free (by simp);exact I.step (ch:=[]) (λ _ z=>nomatch z) (λ b o _ d _ e n=>u.keep b o e n d (by simp)) (λ b o _ d _ e n=>u.slot b o e n d (by simp)) (λ b o _ e n=>u.free b o e n (by simp)) (λ b o _ e=>u.there b o e (by simp)) u.tups u.frzs u.tbls (λ t j=>by
   obtain⟨v,f,g,a,k⟩:=j;rw[h] at a;cases a;exact⟨_,f,g,i,k⟩) c I.bare
theorem M1.call{g':Array GenState}{d':Drawn}(I:M1 X Ko σ H s)(u:Un (frs X.stack) ch H H' s.heap h')(g:HOk X.prog X.w H' h')(l:AllBare g')(d:∀ b∈ch,(b∈X.ex∨X.s₀.heap.objs.size<=b)/\b≠X.env.locals/\(∀ x c,X.env.cells.lookup x=some c->c≠b)/\∀ p∈X.pn++Ko,p.1≠b) :
   M1 X Ko σ H' { s with heap:=h',gens:=g',drawn:=d',toks:=t' }:=by
 obtain⟨m,⟨o,y,A,k,r⟩,_⟩:=id I.loc;obtain⟨B,h⟩:=u.any k I.free λ z=>(d _ z).2.1 rfl
 exact I.step d (λ b o h q a e n=>u.keep b o e n (λ z=>(zAm.mp (I.stkSub b z)).elim h q) a) (λ b o _ _ a e n=>u.any e n a) (λ b o a e n=>u.free b o e n a) (λ b o a e=>u.there b o e a) u.tups u.frzs u.tbls (λ C t=>by
   obtain⟨D,i,j,f,v⟩:=t;rw[k] at f;cases f;exact⟨_,i,j,h,v⟩) g l
theorem M1.turned{it:γ}(I:M1 X Ko σ H s)(k:∀ b o,b≠it->s.heap.get? b=some o->h'.get? b=some o)(g:H it=none)(f:it≠X.env.locals)(h1:it∈X.ex∨X.s₀.heap.objs.size<=it)(h2:∀ x c,X.env.cells.lookup x=some c->c≠it)(h:∀ p∈X.pn++Ko,p.1≠it):M1 X Ko σ H { s with heap:=h',toks:=t' }:=by
 have d:∀ b u,H b=some u->b≠it:=λ b u e z=>by rw[z,g] at e;cases e
 refine I.step (ch:=[it]) (λ b i=>?_) (λ b o _ _ a e _=>k b o (λ z=>a (by simp[z])) e) (λ b o _ _ a e _=>⟨o.slots,k b o (λ z=>a (by simp[z])) e⟩) (λ _ _ _ _ n=>n)
   (λ b o a e=>⟨o,k b o (λ z=>a (by simp[z])) e⟩) (λ _ _ e=>e) (λ _ _ _ e=>e) (λ b y e=>⟨#[],by rw[e];simp⟩) (λ m j=>?_) (λ b u e=>?_) I.bare
 . have e:b=it:=by simpa using i
   subst e;exact⟨h1,f,h2,h⟩
 . obtain⟨o,l,t,w,r⟩:=j
   exact⟨o,l,t,k _ o (Ne.symm f) w,r⟩
 refine(I.hok b u e).stay (λ c v a q=>k c v ?_ q) (λ _ q=>q) λ _ _ q=>q
 rcases a with z | z
 . rw[z];exact d b u e
 exact d c _ z
theorem M1.tok(I:M1 X Ko σ H s)(t:Nat):M1 X Ko σ H { s with toks:=t }:=I.un Un.refl I.hok
theorem M1.kept(I:M1 X Ko σ H s)(k:∀ b u,s.heap.get? b=some u->h'.get? b=some u):M1 X Ko σ H { s with heap:=h',toks:=t' }:=I.un (Un.kept k) (I.hok.kept k)
theorem M1.laid{a:γ}{o:HO}(I:M1 X Ko σ H s)(k:∀ b u,s.heap.get? b=some u->h'.get? b=some u)(c:s.heap.objs.size<=a)(d:ObjOk X.prog X.w (upd H a o) h' a o) :
   M1 X Ko σ (upd H a o) { s with heap:=h',toks:=t' }:=I.un (Un.laid k c (I.hok.fresh c)) (I.hok.laid k c d)
theorem M1.write{x e:γ}{o:HO}(I:M1 X Ko σ H s)(d:Mut (H x))(f:e=x∨H e=some (.own x))(k:∀ b u,b≠e->s.heap.get? b=some u->h'.get? b=some u)(a:∃ u,h'.get? e=some u)(c:ObjOk X.prog X.w (upd H x o) h' x o):M1 X Ko σ (upd H x o) { s with heap:=h',toks:=t' }:=I.un (Un.write d f k a) (I.hok.write d f k a c)
theorem M1.weak{σ':List (Option V)}(I:M1 X Ko σ H s)(a:σ'.length=σ.length)(w:∀(i:Nat) v,σ'[i]? = some (some v)->σ[i]? = some (some v)):M1 X Ko σ' H s :=
 ⟨I.ok,I.os,I.bare,I.base,let ⟨m,hn,hl'⟩:=I.loc;⟨m,hn,λ i x v b c d=>hl' i x v b (w i v c) d⟩,I.cell,I.free,I.freeC,I.pin,I.hok,a.trans I.len⟩
theorem M1.pins_of{pins':List (γ×Obj)}(I:M1 X Ko σ H s)(h:∀ p∈pins',s.heap.get? p.1=some p.2/\H p.1=none/\p.1≠X.env.locals/\p.1∉X.fs/\∀ v,p.2.data≠.cell v):M1 X pins' σ H s :=
 ⟨I.ok,I.os,I.bare,I.base,I.loc,I.cell,I.free,I.freeC,λ p a=>(zAf.mp a).elim (λ z=>I.pin p (Kz _ z)) (h p),I.hok,I.len⟩
theorem qo0(c:N.Nodup){j:Nat}{x:Str}(a:N[i]? = some x)(b:N[j]? = some x):i=j:=by
 obtain⟨f,d⟩:=zAd.mp a;obtain⟨g,e⟩:=zAd.mp b;exact(List.getElem_inj c).mp (d.trans e.symm)
theorem qA3{A:Kr}{E:V'->Sh->Prop}{x:Str}{v:V}{u:V'}{Q:Unit->Sh->Prop}(I:M1 X Ko σ H s)(hN:X.N.Nodup)(hi:X.N[i]? = some x)(l:Loc X.env.scope x)(r:Mx v u)(h:∀ s',M1 X Ko (σ.set i (some v)) H s'->(∃ a,Heap.SameBut a s.heap s'.heap/\(a=X.env.locals∨X.env.cells.lookup x=some a))->Q () s')(hf:X.fn x=true∨X.env.scope.names.lookup x=some .local:=by first | exact .inl rfl | exact .inr rfl | assumption):J1 M A (storeName X.env x u) Q E s:=by
 obtain⟨m,Y,hl⟩:=id I.loc;have L:(X.env.scope.kind == .class||(X.env.scope.kind == .module&&X.env.locals != X.env.globals))=false:=by rw[I.ok.kind];rfl
 have hiσ:i < σ.length:=by rw[I.len];exact(zAd.mp hi).1
 have D:=I.cne;have tracked:∀{a:γ}{K:Heap},(∃ o,s.heap.get? a=some o/\H a=none)->Heap.SameBut a s.heap K->HOk X.prog X.w H K:=λ{a K} ha f b ob e=>by
   obtain⟨_,_,hfree⟩:=ha;refine(I.hok b ob e).stay (λ c T t q=>(f.2 c ?_).trans q) (λ _ q=>q) λ _ _ q=>q
   grind
 rcases l with C | C
 . refine wpAny_storeName_local C Y (λ K Z f=>?_) L
   obtain⟨oL,_,_,a0,_⟩:=id Y;refine h _ ⟨I.ok,I.os,I.bare,⟨λ b o e n F l=>?_,λ b o e n F l=>?_,I.base.free,λ b o e l=>?_,I.base.tups,I.base.frzs,I.base.tbls⟩,⟨_,Z,λ j y v' g B e3=>?_⟩,λ y c e=>?_,I.free,I.freeC,λ p hp=>?_,tracked ⟨oL,a0,I.free⟩ f,by simpa using I.len⟩ ⟨_,f,.inl rfl⟩
   . exact(f.2 b (zAc (zA8 (zA4 e) I.ok.above))).trans (I.base.keep b o e n F l)
   . obtain⟨sl,g⟩:=I.base.slot b o e n F l
     exact⟨sl,(f.2 b (zAc (zA8 (zA4 e) I.ok.above))).trans g⟩
   . obtain⟨o',g⟩:=I.base.there b o e l
     exact⟨o',(f.2 b (zAc (zA8 (zA4 e) I.ok.above))).trans g⟩
   . by_cases G:j=i
     . subst G
       rw[hi] at g;cases g;rw[List.getElem?_set_self hiσ] at B;cases B;exact⟨u,r,.inl ⟨C,by simp⟩⟩
     rw[List.getElem?_set_ne (Ne.symm G)] at B;obtain⟨u',r',q⟩:=hl j y v' g B e3;refine⟨u',r',?_⟩;rcases q with⟨k,e⟩ | ⟨k,c,e,z⟩
     . refine .inl ⟨k,?_⟩
       have:y≠x:=λ e=>G (qo0 hN g (e ▸ hi))
       simp[this,e]
     exact .inr ⟨k,c,e,z.sameBut f (D y c e)⟩
   . obtain⟨T,z⟩:=I.cell y c e
     exact⟨T,z.sameBut f (D y c e)⟩
   obtain⟨e,n,U,nf,d⟩:=I.pin p hp;exact⟨(f.2 p.1 U).trans e,n,U,nf,d⟩
 have J:X.fn x=true:=by
   rcases hf with z | z
   . exact z
   rw[z] at C;cases C
 obtain⟨c,t⟩:=I.ok.has x (.inl C);obtain⟨T,z⟩:=I.cell x c t;refine wpAny_storeName_cell I.ok.kind C t z (λ K O f=>?_);obtain⟨oc,P,R⟩:=id z;refine h { s with heap:=K } ⟨I.ok,I.os,I.bare,⟨λ b o e n F l=>?_,λ b o e n F l=>?_,I.base.free,λ b o e l=>?_,I.base.tups,I.base.frzs,I.base.tbls⟩,⟨m,Y.sameBut f (Ne.symm (D x c t)),λ j y v' g B e3=>?_⟩,λ y W e=>?_,I.free,I.freeC,λ p hp=>?_,tracked ⟨oc,P,I.freeC x c t⟩ f,by simpa using I.len⟩ ⟨c,f,.inr t⟩
 . exact(f.2 b (zAc (zA8 (zA4 e) (I.ok.cab x c J t)))).trans (I.base.keep b o e n F l)
 . obtain⟨sl,g⟩:=I.base.slot b o e n F l
   exact⟨sl,(f.2 b (zAc (zA8 (zA4 e) (I.ok.cab x c J t)))).trans g⟩
 . obtain⟨o',g⟩:=I.base.there b o e l
   exact⟨o',(f.2 b (zAc (zA8 (zA4 e) (I.ok.cab x c J t)))).trans g⟩
 . by_cases G:j=i
   . subst G
     rw[hi] at g;cases g;rw[List.getElem?_set_self hiσ] at B;cases B;exact⟨u,r,.inr ⟨.inl C,c,t,O⟩⟩
   rw[List.getElem?_set_ne (Ne.symm G)] at B;obtain⟨u',r',q⟩:=hl j y v' g B e3;refine⟨u',r',?_⟩;rcases q with q | ⟨k,W,e,z'⟩
   . exact .inl q
   refine .inr ⟨k,W,e,z'.sameBut f ?_⟩;rintro rfl;exact G (qo0 hN g (I.ok.inj _ _ _ e t ▸ hi))
 . by_cases S:W=c
   . subst S;exact⟨_,O⟩
   obtain⟨w2,z2⟩:=I.cell y W e;exact⟨w2,z2.sameBut f S⟩
 obtain⟨e,n,U,nf,d⟩:=I.pin p hp;refine⟨(f.2 p.1 ?_).trans e,n,U,nf,d⟩;intro q;rw[q,P] at e;have q':oc=p.2:=Mc e;exact d T (by rw[<- q'];exact R)
theorem qn1{A:Kr}{E:V'->Sh->Prop}{x:Str}{v:V}{u:V'}{Q:Unit->Sh->Prop}(I:M1 X Ko σ H s)(a:X.N.Nodup)(hi:X.N[i]? = some x)(b:Loc X.env.scope x)(r:Mx v u)(h:∀ s',M1 X Ko (σ.set i (some v)) H s'->Q () s')(c:X.fn x=true∨X.env.scope.names.lookup x=some .local:=by first | exact .inl rfl | exact .inr rfl | assumption):J1 M A (storeName X.env x u) Q E s :=
 qA3 I a hi b r (λ s' I' _=>h s' I') c
theorem M1.call'{s':Sh}(I:M1 X Ko σ H s)(e:s'.os=s.os)(u:Un (frs X.stack) ch H H' s.heap s'.heap)(a:HOk X.prog X.w H' s'.heap)(f:AllBare s'.gens)(d:∀ b∈ch,(b∈X.ex∨X.s₀.heap.objs.size<=b)/\b≠X.env.locals/\(∀ x c,X.env.cells.lookup x=some c->c≠b)/\∀ p∈X.pn++Ko,p.1≠b):M1 X Ko σ H' s':=by
 obtain⟨g,h,i,j,k⟩:=s';subst (e);exact I.call u a f d
end
abbrev XK:=V'->Option γ->Hp->Prop
abbrev St:=List (Option V)
abbrev VK:=V->Hp->Prop
abbrev TE:=St->Hp->VK->Prop
abbrev TT:=St->Hp->(Bool->Hp->Prop)->Prop
abbrev TA:=St->Hp->(List V->Hp->Prop)->Prop
structure As where
 nx:St->Hp->Prop
 rt:VK
 bk:St->Hp->Prop:=λ _ _=>False
 ct:St->Hp->Prop:=λ _ _=>False
abbrev TS:=As->St->Hp->Prop
def EP(X:Cx)(Ko:List (γ×Obj))(a:St)(Q:VK)(u:V')(s':Sh):Prop:=∃ v H',M1 X Ko a H' s'/\Mx v u/\Q v H'
def TP(X:Cx)(Ko:List (γ×Obj))(a:St)(Q:Bool->Hp->Prop)(b:Bool)(s':Sh):Prop:=∃ H',M1 X Ko a H' s'/\Q b H'
def AP(X:Cx)(Ko:List (γ×Obj))(a:St)(Q:List V->Hp->Prop)(us:List V')(s':Sh):Prop:=∃ vs H',M1 X Ko a H' s'/\Mz vs us/\Q vs H'
def SP(X:Cx)(Ko:List (γ×Obj))(D:As)(f:Flow)(s':Sh):Prop :=
 match f with
 | .next=>∃ a' H',M1 X Ko a' H' s'/\D.nx a' H'
 | .brk=>∃ a' H',M1 X Ko a' H' s'/\D.bk a' H'
 | .cont=>∃ a' H',M1 X Ko a' H' s'/\D.ct a' H'
 | .ret u=>∃ v a' H',M1 X Ko a' H' s'/\Mx v u/\D.rt v H'
def PE(X:Cx)(e:Kt)(t:TE):Prop :=
 ∀(Ko:List (γ×Obj))(s:Sh)(a:St)(H:Hp)(Q:VK),M1 X Ko a H s->t a H Q->J1 (J' X.prog X.w) X.A (eval e X.env) (EP X Ko a Q) X.xe s
def PT(X:Cx)(e:Kt)(t:TT):Prop :=
 ∀(Ko:List (γ×Obj))(s:Sh)(a:St)(H:Hp)(Q:Bool->Hp->Prop),M1 X Ko a H s->t a H Q->J1 (J' X.prog X.w) X.A (isTrue e X.env (eval e X.env)) (TP X Ko a Q) X.xe s
def PW(X:Cx)(e:Kt)(t:TT):Prop :=
 ∀(whole:Sem V')(Ko:List (γ×Obj))(s:Sh)(a:St)(H:Hp)(Q:Bool->Hp->Prop),M1 X Ko a H s->t a H Q->J1 (J' X.prog X.w) X.A (isTrue e X.env whole) (TP X Ko a Q) X.xe s
theorem PW.pt{X:Cx}{e:Kt}{t:TT}(h:PW X e t):PT X e t:=h _
def PA(X:Cx)(es:List Kt)(t:TA):Prop :=
 ∀(pos:Pos)(Ko:List (γ×Obj))(s:Sh)(a:St)(H:Hp)(Q:List V->Hp->Prop),M1 X Ko a H s->t a H Q->J1 (J' X.prog X.w) X.A (spliced (backTo pos (Jj es X.env))) (AP X Ko a Q) X.xe s
def PS(X:Cx)(st:Ku)(t:TS):Prop :=
 ∀(Ko:List (γ×Obj))(s:Sh)(a:St)(H:Hp)(D:As),M1 X Ko a H s->t D a H->J1 (J' X.prog X.w) X.A (exec st X.env) (SP X Ko D) X.xe s
def PSs(X:Cx)(st:List Ku)(t:TS):Prop :=
 ∀(Ko:List (γ×Obj))(s:Sh)(a:St)(H:Hp)(D:As),M1 X Ko a H s->t D a H->J1 (J' X.prog X.w) X.A (execs st X.env) (SP X Ko D) X.xe s
theorem thn{α:Type}{t:Sem α}{Q Q':α->Sh->Prop}{A:Kr}{E:V'->Sh->Prop}{s:Sh}(h:J1 M A t Q E s)(b:∀ a s,Q a s->Q' a s):J1 M A t Q' E s:=Jv h b λ _ _ x=>x
section
variable{X:Cx}
def tVar(i:Nat):TE:=λ k H Q=>∃ v,k[i]? = some (some v)/\Q v H
def tC(v:V):TE:=λ _ H Q=>Q v H
theorem qn7{x:Str}{pos:Pos}(f:X.N[i]? = some x)(hv:Vis X.env.scope x)(b:N' x:=by decide)(d:(x == ("__classdict__" : Str))=false:=by decide):PE X (.Name x pos) (tVar i):=by
 intro Ko s k H Q I h;obtain⟨v,e,h⟩:=h;obtain⟨m,g,j⟩:=I.loc;obtain⟨u,r,l⟩:=j i x v f e hv;have fin:EP X Ko k Q u s:=⟨v,H,I,r,h⟩
 rcases l with⟨a,hm⟩ | ⟨a,c,hc,hcell⟩
 . exact wpAny_Name (wpAny_loadName_local I.ok.kind a g hm fin) b
 rcases a with a | a
 . exact wpAny_Name (wpAny_loadName_cell I.ok.kind a hc hcell fin) b
 exact wpAny_Name (wpAny_loadName_free I.ok.kind a hc hcell fin d) b
theorem qn8{i j pos}:PE X (.Constant (.int i) j pos) (tC (.int i)):=λ _ _ _ H _ I h=>wpAny_Constant_int ⟨.int i,H,I.tok _,⟨_,rfl⟩,h⟩
theorem pe_bl{b j pos}:PE X (.Constant (.bool b) j pos) (tC (.bl b)):=λ _ _ _ H _ I h=>Constant_bool ⟨.bl b,H,I,rfl,h⟩
theorem qU0{j pos}:PE X (.Constant .none j pos) (tC .non):=λ _ _ _ H _ I h=>Constant_none ⟨.non,H,I,rfl,h⟩
theorem qT9{x j pos}:PE X (.Constant (.str x) j pos) (tC (.str x)):=λ _ _ _ H _ I h=>Calls.Constant_str ⟨.str x,H,I.tok _,⟨_,rfl⟩,h⟩
def Gl(X:Cx)(x:Str):Prop:=X.env.kindOf x=some .globalImplicit
theorem qh6{E:V'->Sh->Prop}{Ko:List (γ×Obj)}{s:Sh}{k:St}{H:Hp}{x:Str}{u:V'}{pos:Pos}{Q:V'->Sh->Prop}(I:M1 X Ko k H s)(a:Gl X x)(b:X.mg x=some u)(h:Q u s)(c:N' x:=by decide):J1 (J' X.prog X.w) X.A (eval (.Name x pos) X.env) Q E s :=
 Calls.Name_function_global I.ok.kind a (Calls.loadGlobal_global (by rw[I.ok.glob];exact I.mod.glob.keeps I.bk) b h) c
theorem qx3{E:V'->Sh->Prop}{Ko:List (γ×Obj)}{s:Sh}{k:St}{H:Hp}{x:Str}{u:V'}{pos:Pos}{Q:V'->Sh->Prop}(I:M1 X Ko k H s)(a:Gl X x)(b:X.mg x=none)(hv:Jo x=some u)(h:Q u s)(c:x ≠ "__name__" := by decide)(d:N' x:=by decide):J1 (J' X.prog X.w) X.A (eval (.Name x pos) X.env) Q E s:=by
 obtain⟨g,e,f⟩:=I.mod.blt;exact Calls.Name_function_global I.ok.kind a (Calls.loadGlobal_builtin (by rw[I.ok.glob];exact I.mod.glob.keeps I.bk) b (by rw[I.ok.blt];exact e.keeps I.bk) ((f x c).trans hv) h) d
theorem qO1{x:Str}{v:V}{u:V'}{pos:Pos}(a:Gl X x)(b:X.mg x=some u)(r:Mx v u)(c:N' x:=by decide):PE X (.Name x pos) (tC v) :=
 λ _ _ _ H _ I h=>qh6 I a b ⟨v,H,I,r,h⟩ c
theorem qO6{x:Str}{v:V}{u:V'}{pos:Pos}(a:Gl X x)(b:X.mg x=none)(hv:Jo x=some u)(r:Mx v u)(c:x ≠ "__name__" := by decide)(d:N' x:=by decide):PE X (.Name x pos) (tC v) :=
 λ _ _ _ H _ I h=>qx3 I a b hv ⟨v,H,I,r,h⟩ c d
variable{a b:Kt}{pos:Pos}
def tB(t:TE):TT:=λ k H Q=>t k H λ x H1=>∃ c,x=.bl c/\Q c H1
theorem qM6{e:Kt}{t:TE}(h:PE X e t)(b:∀ whole,isTrue e X.env whole=(do let v <- whole;standAt e.pos;holding [v] (truthy v)):=by intro _;rfl):PT X e (tB t):=by
 intro Ko s k H Q I c;refine isTrue_plain (thn (h Ko s k H _ I c) λ v i a=>?_) (b _);obtain⟨x,H1,I1,f,g⟩:=a;obtain⟨d,rfl,q⟩:=g;cases f;exact Jp ⟨H1,I1,q⟩
variable{n tB':TT}{rest:List Kt}
def tAnd(t u:TT):TT:=λ k H Q=>t k H λ c H1=>if c=true then u k H1 Q else Q false H1
def tOr(t u:TT):TT:=λ k H Q=>t k H λ c H1=>if c=true then Q true H1 else u k H1 Q
def tNot(t:TT):TT:=λ k H Q=>t k H λ c H1=>Q (!c) H1
theorem qM5(b:PT X a n):PW X (.BoolOp .And [a] pos) n:=by
 intro d Ko s k H Q I h;refine isTrue_and (thn (b Ko s k H Q I h) λ c f e=>?_);cases c with
 | true=>exact isTrue_and_nil e
 | false=>exact e
theorem qS9(b:PT X a n):PW X (.BoolOp .Or [a] pos) n:=by
 intro d Ko s k H Q I h;refine isTrue_or (thn (b Ko s k H Q I h) λ c f e=>?_);cases c with
 | false=>exact isTrue_or_nil e
 | true=>exact e
theorem qT0(f:PT X a n)(g:PW X (.BoolOp .And (b::rest) pos) tB'):PW X (.BoolOp .And (a::b::rest) pos) (tAnd n tB'):=by
 intro i Ko s k H Q I h;refine isTrue_and (thn (f Ko s k H _ I h) λ c j d=>?_);obtain⟨H1,I1,e⟩:=d;cases c with
 | true=>exact g i Ko j k H1 Q I1 e
 | false=>exact⟨H1,I1,e⟩
theorem pw_or(f:PT X a n)(g:PW X (.BoolOp .Or (b::rest) pos) tB'):PW X (.BoolOp .Or (a::b::rest) pos) (tOr n tB'):=by
 intro i Ko s k H Q I h;refine isTrue_or (thn (f Ko s k H _ I h) λ c j d=>?_);obtain⟨H1,I1,e⟩:=d;cases c with
 | true=>exact⟨H1,I1,e⟩
 | false=>exact g i Ko j k H1 Q I1 e
theorem qT1(b:PT X a n):PT X (.UnaryOp .Not a pos) (tNot n):=by
 intro Ko s k H Q I h;exact isTrue_not (b Ko s k H (λ c H1=>Q (!c) H1) I h)
end
def SqL(K:Mf)(H:Hp)(a:γ)(xs:List V):Prop :=
 Rd H a (.l xs) ∨
   ∃(o:Obj)(its:Array V')(n:Nat),K.lookup a=some o/\o.cls=.type "list" /\ o.dict=none/\o.data=.seq its n/\its.size<=Jk/\Mz xs its.toList
def SqT(K:Mf)(H:Hp)(a:γ)(xs:List V):Prop :=
 Rd H a (.q xs) ∨
   ∃(o:Obj)(its:Array V')(n:Nat),K.lookup a=some o/\o.cls=.type "tuple" /\ o.data=.seq its n/\its.size<=Jk/\Mz xs its.toList
noncomputable def absV:V'->Option V
 | .none=>some .non
 | .bool b=>some (.bl b)
 | .int i _=>some (.int i)
 | .str x _=>some (.str x)
 | .bytes b _=>some (.byt b)
 | .float b _=>some (.flt b)
 | .ref a=>some (.ref a)
 | .type n=>some (.ty n)
 | _=>none
theorem Mx.abs{x:V}{u:V'}(r:Mx x u):absV u=some x:=by
 cases x with
 | non=>cases r;rfl
 | bl _=>cases r;rfl
 | int _=>obtain⟨t,rfl⟩:=r;rfl
 | str _=>obtain⟨t,rfl⟩:=r;rfl
 | byt _=>obtain⟨t,rfl⟩:=r;rfl
 | flt _=>obtain⟨t,rfl⟩:=r;rfl
 | ref _=>cases r;rfl
 | ty _=>cases r;rfl
theorem Mx.inj{x y:V}{u:V'}(r:Mx x u)(q:Mx y u):x=y:=Mc (r.abs.symm.trans q.abs)
theorem Mz.inj{xs ys:List V}(h:Mz xs us)(g:Mz ys us):xs=ys:=by
 induction h generalizing ys with
 | nil=>cases g;rfl
 | cons r t i=>cases g with | cons q u=>rw[r.inj q,i u]
section
variable{X:Cx}{q:List (γ×Obj)}{m:St}{H:Hp}{s:Sh}{a:γ}{xs ys:List V}
theorem SqL.of{K:Mf}(h:H a=some (.l xs)):SqL K H a xs:=.inl (.inl h)
theorem M1.list(I:M1 X q m H s)(h:SqL X.K H a xs):∃ its:List V',Mz xs its/\PlainL s.heap a its.toArray/\xs.length<=Jk:=by
 rcases h with h | ⟨o,its,n,b,c,d,f,g,r⟩
 . obtain⟨z,its,n,r,e⟩:=h.ok I.hok
   exact⟨its,r,⟨_,n,e,rfl,rfl,rfl⟩,z⟩
 refine⟨its.toList,r,⟨o,n,I.kIn a o b,c,d,by simpa using f⟩,?_⟩;have e:=r.length
 grind
theorem M1.tuple(I:M1 X q m H s)(h:SqT X.K H a xs):∃ its:List V',Mz xs its/\IsTup s.heap a its.toArray/\xs.length<=Jk:=by
 rcases h with h | ⟨o,its,n,b,c,d,f,r⟩
 . obtain⟨z,its,r,p⟩:=h.ok I.hok
   exact⟨its,r,p,z⟩
 refine⟨its.toList,r,⟨o,I.kIn a o b,c,n,by simpa using d⟩,?_⟩;have e:=r.length;simp only[Array.length_toList] at e;lia
theorem M1.list_inj(I:M1 X q m H s)(h:SqL X.K H a xs)(h':SqL X.K H a ys):xs=ys:=by
 obtain⟨b,r,⟨o,n,e,_,_,d⟩,_⟩:=I.list h;obtain⟨its',g,⟨j,k,c,_,_,f⟩,_⟩:=I.list h';rw[e] at c;cases c;rw[d] at f;injection f with i _
 have:b=its':=by simpa using congrArg Array.toList i
 subst this;exact r.inj g
end
noncomputable abbrev Cx.wish(X:Cx)(E:V'->Sh->Prop):Cx:={ X with xe:=E }
abbrev Cx.nox(X:Cx):Cx:=X.wish λ _ _=>False
theorem Cx.Ok.wish{X:Cx}(a:X.Ok)(E:V'->Sh->Prop):(X.wish E).Ok :=
 ⟨a.mod,a.kind,a.glob,a.blt,a.above,a.inj,a.has,a.cab,a.hd,a.frames,a.stk,a.exf,a.bs,a.bsz,a.noex,a.exfs,a.funs,a.frf⟩
theorem Cx.Ok.unwish{X:Cx}{E:V'->Sh->Prop}(a:(X.wish E).Ok):X.Ok :=
 ⟨a.mod,a.kind,a.glob,a.blt,a.above,a.inj,a.has,a.cab,a.hd,a.frames,a.stk,a.exf,a.bs,a.bsz,a.noex,a.exfs,a.funs,a.frf⟩
section
variable{X:Cx}{c:List (γ×Obj)}{b:St}{H:Hp}{s:Sh}{E:V'->Sh->Prop}
theorem M1.wish(I:M1 X c b H s)(E:V'->Sh->Prop):M1 (X.wish E) c b H s:=⟨I.ok.wish E,I.os,I.bare,I.base,I.loc,I.cell,I.free,I.freeC,I.pin,I.hok,I.len⟩
theorem M1.unwish(I:M1 (X.wish E) c b H s):M1 X c b H s:=⟨I.ok.unwish,I.os,I.bare,I.base,I.loc,I.cell,I.free,I.freeC,I.pin,I.hok,I.len⟩
theorem SP.unwish{D:As}{f:Flow}{s':Sh}(h:SP (X.wish E) c D f s'):SP X c D f s':=by
 cases f with
 | next=>obtain⟨b',H',I,q⟩:=h;exact⟨b',H',I.unwish,q⟩
 | brk=>obtain⟨b',H',I,q⟩:=h;exact⟨b',H',I.unwish,q⟩
 | cont=>obtain⟨b',H',I,q⟩:=h;exact⟨b',H',I.unwish,q⟩
 | ret u=>obtain⟨v,b',H',I,r,q⟩:=h;exact⟨v,b',H',I.unwish,r,q⟩
theorem PSs.nox{st:List Ku}{t:TS}(h:PSs X.nox st t):PSs X st t:=λ c s b H D I a =>
 Jv (h c s b H D (I.wish _) a) (λ _ _ q=>q.unwish) λ _ _ z=>Mt z
end
section
variable{X:Cx}{st:Ku}{rest:List Ku}{t u:TS}{e:Kt}{te:TE}{n:Pos}
def tNext:TS:=λ D m H=>D.nx m H
def tSeq(t u:TS):TS:=λ D m H=>t { D with nx:=u D } m H
theorem qM8:PSs X [] tNext:=λ _ _ m H _ I h=>wpAny_execs_nil ⟨m,H,I,h⟩
theorem qn6(h1:PS X st t)(h2:PSs X rest u):PSs X (st::rest) (tSeq t u):=by
 intro Ko s m H D I h;refine wpAny_execs_cons (thn (h1 Ko s m H { D with nx:=u D } I h) λ f a q=>?_);cases f with
 | next =>
   obtain⟨m',H',I',q⟩:=q;exact h2 Ko a m' H' D I' q
 | ret v=>exact q
 | brk=>exact q
 | cont=>exact q
theorem qe8(h1:PS X st t):PSs X [st] t:=by
 intro Ko s m H D I h;refine wpAny_execs_cons (thn (h1 Ko s m H D I h) λ f a q=>?_);cases f with
 | next=>exact wpAny_execs_nil q
 | ret v=>exact q
 | brk=>exact q
 | cont=>exact q
theorem M1.quiet{Ko:List (γ×Obj)}{m:St}{H:Hp}{s:Sh}(I:M1 X Ko m H s):interactive X.env=false:=by simp[interactive,I.ok.kind]
def tDrop(te:TE):TS:=λ D m H=>te m H λ _ H1=>D.nx m H1
theorem qN1(a:PE X e te)(b:swapsWith e none n.line X.env=pure false:=by rfl):PS X (.Expr e n) (tDrop te):=by
 intro Ko s m H D I h;exact wpAny_Expr_any (thn (a Ko s m H _ I h) λ v d ⟨x,H1,I1,f,c⟩=>⟨m,H1,I1,c⟩) I.quiet b
def tRet(te:TE):TS:=λ D m H=>te m H D.rt
theorem qN0(a:PE X e te):PS X (.Return (some e) n) (tRet te):=by
 intro Ko s m H D I h;exact wpAny_Return_some (thn (a Ko s m H _ I h) λ v d ⟨x,H1,I1,b,c⟩=>⟨x,m,H1,I1,b,c⟩)
def tIfS(c:TT)(t u:TS):TS:=λ D m H=>c m H λ b H1=>if b=true then t D m H1 else u D m H1
theorem ps_if{c:Kt}{a b:List Ku}{f:TT}(j:PT X c f)(k:PSs X a t)(l:PSs X b u):PS X (.If c a b n) (tIfS f t u):=by
 intro Ko s m H D I h;refine wpAny_If (thn (j Ko s m H _ I h) λ d g e=>?_);obtain⟨H1,I1,i⟩:=e;cases d with
 | true=>exact k Ko g m H1 D I1 i
 | false=>exact l Ko g m H1 D I1 i
end
abbrev TG:=V->St->Hp->(St->Hp->Prop)->Prop
abbrev TGs:=List V->St->Hp->(St->Hp->Prop)->Prop
def PG(X:Cx)(target:Kt)(t:TG):Prop :=
 ∀(Ko:List (γ×Obj))(s:Sh)(a:St)(H:Hp)(v:V)(u:V')(Q:St->Hp->Prop),M1 X Ko a H s->Mx v u->t v a H Q ->
   J1 (J' X.prog X.w) X.A (assign target X.env u) (λ _ s'=>∃ a' H',M1 X Ko a' H' s'/\Q a' H') X.xe s
def PGs(X:Cx)(ts:List Kt)(t:TGs):Prop :=
 ∀(Ko:List (γ×Obj))(s:Sh)(a:St)(H:Hp)(vs:List V)(us:List V')(Q:St->Hp->Prop),M1 X Ko a H s->Mz vs us->t vs a H Q ->
   J1 (J' X.prog X.w) X.A (assignInOrder ((Jz ts X.env).map (·.2)) us) (λ _ s'=>∃ a' H',M1 X Ko a' H' s'/\Q a' H') X.xe s
abbrev Iu:=V->V->V->Hp->(Hp->Prop)->Prop
def PSet(X:Cx)(t:Iu):Prop :=
 ∀(Ko:List (γ×Obj))(s:Sh)(a:St)(H:Hp)(o i v:V)(ov iv u:V')(Q:Hp->Prop),M1 X Ko a H s->Mx o ov->Mx i iv->Mx v u->t o i v H Q ->
   J1 (J' X.prog X.w) X.A (setItem ov iv u) (λ _ s'=>∃ H',M1 X Ko a H' s'/\Q H') X.xe s
abbrev TIp:=V->V->Hp->VK->Prop
def PIp(X:Cx)(op:Operator)(t:TIp):Prop :=
 ∀(Ko:List (γ×Obj))(s:Sh)(a:St)(H:Hp)(x y:V)(v u:V')(Q:VK),M1 X Ko a H s->Mx x v->Mx y u->t x y H Q ->
   J1 (J' X.prog X.w) X.A (inplaceOp op v u) (EP X Ko a Q) X.xe s
section
variable{X:Cx}{pos:Pos}
def Ho(i:Nat):TG:=λ v R H Q=>Q (R.set i (some v)) H
theorem qE2{x:Str}(a:X.N.Nodup)(hi:X.N[i]? = some x)(b:Loc X.env.scope x)(c:X.fn x=true∨X.env.scope.names.lookup x=some .local:=by first | exact .inl rfl | exact .inr rfl | assumption):PG X (.Name x pos) (Ho i):=by
 intro Ko s R H v u Q I r h;exact wpAny_assign_Name (qn1 I a hi b r (λ d I'=>⟨_,H,I',h⟩) c)
def gNil:TGs:=λ vs R H Q=>vs=[]/\Q R H
def gCons(t:TG)(u:TGs):TGs:=λ vs R H Q=>∃ v r,vs=v::r/\t v R H λ R' H'=>u r R' H' Q
theorem qN6:PGs X [] gNil:=by
 intro Ko s R H a b Q I r h;obtain⟨e,h⟩:=h;subst e;cases r;exact assignInOrder_nil ⟨R,H,I,h⟩
theorem qG8{e:Kt}{es:List Kt}{t:TG}{u:TGs}(h1:PG X e t)(h2:PGs X es u)(a:(Jz (e::es) X.env).map (·.2)=assign e X.env::(Jz es X.env).map (·.2):=by rfl):PGs X (e::es) (gCons t u):=by
 intro Ko s R H g i Q I r h;obtain⟨v,j,b,h⟩:=h;subst b;cases r with
 | cons r c =>
   rw[a];exact assignInOrder_cons (thn (h1 Ko s R H _ _ _ I r h) λ _ d ⟨σ1,H1,I1,f⟩=>(h2 Ko d σ1 H1 _ _ Q I1 c f))
def gTup(K:Mf)(n:Nat)(t:TGs):TG:=λ v R H Q=>∃ a xs,v=.ref a/\SqT K H a xs/\xs.length=n/\t xs R H Q
def gSub(a b:TE)(t:Iu):TG:=λ v R H Q=>a R H λ o H1=>b R H1 λ i H2=>t o i v H2 λ H3=>Q R H3
theorem qT7{o i:Kt}{a b:TE}{t:Iu}(c:PE X o a)(hi:PE X i b)(d:PSet X t)(e:∀ v,assign (.Subscript o i pos) X.env v=(do
     let ov <- holding [v] (eval o X.env)
     let iv <- holding [v,ov] (eval i X.env)
     standAt pos
     holding [v,ov,iv] (setItem ov iv v)
     release [v,ov,iv] []):=by intro _;rfl):PG X (.Subscript o i pos) (gSub a b t):=by
 intro Ko s R H v u Q I r h;rw[e];exact D' (Jn (thn (c Ko s R H _ I h) λ ov f ⟨x,H1,I1,g,j⟩=>(D' (Jn (thn (hi Ko f R H1 _ I1 j) λ iv k ⟨y,H2,I2,l,q2⟩=>(D' (wpAny_standAt (D' (Jn (thn (d Ko k R H2 x y v ov iv u _ I2 g l r q2) λ _ n ⟨H3,I3,m⟩=>(wpAny_release ⟨R,H3,I3,m⟩)))))))))))
def tAsg(te:TE)(g:TG):TS:=λ D R H=>te R H λ x H1=>g x R H1 D.nx
theorem qT4{tg e:Kt}{te:TE}{g:TG}(b:PE X e te)(c:PG X tg g)(d:swapsWithSole [tg] e pos.line X.env=pure false:=by rfl)(f:swappedStores [tg] e X.env=pure none:=by rfl)(h1:(Jz [tg] X.env).map (·.2)=[assign tg X.env]:=by rfl):PS X (.Assign [tg] e pos) (tAsg te g):=by
 intro Ko s R H D I h;refine wpAny_Assign_stores (thn (b Ko s R H _ I h) λ v i a=>?_) d f;obtain⟨x,H1,I1,j,k⟩:=a;rw[h1];exact thn (c Ko i R H1 x v _ I1 j k) λ _ l q=>q
theorem qM9{x:Str}{e:Kt}{te:TE}{pos':Pos}(a:X.N.Nodup)(hi:X.N[i]? = some x)(b:Loc X.env.scope x)(c:PE X e te)(d:swapsWith e (some (.Name x pos')) pos.line X.env=pure false:=by rfl)(f:X.fn x=true∨X.env.scope.names.lookup x=some .local:=by first | exact .inl rfl | exact .inr rfl | assumption) :
   PS X (.Assign [.Name x pos'] e pos) (tAsg te (Ho i)):=by
 intro Ko s R H D I h;exact wpAny_Assign_Name (thn (c Ko s R H _ I h) λ v k ⟨y,H1,I1,g,j⟩=>(qn1 I1 a hi b g (λ l I2=>⟨_,H1,I2,j⟩) f)) d
def tAugS(b c te:TE)(tget:V->V->Hp->VK->Prop)(a:TIp)(tset:Iu):TS:=λ D R H=>b R H λ o H1=>c R H1 λ i H2=>tget o i H2 λ x H3=>te R H3 λ y H4=>a x y H4 λ z H5=>tset o i z H5 λ H6=>D.nx R H6
def PGet(X:Cx)(t:V->V->Hp->VK->Prop):Prop :=
 ∀(Ko:List (γ×Obj))(s:Sh)(R:St)(H:Hp)(o i:V)(ov iv:V')(Q:VK),M1 X Ko R H s->Mx o ov->Mx i iv->t o i H Q ->
   J1 (J' X.prog X.w) X.A (getItem ov iv) (EP X Ko R Q) X.xe s
theorem qN2{o i e:Kt}{g j te:TE}{tget:V->V->Hp->VK->Prop}{d:TIp}{tset:Iu}{op:Operator}{tpos:Pos}(p:PE X o g)(hi:PE X i j)(q:PGet X tget)(r:PE X e te)(t:PIp X op d)(u:PSet X tset)(w:∀ b c a,augStore i b c a=(do holding [a,b,c] (setItem b c a);release [a,b,c] [];pure .next):=by intros;rfl):PS X (.AugAssign (.Subscript o i tpos) op e pos) (tAugS g j te tget d tset):=by
 intro Ko s R H D I h;exact wpAny_AugAssign_SubscriptAny (thn (p Ko s R H _ I h) λ b x ⟨k,H1,I1,l,y⟩=>(thn (hi Ko x R H1 _ I1 y) λ c z ⟨m,H2,I2,n,q2⟩=>(thn (q Ko z R H2 k m b c _ I2 l n q2) λ f A ⟨B,H3,I3,C,E⟩=>(thn (r Ko A R H3 _ I3 E) λ v F ⟨G,H4,I4,J,K⟩=>(thn (t Ko F R H4 B G f v _ I4 C J K) λ a L ⟨M,H5,I5,N,O⟩=>(thn (u Ko L R H5 k m M b c a _ I5 l n N O) λ _ Q ⟨H6,I6,P⟩=>⟨R,H6,I6,P⟩)))))) w
def ipI(f:Int->Int->Int):TIp:=λ x y H Q=>∃ i j,x=.int i/\y=.int j/\Q (.int (f i j)) H
theorem qV7:PIp X .Add (ipI λ i j=>i+j):=by
 intro Ko s R H x y v u Q I a b h;obtain⟨i,j,c,d,q⟩:=h;subst c;subst d;obtain⟨t,rfl⟩:=a;obtain⟨e,rfl⟩:=b;exact iadd_int ⟨.int _,H,I.tok _,⟨_,rfl⟩,q⟩
end
structure It where
 go:Nat->Hp->Prop
 yld:Nat->Hp->V->Hp->Prop
 stop:Nat->Hp->Prop
def Bq(X:Cx)(Ko:List (γ×Obj))(H:Hp)(b:γ):Prop :=
 H b=none/\b≠X.env.locals/\b∉X.fs/\(b∈X.ex∨X.s₀.heap.objs.size<=b)/\(∀ x c,X.env.cells.lookup x=some c->c≠b)/\∀ p∈X.pn++Ko,p.1≠b
theorem M1.fpOk{X:Cx}{Ko:List (γ×Obj)}{g:St}{H H':Hp}{s:Sh}{b:γ}(I:M1 X Ko g H s)(a:s.heap.objs.size<=b)(d:H' b=none):Bq X Ko H' b:=by
 refine⟨d,Nat.ne_of_gt (zA8 I.lt a),I.nofs a,.inr (zAb I.sz a),λ x c e z=>?_,λ p f z=>?_⟩
 . obtain⟨v,q⟩:=I.cell x c e
   exact absurd (zA8 q.lt (by rw[z];exact a)) (zB8 _)
 exact absurd (zA8 (zA4 (I.pin p f).1) (by rw[z];exact a)) (zB8 _)
structure By(cl:Cx->Prop)(P:Kq)(w:Ks)(K:Mf)(tg:Kt)(J:It)(fp:List γ)(it:γ)(tn:Nat->Heap->Prop):Prop where
 mem:it∈fp
 obj:∀ i h,tn i h->∀ b∈fp,∃ o,h.get? b=some o/\∀ v,o.data≠.cell v
 keep:∀ i h h',tn i h->(∀ b∈fp,∀ o,h.get? b=some o->h'.get? b=some o)->tn i h'
 item:∀(X:Cx),X.prog=P->X.w=w->X.K=K->cl X->∀(i:Nat)(Ko:List (γ×Obj))(s:Sh)(a:St)(H:Hp)(E:V'->Sh->Prop),M1 X Ko a H s->(∀ b∈fp,Bq X Ko H b)->tn i s.heap->J.go i H ->
   J1 (J' P w) X.A (pyNext (.ref it)) (λ r s1=>∃ u,r=some u /\
     J1 (J' P w) X.A (letOwnedTupleGo tg (.ref it) u) (λ _ s2=>∃ x H',M1 X Ko a H' s2/\Mx x u/\J.yld i H x H'/\tn (i+1) s2.heap/\∀ b∈fp,H' b=none) E s1) E s
 done:∀(X:Cx),X.prog=P->X.w=w->X.K=K->cl X->∀(i:Nat)(Ko:List (γ×Obj))(s:Sh)(a:St)(H:Hp)(E:V'->Sh->Prop),M1 X Ko a H s->(∀ b∈fp,Bq X Ko H b)->tn i s.heap->J.stop i H ->
   J1 (J' P w) X.A (pyNext (.ref it)) (λ r s1=>r=none/\M1 X Ko a H s1) E s
 self:∀(A:Kr)(i:Nat)(s:Sh)(Q:V'->Sh->Prop)(E:V'->Sh->Prop),tn i s.heap->Q (.ref it) s->J1 (J' P w) A (pyIter (.ref it)) Q E s
noncomputable abbrev Turn:=By λ X=>X.calm=true
abbrev TI:=St->Hp->(It->Hp->Prop)->Prop
def PIEC(cl:Cx->Prop)(X:Cx)(Ko:List (γ×Obj))(c:St)(tg:Kt)(R:It->Hp->Prop)(a:V')(s2:Sh):Prop :=
 ∃(it:γ)(fp:List γ)(tn:Nat->Heap->Prop)(J:It)(H':Hp),a=.ref it/\M1 X Ko c H' s2/\By cl X.prog X.w X.K tg J fp it tn/\tn 0 s2.heap/\(∀ b∈fp,Bq X Ko H' b)/\R J H'
noncomputable abbrev PIE:=PIEC λ X=>X.calm=true
def PIC(cl:Cx->Prop)(X:Cx)(tg iter:Kt)(wi:TI):Prop :=
 ∀(Ko:List (γ×Obj))(s:Sh)(b:St)(H:Hp)(R:It->Hp->Prop),M1 X Ko b H s->wi b H R ->
   J1 (J' X.prog X.w) X.A (eval iter X.env) (λ v a=>J1 (J' X.prog X.w) X.A (pyIter v) (PIEC cl X Ko b tg R) X.xe a) X.xe s
noncomputable abbrev PI:=PIC λ X=>X.calm=true
theorem Iv{A:Kr}{E:V'->Sh->Prop}{s:Sh}{tg:Kt}{it:γ}{u:V'}{o:Obj}{n:String}{vs:Array V'}{Q:Unit->Sh->Prop}(b:s.heap.get? it=some o)(c:o.cls=.type n)(d:o.data=.fields vs)(e:["enumerate", "zip", "dict_itemiterator", "dict_reverseitemiterator", "odict_iterator", "itertools.zip_longest", "itertools.pairwise"].contains n=false)(a:Q () s):J1 M A (letOwnedTupleGo tg (.ref it) u) Q E s:=by
 unfold letOwnedTupleGo;cases tg<;>first
   | exact G' a
   | (cases u<;>first
       | exact G' a
       | (refine D' (wpAny_load b ?_)
          rw[c,d];show J1 M A (if (["enumerate", "zip", "dict_itemiterator", "dict_reverseitemiterator", "odict_iterator", "itertools.zip_longest", "itertools.pairwise"].contains n&&vs[0]? == some (rawInt _))=true then _ else _) Q E s;rw[if_neg (by grind)];exact G' a))
noncomputable def Itl(K:Mf)(a:γ):It :=
 ⟨λ i H=>∃ xs x,SqL K H a xs/\xs[i]? = some x,λ i H x H'=>H'=H/\∀ xs,SqL K H a xs->xs[i]? = some x,λ i H=>∃ xs,SqL K H a xs/\xs.length<=i⟩
noncomputable def Itr(lo:Int)(n:Nat):It:=⟨λ i _=>i < n,λ i H x H'=>H'=H/\x=.int (lo+i),λ i _=>n<=i⟩
theorem qA1{P:Kq}{w:Ks}{K:Mf}{tg:Kt}(a it:γ):Turn P w K tg (Itl K a) [it] it (λ i h=>h.IsListIter it a i) where
 mem:=by simp
 obj:=λ i h f b g=>by
   have e:b=it:=by simpa using g
   subst e;obtain⟨o,e,c,d⟩:=f;exact⟨o,e,λ v z=>by rw[d] at z;cases z⟩
 keep:=λ i h l f k=>f.at λ o e=>k it (by simp) o e
 item:=by
   intro X q r t M i Ko s T H E I m f y;subst q r t;obtain⟨N,x,n,A⟩:=y;obtain⟨B,C,p,O⟩:=I.list n;obtain⟨u,Q,R⟩:=C.get A;obtain⟨D,F,f2,G,J,L⟩:=m it (by simp);refine wpAny_pyNext_list_item f p.isList (x:=u) (by simpa using Q) λ l j S=>?_
   have I1:M1 X Ko T H { s with heap:=l }:=I.turned (t':=s.toks) (λ b o g e=>(S.2 b g).trans e) D F G J L;obtain⟨o,e,c,d⟩:=id j;exact⟨u,rfl,Iv (s:={ s with heap:=l }) e c d (by decide) ⟨x,H,I1,R,⟨rfl,λ Y U=>by rw[I.list_inj U n];exact A⟩,j,λ b g=>(m b g).1⟩⟩
 done:=by
   intro X q r t M i Ko s T H E I m f y;subst q r t;obtain⟨N,n,A⟩:=y;obtain⟨B,C,p,O⟩:=I.list n;obtain⟨D,F,f2,G,J,L⟩:=m it (by simp);have Z:=C.length;exact wpAny_pyNext_list_end (I.ok.hd M) f p.isList (by simp;lia) λ l V=>⟨rfl,I.turned (t':=s.toks) (λ b o g e=>V b o g e) D F G J L⟩
 self:=λ _ _ _ _ _ f h=>wpAny_pyIter_listiter f h
theorem qt5{P:Kq}{w:Ks}{K:Mf}{tg:Kt}(it:γ)(lo:Int)(n:Nat):Turn P w K tg (Itr lo n) [it] it (λ i h=>IsRangeIter h it (lo+(i:Nat) * 1) ((n:Int) - (i:Nat)) 1) where
 mem:=by simp
 obj:=λ i h a b c=>by
   have e:b=it:=by simpa using c
   subst e;exact⟨_,a,λ v z=>by
     cases (z)⟩
 keep:=λ i h g a k=>k it (by simp) _ a
 item:=by
   intro X x y A j i Ko s G H E I f a l;subst x y A;obtain⟨m,p,f2,q,r,u⟩:=f it (by simp);have W:=Walks.range (prog:=X.prog) (w:=X.w) (I.ok.hd j) it lo 1 n;refine W.item i s _ _ l a λ v g B C d D=>?_
   obtain⟨t,rfl⟩:=C;have I1:M1 X Ko G H { s with heap:=g,toks:=B }:=I.turned (λ b o c e=>D b o (by simpa using c) e) m p q r u;refine⟨_,rfl,Iv d rfl rfl (by decide) ⟨.int (lo+i),H,I1,⟨t,?_⟩,⟨rfl,rfl⟩,d,λ b c=>(f b c).1⟩⟩;rw[Int.mul_one]
 done:=by
   intro X x y A j i Ko s G H E I f a l;obtain⟨m,p,f2,q,r,u⟩:=f it (by simp);exact wpAny_pyNext_range_end (I.ok.hd j) a (by have:n<=i:=l;lia) λ g F=>⟨rfl,I.turned (λ b o c e=>F b o c e) m p q r u⟩
 self:=λ _ _ _ _ _ a h=>wpAny_pyIter_rangeiter a h
section
variable{X:Cx}{tg:Kt}
def iList(K:Mf)(tl:TE):TI:=λ σ H R=>tl σ H λ x H1=>∃ a,x=.ref a/\(∃ xs,SqL K H1 a xs)/\R (Itl K a) H1
theorem qN5{l:Kt}{tl:TE}(f:PE X l tl):PI X tg l (iList X.K tl):=by
 intro Ko s σ H R I h;refine thn (f Ko s σ H _ I h) λ v c d=>?_
 obtain⟨x,H1,I1,g,i⟩:=d;obtain⟨a,e,⟨n,j⟩,q⟩:=i;subst e;cases g;obtain⟨k,r,p,t⟩:=I1.list j;refine wpAny_pyIter_list p.isList ?_;refine⟨c.heap.objs.size,[c.heap.objs.size],_,_,H1,rfl,I1.kept λ b o e=>zA1 _ e,qA1 a _,⟨_,zAl _ rfl,rfl,rfl⟩,λ b m=>?_,q⟩;have e:b=c.heap.objs.size:=by simpa using m
 subst e;exact I1.fpOk (zA6 _) (I1.hok.fresh (zA6 _))
theorem qG4{Ko:List (γ×Obj)}{σ:St}{H:Hp}{s:Sh}{R:It->Hp->Prop}{E:V'->Sh->Prop}{lo hi:Int}{t u v:Tok}{a:Nat}(I:M1 X Ko σ H s)(h1:-(2 ^ 62)<=lo)(h2:lo < 2 ^ 62)(c:-(2 ^ 62)<=hi)(d:hi < 2 ^ 62)(q:R (Itr lo (hi - lo).toNat) H):J1 (J' X.prog X.w) X.A (pyIter (.ref s.heap.objs.size)) (PIE X Ko σ tg R) E { s with heap:=s.heap.push { cls:=.type "range",data:=.fields #[.int lo t,.int hi u,.int 1 v] },toks:=a }:=by
 refine wpAny_pyIter_range (IsRange.new ..) (small_one h1 h2 c d) ?_;have I1:M1 X Ko σ H { s with heap:=s.heap.push { cls:=.type "range",data:=.fields #[.int lo t,.int hi u,.int 1 v] },toks:=a }:=I.kept λ b o e=>zA1 _ e
 refine⟨(s.heap.push { cls:=.type "range",data:=.fields #[.int lo t,.int hi u,.int 1 v] }).objs.size,[(s.heap.push { cls:=.type "range",data:=.fields #[.int lo t,.int hi u,.int 1 v] }).objs.size],_,_,H,rfl,
   I1.kept λ b o e=>zA1 _ e,qt5 _ lo (hi - lo).toNat,?_,λ b f=>?_,q⟩
 . have g:lo+((0:Nat):Int) * 1=lo:=by simp
   have h:(((hi - lo).toNat:Nat):Int) - ((0:Nat):Int)=Builtin.Range.rangeSize lo hi 1:=by rw[rangeSize_one];split<;>grind
   rw[g,h];exact zAl _ rfl
 have e:b=(s.heap.push { cls:=.type "range",data:=.fields #[.int lo t,.int hi u,.int 1 v] }).objs.size:=by simpa using f
 subst e;exact I1.fpOk (zA6 _) (I1.hok.fresh (zA6 _))
def iRng1(ta:TA):TI:=λ σ H R=>ta σ H λ vs H1=>∃ j:Int,vs=[.int j]/\-(2 ^ 62)<=j/\j < 2 ^ 62/\R (Itr 0 j.toNat) H1
theorem qB0{a:Kt}{ta:TA}{p pos:Pos}(d:Gl X "range")(f:X.mg "range" = none)(g:PA X [a] ta)(i:Jj [a] X.env=[(false,eval a X.env)]:=by rfl):PI X tg (.Call (.Name "range" p) [a] [] pos) (iRng1 ta):=by
 intro Ko s σ H R I h;refine Call_ (qx3 I d f boot_range (PyProof.Rows.callWith_type1 (thn (g pos Ko s σ H _ I h) λ m n b=>?_) i rfl));obtain⟨o,H1,I1,k,c⟩:=b;obtain⟨j,e,c,q2,q⟩:=c;subst e;cases k with
 | cons r l =>
   cases l;obtain⟨t,rfl⟩:=r;exact call_range_1 (qG4 I1 (by lia) (by lia) c q2 (by simpa using q))
def tFor(wi:TI)(g:TG)(tb:TS):TS:=λ D σ H=>wi σ H λ J H1=>∃ W:Nat->Nat->St->Hp->Prop,(∃ m,W 0 m σ H1)/\∀ i m σ H,W i m σ H ->
 (J.stop i H/\D.nx σ H)∨(J.go i H/\∃ N:St->Hp->Prop,(∀ σ' H',N σ' H'->∃ a,a < m/\W (i+1) a σ' H')/\∀ x H',J.yld i H x H'->g x σ H' λ σ2 H2=>tb { D with nx:=N,ct:=N,bk:=D.nx } σ2 H2)
noncomputable def qv7(fp:List γ)(h:Heap):List (γ×Obj):=fp.filterMap λ b=>(h.get? b).map λ o=>(b,o)
theorem qf3{h:Heap}{b:γ}{o:Obj}(a:b∈fp)(e:h.get? b=some o):(b,o)∈qv7 fp h:=List.mem_filterMap.mpr ⟨b,a,by rw[e];rfl⟩
theorem qB2{h:Heap}{p:γ×Obj}(a:p∈qv7 fp h):p.1∈fp/\h.get? p.1=some p.2:=by
 obtain⟨b,c,e⟩:=List.mem_filterMap.mp a;cases q:h.get? b with
 | none=>rw[q] at e;cases e
 | some o =>
   rw[q] at e;have d:=Mc e;subst d;exact⟨c,q⟩
theorem M1.pinned{Ko:List (γ×Obj)}{σ:St}{H:Hp}{s:Sh}(I:M1 X Ko σ H s)(f:∀ b∈fp,Bq X Ko H b)(g:∀ b∈fp,∃ o,s.heap.get? b=some o/\∀ v,o.data≠.cell v):M1 X (Ko++qv7 fp s.heap) σ H s :=
 I.pins_of λ p h=>(zAf.mp h).elim (λ z=>I.pin p (zAq _ z)) λ z=>by
   obtain⟨a,e⟩:=qB2 z;obtain⟨i,j,f2,_⟩:=f p.1 a;obtain⟨o,c,d⟩:=g p.1 a;rw[e] at c;cases c;exact⟨e,i,j,f2,d⟩
theorem M1.unpinned{Ko a:List (γ×Obj)}{σ:St}{H:Hp}{s:Sh}(I:M1 X (Ko++a) σ H s):M1 X Ko σ H s:=I.pins_of λ p b=>I.pin p (zAq _ (Kz _ b))
theorem qE1{cl:Cx->Prop}{iter:Kt}{wi:TI}{g:TG}{tb:TS}{pos:Pos}(l:PassesOwn (J' X.prog X.w) X.A X.env X.xe)(F:cl X)(hi:PIC cl X tg iter wi)(O:PG X tg g)(c:PSs X body tb)(P:∀ x,Jm iter X.env x=pure x:=by intro _;rfl):PS X (.For tg iter body [] pos) (tFor wi g tb):=by
 intro Ko s σ H D I h;refine wpAny_For (thn (hi Ko s σ H _ I h) λ v s1 Q=>thn Q λ R s2 S=>?_) P;obtain⟨it,p,G,J,H2,e,I2,T,z,f2,W,⟨U,V⟩,turn⟩:=S;subst e;have stat:∀{H':Hp},(∀ b∈p,H' b=none)->∀ b∈p,Bq X Ko H' b:=λ Y b c=>⟨Y b c,(f2 b c).2⟩
 refine codeAny_forLoop_any (λ n K=>∃ i σ' H',M1 X Ko σ' H' K/\G i K.heap/\(∀ b∈p,H' b=none)/\W i n σ' H') ?_ U ⟨0,σ,H2,I2,z,λ b c=>(f2 b c).1,V⟩;rintro n L ⟨i,σ3,H3,I3,q,t,Z⟩;rcases turn i n σ3 H3 Z with⟨stop,qn⟩ | ⟨go,N,hN,step⟩
 . refine Jx l (thn (T.done X rfl rfl rfl F i Ko L σ3 H3 X.xe I3 (stat t) q stop) λ r s4 a=>?_)
   obtain⟨B,I4⟩:=a;subst B;exact wpAny_execs_nil ⟨σ3,H3,I4,qn⟩
 refine Jx l (thn (T.item X rfl rfl rfl F i Ko L σ3 H3 X.xe I3 (stat t) q go) λ r s4 a=>?_);obtain⟨u,B,h4⟩:=a;subst B;refine Jx l (thn h4 λ _ M a=>?_);obtain⟨x,H5,I5,r5,y5,k,C⟩:=a;have I5':=I5.pinned (stat C) (T.obj _ _ k);refine Jx l (thn (O _ M σ3 H5 x u _ I5' r5 (step x H5 y5)) λ _ s6 a=>?_);obtain⟨σ6,H6,I6,q6⟩:=a;refine Jx l (thn (c _ s6 σ6 H6 _ I6 q6) λ f E j=>?_);have again:∀{σ7:St}{H7:Hp},M1 X (Ko++qv7 p M.heap) σ7 H7 E->N σ7 H7->∃ m,m < n/\∃ i σ' H',M1 X Ko σ' H' E/\G i E.heap/\(∀ b∈p,H' b=none)/\W i m σ' H':=λ{σ7 H7} I7 y=>by
   obtain⟨m',hm,w7⟩:=hN σ7 H7 y;refine⟨m',hm,i+1,σ7,H7,I7.unpinned,T.keep _ _ _ k λ b c o e=>(I7.pin (b,o) (zAq _ (zAq _ (qf3 c e)))).1,λ b c=>?_,w7⟩;obtain⟨o,e,d⟩:=T.obj _ _ k b c;exact(I7.pin (b,o) (zAq _ (zAq _ (qf3 c e)))).2.1
 cases f with
 | next=>obtain⟨σ7,H7,I7,y⟩:=j;exact again I7 y
 | cont=>obtain⟨σ7,H7,I7,y⟩:=j;exact again I7 y
 | brk=>obtain⟨σ7,H7,I7,j⟩:=j;exact⟨σ7,H7,I7.unpinned,j⟩
 | ret v=>obtain⟨x7,σ7,H7,I7,r7,j⟩:=j;exact⟨x7,σ7,H7,I7.unpinned,r7,j⟩
theorem qT3{iter:Kt}{wi:TI}{g:TG}{tb:TS}{pos:Pos}(a:PassesOwn (J' X.prog X.w) X.A X.env X.xe)(b:X.calm=true)(hi:PI X tg iter wi)(c:PG X tg g)(d:PSs X body tb)(e:∀ x,Jm iter X.env x=pure x:=by intro _;rfl):PS X (.For tg iter body [] pos) (tFor wi g tb):=qE1 a b hi c d e
end
theorem qC0{lo:Int}{n:Nat}{g:TG}{tb:TS}{D:As}{j:St}{H:Hp}(Pv:Nat->St->Hp->Prop)(h0:Pv 0 j H)(c:∀ i j H,i < n->Pv i j H->g (.int (lo+i)) j H λ σ2 H2=>tb { D with nx:=Pv (i+1),ct:=Pv (i+1),bk:=D.nx } σ2 H2)(d:∀ j H,Pv n j H->D.nx j H) :
   ∃ W:Nat->Nat->St->Hp->Prop,(∃ m,W 0 m j H)/\∀ i m j H,W i m j H ->
     ((Itr lo n).stop i H/\D.nx j H)∨((Itr lo n).go i H/\∃ N:St->Hp->Prop,(∀ j' H',N j' H'->∃ b,b < m/\W (i+1) b j' H')/\∀ x H',(Itr lo n).yld i H x H'->g x j H' λ σ2 H2=>tb { D with nx:=N,ct:=N,bk:=D.nx } σ2 H2):=by
 refine⟨λ i m j H=>m=n - i/\i<=n/\Pv i j H,⟨n,by simp,Nat.zero_le _,h0⟩,?_⟩;rintro i m j H ⟨rfl,h,p⟩;by_cases a:i < n
 . refine .inr ⟨a,Pv (i+1),λ j' H' f=>⟨n - (i+1),by grind -abstractProof,rfl,a,f⟩,λ x H' y=>?_⟩
   obtain⟨e,y⟩:=y;subst e y;exact c i j _ a p
 have e:i=n:=by grind -abstractProof
 subst e;exact .inl ⟨zA6 _,d j H p⟩
abbrev R2:=V->V->Hp->VK->Prop
def OpR(X:Cx)(f:V'->V'->Sem V')(r:R2):Prop :=
 ∀(Ko:List (γ×Obj))(s:Sh)(a:St)(H:Hp)(x y:V)(v u:V')(Q:VK),M1 X Ko a H s->Mx x v->Mx y u->r x y H Q ->
   J1 (J' X.prog X.w) X.A (f v u) (EP X Ko a Q) X.xe s
def UnR(X:Cx)(f:V'->Sem V')(r:V->Hp->VK->Prop):Prop :=
 ∀(Ko:List (γ×Obj))(s:Sh)(a:St)(H:Hp)(x:V)(v:V')(Q:VK),M1 X Ko a H s->Mx x v->r x H Q ->
   J1 (J' X.prog X.w) X.A (f v) (EP X Ko a Q) X.xe s
def CallR(X:Cx)(f:V')(r:List V->Hp->VK->Prop):Prop :=
 ∀(Ko:List (γ×Obj))(s:Sh)(a:St)(H:Hp)(xs:List V)(us:List V')(Q:VK),M1 X Ko a H s->Mz xs us->r xs H Q ->
   J1 (J' X.prog X.w) X.A (call f us) (EP X Ko a Q) X.xe s
def tOp(r:R2)(ta tb:TE):TE:=λ a H Q=>ta a H λ x H1=>tb a H1 λ y H2=>r x y H2 Q
def tUn(r:V->Hp->VK->Prop)(ta:TE):TE:=λ a H Q=>ta a H λ x H1=>r x H1 Q
def rI(C:Int->Int->Prop)(g:Int->Int->V):R2:=λ x y H Q=>∃ i j,x=.int i/\y=.int j/\C i j/\Q (g i j) H
def rI0(g:Int->Int->V):R2:=λ x y H Q=>∃ i j,x=.int i/\y=.int j/\Q (g i j) H
def rU(g:Int->V):V->Hp->VK->Prop:=λ x H Q=>∃ i,x=.int i/\Q (g i) H
section
variable{X:Cx}{a b:Kt}{m o:TE}{n:Pos}
theorem binT(c:PE X a m)(d:PE X b o){Ko:List (γ×Obj)}{s:Sh}{l:St}{H:Hp}{R:V->V->Hp->Prop}(I:M1 X Ko l H s)(h:m l H λ x H1=>o l H1 λ y H2=>R x y H2){Q:V'->Sh->Prop}{f:V'->V'->Sem V'}(e:∀ v u s2 x y H2,M1 X Ko l H2 s2->Mx x v->Mx y u->R x y H2->J1 (J' X.prog X.w) X.A (f v u) Q X.xe s2) :
   J1 (J' X.prog X.w) X.A (eval a X.env) (λ v s₁=>J1 (J' X.prog X.w) X.A (eval b X.env) (λ u s₂=>J1 (J' X.prog X.w) X.A (f v u) Q X.xe s₂) X.xe s₁) X.xe s:=by
 exact thn (c Ko s l H _ I h) λ v g ⟨x,H1,I1,i,j⟩=>(thn (d Ko g l H1 _ I1 j) λ u s2 ⟨y,H2,I2,k,q2⟩=>(e v u s2 x y H2 I2 i k q2))
theorem pe_op{op:Operator}{r:R2}(c:OpR X (J0 op) r)(d:PE X a m)(e:PE X b o):PE X (.BinOp a op b n) (tOp r m o):=by
 intro Ko s l H Q I h;exact wpAny_BinOp (binT d e I h λ v u f x y H2 I2 g i q=>c Ko f l H2 x y v u Q I2 g i q)
theorem pe_un{op:UnaryOp}{r:V->Hp->VK->Prop}(b:UnR X (unaryOp op) r)(c:PE X a m):PE X (.UnaryOp op a n) (tUn r m):=by
 intro Ko s l H Q I h;exact UnaryOp_ (thn (c Ko s l H _ I h) λ v d ⟨x,H1,I1,e,f⟩=>b Ko d l H1 x v Q I1 e f)
theorem opI{f:V'->V'->Sem V'}{C:Int->Int->Prop}{g:Int->Int->Int}(rule:∀(i j:Int)(t u:Tok)(s:Sh)(Q:V'->Sh->Prop)(E:V'->Sh->Prop),C i j->Q (.int (g i j) s.toks) { s with toks:=s.toks+1 }->J1 (J' X.prog X.w) X.A (f (.int i t) (.int j u)) Q E s) :
   OpR X f (rI C λ i j=>.int (g i j)):=by
 intro Ko s l H x y v u Q I a b h;obtain⟨i,j,rfl,rfl,c,q⟩:=h;obtain⟨t,rfl⟩:=a;obtain⟨d,rfl⟩:=b;exact rule i j t d s _ _ c ⟨.int (g i j),H,I.tok _,⟨_,rfl⟩,q⟩
theorem opI0{f:V'->V'->Sem V'}{g:Int->Int->Int}(rule:∀(i j:Int)(t u:Tok)(s:Sh)(Q:V'->Sh->Prop)(E:V'->Sh->Prop),Q (.int (g i j) s.toks) { s with toks:=s.toks+1 }->J1 (J' X.prog X.w) X.A (f (.int i t) (.int j u)) Q E s) :
   OpR X f (rI0 λ i j=>.int (g i j)):=by
 intro Ko s l H x y v u Q I a b h;obtain⟨i,j,rfl,rfl,q⟩:=h;obtain⟨t,rfl⟩:=a;obtain⟨c,rfl⟩:=b;exact rule i j t c s _ _ ⟨.int (g i j),H,I.tok _,⟨_,rfl⟩,q⟩
theorem opB0{f:V'->V'->Sem V'}{g:Int->Int->Bool}(rule:∀(i j:Int)(t u:Tok)(s:Sh)(Q:V'->Sh->Prop)(E:V'->Sh->Prop),Q (.bool (g i j)) s->J1 (J' X.prog X.w) X.A (f (.int i t) (.int j u)) Q E s) :
   OpR X f (rI0 λ i j=>.bl (g i j)):=by
 intro Ko s l H x y v u Q I a b h;obtain⟨i,j,rfl,rfl,q⟩:=h;obtain⟨t,rfl⟩:=a;obtain⟨c,rfl⟩:=b;exact rule i j t c s _ _ ⟨.bl (g i j),H,I,rfl,q⟩
def CPow(i j:Int):Prop:=0<=j/\j<=1000000/\i.natAbs < 2 ^ 64
def CMul(i j:Int):Prop:=(-(2 ^ 64) < i/\i < 2 ^ 64)∨(-(2 ^ 64) < j/\j < 2 ^ 64)
theorem CMul.ok{i j:Int}(h:CMul i j):IntMulOk i j:=by
 rcases h with⟨h1,h2⟩ | ⟨h1,h2⟩
 . exact .of_left (intBits_le_64 h1 h2)
 exact .of_right (intBits_le_64 h1 h2)
theorem qU8:OpR X (J0 .Add) (rI0 λ i j=>.int (i+j)):=opI0 λ _ _ _ _ _ _ _ q=>add_int q
theorem qU6:OpR X (J0 .Mult) (rI CMul λ i j=>.int (i * j)):=opI λ _ _ _ _ _ _ _ a q=>mul_int q a.ok
theorem qk7:OpR X (J0 .Mod) (rI (λ _ j=>0 < j) λ i j=>.int (i % j)):=opI λ i j _ _ _ _ _ a q=>by
 have b:=a;exact mod_int' (by lia) (by rw[Int.fmod_eq_emod_of_nonneg i (by lia)];exact q)
theorem qU5:OpR X (J0 .Pow) (rI CPow λ i j=>.int (i ^ j.toNat)):=opI λ _ _ _ _ _ _ _ a q=>pow_int_small a.1 a.2.1 a.2.2 q
theorem unI{f:V'->Sem V'}{g:Int->Int}(rule:∀(i:Int)(t:Tok)(s:Sh)(Q:V'->Sh->Prop)(E:V'->Sh->Prop),Q (.int (g i) s.toks) { s with toks:=s.toks+1 }->J1 (J' X.prog X.w) X.A (f (.int i t)) Q E s) :
   UnR X f (rU λ i=>.int (g i)):=by
 intro Ko s l H x v Q I a h;obtain⟨i,rfl,q⟩:=h;obtain⟨t,rfl⟩:=a;exact rule i t s _ _ ⟨.int (g i),H,I.tok _,⟨_,rfl⟩,q⟩
theorem qS2:UnR X (unaryOp .USub) (rU λ i=>.int (-i)):=unI λ _ _ _ _ _ q=>neg_int q
end
section
variable{X:Cx}{a b c:Kt}{C B:TE}{A:Pos}
theorem op_lt:OpR X (Jl .Lt) (rI0 λ i j=>.bl (decide (i < j))):=opB0 λ _ _ _ _ _ _ _ q=>lt_int q
theorem op_gt:OpR X (Jl .Gt) (rI0 λ i j=>.bl (decide (j < i))):=opB0 λ _ _ _ _ _ _ _ q=>gt_int q
theorem op_ge:OpR X (Jl .GtE) (rI0 λ i j=>.bl (decide (j<=i))):=opB0 λ _ _ _ _ _ _ _ q=>ge_int q
theorem OpR.or{f:V'->V'->Sem V'}{r a:R2}(h:OpR X f r)(h':OpR X f a):OpR X f (λ x y H Q=>r x y H Q∨a x y H Q):=by
 intro Ko s w H x y v u Q I b c q;rcases q with q | q
 . exact h Ko s w H x y v u Q I b c q
 exact h' Ko s w H x y v u Q I b c q
theorem qb3(b:Kt)(h:op≠.In:=by decide)(h2:op≠.NotIn:=by decide):behindInMarks op b=false:=by
 have a:(op == CmpOp.In)=false:=by grind
 have c:(op == CmpOp.NotIn)=false:=by grind
 cases b<;>simp[behindInMarks,a,c]
theorem qO4{r:R2}(c:OpR X (Jl op) r)(d:PE X a C)(e:PE X b B)(f:behindInMarks op b=false):PE X (.Compare a [op] [b] A) (tOp r C B):=by
 intro Ko s w H Q I h;exact wpAny_Compare1 (binT d e I h λ v u g x y H2 I2 i j q=>c Ko g w H2 x y v u Q I2 i j q) f
def tTest(t:TE):TT:=λ w H Q=>t w H λ x H'=>∃ k,x=.bl k/\Q k H'
theorem qM7{r:R2}(d:OpR X (Jl op) r)(f:PE X a C)(g:PE X b B)(i:behindInMarks op b=false):PT X (.Compare a [op] [b] A) (tTest (tOp r C B)):=by
 intro Ko s w H Q I h;refine wpAny_isTrue_Compare1 (thn (f Ko s w H _ I h) λ v j ⟨x,H1,I1,l,m⟩=>thn (g Ko j w H1 _ I1 m) λ u n ⟨y,H2,I2,o,q2⟩ =>
   thn (d Ko n w H2 x y v u _ I2 l o q2) λ c t ⟨z,H3,I3,p,k,e,q⟩=>?_) i
 subst e;cases p;exact Jp ⟨H3,I3,q⟩
theorem qo2:(Jk:Nat) < 2 ^ 63:=by rw[Jr];decide
theorem qw1:OpR X (J0 .Add) (λ x y H Q=>∃ i j,x=.str i/\y=.str j/\i.length+j.length<=Jk/\Q (.str (i++j)) H):=by
 intro Ko s w H x y v u Q I a b h;obtain⟨i,j,rfl,rfl,c,q⟩:=h;obtain⟨t,rfl⟩:=a;obtain⟨d,rfl⟩:=b;exact add_str (λ d e=>⟨.str (i++j),H,I.tok _,⟨_,rfl⟩,q⟩) c
theorem Hq{x:V}(r:Mz [x] us):∃ u,us=[u]/\Mx x u:=by
 cases r with
 | cons a b=>cases b;exact⟨_,rfl,a⟩
theorem vals2{x y:V}(r:Mz [x,y] us):∃ u a,us=[u,a]/\Mx x u/\Mx y a:=by
 cases r with
 | cons b c =>
   cases c with
   | cons d e=>cases e;exact⟨_,_,rfl,b,d⟩
theorem qK4:CallR X (.builtin "abs") (λ xs H Q=>∃ i,xs=[.int i]/\Q (.int (if i < 0 then -i else i)) H):=by
 intro Ko s w H xs a Q I r h;obtain⟨i,rfl,q⟩:=h;obtain⟨u,rfl,t,rfl⟩:=Hq r;exact call_abs_int λ u b=>⟨.int (if i < 0 then -i else i),H,I.tok _,⟨_,rfl⟩,q⟩
end
structure ObjM(h:Heap)(x dx C:γ)(mA:Str->Option V'):Prop where
 obj:h.get? x=some (W.instObj C dx)
 ns:h.Ns1 dx mA
 ne:dx≠x
theorem qg6{h:Heap}{dx:γ}{c:Str->Option V'}(n:h.Ns1 dx c):∃ od,h.get? dx=some od/\∀ name,W.lookIn name od=some (c name):=by
 obtain⟨o,d,m,f,g,i,_,j⟩:=n;refine⟨o,f,λ name=>?_⟩;have e:=j name;unfold nsFind findBy at e;rw[<- Array.find?_toList] at e;unfold W.lookIn;rw[g];dsimp only;split
 . rename_i y q
   rw[q] at e;exact congrArg some e
 rename_i q
 rw[q] at e;have a:d.toList.any (·.refKey)=false:=by
   rw[List.any_eq_false];intro y k;obtain⟨z,t,b⟩:=i y (Array.mem_toList_iff.mp k);simp[DictEntry.refKey,b]
 have l:¬ d.toList.any (·.refKey)=true:=by rw[a];exact zA7
 rw[if_neg l];exact congrArg some e
theorem ObjM.look{h:Heap}{x dx C:γ}{a:Str->Option V'}(I:ObjM h x dx C a):∃ od,W.InstAt h x (W.instObj C dx) C (some od)/\∀ name,W.lookIn name od=some (a name) :=
 let ⟨od,ho,hl⟩:=qg6 I.ns
 ⟨od,⟨I.obj,rfl,rfl,ho⟩,hl⟩
noncomputable def Au(f:Str)(v:V):List (Str×V)->List (Str×V)
 | []=>[(f,v)]
 | (g,x)::r=>if g=f then (g,v)::r else (g,x)::Au f v r
theorem qj2(f g:Str)(v:V):∀ fs:List (Str×V),(Au f v fs).lookup g=if g=f then some v else fs.lookup g
 | []=>by
   show Ky g [(f,v)]=_;by_cases h:g=f
   . have b:=zB4.mpr h
     simp only[Ky,b,if_pos h]
   simp only[Ky,(zB1.mpr h),if_neg h]
 | (k,x)::r=>by
   rw[show Au f v ((k,x)::r)=(if k=f then (k,v)::r else (k,x)::Au f v r) from rfl];by_cases a:k=f
   . rw[if_pos a]
     by_cases h:g=k
     . simp only[Ky,(zB4.mpr h),if_pos (h.trans a)]
     simp only[Ky,(zB1.mpr h),if_neg (λ e:g=f=>h (e.trans a.symm))]
   rw[if_neg a];by_cases h:g=k
   . simp only[Ky,(zB4.mpr h),if_neg (λ e:g=f=>a (h.symm.trans e))]
   simp only[Ky,(zB1.mpr h)];exact(qj2 f g v r)
theorem ql0(f:Str)(v:V):∀ fs:List (Str×V),f∈(Au f v fs).map (·.1)/\∀ g,g∈fs.map (·.1)->g∈(Au f v fs).map (·.1)
 | []=>⟨by simp[Au],λ g h=>by simp at h⟩
 | (k,x)::r=>by
   obtain⟨b,c⟩:=ql0 f v r;rw[show Au f v ((k,x)::r)=(if k=f then (k,v)::r else (k,x)::Au f v r) from rfl];by_cases a:k=f
   . rw[if_pos a]
     subst a;exact⟨by simp,λ g h=>by simpa using h⟩
   rw[if_neg a];refine⟨?_,λ g h=>?_⟩
   . rw[zB7]
     exact zA5 _ b
   rw[zB7] at h ⊢;rcases zAm.mp h with e | e
   . exact zAm.mpr (.inl e)
   exact zA5 _ (c g e)
theorem qj3(f:Str)(v:V):∀ fs:List (Str×V),(Au f v fs).length<=fs.length+1
 | []=>by simp[Au]
 | (k,x)::r=>by
   have b:=qj3 f v r;rw[show Au f v ((k,x)::r)=(if k=f then (k,v)::r else (k,x)::Au f v r) from rfl];by_cases a:k=f
   . rw[if_pos a,zAo,zAo];lia
   rw[if_neg a,zAo,zAo];lia
theorem RelO.some_of{v:V}{o:Option V'}(r:RelO (some v) o):∃ u,o=some u/\Mx v u:=by
 cases o with
 | none=>exact(show False from r).elim
 | some u=>exact⟨u,rfl,r⟩
theorem qB8{v:V}{u:V'}(r:Mx v u):W.handedIn u=true:=by
 cases v with
 | non=>cases (show u=Ly from r);rfl
 | bl b=>cases (show u=L6 b from r);rfl
 | int i=>obtain⟨t,e⟩:=(show ∃ t,u=Lz i t from r);cases e;rfl
 | str x=>obtain⟨t,e⟩:=(show ∃ t,u=L8 x t from r);cases e;rfl
 | byt b=>obtain⟨t,e⟩:=(show ∃ t,u=Ma b t from r);cases e;rfl
 | flt b=>obtain⟨t,e⟩:=(show ∃ t,u=L9 b t from r);cases e;rfl
 | ref a=>cases (show u=Lx a from r);rfl
 | ty n=>cases (show u=L7 n from r);rfl
section
variable{P:Kq}{w:Ks}{H:Hp}{h:Heap}{a C j:γ}{fs:List (Str×V)}
theorem qQ0(c:HOk P w H h)(e:H a=some (.ins C j fs)):∃ b,ObjM h a j C b/\(∀ f,RelO (fs.lookup f) (b f))/\PySem.Within b (fs.map (·.1))/\fs.length<=1000/\H j=some (.own a):=by
 obtain⟨d,z,g,i,b,n,r,q⟩:=(show ObjOk P w H h a (.ins C j fs) from c a _ e)
 exact⟨b,⟨i,n,g⟩,r,q,z,d⟩
end
structure Cls(K:Mf)(C:γ):Prop where
 pg:W.plainGet K C Str.empty=true
 hd:W.hasDictIn K C=true
 po:W.plainOver K C=true
 sa:W.findIn K (.ref C) "__setattr__" = some (some (.builtin "object.__setattr__"))
theorem Cls.get{K:Mf}{C:γ}(c:Cls K C)(f:Str):W.plainGet K C f=true:=c.pg
def qc2(K:Mf)(C:γ)(f:Str):Prop:=W.findIn K (.ref C) f=some none
structure Meth(K:Mf)(C:γ)(m:Str)(f:γ):Prop where
 at_:W.findIn K (.ref C) m=some (some (.ref f))
 fn:W.isFn K (.ref f)=true
 kp:W.keepIn K (.ref f)=true
section
variable{s:Sh}{f:Str}{A:Kr}{E:V'->Sh->Prop}
theorem qR7{prog:Kq}{w:Ks}{env:Env}{e:Kt}{f:Str}{pos:Pos}{s:Sh}{Q:V'->Sh->Prop}(a:Jq e f env (eval e env)=eval e env)(h:J1 (J' prog w) A (eval e env) (λ o s₁=>J1 (J' prog w) A (getAttr o f true) Q E s₁) E s):J1 (J' prog w) A (eval (.Attribute e f pos) env) Q E s :=
 Attribute_any_ h (by rw[arm_eval_Attribute,a])
end
section
variable{X:Cx}{F:List (γ×Obj)}{D:St}{H:Hp}{s:Sh}{A:Kr}{E Q:V'->Sh->Prop}{c:V'}{b:Bool}
inductive Bc(K:Mf)(H:Hp):V->V'->Prop where
 | non:Bc K H .non (.type "NoneType")
 | bl (x:Bool):Bc K H (.bl x) (.type "bool")
 | int (i:Int):Bc K H (.int i) (.type "int")
 | str (x:Str):Bc K H (.str x) (.type "str")
 | flt (x:UInt64):Bc K H (.flt x) (.type "float")
 | l {a:γ} {xs:List V} (e:H a=some (.l xs)):Bc K H (.ref a) (.type "list")
 | frz {a:γ} {o:Obj} {xs:List V} (e:H a=some (.frz o (.l xs))):Bc K H (.ref a) (.type "list")
 | q {a:γ} {xs:List V} (e:H a=some (.q xs)):Bc K H (.ref a) (.type "tuple")
 | dK {a:γ} {kvs:List (Key×V)} (e:H a=some (.dK kvs)):Bc K H (.ref a) (.type "dict")
 | dT {a:γ} {kvs:List (List Key×V)} (e:H a=some (.dT kvs)):Bc K H (.ref a) (.type "dict")
 | ins {a C dx:γ} {fs:List (Str×V)} (e:H a=some (.ins C dx fs)) (cl:Cls K C) (ha:W.findIn K (.ref C) "__class__" = some (some (.builtin "object.__class__")))
     (hn:W.specialIn K (.builtin "object.__class__") "__get__" = some (some (.builtin "getset_descriptor.__get__"))) (htk:W.takesIn K (.builtin "object.__class__")=some true)
     (hm:W.mroIn K C (.type "object")=some true):Bc K H (.ref a) (.ref C)
theorem qB5{x:V}{u t:V'}(I:M1 X F D H s)(d:Mx x u)(ty:Bc X.K H x t)(e:Me X.K t c=some b)(h:∀ k,Q (.bool b) { s with toks:=k }) :
   J1 (J' X.prog X.w) A (call (.builtin "isinstance") [u,c]) Q E s:=by
 cases ty with
 | non=>cases (show u=Ly from d);exact W.kia_one W.kitx_none I.kIn True.intro e (λ z=>nomatch z) h
 | bl y=>cases (show u=L6 y from d);exact W.kia_one W.kitx_bool I.kIn True.intro e (λ z=>nomatch z) h
 | int i=>obtain⟨t,q⟩:=(show ∃ t,u=Lz i t from d);cases q;exact W.kia_one W.kitx_int I.kIn True.intro e (λ z=>nomatch z) h
 | str y=>obtain⟨t,q⟩:=(show ∃ t,u=L8 y t from d);cases q;exact W.kia_one W.kitx_str I.kIn True.intro e (λ z=>nomatch z) h
 | flt y=>obtain⟨t,q⟩:=(show ∃ t,u=L9 y t from d);cases q;exact W.kia_one W.kitx_float I.kIn True.intro e (λ z=>nomatch z) h
 | @l a g ea =>
   cases (show u=Lx a from d);obtain⟨_,_,n,_,f⟩:=(show ObjOk X.prog X.w H s.heap a (.l g) from I.hok a _ ea)
   exact W.kia_one W.kitx_list I.kIn ⟨_,f,rfl⟩ e (λ z=>nomatch z) h
 | @frz a ob g ea =>
   cases (show u=Lx a from d);obtain⟨_,_,_,n,_,f⟩:=(show ObjOk X.prog X.w H s.heap a (.frz ob (.l g)) from I.hok a _ ea)
   exact W.kia_one W.kitx_list I.kIn ⟨_,f,rfl⟩ e (λ z=>nomatch z) h
 | @q a g ea =>
   cases (show u=Lx a from d);obtain⟨_,_,_,p⟩:=(show ObjOk X.prog X.w H s.heap a (.q g) from I.hok a _ ea)
   obtain⟨o,f,j,_⟩:=p;exact W.kia_one W.kitx_tuple I.kIn ⟨o,f,j⟩ e (λ z=>nomatch z) h
 | @dK a kvs ea =>
   cases (show u=Lx a from d);obtain⟨_,_,r,_,p⟩:=(show ObjOk X.prog X.w H s.heap a (.dK kvs) from I.hok a _ ea)
   obtain⟨o,l,m,f,j,_⟩:=p;exact W.kia_one W.kitx_dict I.kIn ⟨o,f,j.1⟩ e (λ z=>nomatch z) h
 | @dT a kvs ea =>
   cases (show u=Lx a from d);obtain⟨_,_,g,_,o,l,m,f,j,_⟩:=(show ObjOk X.prog X.w H s.heap a (.dT kvs) from I.hok a _ ea)
   exact W.kia_one W.kitx_dict I.kIn ⟨o,f,j.1⟩ e (λ z=>nomatch z) h
 | @ins a C dx fs ea cl ha hn htk hm =>
   cases (show u=Lx a from d);obtain⟨v,O,_⟩:=qQ0 I.hok ea;obtain⟨B,J,_⟩:=O.look;exact W.kia_one (W.kitx_own (cl.get _) cl.hd ha hn htk hm) I.kIn J e (λ z=>nomatch z) h
end
abbrev HdK:=Option (Option V')
noncomputable def hdk(b:Bool):HdK:=cond b (some none) none
instance coeHdK:Coe Bool HdK:=⟨hdk⟩
noncomputable def HdK.calm:HdK->Bool
 | some none=>true
 | _=>false
theorem HdK.calm_eq:∀{cm:HdK},cm.calm=true->cm=some none
 | none,h=>nomatch h
 | some none,_=>rfl
 | some (some _),h=>nomatch h
structure M4(cm:HdK)(k:Nat)(A:Kr):Prop where
 hd:∀ v,cm=some v->A.handled=v
 dp:A.depth+3 * k+5 < recursionLimit
 un:A.units+16 * k+200 < cLine
abbrev Hd:=M4 true
theorem M4.mono{cm:HdK}{j k:Nat}{A:Kr}(r:M4 cm k A)(h:j<=k):M4 cm j A:=⟨r.hd,by have:=r.dp;grind -abstractProof,by have:=r.un;grind -abstractProof⟩
theorem M4.deeper{cm:HdK}{k:Nat}{A:Kr}(r:M4 cm (k+1) A)(env:Env):M4 cm k (A.deeper env) :=
 ⟨r.hd,by have:=r.dp;show A.depth+1+3 * k+5 < _;lia,by have:=r.un;show A.units+3+16 * k+200 < _;lia⟩
theorem qw9{A:Kr}{C:γ}{a:List (Str×V')}:(A.under (.builtin "type.__call__" ⟨.ref C::us,a⟩)).depth=A.depth+1:=by
 first | rfl | simp[Around.under,Code.weight,Code.isCreation,Code.isGuard,Code.isCaller,Code.frames,Code.isFrame,guardIds]
theorem qw8{A:Kr}{C:γ}{a:List (Str×V')}:(A.under (.builtin "type.__call__" ⟨.ref C::us,a⟩)).units=A.units+1:=by
 first | rfl | simp[Around.under,Code.cUnits,Code.frames,Code.isFrame]
theorem M4.make{cm:HdK}{k:Nat}{A:Kr}(r:M4 cm (k+1) A)(C:γ)(us:List V')(a:List (Str×V')):M4 cm k (A.under (.builtin "type.__call__" ⟨.ref C::us,a⟩)) :=
 ⟨r.hd,by have:=r.dp;rw[qw9];lia,by have:=r.un;rw[qw8];lia⟩
theorem M4.depth{cm:HdK}{k:Nat}{A:Kr}(r:M4 cm k A):A.depth < recursionLimit:=by have:=r.dp;lia
theorem M4.units{cm:HdK}{k:Nat}{A:Kr}(r:M4 cm k A):A.units+64 < cLine:=by have:=r.un;grind -abstractProof
def tNil:TA:=λ _ H Q=>Q [] H
def tCons(ta:TE)(tr:TA):TA:=λ a H Q=>ta a H λ x H1=>tr a H1 λ xs H2=>Q (x::xs) H2
section
variable{X:Cx}{e:Kt}{o:List Kt}{te:TE}{t:TA}{n:Pos}
theorem qh3:PA X [] tNil:=λ _ _ _ _ H Q I h=>Calls.spliced_nil ⟨[],H,I,.nil,h⟩
theorem qb8(a:PE X e te)(b:PA X o t)(c:Jj (e::o) X.env=(false,eval e X.env)::Jj o X.env:=by rfl):PA X (e::o) (tCons te t):=by
 intro n Ko s m H Q I h;rw[c];exact Calls.spliced_cons (thn (a Ko s m H _ I h) λ u d ⟨x,H1,I1,f,g⟩=>(thn (b n Ko d m H1 _ I1 g) λ k l ⟨i,H2,I2,j,q2⟩=>⟨x::i,H2,I2,.cons f j,q2⟩))
def tTup(t:TA):TE:=λ m H Q=>t m H λ xs H1=>xs.length<=Jk/\∀ p,H1 p=none->Q (.ref p) (upd H1 p (.q xs))
def tLst(t:TA):TE:=λ m H Q=>t m H λ xs H1=>xs.length<=Jk/\∀ p,H1 p=none->Q (.ref p) (upd H1 p (.l xs))
theorem qT8{x1}(h:PA X o t):PE X (.Tuple o x1 n) (tTup t):=by
 intro Ko s m H Q I d;refine wpAny_Tuple_spliced (thn (h n Ko s m H _ I d) λ f c a=>?_);obtain⟨g,H1,I1,r,z,q⟩:=a;refine⟨by rw[<- r.length];exact z,?_⟩;refine⟨.ref c.heap.objs.size,upd H1 c.heap.objs.size (.q g),I1.laid (λ b u e=>zA1 _ e) (zA6 _) ?_,rfl,q _ (I1.hok.fresh (zA6 _))⟩;exact⟨z,f,r,⟨_,zAl _ rfl,rfl,_,rfl⟩⟩
theorem qH0(h:PA X o t):PE X (.List o n) (tLst t):=by
 intro Ko s m H Q I d;refine wpAny_List_spliced (thn (h n Ko s m H _ I d) λ f c a=>?_);obtain⟨g,H1,I1,r,z,q⟩:=a;refine⟨by rw[<- r.length];exact z,?_⟩;refine⟨.ref c.heap.objs.size,upd H1 c.heap.objs.size (.l g),I1.laid (λ b u e=>zA1 _ e) (zA6 _) ?_,rfl,q _ (I1.hok.fresh (zA6 _))⟩;exact⟨z,f,0,r,zAl _ rfl⟩
end
abbrev Sp:=List V->Hp->VK->XK->Prop
abbrev CXT:=List Env->Hp->Sh->XK->V'->Sh->Prop
structure Env0(P:Kq)(w:Ks)(K:Mf)(mg:Str->Option V')(base:Heap)(A:Kr)(outer:List Env)(s:Sh)(H:Hp):Prop where
 frames:A.frames=some outer
 mod:Mod K mg base
 bs:∀ b o,base.get? b=some o->s.heap.get? b=some o/\H b=none
 bsz:base.objs.size<=s.heap.objs.size
 funs:s.heap.FunFrames base outer
 frf:∀ b∈frs outer,H b=none
 hok:HOk P w H s.heap
 bare:AllBare s.gens
def CE(outer:List Env)(P:Kq)(w:Ks)(H:Hp)(s:Sh)(Q:VK)(u:V')(s':Sh):Prop :=
 ∃ v H',s'.os=s.os/\AllBare s'.gens/\Un (frs outer) [] H H' s.heap s'.heap/\HOk P w H' s'.heap/\Mx v u/\Q v H'
def CR(CX:CXT)(outer:List Env)(P:Kq)(w:Ks)(H:Hp)(s:Sh)(Q:VK)(E:XK)(r:Result)(s':Sh):Prop :=
 match r with
 | .ok (.ret u)=>CE outer P w H s Q u s'
 | .ok _=>False
 | .error e=>CX outer H s E e s'
structure Al(cm:HdK)(P:Kq)(w:Ks)(K:Mf)(mg:Str->Option V')(base:Heap)(CX:CXT)(k:Nat)(f:γ)(fd:δ)(ps:List Str)(sp:Sp):Prop where
 len:∀ vs H Q E,sp vs H Q E->vs.length=ps.length
 run:∀(A:Kr)(outer:List Env)(s:Sh)(H:Hp)(args:Args)(us:List V')(vs:List V)(Q:VK)(E:XK),M4 cm k A->Env0 P w K mg base A outer s H->BindsTo s fd args (ps.zip us)->Mz vs us->sp vs H Q E ->
   codeAny (J' P w) A (.call (.ref f) args) (CR CX outer P w H s Q E) s
abbrev Bm:=Al true
theorem Env0.make{P:Kq}{w:Ks}{K:Mf}{A:Kr}{outer:List Env}{s:Sh}{H:Hp}(e:Env0 P w K mg base A outer s H)(C:γ)(us:List V')(a:List (Str×V')) :
   Env0 P w K mg base (A.under (.builtin "type.__call__" ⟨.ref C::us,a⟩)) outer s H:=⟨by first | exact e.frames | (simpa[Around.under,Code.envs,Code.isFrame,pushEnvs] using e.frames),e.mod,e.bs,e.bsz,e.funs,e.frf,e.hok,e.bare⟩
section
variable{X:Cx}{k:List (γ×Obj)}{j:St}{H:Hp}{s s':Sh}
theorem M1.env0(I:M1 X k j H s):Env0 X.prog X.w X.K X.mg X.base X.A X.stack s H :=
 ⟨I.ok.frames,I.ok.mod,I.bs,zAb I.ok.bsz I.sz,I.stack,I.stkFree,I.hok,I.bare⟩
theorem M1.after{Q:VK}{u:V'}(I:M1 X k j H s)(h:CE X.stack X.prog X.w H s Q u s'):EP X k j Q u s':=by
 obtain⟨v,H',e,bare,f,a,r,q⟩:=h;obtain⟨i,g,d,t,c⟩:=s';obtain rfl:c=s.os:=e;exact⟨v,H',I.call f a bare (λ b z=>absurd z (by simp)),r,q⟩
end
def Iw(sp:Sp)(dvs:List V)(E:St->XK)(t:TA):TE:=λ a H Q=>t a H λ vs H1=>sp (vs++dvs) H1 Q (E a)
def Binds(K:Mf)(fd:δ)(ps:List Str)(ds:List V'):Prop :=
 ∀(s:Sh)(us:List V'),K.In s.heap->(us++ds).length=ps.length->BindsTo s fd ⟨us,[]⟩ (ps.zip (us++ds))
theorem Binds.all{K:Mf}{fd:δ}{ps:List Str}(h:∀ us:List V',us.length=ps.length->bindArgs fd ⟨us,[]⟩=pure (ps.zip us)):Binds K fd ps []:=λ s us _ a=>by
 rw[zAh] at a ⊢;exact .of_eq (h us a)
def qD1(CX:CXT)(X:Cx)(E:St->XK):Prop:=∀(Ko:List (γ×Obj))(a:St)(H:Hp)(s:Sh)(e:V')(s':Sh),M1 X Ko a H s->CX X.stack H s (E a) e s'->X.xe e s'
section
variable{X:Cx}{cm:HdK}{CX:CXT}{k:Nat}{f:γ}{L:δ}{G:List Str}{sp:Sp}{B:List V}{ds:List V'}{E:St->XK}{x:Str}{p C:Pos}{e:Kt}{D:List Kt}{t:TA}
theorem qS8{Ko:List (γ×Obj)}{z:St}{H:Hp}{s:Sh}{Q:VK}{vs:List V}(F:Al cm X.prog X.w X.K X.mg X.base CX k f L G sp)(c:M4 cm k X.A)(d:Binds X.K L G ds)(g:Mz B ds)(i:qD1 CX X E)(I:M1 X Ko z H s)(r:Mz vs us)(h:sp (vs++B) H Q (E z)):J1 (J' X.prog X.w) X.A (call (.ref f) us) (EP X Ko z Q) X.xe s:=by
 have b:=r.append g;have j:(us++ds).length=G.length:=by rw[<- b.length];exact F.len _ _ _ _ h
 refine wpAny_call (codeAny_mono (F.run X.A X.stack s H ⟨us,[]⟩ (us++ds) (vs++B) Q (E z) c I.env0 (d s us I.kIn j) b h) λ r l a=>?_);cases r with
 | error e=>exact i Ko z H s e l I a
 | ok m =>
   cases m with
   | ret u=>exact I.after a
   | next=>exact Mt a
   | brk=>exact Mt a
   | cont=>exact Mt a
theorem qv9(F:Al cm X.prog X.w X.K X.mg X.base CX k f L G sp)(c:M4 cm k X.A)(d:Gl X x)(g:X.mg x=some (.ref f))(i:W.keepIn X.K (.ref f)=true)(j:Binds X.K L G ds)(l:Mz B ds)(m:qD1 CX X E)(n:PA X (e::D) t)(a:N' x:=by decide)(o:Jj (e::D) X.env=(false,eval e X.env)::Jj D X.env:=by rfl)(b:(backTo C (Jj D X.env)).any (·.1)=false:=by rfl) :
   PE X (.Call (.Name x p) (e::D) [] C) (Iw sp B E t):=by
 intro Ko s z H Q I h;exact wpAny_Call_Name_kw (qh6 I d g (W.callWith_K (h₀:=X.base) I.ok.mod.kin i (thn (n C Ko s z H _ I h) λ u v ⟨y,H1,I1,r,q⟩=>⟨I1.kIn,(qS8 F c j l m I1 r q)⟩) o b) a)
end
structure qb2(N P:List Str)(sc:Scope):Prop where
 kind:sc.kind=.function
 co:sc.isCoroutine=false
 gen:sc.isGenerator=false
 nd:N.Nodup
 pre:N.take P.length=P
 par:∀ x∈P,sc.names.lookup x=some .local∨sc.names.lookup x=some .cell
 nofree:∀ y∈sc.names,y.2≠.free
theorem qq9{Kw:Str->Option NameKind}{x:Str}:∀{binds:List (Str×V')}{m:Str->Option V'},(∀ v,(x,v)∉binds)->bindL Kw binds m x=m x
 | [],_,_=>rfl
 | (n,v)::r,m,h=>by
   unfold bindL;rw[qq9 λ w a=>h w (zA5 _ a)];split
   . have:x≠n:=by rintro rfl;exact h v zAe
     simp[this]
   rfl
theorem qr1{Kw:Str->Option NameKind}{x:Str}:∀{binds:List (Str×V')}{m:Str->Option V'},(∀ v,(x,v)∉binds)->bindC Kw binds m x=m x
 | [],_,_=>rfl
 | (n,v)::r,m,h=>by
   unfold bindC;rw[qr1 λ w a=>h w (zA5 _ a)];split
   . rfl
   have:x≠n:=by rintro rfl;exact h v zAe
   simp[this]
theorem qr0{Kw:Str->Option NameKind}{x:Str}{v:V'}:∀{P:List Str}{vs:List V'}{i:Nat}{m:Str->Option V'},P.Nodup->P[i]? = some x->vs[i]? = some v->Kw x=some .local ->
   bindL Kw (P.zip vs) m x=some v
 | [],_,_,_,_,h,_,_=>by simp at h
 | _::_,[],_,_,_,_,h,_=>by simp at h
 | p::P,w::vs,0,m,nd,h1,h2,hk=>by
   simp at h1 h2;subst h1;subst h2;show bindL Kw ((p,w)::P.zip vs) m p=_;unfold bindL;rw[qq9 λ v a=>(List.nodup_cons.mp nd).1 (Lj a).1,if_pos hk];simp
 | p::P,w::vs,i+1,m,nd,h1,h2,hk=>by
   show bindL Kw ((p,w)::P.zip vs) m x=_;unfold bindL;exact qr0 (i:=i) (List.nodup_cons.mp nd).2 (by simpa using h1) (by simpa using h2) hk
theorem qr2{Kw:Str->Option NameKind}{x:Str}{v:V'}:∀{P:List Str}{vs:List V'}{i:Nat}{m:Str->Option V'},P.Nodup->P[i]? = some x->vs[i]? = some v->Kw x≠some .local ->
   bindC Kw (P.zip vs) m x=some v
 | [],_,_,_,_,h,_,_=>by simp at h
 | _::_,[],_,_,_,_,h,_=>by simp at h
 | p::P,w::vs,0,m,nd,h1,h2,hk=>by
   simp at h1 h2;subst h1;subst h2;show bindC Kw ((p,w)::P.zip vs) m p=_;unfold bindC;rw[qr1 λ v a=>(List.nodup_cons.mp nd).1 (Lj a).1,if_neg hk];simp
 | p::P,w::vs,i+1,m,nd,h1,h2,hk=>by
   show bindC Kw ((p,w)::P.zip vs) m x=_;unfold bindC;exact qr2 (i:=i) (List.nodup_cons.mp nd).2 (by simpa using h1) (by simpa using h2) hk
noncomputable def start(N:List Str)(vs:List V):St:=vs.map some++Kx (N.length - vs.length) none
def Ay(cm:HdK)(CX:CXT)(P:Kq)(w:Ks)(K:Mf)(mg:Str->Option V')(base:Heap)(N:List Str)(qual:Str)(scope:Scope)(f:γ)(b:V')(A:Kr)(outer:List Env)(s:Sh)(H:Hp)(E:XK):Cx where
 prog:=P
 w:=w
 K:=K
 mg:=mg
 base:=base
 A:=A.deeper (envOfC qual scope s.heap.objs.size f b)
 N:=N
 s₀:=s
 H₀:=H
 env:=envOfC qual scope s.heap.objs.size f b
 outer:=outer
 stack:=envOfC qual scope s.heap.objs.size f b::outer
 ex:=[]
 calm:=cm.calm
 fn:=λ _=>true
 pn:=[]
 xe:=λ e s'=>J1 (J' P w) (A.deeper (envOfC qual scope s.heap.objs.size f b)) (leaving (envOfC qual scope s.heap.objs.size f b) e) (λ _ a=>CX outer H s E e a) (λ c a=>CX outer H s E c a) s'
theorem qz4{sc:Scope}{n:Nat}{x:Str}(h:sc.names.lookup x=some .cell):∃ c,(cellsFrom n sc.names []).lookup x=some c:=by
 exact zAy.mp (W.cellsFrom_some sc.names n [] (.inl h))
theorem qB6{cm:HdK}{CX:CXT}{P:Kq}{w:Ks}{K:Mf}{ps:List Str}{qual:Str}{scope:Scope}{f:γ}{t:V'}{A:Kr}{outer:List Env}{s D:Sh}{H:Hp}{E:XK}{vs:List V}(S:qb2 N ps scope)(I:∀ v,cm=some v->A.handled=v)(g:Env0 P w K mg base A outer s H)(O:vs.length=ps.length)(r:Mz vs us)(x:InCallC s s.heap.objs.size (bindL (envOfC qual scope s.heap.objs.size f t).kindOf (ps.zip us) λ _=>none) (cellsFrom (s.heap.objs.size+1) scope.names []) (bindC (envOfC qual scope s.heap.objs.size f t).kindOf (ps.zip us) λ _=>none) D) :
   M1 (Ay cm CX P w K mg base N qual scope f t A outer s H E) [] (start N vs) H D:=by
 have J:ps.length<=N.length:=by have:=congrArg Lm S.pre;rw[La] at this;lia
 obtain⟨B,Q,rfl,F⟩:=x.done;have j:∀ b:γ,b∉(Ay cm CX P w K mg base N qual scope f t A outer s H E).ex:=λ b z=>absurd (show b∈([]:List γ) from z) (by simp)
 refine⟨⟨g.mod,S.kind,rfl,rfl,zA6 _,λ y z c B d=>?_,λ y l=>?_,λ y c _ h=>?_,(λ z=>I none (HdK.calm_eq z)),Around.frames_deeper g.frames,.inr ⟨rfl,rfl⟩,λ b z=>absurd z (j b),g.bs,g.bsz,λ b _ _=>j b,λ b z=>absurd z (j b),g.funs,g.frf⟩,
   rfl,g.bare,Un.kept F,⟨_,x.toInCall.ns,λ i y v B d R=>?_⟩,λ y c h=>⟨_,x.cell y c h⟩,g.hok.fresh (zA6 _),λ y c h=>?_,λ p m=>absurd (show p∈([]:List (γ×Obj)) from m) (by simp),g.hok.kept F,?_⟩
 . exact name_of_addr x.apart (PySem.mem_of_lookup B) (PySem.mem_of_lookup d)
 . have l:scope.names.lookup y=some .cell∨scope.names.lookup y=some .free:=l
   rcases l with l | l
   . exact qz4 l
   exact absurd rfl (S.nofree _ (PySem.mem_of_lookup l))
 . exact Nat.le_of_lt (x.above y c (PySem.mem_of_lookup h))
 . have C:i < vs.length:=by
     unfold start at d;by_cases C:i < vs.length
     . exact C
     rw[zB3 (by simpa using C)] at d;rw[List.getElem?_replicate] at d;split at d<;>cases d
   have L:vs[i]? = some v:=by
     unfold start at d;rw[zA9 (by simpa using C),zB0] at d;cases e:vs[i]? with
     | none=>rw[e] at d;cases d
     | some a=>rw[e] at d;cases d;rfl
   obtain⟨u,G,M⟩:=r.get L;have m:ps[i]? = some y:=by
     rw[<- S.pre,List.getElem?_take_of_lt (by lia)];exact B
   have o:ps.Nodup:=by rw[<- S.pre];exact S.nd.sublist (List.take_sublist _ _)
   refine⟨u,M,?_⟩;rcases S.par y (List.mem_of_getElem? m) with k | k
   . exact .inl ⟨k,qr0 o m G k⟩
   obtain⟨c,e⟩:=qz4 (n:=s.heap.objs.size+1) k;refine .inr ⟨.inl k,c,e,?_⟩;have q:=x.cell y c e;rw[qr2 o m G (by show scope.names.lookup y≠_;rw[k];decide)] at q;exact q
 . exact g.hok.fresh (Nat.le_of_lt (x.above y c (PySem.mem_of_lookup h)))
 unfold start;show _=N.length;rw[zAk,zAv,List.length_replicate];lia
theorem Hr{cm:HdK}{CX:CXT}{P:Kq}{w:Ks}{K:Mf}{k:Nat}{f:γ}{name qual:Str}{params:Arguments}{scope:Scope}{B kV d C a D L:V'}{F od:Option γ}{i:Array (Option V')}{ps:List Str}{sp:Sp}(M:K.lookup f=some ⟨L,od,.func (W.fnOf name qual params body scope B kV d C F a D),i⟩)(j:W.codeIn K a qual=true)(S:qb2 N ps scope)(len:∀ vs H Q E,sp vs H Q E->vs.length=ps.length)(hbody:∀(A:Kr)(outer:List Env)(s:Sh)(H:Hp)(vs:List V)(Q:VK)(E:XK),M4 cm k (A.deeper (envOfC qual scope s.heap.objs.size f a))->sp vs H Q E ->
     ∃ t,PSs (Ay cm CX P w K mg base N qual scope f a A outer s H E) body t/\t { nx:=λ _ H'=>Q .non H',rt:=Q } (start N vs) H) :
   Al cm P w K mg base CX (k+1) f (W.fnOf name qual params body scope B kV d C F a D) ps sp:=by
 refine⟨len,λ A outer s H args O vs Q E l g R r h=>?_⟩;have T:=len _ _ _ _ h;have KX:K.In s.heap:=g.mod.kin.keeps λ b o e=>(g.bs b o e).1
 have m:s.heap.NoLimit:=g.mod.nolimit.keeps λ b o e=>(g.bs b o e).1
 have hkind:∀ y∈ps.zip O,scope.names.lookup y.1=some .local∨(scope.names.lookup y.1=some .cell/\((cellsFrom (s.heap.objs.size+1) scope.names []).lookup y.1).isSome=true):=λ ⟨n,v⟩ U=>by
   rcases S.par n (Lj U).1 with q | q
   . exact .inl q
   exact .inr ⟨q,W.cellsFrom_some _ _ _ (.inl q)⟩
 refine codeAny_call_function l.depth (KX _ _ M) rfl S.co S.gen rfl (W.codeRec_of KX j) (R _ _ _ _ ?_);refine wpAny_newFunctionEnv_cells S.kind hkind λ X Y G x=>?_
 subst Y;refine⟨m.keeps x.toInCall.keep,codeAny_func ?_⟩;obtain⟨t,Z,hq⟩:=hbody A outer s H vs Q E (l.deeper _) h;have I:M1 (Ay cm CX P w K mg base N qual scope f a A outer s H E) [] (start N vs) H G:=qB6 S l.hd g T r x;refine Jv (Z [] G (start N vs) H _ I hq) (λ fl p c=>?_) λ e p c=>c
 have fin:∀{σ':St}{H':Hp}{v:V}{u:V'},M1 (Ay cm CX P w K mg base N qual scope f a A outer s H E) [] σ' H' p->Mx v u->Q v H'->CE outer P w H s Q u p :=
   λ{σ' H' v u} J z q=>⟨v,H',J.os,J.bare,J.base,J.hok,z,q⟩
 cases fl with
 | ret u =>
   obtain⟨v,σ',H',J,z,q⟩:=c;exact fin J z q
 | next =>
   obtain⟨σ',H',J,q⟩:=c;exact fin (v:=V.non) (u:=Ly) J rfl q
 | brk =>
   obtain⟨_,_,_,q⟩:=c;exact Mt q
 | cont =>
   obtain⟨_,_,_,q⟩:=c;exact Mt q
section
variable{X:Cx}{x:Str}{p u:Pos}{e:Kt}{v:List Kt}{t:TA}{w:String}{r:List V->Hp->VK->Prop}
def tCB(r:List V->Hp->VK->Prop)(t:TA):TE:=λ q H Q=>t q H λ vs H1=>r vs H1 Q
theorem qH2(c:CallR X (.builtin w) r)(d:Gl X x)(f:X.mg x=none)(hv:Jo x=some (.builtin w))(g:PA X (e::v) t)(i:x ≠ "__name__" := by decide)(a:N' x:=by decide)(j:Jj (e::v) X.env=(false,eval e X.env)::Jj v X.env:=by rfl)(b:(backTo u (Jj v X.env)).any (·.1)=false:=by rfl):PE X (.Call (.Name x p) (e::v) [] u) (tCB r t):=by
 intro Ko s q H Q I h;exact wpAny_Call_Name_kw (qx3 I d f hv (PyProof.Rows.callWith_builtin1 (thn (g u Ko s q H _ I h) λ k l ⟨m,H1,I1,n,o⟩=>c Ko l q H1 m k Q I1 n o) j b) i a)
end
end L2
namespace HT
open PySem PyProof.Rows
section
noncomputable def sIx(n d:Nat):Option Int->Nat
 | none=>d
 | some v=>if v < 0 then (v+(n:Int)).toNat else min v.toNat n
theorem qG1(n d:Nat):sIx n d none=d:=rfl
theorem qM1(n d k:Nat):sIx n d (some (k:Int))=min k n:=by
 show (if (k:Int) < 0 then ((k:Int)+(n:Int)).toNat else min (k:Int).toNat n)=min k n;rw[if_neg (by lia),Int.toNat_natCast]
end
end HT
namespace L2
open PySem PySem.Spec PyProof.Rows
variable{its:List V'}{n:Nat}{x:V}{α:Type}
abbrev TO:=St->Hp->(Option Int->Hp->Prop)->Prop
def PO(X:Cx)(e:Option Kt)(t:TO):Prop :=
 ∀(Ko:List (γ×Obj))(s:Sh)(a:St)(H:Hp)(Q:Option Int->Hp->Prop),M1 X Ko a H s->t a H Q ->
   J1 (J' X.prog X.w) X.A (evalPart e X.env) (λ u s'=>∃ o H',M1 X Ko a H' s'/\IsPart u o/\Q o H') X.xe s
def qL2:TO:=λ _ H Q=>Q none H
def tPart(t:TE):TO:=λ a H Q=>t a H λ x H1=>∃ i,x=.int i/\Q (some i) H1
section
variable{X:Cx}{e:Kt}{te:TE}{E F:Option Kt}{L K:TO}{M N:Pos}
theorem qN4:PO X none qL2:=by
 intro Ko s D H Q I h;rw[evalPart_none];exact G' ⟨none,H,I,.none,h⟩
theorem qN3(h:PE X e te):PO X (some e) (tPart te):=by
 intro Ko s D H Q I b;rw[evalPart_some];refine thn (h Ko s D H _ I b) λ u f a=>?_
 obtain⟨x,H1,I1,c,d⟩:=a;obtain⟨i,rfl,q⟩:=d;obtain⟨t,rfl⟩:=c;exact⟨some i,H1,I1,.int i t,q⟩
def SlR(X:Cx)(r:V->Option Int->Option Int->Hp->VK->Prop):Prop :=
 ∀(Ko:List (γ×Obj))(s:Sh)(D:St)(H:Hp)(x:V)(v vl vu:V')(E F:Option Int)(sl:γ)(Q:VK),M1 X Ko D H s->Mx x v->s.heap.IsSliceOf sl vl vu .none->IsPart vl E->IsPart vu F->r x E F H Q ->
   ∃ T id,typeLookup (.type T) "__getitem__" = pure (some (.builtin id))/\s.TypeIs v T/\J1 (J' X.prog X.w) X.A (getItem v (.ref sl)) (EP X Ko D Q) X.xe s
def tSl(r:V->Option Int->Option Int->Hp->VK->Prop)(te:TE)(L K:TO):TE:=λ D H Q=>te D H λ x H1=>L D H1 λ l H2=>K D H2 λ u H3=>r x l u H3 Q
theorem qG9{r:V->Option Int->Option Int->Hp->VK->Prop}(g:SlR X r)(i:PE X e te)(j:PO X E L)(k:PO X F K):PE X (.Subscript e (.Slice E F none N) M) (tSl r te L K):=by
 intro Ko s D H Q I h;refine Subscript_ (thn (i Ko s D H _ I h) λ v m a=>?_);obtain⟨x,H1,I1,n,o⟩:=a;refine wpAny_Slice (thn (j Ko m D H1 _ I1 o) λ d p a=>?_);obtain⟨l,H2,I2,t,q2⟩:=a;refine thn (k Ko p D H2 _ I2 q2) λ f c a=>?_
 obtain⟨u,H3,I3,w,y⟩:=a;rw[evalPart_none];refine G' ?_;have I4:M1 X Ko D H3 { c with heap:=c.heap.push { cls:=.type "slice",data:=.fields #[d,f,.none] } }:=I3.kept λ b C q=>zA1 _ q
 obtain⟨T,id,z,A,B⟩:=g Ko { c with heap:=c.heap.push { cls:=.type "slice",data:=.fields #[d,f,.none] } } D H3 x v d f l u c.heap.objs.size Q I4 n (Heap.IsSliceOf.new ..) t w y;exact tail_any A z B (by with_unfolding_all rfl)
def Ix(xs:List V)(E F:Option Int):List V:=(xs.drop (HT.sIx xs.length 0 E)).take (HT.sIx xs.length xs.length F - HT.sIx xs.length 0 E)
theorem qt1(xs:List V)(E F:Option Int):(Ix xs E F).length<=xs.length:=by
 unfold Ix;rw[La,List.length_drop];lia
end
noncomputable def ixN(n:Nat)(i:Int):Option Nat:=if 0<=i then (if i < n then some i.toNat else none) else if -(n:Int)<=i then some (i+n).toNat else none
def atI{α:Type}(xs:List α)(i:Int):Option α:=(ixN xs.length i).bind λ j=>xs[j]?
theorem qx6{i:Int}{j:Nat}(h:ixN n i=some j):seqIndex? i n=some j/\j < n/\-(n:Int)<=i/\i < n:=by
 unfold ixN at h;by_cases b:0<=i
 . rw[if_pos b] at h
   by_cases a:i < n
   . rw[if_pos a] at h
     have e:=Mc h;exact⟨by rw[seqIndex_of b a,e],by lia,by lia,a⟩
   rw[if_neg a] at h;cases h
 rw[if_neg b] at h;by_cases a:-(n:Int)<=i
 . rw[if_pos a] at h
   have e:=Mc h;exact⟨by rw[seqIndex_neg (by lia) a,e],by lia,a,by lia⟩
 rw[if_neg a] at h;cases h
theorem qz7{xs:List α}{i:Int}{v:α}(h:atI xs i=some v):∃ j,seqIndex? i xs.length=some j/\xs[j]? = some v/\j < xs.length/\-(xs.length:Int)<=i/\i < xs.length:=by
 unfold atI at h;cases e:ixN xs.length i with
 | none=>rw[e] at h;cases h
 | some j =>
   rw[e] at h;obtain⟨a,b,c,d⟩:=qx6 e;exact⟨j,a,h,b,c,d⟩
theorem qF0{xs:List α}{j:Nat}{v:α}(h:xs[j]? = some v):atI xs (j:Int)=some v:=by
 have a:=(zAd.mp h).1;have e:ixN xs.length (j:Int)=some j:=by
   unfold ixN;rw[if_pos (by lia),if_pos (by lia)];simp
 unfold atI;rw[e];exact h
def qA0(b:Kt):Prop:=∀ o i,subscripted b false o i=operate [o,i] (getItem o i)
def IxR(X:Cx)(r:R2):Prop :=
 ∀(value slice:Kt)(Ko:List (γ×Obj))(s:Sh)(a:St)(H:Hp)(x y:V)(v u:V')(Q:VK),M1 X Ko a H s->Mx x v->Mx y u->r x y H Q ->
   subscripted slice false v u=operate [v,u] (getItem v u)->J1 (J' X.prog X.w) X.A (subscriptTail value slice v u) (EP X Ko a Q) X.xe s
def MtR(X:Cx)(id:String)(r:V->List V->Hp->VK->Prop):Prop :=
 ∀(Ko:List (γ×Obj))(s:Sh)(a:St)(H:Hp)(x:V)(xs:List V)(v:V')(us:List V')(Q:VK),M1 X Ko a H s->Mx x v->Mz xs us->r x xs H Q ->
   J1 (J' X.prog X.w) X.A (call (.builtin id) (v::us)) (EP X Ko a Q) X.xe s
section
variable{X:Cx}{a b:Kt}{O N:TE}{M:Pos}
theorem IxR.or{r a:R2}(h:IxR X r)(h':IxR X a):IxR X (λ x y H Q=>r x y H Q∨a x y H Q):=by
 intro value slice Ko s L H x y v u Q I b c q d;rcases q with q | q
 . exact h value slice Ko s L H x y v u Q I b c q d
 exact h' value slice Ko s L H x y v u Q I b c q d
theorem pe_ix{r:R2}(c:IxR X r)(d:PE X a O)(e:PE X b N)(f:qA0 b):PE X (.Subscript a b M) (tOp r O N):=by
 intro Ko s L H Q I h;exact Subscript_ (binT d e I h λ v u g x y H2 I2 i j q=>c a b Ko g L H2 x y v u Q I2 i j q (f _ _))
def rIxL(K:Mf):R2:=λ x y H Q=>∃ p xs i v,x=.ref p/\y=.int i/\SqL K H p xs/\atI xs i=some v/\Q v H
def rIxT(K:Mf):R2:=λ x y H Q=>∃ p xs i v,x=.ref p/\y=.int i/\SqT K H p xs/\atI xs i=some v/\Q v H
def rIxS:R2:=λ x y H Q=>∃ z i c,x=.str z/\y=.int i/\z.length<=Jk/\atI z.cps.toList i=some c/\Q (.str ⟨#[c]⟩) H
theorem qP8:IxR X (rIxL X.K):=by
 intro value slice Ko s L H x y v u Q I l m h f;obtain⟨p,E,i,z,rfl,rfl,n,o,q⟩:=h;cases l;obtain⟨t,rfl⟩:=m;obtain⟨b,r,c,F⟩:=I.list n;obtain⟨j,a,A,G,B,C⟩:=qz7 o;obtain⟨w,g,d⟩:=r.get A;have D:=r.length;have J:=qo2;have fin:EP X Ko L Q w s:=⟨z,H,I,d,q⟩
 by_cases k:0<=i
 . have e:i.toNat=j:=by
     rw[seqIndex_of k C] at a;exact Mc a
   exact item_listR c.isList k (by lia) (by rw[e];simpa using g) fin f
 have e:(i+(b.toArray.size:Int)).toNat=j:=by
   rw[seqIndex_neg (by lia) B] at a;rw[zA2,<- D];exact Mc a
 exact subscriptTail_builtinR c.isList.typeIs slot_list_getitem.lookup
   (wpAny_getItem_list_neg c.isList (by lia) (by rw[zA2]<;>lia) (by lia) (by rw[e];simpa using g) ⟨rfl,fin⟩) f
theorem qV5:IxR X (rIxT X.K):=by
 intro value slice Ko s L H x y v u Q I c d h e;obtain⟨p,o,i,z,rfl,rfl,f,g,q⟩:=h;cases c;obtain⟨t,rfl⟩:=d;obtain⟨k,r,b,A⟩:=I.tuple f;obtain⟨j,l,m,B,C,D⟩:=qz7 g;obtain⟨w,n,a⟩:=r.get m;have E:=qo2;exact subscriptTail_builtinR b.typeIs slot_tuple_getitem.lookup
   (getItem_tuple b (by lia) (by lia) (by rw[zA2,<- (r.length)];exact l) (by simpa using n) ⟨rfl,(⟨z,H,I,a,q⟩)⟩) e
theorem qV6:IxR X rIxS:=by
 intro value slice Ko s L H x y v u Q I b d h e;obtain⟨z,i,c,rfl,rfl,n,f,q⟩:=h;obtain⟨t,rfl⟩:=b;obtain⟨o,rfl⟩:=d;obtain⟨j,a,g,p,k,l⟩:=qz7 f;have m:z.cps.toList.length=z.length:=by simp[Str.length]
 rw[m] at a k l;have r:=qo2;exact tail_any (typeIs_str s z t) slot_str_getitem.lookup (getItem_str (by
   rw[(decide_eq_false (by grind -abstractProof)),(decide_eq_false (by grind -abstractProof)),Bool.or_false]) (by rw[a];simpa using g) ⟨.str ⟨#[c]⟩,H,I.tok _,⟨_,rfl⟩,q⟩) e
def rIx(K:Mf):R2:=λ x y H Q=>rIxL K x y H Q∨rIxT K x y H Q∨rIxS x y H Q
theorem qd2:IxR X (rIx X.K):=qP8.or (qV5.or qV6)
theorem qw7(its:List V')(n j:Nat)(u:V'):Obj.mapSeq (·.setIfInBounds j u) { cls:=.type "list",data:=.seq its.toArray n }={ cls:=.type "list",data:=.seq (its.set j u).toArray n }:=by
 simp[Obj.mapSeq]
theorem M1.l{Ko:List (γ×Obj)}{L:St}{H:Hp}{s:Sh}{p:γ}{xs:List V}(I:M1 X Ko L H s)(h:H p=some (.l xs)) :
   ∃(its:List V')(n:Nat),Mz xs its/\s.heap.get? p=some { cls:=.type "list",data:=.seq its.toArray n }/\xs.length<=Jk:=by
 obtain⟨z,its,n,r,e⟩:=I.hok p _ h;exact⟨its,n,r,e,z⟩
theorem M1.lstUpd{Ko:List (γ×Obj)}{L:St}{H:Hp}{s:Sh}{p:γ}{xs ys:List V}{its':List V'}{a:Nat}{f:Obj->Obj}(I:M1 X Ko L H s)(h:H p=some (.l xs))(d:s.heap.get? p=some { cls:=.type "list",data:=.seq its.toArray n })(c:f { cls:=.type "list",data:=.seq its.toArray n }={ cls:=.type "list",data:=.seq its'.toArray a })(r:Mz ys its')(g:ys.length<=Jk)(t:Nat) :
   M1 X Ko L (upd H p (.l ys)) { s with heap:=s.heap.update p f,toks:=t }:=by
 have e:(s.heap.update p f).get? p=some { cls:=.type "list",data:=.seq its'.toArray a }:=by
   rw[zAp f d (by rw[c]<;>rfl),c]
 refine I.write (by rw[h];trivial) (.inl rfl) (λ b u i q=>(zAa _ _ (Ne.symm i)).trans q) ⟨_,e⟩ ?_;exact⟨g,its',a,r,e⟩
def rSetL:V->V->V->Hp->(Hp->Prop)->Prop:=λ o i v H Q=>∃ p xs k j,o=.ref p/\i=.int k/\H p=some (.l xs)/\ixN xs.length k=some j/\Q (upd H p (.l (xs.set j v)))
theorem qu8:PSet X rSetL:=by
 intro Ko s L H o i v B C u Q I w x y h;obtain⟨p,D,k,j,rfl,rfl,f,z,q⟩:=h;cases w;obtain⟨t,rfl⟩:=x;obtain⟨a,n,r,c,A⟩:=I.l f;obtain⟨b,E,g,l⟩:=qx6 z;have d:=r.length;have F:=qo2;have I' :=
   I.lstUpd f c (qw7 a n j u) (r.set y j) (by rw[Ll];exact A) s.toks
 by_cases m:0<=k
 . have e:k.toNat=j:=by
     rw[seqIndex_of m l] at b;exact Mc b
   exact W.ki_setAt c m (by lia) (by rw[zA2,<- d];exact l) (by rw[e];exact⟨_,I',q⟩)
 have e:(k+(a.toArray.size:Int)).toNat=j:=by
   rw[seqIndex_neg (by lia) g] at b;rw[zA2,<- d];exact Mc b
 exact W.ki_setBack c (by lia) (by rw[zA2,<- d];exact g) (by lia) (by rw[e];exact⟨_,I',q⟩)
theorem qn3(lo hi:Option Int)(n:Nat):(sliceBounds lo hi none n).1=((HT.sIx n 0 lo:Nat):Int)/\(sliceBounds lo hi none n).2.1=((HT.sIx n n hi:Nat):Int)/\(sliceBounds lo hi none n).2.2=1:=by
 refine⟨?_,?_,rfl⟩
 . cases lo with
   | none=>simp[sliceBounds,HT.sIx]
   | some i =>
     simp only[sliceBounds,HT.sIx,Option.getD_none,show (1:Int) > 0 by decide,if_true];by_cases h:i < 0
     . simp only[h,if_true]<;>grind -abstractProof
     simp only[h,if_false]<;>grind -abstractProof
 cases hi with
 | none=>simp[sliceBounds,HT.sIx]
 | some i =>
   simp only[sliceBounds,HT.sIx,Option.getD_none,show (1:Int) > 0 by decide,if_true];by_cases h:i < 0
   . simp only[h,if_true]<;>grind -abstractProof
   simp only[h,if_false]<;>grind -abstractProof
theorem ql9(its:List V')(lo hi:Option Int):slicePick its.toArray lo hi none=((its.drop (HT.sIx its.length 0 lo)).take (HT.sIx its.length its.length hi - HT.sIx its.length 0 lo)).toArray:=by
 obtain⟨a,b,c⟩:=qn3 lo hi its.toArray.size;unfold slicePick;rw[a,b,c];simp only[sliceRange_one,pick_run,zA2]<;>rfl
def rSlL(K:Mf):V->Option Int->Option Int->Hp->VK->Prop:=λ x lo hi H Q=>∃ a xs,x=.ref a/\SqL K H a xs/\∀ p,H p=none->Q (.ref p) (upd H p (.l (Ix xs lo hi)))
theorem qL6:SlR X (rSlL X.K):=by
 intro Ko s L H x v p t e f u Q I i j k l h;obtain⟨a,c,rfl,m,q⟩:=h;cases i;obtain⟨n,r,g,o⟩:=I.list m;have d:=r.length;refine⟨"list",_,slot_list_getitem.lookup,g.isList.typeIs,?_⟩;refine wpAny_getItem_list_slice g.isList j k l .none (by simp) ?_ (by grind);rw[ql9,<- d];refine⟨.ref s.heap.objs.size,_,I.laid (λ b w q=>zA1 _ q) (zA6 _) ?_,rfl,q _ (I.hok.fresh (zA6 _))⟩;exact⟨zAb (qt1 c e f) o,_,0,(r.drop (HT.sIx c.length 0 e)).take (HT.sIx c.length c.length f - HT.sIx c.length 0 e),zAl _ rfl⟩
noncomputable def flatV:V->Bool
 | .non=>true
 | .bl _=>true
 | .int _=>true
 | .str _=>true
 | _=>false
noncomputable def eqV:V->V->Bool
 | .non,.non=>true
 | .bl a,.bl b=>a == b
 | .bl a,.int b=>(if a then 1 else 0) == b
 | .int a,.bl b=>a == (if b then 1 else 0)
 | .int a,.int b=>a == b
 | .str a,.str b=>a == b
 | _,_=>false
theorem qJ9{A:Kr}{s:Sh}{y:V}{u v:V'}(e:Mx y u)(c:Mx x v)(g:flatV y=true)(f:flatV x=true):SeqAt.EqAt A s u v (eqV y x):=by
 cases y with
 | non =>
   cases e;cases x with
   | non=>cases c;exact SeqAt.EqAt.same _
   | bl b=>cases c;exact SeqAt.EqAt.none_bool b
   | int b=>obtain⟨t,rfl⟩:=c;exact SeqAt.EqAt.none_int b t
   | str b=>obtain⟨t,rfl⟩:=c;exact SeqAt.EqAt.none_str b t
   | _=>exact absurd (show false=true from f) zA7
 | bl a =>
   cases e;cases x with
   | non=>cases c;exact SeqAt.EqAt.bool_none a
   | bl b=>cases c;exact SeqAt.EqAt.bool_bool a b
   | int b=>obtain⟨t,rfl⟩:=c;exact SeqAt.EqAt.bool_int a b t
   | str b=>obtain⟨t,rfl⟩:=c;exact SeqAt.EqAt.bool_str a b t
   | _=>exact absurd (show false=true from f) zA7
 | int a =>
   obtain⟨d,rfl⟩:=e;cases x with
   | non=>cases c;exact SeqAt.EqAt.int_none a d
   | bl b=>cases c;exact SeqAt.EqAt.int_bool a d b
   | int b=>obtain⟨t,rfl⟩:=c;exact SeqAt.EqAt.int_int a d b t
   | str b=>obtain⟨t,rfl⟩:=c;exact SeqAt.EqAt.int_str a d b t
   | _=>exact absurd (show false=true from f) zA7
 | str a =>
   obtain⟨d,rfl⟩:=e;cases x with
   | non=>cases c;exact SeqAt.EqAt.str_none a d
   | bl b=>cases c;exact SeqAt.EqAt.str_bool a d b
   | int b=>obtain⟨t,rfl⟩:=c;exact SeqAt.EqAt.str_int a d b t
   | str b=>obtain⟨t,rfl⟩:=c;exact SeqAt.EqAt.str_str a d b t
   | _=>exact absurd (show false=true from f) zA7
 | _=>exact absurd (show false=true from g) zA7
def eqU(x:V)(u:V'):Bool:=match u with
 | .none=>eqV .non x
 | .bool b=>eqV (.bl b) x
 | .int i _=>eqV (.int i) x
 | .str z _=>eqV (.str z) x
 | _=>false
theorem qQ9{y:V}{u:V'}(r:Mx y u)(f:flatV y=true):eqU x u=eqV y x:=by
 cases y with
 | non=>cases r;rfl
 | bl b=>cases r;rfl
 | int i=>obtain⟨t,rfl⟩:=r;rfl
 | str z=>obtain⟨t,rfl⟩:=r;rfl
 | _=>exact absurd (show false=true from f) zA7
theorem qz9{x:V}:∀{xs:List V}{us:List V'},Mz xs us->xs.all flatV=true->us.any (eqU x)=xs.any λ y=>eqV y x
 | _,_,.nil,_=>rfl
 | y::xs,u::us,.cons r t,f=>by
   rw[Li,zAz] at f;rw[Lv,Lv,qQ9 r f.1,qz9 t f.2]
theorem qo1{A:Kr}{s:Sh}{x:V}{v:V'}(b:Mx x v)(c:flatV x=true):∀{xs:List V}{us:List V'},Mz xs us->xs.all flatV=true->∀ u∈us,SeqAt.EqAt A s u v (eqU x u)
 | _,_,.nil,_=>λ u a=>by cases a
 | y::xs,u::us,.cons r t,f=>λ d a=>by
   rw[Li,zAz] at f;rcases zAm.mp a with rfl | a
   . rw[qQ9 r f.1];exact qJ9 r b f.1 c
   exact qo1 b c t f.2 d a
def inV(x:V)(xs:List V):Bool:=xs.any λ y=>eqV y x
def rIn(K:Mf)(neg:Bool):R2:=λ x y H Q=>∃ p xs,y=.ref p/\(SqL K H p xs∨SqT K H p xs)/\flatV x=true/\xs.all flatV=true/\Q (.bl (if neg then !inV x xs else inV x xs)) H
theorem qp5:OpR X (Jl .In) (rIn X.K false):=by
 intro Ko s L H x y v u Q I f i h;obtain⟨p,k,rfl,b,g,c,q⟩:=h;cases i;rcases b with b | b
 . obtain⟨a,r,d,j⟩:=I.list b
   refine SeqAt.in_listAt (eqU x) d.isList (λ w e=>qo1 f g r c w (by simpa using e)) ⟨.bl _,H,I,rfl,?_⟩;rw[show a.toArray.any (eqU x)=a.any (eqU x) by simp,qz9 r c];exact q
 obtain⟨a,r,d,j⟩:=I.tuple b;refine SeqAt.in_tupleAt (eqU x) d (λ w e=>qo1 f g r c w (by simpa using e)) ⟨.bl _,H,I,rfl,?_⟩;rw[show a.toArray.any (eqU x)=a.any (eqU x) by simp,qz9 r c];exact q
theorem qo7:CallR X (.builtin "len") (λ xs H Q=>∃ p ys,xs=[.ref p]/\(SqL X.K H p ys∨SqT X.K H p ys)/\Q (.int ys.length) H):=by
 intro Ko s L H xs i Q I r h;obtain⟨p,ys,rfl,b,q⟩:=h;obtain⟨u,rfl,f⟩:=Hq r;cases f;have j:=qo2;rcases b with b | b
 . obtain⟨c,d,e,g⟩:=I.list b
   have a:=d.length;exact Calls.call_len_list e.isList (by simp only[zA2]<;>lia) ⟨.int ys.length,H,I.tok _,⟨s.toks+1,by rw[zA2,a]⟩,q⟩
 obtain⟨c,d,e,g⟩:=I.tuple b;have a:=d.length;exact len_tuple e (by simp only[zA2]<;>lia) ⟨.int ys.length,H,I.tok _,⟨s.toks+1,by rw[zA2,a]⟩,q⟩
theorem qo6:CallR X (.builtin "len") (λ xs H Q=>∃ z,xs=[.str z]/\z.length<=Jk/\Q (.int z.length) H):=by
 intro Ko s L H xs a Q I r h;obtain⟨z,rfl,b,q⟩:=h;obtain⟨u,rfl,t,rfl⟩:=Hq r;have c:=qo2;exact len_str (by lia) ⟨.int z.length,H,I.tok _,⟨_,rfl⟩,q⟩
theorem CallR.or{f:V'}{r a:List V->Hp->VK->Prop}(h:CallR X f r)(h':CallR X f a):CallR X f (λ xs H Q=>r xs H Q∨a xs H Q):=by
 intro Ko s L H xs b Q I c q;rcases q with q | q
 . exact h Ko s L H xs b Q I c q
 exact h' Ko s L H xs b Q I c q
variable{e:Kt}
/- xs.append(e),list.index on a module's tuple .. are MtR facts of 06m -/
end
def MtM(X:Cx)(id:String)(r:V->List V->Hp->VK->Prop):Prop :=
 ∀(Ko:List (γ×Obj))(s:Sh)(a:St)(H:Hp)(x:V)(xs:List V)(v:V')(us:List V')(Q:VK),M1 X Ko a H s->Mx x v->Mz xs us->r x xs H Q ->
   J1 (J' X.prog X.w) X.A (call (.builtin id) (v::us)) (EP X Ko a Q) X.xe s
theorem Mz.one{us:List V'}(h:Mz [x] us):∃ u,us=[u]/\Mx x u:=by
 cases h with
 | cons r t=>cases t;exact⟨_,rfl,r⟩
theorem Mz.rep{xs:List V}{us:List V'}(h:Mz xs us):∀ k:Nat,Mz (Kx k xs).flatten (Kx k us).flatten
 | 0=>.nil
 | k+1=>by
   rw[zAx,zAx,zB6,zB6];exact Mz.append h (Mz.rep h k)
theorem qq2(its:List V'):∀(k:Nat)(acc:List V'),
   Lw (λ x1 a=>x1++a) acc.toArray (Kx k its.toArray)=(acc++(Kx k its).flatten).toArray
 | 0,acc=>by simp
 | k+1,acc=>by
   have e:acc.toArray++its.toArray=(acc++its).toArray:=by simp
   have b:(acc++its)++(Kx k its).flatten=acc++(Kx (k+1) its).flatten:=by
     rw[zAx,zB6,zAj]
   rw[<- b,<- qq2 its k (acc++its),<- e,zAx,Ls]
section
variable{X:Cx}{j:List (γ×Obj)}{i:St}{H:Hp}{s:Sh}{l:γ}{xs ys:List V}
theorem M1.lset{its':List V'}{f:Array V'->Array V'}{t':Nat}(I:M1 X j i H s)(a:H l=some (.l xs))(e:s.heap.get? l=some { cls:=.type "list",data:=.seq its.toArray n })(b:f its.toArray=its'.toArray)(hv:Mz ys its')(c:ys.length<=Jk) :
   M1 X j i (upd H l (.l ys)) { s with heap:=s.heap.update l (Obj.mapSeq f),toks:=t' }:=by
 have q:=PySem.IsL.update e f;rw[b] at q;refine I.write (by rw[a];exact trivial) (.inl rfl) (λ h u d g=>(zAa s.heap (Obj.mapSeq f) (Ne.symm d)).trans g) ⟨_,q⟩ ?_;exact⟨c,its',_,hv,q⟩
theorem M1.lnew{t':Nat}(I:M1 X j i H s)(hv:Mz ys its)(a:ys.length<=Jk) :
   M1 X j i (upd H s.heap.objs.size (.l ys)) { s with heap:=s.heap.push { cls:=.type "list",data:=.seq its.toArray },toks:=t' } :=
 I.laid (λ _ _ q=>zA1 _ q) (zA6 _) ⟨a,its,0,hv,zAl _ rfl⟩
theorem M1.fresh(I:M1 X j i H s):H s.heap.objs.size=none:=I.hok.fresh (zA6 _)
theorem M1.lstM(I:M1 X j i H s)(a:H l=some (.l xs)):xs.length<=Jk/\∃(its:List V')(n:Nat),Mz xs its/\xs.length=its.length/\s.heap.get? l=some { cls:=.type "list",data:=.seq its.toArray n }:=by
 obtain⟨z,its,n,r,e⟩:=I.hok l _ a;exact⟨z,its,n,r,r.length,e⟩
theorem qH4(h:n<=Jk):Builtin.List.listTooLong n=false:=by
 unfold Builtin.List.listTooLong
 grind
end
section
variable{X:Cx}
def qM4:V->List V->Hp->VK->Prop:=λ x vs H Q=>∃ l xs y,x=.ref l/\vs=[y]/\H l=some (.l xs)/\xs.length < Jk/\Q .non (upd H l (.l (xs++[y])))
theorem qB3:MtM X "list.append" qM4:=by
 intro Ko s L H x g v i Q I c d h;obtain⟨l,j,y,rfl,rfl,b,k,q⟩:=h;cases c;obtain⟨u,rfl,f⟩:=d.one;obtain⟨z,a,n,r,m,e⟩:=I.lstM b;refine Jy F.slot_list_append ⟨_,e,rfl⟩ F.entry_list_append (F.args_list_append_2 _ _) (PySem.list_append l a.toArray n u (by grind)) ⟨e,?_⟩;refine⟨.non,_,I.lset b e (by simp) (r.append (.cons f .nil)) ?_,rfl,q⟩
 grind
def rCat:R2:=λ x y H Q=>∃ l b xs a,x=.ref l/\y=.ref b/\H l=some (.l xs)/\H b=some (.l a)/\xs.length+a.length<=Jk/\∀ p,H p=none->Q (.ref p) (upd H p (.l (xs++a)))
theorem qU7:OpR X (J0 .Add) rCat:=by
 intro Ko s L H x y v u Q I c d h;obtain⟨l,b,o,p,rfl,rfl,f,g,t,q⟩:=h;cases c;cases d;obtain⟨z,a,n,r,w,e⟩:=I.lstM f;obtain⟨A,its2,B,i,j,k⟩:=I.lstM g;refine PySem.P.add_list e k ?_ (by rw[zA2,zA2];lia);have m:a.toArray++its2.toArray=(a++its2).toArray:=by simp
 rw[m];exact⟨.ref _,_,I.lnew (r.append i) (by rw[zAk];lia),rfl,q _ I.fresh⟩
def rRep:R2:=λ x y H Q=>∃ l k xs,x=.ref l/\y=.int k/\H l=some (.l xs)/\-(2 ^ 63)<=k/\k < 2 ^ 63/\xs.length * k.toNat<=Jk /\
 ∀ p,H p=none->Q (.ref p) (upd H p (.l (Kx k.toNat xs).flatten))
theorem qP5(xs:List α)(k:Nat):(Kx k xs).flatten.length=k * xs.length:=by
 induction k with
 | zero=>simp
 | succ k a=>rw[zAx,zB6,zAk,a,Nat.succ_mul,Nat.add_comm]
theorem qU4:OpR X (J0 .Mult) rRep:=by
 intro Ko s L H x y v u Q I j o h;obtain⟨l,k,J,rfl,rfl,p,w,A,i,q⟩:=h;cases j;obtain⟨t,rfl⟩:=o;obtain⟨z,b,n,r,B,e⟩:=I.lstM p;have c:b.toArray.size * k.toNat<=Jk:=by rw[zA2,<- B];exact i
 have d:¬ b.toArray.size * k.toNat > (2 ^ 63 - 1) / 8:=by
   have:(Jk:Nat)<=(2 ^ 63 - 1) / 8:=by decide
   lia
 have f:¬ (!Builtin.List.listFitsIndex k)=true:=by
   rw[fitsIndex_both w A]
   grind
 have hlong:¬ Builtin.List.listTooLong (b.toArray.size * k.toNat)=true:=by
   rw[qH4 c];exact zA7
 have g:Lw (λ C D=>C++D) #[] (Kx (if b.toArray.isEmpty=true then 0 else k.toNat) b.toArray)=(Kx k.toNat b).flatten.toArray:=by
   have E:=λ m=>by
     have:=qq2 b m []
     rw[Lu] at this;exact this
   rw[E];cases b with
   | nil=>simp
   | cons a K=>rw[if_neg (by simp)]
 refine wpAny_binaryOp_repeat_ref (by decide) ⟨_,e,rfl⟩ (λ G=>typeIs_int G k t) noFill_list_mul F.fills_int_mul Mm repeat_list F.slot_int_index.lookup
   (Jy Mm (typeIs_int s k t) F.entry_int_rmul (F.args_int_rmul_2 _ _) (int___rmul___int_list k t l b.toArray n)
     ⟨e,rfl,⟨_,e,rfl⟩,Jy F.slot_list_mul ⟨_,e,rfl⟩ F.entry_list_mul (F.args_list_mul_2 _ _) (AutoListH.list___mul___list_int_3 l b.toArray n k t f d hlong) ⟨e,?_⟩⟩)
 rw[g];exact⟨.ref _,_,I.lnew (r.rep k.toNat) (by rw[qP5,Nat.mul_comm];exact i),rfl,q _ I.fresh⟩
end
section
variable{a:Type}[DecidableEq a]
theorem KV.length{kvs:List (a×V)}{vs:List (a×V')}(r:KV kvs vs):kvs.length=vs.length:=Paired.length r
end
section
variable{P:Kq}{w:Ks}{H:Hp}{h:Heap}{a:γ}
theorem rd_of{u:HO}(b:HOk P w H h)(e:Rd H a u):ObjOk P w H h a u:=e.ok b
theorem dk_rd{kvs:List (Key×V)}(b:HOk P w H h)(e:Rd H a (.dK kvs)):kvs.length<=Jk/\(a == Ju)=false/\∃ vs,KV kvs vs/\h.DictOf (qe2 P w) a vs :=
 show ObjOk P w H h a (.dK kvs) from rd_of b e
end
section
variable{X:Cx}{b:List (γ×Obj)}{a:St}{H:Hp}{s:Sh}
theorem M1.big(I:M1 X b a H s):Ju < s.heap.objs.size:=by
 exact Nat.lt_trans (by decide) ((I.mod.glob.keeps I.bk).lt)
end
section
variable{X:Cx}{g:List (γ×Obj)}{f:St}{H:Hp}{s:Sh}{a:γ}{kvs:List (Key×V)}{A:Kr}{E:V'->Sh->Prop}
theorem d_len{Q:V'->Sh->Prop}(I:M1 X g f H s)(e:Rd H a (.dK kvs))(h:∀ t s',M1 X g f H s'->Q (.int kvs.length t) s'):J1 (J' X.prog X.w) A (call (.builtin "len") [.ref a]) Q E s:=by
 obtain⟨z,b,d,rel,c⟩:=dk_rd I.hok e;refine call_len_dict b c (by rw[<- rel.length];rw[Jr] at z;grind -abstractProof) ?_;rw[<- rel.length];exact h _ _ (I.tok _)
end
theorem qK0{P:Kq}{w:Ks}{H:Hp}(h:Heap)(a:Ju < h.objs.size):ObjOk P w H (h.push { cls:=.type "dict",data:=.dict #[] }) h.objs.size (.dK []) :=
 ⟨Nat.zero_le _,zB1.mpr (Ne.symm (zAc a)),[],.nil,Heap.DictOf.new h⟩
def qS3:TE:=λ _ H Q=>∀ p,H p=none->Q (.ref p) (upd H p (.dK []))
section
variable{X:Cx}{b:Pos}
theorem qH1:PE X (.Dict [] [] b) qS3:=λ Ko s a H Q I h =>
 wpAny_Dict_empty ⟨.ref s.heap.objs.size,_,I.laid (λ _ _ q=>zA1 _ q) (zA6 _) (qK0 s.heap I.big),rfl,h _ (I.hok.fresh (zA6 _))⟩
end
end L2
namespace Att
open PySem PySem.W PySem.Calls PyProof.Rows
theorem qi7{P:Params}{h:Heap}:∀(ns:List Int)(vs:List V'),WellAll P h vs (ns.map WData.int)->IntsAre vs ns:=by
 intro ns
 induction ns with
 | nil =>
   intro vs w;rw[List.map_nil] at w;cases w;exact .nil
 | cons n ns c =>
   intro vs w;rw[zB7] at w;cases w with
   | cons a b =>
     cases a;exact .cons _ _ (c _ b)
theorem qA6{l:OpenLaw}{n:Nat}(m:l.most=some n){P:Params}{h:Heap}{args:List WData}{vals:List V'}(b:l.row.toRowW.claim.pre args=true)(i:WellAll P h vals args) :
   ∃ a vs ns,vals=[Lx a]/\args=[WData.list (ns.map WData.int)]/\h.get? a=some { cls:=.type "list",data:=.seq vs.toArray }/\IntsAre vs ns/\ns.length<=n:=by
 have j:WShape.hasAll [] args [.list .int]=true:=(pre_splitW b).1;have k:l.pre.holds [] { args:=args }=true:=(pre_splitW b).2;obtain⟨d,r,rfl,o,p⟩:=hasAllW_cons j;obtain rfl:=hasAllW_nil p;obtain⟨x,rfl,s⟩:=hasW_list o;obtain⟨ns,rfl⟩:=items_int s;have c:ns.length<=n:=by
   unfold OpenLaw.pre at k;have f:(WTm.not (.lt (.lit (.int (n:Int))) (.len (.arg 0)))).holds [] { args:=[.list (ns.map .int)] }=true:=by
     have f:=(holds_andW k).1;rw[m] at f;exact f
   have g:=condW_of f (w_not (w_lt w_lit (w_len_list (w_arg rfl))));rw[zAv] at g;refine Nat.le_of_not_lt λ q=>?_
   have t:(n:Int) < ((ns.length:Nat):Int):=by omega
   first
     | (rw[zB5 t] at g;exact absurd g (by decide))
     | (simp at g;omega)
 cases i with
 | cons u v =>
   cases v;cases u with
   | list w e=>exact⟨_,_,ns,rfl,rfl,w,qi7 ns _ e,c⟩
theorem qA8(l:OpenLaw)(args:List WData):l.row.toRowW.claim.post args (.bool true) args=true :=
 postW_of (r:=l.row.toRowW) (X:=(true == true))
   (show WShape.has [] (.bool true) .bool=true by first | rfl | decide | simp[WShape.has,WShape.arms,WShape.armsAll])
   (show (WTm.eq .res (.lit (.bool true))).value [] { args:=args,res:=some (.bool true),after:=args }=some (.bool (true == true)) from w_eq_bool (w_res rfl) w_lit) rfl
theorem qt2{l:OpenLaw}{n:Nat}{q:Kq}{loose:List Str}{XP:(Str->Option V')->Heap->Prop}{YP:Ks->Heap->Prop}{d:DefRec}(v:l.most=some n)(i:d.params.defaults=[])(call:∀(w:Ks)(s₀ s₁:Sh)(mg j:Str->Option V')(fa:γ)(o:Obj)(k h b:V')(a:γ)(vs:List V')(ns:List Int),
     Ground q loose [] XP w s₀ mg j s₁.heap->YP w s₁.heap ->
     s₁.heap.get? fa=some o->o.data=.func (docDef d.name d.params d.body d.scope k h b)->s₁.heap.CodeRec h d.name->mg d.name=some (.ref fa) ->
     s₁.heap.get? a=some { cls:=.type "list",data:=.seq vs.toArray }->IntsAre vs ns->ns.length<=n->s₁.gens = #[] ->
     codeAny (J' l.prog w) callerA (.call (.ref fa) ⟨[.ref a],[]⟩) (λ r s'=>r=.ok (.ret (.bool true))/\OldK s₁.heap s'.heap/\s'.os=s₁.os/\AllBare s'.gens) s₁) :
   WalkO q loose XP YP l.row.toRowW d [] (λ f vs=>PySem.call f vs):=by
 intro w s₀ s₁ mg j G Y fa o k h b x kV y z m t p A args vals J c u B s C;obtain rfl:x=.none:=Dflts.none t i;obtain rfl:kV=.none:=Dflts.noKw t;obtain⟨a,vs,ns,rfl,rfl,e,hints,g⟩:=qA6 v c s;refine enter_call (codeAny_mono (call w s₀ s₁ mg j fa o k h b a vs ns G Y y (fd_plain z) m p e hints g A) λ r s' D=>?_);obtain⟨rfl,E,F,H⟩:=D;exact⟨.inl ⟨.bool true,.bool true,[],rfl,λ _=>rfl,.bool true,qA8 l _,λ _=>⟨List.Pairwise.nil,λ _ I=>(nomatch I)⟩⟩,E,F,H⟩
end Att
namespace L2
open PySem PySem.Spec PyProof.Rows
theorem qo8:∀{vs:List V'}{ns:List Int},IntsAre vs ns->Mz (ns.map V.int) vs
 | _,_,.nil=>.nil
 | _,_,.cons n t h=>.cons ⟨t,rfl⟩ (qo8 h)
def Only(H:Hp):Prop:=∀ b,H b=none∨∃ o xs,H b=some (.frz o (.l xs))
theorem qH8{P:Kq}{w:Ks}{K:Mf}{mg C:Str->Option V'}{CX:CXT}{k:Nat}{fa a:γ}{fd:δ}{x:Str}{sp:Sp}{s₁:Sh}{vs:List V'}{ns:List Int}(KX:K.In s₁.heap)(g:s₁.heap.Ns Js mg)(c:s₁.heap.Ns builtinsNs C)(D:∀ x:Str,x ≠ "__name__" -> C x=Jo x)(i:s₁.heap.NoLimit)(T:s₁.gens = #[])(B:s₁.heap.get? a=some { cls:=.type "list",data:=.seq vs.toArray })(hi:IntsAre vs ns)(M:ns.length<=Jk)(U:Hd k callerA)(F:∀ base:Heap,K.In base->base.Ns Js mg->Bm P w K mg base CX k fa fd [x] sp)(hbind:∀(s:Sh)(u:V'),BindsTo s fd ⟨[u],[]⟩ [(x,u)])(E:∀ H:Hp,Only H->SqL K H a (ns.map V.int)->sp [.ref a] H (λ v _=>v=.bl true) λ _ _ _=>False)(G:∀ H e s',CX [] H s₁ (λ _ _ _=>False) e s'->False) :
   codeAny (J' P w) callerA (.call (.ref fa) ⟨[.ref a],[]⟩) (λ r s'=>r=.ok (.ret (.bool true))/\OldK s₁.heap s'.heap/\s'.os=s₁.os/\AllBare s'.gens) s₁:=by
 have N:=qo8 hi;have lenV:=hi.length;have core:∀ H:Hp,Only H->SqL K H a (ns.map V.int)->HOk P w H s₁.heap->(∀ b,H b≠none->b=a)->(H a≠none->K.lookup a=none) ->
     codeAny (J' P w) callerA (.call (.ref fa) ⟨[.ref a],[]⟩) (λ r s'=>r=.ok (.ret (.bool true))/\OldK s₁.heap s'.heap/\s'.os=s₁.os/\AllBare s'.gens) s₁:=by
   intro H O X j Q Y;have base_of:∀{b:γ}{o:Obj},s₁.heap.get? b=some o->H b=none->(B8 s₁.heap H).get? b=some o:=λ e n=>qI3 e n
   have I:∀{b:γ}{o:Obj}{l:Array DictEntry}{p:Nat},s₁.heap.get? b=some o->o.data=.dict l p->H b=none:=λ{b o l p} e d=>by
     cases q:H b with
     | none=>rfl
     | some u =>
       have J:b=a:=Q b (by rw[q];simp);subst J;rw[B] at e;cases e;have Z:Data.seq vs.toArray _=Data.dict l p:=d;cases Z
   have f:∀{b:γ}{m:Str->Option V'},s₁.heap.Ns b m->(B8 s₁.heap H).Ns b m:=λ{b m} ⟨o,l,p,e,d,r⟩=>⟨o,l,p,base_of e (I e d),d,r⟩
   have t:K.In (B8 s₁.heap H):=λ b o e=>base_of (KX b o e) (by
     cases q:H b with
     | none=>rfl
     | some u =>
       have J:b=a:=Q b (by rw[q];simp);subst J;rw[Y (by rw[q];simp)] at e;cases e)
   have hM:Mod K mg (B8 s₁.heap H):=⟨t,f g,⟨C,f c,D⟩,let ⟨mc,h1,h2⟩:=i;⟨mc,f h1,h2⟩⟩
   have e0:Env0 P w K mg (B8 s₁.heap H) callerA [] s₁ H:=⟨rfl,hM,λ b o e=>qP1 e,Nat.le_of_eq (qB7 _ _),trivial,λ b c=>absurd (show b∈([]:List γ) from c) (by simp),j,.of_eq T⟩
   refine codeAny_mono ((F _ t (f g)).run callerA [] s₁ H ⟨[.ref a],[]⟩ [.ref a] [.ref a] _ _ U e0 (hbind s₁ (.ref a)) (.cons rfl .nil) (E H O X)) λ r s' h=>?_
   cases r with
   | error e=>exact(G H e s' h).elim
   | ok fl =>
     cases fl with
     | next=>exact Mt h
     | brk=>exact Mt h
     | cont=>exact Mt h
     | ret u =>
       obtain⟨v,H',os,bare,R,y,r',q⟩:=h;have q':v=.bl true:=q;subst q';obtain rfl:u=L6 true:=r';refine⟨rfl,OldK.of_keep λ b o e=>?_,os,bare⟩;cases q:H b with
       | none=>exact R.keep b o e q (by intro z;exact absurd (show b∈([]:List γ) from z) (by simp)) (by simp)
       | some u =>
         rcases O b with z | ⟨ob,xs,z⟩
         . rw[q] at z;cases z
         have z2:=R.frzs b ob _ z;obtain⟨S,_⟩:=j b _ z;obtain⟨e2,_⟩:=y b _ z2;rw[e] at S;cases S;exact e2
 cases L:K.lookup a with
 | some o =>
   have e:=KX a o L;rw[B] at e;cases e;refine core (λ _=>none) (λ _=>.inl rfl) (.inr ⟨_,vs.toArray,_,L,rfl,rfl,rfl,by rw[zA2,lenV];exact M,by simpa using N⟩) (λ b u z=>by have A:(none:Option HO)=some u:=z;cases A) (λ b z=>absurd rfl z) λ z=>absurd rfl z
 | none =>
   refine core (λ b=>if b=a then some (.frz { cls:=.type "list",data:=.seq vs.toArray } (.l (ns.map V.int))) else none) (λ b=>?_) (.inl (.inr ⟨{ cls:=.type "list",data:=.seq vs.toArray },if_pos rfl⟩)) (λ b u z=>?_) (λ b z=>?_) λ _=>L
   . by_cases c:b=a
     . exact .inr ⟨_,_,if_pos c⟩
     exact .inl (if_neg c)
   . by_cases c:b=a
     . have A:=(if_pos c).symm.trans z
       cases A;subst c;exact⟨B,by rw[zAv];exact M,vs,_,N,B⟩
     have A:=(if_neg c).symm.trans z;cases A
   by_cases c:b=a
   . exact c
   exact absurd (if_neg c) z
theorem qK8{l:W.OpenLaw}{n k:Nat}{q:Kq}{loose:List Str}{XP:(Str->Option V')->Heap->Prop}{YP:Ks->Heap->Prop}{d:DefRec}{K:Params->Mf}{CX:Ks->CXT}{sp:Ks->Sp}{x:Str}(y:l.most=some n)(j:n<=Jk)(m:d.params.defaults=[])(z:Hd k callerA)(A:∀(w:Ks)(h:Heap),YP w h->(K w.params).In h)(F:∀(w:Ks)(mg:Str->Option V')(fa:γ)(h:Heap),(K w.params).In h->h.Ns Js mg->mg d.name=some (.ref fa) ->
     ∃ fd:δ,(∀(s:Sh)(u:V'),BindsTo s fd ⟨[u],[]⟩ [(x,u)]) /\
       ∀ base:Heap,(K w.params).In base->base.Ns Js mg->Bm l.prog w (K w.params) mg base (CX w) k fa fd [x] (sp w))(p:∀(w:Ks)(H:Hp)(a:γ)(ns:List Int),ns.length<=n->Only H->SqL (K w.params) H a (ns.map V.int)->sp w [.ref a] H (λ v _=>v=.bl true) λ _ _ _=>False)(r:∀(w:Ks)(H:Hp)(s:Sh)(e:V')(s':Sh),CX w [] H s (λ _ _ _=>False) e s'->False) :
   W.WalkO q loose XP YP l.row.toRowW d [] (λ f vs=>PySem.call f vs):=by
 refine Att.qt2 y m λ w s₀ s₁ mg M fa o N O B a vs ns G Y P Q C t i hints c D=>?_
 have KX:=A w _ Y;obtain⟨fd,E,I⟩:=F w mg fa _ KX G.T.g t;exact qH8 KX G.T.g G.T.b G.T.builtins G.T.nolimit D i hints (zAb c j) z I E (λ H J L=>p w H a ns c J L) λ H e s'=>r w H s₁ e s'
end L2
/- THE LAST THEOREM (shape;LID,My.* are yours):
  My.Adr: a structure of the addresses that your layer names (classes,functions);My.Txt K t: a structure (Prop) of the equations over K;
  My.txt_mk:{K} {implicit addresses ..} (e1:nsIn K Js "law" = some (some (.ref f))) (e2:K.lookup f=some ⟨oc,od,.func (fnOf "law" "law" params body scope dV kV doc pm an cdv ct),sl⟩) (e3:codeIn K cdv "law" = true) .. : ∃ t,My.Txt K t
(the tactic k_is has no namespace: write k_is) -/
namespace L2
open PySem PySem.Spec PyProof.Rows
variable{f:γ}{qual x:Str}{st:Ku}
noncomputable def qh7(s:Ku)(j:Nat):Ku:=match s with
 | .ClassDef _ _ _ body _ _ _ _ _ _ _=>body.getD j (.Pass ⟨0,0,0,0⟩)
 | _=>.Pass ⟨0,0,0,0⟩
noncomputable def qc4(s:Ku):Arguments:=match s with
 | .FunctionDef _ a _ _ _ _ _ _ _ _=>a
 | _=>{ posonlyargs:=[],args:=[],vararg:=none,kwonlyargs:=[],kw_defaults:=[],kwarg:=none,defaults:=[] }
noncomputable def qb5(s:Ku):List Ku:=match s with
 | .FunctionDef _ _ b _ _ _ _ _ _ _=>b
 | _=>[]
noncomputable def qa1(s:Ku):Scope:=match s with
 | .FunctionDef _ _ _ _ _ _ sc _ _ _=>sc
 | _=>{ kind:=.function,names:=[],isGenerator:=false,isCoroutine:=false }
abbrev CX0:CXT:=λ _ _ _ _ _ _=>False
abbrev E0:XK:=λ _ _ _=>False
theorem pass0{X:Cx}:qD1 CX0 X (λ _=>E0):=λ _ _ _ _ _ _ _ h=>h.elim
structure Fun(K:Mf)(x qual:Str)(st:Ku)(f:γ)(fd:δ):Prop where
 ex:∃(oc:V')(od:Option γ)(kV doc pm:V')(an:Option γ)(cdv ct:V')(osl:Array (Option V')),
   fd=W.fnOf x qual (qc4 st) (qb5 st) (qa1 st) .none kV doc pm an cdv ct/\K.lookup f=some ⟨oc,od,.func fd,osl⟩/\W.codeIn K cdv qual=true
 kp:W.keepIn K (.ref f)=true
section
variable{P:Kq}{w:Ks}{K:Mf}{p:Str->Option V'}{base:Heap}
theorem Fun.ok{fd:δ}{N ps:List Str}{k:Nat}{sp:Sp}(F:Fun K x qual st f fd)(S:qb2 N ps (qa1 st))(len:∀ vs H Q E,sp vs H Q E->vs.length=ps.length)(hbody:∀(a:V')(A:Kr)(outer:List Env)(s:Sh)(H:Hp)(vs:List V)(Q:VK)(E:XK),Hd k (A.deeper (envOfC qual (qa1 st) s.heap.objs.size f a))->sp vs H Q E ->
     ∃ t,PSs (Ay true CX0 P w K p base N qual (qa1 st) f a A outer s H E).nox (qb5 st) t/\t { nx:=λ _ H'=>Q .non H',rt:=Q } (start N vs) H):Bm P w K p base CX0 (k+1) f fd ps sp:=by
 obtain⟨j,l,kV,d,m,n,a,o,e,rfl,g,b⟩:=F.ex;refine Hr g b S len λ A outer s H vs Q E i c=>?_
 obtain⟨t,h,q⟩:=hbody a A outer s H vs Q E i c;exact⟨t,h.nox,q⟩
theorem Fun.binds{fd:δ}{ps:List Str}(F:Fun K x qual st f fd)(h:∀(kV a c:V')(d:Option γ)(b e:V')(us:List V'),us.length=ps.length->bindArgs (W.fnOf x qual (qc4 st) (qb5 st) (qa1 st) .none kV a c d b e) ⟨us,[]⟩=pure (ps.zip us)):Binds K fd ps []:=by
 obtain⟨j,k,kV,a,c,d,b,e,g,rfl,l,i⟩:=F.ex;exact .all (h kV a c d b e)
theorem qB9{i:V'}{od e:Option γ}{d:Array (Option V')}{kV b g a h:V'}(l:K.lookup f=some ⟨i,od,.func (W.fnOf x qual (qc4 st) (qb5 st) (qa1 st) .none kV b g e a h),d⟩)(c:W.codeIn K a qual=true)(k:W.keepIn K (.ref f)=true):Fun K x qual st f (W.fnOf x qual (qc4 st) (qb5 st) (qa1 st) .none kV b g e a h):=⟨⟨i,od,kV,b,g,e,a,h,d,rfl,l,c⟩,k⟩
end
theorem qA4{n:Nat}(h:n<=1000):n < Jk:=Nat.lt_of_le_of_lt h (by decide)
section
variable{X:Cx}
theorem pv(i:Nat){pos:Pos}(b:X.N[i]? = some x:=by rfl)(hv:Vis X.env.scope x:=by first | exact Mv rfl | exact Mu (Mv rfl) | exact Mu (Mu rfl))(c:N' x:=by decide)(a:(x == ("__classdict__" : Str))=false:=by decide):PE X (.Name x pos) (tVar i):=qn7 b hv c a
theorem qD0:CallR X (.builtin "len") (λ xs H Q=>∃ a kvs,xs=[V.ref a]/\H a=some (.dK kvs)/\Q (.int kvs.length) H):=by
 intro Ko s f H xs d Q I r h;obtain⟨a,kvs,rfl,b,q⟩:=h;obtain⟨u,rfl,c⟩:=Hq r;cases c;exact d_len I (.inl b) λ t e I'=>⟨.int kvs.length,H,I',⟨t,rfl⟩,q⟩
end
def Same(H H':Hp):Prop:=∀ b o,H b=some o->H' b=some o
theorem Same.trans{H H1 H2:Hp}(a:Same H H1)(b:Same H1 H2):Same H H2:=λ c o h=>b c o (a c o h)
end L2
set_option maxHeartbeats 4000000
namespace L2
open PySem PySem.Spec PyProof.Rows
variable{H:Hp}{a:γ}{e:Kt}{i:Int}{p:Pos}{x:Str}{xs:List V}{α:Type}
theorem Ii{t:Sem α}{Q Q':α->Sh->Prop}{M:Model}{A:Kr}{E:V'->Sh->Prop}{s:Sh}(h:J1 M A t Q (λ _ _=>False) s)(b:∀ a s,Q a s->Q' a s):J1 M A t Q' E s :=
 Jv h b λ _ _ x=>x.elim
noncomputable def Bn(env:Env):List (Str×NameKind)->List (Str×γ)->List (Str×γ)
 | [],acc=>acc
 | (n,k)::r,acc=>Bn env r (if k == Mr then (n,(env.cells.lookup n).getD 0)::acc else acc)
theorem qi0{env:Env}:∀(l:List (Str×NameKind))(acc:List (Str×γ)),(∀ x∈l,x.2=Mr->∃ c,env.cells.lookup x.1=some c) ->
   (forIn l acc λ(x:Str×NameKind)(r:List (Str×γ)) =>
     (match x with
     | (name,kind)=>if (kind == Mr)=true then (do let c <- cellOf env name;pure (ForInStep.yield ((name,c)::r)):Sem (ForInStep (List (Str×γ)))) else pure (ForInStep.yield r)))=(pure (Bn env l acc):Sem _)
 | [],acc,_=>rfl
 | (n,k)::r,acc,h=>by
   rw[List.forIn_cons];by_cases a:(k == Mr)=true
   . obtain⟨c,b⟩:=h (n,k) zAe (by simpa using a)
     have b:=b;dsimp only;rw[if_pos a];have e:cellOf env n=pure c:=by unfold cellOf;rw[b]
     rw[e];show (forIn r ((n,c)::acc) _:Sem _)=_;rw[qi0 r ((n,c)::acc) λ x d=>h x (zA5 _ d)];show _=(pure (Bn env r (if (k == Mr)=true then (n,(env.cells.lookup n).getD 0)::acc else acc)):Sem _)
     rw[if_pos a,b];rfl
   dsimp only;rw[if_neg a];show (forIn r acc _:Sem _)=_;rw[qi0 r acc λ x d=>h x (zA5 _ d)];show _=(pure (Bn env r (if (k == Mr)=true then (n,(env.cells.lookup n).getD 0)::acc else acc)):Sem _)
   rw[if_neg a]
theorem qz1{env:Env}{sc:Scope}(h:∀ x∈sc.names,x.2=Mr->∃ c,env.cells.lookup x.1=some c):closureFor sc env=pure (Bn env sc.names []):=by
 unfold closureFor;show (forIn sc.names [] _ >>= _)=_
 have:=qi0 sc.names [] h
 rw[show (forIn sc.names ([]:List (Str×γ)) _:Sem _)=pure (Bn env sc.names []) from this];rfl
theorem qz2{env:Env}:∀(l:List (Str×NameKind))(acc:List (Str×γ))(x:Str)(c:γ),(x,c)∈Bn env l acc->(x,c)∈acc∨((x,Mr)∈l/\c=(env.cells.lookup x).getD 0)
 | [],acc,x,c,h=>.inl h
 | (n,k)::r,acc,x,c,h=>by
   rcases qz2 r _ x c h with h | ⟨h,e⟩
   . by_cases a:(k == Mr)=true
     . rw[if_pos a] at h
       rcases zAm.mp h with h | h
       . cases h
         exact .inr ⟨by rw[show k=Mr by simpa using a];exact zAe,rfl⟩
       exact .inl h
     rw[if_neg a] at h;exact .inl h
   exact .inr ⟨zA5 _ h,e⟩
theorem qz3{env:Env}:∀(l:List (Str×NameKind))(acc:List (Str×γ))(x:Str),(∃ c,(x,c)∈acc)->∃ c,(x,c)∈Bn env l acc
 | [],acc,x,h=>h
 | (n,k)::r,acc,x,⟨c,h⟩=>qz3 r _ x ⟨c,by split;exact zA5 _ h;exact h⟩
theorem qo5{env:Env}:∀(l:List (Str×NameKind))(acc:List (Str×γ))(x:Str),(x,Mr)∈l->∃ c,(x,c)∈Bn env l acc
 | [],acc,x,h=>by simp at h
 | (n,k)::r,acc,x,h=>by
   rcases zAm.mp h with h | h
   . cases h
     exact qz3 r _ _ ⟨_,by rw[if_pos (by rfl)];exact zAe⟩
   exact qo5 r _ x h
theorem qh5{α:Type}:∀{l:List (Str×α)}{x:Str},(∃ c,(x,c)∈l)->∃ c,l.lookup x=some c
 | [],x,⟨c,h⟩=>by simp at h
 | (n,a)::r,x,⟨c,h⟩=>by
   cases b:x == n with
   | true=>exact⟨a,by simp only[zAn,b]⟩
   | false =>
     rcases zAm.mp h with h | h
     . cases h;simp at b
     obtain⟨d,e⟩:=qh5 ⟨c,h⟩;exact⟨d,by simp only[zAn,b];exact e⟩
noncomputable def Ax(a:St)(src:List (Option Nat)):St:=src.map λ o=>match o with | none=>none | some j=>(a[j]?).getD none
noncomputable def qo4(X:Cx)(NY:List Str)(src:List (Option Nat))(sc:Scope):Bool :=
 (sc.kind == .function)&&(src.length == NY.length) &&
 (sc.names.all λ x=>x.2 != .cell&&(x.2 != .local||sc.names.lookup x.1 == some .local)&&(x.2 != .free||(X.env.scope.names.lookup x.1 == some .cell||X.env.scope.names.lookup x.1 == some .free))) &&
 ((NY.zip src).all λ p=>match p.2 with | none=>true | some j=>X.N[j]? == some p.1&&sc.names.lookup p.1 == some .free)
def qc7(X:Cx)(NY:List Str)(sc:Scope)(C:γ)(a:Sh)(H0:Hp)(ex:List γ):Cx where
 prog:=X.prog
 w:=X.w
 K:=X.K
 mg:=X.mg
 base:=X.base
 A:=X.A
 N:=NY
 s₀:=a
 H₀:=H0
 env:=compEnvC sc (Bn X.env sc.names []) C X.env
 outer:=X.stack
 stack:=X.stack
 ex:=ex
 fn:=λ _=>false
 calm:=X.calm
 pn:=[]
 xe:=λ _ _=>False
def PFs(X:Cx)(ifs:List Kt)(t:TT):Prop :=
 ∀(Ko:List (γ×Obj))(s:Sh)(b:St)(H:Hp)(Q:Bool->Hp->Prop),M1 X Ko b H s->t b H Q ->
   J1 (J' X.prog X.w) X.A (forIn ifs true λ c r=>if r=true then do let a <- isTrue c X.env (eval c X.env);pure (ForInStep.yield a) else pure (ForInStep.yield r)) (TP X Ko b Q) X.xe s
def tYes:TT:=λ _ H Q=>Q true H
theorem qN8{X:Cx}:PFs X [] tYes:=λ _ _ _ H _ I h=>wpAny_tests_nil ⟨H,I,h⟩
theorem qe5{prog:Kq}{w:Ks}{A:Kr}{R:Result->Sh->Prop}{s:Sh}{elt target iter:Kt}{ifs:List Kt}{scope:Scope}{pos:Pos}{it acc:V'}{env:Env}(I:Nat->Sh->Prop)(turn:∀ n s,I n s->J1 (J' prog w) A (pyNext it) (λ r s₁=>match r with
     | none=>R (.ok .next) s₁
     | some v=>J1 (J' prog w) A (letOwnedTupleGo target it v) (λ _ s₁'=>J1 (J' prog w) A (assign target env v) (λ _ s₂ =>
         J1 (J' prog w) A (forIn ifs true λ c r=>if r=true then do let a <- isTrue c env (eval c env);pure (ForInStep.yield a) else pure (ForInStep.yield r)) (λ a s₃ =>
           if a=true then J1 (J' prog w) A (eval elt env) (λ x s₄ =>
             J1 (J' prog w) A (call (.builtin "list.append") [acc,x]) (λ _ s₅=>∃ m,m < n/\I m s₅) (λ _ _=>False) s₄) (λ _ _=>False) s₃
           else ∃ m,m < n/\I m s₃) (λ _ _=>False) s₂) (λ _ _=>False) s₁') (λ _ _=>False) s₁) (λ _ _=>False) s)(n:Nat)(h:I n s) :
   codeAny (J' prog w) A (.compLoop (.ListComp elt [⟨target,iter,ifs,0⟩] scope pos) 0 it acc env) R s:=by
 refine codeAny_loop rfl I (λ n s b=>?_) n h;show J1 _ A ((compTurn (.ListComp elt [⟨target,iter,ifs,0⟩] scope pos) 0 it acc env).onRaise (λ x=>do noteFrame x env;theTreesLotGoes x)) _ _ s;refine wpAny_noted ?_;rw[compTurn_list];refine D' (wpAny_standAt (D' (Ii (turn n s b) λ r s₁ h₁=>?_)));cases r with
 | none=>exact G' h₁
 | some v =>
   refine D' (Ii h₁ λ _ s₁' h₁'=>?_);refine D' (Ii h₁' λ _ s₂ h₂=>D' (Ii h₂ λ a s₃ h₃=>?_));cases a with
   | false=>exact G' ⟨rfl,h₃⟩
   | true =>
     exact D' (D' (Ii h₃ λ x s₄ h₄=>D' (Ii h₄ λ _ s₅ h₅=>G' (G' ⟨rfl,h₅⟩))))
def qr6(J:It)(g:TG)(tf:TT)(te:TE)(D:γ)(R:Hp->Prop)(σ0:St)(H0:Hp):Prop :=
 ∃ W:Nat->Nat->St->Hp->Prop,(∃ m,W 0 m σ0 H0)/\∀ i m c H,W i m c H ->
   (J.stop i H/\R H)∨(J.go i H/\∃ N:St->Hp->Prop,(∀ c' H',N c' H'->∃ a,a < m/\W (i+1) a c' H')/\∀ x H',J.yld i H x H'->g x c H' λ σ2 H2=>tf σ2 H2 λ b H3 =>
     if b=true then te σ2 H3 λ v H4=>∃ xs,H4 D=some (.l xs)/\xs.length < Jk/\N σ2 (upd H4 D (.l (xs++[v]))) else N σ2 H3)
theorem qf4{env:Env}{x:Str}:∀{names:List (Str×NameKind)},(∀ y∈names,y.2≠.cell) ->
   ((names.map λ (n,k)=>if (k == Mr&&env.scope.kind == .function&&env.kindOf n == some .cell) then (n,Ms) else (n,k)).lookup x=some .cell ∨
    (names.map λ (n,k)=>if (k == Mr&&env.scope.kind == .function&&env.kindOf n == some .cell) then (n,Ms) else (n,k)).lookup x=some .free)->names.lookup x=some .free
 | [],_,h=>by simp at h
 | (n,k)::r,hc,h=>by
   have c:=@qf4 env x r λ y d=>hc y (zA5 _ d)
   simp only[zB7] at h;cases b:x == n with
   | true =>
     simp only[zAn,b];by_cases a:(k == Mr&&env.scope.kind == .function&&env.kindOf n == some .cell)=true
     . have:k=Mr:=by
         simp only[zAz,zB4] at a;exact a.1.1
       rw[this]
     rw[if_neg a] at h;simp only[zAn,b] at h;rcases h with h | h
     . exact absurd (Mc h) (hc (n,k) zAe)
     exact h
   | false =>
     simp only[zAn,b];apply c;by_cases a:(k == Mr&&env.scope.kind == .function&&env.kindOf n == some .cell)=true
     . rw[if_pos a] at h
       simpa only[zAn,b] using h
     rw[if_neg a] at h;simpa only[zAn,b] using h
theorem qc3{env:Env}{x:Str}:∀{names:List (Str×NameKind)},names.lookup x=some .free ->
   ((names.map λ (n,k)=>if (k == Mr&&env.scope.kind == .function&&env.kindOf n == some .cell) then (n,Ms) else (n,k)).lookup x=some .cell ∨
    (names.map λ (n,k)=>if (k == Mr&&env.scope.kind == .function&&env.kindOf n == some .cell) then (n,Ms) else (n,k)).lookup x=some .free)
 | [],h=>by simp at h
 | (n,k)::r,h=>by
   have c:=@qc3 env x r;simp only[zB7];cases a:x == n with
   | true =>
     simp only[zAn,a] at h;have h:=Mc h;by_cases b:(k == Mr&&env.scope.kind == .function&&env.kindOf n == some .cell)=true
     . rw[if_pos b];simp only[zAn,a];exact .inl trivial
     rw[if_neg b];simp only[zAn,a];rw[h];exact .inr rfl
   | false =>
     simp only[zAn,a] at h;by_cases b:(k == Mr&&env.scope.kind == .function&&env.kindOf n == some .cell)=true
     . rw[if_pos b];simp only[zAn,a];exact c h
     rw[if_neg b];simp only[zAn,a];exact c h
section
variable{X:Cx}{Ko:List (γ×Obj)}{σ:St}{H2:Hp}{s2:Sh}{elt tg iter:Kt}{ifs:List Kt}{sc:Scope}{pos:Pos}{NY:List Str}{src:List (Option Nat)}{J:It}{fp:List γ}{it:γ}{tn:Nat->Heap->Prop}{g:TG}{tf:TT}{te:TE}
theorem qy9{cl:Cx->Prop}{R:γ->Hp->Prop}{E:V'->Sh->Prop}{RR:V'->γ->Result->Sh->Prop}(ck:qo4 X NY src sc=true)(hc:∀ C L H0,cl (qc7 X NY sc C L H0 fp))(I2:M1 X Ko σ H2 s2)(T:By cl X.prog X.w X.K tg J fp it tn)(M:tn 0 s2.heap)(f2:∀ b∈fp,Bq X Ko H2 b)(hg:∀ C L H0,PG (qc7 X NY sc C L H0 fp) tg g)(hf:∀ C L H0,PFs (qc7 X NY sc C L H0 fp) ifs tf)(he:∀ C L H0,PE (qc7 X NY sc C L H0 fp) elt te)(rd:∀ D,H2 D=none->qr6 J g tf te D (R D) (Ax σ src) (upd H2 D (.l [])))(fin:∀ D C H' s',M1 X Ko σ H' s'->R D H'->H' C=none->X.s₀.heap.objs.size<=C->C≠X.env.locals->(∀ x c,X.env.cells.lookup x=some c->c≠C)->(∀ p∈X.pn++Ko,p.1≠C)->C∉X.fs->(∃ m,s'.heap.Ns C m)->RR (.ref D) C (.ok .next) s') :
   J1 (J' X.prog X.w) X.A (newList []) (λ acc s₃=>J1 (J' X.prog X.w) X.A (newFunctionEnv sc X.env.globals (Bn X.env sc.names []) [] X.env.qual none .none (some X.env)) (λ cenv s₄ =>
     codeAny (J' X.prog X.w) X.A (.compStart (.ListComp elt [⟨tg,iter,ifs,0⟩] sc pos) 0 (.ref it) acc { cenv with scope:=relabel sc X.env }) (RR acc cenv.locals) s₄) E s₃) E s2:=by
 unfold qo4 at ck;simp only[zAz,zB4,Lr] at ck;obtain⟨⟨⟨hkind,H⟩,S⟩,U⟩:=ck;have hcell:∀ y∈sc.names,y.2≠.cell:=λ y V e=>by
   have:=(S y V).1.1
   rw[e] at this;exact absurd this (by decide)
 have hfree:∀ y∈sc.names,y.2=.free->(X.env.kindOf y.1=some .cell∨X.env.kindOf y.1=some .free):=λ y V e=>by
   have:=(S y V).2
   rw[e] at this;show X.env.scope.names.lookup y.1=some .cell∨X.env.scope.names.lookup y.1=some .free;simpa using this
 have clsub:∀ x c,(Bn X.env sc.names []).lookup x=some c->X.env.cells.lookup x=some c:=λ x c e=>by
   rcases qz2 _ _ x c (PySem.mem_of_lookup e) with h | ⟨h,q⟩
   . simp at h
   obtain⟨d,P⟩:=I2.ok.has x (hfree _ h rfl);rw[P] at q;rw[P,q];rfl
 refine wpAny_newObj_type (wpAny_newFunctionEnv hcell (by intro y V;simp at V) (λ h₁ hns₁ hsb₁=>?_) hkind);dsimp only at hns₁ hsb₁ ⊢;have I3:=I2.lnew (ys:=[]) (its:=[]) (t':=s2.toks) .nil (Nat.zero_le _);have hD:H2 s2.heap.objs.size=none:=I2.fresh;generalize t:s2.heap.objs.size=D at hns₁ hsb₁ I3 hD ⊢;generalize Z:s2.heap.push { cls:=.type "list",dict:=none,data:=.seq ([]:List V').toArray }=h3 at hns₁ hsb₁ I3 ⊢;have a0:h3.objs.size=D+1:=by rw[<- Z,zBa,t]
 generalize s:h3.objs.size=C at hns₁ hsb₁ a0 ⊢;have I3:M1 X Ko σ (upd H2 D (.l [])) { s2 with heap:=h3,toks:=s2.toks }:=I3;have B:∀ b o,h3.get? b=some o->h₁.get? b=some o:=λ b o e=>hsb₁.extBut b o (by rw[<- s];exact zAc (zA4 e)) (zA1 _ e)
 have a1:∀ b o,h3.get? b=some o->b≠C:=λ b o e=>by rw[<- s];exact zAc (zA4 e)
 have a2:X.env.locals≠C:=by rw[<- s];exact zAc I3.lt
 have b1:∀ x c,X.env.cells.lookup x=some c->c≠C:=λ x c e=>by
   obtain⟨v,o,G,_⟩:=I3.cell x c e;exact a1 c o G
 have a3:∀ b∈fp,b≠C:=λ b f=>by
   obtain⟨o,G,_⟩:=T.obj _ _ M b f
   have:=zA4 G
   rw[t] at this;exact zAc (Nat.lt_trans this (by rw[a0];exact Nat.lt_succ_self _))
 have b2:∀ b∈fp,b≠D:=λ b f=>by
   obtain⟨o,G,_⟩:=T.obj _ _ M b f
   have:=zA4 G
   rw[t] at this;exact zAc this
 have a4:∀ b o,s2.heap.get? b=some o->h3.get? b=some o:=λ b o e=>by rw[<- Z];exact zA1 _ e
 have pinC:∀ p∈X.pn++Ko,p.1≠C:=λ p hp=>a1 _ _ (I3.pin p hp).1
 have a5:C∉X.fs:=by rw[<- s];exact I3.nofs (zA6 _)
 have b3:X.s₀.heap.objs.size<=C:=by rw[<- s];exact I3.sz
 have stkC:∀ b∈frs X.stack,b≠C:=λ b f e=>by
   rcases zAm.mp (I3.stkSub b f) with z | z
   . exact a2 (z.symm.trans e)
   exact a5 (e ▸ z)
 have HC:upd H2 D (.l []) C=none:=I3.hok.fresh (by show h3.objs.size<=C;exact Nat.le_of_eq s);have a6:∀ b∈fp,b∉frs X.stack:=λ b f z=>by
   obtain⟨_,h1,h2,_⟩:=f2 b f;rcases zAm.mp (I2.stkSub b z) with q | q
   . exact h1 q
   exact h2 q
 let Y:Cx:=qc7 X NY sc C { s2 with heap:=h3 } (upd H2 D (.l [])) fp
 have a7:(Ax σ src).length=NY.length:=by unfold Ax;rw[zAv];exact H
 have IY:M1 Y [] (Ax σ src) (upd H2 D (.l [])) { s2 with heap:=h₁,toks:=s2.toks+0 }:=by
   refine⟨⟨I2.ok.mod,hkind,I2.ok.glob,I2.ok.blt,(by show h3.objs.size<=C;exact Nat.le_of_eq s),λ x y c h1 h2=>I2.ok.inj x y c (clsub x c h1) (clsub y c h2),λ x hx=>?_,λ _ _ z _=>(zA7 z).elim,I2.ok.hd,I2.ok.frames,.inl rfl,λ b f=>⟨a3 b f,λ x c e=>(f2 b f).2.2.2.2.1 x c (clsub x c e)⟩,
     λ b o e=>?_,?_,λ b o e f=>?_,λ b f=>a6 b f,?_,λ b f=>?_⟩,rfl,I2.bare,Un.kept B,⟨_,hns₁,λ i x v e1 F e3=>?_⟩,λ x c e=>?_,HC,λ x c e=>I3.freeC x c (clsub x c e),λ p hp=>absurd (show p∈([]:List (γ×Obj)) from hp) (by simp),I3.hok.kept B,a7⟩
   . have hx:=qf4 hcell hx
     exact qh5 (qo5 _ _ _ (PySem.mem_of_lookup hx))
   . exact I3.bs b o e
   . exact zAb I2.ok.bsz (zAb (zAb I2.sz (by rw[t];exact zA6 _)) (by show D<=h3.objs.size;lia))
   . rcases (f2 b f).2.2.2.1 with z | z
     . exact I2.ok.noex b o e z
     exact absurd (zA8 (zA4 (I2.ok.bs b o e).1) z) (zB8 _)
   . exact I3.stack
   . exact I3.stkFree b f
   . -- a captured name
     have hi:i < src.length:=by
       have:=(zAd.mp F).1
       rw[a7,<- H] at this;exact this
     have e1:NY[i]? = some x:=e1;have es:src[i]? = some src[i]:=by simp[hi]
     have ep:(Ax σ src)[i]? = some (match src[i] with | none=>none | some j=>(σ[j]?).getD none):=by
       unfold Ax;rw[zB0,es];rfl
     rw[ep] at F;cases hj:src[i] with
     | none=>rw[hj] at F;cases F
     | some j =>
       rw[hj] at F;have F:(σ[j]?).getD none=some v:=Mc F;have ej:σ[j]? = some (some v):=by
         cases q:σ[j]? with
         | none=>rw[q] at F;cases F
         | some o=>rw[q] at F;rw[show o=some v from F]
       have hm:(x,some j)∈NY.zip src:=by
         have:(NY.zip src)[i]? = some (x,some j):=by
           rw[List.getElem?_zip_eq_some];exact⟨e1,by rw[es,hj]⟩
         exact List.mem_of_getElem? this
       have q:=U _ hm;simp only[zAz,zB4] at q;obtain⟨qN,qf⟩:=q;have I:=hfree _ (PySem.mem_of_lookup qf) rfl;obtain⟨m,hn,hl⟩:=I3.loc;obtain⟨u,r,l⟩:=hl j x v qN ej (I.elim (λ z=>.inr (.inl z)) λ z=>.inr (.inr z));refine⟨u,r,.inr ⟨qc3 qf,?_⟩⟩;rcases l with⟨z,_⟩ | ⟨_,c,ec,o,G,P⟩
       . have I:X.env.kindOf x=some .cell∨X.env.kindOf x=some .free:=I
         rw[z] at I;rcases I with I | I<;>cases I
       obtain⟨c',a8⟩:=qh5 (qo5 (env:=X.env) sc.names [] x (PySem.mem_of_lookup qf))
       have:=clsub x c' a8
       rw[ec] at this;cases this;exact⟨c,a8,o,B c o G,P⟩
   obtain⟨v,o,G,P⟩:=I3.cell x c (clsub x c e);exact⟨v,o,B c o G,P⟩
 have st₁:tn 0 h₁:=T.keep _ _ _ M λ b f o e=>B b o (a4 b o e)
 have stat:∀{H':Hp},(∀ b∈fp,H' b=none)->∀ b∈fp,Bq Y [] H' b:=λ hn b f=>by
   refine⟨hn b f,a3 b f,a6 b f,.inl f,λ x c e=>(f2 b f).2.2.2.2.1 x c (clsub x c e),λ p hp=>absurd (show p∈([]:List (γ×Obj)) from hp) (by simp)⟩
 have loop:codeAny (J' X.prog X.w) X.A (.compLoop (.ListComp elt [⟨tg,iter,ifs,0⟩] sc pos) 0 (.ref it) (.ref D) Y.env) (RR (.ref D) C) { s2 with heap:=h₁,toks:=s2.toks+0 }:=by
   obtain⟨W,⟨m0,w0⟩,turn⟩:=rd D hD;refine qe5 (λ n s'=>∃ i σ' H',M1 Y [] σ' H' s'/\tn i s'.heap/\(∀ b∈fp,H' b=none)/\W i n σ' H') ?_ m0 ⟨0,_,_,IY,st₁,λ b f=>by rw[qa4 (b2 b f)];exact(f2 b f).1,w0⟩;rintro n s3 ⟨i,σ3,H3,J3,a9,b0,w3⟩;rcases turn i n σ3 H3 w3 with⟨stop,qn⟩ | ⟨go,N,hN,step⟩
   . refine thn (T.done Y rfl rfl rfl (hc _ _ _) i [] s3 σ3 H3 _ J3 (stat b0) a9 stop) λ r s4 k=>?_
     obtain⟨hr,J4⟩:=k;subst hr;have b4:H3 C=none:=J4.free;refine fin D C H3 s4 ?_ qn b4 b3 (Ne.symm a2) b1 pinC a5 (let ⟨m,hn,_⟩:=J4.loc;⟨m,hn⟩);refine I2.call' (ch:=fp) J4.os ?_ J4.hok J4.bare λ b f=>?_
     . have u1:Un (frs X.stack) fp H2 (upd H2 D (.l [])) s2.heap h3:=Un.laid a4 (Nat.le_of_eq t) hD
       exact u1.trans J4.base
     obtain⟨_,h1,_,b5,h4,h5⟩:=f2 b f;exact⟨b5,h1,h4,h5⟩
   refine thn (T.item Y rfl rfl rfl (hc _ _ _) i [] s3 σ3 H3 _ J3 (stat b0) a9 go) λ r s4 k=>?_
   obtain⟨u,hr,h4⟩:=k;subst hr;refine thn h4 λ _ s5 k=>?_
   obtain⟨x,H5,J5,r5,y5,O,b6⟩:=k;have J5':=J5.pinned (stat b6) (T.obj _ _ O);have again:∀{σ7:St}{H7:Hp}{Q:Sh},M1 Y ([]++qv7 fp s5.heap) σ7 H7 Q->N σ7 H7->∃ m,m < n/\∃ i σ' H',M1 Y [] σ' H' Q/\tn i Q.heap/\(∀ b∈fp,H' b=none)/\W i m σ' H':=λ{σ7 H7 Q} I7 n7=>by
     obtain⟨m',hm,w7⟩:=hN σ7 H7 n7;refine⟨m',hm,i+1,σ7,H7,I7.unpinned,T.keep _ _ _ O λ b f o e=>(I7.pin (b,o) (zAq _ (zAq _ (qf3 f e)))).1,λ b f=>?_,w7⟩;obtain⟨o,e,d⟩:=T.obj _ _ O b f;exact(I7.pin (b,o) (zAq _ (zAq _ (qf3 f e)))).2.1
   refine thn (hg C _ _ _ s5 σ3 H5 x u _ J5' r5 (step x H5 y5)) λ _ s6 k=>?_
   obtain⟨σ6,H6,J6,q6⟩:=k;refine thn (hf C _ _ _ s6 σ6 H6 _ J6 q6) λ ok Q k=>?_
   obtain⟨H7,J7,q7⟩:=k;cases ok with
   | false=>exact again J7 (by simpa using q7)
   | true =>
     rw[if_pos rfl] at q7 ⊢;refine thn (he C _ _ _ Q σ6 H7 _ J7 q7) λ y s8 k=>?_
     obtain⟨v,H8,J8,r8,xs,b7,b8,q8⟩:=k;refine thn (qB3 (X:=Y) _ s8 σ6 H8 (.ref D) [v] (.ref D) [y] (λ _ H'=>N σ6 H') J8 rfl (.cons r8 .nil) ⟨D,xs,v,rfl,rfl,b7,b8,q8⟩) λ _ s9 k=>?_
     obtain⟨_,H9,J9,_,q9⟩:=k;exact again J9 q9
 exact codeAny_compStart_list loop (T.self _ 0 _ _ _ st₁ loop)
end
def Iy(wi:TI)(src:List (Option Nat))(g:TG)(tf:TT)(te:TE):TE:=λ a H Q=>wi a H λ J H1=>∀ D,H1 D=none->qr6 J g tf te D (λ H'=>Q (.ref D) H') (Ax a src) (upd H1 D (.l []))
section
variable{X:Cx}{elt tg Y:Kt}{ifs:List Kt}{Z:Scope}{pos:Pos}{NY:List Str}{src:List (Option Nat)}{wi:TI}{g:TG}{tf:TT}{te:TE}
theorem qy8(b:qo4 X NY src Z=true):Z.kind=.function/\(∀ y∈Z.names,y.2=.local->Z.names.lookup y.1=some .local)/\(∀ y∈Z.names,y.2=.free->(X.env.kindOf y.1=some .cell∨X.env.kindOf y.1=some .free)):=by
 unfold qo4 at b;simp only[zAz,zB4,Lr] at b;obtain⟨⟨⟨hkind,d⟩,a⟩,f⟩:=b;refine⟨hkind,λ y c e=>?_,λ y c e=>?_⟩
 . have:=(a y c).1.2
   rw[e] at this;simpa using this
 have:=(a y c).2
 rw[e] at this;show X.env.scope.names.lookup y.1=some .cell∨X.env.scope.names.lookup y.1=some .free;simpa using this
theorem qv8{cl:Cx->Prop}(NY:List Str)(src:List (Option Nat))(hi:PIC cl X tg Y wi)(n:∀ C a H0 ex,PG (qc7 X NY Z C a H0 ex) tg g)(p:∀ C a H0 ex,PFs (qc7 X NY Z C a H0 ex) ifs tf)(r:∀ C a H0 ex,PE (qc7 X NY Z C a H0 ex) elt te)(t:∀ C a H0 ex,cl (qc7 X NY Z C a H0 ex))(l:qo4 X NY src Z=true:=by rfl)(u:∀ x,Jm Y X.env x=pure x:=by intro _;rfl):PE X (.ListComp elt [⟨tg,Y,ifs,0⟩] Z pos) (Iy wi src g tf te):=by
 intro Ko s W H Q I h;obtain⟨hkind,hnames,hfree⟩:=qy8 l;rw[eval_ListComp];refine wpAny_comprehension_free (use:=none) rfl u (qz1 λ x y e=>I.ok.has x.1 (hfree x y e)) hkind hnames ?_;refine thn (hi Ko s W H _ I h) λ v O c=>thn c λ z P d=>?_
 obtain⟨B,f,S,J,H2,rfl,I2,T,i,f2,E⟩:=d;refine qy9 (R:=λ D H'=>Q (.ref D) H') (RR:=λ j C=>compPost (J' X.prog X.w) X.A X.xe none (EP X Ko W Q) j C) l (λ _ _ _=>t _ _ _ _) I2 T i f2 (λ C a H0=>n C a H0 f) (λ C a H0=>p C a H0 f) (λ C a H0=>r C a H0 f) E ?_;intro D C H' F I' q G c d K L U ⟨m,M⟩;refine⟨m,M,λ V k=>⟨.ref D,H',?_,rfl,q⟩⟩;exact I'.turned (t':=F.toks) (it:=C) (λ b o N e=>k.extBut b o N e) G d (.inr c) K L
theorem qO3(NY:List Str)(src:List (Option Nat))(hi:PI X tg Y wi)(b:∀ C a H0 ex,PG (qc7 X NY Z C a H0 ex) tg g)(c:∀ C a H0 ex,PFs (qc7 X NY Z C a H0 ex) ifs tf)(d:∀ C a H0 ex,PE (qc7 X NY Z C a H0 ex) elt te)(e:X.calm=true:=by rfl)(f:qo4 X NY src Z=true:=by rfl)(h:∀ x,Jm Y X.env x=pure x:=by intro _;rfl):PE X (.ListComp elt [⟨tg,Y,ifs,0⟩] Z pos) (Iy wi src g tf te):=qv8 NY src hi b c d (λ _ _ _ _=>e) f h
end
theorem qC9{K:Mf}{D:γ}{g:TG}{tf:TT}{te:TE}{R:Hp->Prop}{n:St}(Pv:Nat->St->Hp->Prop)(h0:Pv 0 n H)(c:∀ i n H,i<=xs.length->Pv i n H->SqL K H a xs)(d:∀ i x n H,xs[i]? = some x->Pv i n H->g x n H λ σ2 H2=>tf σ2 H2 λ f H3=>if f=true then te σ2 H3 λ v H4=>∃ ys,H4 D=some (.l ys)/\ys.length < Jk/\Pv (i+1) σ2 (upd H4 D (.l (ys++[v]))) else Pv (i+1) σ2 H3)(h:∀ n H,Pv xs.length n H->R H) :
   qr6 (Itl K a) g tf te D R n H:=by
 refine⟨λ i m n H=>m=xs.length - i/\i<=xs.length/\Pv i n H,⟨xs.length,by simp,Nat.zero_le _,h0⟩,?_⟩;rintro i m n H ⟨rfl,j,p⟩;have q:=c i n H j p;by_cases b:i < xs.length
 . refine .inr ⟨⟨xs,xs[i],q,by simp[b]⟩,Pv (i+1),λ n' H' k=>⟨xs.length - (i+1),by lia,rfl,b,k⟩,λ x H' y=>?_⟩
   obtain⟨e,y⟩:=y;subst e;exact d i x n _ (y xs q) p
 have e:i=xs.length:=by lia
 subst e;exact .inl ⟨⟨xs,q,zA6 _⟩,h n H p⟩
theorem qy7{D:γ}{lo:Int}{n:Nat}{g:TG}{tf:TT}{te:TE}{R:Hp->Prop}{j:St}(Pv:Nat->St->Hp->Prop)(h0:Pv 0 j H)(b:∀ i j H,i < n->Pv i j H->g (.int (lo+i)) j H λ σ2 H2=>tf σ2 H2 λ c H3=>if c=true then te σ2 H3 λ v H4=>∃ ys,H4 D=some (.l ys)/\ys.length < Jk/\Pv (i+1) σ2 (upd H4 D (.l (ys++[v]))) else Pv (i+1) σ2 H3)(d:∀ j H,Pv n j H->R H) :
   qr6 (Itr lo n) g tf te D R j H:=by
 refine⟨λ i m j H=>m=n - i/\i<=n/\Pv i j H,⟨n,by simp,Nat.zero_le _,h0⟩,?_⟩;rintro i m j H ⟨rfl,h,p⟩;by_cases a:i < n
 . refine .inr ⟨a,Pv (i+1),λ j' H' f=>⟨n - (i+1),by lia,rfl,a,f⟩,λ x H' y=>?_⟩
   obtain⟨e,y⟩:=y;subst e y;exact b i j _ a p
 have e:i=n:=by lia
 subst e;exact .inl ⟨zA6 _,d j H p⟩
section
variable{X:Cx}
theorem sset(i:Nat){te:TE}{pos pos':Pos}(a:X.N.Nodup)(b:PE X e te)(hi:X.N[i]? = some x:=by rfl)(c:Loc X.env.scope x:=by first | exact Mv rfl | exact Mu rfl)(d:swapsWith e (some (.Name x pos')) pos.line X.env=pure false:=by rfl)(f:X.fn x=true∨X.env.scope.names.lookup x=some .local:=by first | exact .inl rfl | exact .inr rfl | assumption):PS X (.Assign [.Name x pos'] e pos) (tAsg te (Ho i)):=qM9 a hi c b d f
theorem gnm(i:Nat){pos:Pos}(a:X.N.Nodup)(hi:X.N[i]? = some x:=by rfl)(b:Loc X.env.scope x:=by first | exact Mv rfl | exact Mu rfl)(c:X.fn x=true∨X.env.scope.names.lookup x=some .local:=by first | exact .inl rfl | exact .inr rfl | assumption):PG X (.Name x pos) (Ho i):=qE2 a hi b c
def CDivB(_ j:Int):Prop:=0 < j/\j < 2 ^ 200
theorem qw0:OpR X (J0 .FloorDiv) (rI CDivB λ i j=>.int (i / j)):=opI λ i j _ _ _ _ _ a q=>by
 have c:=a.1;have d:=a.2;refine floordiv_int (by grind) (by rw[Int.fdiv_eq_ediv_of_nonneg i (by grind)];exact q) (.inl (PyProof.noPylong_of_log2 ?_));have b:j.natAbs < 2 ^ 200:=by grind
 have e:=(Nat.log2_lt (by grind)).mpr b
 grind
theorem qN9{j:Int}(k:Int){a b:Nat}{q pos:Pos}(c:i ^ j.toNat=k:=by decide)(h0:0<=j:=by decide)(h1:j<=1000000:=by decide)(h2:i.natAbs < 2 ^ 64:=by decide):PE X (.BinOp (.Constant (.int i) a p) .Pow (.Constant (.int j) b q) pos) (tC (.int k)):=by
 intro Ko s m H Q I h;refine(pe_op qU5 qn8 qn8) Ko s m H Q I ⟨_,_,rfl,rfl,⟨h0,h1,h2⟩,?_⟩;show Q (.int (i ^ j.toNat)) H;rw[c];exact h
def A4(H:Hp):V->Option String
 | .non=>some "NoneType" | .bl _=>some "bool" | .int _=>some "int" | .str _=>some "str"
 | .ref a=>match H a with
   | some (.l _)=>some "list" | some (.q _)=>some "tuple" | some (.dK _)=>some "dict" | some (.frz _ (.l _))=>some "list"
   | _=>none
 | _=>none
noncomputable def subT(t n:String):Bool:=t == n||(t == "bool" && n == "int")
theorem qP7(K:Mf){t n:String}(a:t∈["NoneType", "bool", "int", "str", "list", "tuple", "dict"])(b:n∈["bool", "int", "str", "list", "tuple", "dict"]):Me K (.type t) (.type n)=some (subT t n):=by
 simp only[zAm,zB9,or_false] at a b;rcases a with rfl | rfl | rfl | rfl | rfl | rfl | rfl<;>rcases b with rfl | rfl | rfl | rfl | rfl | rfl<;>rfl
theorem qI1{K:Mf}{x:V}{t:String}(h:A4 H x=some t):Bc K H x (.type t)/\t∈["NoneType", "bool", "int", "str", "list", "tuple", "dict"]:=by
 cases x with
 | non=>cases h;exact⟨.non,by decide⟩
 | bl b=>cases h;exact⟨.bl b,by decide⟩
 | int b=>cases h;exact⟨.int b,by decide⟩
 | str b=>cases h;exact⟨.str b,by decide⟩
 | byt b=>cases h
 | flt b=>cases h
 | ty b=>cases h
 | ref a =>
   unfold A4 at h;dsimp only at h;split at h
   . cases h;exact⟨.l (by assumption),by decide⟩
   . cases h;exact⟨.q (by assumption),by decide⟩
   . cases h;exact⟨.dK (by assumption),by decide⟩
   . cases h;exact⟨.frz (by assumption),by decide⟩
   cases h
def rIsi:List V->Hp->VK->Prop:=λ xs H Q=>∃ x n t,xs=[x,.ty n]/\A4 H x=some t/\n∈["bool", "int", "str", "list", "tuple", "dict"]/\Q (.bl (subT t n)) H
theorem qz5:CallR X (.builtin "isinstance") rIsi:=by
 intro Ko s m H g i Q I r h;obtain⟨x,n,t,rfl,b,c,q⟩:=h;obtain⟨u,j,rfl,d,a⟩:=vals2 r;cases a;obtain⟨ty,e⟩:=qI1 b;exact qB5 I d ty (qP7 X.K e c) λ f=>⟨.bl _,H,I.tok f,rfl,q⟩
theorem qO5(n:String){pos:Pos}(a:X.mg x=none)(b:Gl X x:=by rfl)(hv:Jo x=some (.type n):=by rfl)(c:x ≠ "__name__" := by decide)(d:N' x:=by decide):PE X (.Name x pos) (tC (.ty n)):=qO6 b a hv rfl c d
theorem cbi{id:String}{es:List Kt}{t:TA}{r:List V->Hp->VK->Prop}{pos:Pos}(c:CallR X (.builtin id) r)(d:X.mg x=none)(f:PA X (e::es) t)(g:Gl X x:=by rfl)(hv:Jo x=some (.builtin id):=by rfl)(h:x ≠ "__name__" := by decide)(a:N' x:=by decide)(i:Jj (e::es) X.env=(false,eval e X.env)::Jj es X.env:=by rfl)(b:(backTo pos (Jj es X.env)).any (·.1)=false:=by rfl):PE X (.Call (.Name x p) (e::es) [] pos) (tCB r t):=qH2 c g d hv f h a i b
end
theorem ix{X:Cx}{a b:Kt}{ta tb:TE}{pos:Pos}{r:R2}(c:IxR X r)(d:PE X a ta)(e:PE X b tb)(f:qA0 b:=by exact λ _ _=>rfl):PE X (.Subscript a b pos) (tOp r ta tb):=pe_ix c d e f
def rGetL:V->V->Hp->VK->Prop:=λ o i H Q=>∃ p xs k v,o=.ref p/\i=.int k/\H p=some (.l xs)/\0<=k/\xs[k.toNat]? = some v/\Q v H
theorem qI7{X:Cx}:PGet X rGetL:=by
 intro Ko s B H o i w x Q I b c h;obtain⟨p,y,k,v,rfl,rfl,d,e,a,q⟩:=h;cases b;obtain⟨t,rfl⟩:=c;obtain⟨f,n,r,g,z⟩:=I.l d;obtain⟨u,j,l⟩:=r.get a;have m:=(zAd.mp a).1;have A:=qo2;refine wpAny_getItem_list ⟨_,g,rfl,n,rfl⟩ e (by lia) (by simpa using j) ⟨v,H,I,l,q⟩
theorem qX3{xs:List α}(h0:0<=i)(h1:i < xs.length):∃ v,xs[i.toNat]? = some v/\atI xs i=some v:=by
 have a:i.toNat < xs.length:=by lia
 have e:(i.toNat:Int)=i:=by lia
 refine⟨xs[i.toNat],by simp[a],?_⟩
 have:=qF0 (xs:=xs) (j:=i.toNat) (v:=xs[i.toNat]) (by simp[a])
 rw[e] at this;exact this
theorem qz6{xs:List α}(h0:0<=i)(h1:i < xs.length):∃ v,v∈xs/\atI xs i=some v:=by
 obtain⟨v,h,e⟩:=qX3 h0 h1;exact⟨v,List.mem_of_getElem? h,e⟩
theorem qx5(h:H a=some (.l xs)):A4 H (.ref a)=some "list" := by
 unfold A4;dsimp only;rw[h]
theorem qI0(h:H a=some (.q xs)):A4 H (.ref a)=some "tuple" := by
 unfold A4;dsimp only;rw[h]
theorem qE6{xs:List (Key×V)}(h:H a=some (.dK xs)):A4 H (.ref a)=some "dict" := by
 unfold A4;dsimp only;rw[h]
theorem Same.new{q:γ}{u:HO}(h:H q=none):Same H (upd H q u):=λ b o e=>by rw[qa4 (qa9 e h)];exact e
structure Df(K:Mf)(mg:Str->Option V')(x qual:Str)(st:Ku)(f:γ)(fd:δ)(ps:List Str):Prop where
 F:Fun K x qual st f fd
 b:Binds K fd ps []
 m:mg x=some (.ref f)
theorem dfmk{K:Mf}{mg:Str->Option V'}{qual:Str}{st:Ku}{f:γ}{ps:List Str}{j:V'}{od d:Option γ}{i:Array (Option V')}{kV b e a g:V'}(l:K.lookup f=some ⟨j,od,.func (W.fnOf x qual (qc4 st) (qb5 st) (qa1 st) .none kV b e d a g),i⟩)(c:W.codeIn K a qual=true)(k:W.keepIn K (.ref f)=true)(m:mg x=some (.ref f))(h:∀(kV b e:V')(d:Option γ)(a g:V')(us:List V'),us.length=ps.length->bindArgs (W.fnOf x qual (qc4 st) (qb5 st) (qa1 st) .none kV b e d a g) ⟨us,[]⟩=pure (ps.zip us)) :
   Df K mg x qual st f (W.fnOf x qual (qc4 st) (qb5 st) (qa1 st) .none kV b e d a g) ps:=⟨qB9 l c k,(qB9 l c k).binds h,m⟩
theorem callD{X:Cx}{qual:Str}{st:Ku}{f:γ}{fd:δ}{ps:List Str}{k:Nat}{sp:Sp}{es:List Kt}{t:TA}{pos:Pos}(D:Df X.K X.mg x qual st f fd ps)(G:Bm X.prog X.w X.K X.mg X.base CX0 k f fd ps sp)(d:Hd k X.A)(g:PA X (e::es) t)(h:Gl X x:=by rfl)(a:N' x:=by decide)(i:Jj (e::es) X.env=(false,eval e X.env)::Jj es X.env:=by rfl)(c:(backTo pos (Jj es X.env)).any (·.1)=false:=by rfl):PE X (.Call (.Name x p) (e::es) [] pos) (Iw sp [] (λ _=>E0) t) :=
 qv9 G d h D.m D.F.kp D.b .nil pass0 g a i c
end L2
namespace LD
open PySem PySem.SeqAt MeetsSeq
open AutoSeq1 (wpAny_loadPart')
theorem qJ8(l b:γ)(es:Array DictEntry)(items2:Array V')(n e:Nat)(f a:Option γ)(i c:Array (Option V')) :
   Meets (Builtin.«dict.__eq__» ⟨[.ref l,.ref b],[]⟩) (λ _ R s=>s.heap.get? l=some { cls:=.type "dict",dict:=f,data:=.dict es n,slots:=i }/\s.heap.get? b=some { cls:=.type "tuple",dict:=a,data:=.seq items2 e,slots:=c }/\R (.ok (.ret .notImplemented)) s) :=
 .of_wp λ prog w A R s h=>by obtain⟨m,g,d,o,p⟩:=s;obtain⟨j,k,h⟩:=h;have q:=Mg;wp_walk using wpAny_loadPart' j,wpAny_loadPart' k;exact⟨_,rfl,h⟩
theorem qF3(l b:γ)(es:Array DictEntry)(items2:Array V')(n e:Nat)(f a:Option γ)(i c:Array (Option V')) :
   Meets (Builtin.«tuple.__eq__» ⟨[.ref b,.ref l],[]⟩) (λ _ R s=>s.heap.get? l=some { cls:=.type "dict",dict:=f,data:=.dict es n,slots:=i }/\s.heap.get? b=some { cls:=.type "tuple",dict:=a,data:=.seq items2 e,slots:=c }/\R (.ok (.ret .notImplemented)) s) :=
 .of_wp λ prog w A R s h=>by obtain⟨m,g,d,o,p⟩:=s;obtain⟨j,k,h⟩:=h;have q:=Ml;wp_walk using wpAny_loadPart' j,wpAny_loadPart' k;exact⟨_,rfl,h⟩
theorem qH6(l b:γ)(es:Array DictEntry)(items2:Array V')(n e:Nat)(f a:Option γ)(i c:Array (Option V')) :
   Meets (Builtin.«dict.__ne__» ⟨[.ref l,.ref b],[]⟩) (λ _ R s=>s.heap.get? l=some { cls:=.type "dict",dict:=f,data:=.dict es n,slots:=i }/\s.heap.get? b=some { cls:=.type "tuple",dict:=a,data:=.seq items2 e,slots:=c }/\R (.ok (.ret .notImplemented)) s) :=
 .of_wp λ prog w A R s h=>by obtain⟨m,g,d,o,p⟩:=s;obtain⟨j,k,h⟩:=h;have q:=Mg;wp_walk using wpAny_loadPart' j,wpAny_loadPart' k;exact⟨_,rfl,h⟩
theorem qF2(l b:γ)(es:Array DictEntry)(items2:Array V')(n e:Nat)(f a:Option γ)(i c:Array (Option V')) :
   Meets (Builtin.«tuple.__ne__» ⟨[.ref b,.ref l],[]⟩) (λ _ R s=>s.heap.get? l=some { cls:=.type "dict",dict:=f,data:=.dict es n,slots:=i }/\s.heap.get? b=some { cls:=.type "tuple",dict:=a,data:=.seq items2 e,slots:=c }/\R (.ok (.ret .notImplemented)) s) :=
 .of_wp λ prog w A R s h=>by obtain⟨m,g,d,o,p⟩:=s;obtain⟨j,k,h⟩:=h;have q:=Ml;wp_walk using wpAny_loadPart' j,wpAny_loadPart' k;exact⟨_,rfl,h⟩
section
variable{A:Kr}{s:Sh}
theorem rc_dt{l b:γ}{es:Array DictEntry}{n:Nat}{i:Option γ}{j:Array (Option V')}{items2:Array V'}(d:s.heap.get? l=some { cls:=.type "dict",dict:=i,data:=.dict es n,slots:=j })(r:s.heap.IsTuple b items2)(q:A.units < cLine):RcAt A s (.ref l) (.ref b) false/\RcNeAt A s (.ref l) (.ref b) true:=by
 obtain⟨⟨cls2,f,data2,g⟩,a,o,m,p⟩:=id r;subst o p;have k:l≠b:=λ e=>by
   grind
 exact⟨λ prog w E Q h=>rc_eq_decline_or ⟨_,d,rfl⟩ ⟨_,a,rfl⟩ (by decide) Mg Mo Mi
     (λ _ c=>Jy Mo ⟨_,d,rfl⟩ F.entry_dict_eq (F.args_dict_eq_2 _ _) (qJ8 l b es items2 n m i f j g) ⟨d,a,c⟩)
     (λ _ c=>Jy Mi ⟨_,a,rfl⟩ F.entry_tuple_eq (F.args_tuple_eq_2 _ _) (qF3 l b es items2 n m i f j g) ⟨d,a,c⟩)
     (λ _ c=>wpAny_isSame_ref_other k d a (by simp) c) (.inr q) h,
   λ prog w E Q h=>rc_ne_decline_or ⟨_,d,rfl⟩ ⟨_,a,rfl⟩ (by decide) Mg Mp Mj
     (λ _ c=>Jy Mp ⟨_,d,rfl⟩ F.entry_dict_ne (F.args_dict_ne_2 _ _) (qH6 l b es items2 n m i f j g) ⟨d,a,c⟩)
     (λ _ c=>Jy Mj ⟨_,a,rfl⟩ F.entry_tuple_ne (F.args_tuple_ne_2 _ _) (qF2 l b es items2 n m i f j g) ⟨d,a,c⟩)
     (λ _ c=>wpAny_isSame_ref_other k d a (by simp) c) (.inr q) h⟩
end
end LD
namespace L2
open PySem PySem.Spec PyProof.Rows PySem.SeqAt
variable{A:Kr}{a:γ}{xs:List V}
noncomputable def kvO:Option (Int×Int)->List (Key×V)
 | none=>[]
 | some (k,i)=>[(.inl k,.int i)]
inductive EqD(H:Hp):Nat->V->V->Bool->Prop
 | flat {n:Nat} {x y:V} (hx:flatV x=true) (hy:flatV y=true):EqD H n x y (eqV x y)
 | same {n:Nat} (a:γ):EqD H n (.ref a) (.ref a) true
 | lsts {n:Nat} {a b:γ} {xs ys:List V} {e:Nat->Bool} (ne:a≠b) (ha:H a=some (.l xs)) (hb:H b=some (.l ys)) (hl:xs.length=ys.length) (he:∀ i x y,xs[i]? = some x->ys[i]? = some y->EqD H n x y (e i)):EqD H (n+1) (.ref a) (.ref b) ((Lc xs.length).all e)
 | lens {n:Nat} {a b:γ} {xs ys:List V} (ne:a≠b) (ha:H a=some (.l xs)) (hb:H b=some (.l ys)) (hl:xs.length≠ys.length):EqD H (n+1) (.ref a) (.ref b) false
 | tups {n:Nat} {a b:γ} {xs ys:List V} {e:Nat->Bool} (ne:a≠b) (ha:H a=some (.q xs)) (hb:H b=some (.q ys)) (he:∀ i x y,xs[i]? = some x->ys[i]? = some y->EqD H n x y (e i)):EqD H (n+1) (.ref a) (.ref b) ((Lc (min xs.length ys.length)).all e&&xs.length == ys.length)
 | dcts {n:Nat} {a b:γ} {o:Option (Int×Int)} (ne:a≠b) (ha:H a=some (.dK (kvO o))) (hb:H b=some (.dK (kvO o))):EqD H n (.ref a) (.ref b) true
inductive RcD(H:Hp):V->V->Bool->Prop
 | flat {x y:V} (hx:flatV x=true) (hy:flatV y=true):RcD H x y (eqV x y)
 | lsts {a b:γ} {xs ys:List V} {e:Nat->Bool} (ha:H a=some (.l xs)) (hb:H b=some (.l ys)) (hl:xs.length=ys.length) (he:∀ i x y,xs[i]? = some x->ys[i]? = some y->EqD H 20 x y (e i)):RcD H (.ref a) (.ref b) ((Lc xs.length).all e)
 | lens {a b:γ} {xs ys:List V} (ha:H a=some (.l xs)) (hb:H b=some (.l ys)) (hl:xs.length≠ys.length):RcD H (.ref a) (.ref b) false
 | tups {a b:γ} {xs ys:List V} {e:Nat->Bool} (ha:H a=some (.q xs)) (hb:H b=some (.q ys)) (he:∀ i x y,xs[i]? = some x->ys[i]? = some y->EqD H 20 x y (e i)):RcD H (.ref a) (.ref b) ((Lc (min xs.length ys.length)).all e&&xs.length == ys.length)
 | lt {a b:γ} {xs ys:List V} (ha:H a=some (.l xs)) (hb:H b=some (.q ys)):RcD H (.ref a) (.ref b) false
 | tl {a b:γ} {xs ys:List V} (ha:H a=some (.q xs)) (hb:H b=some (.l ys)):RcD H (.ref a) (.ref b) false
 | lf {a:γ} {xs:List V} {y:V} (ha:H a=some (.l xs)) (hy:flatV y=true):RcD H (.ref a) y false
 | fl {a:γ} {xs:List V} {y:V} (ha:H a=some (.l xs)) (hy:flatV y=true):RcD H y (.ref a) false
 | tf {a:γ} {xs:List V} {y:V} (ha:H a=some (.q xs)) (hy:flatV y=true):RcD H (.ref a) y false
 | ft {a:γ} {xs:List V} {y:V} (ha:H a=some (.q xs)) (hy:flatV y=true):RcD H y (.ref a) false
 | dcts {a b:γ} {o:Option (Int×Int)} (ha:H a=some (.dK (kvO o))) (hb:H b=some (.dK (kvO o))):RcD H (.ref a) (.ref b) true
 | dt {a b:γ} {kvs:List (Key×V)} {ys:List V} (ha:H a=some (.dK kvs)) (hb:H b=some (.q ys)):RcD H (.ref a) (.ref b) false
section
variable{X:Cx}{M:List (γ×Obj)}{L:St}{H:Hp}{s:Sh}
theorem M1.lstI(I:M1 X M L H s)(h:H a=some (.l xs)):∃ its:List V',Mz xs its/\s.heap.IsList a its.toArray:=by
 obtain⟨z,its,n,r,_,e⟩:=I.lstM h;exact⟨its,r,_,e,rfl,n,rfl⟩
theorem M1.tupI(I:M1 X M L H s)(h:H a=some (.q xs)):∃ its:List V',Mz xs its/\s.heap.IsTuple a its.toArray:=by
 obtain⟨z,its,r,o,b,c,n,d⟩:=I.hok a _ h;exact⟨its,r,o,b,c,n,d⟩
theorem M1.dK0(I:M1 X M L H s){kvs:List (Key×V)}(h:H a=some (.dK kvs)):∃ es n,s.heap.get? a=some { cls:=.type "dict",dict:=none,data:=.dict es n,slots:=#[] }:=by
 obtain⟨_,_,_,_,⟨g,i,j,k⟩,es,l,b,⟨c,d,e⟩,f,_⟩:=I.hok a _ h;cases c;cases d;cases e;cases f;exact⟨_,_,b⟩
theorem qB1{P P':Kq}{w f:Ks}{es:List DictEntry}{kvs:List (Key×V')}(h:Pairs (qe2 P w) es kvs):(∀ p∈kvs,∃ i,p.1=Sum.inl i)->Pairs (qe2 P' f) es kvs/\∀ e∈es,∃ i,Is (.inl i) e.key=true:=by
 induction h with
 | nil=>exact λ _=>⟨.nil,λ _ z=>absurd z zB9⟩
 | @cons e kv es kvs a b _ ih =>
   intro d;obtain⟨p,q⟩:=ih λ x c=>d x (.tail _ c)
   obtain⟨i,g⟩:=d kv (.head _);exact⟨.cons a b p,λ x c=>(zAm.mp c).elim (λ z=>z ▸ ⟨i,g ▸ a⟩) (q x)⟩
theorem ql4{P P':Kq}{w f:Ks}{h:Heap}{kvs:List (Key×V')}(d:h.DictOf (qe2 P w) a kvs)(g:∀ p∈kvs,∃ i,p.1=Sum.inl i):h.DictOf (qe2 P' f) a kvs:=by
 obtain⟨o,j,l,m,n,r,s,t,u⟩:=d;obtain⟨p,q⟩:=qB1 t g;refine⟨o,j,l,m,n,r,λ e b=>?_,p,u⟩;obtain⟨k,c,v⟩:=s e b;obtain⟨i,x⟩:=q e (Array.mem_toList_iff.mpr b);cases (qe2 P w).inj _ _ (.inl i) c x;exact⟨.inl i,c,v⟩
theorem qM3(I:M1 X M L H s){b:γ}{o:Option (Int×Int)}(C:H a=some (.dK (kvO o)))(D:H b=some (.dK (kvO o)))(l:A.units < cLine):RcAt A s (.ref a) (.ref b) true/\RcNeAt A s (.ref a) (.ref b) false:=by
 obtain⟨_,m,c,r,d⟩:=I.hok a _ C;obtain⟨_,n,f,u,B⟩:=I.hok b _ D;have q:W.KeqHits A.in1 s f c true/\(c.length == f.length&&true)=true/\(∀ p∈c,∃ i,p.1=Sum.inl i)/\∀ p∈f,∃ i,p.1=Sum.inl i:=by
   obtain _ | ⟨k,i⟩:=o
   . cases r;cases u;exact⟨.nil,rfl,λ _ z=>absurd z zB9,λ _ z=>absurd z zB9⟩
   obtain _ | ⟨⟨e,t,p⟩,z⟩:=r
   obtain _ | ⟨⟨F,g,G⟩,J⟩:=u
   cases z;cases J
   rename_i x y
   obtain⟨x,w⟩:=x;obtain⟨y,K⟩:=y;cases e;cases F;cases p;cases G
   have:=W.KeqHits.hit (A:=A.in1) (s:=s) (kb:=[(.inl k,.int i g)]) (k:=(.inl k:Key)) (v:=.int i t) (r:=[]) (y:=.int i g) (show Option.map _ (List.find? _ _)=_ by rw[List.find?_cons_of_pos (by exact zB5 rfl)];rfl) (qJ9 (x:=.int i) (y:=.int i) ⟨t,rfl⟩ ⟨g,rfl⟩ rfl rfl) .nil
   rw[show eqV (.int i) (.int i)=true from zB5 rfl] at this;exact⟨this,rfl,λ p j=>⟨k,congrArg Prod.fst (zAu.mp j)⟩,λ p j=>⟨k,congrArg Prod.fst (zAu.mp j)⟩⟩
 exact⟨λ prog w E Q h=>W.keq_eq (knd:=qe2 prog w) m n (ql4 d q.2.2.1) (ql4 B q.2.2.2) l (λ _=>q.1) (by rw[q.2.1];exact h),λ prog w E Q h=>W.keq_ne (knd:=qe2 prog w) m n (ql4 d q.2.2.1) (ql4 B q.2.2.2) l (λ _=>q.1) (by rw[q.2.1];exact h)⟩
theorem qg4(A:Kr):A.in1.units<=A.units+1:=zA6 _
theorem qo9{P:V->V->Nat->Prop}{e:Nat->Bool}{ys:List V}{its its2:List V'}(r:Mz xs its)(a:Mz ys its2)(k:∀ i x y u v,xs[i]? = some x->ys[i]? = some y->Mx x u->Mx y v->EqAt A s u v (e i)) :
   ∀ j (h1:j < its.toArray.size) (h2:j < its2.toArray.size),EqAt A s its.toArray[j] its2.toArray[j] (e j):=by
 intro j h1 h2;rw[zA2] at h1 h2;have l:=r.length;have m:=a.length;obtain⟨u,b,d⟩:=r.get (i:=j) (x:=xs[j]'(by lia)) (by simp);obtain⟨v,c,f⟩:=a.get (i:=j) (x:=ys[j]'(by lia)) (by simp);have g:its.toArray[j]=u:=by
   have:its[j]? = some its[j]:=by simp[h1]
   rw[this] at b;simpa using Mc b
 have h:its2.toArray[j]=v:=by
   have:its2[j]? = some its2[j]:=by simp[h2]
   rw[this] at c;simpa using Mc c
 rw[g,h];exact k j _ _ u v (by simp) (by simp) d f
theorem EqD.at(I:M1 X M L H s){n:Nat}{x y:V}{b:Bool}(h:EqD H n x y b):∀{A:Kr}{u v:V'},Mx x u->Mx y v->A.units+n+1 < cLine->EqAt A s u v b:=by
 induction h with
 | flat C D=>intro A u v c d _;exact qJ9 c d C D
 | same a=>intro A u v c d _;cases c;cases d;exact EqAt.same _
 | @lsts n a b xs ys e f g j hl he ih =>
   intro A u v c d o;cases c;cases d;obtain⟨k,r,p⟩:=I.lstI g;obtain⟨its2,l,m⟩:=I.lstI j;have E:k.toArray.size=its2.toArray.size:=by rw[zA2,zA2,<- r.length,<- l.length,hl]
   have q:=EqAt.of_refs f (RcAt.lists (A:=A) p m E (by lia) (e:=e) (qo9 (P:=λ _ _ _=>True) r l λ i x y u v t w z B=>ih i x y t w z B (by have:=qg4 A;lia)));rw[zA2,<- r.length] at q;exact q
 | @lens n a b xs ys f g j hl =>
   intro A u v c d o;cases c;cases d;obtain⟨k,r,p⟩:=I.lstI g;obtain⟨its2,l,m⟩:=I.lstI j;exact EqAt.of_refs f (RcAt.lists_lengths p m (by rw[zA2,zA2,<- r.length,<- l.length];simpa using hl) (by lia))
 | @tups n a b xs ys e f g j he ih =>
   intro A u v c d o;cases c;cases d;obtain⟨k,r,p⟩:=I.tupI g;obtain⟨its2,l,m⟩:=I.tupI j;have q:=EqAt.of_refs f (RcAt.tuples (A:=A) p m (by lia) (e:=e) (qo9 (P:=λ _ _ _=>True) r l λ i x y u v t w z B=>ih i x y t w z B (by have:=qg4 A;lia)));rw[zA2,zA2,<- r.length,<- l.length] at q;exact q
 | dcts f g j =>
   intro A u v c d o;cases c;cases d;exact EqAt.of_refs f (qM3 I g j (by lia)).1
theorem RcD.at(I:M1 X M L H s){x y:V}{b:Bool}(h:RcD H x y b){u v:V'}(d:Mx x u)(c:Mx y v)(J:A.units+60 < cLine):RcAt A s u v b/\RcNeAt A s u v (!b):=by
 cases h with
 | flat F o =>
   cases x with
   | non =>
     cases d;cases y with
     | non=>cases c;exact⟨RcAt.none_none,RcNeAt.none_none⟩
     | bl b=>cases c;exact⟨RcAt.none_bool b,RcNeAt.none_bool b⟩
     | int b=>obtain⟨t,rfl⟩:=c;exact⟨RcAt.none_int b t,RcNeAt.none_int b t⟩
     | str b=>obtain⟨t,rfl⟩:=c;exact⟨RcAt.none_str b t,RcNeAt.none_str b t⟩
     | _=>exact absurd (show false=true from o) zA7
   | bl a =>
     cases d;cases y with
     | non=>cases c;exact⟨RcAt.bool_none a,RcNeAt.bool_none a⟩
     | bl b=>cases c;exact⟨RcAt.bool_bool a b,RcNeAt.bool_bool a b⟩
     | int b=>obtain⟨t,rfl⟩:=c;exact⟨RcAt.bool_int a b t,RcNeAt.bool_int a b t⟩
     | str b=>obtain⟨t,rfl⟩:=c;exact⟨RcAt.bool_str a b t,RcNeAt.bool_str a b t⟩
     | _=>exact absurd (show false=true from o) zA7
   | int a =>
     obtain⟨j,rfl⟩:=d;cases y with
     | non=>cases c;exact⟨RcAt.int_none a j,RcNeAt.int_none a j⟩
     | bl b=>cases c;exact⟨RcAt.int_bool a j b,RcNeAt.int_bool a j b⟩
     | int b=>obtain⟨t,rfl⟩:=c;exact⟨RcAt.int_int a j b t,RcNeAt.int_int a j b t⟩
     | str b=>obtain⟨t,rfl⟩:=c;exact⟨RcAt.int_str a j b t,RcNeAt.int_str a j b t⟩
     | _=>exact absurd (show false=true from o) zA7
   | str a =>
     obtain⟨j,rfl⟩:=d;cases y with
     | non=>cases c;exact⟨RcAt.str_none a j,RcNeAt.str_none a j⟩
     | bl b=>cases c;exact⟨RcAt.str_bool a j b,RcNeAt.str_bool a j b⟩
     | int b=>obtain⟨t,rfl⟩:=c;exact⟨RcAt.str_int a j b t,RcNeAt.str_int a j b t⟩
     | str b=>obtain⟨t,rfl⟩:=c;exact⟨RcAt.str_str a j b t,RcNeAt.str_str a j b t⟩
     | _=>exact absurd (show false=true from o) zA7
   | _=>exact absurd (show false=true from F) zA7
 | @lsts a b xs ys e f n hl he =>
   cases d;cases c;obtain⟨g,r,p⟩:=I.lstI f;obtain⟨its2,q,l⟩:=I.lstI n;have w:g.toArray.size=its2.toArray.size:=by rw[zA2,zA2,<- r.length,<- q.length,hl]
   have k:=qo9 (P:=λ _ _ _=>True) (e:=e) (A:=A.in1) (s:=s) r q λ i x y u v B C D E=>(he i x y B C).at I D E (by have:=qg4 A;lia)
   have z:=RcAt.lists p l w (by lia) k;have q2:=RcNeAt.lists p l w (by lia) k;rw[zA2,<- r.length] at z q2;exact⟨z,q2⟩
 | @lens a b xs ys f n hl =>
   cases d;cases c;obtain⟨g,r,p⟩:=I.lstI f;obtain⟨its2,q,l⟩:=I.lstI n;have w:(g.toArray.size != its2.toArray.size)=true:=by rw[zA2,zA2,<- r.length,<- q.length];simpa using hl
   exact⟨RcAt.lists_lengths p l w (by lia),RcNeAt.lists_lengths p l w (by lia)⟩
 | @tups a b xs ys e f n he =>
   cases d;cases c;obtain⟨g,r,p⟩:=I.tupI f;obtain⟨its2,q,l⟩:=I.tupI n;have k:=qo9 (P:=λ _ _ _=>True) (e:=e) (A:=A.in1) (s:=s) r q λ i x y u v B C D E=>(he i x y B C).at I D E (by have:=qg4 A;lia)
   have z:=RcAt.tuples p l (by lia) k;have q2:=RcNeAt.tuples p l (by lia) k;rw[zA2,zA2,<- r.length,<- q.length] at z q2;exact⟨z,q2⟩
 | lt f n =>
   cases d;cases c;obtain⟨g,r,p⟩:=I.lstI f;obtain⟨its2,q,l⟩:=I.tupI n;exact⟨RcAt.list_tuple p l (by lia),RcNeAt.list_tuple p l (by lia)⟩
 | tl f n =>
   cases d;cases c;obtain⟨g,r,p⟩:=I.tupI f;obtain⟨its2,q,l⟩:=I.lstI n;exact⟨RcAt.tuple_list p l (by lia),RcNeAt.tuple_list p l (by lia)⟩
 | lf f o =>
   cases d;obtain⟨g,r,p⟩:=I.lstI f;cases y with
   | non=>cases c;exact⟨RcAt.list_none p (by lia),RcNeAt.list_none p (by lia)⟩
   | bl b=>cases c;exact⟨RcAt.list_bool b p (by lia),RcNeAt.list_bool b p (by lia)⟩
   | int b=>obtain⟨t,rfl⟩:=c;exact⟨RcAt.list_int b t p (by lia),RcNeAt.list_int b t p (by lia)⟩
   | str b=>obtain⟨t,rfl⟩:=c;exact⟨RcAt.list_str b t p (by lia),RcNeAt.list_str b t p (by lia)⟩
   | _=>exact absurd (show false=true from o) zA7
 | fl f o =>
   cases c;obtain⟨g,r,p⟩:=I.lstI f;cases x with
   | non=>cases d;exact⟨RcAt.none_list p (by lia),RcNeAt.none_list p (by lia)⟩
   | bl b=>cases d;exact⟨RcAt.bool_list b p (by lia),RcNeAt.bool_list b p (by lia)⟩
   | int b=>obtain⟨t,rfl⟩:=d;exact⟨RcAt.int_list b t p (by lia),RcNeAt.int_list b t p (by lia)⟩
   | str b=>obtain⟨t,rfl⟩:=d;exact⟨RcAt.str_list b t p (by lia),RcNeAt.str_list b t p (by lia)⟩
   | _=>exact absurd (show false=true from o) zA7
 | tf f o =>
   cases d;obtain⟨g,r,p⟩:=I.tupI f;cases y with
   | non=>cases c;exact⟨RcAt.tuple_none p (by lia),RcNeAt.tuple_none p (by lia)⟩
   | bl b=>cases c;exact⟨RcAt.tuple_bool b p (by lia),RcNeAt.tuple_bool b p (by lia)⟩
   | int b=>obtain⟨t,rfl⟩:=c;exact⟨RcAt.tuple_int b t p (by lia),RcNeAt.tuple_int b t p (by lia)⟩
   | str b=>obtain⟨t,rfl⟩:=c;exact⟨RcAt.tuple_str b t p (by lia),RcNeAt.tuple_str b t p (by lia)⟩
   | _=>exact absurd (show false=true from o) zA7
 | ft f o =>
   cases c;obtain⟨g,r,p⟩:=I.tupI f;cases x with
   | non=>cases d;exact⟨RcAt.none_tuple p (by lia),RcNeAt.none_tuple p (by lia)⟩
   | bl b=>cases d;exact⟨RcAt.bool_tuple b p (by lia),RcNeAt.bool_tuple b p (by lia)⟩
   | int b=>obtain⟨t,rfl⟩:=d;exact⟨RcAt.int_tuple b t p (by lia),RcNeAt.int_tuple b t p (by lia)⟩
   | str b=>obtain⟨t,rfl⟩:=d;exact⟨RcAt.str_tuple b t p (by lia),RcNeAt.str_tuple b t p (by lia)⟩
   | _=>exact absurd (show false=true from o) zA7
 | dcts f n =>
   cases d;cases c;exact qM3 I f n (by lia)
 | dt f n =>
   cases d;cases c;obtain⟨K,m,G⟩:=I.dK0 f;obtain⟨its2,q,l⟩:=I.tupI n;exact LD.rc_dt G l (by lia)
end
def rEqD:R2:=λ x y H Q=>∃ b,RcD H x y b/\Q (.bl b) H
def rNeD:R2:=λ x y H Q=>∃ b,RcD H x y b/\Q (.bl (!b)) H
theorem qc0{X:Cx}(e:X.A.units+64 < cLine):OpR X (Jl .Eq) rEqD:=by
 intro Ko s f H x y v u Q I a c ⟨b,d,q⟩;exact(d.at I a c (by grind -abstractProof)).1 X.prog X.w X.xe _ ⟨.bl b,H,I,rfl,q⟩
theorem qs3{X:Cx}(e:X.A.units+64 < cLine):OpR X (Jl .NotEq) rNeD:=by
 intro Ko s f H x y v u Q I a c ⟨b,d,q⟩;exact(d.at I a c (by lia)).2 X.prog X.w X.xe _ ⟨.bl (!b),H,I,rfl,q⟩
theorem qy3:∀{x:V},flatV x=true->eqV x x=true:=by
 intro x h;cases x with
 | non=>rfl
 | bl b=>exact zAs b
 | int b=>exact zAs b
 | str b=>exact zAs b
 | _=>exact absurd (show false=true from h) zA7
end L2
namespace L2
open PySem PySem.Spec PyProof.Rows
variable{vs:Array V'}
structure Md(K:Mf)(C:γ)(m qual:Str)(st:Ku)(f:γ)(fd:δ)(ps:List Str):Prop where
 F:Fun K m qual st f fd
 b:Binds K fd ps []
 me:Meth K C m f
 isf:W.isFn K (.ref f)=true
theorem mdmk{K:Mf}{C:γ}{m qual:Str}{st:Ku}{f:γ}{ps:List Str}{o:V'}{od e:Option γ}{n:Array (Option V')}{kV d g b j:V'}(l:K.lookup f=some ⟨o,od,.func (W.fnOf m qual (qc4 st) (qb5 st) (qa1 st) .none kV d g e b j),n⟩)(c:W.codeIn K b qual=true)(k:W.keepIn K (.ref f)=true)(a:W.findIn K (.ref C) m=some (some (.ref f)))(i:W.isFn K (.ref f)=true)(h:∀(kV d g:V')(e:Option γ)(b j:V')(us:List V'),us.length=ps.length->bindArgs (W.fnOf m qual (qc4 st) (qb5 st) (qa1 st) .none kV d g e b j) ⟨us,[]⟩=pure (ps.zip us)) :
   Md K C m qual st f (W.fnOf m qual (qc4 st) (qb5 st) (qa1 st) .none kV d g e b j) ps:=⟨qB9 l c k,(qB9 l c k).binds h,⟨a,i,k⟩,i⟩
section
variable{M:Model}{A:Kr}{E:V'->Sh->Prop}{s:Sh}
structure Left(h h':Heap)(f:List γ)(e T:γ)(oe:Obj)(old:Option V'):Prop where
 new:h.objs.size<=T
 keep:∀ b o,h.get? b=some o->b≠e->old≠some (.ref b)->b∉f->h'.get? b=some o
 slot:∀ b o,h.get? b=some o->b∈f->∃ sl,h'.get? b=some { o with slots:=sl }
 there:∀ b o,h.get? b=some o->∃ o',h'.get? b=some o'
 exc:∃ vs oT ts,h'.get? e=some { oe with data:=.fields vs }/\(1 < vs.size/\∀ vs0,oe.data=.fields vs0->vs[2]? = vs0[2]?)/\vs[1]? = some (.ref T)/\T≠e/\h'.get? T=some oT/\oT.data=.fields ts/\ts[3]? = some .none
theorem qp6{o:Obj}(e:o.data=.fields vs)(g:Array V'->Array V'):Obj.mapFields g o={ o with data:=.fields (g vs) }:=by
 obtain⟨a,b,c,d⟩:=o;cases e;rfl
theorem qm9{base:Heap}{env:Env}{outer:List Env}{L e:γ}{oe:Obj}{c:V'}{S:Bool}{old:Option V'}{Q:Unit->Sh->Prop}(n:A.frames=some (env::outer))(C:s.heap.FunFrames base (env::outer))(U:env.frame=some L)(m:s.heap.get? e=some oe)(i:oe.data=.fields vs)(d:1 < vs.size)(h:∀ h' T,Left s.heap h' ((env::outer).filterMap (·.frame)) e T oe old->Q () { s with heap:=h' }) :
   J1 M A (do let a <- frameOf env;let pl <- entryPlaceOf L S;let b <- EntryCells.newEntry c a .none (rawInt L) .none pl;setField (.ref e) 1 b)
     (λ _ s'=>J1 M A (setFlight (.ref e) none) Q E s') E s:=by
 have j:∀ b o p,s.heap.get? b=some o->o.data=.fields p->b∉(env::outer).filterMap (·.frame):=λ b o p q q2 r=>by
   obtain⟨_,o',D,V⟩:=C.mem r;rw[q] at D;cases D;exact V p q2
 refine D' (wpAny_frameOf_fun n C U λ g1 q=>?_);refine D' (wpAny_entryPlaceOf λ pl t=>?_);unfold EntryCells.newEntry newFields;refine D' (wpAny_newObj_type ?_ (t.sizeOk5 _ _ _ _ _));obtain⟨W,F,G⟩:=q;have H:g1.get? e=some oe:=(F e (j e oe vs m i)).trans m;generalize k:({ cls:=.type "traceback",dict:=none,data:=.fields ([c,.ref L,.none,rawInt L,.none]++(if pl.isEmpty then Kx 6 Ly else pl)).toArray }:Obj)=oT;have l:∃ u,oT.data=.fields u/\3 < u.size:=by
   refine⟨([c,.ref L,.none,rawInt L,.none]++(if pl.isEmpty then Kx 6 Ly else pl)).toArray,by rw[<- k],?_⟩;simp only[zA2,zAk,zAo,Lg];lia
 have X:oT.isFreed=false:=by rw[<- k];rfl
 obtain⟨u,l,I⟩:=l;have J:=zA1 (h:=g1) oT H;refine wpAny_setField J i d ?_;have v:g1.objs.size≠e:=Nat.ne_of_gt (zA4 H);have K:=Obj.data_mapFields i (·.setIfInBounds 1 (Lx g1.objs.size));have N:=zAp (Obj.mapFields (·.setIfInBounds 1 (Lx g1.objs.size))) J (Obj.isFreed_of_fields K);have O:((g1.push oT).update e (Obj.mapFields (·.setIfInBounds 1 (Lx g1.objs.size)))).get? g1.objs.size=some oT:=(zAa _ _ (Ne.symm v)).trans (zAl g1 X);unfold setFlight;refine D' (wpAny_field N K (x:=.ref g1.objs.size) (by simp[d]) ?_);rw[if_pos (show (Lx g1.objs.size != Ly)=true from by simp)];refine wpAny_setField O l I (h _ g1.objs.size ?_);have keep:∀ b o,b≠e->g1.get? b=some o->(((g1.push oT).update e (Obj.mapFields (·.setIfInBounds 1 (Lx g1.objs.size)))).update g1.objs.size (Obj.mapFields (·.setIfInBounds 3 ((none:Option γ).elim Ly λ f=>rawInt f)))).get? b=some o:=λ b o w y=>by
   rw[zAa _ _ (Nat.ne_of_gt (zA4 y)),zAa _ _ (Ne.symm w)];exact zA1 _ y
 have P:(((g1.push oT).update e (Obj.mapFields (·.setIfInBounds 1 (Lx g1.objs.size)))).update g1.objs.size (Obj.mapFields (·.setIfInBounds 3 ((none:Option γ).elim Ly λ f=>rawInt f)))).get? e=some { oe with data:=.fields (vs.setIfInBounds 1 (Lx g1.objs.size)) }:=by
   rw[zAa _ _ v,N,qp6 i]
 refine⟨Nat.le_of_eq W.symm,λ b o g w y Y=>keep b o w ((F b Y).trans g),λ b o g r=>?_,λ b o g=>?_,_,_,_,P,⟨by simpa using d,λ Z z=>by rw[i] at z;cases z;simp⟩,by simp[d],v,zAp _ O (Obj.isFreed_of_fields (Obj.data_mapFields l _)),Obj.data_mapFields l _,by simp[I]⟩
 . obtain⟨R,B⟩:=G b o g
   refine⟨R,keep b _ (λ z=>?_) B⟩;subst z;rw[m] at g;cases g;exact j b _ vs m i r
 obtain⟨R,B⟩:=G b o g;by_cases z:b=e
 . subst z;exact⟨_,P⟩
 exact⟨_,keep b _ z B⟩
theorem qm6{base:Heap}{env:Env}{outer:List Env}{L e:γ}{oe:Obj}{Q:Unit->Sh->Prop}(d:A.frames=some (env::outer))(r:s.heap.FunFrames base (env::outer))(t:env.frame=some L)(i:s.heap.get? e=some oe)(j:oe.data=.fields vs)(f:1 < vs.size)(C:vs[1]? = some .none∨∃ T k ts,vs[1]? = some (.ref T)/\T≠e/\s.heap.get? T=some k/\k.data=.fields ts/\ts[3]? = some .none)(h:∀ h' T,Left s.heap h' ((env::outer).filterMap (·.frame)) e T oe vs[1]? -> Q () { s with heap:=h' }) :
   J1 M A (noteFrame (.ref e) env) (λ _ s'=>J1 M A (setFlight (.ref e) none) Q E s') E s:=by
 unfold noteFrame;simp only[t];rcases C with l | ⟨T,k,ts,l,u,g,c,y⟩
 . refine D' (wpAny_field i j l ?_)
   rw[if_neg (by decide)];exact qm9 (old:=vs[1]?) d r t i j f h
 refine D' (wpAny_field i j l ?_);rw[if_pos (show (Lx T != Ly)=true from by simp)];refine D' (wpAny_field g c y ?_);rw[if_neg (show ¬ ((Ly == rawInt L)=true) from by simp[rawInt])];have D:=(Array.getElem?_eq_some_iff.mp y).1;refine D' (wpAny_setField g c D ?_);have other:∀ b,b≠T->(s.heap.update T (Obj.mapFields (·.setIfInBounds 3 Ly))).get? b=s.heap.get? b:=λ b a=>zAa _ _ (Ne.symm a)
 have F:∀ b∈(env::outer).filterMap (·.frame),b≠T:=λ b m z=>by
   obtain⟨_,N,n,p⟩:=r.mem m;subst z;rw[g] at n;cases n;exact p ts c
 have G:(s.heap.update T (Obj.mapFields (·.setIfInBounds 3 Ly))).get? T=some { k with data:=.fields (ts.setIfInBounds 3 .none) }:=by
   rw[zAp _ g (Obj.isFreed_of_fields (Obj.data_mapFields c _)),qp6 c]
 have w:(s.heap.update T (Obj.mapFields (·.setIfInBounds 3 Ly))).FunFrames base (env::outer):=r.of_keeps λ b o a x=>⟨o,(other b λ z=>by subst z;rw[g] at a;cases a;exact x ts c).trans a,rfl⟩
 refine qm9 (s:={ s with heap:=s.heap.update T (Obj.mapFields (·.setIfInBounds 3 Ly)) }) (old:=vs[1]?) d w t ((other e (Ne.symm u)).trans i) j f λ h' T' q=>h h' T' ?_
 obtain⟨H,q2,n,p,I⟩:=q;refine⟨by rwa[show (s.heap.update T (Obj.mapFields (·.setIfInBounds 3 Ly))).objs.size=s.heap.objs.size from Heap.size_update _ _ _] at H,λ b o a J B K=>?_,λ b o a m=>n b o ((other b (F b m)).trans a) m,λ b o a=>?_,I⟩
 . exact q2 b o ((other b λ z=>B (by rw[l,z])).trans a) J B K
 by_cases z:b=T
 . subst z;exact p _ _ G
 exact p b o ((other b z).trans a)
end
end L2
namespace L2
open PySem PySem.Spec PyProof.Rows Builtin Builtin.ObjectAttr
variable{ox:Obj}
noncomputable def Iz:List V'->Bool
 | .ref _::r=>Iz r
 | .type n::r=>L7 n::r == [.type "ValueError",.type "Exception",.type "BaseException",.type "object"]
 | _=>false
theorem qn9(self:V'):∀{l:List V'},Iz l=true->refuseLoop self "__setattr__" l=pure ():=by
 intro l
 induction l with
 | nil=>intro e;cases e
 | cons c r b =>
   intro e;cases c with
   | ref a=>rw[refuseLoop_ref];exact b e
   | type n=>rw[show (L7 n::r)=[.type "ValueError",.type "Exception",.type "BaseException",.type "object"] from zB4.mp e];exact F.store_ValueError.passes self
   | _=>cases e
structure Exc(K:Mf)(C:γ):Prop where
 mro:(W.clsIn K C).any (λ cd=>Iz cd.mro)=true
 hd:W.hasDictIn K C=true
 kts:W.ktsIn K C "ValueError" = true
 sa:W.findIn K (.ref C) "__setattr__" = some (some (.builtin "object.__setattr__"))
 ga:W.findIn K (.ref C) "__getattribute__" = some (some (.builtin "BaseException.__getattribute__"))
 gt:W.findIn K (.ref C) "__getattr__" = some none
 be:W.mroIn K C (.type "BaseException")=some true
 ob:W.mroIn K C (.type "object")=some true
 ty:W.typeIn K (.ref C)=some (.type "type")
section
variable{prog:Kq}{w:Ks}{A:Kr}{E:V'->Sh->Prop}{s:Sh}{K:Mf}{x C:γ}{name:Str}{v:V'}
theorem qE9{R:Result->Sh->Prop}{od:Option Obj}{a:Tok}(X:K.In s.heap)(I:W.InstAt s.heap x ox C od)(c:Exc K C)(b:W.findIn K (.ref C) name=some none)(h:J1 (J' prog w) A.in1 (storeInOwnDict (.ref x) (.ref C) (.str name a) name v false)
     (λ fin s'=>match fin with | .done f=>R (.ok f) s' | .again c'=>c'.quiet=true/\codeAny (J' prog w) A c' R s') (λ e s'=>R (.error e) s') s) :
   codeAny (J' prog w) A (.call (.builtin "object.__setattr__") ⟨[.ref x,.str name a,v],[]⟩) R s:=by
 have SF:=F.store_object;obtain⟨d,g,i⟩:=W.any_some c.mro;refine codeAny_call_builtin SF.slot.plain SF.entry (@W.check_slot (J' prog w) _ _ s "object.__setattr__" "object" "__setattr__" (.ref x) [.str name a,v] [] _ SF.kind SF.split (I.type.andThen (W.looks_mroIn X c.ob)) (SF.args (.ref x) (.str name a) v) ?_);have j:W.Looks (J' prog w) s.heap (mroOf (.ref C)) d.mro:=(W.looks_clsIn X g).andThen .now;rw[W.osa_eq,refuse_eq];refine D' (D' (I.type.here (D' (j.here ?_))));rw[qn9 _ i];exact G' (D' (I.type.here (D' ((W.looks_findIn X b).here (D' (G' h))))))
theorem qJ4{Q:Unit->Sh->Prop}{vs:Array V'}(X:K.In s.heap)(c:Exc K C)(i:s.heap.get? x=some ox)(a:ox.cls=.ref C)(d:ox.data=.fields vs)(f:ox.dict=none)(u:W.findIn K (.ref C) name=some none)(h:∀ h' j,h'.get? x=some { ox with dict:=some s.heap.objs.size }->h'.Ns1 s.heap.objs.size (λ y=>if y=name then some v else none)->(∀ b o,b≠x->s.heap.get? b=some o->h'.get? b=some o)->Q () { s with heap:=h',toks:=j }) :
   J1 (J' prog w) A (setAttr (.ref x) name v) Q E s:=by
 obtain⟨M,z,B,g⟩:=ox;dsimp only at a d f;subst a d f;have I:W.InstAt s.heap x ⟨.ref C,none,.fields vs,g⟩ C none:=⟨i,rfl,rfl,True.intro⟩
 refine W.set_plain X I c.sa (qE9 X I c u ?_);obtain⟨N,D,k⟩:=W.any_some c.hd;refine D' (G' (D' (D' (wpAny_loadPart i (D' (W.Looks.here (W.looks_clsIn X D) ?_))))));rw[k];have p:(s.heap.push { cls:=.type "dict",data:=.dict #[] }).get? x=some ⟨.ref C,none,.fields vs,g⟩:=zA1 _ i;have q:x≠s.heap.objs.size:=zAc (zA4 i);rw[if_neg (by simp[typeHasDict])];refine D' (wpAny_alloc ?_);refine D' (wpAny_update p (G' ?_));have gd:((s.heap.push { cls:=.type "dict",data:=.dict #[] }).update x λ o=>{ o with dict:=some s.heap.objs.size }).get? s.heap.objs.size=some { cls:=.type "dict",data:=.dict #[] } :=
   (Heap.get?_update_ne _ _ _ _ (Ne.symm q)).trans (Heap.get?_push_at rfl rfl)
 have F:((s.heap.push { cls:=.type "dict",data:=.dict #[] }).update x λ o=>{ o with dict:=some s.heap.objs.size }).Ns s.heap.objs.size (λ _=>none) :=
   ⟨_,#[],_,gd,rfl,λ e G=>absurd G (by simp),λ _=>rfl⟩
 unfold storeInDict newKeyGuard;refine D' (G' (D' (wpAny_nsSet1 (Heap.Ns1.of_empty F) λ h' r t=>?_)));obtain⟨O,H,J,l,m,n⟩:=r.count (Within.cons name v Within.nil);refine D' (wpAny_lookBehind l (by rw[m];exact pastItsLine_dict (zAb n (by rw[zAo,Lg,Jr];lia))) ?_);refine G' (h h' _ ?_ r λ b o L e=>?_)
 . exact(t.2 x q).trans (zAp _ p rfl)
 exact(t.2 b (zAc (zA4 e))).trans ((Heap.get?_update_ne _ _ _ _ L).trans (zA1 _ e))
theorem qJ3{Q:Unit->Sh->Prop}{vs:Array V'}{dx:γ}{a:Str->Option V'}{ns:List Str}(X:K.In s.heap)(c:Exc K C)(q:s.heap.get? x=some ox)(d:ox.cls=.ref C)(f:ox.data=.fields vs)(g:ox.dict=some dx)(r:s.heap.Ns1 dx a)(u:Within a ns)(N:ns.length<=1000)(z:W.findIn K (.ref C) name=some none)(h:∀ h' i,h'.Ns1 dx (λ y=>if y=name then some v else a y)->(∀ b o,b≠dx->s.heap.get? b=some o->h'.get? b=some o)->Q () { s with heap:=h',toks:=i }) :
   J1 (J' prog w) A (setAttr (.ref x) name v) Q E s:=by
 obtain⟨O,B,D,j⟩:=ox;subst d f g;obtain⟨F,k,_⟩:=qg6 r;have I:W.InstAt s.heap x ⟨.ref C,some dx,.fields vs,j⟩ C (some F):=⟨q,rfl,rfl,k⟩
 refine W.set_plain X I c.sa (qE9 X I c z ?_);obtain⟨P,G,l⟩:=W.any_some c.hd;refine D' (G' (D' (D' (wpAny_loadPart q (D' (W.Looks.here (W.looks_clsIn X G) ?_))))));rw[l];refine G' (D' (G' (D' ?_)));refine wpAny_nsSet1 r λ h' t H=>?_
 obtain⟨R,J,L,m,n,p⟩:=t.count (Within.cons name v u);refine D' (wpAny_lookBehind m (by rw[n];exact pastItsLine_dict (zAb p (by rw[zAo,Jr];lia))) ?_);exact G' (h h' _ t λ b o M e=>(H.2 b M).trans e)
theorem qQ8{Q:V'->Sh->Prop}{od:Obj}{expr:Bool}(X:K.In s.heap)(c:Exc K C)(I:W.InstAt s.heap x ox C (some od))(b:W.findObj K C (some od) name=some (.value v))(e:W.handedIn v=true)(h:∀ a,Q v { s with toks:=a }):J1 (J' prog w) A (getAttr (.ref x) name expr) Q E s:=by
 have FB:=Mk;obtain⟨k,g,d,t,l⟩:=s;have L0:=I.type (M:=J' prog w);have L1:=W.looks_findIn (M:=J' prog w) X c.ga;have L2:=W.looks_findIn (M:=J' prog w) X c.gt;have L3:=W.looks_find (M:=J' prog w) X I b;have f:builtinKind "BaseException.__getattribute__" = some .slot:=by decide +kernel
 have i:splitId "BaseException.__getattribute__" = some ("BaseException", "__getattribute__"):=by decide +kernel
 unfold getAttr getAttrBy;refine D' (wpAny_mkText (Jn (D' (L0.at (D' (L1.at ?_))))));dsimp only;have j:(L5 "BaseException.__getattribute__" == L5 "object.__getattribute__")=false:=by decide +kernel
 rw[j,Bool.and_false,if_neg zA7];unfold getAttrByItsOwn hookBefore;refine D' ?_;rw[if_pos (by rfl)];refine L2.at ?_;unfold callGetattribute boundAndCalled;rw[if_neg (by cases expr<;>decide)];refine D' (wpAny_attempt (Jn ?_));rw[FB.ga.bind (.ref x)];refine D' (G' (wpAny_call ?_));refine codeAny_call_builtin FB.ga.plain Mn (@W.check_slot (J' prog w) _ _ _ "BaseException.__getattribute__" "BaseException" "__getattribute__" (.ref x) [.str name t] [] _ f i (L0.andThen (W.looks_mroIn X c.be)) (Mq (.ref x) (.str name t)) ?_);unfold Builtin.«object.__getattribute__»;refine D' (G' (D' (G' (D' (L0.at (D' (L3.at ?_)))))));refine G' ?_;show J1 _ _ (handedOut v) _ _ _;rw[W.handedOut_of e];exact G' (h _)
end
end L2
namespace L2
open PySem PySem.Spec PyProof.Rows
variable{Q:Unit->Sh->Prop}{cx:Option γ}{fr:Bool}{xe:V'->Sh->Prop}
noncomputable abbrev mroVE:List V':=[.type "ValueError",.type "Exception",.type "BaseException",.type "object"]
def Bh(K:Mf)(C:γ):Bool:=W.ktsIn K C "ValueError" && (K.lookup C).any λ o=>o.slots.toList[4]? == some (some (.builtin "ValueError.__new__"))&&(match o.data with
   | .cls a=>W.tailIn K mroVE a.mro.tail
   | _=>false)
theorem ql2{K:Mf}{h:Heap}{C:γ}(X:K.In h)(q:Bh K C=true):∃ f g N bs d a i sub j b k l m p r s,
   h.get? C=some (excClassObj f g C N bs d a i sub j b k l m p r s "ValueError.__new__")/\OwnTail h mroVE d:=by
 unfold Bh at q;rw[zAz] at q;obtain⟨f,g,N,bs,d,a,i,sub,j,b,k,l,m,p,r,s,n,t,_⟩:=W.kts_cls X q.1;have q2:=q.2;rw[Option.any_eq_true] at q2;obtain⟨o,u,q2⟩:=q2;have e:=(X _ _ u).symm.trans t;injection e with e
 subst e;rw[zAz] at q2;have c:=eq_of_beq q2.1;injection c with c
 injection c with c
 injection c with c
 subst c;exact⟨f,g,N,bs,d,a,i,sub,j,b,k,l,m,p,r,s,t,W.tail_of_in X q2.2⟩
section
variable{prog:Kq}{w:Ks}{A:Kr}{K:Mf}{C R:γ}{h:Heap}{g:Array GenState}{d:Drawn}{t:Nat}{S:OsState}
theorem qC4{rest:List V'}{Q:Fin->Sh->Prop}{E:V'->Sh->Prop}(X:K.In h)(m:Bh K C=true)(hi:W.findIn K (.ref C) "__init__" = some (some (.ref R)))(i:W.typeIn K (.ref R)=some (.type "function"))(hrest:rest.length<=Jk)(j:J1 (J' prog w) A (call (.ref R) (.ref (h.objs.size+1)::rest)) (λ r s'=>r=.none/\Q (.done (.ret (.ref (h.objs.size+1)))) s') E
     ⟨(h.push { cls:=.type "tuple",data:=.seq rest.toArray }).push { cls:=.ref C,data:=.fields #[.ref h.objs.size,.none,.none,.none,.bool false,.none] },g,d,t,S⟩) :
   J1 (J' prog w) A (Builtin.«type.__call__» ⟨.ref C::rest,[]⟩) Q E ⟨h,g,d,t,S⟩:=by
 have F:=Mh;obtain⟨v,x,N,y,k,f,B,sub,D,l,G,H,I,J,L,O,a,T⟩:=ql2 X m
 repeat (first | with_reducible refine Jt a ?_ | with_reducible refine wpAny_madeBy_exc a ?_ | wp_step)
 refine codeAny_call_builtin_code (Code.quiet_builtin _ F.quiet) (wpAny_check_new_subT F T a ?_);refine codeAny_exc_new_subT F T a ?_ hrest;show J1 _ _ _ _ _ _;have c:∀ b o,h.get? b=some o->((h.push { cls:=.type "tuple",data:=.seq rest.toArray }).push { cls:=.ref C,data:=.fields #[.ref h.objs.size,.none,.none,.none,.bool false,.none] }).get? b=some o:=λ b o e=>zA1 _ (zA1 _ e)
 have n:=c _ _ a;have p:((h.push { cls:=.type "tuple",data:=.seq rest.toArray }).push { cls:=.ref C,data:=.fields #[.ref h.objs.size,.none,.none,.none,.bool false,.none] }).get? (h.objs.size+1)=some { cls:=.ref C,data:=.fields #[.ref h.objs.size,.none,.none,.none,.bool false,.none] }:=by heap_get
 have q:(Lx C::k).contains (.ref C)=true:=by simp
 unfold isInstance
 repeat (first | with_reducible refine Jt p ?_ | (with_reducible refine wpAny_isSubtype_exc n ?_;rw[q]) | wp_step)
 show J1 _ _ (typeLookup (.ref C) _) _ _ _;have s:=(W.looks_findIn (M:=J' prog w) X hi).keeps c;have u:=(W.bind_fn (M:=J' prog w) X (.ref (h.objs.size+1)) i).keeps c;refine s.at (Jn (D' (u.at (D' (Jv j (λ r s' z=>?_) λ _ _ z=>z)))));obtain⟨rfl,z⟩:=z;exact G' (G' z)
theorem qy2{rest:List V'}{Q E:V'->Sh->Prop}(X:K.In h)(m:Bh K C=true)(hi:W.findIn K (.ref C) "__init__" = some (some (.ref R)))(c:W.typeIn K (.ref R)=some (.type "function"))(hrest:rest.length<=Jk)(e:J1 (J' prog w) (A.under (.builtin "type.__call__" ⟨.ref C::rest,[]⟩)) (call (.ref R) (.ref (h.objs.size+1)::rest)) (λ r s'=>r=.none/\Q (.ref (h.objs.size+1)) s') E
     ⟨(h.push { cls:=.type "tuple",data:=.seq rest.toArray }).push { cls:=.ref C,data:=.fields #[.ref h.objs.size,.none,.none,.none,.bool false,.none] },g,d,t,S⟩) :
   J1 (J' prog w) A (call (.ref C) rest) Q E ⟨h,g,d,t,S⟩:=by
 obtain⟨i,j,N,k,l,b,n,sub,o,f,p,q,s,u,v,x,a,T⟩:=ql2 X m;have y:=tc_lookup;have f2:=tc_bind (.ref C);have z:(⟨h,g,d,t,S⟩:Sh).TypeIs (.ref C) "type" := ⟨_,a,rfl⟩
 refine wpAny_call (codeAny_of_tree ?_)
 repeat (any_goals (first | assumption | with_reducible refine Jt a ?_ | wp_step))
 exact⟨rfl,(codeAny_call_builtin_at (Code.quiet_builtin _ (by decide +kernel)) entry_typeCall (wpAny_check_type_call_sub a (qC4 X m hi c hrest e)))⟩
end
section
variable{M:Model}{A:Kr}{E:V'->Sh->Prop}{s:Sh}{env:Env}
theorem qm5{K:Mf}{x:Sem V'}{Q:Flow->Sh->Prop}(l:A.handled=none)(h:J1 M A x (λ v s₁=>∃ e oe vs C,v=.ref e/\K.In s₁.heap/\Exc K C/\s₁.heap.get? e=some oe/\oe.cls=.ref C/\oe.data=.fields vs/\vs[1]? = some .none/\E (.ref e) s₁) E s) :
   J1 M A (raiseStmt env (some x) none) Q E s:=by
 unfold raiseStmt;refine D' (Jv h (λ v s₁ q=>?_) λ _ _ x=>x);obtain⟨e,oe,vs,C,rfl,X,c,i,a,b,m,n⟩:=q;obtain⟨y,o,p,r⟩:=oe;subst a b;obtain⟨z,B,N,D,t,j,F,sub,G,u,H,I,J,L,O,P,newId,k,w,_⟩:=W.kts_cls X c.kts;obtain⟨R,g,d,S,T⟩:=s₁;have f:(Lx C::t).contains (.type "BaseException")=true:=by rw[Lh,w,Bool.or_true]
 repeat (first | with_reducible refine Jt i ?_ | with_reducible refine Jt k ?_ | (with_reducible refine wpAny_isSubtype_exc k ?_;rw[f]) | with_reducible refine wpAny_field i rfl m ?_ | wp_step)
 exact wpAny_raiseNew_none l n
theorem qC5{K:Mf}{e C D:γ}{oe:Obj}{b:Bool}{Q:Bool->Sh->Prop}(X:K.In s.heap)(d:Exc K D)(k:s.heap.get? e=some oe)(a:oe.cls=.ref C)(l:W.mroIn K C (.ref D)=some b)(h:Q b s) :
   J1 M A (excMatches (.ref e) (.ref D)) Q E s:=by
 obtain⟨p,q,N,r,m,i,t,sub,u,n,v,w,x,y,z,B,newId,j,o,_⟩:=W.kts_cls X d.kts;obtain⟨F,g,G,H,I⟩:=s;have c:(Lx D::m).contains (.type "BaseException")=true:=by rw[Lh,o,Bool.or_true]
 have f:=tc_notTuple;unfold excMatches
 repeat (first | (with_reducible refine Jt k ?_;rw[a]) | with_reducible refine Jt j ?_ | (with_reducible refine wpAny_isSubtype_exc j ?_;rw[c]) | with_reducible refine(W.looks_mroIn X l).at ?_ | wp_step)
 cases b<;>(wp_walk;exact h)
end
noncomputable def cxV:Option γ->V'
 | none=>.none
 | some b=>.ref b
def I8(e C:γ)(od:Option γ)(fr:Bool)(cx:Option γ)(h:Heap):Prop:=∃ oe vs,h.get? e=some oe/\oe.cls=.ref C/\oe.dict=od/\oe.data=.fields vs/\(1 < vs.size/\vs[2]? = some (cxV cx))/\(fr=true->vs[1]? = some .none)
noncomputable abbrev Ac(e C:γ)(od:Option γ)(fr:Bool)(cx:Option γ:=none):HO:=.ext (I8 e C od fr cx)
def xdIs(d:γ)(fs:List (Str×V))(h:Heap):Prop:=∃ a,h.Ns1 d a/\(∀ f,RelO (fs.lookup f) (a f))/\PySem.Within a (fs.map (·.1))/\fs.length<=1000
abbrev XD(d:γ)(fs:List (Str×V)):HO:=.ext (xdIs d fs)
section
variable{P:Kq}{w:Ks}{H:Hp}{h:Heap}
theorem ql1{e C:γ}{od:Option γ}(q:I8 e C od fr cx h):ObjOk P w H h e (Ac e C od fr cx) :=
 ⟨q,let ⟨c,_,a,_⟩:=q;⟨c,a⟩,λ f g ⟨c,d,a,b⟩ k=>⟨c,d,k _ a,b⟩⟩
theorem xd_ok{d:γ}{fs:List (Str×V)}(q:xdIs d fs h):ObjOk P w H h d (XD d fs) :=
 ⟨q,let ⟨_,⟨o,_,_,a,_⟩,_⟩:=q;⟨o,a⟩,λ g i ⟨c,⟨o,e,f,a,r⟩,b⟩ k=>⟨c,⟨o,e,f,k _ a,r⟩,b⟩⟩
theorem qi8{e C:γ}{od:Option γ}(a:HOk P w H h)(q:H e=some (Ac e C od fr cx)):I8 e C od fr cx h:=(a e _ q).1
theorem I9{d:γ}{fs:List (Str×V)}(a:HOk P w H h)(q:H d=some (XD d fs)):xdIs d fs h:=(a d _ q).1
end
section
variable{X:Cx}{Ko:List (γ×Obj)}{Z:St}{H:Hp}{s:Sh}{a C dx:γ}{fs:List (Str×V)}{f:Str}{v:V}{A:Kr}{E:V'->Sh->Prop}
theorem qJ7{y:V}{u:V'}(I:M1 X Ko Z H s)(e:H a=some (Ac a C none true))(c:Exc X.K C)(n:qc2 X.K C f)(G:Mx y u)(h:∀ dx s',H dx=none->dx≠a->M1 X Ko Z (upd (upd H dx (XD dx [(f,y)])) a (Ac a C (some dx) true)) s'->Q () s'):J1 (J' X.prog X.w) A (setAttr (.ref a) f u) Q E s:=by
 obtain⟨T,J,q,t,L,v,M,N⟩:=qi8 I.hok e;refine qJ4 I.kIn c q t v L n λ U m x q2 l=>?_
 have j:H s.heap.objs.size=none:=I.hok.fresh (zA6 _);refine h s.heap.objs.size _ j (Ne.symm (zAc (zA4 q))) (I.un (t':=m) ⟨λ b o z i _ _=>l b o (λ d=>?_) z,λ b o z i _ _=>⟨o.slots,l b o (λ d=>?_) z⟩,λ b o z i _=>?_,λ b o z _=>?_,λ b B z=>?_,λ b W B z=>?_,λ b Y z=>?_⟩ λ b O z=>?_)
 . rw[d,e] at i;cases i
 . rw[d,e] at i;cases i
 . rw[qa4 (λ d=>by rw[d,e] at i;cases i),qa4 ((λ b o z=>zAc (zA4 z)) b o z)];exact i
 . by_cases d:b=a
   . rw[d];exact⟨_,x⟩
   exact⟨o,l b o d z⟩
 . rw[qa4 (λ d=>by rw[d,e] at z;cases z),qa4 (qa9 z j)];exact z
 . rw[qa4 (λ d=>by rw[d,e] at z;cases z),qa4 (qa9 z j)];exact z
 . exact⟨#[],by rw[qa4 (λ d=>by rw[d,e] at z;cases z),qa4 (qa9 z j)];simpa using z⟩
 by_cases D:b=a
 . subst D
   rw[qa3] at z;cases z;exact ql1 ⟨_,J,x,t,rfl,v,M,N⟩
 rw[qa4 D] at z;by_cases F:b=s.heap.objs.size
 . subst F
   rw[qa3] at z;cases z;refine xd_ok ⟨_,q2,λ g=>?_,λ g P=>?_,by simp⟩
   . show RelO (([(f,y)]:List (Str×V)).lookup g) (if g=f then some u else none)
     by_cases k:g=f
     . subst k;rw[if_pos rfl];simp only[Ky,zAs];exact G
     have:(g == f)=false:=zB1.mpr k
     simp[Ky,this,k,RelO]
   by_cases k:g=f
   . simp[k]
   exact absurd (by show (if g=f then some u else none)=none;rw[if_neg k]) P
 rw[qa4 F] at z;refine(I.hok b O z).stay (λ p R S r=>l p R ?_ r) (λ p r=>?_) λ p B r=>?_
 . grind
 . rw[qa4 (λ d=>by rw[d,e] at r;cases r),qa4 (qa9 r j)];exact r
 rw[qa4 (λ d=>by rw[d,e] at r;cases r),qa4 (qa9 r j)];exact r
theorem qJ6{y:V}{u:V'}(I:M1 X Ko Z H s)(e:H a=some (Ac a C (some dx) true))(b:H dx=some (XD dx fs))(D:fs.length < 1000)(c:Exc X.K C)(n:qc2 X.K C f)(k:Mx y u)(h:∀ s',M1 X Ko Z (upd H dx (XD dx (Au f y fs))) s'->Q () s'):J1 (J' X.prog X.w) A (setAttr (.ref a) f u) Q E s:=by
 obtain⟨F,G,l,m,p,t,J,L⟩:=qi8 I.hok e;obtain⟨d,v,r,i,_⟩:=I9 I.hok b;refine qJ3 I.kIn c l m t p v i (by rw[zAv];lia) n λ M x j q2=>h _ ?_
 refine I.write (by rw[b];exact True.intro) (.inl rfl) q2 (let ⟨o,_,_,z,_⟩:=j;⟨o,z⟩) (xd_ok ⟨_,j,λ g=>?_,λ g B=>?_,?_⟩)
 . show RelO ((Au f y fs).lookup g) (if g=f then some u else d g)
   rw[qj2];by_cases q:g=f
   . rw[if_pos q,if_pos q];exact k
   rw[if_neg q,if_neg q];exact r g
 . by_cases q:g=f
   . rw[q];exact(ql0 f y fs).1
   refine(ql0 f y fs).2 g (i g λ z=>B ?_);show (if g=f then some u else d g)=none;rw[if_neg q];exact z
 have:=qj3 f y fs;lia
theorem qR1{b:Bool}{Q:V'->Sh->Prop}(I:M1 X Ko Z H s)(e:H a=some (Ac a C (some dx) fr cx))(p:H dx=some (XD dx fs))(c:Exc X.K C)(n:qc2 X.K C f)(l:fs.lookup f=some v)(h:∀ u s',M1 X Ko Z H s'->Mx v u->Q u s'):J1 (J' X.prog X.w) A (getAttr (.ref a) f b) Q E s:=by
 obtain⟨q,t,x,i,j,k,_⟩:=qi8 I.hok e;obtain⟨y,z,r,N,_⟩:=I9 I.hok p;obtain⟨u,B,m⟩:=RelO.some_of (v:=v) (o:=y f) (by rw[<- l];exact r f);obtain⟨D,F,d⟩:=qg6 z;obtain⟨O,G,L,g⟩:=q;dsimp only at i j k;subst i j k;have J:W.InstAt s.heap a ⟨.ref C,some dx,.fields t,g⟩ C (some D):=⟨x,rfl,rfl,F⟩
 exact qQ8 I.kIn c J (W.findObj_own c.hd n rfl (by rw[d,B])) (qB8 m) λ M=>h u _ (I.tok M) m
end
structure Fly(n:Nat)(H:Hp)(h:Heap)(a:γ):Prop where
 ge:n<=a
 tr:∃ C od cx,H a=some (Ac a C od false cx)
 ob:∃ oe vs,h.get? a=some oe/\oe.data=.fields vs/\1 < vs.size/\(vs[1]? = some .none∨∃ T oT ts,vs[1]? = some (.ref T)/\n<=T/\H T=none/\T≠a/\h.get? T=some oT/\oT.data=.fields ts/\ts[3]? = some .none)
theorem Fly.mono{m n:Nat}{H:Hp}{h:Heap}{a:γ}(F:Fly n H h a)(l:m<=n):Fly m H h a:=by
 obtain⟨b,c,d,e,f,g⟩:=F.ob;refine⟨zAb l F.ge,F.tr,b,c,d,e,f,?_⟩;rcases g with z | ⟨T,i,j,k,o,z⟩
 . exact .inl z
 exact .inr ⟨T,i,j,k,zAb l o,z⟩
def CX1(P:Kq)(w:Ks):CXT:=λ outer H s E e s'=>∃ a H',e=.ref a/\s'.os=s.os/\AllBare s'.gens/\Un (frs outer) [] H H' s.heap s'.heap/\HOk P w H' s'.heap/\Fly s.heap.objs.size H' s'.heap a/\E e none H'
structure Old(X:Cx)(Ko:List (γ×Obj))(n:Nat):Prop where
 st:X.s₀.heap.objs.size<=n
 loc:X.env.locals < n
 cell:∀ x c,X.env.cells.lookup x=some c->c < n
 pin:∀ p∈X.pn++Ko,p.1 < n
theorem M1.old{X:Cx}{Ko:List (γ×Obj)}{b:St}{H:Hp}{s:Sh}(I:M1 X Ko b H s):Old X Ko s.heap.objs.size :=
 ⟨I.sz,I.lt,λ x c e=>let ⟨_,_,z,_⟩:=I.cell x c e;zA4 z,λ p a=>zA4 (I.pin p a).1⟩
noncomputable def He:Option V'->List γ
 | some (.ref b)=>[b]
 | _=>[]
section
variable{X:Cx}{Ko:List (γ×Obj)}{σ:St}{H:Hp}{s:Sh}{a T:γ}{n:Nat}{h':Heap}{oe:Obj}{vs:Array V'}
theorem M1.left(I:M1 X Ko σ H s)(F:Fly n H s.heap a)(O:Old X Ko n)(m:s.heap.get? a=some oe)(P:oe.data=.fields vs)(L:Left s.heap h' (frs X.stack) a T oe vs[1]?) :
   M1 X Ko σ H { s with heap:=h' }/\Fly n H h' a:=by
 obtain⟨C,Q,R,i⟩:=F.tr;obtain⟨t,y,E,q2,q3,G⟩:=F.ob;rw[m] at E;cases E;rw[P] at q2;cases q2;obtain⟨J,S,V,K,A,W,Y,Z,e6,e7⟩:=L.exc;have j:∀ b,vs[1]? = some (.ref b)->n<=b/\H b=none/\b≠a:=λ b z=>by
   rcases G with q | ⟨T',_,_,q,r1,r2,r3,_⟩
   . rw[q] at z;cases z
   rw[q] at z;cases z;exact⟨r1,r2,r3⟩
 have B:HOk X.prog X.w H h':=λ b u f=>by
   by_cases z:b=a
   . subst z
     rw[i] at f;cases f;obtain⟨t,y,p1,p2,p3,p4,p5,p6⟩:=qi8 I.hok i;rw[m] at p1;cases p1;exact ql1 ⟨_,J,K,p2,p3,rfl,⟨A.1,(A.2 _ p4).trans p5.2⟩,λ z=>nomatch z⟩
   have M:∀ c,H c≠none->c∉frs X.stack:=λ c d hm=>d (I.stkFree c hm)
   refine(I.hok b u f).stay (λ c v d r=>L.keep c v r ?_ (λ h=>?_) ?_) (λ _ z=>z) λ _ _ z=>z
   . rcases d with rfl | d
     . exact z
     intro h;rw[h,i] at d;cases d
   . have:=(j c h).2.1
     rcases d with rfl | d
     . rw[this] at f;cases f
     rw[this] at d;cases d
   rcases d with rfl | d
   . exact M c (by rw[f];exact λ z=>nomatch z)
   exact M c (by rw[d];exact λ z=>nomatch z)
 refine⟨?_,F.ge,⟨C,Q,R,i⟩,_,J,K,rfl,A.1,.inr ⟨T,S,V,W,zAb (zAb F.ge (Nat.le_of_lt (zA4 m))) L.new,I.hok.fresh L.new,Y,Z,e6,e7⟩⟩;have k:∀ b,b∈He vs[1]? ↔ vs[1]? = some (.ref b):=λ b=>by
   rcases G with q | ⟨T',_,_,q,_⟩
   . rw[q];simp[He]
   rw[q];simp[He,eq_comm]
 have U:Un (frs X.stack) (He vs[1]?) H H s.heap h':=by
   refine⟨λ b o z l D N=>L.keep b o z (λ h=>?_) (λ h=>N ((k b).mpr h)) D,λ b o z l D N=>L.slot b o z D,λ _ _ _ l _=>l,λ b o z _=>L.there b o z,λ _ _ z=>z,λ _ _ _ z=>z,λ b ps z=>⟨#[],by rw[z];simp⟩⟩;rw[h,i] at l;cases l
 exact I.call (g':=s.gens) (t':=s.toks) (d':=s.drawn) (ch:=He vs[1]?) U B I.bare λ b f=>by
   have g:=(j b ((k b).mp f)).1;refine⟨.inr (zAb O.st g),Nat.ne_of_gt (zA8 O.loc g),λ x c e=>zAc (zA8 (O.cell x c e) g),λ p hp=>zAc (zA8 (O.pin p hp) g)⟩
end
def Lands(X:Cx)(E:St->XK):Prop:=∀(Ko:List (γ×Obj))(b:St)(H:Hp)(s:Sh)(a:γ)(n:Nat),M1 X Ko b H s->Fly n H s.heap a->Old X Ko n->E b (.ref a) none H->X.xe (.ref a) s
theorem Lands.passes{X:Cx}{E:St->XK}(h:Lands X E):qD1 (CX1 X.prog X.w) X E:=λ Ko g H s e b I q=>by
 obtain⟨a,H',rfl,c,d,u,f,F,q⟩:=q;exact h Ko g H' b a _ (I.call' c u f d λ _ z=>nomatch z) F I.old q
theorem qa5{cm:HdK}{P:Kq}{w:Ks}{K:Mf}{mg:Str->Option V'}{base:Heap}{N:List Str}{qual:Str}{scope:Scope}{f:γ}{e:V'}{A:Kr}{outer:List Env}{s₀:Sh}{H₀:Hp}{E:XK} :
   Lands (Ay cm (CX1 P w) P w K mg base N qual scope f e A outer s₀ H₀ E) (λ _=>E):=λ Ko u H s a n I F O q=>by
 obtain⟨r,b,c,d,g,h⟩:=id F.ob;show J1 _ _ (leaving _ _) _ _ s;unfold leaving;refine D' (qm6 (base:=base) (vs:=b) I.ok.frames I.stack rfl c d g ?_ λ t T L=>?_)
 . rcases h with z | ⟨T,i,j,k,_,_,l,m,o,p⟩
   . exact .inl z
   exact .inr ⟨T,i,j,k,l,m,o,p⟩
 obtain⟨J,F'⟩:=I.left (T:=T) F O c d L;exact⟨a,H,rfl,J.os,J.bare,J.base,J.hok,F'.mono O.st,q⟩
section
variable{X:Cx}{o e E:Kt}{pos pos':Pos}{F tv:TE}{f:Str}
def sEF(K:Mf)(F tv:TE)(f:Str):TS:=λ D B H=>tv B H λ y H1=>F B H1 λ x H2=>∃ a C,x=.ref a/\Exc K C/\qc2 K C f /\
 ((H2 a=some (Ac a C none true)/\∀ dx,H2 dx=none->dx≠a->D.nx B (upd (upd H2 dx (XD dx [(f,y)])) a (Ac a C (some dx) true)))
  ∨ ∃ dx fs,H2 a=some (Ac a C (some dx) true)/\H2 dx=some (XD dx fs)/\fs.length < 1000/\D.nx B (upd H2 dx (XD dx (Au f y fs))))
theorem qf9(g:PE X o F)(hv:PE X E tv)(i:swapsWith E (some (.Attribute o f pos')) pos.line X.env=pure false:=by rfl):PS X (.Assign [.Attribute o f pos'] E pos) (sEF X.K F tv f):=by
 intro Ko s B H D I h;refine plainObj_wpAny_Assign_Attribute (thn (hv Ko s B H _ I h) λ u j b=>?_) i;obtain⟨y,H1,I1,d,q⟩:=b;refine thn (g Ko j B H1 _ I1 q) λ k v b=>?_
 obtain⟨x,H2,I2,l,a,C,m,c,n,q2⟩:=b;subst m;obtain rfl:k=Lx a:=l;rcases q2 with⟨ea,q2⟩ | ⟨e,fs,ea,ed,hl,q2⟩
 . exact qJ7 I2 ea c n d λ e p r t I3=>⟨B,_,I3,q2 e r t⟩
 exact qJ6 I2 ea ed hl c n d λ p I3=>⟨B,_,I3,q2⟩
def tEF(K:Mf)(F:TE)(f:Str):TE:=λ B H Q=>F B H λ x H1=>∃ a C dx fr cx fs v,x=.ref a/\H1 a=some (Ac a C (some dx) fr cx)/\H1 dx=some (XD dx fs)/\Exc K C/\qc2 K C f/\fs.lookup f=some v/\Q v H1
theorem qO2(d:PE X e F)(g:Jq e f X.env (eval e X.env)=eval e X.env:=by rfl):PE X (.Attribute e f pos) (tEF X.K F f):=by
 intro Ko s B H Q I h;refine qR7 g (thn (d Ko s B H _ I h) λ u p b=>?_);obtain⟨x,H1,I1,i,a,C,r,t,w,y,v,j,k,m,c,n,l,q⟩:=b;subst j;obtain rfl:u=Lx a:=i;exact qR1 I1 k m c n l λ z A I2 o=>⟨v,H1,I2,o,q⟩
theorem qO0{x:Str}(C:γ){pos:Pos}(a:X.mg x=some (.ref C))(b:Gl X x:=by rfl)(c:N' x:=by decide):PE X (.Name x pos) (tC (.ref C)):=qO1 b a rfl c
end
structure MkE(K:Mf)(C f:γ):Prop where
 exc:Exc K C
 mke:Bh K C=true
 init:W.findIn K (.ref C) "__init__" = some (some (.ref f))
 fn:W.isFn K (.ref f)=true
 kp:W.keepIn K (.ref C)=true
def qS7(C:γ)(sp:Sp)(E:St->XK)(t:TA):TS:=λ D c H=>t c H λ vs H1=>vs.length<=1000/\∀ a,H1 a=none->sp (.ref a::vs) (upd H1 a (Ac a C none true)) (λ v H2=>v=.non/\∃ b,H2 a=some (Ac a C b true)/\E c (.ref a) none (upd H2 a (Ac a C b false))) E0
section
variable{X:Cx}{k:Nat}{f C:γ}{fd:δ}{ps:List Str}{sp:Sp}{E:St->XK}{x:Str}{np cpos pos:Pos}{e:Kt}{es:List Kt}{t:TA}
theorem qv6(M:MkE X.K C f)(F:Bm X.prog X.w X.K X.mg X.base CX0 k f fd ps sp)(J:Hd (k+1) X.A)(T:X.mg x=some (.ref C))(U:Binds X.K fd ps [])(Y:Lands X E)(Z:PA X (e::es) t)(hg:Gl X x:=by rfl)(l:N' x:=by decide)(he:Jj (e::es) X.env=(false,eval e X.env)::Jj es X.env:=by rfl)(m:(backTo cpos (Jj es X.env)).any (·.1)=false:=by rfl) :
   PS X (.Raise (some (.Call (.Name x np) (e::es) [] cpos)) none pos) (qS7 C sp E t):=by
 intro Ko s σ H D I h;rw[arm_exec_Raise];refine D' (wpAny_standAt (qm5 (K:=X.K) (J.hd _ rfl) ?_));refine D' (wpAny_Call_Name_kw (qh6 I hg T ?_ l));refine W.callWith_K (h₀:=X.base) I.ok.mod.kin M.kp (thn (Z cpos Ko s σ H _ I h) λ d s1 n=>?_) he m;obtain⟨vs,H1,I1,r,hz,q⟩:=n;refine⟨I1.kIn,?_⟩;obtain⟨c,g1,d1,t1,o1⟩:=s1;show J1 _ _ (call (.ref C) d) _ _ _;refine qy2 I1.kIn M.mke M.init (zB4.mp M.fn) (by rw[<- r.length,Jr];lia) ?_;have nz:H1 (c.objs.size+1)=none:=I1.hok.fresh (zB2 _);have L:=q (c.objs.size+1) nz;have I2:=I1.kept (h':=c.push { cls:=.type "tuple",data:=.seq d.toArray }) (t':=t1) λ b u z=>zA1 _ z
 have g2:((c.push { cls:=.type "tuple",data:=.seq d.toArray }).push { cls:=.ref C,data:=.fields #[.ref c.objs.size,.none,.none,.none,.bool false,.none] }).get? (c.objs.size+1)=some { cls:=.ref C,data:=.fields #[.ref c.objs.size,.none,.none,.none,.bool false,.none] }:=by heap_get
 have I3:=I2.laid (a:=c.objs.size+1) (o:=Ac (c.objs.size+1) C none true) (t':=t1) (h':=(c.push { cls:=.type "tuple",data:=.seq d.toArray }).push { cls:=.ref C,data:=.fields #[.ref c.objs.size,.none,.none,.none,.bool false,.none] })
   (λ b u z=>zA1 _ z) (Nat.le_of_eq (zBa _ _)) (ql1 ⟨_,_,g2,rfl,rfl,rfl,⟨by simp,by simp[cxV]⟩,λ _=>by simp⟩)
 have N:Mz (V.ref (c.objs.size+1)::vs) (Lx (c.objs.size+1)::d):=.cons rfl r;have p:((Lx (c.objs.size+1)::d)++[]).length=ps.length:=by rw[zAh,<- N.length];exact F.len _ _ _ _ L
 have g:=U _ (Lx (c.objs.size+1)::d) I3.kIn p;rw[zAh] at g;refine wpAny_call (codeAny_mono (F.run _ X.stack _ _ ⟨Lx (c.objs.size+1)::d,[]⟩ (Lx (c.objs.size+1)::d) _ _ E0 (J.make C d []) (I3.env0.make C d []) g N L) λ y i z=>?_);cases y with
 | error e=>exact z.elim
 | ok fl =>
   cases fl with
   | ret u =>
     obtain⟨v,H',I4,rv,ev,O,P,q4⟩:=I3.after z;subst ev;refine⟨rv,?_⟩;refine D' (wpAny_standAt (G' ?_));obtain⟨j,B,p1,Q,p3,G,R,S⟩:=qi8 I4.hok P;refine⟨c.objs.size+1,j,B,C,rfl,I4.kIn,M.exc,p1,Q,G,S rfl,?_⟩;have I5:M1 X Ko σ (upd H' (c.objs.size+1) (Ac (c.objs.size+1) C O false)) i :=
       I4.write (x:=c.objs.size+1) (e:=c.objs.size+1) (h':=i.heap) (t':=i.toks) (by rw[P];exact True.intro) (.inl rfl) (λ _ _ _ z=>z) ⟨j,p1⟩ (ql1 ⟨j,B,p1,Q,p3,G,R,λ z=>nomatch z⟩)
     exact Y Ko σ _ i (c.objs.size+1) c.objs.size I5 ⟨zB2 _,⟨C,O,none,qa3⟩,j,B,p1,G,R.1,.inl (S rfl)⟩ I1.old q4
   | next=>exact Mt z
   | brk=>exact Mt z
   | cont=>exact Mt z
end
noncomputable def Xt(X:Cx)(xe:V'->Sh->Prop)(pn:List (γ×Obj)):Cx:={ X with xe:=xe,pn:=pn }
def Xh(X:Cx)(a:γ):Cx:={ X with A:=X.A.mark (some (.ref a)),calm:=false,xe:=λ _ _=>False }
section
variable{X:Cx}{Ko:List (γ×Obj)}{σ:St}{H:Hp}{s:Sh}{a:γ}{n:Nat}
theorem Cx.Ok.t{b:List (γ×Obj)}(a:X.Ok):(Xt X xe b).Ok :=
 ⟨a.mod,a.kind,a.glob,a.blt,a.above,a.inj,a.has,a.cab,a.hd,a.frames,a.stk,a.exf,a.bs,a.bsz,a.noex,a.exfs,a.funs,a.frf⟩
theorem Cx.Ok.h(b:X.Ok):(Xh X a).Ok :=
 ⟨b.mod,b.kind,b.glob,b.blt,b.above,b.inj,b.has,b.cab,λ z=>(by cases z),b.frames,b.stk,b.exf,b.bs,b.bsz,b.noex,b.exfs,b.funs,b.frf⟩
theorem M1.t(I:M1 X Ko σ H s):M1 (Xt X xe (X.pn++Ko)) [] σ H s :=
 ⟨I.ok.t,I.os,I.bare,I.base,I.loc,I.cell,I.free,I.freeC,λ p a=>I.pin p (by rw[zAh] at a;exact a),I.hok,I.len⟩
theorem M1.unt{pins':List (γ×Obj)}(a:X.Ok)(I:M1 (Xt X xe (X.pn++Ko)) pins' σ H s):M1 X Ko σ H s :=
 ⟨a,I.os,I.bare,I.base,I.loc,I.cell,I.free,I.freeC,λ p b=>I.pin p (Kz _ b),I.hok,I.len⟩
theorem M1.h(I:M1 X Ko σ H s):M1 (Xh X a) Ko σ H s:=⟨I.ok.h,I.os,I.bare,I.base,I.loc,I.cell,I.free,I.freeC,I.pin,I.hok,I.len⟩
theorem M1.unh(b:X.Ok)(I:M1 (Xh X a) Ko σ H s):M1 X Ko σ H s:=⟨b,I.os,I.bare,I.base,I.loc,I.cell,I.free,I.freeC,I.pin,I.hok,I.len⟩
theorem qC2{M:Model}{A:Kr}{E:V'->Sh->Prop}(I:M1 X Ko σ H s)(F:Fly n H s.heap a)(O:Old X Ko n)(h:∀ s',M1 X Ko σ H s'->Fly n H s'.heap a->Q () s') :
   J1 M A (setFlight (.ref a) none) Q E s:=by
 obtain⟨v,w,g,i,y,B⟩:=F.ob;unfold setFlight;rcases B with z | ⟨T,G,J,l,d,m,r,t,j,C⟩
 . refine D' (wpAny_field g i z ?_)
   rw[if_neg (by decide)];exact G' (h s I F)
 refine D' (wpAny_field g i l ?_);rw[if_pos (show (Lx T != Ly)=true from by simp)];have u:=(Array.getElem?_eq_some_iff.mp C).1;refine wpAny_setField t j u ?_;have other:∀ b,b≠T->(s.heap.update T (Obj.mapFields (·.setIfInBounds 3 ((none:Option γ).elim Ly λ f=>rawInt f)))).get? b=s.heap.get? b:=λ b k=>zAa _ _ (Ne.symm k)
 exact h _ (I.turned (λ b o k q=>(other b k).trans q) m (Nat.ne_of_gt (zA8 O.loc d)) (.inr (zAb O.st d)) (λ x c e=>zAc (zA8 (O.cell x c e) d)) λ p D=>zAc (zA8 (O.pin p D) d)) (⟨F.ge,F.tr,v,w,(other a (Ne.symm r)).trans g,i,y,.inr ⟨T,_,_,l,d,m,r,(zAp (Obj.mapFields (·.setIfInBounds 3 ((none:Option γ).elim Ly λ f=>rawInt f))) t (Obj.isFreed_of_fields (Obj.data_mapFields j _))),Obj.data_mapFields j _,by simp[u]⟩⟩)
theorem qq0{M:Model}{A:Kr}{E:V'->Sh->Prop}{j:Nat}{x:Str}{pos:Pos}(I:M1 X Ko σ H s)(K:X.N.Nodup)(L:X.N[j]? = some x)(O:X.env.scope.names.lookup x=some .local)(h:∀ s',M1 X Ko (σ.set j none) H s'->Q () s'):J1 M A (do bindName X.env x .none;unbindBehindTheSuite X.env x pos) Q E s:=by
 obtain⟨m,D,P⟩:=id I.loc;have g:(X.env.scope.kind == .class||(X.env.scope.kind == .module&&X.env.locals != X.env.globals))=false:=by rw[I.ok.kind];rfl
 have l:=I.cne;refine wpAny_nameGoes_keeps O D g λ h' v w a=>?_
 obtain⟨oL,_,_,R,_⟩:=id D;have B:∀ b o,X.s₀.heap.get? b=some o->b≠X.env.locals:=λ b o e=>zAc (zA8 (zA4 e) I.ok.above)
 refine h _ ⟨I.ok,I.os,I.bare,⟨λ b o e n C r=>?_,λ b o e n C r=>?_,I.base.free,λ b o e r=>?_,I.base.tups,I.base.frzs,I.base.tbls⟩,⟨_,w,λ i y t F f S=>?_⟩,λ y c e=>?_,I.free,I.freeC,λ p T=>?_,λ b U e=>?_,by simpa using I.len⟩
 . exact(a.2 b (B b o e)).trans (I.base.keep b o e n C r)
 . obtain⟨V,q⟩:=I.base.slot b o e n C r
   exact⟨V,(a.2 b (B b o e)).trans q⟩
 . obtain⟨W,q⟩:=I.base.there b o e r
   exact⟨W,(a.2 b (B b o e)).trans q⟩
 . have G:i≠j:=λ z=>by
     subst z;by_cases Y:i < σ.length
     . rw[List.getElem?_set_self Y] at f;cases f
     rw[List.getElem?_eq_none (by rw[Ll];lia)] at f;cases f
   rw[List.getElem?_set_ne (Ne.symm G)] at f;obtain⟨Z,r',q⟩:=P i y t F f S;refine⟨Z,r',?_⟩;rcases q with⟨k,e⟩ | ⟨k,c,e,z⟩
   . refine .inl ⟨k,?_⟩
     have:y≠x:=λ e=>G (qo0 K F (e ▸ L))
     simp[this,e]
   exact .inr ⟨k,c,e,z.sameBut a (l y c e)⟩
 . obtain⟨t,z⟩:=I.cell y c e
   exact⟨t,z.sameBut a (l y c e)⟩
 . obtain⟨e,n,J,nf,d⟩:=I.pin p T
   exact⟨(a.2 p.1 J).trans e,n,J,nf,d⟩
 refine(I.hok b U e).stay (λ c t u q=>(a.2 c ?_).trans q) (λ _ q=>q) λ _ _ q=>q
 rintro rfl;rcases u with rfl | u
 . rw[I.free] at e;cases e
 rw[I.free] at u;cases u
end
def PH(X:Cx)(b:List ExceptHandler)(t:γ->TS):Prop :=
 ∀(Ko:List (γ×Obj))(s:Sh)(c:St)(H:Hp)(D:As)(a:γ)(n:Nat),M1 X Ko c H s->Fly n H s.heap a->Old X Ko n->t a D c H->J1 (J' X.prog X.w) X.A (handleBy (.ref a) X.env b) (SP X Ko D) X.xe s
noncomputable def qK5(j:Nat)(D:As):As:={ nx:=λ a H=>D.nx (a.set j none) H,rt:=D.rt,bk:=λ a H=>D.bk (a.set j none) H,ct:=λ a H=>D.ct (a.set j none) H }
section
variable{X:Cx}
theorem qT5:PH X [] (λ _ _ _ _=>False):=λ _ _ _ _ _ _ _ _ _ _ h=>h.elim
def sTry(tb:(St->XK)->TS)(th:γ->TS):TS:=λ D Z H=>∃ E:St->XK,tb E D Z H/\∀ a Z' H',E Z' (.ref a) none H'->∃ Z'':St,Z''.length=Z'.length/\(∀(i:Nat)(v:V),Z''[i]? = some (some v)->Z'[i]? = some (some v))/\th a D Z'' H'
theorem qT2{body:List Ku}{h₀:ExceptHandler}{c:List ExceptHandler}{pos:Pos}{tb:(St->XK)->TS}{th:γ->TS}(r:∀ E xe l,Lands (Xt X xe l) E->PSs (Xt X xe l) body (tb E))(x:PH X (h₀::c) th)(b:X.stack=X.env::X.outer:=by rfl)(d:X.env.frame=some X.env.locals:=by rfl):PS X (.Try body (h₀::c) [] [] pos) (sTry tb th):=by
 intro Ko s Z H D I ⟨E,y,q2⟩;refine wpAny_Try_except ?_
 let xe:V'->Sh->Prop:=λ e s₁=>J1 (J' X.prog X.w) X.A (noteFrame e X.env) (λ _ s₂=>J1 (J' X.prog X.w) X.A (setFlight e none) (λ _ s₃=>J1 (J' X.prog X.w) X.A (handleBy e X.env (h₀::c)) (SP X Ko D) X.xe s₃) X.xe s₂) X.xe s₁
 have B:Lands (Xt X xe (X.pn++Ko)) E:=λ pins' Z' H' C a n I' F O q=>by
   have J:=I'.unt I.ok;have O':Old X Ko n:=⟨O.st,O.loc,O.cell,λ p G=>O.pin p (Kz _ G)⟩
   obtain⟨U,V,m,o,K,M⟩:=id F.ob;have g:X.A.frames=some (X.env::X.outer):=by rw[J.ok.frames,b]
   have h:C.heap.FunFrames X.base (X.env::X.outer):=by have:=J.stack;rwa[b] at this
   refine qm6 g h d m o K ?_ λ W T L=>?_
   . rcases M with z | ⟨T,N,P,i,_,_,j,k,Q,R⟩
     . exact .inl z
     exact .inr ⟨T,N,P,i,j,k,Q,R⟩
   obtain⟨J2,F2⟩:=J.left F O' m o (by rw[b];exact L);obtain⟨Z'',i,j,k⟩:=q2 a Z' H' q;exact x Ko _ _ H' D a n (J2.weak i j) F2 O' k
 refine Jv (r E xe (X.pn++Ko) B [] s Z H D I.t y) (λ f Y z=>?_) λ _ _ z=>z
 cases f with
 | next=>obtain⟨Z',H',J,z⟩:=z;exact wpAny_execs_nil ⟨Z',H',J.unt I.ok,z⟩
 | brk=>obtain⟨Z',H',J,z⟩:=z;exact⟨Z',H',J.unt I.ok,z⟩
 | cont=>obtain⟨Z',H',J,z⟩:=z;exact⟨Z',H',J.unt I.ok,z⟩
 | ret u=>obtain⟨v,Z',H',J,S,z⟩:=z;exact⟨v,Z',H',J.unt I.ok,S,z⟩
end
end L2
namespace L2
open PySem PySem.Spec PyProof.Rows PySem.SeqAt
open PySem.AutoSeq1 (wpAny_loadPart')
theorem Fun.okX{P:Kq}{w:Ks}{K:Mf}{mg:Str->Option V'}{base:Heap}{x qual:Str}{st:Ku}{f:γ}{fd:δ}{N ps:List Str}{k:Nat}{sp:Sp}(F:Fun K x qual st f fd)(S:qb2 N ps (qa1 st))(len:∀ vs H Q E,sp vs H Q E->vs.length=ps.length)(hbody:∀(a:V')(A:Kr)(outer:List Env)(s:Sh)(H:Hp)(vs:List V)(Q:VK)(E:XK),Hd k (A.deeper (envOfC qual (qa1 st) s.heap.objs.size f a))->sp vs H Q E ->
     ∃ t,PSs (Ay true (CX1 P w) P w K mg base N qual (qa1 st) f a A outer s H E) (qb5 st) t/\t { nx:=λ _ H'=>Q .non H',rt:=Q } (start N vs) H):Bm P w K mg base (CX1 P w) (k+1) f fd ps sp:=by
 obtain⟨i,j,kV,d,l,m,a,n,e,rfl,g,b⟩:=F.ex;exact Hr g b S len λ A outer s H vs Q E h c=>hbody a A outer s H vs Q E h c
theorem qc6(K:Mf)(C:γ):Me K (.ref C) (.ref C)=some true:=by
 unfold Me;rw[if_pos (zAs _)]
end L2
namespace L2
open PySem PySem.Spec PyProof.Rows
section
variable{X:Cx}{C:List (γ×Obj)}{B:St}{H:Hp}{s:Sh}{h':Heap}
theorem M1.turnedL{t':Nat}{ch:List γ}(I:M1 X C B H s)(k:∀ b o,b∉ch->s.heap.get? b=some o->h'.get? b=some o)(f:∀ b∈ch,Bq X C H b):M1 X C B H { s with heap:=h',toks:=t' }:=by
 have d:∀ b u,H b=some u->b∉ch:=λ b u e z=>by rw[(f b z).1] at e;cases e
 refine I.step (λ b g=>?_) (λ b o _ _ a e _=>k b o a e) (λ b o _ _ a e _=>⟨o.slots,k b o a e⟩) (λ _ _ _ _ n=>n)
   (λ b o a e=>⟨o,k b o a e⟩) (λ _ _ e=>e) (λ _ _ _ e=>e) (λ b y e=>⟨#[],by rw[e];simp⟩) (λ m h=>?_) (λ b u e=>?_) I.bare
 . obtain⟨A,i,f2,j,l,p⟩:=f b g
   exact⟨j,i,l,p⟩
 . obtain⟨o,t,w,x,r⟩:=h
   exact⟨o,t,w,k _ o (λ z=>(f _ z).2.1 rfl) x,r⟩
 refine(I.hok b u e).stay (λ c v a q=>k c v ?_ q) (λ _ q=>q) λ _ _ q=>q
 rcases a with z | z
 . rw[z];exact d b u e
 exact d c _ z
end
def Ite(K:Mf)(a:γ):It :=
 ⟨λ i H=>∃ xs x,SqL K H a xs/\xs[i]? = some x,λ i H x H'=>∃ t y,x=.ref t/\H t=none/\H'=upd H t (.q [.int (i:Int),y])/\∀ xs,SqL K H a xs->xs[i]? = some y,λ i H=>∃ xs,SqL K H a xs/\xs.length<=i⟩
theorem qt7{cl:Cx->Prop}{st:Nat->Hp->Prop}{P:Kq}{w:Ks}{K:Mf}{elts:List Kt}{x1:Nat}{pos:Pos}{a it e:γ}(R:∀(X:Cx),X.prog=P->X.w=w->X.K=K->cl X->∀(i:Nat)(Ko:List (γ×Obj))(s:Sh)(W:St)(H:Hp)(E:V'->Sh->Prop),M1 X Ko W H s->(∀ b∈[e,it],Bq X Ko H b)->((∃ old,IsEnum s.heap e it (i:Nat) old)/\s.heap.IsListIter it a i)->st i H ->
   J1 (J' P w) X.A (pyNext (.ref e)) (λ r S=>r=none/\M1 X Ko W H S) E s)(j:e≠it):By cl P w K (.Tuple elts x1 pos) ⟨(Ite K a).go,(Ite K a).yld,st⟩ [e,it] e (λ i h=>(∃ old,IsEnum h e it (i:Nat) old)/\h.IsListIter it a i) where
 mem:=by simp
 obj:=λ i h st b c=>by
   obtain⟨⟨old,f⟩,o,T,U,V⟩:=st;rcases zAm.mp c with rfl | c
   . exact⟨_,f,λ v z=>by
       have Y:Data.fields _=Data.cell v:=z;cases Y⟩
   rw[zAu.mp c];exact⟨o,T,λ v z=>by rw[V] at z;cases z⟩
 keep:=λ i h Z st k=>by
   obtain⟨⟨old,f⟩,st⟩:=st;exact⟨⟨old,k e (by simp) _ f⟩,st.at λ o q=>k it (by simp) o q⟩
 item:=by
   intro X hP hw hK U i Ko s W H E I y st hg;subst hP hw hK;obtain⟨xs,x,N,O⟩:=hg;obtain⟨⟨old,f⟩,l⟩:=st;obtain⟨a0,rv,p,hz⟩:=I.list N;obtain⟨u,hu,ru⟩:=rv.get O;have B:H s.heap.objs.size=none:=I.hok.fresh (zA6 _);obtain⟨oi,C,_⟩:=id l;have m:e < s.heap.objs.size:=zA4 f;have lt2:it < s.heap.objs.size:=zA4 C;refine wpAny_pyNext_enum_item f l p.isList (x:=u) (by simpa using hu) j λ Q D n F a1 G=>?_
   refine⟨_,rfl,wpAny_letOwnedTupleGo_enum (s:={ s with heap:=Q,toks:=s.toks+1 }) D λ J L d=>?_⟩
   replace d:Heap.SameBut e Q J:=d
   have I0:M1 X Ko W (upd H s.heap.objs.size (.q [.int (i:Int),x])) { s with heap:=s.heap.push { cls:=.type "tuple",data:=.seq #[.int i s.toks,u] },toks:=s.toks+1 } :=
     I.laid (λ b o q=>zA1 _ q) (zA6 _) ⟨by show 2<=Jk;decide,[.int i s.toks,u],.cons ⟨_,rfl⟩ (.cons ru .nil),⟨_,zAl _ rfl,rfl,_,rfl⟩⟩
   have I2:M1 X Ko W (upd H s.heap.objs.size (.q [.int (i:Int),x])) { s with heap:=J,toks:=s.toks+1 }:=by
     refine M1.turnedL (s:={ s with heap:=s.heap.push { cls:=.type "tuple",data:=.seq #[.int i s.toks,u] },toks:=s.toks+1 }) (h':=J) (ch:=[e,it]) (t':=s.toks+1) I0 (λ b o c q=>?_) (λ b c=>?_)
     . have t:b≠e:=λ z=>c (by simp[z])
       have M:b≠it:=λ z=>c (by simp[z])
       refine d.extBut b o t ?_;rcases Heap.get?_push_cases (show (s.heap.push { cls:=.type "tuple",data:=.seq #[.int i s.toks,u] }).get? b=some o from q) with⟨rfl,rfl⟩ | q
       . exact F
       exact G b o t M q
     refine⟨?_,(y b c).2⟩;have g:b < s.heap.objs.size:=by
       rcases zAm.mp c with rfl | c
       . exact m
       rw[zAu.mp c];exact lt2
     rw[qa4 (zAc g)];exact(y b c).1
   refine⟨.ref s.heap.objs.size,_,I2,rfl,⟨_,x,rfl,B,rfl,λ ys hy=>by rw[I.list_inj hy N];exact O⟩,⟨⟨u,?_⟩,?_⟩,λ b c=>?_⟩
   . have:((i+1:Nat):Int)=(i:Int)+1:=by push_cast;rfl
     rw[this];exact L
   . exact n.extBut d.extBut (Ne.symm j)
   have g:b < s.heap.objs.size:=by
     rcases zAm.mp c with rfl | c
     . exact m
     rw[zAu.mp c];exact lt2
   rw[qa4 (zAc g)];exact(y b c).1
 done:=R
 self:=λ _ _ _ _ _ st h=>by
   obtain⟨⟨old,f⟩,_⟩:=st;exact wpAny_pyIter_enum f h
theorem qJ2{K:Mf}{a:γ}{xs:List V}{g:TG}{tb:TS}{D:As}{s:St}{H:Hp}(Pv:Nat->St->Hp->Prop)(h0:Pv 0 s H)(d:∀ i s H,i<=xs.length->Pv i s H->SqL K H a xs)(f:∀(i:Nat) x s H t,xs[i]? = some x->Pv i s H->H t=none->g (.ref t) s (upd H t (.q [.int (i:Int),x])) λ σ2 H2=>tb { D with nx:=Pv (i+1),ct:=Pv (i+1),bk:=D.nx } σ2 H2)(h:∀ s H,Pv xs.length s H->D.nx s H) :
   ∃ W:Nat->Nat->St->Hp->Prop,(∃ m,W 0 m s H)/\∀ i m s H,W i m s H ->
     ((Ite K a).stop i H/\D.nx s H)∨((Ite K a).go i H/\∃ N:St->Hp->Prop,(∀ s' H',N s' H'->∃ c,c < m/\W (i+1) c s' H')/\∀ x H',(Ite K a).yld i H x H'->g x s H' λ σ2 H2=>tb { D with nx:=N,ct:=N,bk:=D.nx } σ2 H2):=by
 refine⟨λ i m s H=>m=xs.length - i/\i<=xs.length/\Pv i s H,⟨xs.length,by simp,Nat.zero_le _,h0⟩,?_⟩;rintro i m s H ⟨rfl,j,p⟩;have q:=d i s H j p;by_cases b:i < xs.length
 . refine .inr ⟨⟨xs,xs[i],q,by simp[b]⟩,Pv (i+1),λ s' H' k=>⟨xs.length - (i+1),by lia,rfl,b,k⟩,λ x H' y=>?_⟩
   obtain⟨t,l,e,n,o,r⟩:=y;subst e o;exact f i l s _ t (r xs q) p n
 have e:i=xs.length:=by lia
 subst e;exact .inl ⟨⟨xs,q,zA6 _⟩,h s H p⟩
end L2
namespace My
open PySem L2
noncomputable def bagL(x y z:Int)(L:γ):HO:=.l [.int x,.int y,.int z,.ref L]
structure BagAt(H:Hp)(p:γ)(x y z:Int)(L:γ)(ns:List Int):Prop where
 at_:H p=some (bagL x y z L)
 li:H L=some (.l (ns.map V.int))
 x0:0<=x
 y0:0<=y
 y1:y < 2147483647
 z0:0<=z
 nn:∀ n∈ns,0<=n
def Bag(H:Hp)(p L:γ):Prop:=∃ x y z a,BagAt H p x y z L a
theorem qX1{L:γ}{x y z:Int}{ns:List Int}:HO.l (ns.map V.int)≠bagL x y z L:=by
 intro e;have e:ns.map V.int=[.int x,.int y,.int z,.ref L]:=by injection e
 have e:=congrArg (·[3]?) e;rw[zB0] at e;cases h:ns[3]? <;> rw[h] at e<;>cases e
theorem BagAt.ne{H:Hp}{p L:γ}{x y z:Int}{ns:List Int}(B:BagAt H p x y z L ns):L≠p:=ne_of B.li B.at_ qX1
def qS4(K:Mf):Sp:=λ vs H Q _=>∃(l:γ)(ns:List Int),vs=[.ref l]/\SqL K H l (ns.map V.int)/\ns.length<=63 /\
 ∀ p L H',H p=none->H L=none->Same H H'->Bag H' p L->Q (.ref p) H'
def Hs(K:Mf):Sp:=λ vs H Q _=>∃(l:γ)(ns:List Int),vs=[.ref l]/\SqL K H l (ns.map V.int)/\ns.length<=63/\∀ H',Q (.bl true) H'
abbrev Pr:=List (Int×Int)
end My
namespace LV
open PySem L2
variable{Ao:List γ}{N:List Str}{P:Kq}{Q:VK}{base:Heap}{cm:HdK}{i j n:Nat}{lo:Int}{mg:Str->Option V'}{v w:V}{vs:List V}{z:Bool}{α:Type}{a':St}
inductive D where
 | non | bl (b:Bool) | int (i:Int) | str (x:Str) | ty (n:String) | adr (a:γ)
 | q (ds:List D) | l (z:Bool) (ds:List D) | dct (z:Bool) (kvs:List (Key×D)) | ins (z:Bool) (C:γ) (fs:List (Str×D))
 | scr (ns:List Int)
 | exn (C:γ) (fs:List (Str×D))
 | obj (a C:γ)
 | exg
 | hole (v:V) | u
mutual
def D.imm:D->Bool
 | .q ds=>D.imms ds
 | .l z _=>z
 | .dct z _=>z
 | .ins z _ _=>z
 | _=>true
def D.imms:List D->Bool
 | []=>true
 | d::r=>d.imm&&D.imms r
end
mutual
def D.fz:D->D
 | .q ds=>.q (D.fzs ds)
 | .l _ ds=>.l true (D.fzs ds)
 | .dct _ kvs=>.dct true (D.fzk kvs)
 | .ins _ C fs=>.ins true C (D.fzf fs)
 | .exn C fs=>.exn C (D.fzf fs)
 | .non=>.non | .bl b=>.bl b | .int i=>.int i | .str x=>.str x | .ty n=>.ty n | .adr a=>.adr a | .scr c=>.scr c | .obj a C=>.obj a C | .exg=>.exg | .hole v=>.hole v | .u=>.u
def D.fzs:List D->List D
 | []=>[]
 | d::r=>d.fz::D.fzs r
def D.fzk:List (Key×D)->List (Key×D)
 | []=>[]
 | (k,d)::r=>(k,d.fz)::D.fzk r
def D.fzf:List (Str×D)->List (Str×D)
 | []=>[]
 | (k,d)::r=>(k,d.fz)::D.fzf r
end
inductive Chn(H:Hp):γ->Prop
 | nil {a C:γ} {od:Option γ} (h:H a=some (Ac a C od false)):Chn H a
 | cons {a C b:γ} {od:Option γ} (h:H a=some (Ac a C od false (some b))) (r:Chn H b):Chn H a
mutual
inductive M0(F:γ->Prop)(H:Hp):V->D->List γ->Prop
 | non:M0 F H .non .non []
 | bl (b:Bool):M0 F H (.bl b) (.bl b) []
 | int (i:Int):M0 F H (.int i) (.int i) []
 | str (x:Str):M0 F H (.str x) (.str x) []
 | ty (n:String):M0 F H (.ty n) (.ty n) []
 | adr (a:γ):M0 F H (.ref a) (.adr a) []
 | q {a:γ} {vs:List V} {ds:List D} {A:List γ} (h:H a=some (.q vs)) (r:Mw F H vs ds A):M0 F H (.ref a) (.q ds) A
 | l {a:γ} {vs:List V} {ds:List D} {A:List γ} (h:H a=some (.l vs)) (r:Mw F H vs ds A):M0 F H (.ref a) (.l false ds) (a::A)
 | lstZ {a:γ} {vs:List V} {ds:List D} (h:H a=some (.l vs)) (f:F a) (r:Mw F H vs ds []):M0 F H (.ref a) (.l true ds) []
 | dct {a:γ} {kvs:List (Key×V)} {kds:List (Key×D)} {A:List γ} (h:H a=some (.dK kvs)) (e:kvs.map (·.1)=kds.map (·.1)) (r:Mw F H (kvs.map (·.2)) (kds.map (·.2)) A):M0 F H (.ref a) (.dct false kds) (a::A)
 | dctZ {a:γ} {kvs:List (Key×V)} {kds:List (Key×D)} (h:H a=some (.dK kvs)) (f:F a) (e:kvs.map (·.1)=kds.map (·.1)) (r:Mw F H (kvs.map (·.2)) (kds.map (·.2)) []):M0 F H (.ref a) (.dct true kds) []
 | ins {a C dx:γ} {fvs:List (Str×V)} {fds:List (Str×D)} {A:List γ} (h:H a=some (.ins C dx fvs)) (e:fvs.map (·.1)=fds.map (·.1)) (r:Mw F H (fvs.map (·.2)) (fds.map (·.2)) A):M0 F H (.ref a) (.ins false C fds) (a::A)
 | insZ {a C dx:γ} {fvs:List (Str×V)} {fds:List (Str×D)} (h:H a=some (.ins C dx fvs)) (f:F a) (e:fvs.map (·.1)=fds.map (·.1)) (r:Mw F H (fvs.map (·.2)) (fds.map (·.2)) []):M0 F H (.ref a) (.ins true C fds) []
 | scr {a:γ} {o:Obj} {ns:List Int} (h:H a=some (.frz o (.l (ns.map V.int)))):M0 F H (.ref a) (.scr ns) []
 | exn {a C dx:γ} {cx:Option γ} {fvs:List (Str×V)} {fds:List (Str×D)} (h:H a=some (Ac a C (some dx) false cx)) (g:H dx=some (XD dx fvs)) (e:fvs.map (·.1)=fds.map (·.1)) (r:Mw F H (fvs.map (·.2)) (fds.map (·.2)) []):M0 F H (.ref a) (.exn C fds) []
 | obj {a C dx:γ} {fvs:List (Str×V)} (h:H a=some (.ins C dx fvs)) (f:F a):M0 F H (.ref a) (.obj a C) []
 | exn0 {a C:γ} {cx:Option γ} (h:H a=some (Ac a C none false cx)):M0 F H (.ref a) (.exn C []) []
 | exg {a:γ} (c:Chn H a):M0 F H (.ref a) .exg []
 | hole (v:V):M0 F H v (.hole v) []
 | u (v:V):M0 F H v .u []
inductive Mw(F:γ->Prop)(H:Hp):List V->List D->List γ->Prop
 | nil:Mw F H [] [] []
 | cons {v:V} {d:D} {A:List γ} {vs:List V} {ds:List D} {B:List γ} (h:M0 F H v d A) (t:Mw F H vs ds B):Mw F H (v::vs) (d::ds) (A++B)
end
noncomputable def Bd:HO->Bool
 | .l _=>true
 | .dK _=>true
 | .ins _ _ _=>true
 | _=>false
section
variable{F F':γ->Prop}{H H':Hp}
def Cel(H:Hp)(A:List γ):Prop:=∀ b∈A,∃ o,H b=some o/\Bd o=true
theorem Cel.cons{A:List γ}{a:γ}{o:HO}(e:H a=some o)(m:Bd o=true)(h:Cel H A):Cel H (a::A):=λ b c=>(zAm.mp c).elim (λ q=>q ▸ ⟨_,e,m⟩) (h b)
theorem Cel.app{A B:List γ}(h:Cel H A)(g:Cel H B):Cel H (A++B):=λ b a=>(zAf.mp a).elim (h b) (g b)
theorem M0.cells{v:V}{d:D}{A:List γ}(r:M0 F H v d A):Cel H A:=by
 induction r using M0.rec with
 | q e r i=>exact i
 | l e r i=>exact Cel.cons e rfl i
 | dct e _ r i=>exact Cel.cons e rfl i
 | ins e _ r i=>exact Cel.cons e rfl i
 | cons _ _ i j=>exact Cel.app i j
 | _=>nofun
theorem Mw.cells{vs:List V}{ds:List D}{A:List γ}(r:Mw F H vs ds A):Cel H A:=by
 induction r using Mw.rec (motive_1:=λ _ _ _ _=>True) with
 | cons h _ i j=>exact Cel.app h.cells j
 | nil=>nofun
 | _=>trivial
structure Kp(F:γ->Prop)(H:Hp)(W F':γ->Prop)(H':Hp):Prop where
 fr:∀ b o,H b=some o->¬ W b->H' b=some o
 wm:∀ b,W b->∃ o,H b=some o/\Bd o=true
 wf:∀ b,W b->¬ F b
 mF:∀ b,F b->F' b
theorem Kp.q{W:γ->Prop}(k:Kp F H W F' H'){a:γ}{vs:List V}(h:H a=some (.q vs)):H' a=some (.q vs):=by
 refine k.fr a _ h λ w=>?_
 obtain⟨o,e,m⟩:=k.wm a w;rw[h] at e;cases e;cases m
theorem Kp.imm{W:γ->Prop}(k:Kp F H W F' H'){a:γ}{o:HO}(h:H a=some o)(n:Bd o=false):H' a=some o:=by
 refine k.fr a _ h λ w=>?_
 obtain⟨o,e,m⟩:=k.wm a w
 grind
theorem Kp.frz{W:γ->Prop}(k:Kp F H W F' H'){a:γ}{o:Obj}{u:HO}(h:H a=some (.frz o u)):H' a=some (.frz o u):=by
 refine k.fr a _ h λ w=>?_
 obtain⟨o,e,m⟩:=k.wm a w;rw[h] at e;cases e;cases m
theorem Chn.keep{W:γ->Prop}(k:Kp F H W F' H'){a:γ}(c:Chn H a):Chn H' a:=by
 induction c with
 | nil h=>exact .nil (k.imm h rfl)
 | cons h _ b=>exact .cons (k.imm h rfl) b
theorem M0.keep{W:γ->Prop}(k:Kp F H W F' H'){v:V}{d:D}{A:List γ}(r:M0 F H v d A):(∀ b∈A,¬ W b)->M0 F' H' v d A:=by
 induction r using M0.rec (motive_2:=λ a l A _=>(∀ b∈A,¬ W b)->Mw F' H' a l A) with
 | q e r i=>exact λ h=>.q (k.q e) (i h)
 | l e r i=>exact λ h=>.l (k.fr _ _ e (zAi.mp h).1) (i (zAi.mp h).2)
 | lstZ e f r i=>exact λ h=>.lstZ (k.fr _ _ e λ w=>k.wf _ w f) (k.mF _ f) (i h)
 | dct e q r i=>exact λ h=>.dct (k.fr _ _ e (zAi.mp h).1) q (i (zAi.mp h).2)
 | dctZ e f q r i=>exact λ h=>.dctZ (k.fr _ _ e λ w=>k.wf _ w f) (k.mF _ f) q (i h)
 | ins e q r i=>exact λ h=>.ins (k.fr _ _ e (zAi.mp h).1) q (i (zAi.mp h).2)
 | insZ e f q r i=>exact λ h=>.insZ (k.fr _ _ e λ w=>k.wf _ w f) (k.mF _ f) q (i h)
 | scr e=>exact λ _=>.scr (k.frz e)
 | exn e g q r i=>exact λ h=>.exn (k.imm e rfl) (k.imm g rfl) q (i h)
 | obj e f=>exact λ _=>.obj (k.fr _ _ e λ w=>k.wf _ w f) (k.mF _ f)
 | exn0 e=>exact λ _=>.exn0 (k.imm e rfl)
 | exg c=>exact λ _=>.exg (c.keep k)
 | cons _ _ i j h=>exact Mw.cons (i (zAw.mp h).1) (j (zAw.mp h).2)
 | nil=>constructor
 | _=>intro;constructor
theorem Mw.keep{W:γ->Prop}(k:Kp F H W F' H'){vs:List V}{ds:List D}{A:List γ}(r:Mw F H vs ds A):(∀ b∈A,¬ W b)->Mw F' H' vs ds A:=by
 induction r using Mw.rec (motive_1:=λ _ _ _ _=>True) with
 | nil=>exact λ _=>Mw.nil
 | cons r _ i j=>exact λ h=>Mw.cons (r.keep k (zAw.mp h).1) (j (zAw.mp h).2)
 | _=>trivial
theorem Kp.same(s:Same H H'):Kp F H (λ _=>False) F H':=⟨λ b o e _=>s b o e,λ _ w=>w.elim,λ _ w=>w.elim,λ _ f=>f⟩
theorem M0.same{d:D}{A:List γ}(r:M0 F H v d A)(s:Same H H'):M0 F H' v d A:=r.keep (Kp.same s) λ _ _=>id
theorem Mw.same{ds:List D}{A:List γ}(r:Mw F H vs ds A)(s:Same H H'):Mw F H' vs ds A:=r.keep (Kp.same s) λ _ _=>id
theorem Kp.more(m:∀ b,F b->F' b):Kp F H (λ _=>False) F' H:=⟨λ b o e _=>e,λ _ w=>w.elim,λ _ w=>w.elim,m⟩
mutual
theorem M0.imm{v:V}{d:D}{A:List γ}(r:M0 F H v d A)(h:d.imm=true):A=[]:=by
 cases r with
 | q e r=>exact r.imms h
 | l=>cases h
 | dct=>cases h
 | ins=>cases h
 | _=>rfl
theorem Mw.imms{vs:List V}{ds:List D}{A:List γ}(r:Mw F H vs ds A)(h:D.imms ds=true):A=[]:=by
 cases r with
 | nil=>rfl
 | cons r t =>
   have h:=zAr.mp h;rw[r.imm h.1,t.imms h.2];rfl
end
theorem qq1(kds:List (Key×D)):(D.fzk kds).map (·.1)=kds.map (·.1)/\(D.fzk kds).map (·.2)=D.fzs (kds.map (·.2)):=by
 induction kds with
 | nil=>exact⟨rfl,rfl⟩
 | cons p r a=>obtain⟨k,d⟩:=p;simp only[D.fzk,D.fzs,zB7,a.1,a.2,and_self]
theorem qj4(kds:List (Str×D)):(D.fzf kds).map (·.1)=kds.map (·.1)/\(D.fzf kds).map (·.2)=D.fzs (kds.map (·.2)):=by
 induction kds with
 | nil=>exact⟨rfl,rfl⟩
 | cons p r a=>obtain⟨k,d⟩:=p;simp only[D.fzf,D.fzs,zB7,a.1,a.2,and_self]
theorem M0.fz{v:V}{d:D}{A:List γ}(r:M0 F H v d A)(m:∀ b,F b->F' b):(∀ b∈A,F' b)->M0 F' H v d.fz []:=by
 induction r using M0.rec (motive_2:=λ a k A _=>(∀ b∈A,F' b)->Mw F' H a (D.fzs k) []) with
 | q e r i=>exact λ h=>.q e (i h)
 | l e r i=>exact λ h=>.lstZ e (zAi.mp h).1 (i (zAi.mp h).2)
 | lstZ e f r i=>exact λ h=>.lstZ e (m _ f) (i h)
 | dct e q r i=>exact λ h=>.dctZ e (zAi.mp h).1 (q.trans (qq1 _).1.symm) ((qq1 _).2 ▸ i (zAi.mp h).2)
 | dctZ e f q r i=>exact λ h=>.dctZ e (m _ f) (q.trans (qq1 _).1.symm) ((qq1 _).2 ▸ i h)
 | ins e q r i=>exact λ h=>.insZ e (zAi.mp h).1 (q.trans (qj4 _).1.symm) ((qj4 _).2 ▸ i (zAi.mp h).2)
 | insZ e f q r i=>exact λ h=>.insZ e (m _ f) (q.trans (qj4 _).1.symm) ((qj4 _).2 ▸ i h)
 | scr e=>exact λ _=>.scr e
 | exn e g q r i=>exact λ h=>.exn e g (q.trans (qj4 _).1.symm) ((qj4 _).2 ▸ i h)
 | obj e f=>exact λ _=>.obj e (m _ f)
 | exn0 e=>exact λ _=>.exn0 e
 | exg c=>exact λ _=>.exg c
 | nil=>exact Mw.nil
 | cons _ _ i j h=>exact Mw.cons (A:=[]) (B:=[]) (i (zAw.mp h).1) (j (zAw.mp h).2)
 | _=>intro;constructor
end
theorem ec:∀{us:List V'},us.length=n+1->∃ a vs,us=a::vs/\vs.length=n
 | a::vs,h=>⟨a,vs,rfl,Nat.succ.inj h⟩
theorem ec0{P:List V'->Prop}(h:P [])(us:List V')(e:us.length=0):P us:=List.length_eq_zero_iff.mp e ▸ h
theorem ec1{P:List V'->Prop}(h:∀ x us,us.length=n->P (x::us))(us:List V')(e:us.length=n+1):P us:=by
 obtain⟨x,a,rfl,b⟩:=ec e;exact h x a b
inductive Locs(F:γ->Prop)(H:Hp):List (Option V)->List D->List γ->Prop
 | nil:Locs F H [] [] []
 | no {a:List (Option V)} {ds:List D} {A:List γ} (t:Locs F H a ds A):Locs F H (none::a) (.u::ds) A
 | so {v:V} {d:D} {B:List γ} {a:List (Option V)} {ds:List D} {A:List γ} (h:M0 F H v d B) (t:Locs F H a ds A):Locs F H (some v::a) (d::ds) (B++A)
section
variable{F F':γ->Prop}{H H':Hp}
theorem Locs.cells{p:List (Option V)}{ds:List D}{A:List γ}(r:Locs F H p ds A):∀ b∈A,∃ o,H b=some o/\Bd o=true:=by
 induction r with
 | nil=>intro b h;cases h
 | no t c=>exact c
 | so h t c =>
   intro b a;rcases zAf.mp a with a | a
   . exact h.cells b a
   exact c b a
theorem Locs.keep{W:γ->Prop}(k:Kp F H W F' H'){p:List (Option V)}{ds:List D}{A:List γ}(r:Locs F H p ds A):(∀ b∈A,¬ W b)->Locs F' H' p ds A:=by
 induction r with
 | nil=>exact λ _=>.nil
 | no t a=>exact λ h=>.no (a h)
 | so h t a=>exact λ q=>.so (h.keep k λ b c=>q b (zAf.mpr (.inl c))) (a λ b c=>q b (zAf.mpr (.inr c)))
theorem Locs.same{p:List (Option V)}{ds:List D}{A:List γ}(r:Locs F H p ds A)(s:Same H H'):Locs F H' p ds A:=r.keep (Kp.same s) λ _ _=>id
theorem Locs.len{p:List (Option V)}{ds:List D}{A:List γ}(r:Locs F H p ds A):p.length=ds.length:=by
 induction r with
 | nil=>rfl
 | no t a=>simp[a]
 | so h t a=>simp[a]
theorem Locs.append{p w:List (Option V)}{ds es:List D}{A B:List γ}(r:Locs F H p ds A)(t:Locs F H w es B):Locs F H (p++w) (ds++es) (A++B):=by
 induction r with
 | nil=>exact t
 | no _ a=>exact .no a
 | so h _ a=>rw[zAj];exact .so h a
inductive Ht(F:γ->Prop)(H:Hp):Option V->D->List γ->Prop
 | no:Ht F H none .u []
 | so {v:V} {d:D} {B:List γ} (h:M0 F H v d B):Ht F H (some v) d B
theorem Locs.cons{o:Option V}{d:D}{B:List γ}{p:List (Option V)}{ds:List D}{A:List γ}(h:Ht F H o d B)(t:Locs F H p ds A):Locs F H (o::p) (d::ds) (B++A):=by
 cases h with
 | no=>exact .no t
 | so h=>exact .so h t
theorem Locs.split:∀{ds:List D}{p:List (Option V)}{A:List γ}{i:Nat}{d:D},Locs F H p ds A->ds[i]? = some d ->
   ∃ σ1 o σ2 ds1 a A1 B A2,p=σ1++o::σ2/\ds=ds1++d::a/\σ1.length=i/\ds1.length=i/\A=A1++(B++A2)/\Locs F H σ1 ds1 A1/\Ht F H o d B/\Locs F H σ2 a A2:=by
 intro ds
 induction ds with
 | nil=>intro p A i d _ h;simp at h
 | cons e r n =>
   intro p A i d L h;cases i with
   | zero =>
     have:e=d:=by simpa using h
     subst this;cases L with
     | no t=>exact⟨[],none,_,[],_,[],[],_,rfl,rfl,rfl,rfl,rfl,.nil,.no,t⟩
     | so q t=>exact⟨[],some _,_,[],_,[],_,_,rfl,rfl,rfl,rfl,rfl,.nil,.so q,t⟩
   | succ i =>
     have h:r[i]? = some d:=by simpa using h
     cases L with
     | no t =>
       obtain⟨σ1,o,σ2,ds1,a,A1,B,A2,b,c,f,g,j,k,l,m⟩:=n t h;exact⟨none::σ1,o,σ2,_::ds1,a,A1,B,A2,by rw[b];rfl,by rw[c];rfl,by simp[f],by simp[g],j,.no k,l,m⟩
     | @so v _ B0 _ _ A0 q t =>
       obtain⟨σ1,o,σ2,ds1,a,A1,B,A2,b,c,f,g,j,k,l,m⟩:=n t h;exact⟨some v::σ1,o,σ2,_::ds1,a,B0++A1,B,A2,by rw[b];rfl,by rw[c];rfl,by simp[f],by simp[g],by rw[j,zAj],.so q k,l,m⟩
end
theorem qe7{a b:List α}{x y:α}(h:a.length=i):(a++x::b).set i y=a++y::b:=by
 subst h;rw[Ln _ _ (zA6 _),Nat.sub_self];rfl
theorem qh8{a b:List α}{x:α}(h:a.length=i):(a++x::b)[i]? = some x:=by
 subst h;simp
structure Ok(F:γ->Prop)(H:Hp)(A:List γ):Prop where
 sep:∀ b,A.count b<=1
 fro:∀ b,F b->A.count b=0
 ex:∀ b,F b->∃ o,H b=some o
structure M2(F:γ->Prop)(H:Hp)(A:List γ)(F':γ->Prop)(H':Hp)(A':List γ):Prop where
 fr:∀ b o,H b=some o->A.count b=0->H' b=some o
 sub:∀ b o,H b=some o->A.count b=0->A'.count b=0
 mono:∀ b,F b->F' b
 fnew:∀ b o,H b=some o->A.count b=0->F' b->F b
section
variable{F j m:γ->Prop}{H g l:Hp}{A i k T:List γ}
theorem M2.refl:M2 F H A F H A:=⟨λ _ _ e _=>e,λ _ _ _ e=>e,λ _ f=>f,λ _ _ _ _ f=>f⟩
theorem M2.trans(s:M2 F H A j g i)(t:M2 j g i m l k):M2 F H A m l k :=
 ⟨λ b o e q=>t.fr b o (s.fr b o e q) (s.sub b o e q),λ b o e q=>t.sub b o (s.fr b o e q) (s.sub b o e q),λ b f=>t.mono b (s.mono b f),λ b o e q f=>s.fnew b o e q (t.fnew b o (s.fr b o e q) (s.sub b o e q) f)⟩
theorem M2.same(s:Same H g):M2 F H A F g A:=⟨λ b o e _=>s b o e,λ _ _ _ e=>e,λ _ f=>f,λ _ _ _ _ f=>f⟩
theorem qb1{b:γ}{A:List γ}:b∈A↔A.count b≠0:=by grind
theorem M2.kp(s:M2 F H A j g i)(o:Ok F H A)(c:∀ b∈A,∃ o,H b=some o/\Bd o=true):Kp F H (λ b=>A.count b≠0) j g :=
 ⟨λ b u e w=>s.fr b u e (by lia),λ b w=>c b (qb1.mpr w),λ b w f=>w (o.fro b f),s.mono⟩
theorem Ok.left(o:Ok F H (T++A)):Ok F H T:=⟨λ b=>by have:=o.sep b;rw[zA0] at this;lia,λ b f=>by have:=o.fro b f;rw[zA0] at this;lia,o.ex⟩
theorem Ok.right(o:Ok F H (T++A)):Ok F H A:=⟨λ b=>by have:=o.sep b;rw[zA0] at this;grind -abstractProof,λ b f=>by have:=o.fro b f;rw[zA0] at this;grind -abstractProof,o.ex⟩
theorem Ok.count(o:Ok F H A)(h:∀ b,i.count b<=A.count b):Ok F H i:=⟨λ b=>zAb (h b) (o.sep b),λ b f=>by have:=o.fro b f;have:=h b;lia,o.ex⟩
theorem M2.frame(s:M2 F H A j g i)(o:Ok F H (T++A))(c:∀ b∈T,∃ o,H b=some o/\Bd o=true)(o1:Ok j g i):Ok j g (T++i)/\M2 F H (T++A) j g (T++i):=by
 have a:∀ b,T.count b≠0->∃ u,H b=some u/\A.count b=0:=λ b h=>by
   obtain⟨u,e,_⟩:=c b (qb1.mpr h)
   have:=o.sep b
   grind
 refine⟨⟨λ b=>?_,λ b f=>?_,o1.ex⟩,λ b u e q=>?_,λ b u e q=>?_,s.mono,λ b u e q f=>?_⟩
 . rw[zA0]
   by_cases h:T.count b=0
   . have:=o1.sep b;lia
   obtain⟨u,e,q⟩:=a b h;have d:=s.sub b u e q
   have:=o.sep b
   grind
 . rw[zA0,o1.fro b f]
   by_cases h:T.count b=0
   . lia
   obtain⟨u,e,q⟩:=a b h
   have:=o.fro b (s.fnew b u e q f)
   grind
 . rw[zA0] at q;exact s.fr b u e (by lia)
 . rw[zA0] at q ⊢;have:=s.sub b u e (by lia);lia
 rw[zA0] at q;exact s.fnew b u e (by lia) f
theorem M2.count(s:M2 F H A j g i)(h:∀ b,k.count b<=i.count b):M2 F H A j g k:=⟨s.fr,λ b o e q=>by have:=s.sub b o e q;have:=h b;lia,s.mono,s.fnew⟩
theorem M2.pre(s:M2 F H A j g i)(h:∀ b,A.count b=k.count b):M2 F H k j g i:=⟨λ b o e q=>s.fr b o e (by rw[h];exact q),λ b o e q=>s.sub b o e (by rw[h];exact q),s.mono,λ b o e q f=>s.fnew b o e (by rw[h];exact q) f⟩
end
structure New(H:Hp)(B:List γ):Prop where
 one:∀ b,B.count b<=1
 new:∀ b o,H b=some o->B.count b=0
section
variable{F:γ->Prop}{H H':Hp}{A B:List γ}
theorem New.nil:New H []:=⟨λ b=>by simp,λ b o _=>by simp⟩
theorem New.ok(n:New H B)(o:Ok F H A)(c:∀ b∈A,∃ o,H b=some o/\Bd o=true)(s:Same H H'):Ok F H' (B++A):=by
 refine⟨λ b=>?_,λ b f=>?_,λ b f=>?_⟩
 . rw[zA0]
   have a:=n.one b;have d:=o.sep b;by_cases h:A.count b=0
   . lia
   obtain⟨u,e,_⟩:=c b (qb1.mpr h)
   have:=n.new b u e
   lia
 . rw[zA0,o.fro b f]
   obtain⟨u,e⟩:=o.ex b f;rw[n.new b u e]
 obtain⟨u,e⟩:=o.ex b f;exact⟨u,s b u e⟩
theorem New.append{H1:Hp}{B1:List γ}(n:New H B)(s:Same H H1)(c:∀ b∈B,∃ o,H1 b=some o/\Bd o=true)(a:New H1 B1):New H (B++B1):=by
 refine⟨λ b=>?_,λ b o e=>?_⟩
 . rw[zA0]
   have d:=n.one b;have f:=a.one b;by_cases h:B.count b=0
   . grind -abstractProof
   obtain⟨u,e,_⟩:=c b (qb1.mpr h)
   have:=a.new b u e
   grind -abstractProof
 rw[zA0,n.new b o e,a.new b o (s b o e)]
theorem Ok.same(o:Ok F H A)(s:Same H H'):Ok F H' A:=⟨o.sep,o.fro,λ b f=>let ⟨u,e⟩:=o.ex b f;⟨u,s b u e⟩⟩
theorem New.stp(n:New H B)(s:Same H H'):M2 F H A F H' (B++A):=⟨λ b o e _=>s b o e,λ b o e q=>by rw[zA0,n.new b o e,q],λ _ f=>f,λ _ _ _ _ f=>f⟩
end
structure Exn where
 C:γ
 fs:List (Str×D)
def RepX(F:γ->Prop)(H:Hp)(e:γ)(x:Exn):Prop :=
 ∃ c cx,H e=some (Ac e x.C c false cx)/\(∀ b,cx=some b->Chn H b)/\(x.fs=[]/\c=none∨∃ dx a,c=some dx/\H dx=some (XD dx a)/\a.map (·.1)=x.fs.map (·.1)/\Mw F H (a.map (·.2)) (x.fs.map (·.2)) [])
abbrev Ds:=List D
abbrev DK:=D->Ds->Prop
abbrev XKd:=Exn->Ds->Prop
abbrev VT:=Ds->DK->XKd->Prop
abbrev VTT:=Ds->(Bool->Ds->Prop)->XKd->Prop
abbrev VTA:=Ds->(Ds->Ds->Prop)->XKd->Prop
abbrev FV:=Ds->Option D
structure Vc where
 E:St->XK
 W:Nat->Bool
 av:List (Option V)
 gv:List (Option V)
structure M3(c:Vc)(F:γ->Prop)(H:Hp)(a:St)(ds:Ds)(A:List γ):Prop where
 loc:Locs F H (a++c.gv) ds A
 ok:Ok F H A
 len:c.av.length=(a++c.gv).length
 ag:∀ i,c.W i=true->(a++c.gv)[i]? = c.av[i]?
theorem M3.same{c:Vc}{F:γ->Prop}{H H':Hp}{a:St}{ds:Ds}{A:List γ}(S:M3 c F H a ds A)(s:Same H H'):M3 c F H' a ds A:=⟨S.loc.same s,S.ok.same s,S.len,S.ag⟩
def Xc(c:Vc)(xe:XKd)(F:γ->Prop)(H:Hp)(A:List γ):Prop :=
 ∀ x a b' e H' F' A',xe x a->RepX F' H' e x->M3 c F' H' b' a A'->M2 F H A F' H' A'->c.E b' (.ref e) none H'
theorem Xc.step{c:Vc}{xe:XKd}{F F1:γ->Prop}{H H1:Hp}{A A1:List γ}(x:Xc c xe F H A)(s:M2 F H A F1 H1 A1):Xc c xe F1 H1 A1:=λ y a b' e H' F' A' h r S t=>x y a b' e H' F' A' h r S (s.trans t)
def kE(c:Vc)(b:St)(F:γ->Prop)(H:Hp)(A:List γ)(Q:VK):DK:=λ d a=>∀ v H' F' T A',M0 F' H' v d T->M3 c F' H' b a A'->Ok F' H' (T++A')->M2 F H A F' H' (T++A')->Q v H'
inductive LiftE(c:Vc)(t:VT)(a:St)(H:Hp)(Q:VK):Prop
 | mk (F:γ->Prop) (ds:Ds) (A:List γ) (xe:XKd) (S:M3 c F H a ds A) (x:Xc c xe F H A) (q:t ds (kE c a F H A Q) xe):LiftE c t a H Q
def Be(c:Vc)(t:VT):TE:=LiftE c t
inductive LiftV(c:Vc)(own:Bool)(f:FV)(a:St)(H:Hp)(Q:VK):Prop
 | mk (F:γ->Prop) (ds:Ds) (A:List γ) (d:D) (S:M3 c F H a ds A) (e:f ds=some d) (q:∀ v H' B,M0 F H' v d B->Same H H'->(own=true->New H B)->Q v H'):LiftV c own f a H Q
def Bz(c:Vc)(own:Bool)(f:FV):TE:=LiftV c own f
inductive qR8(c:Vc)(own:Bool)(f:Ds->Option Ds)(a:St)(H:Hp)(Q:List V->Hp->Prop):Prop
 | mk (F:γ->Prop) (ds:Ds) (A:List γ) (xs:Ds) (S:M3 c F H a ds A) (e:f ds=some xs) (q:∀ vs H' B,Mw F H' vs xs B->Same H H'->(own=true->New H B)->Q vs H'):qR8 c own f a H Q
def qP3(c:Vc)(own:Bool)(f:Ds->Option Ds):TA:=qR8 c own f
inductive qR9(c:Vc)(t:VTA)(a:St)(H:Hp)(Q:List V->Hp->Prop):Prop
 | mk (F:γ->Prop) (ds:Ds) (A:List γ) (xe:XKd) (S:M3 c F H a ds A) (x:Xc c xe F H A) (q:t ds (λ xs ds'=>∀ vs H' F' T A',Mw F' H' vs xs T->M3 c F' H' a ds' A'->M2 F H A F' H' A'->Q vs H') xe):qR9 c t a H Q
def qP4(c:Vc)(t:VTA):TA:=qR9 c t
inductive LiftT(c:Vc)(t:VTT)(a:St)(H:Hp)(Q:Bool->Hp->Prop):Prop
 | mk (F:γ->Prop) (ds:Ds) (A:List γ) (xe:XKd) (S:M3 c F H a ds A) (x:Xc c xe F H A) (q:t ds (λ b ds'=>∀ H' F' A',M3 c F' H' a ds' A'->M2 F H A F' H' A'->Q b H') xe):LiftT c t a H Q
def Bi(c:Vc)(t:VTT):TT:=LiftT c t
structure VE(c:Vc)(X:Cx)(e:Kt)(t:VT):Prop where
 h:PE X e (Be c t)
 m:∀ ds (Q Q':DK) (xe xe':XKd),(∀ d ds',Q d ds'->Q' d ds')->(∀ x ds',xe x ds'->xe' x ds')->t ds Q xe->t ds Q' xe'
structure VV(c:Vc)(X:Cx)(e:Kt)(own:Bool)(f:FV):Prop where
 h:PE X e (Bz c own f)
structure VVs(c:Vc)(X:Cx)(es:List Kt)(own:Bool)(f:Ds->Option Ds):Prop where
 h:PA X es (qP3 c own f)
structure VOs(c:Vc)(X:Cx)(es:List Kt)(t:VTA):Prop where
 h:PA X es (qP4 c t)
 m:∀ ds (Q Q':Ds->Ds->Prop) (xe xe':XKd),(∀ d ds',Q d ds'->Q' d ds')->(∀ x ds',xe x ds'->xe' x ds')->t ds Q xe->t ds Q' xe'
structure VTe(c:Vc)(X:Cx)(e:Kt)(t:VTT):Prop where
 h:PT X e (Bi c t)
 m:∀ ds (Q Q':Bool->Ds->Prop) (xe xe':XKd),(∀ d ds',Q d ds'->Q' d ds')->(∀ x ds',xe x ds'->xe' x ds')->t ds Q xe->t ds Q' xe'
theorem PE.mono{X:Cx}{e:Kt}{t t':TE}(h:PE X e t)(i:∀ a H Q,t' a H Q->t a H Q):PE X e t':=λ Ko s a H Q I q=>h Ko s a H Q I (i a H Q q)
theorem PT.mono{X:Cx}{e:Kt}{t t':TT}(h:PT X e t)(i:∀ a H Q,t' a H Q->t a H Q):PT X e t':=λ Ko s a H Q I q=>h Ko s a H Q I (i a H Q q)
theorem PW.mono{X:Cx}{e:Kt}{t t':TT}(h:PW X e t)(i:∀ a H Q,t' a H Q->t a H Q):PW X e t':=λ w Ko s a H Q I q=>h w Ko s a H Q I (i a H Q q)
theorem PA.mono{X:Cx}{es:List Kt}{t t':TA}(h:PA X es t)(i:∀ a H Q,t' a H Q->t a H Q):PA X es t':=λ p Ko s a H Q I q=>h p Ko s a H Q I (i a H Q q)
theorem PS.mono{X:Cx}{st:Ku}{t t':TS}(h:PS X st t)(i:∀ D a H,t' D a H->t D a H):PS X st t':=λ Ko s a H D I q=>h Ko s a H D I (i D a H q)
theorem PSs.mono{X:Cx}{st:List Ku}{t t':TS}(h:PSs X st t)(i:∀ D a H,t' D a H->t D a H):PSs X st t':=λ Ko s a H D I q=>h Ko s a H D I (i D a H q)
def orF{α:Type}(o:Option α)(k:α->Prop):Prop:=match o with | some a=>k a | none=>False
theorem qa6{o:Option α}{k b:α->Prop}(h:∀ a,k a->b a):orF o k->orF o b:=by
 cases o with
 | none=>exact id
 | some a=>exact h a
theorem qa8{o:Option α}{k:α->Prop}:orF o k↔∃ a,o=some a/\k a:=by
 cases o with
 | none=>exact⟨λ h=>h.elim,λ ⟨_,e,_⟩=>by cases e⟩
 | some a=>exact⟨λ h=>⟨a,rfl,h⟩,λ ⟨b,e,h⟩=>by cases e;exact h⟩
section
variable{c:Vc}{X:Cx}{e:Kt}{F:γ->Prop}{H H':Hp}{t:St}{ds:Ds}{A:List γ}
theorem M3.new{B:List γ}(S:M3 c F H t ds A)(n:New H B)(s:Same H H'):Ok F H' (B++A):=n.ok S.ok S.loc.cells s
def Bj(f:FV):VT:=λ ds Q _=>orF (f ds) λ d=>Q d ds
def Hf(f:FV):VT:=λ ds Q _=>orF (f ds) λ d=>d.imm=true/\Q d ds
theorem qa7{f:FV}(h:VV c X e true f):VE c X e (Bj f):=by
 refine⟨PE.mono h.h λ t H Q a=>?_,λ b Q Q' g i j _=>qa6 λ d=>j d b⟩;obtain⟨F,b,A,g,S,x,q⟩:=a;obtain⟨d,e,q⟩:=qa8.mp q;exact⟨F,b,A,d,S,e,λ v H' B r s n=>q v H' F B A r (S.same s) (S.new (n rfl) s) ((n rfl).stp s)⟩
theorem qd9{own:Bool}{f:FV}(h:VV c X e own f):VE c X e (Hf f):=by
 refine⟨PE.mono h.h λ t H Q a=>?_,λ b Q Q' g i j _=>qa6 λ d=>Mb (j d b)⟩;obtain⟨F,b,A,g,S,x,q⟩:=a;obtain⟨d,e,k,q⟩:=qa8.mp q;refine⟨F,b,A,d,S,e,λ v H' B r s _=>?_⟩
 have:=r.imm k
 subst this;exact q v H' F [] A r (S.same s) (S.ok.same s) (.same s)
theorem Ij{d:D}(h:PE X e (tC v))(r:∀ F H,M0 F H v d []):VV c X e true (λ _=>some d) :=
 ⟨PE.mono h λ t H Q ⟨F,a,A,b,S,e,q⟩=>by cases e;exact q v H [] (r F H) (λ _ _ z=>z) λ _=>New.nil⟩
noncomputable def D.known:D->Bool
 | .u=>false
 | .hole _=>false
 | _=>true
def rdN(i:Nat):FV:=λ ds=>match ds[i]? with
 | some d=>if d.known=true then some d else none
 | none=>none
theorem qm4{d:D}:rdN i ds=some d↔ds[i]? = some d/\d.known=true:=by
 unfold rdN;cases h:ds[i]? with
 | none=>simp
 | some x =>
   dsimp only;split
   . rename_i hk;constructor
     . intro e;grind
     rintro⟨e,_⟩;exact e
   grind
theorem M3.at{d:D}(S:M3 c F H t ds A)(hi:i < t.length)(h:ds[i]? = some d)(a:d.known=true):∃ v B,t[i]? = some (some v)/\M0 F H v d B/\∀ b,B.count b<=A.count b:=by
 obtain⟨σ1,o,σ2,e,f,A1,B,A2,g,m,j,n,k,p,l,q⟩:=S.loc.split h;cases l with
 | no=>cases a
 | @so v _ _ r =>
   refine⟨v,B,?_,r,λ b=>by rw[k];simp only[zA0];lia⟩
   have:(t++c.gv)[i]? = some (some v):=by rw[g];exact qh8 j
   rwa[zA9 hi] at this
theorem qK9{x:Str}{pos:Pos}(h:PE X (.Name x pos) (tVar i))(hi:∀ Ko t H s,M1 X Ko t H s->i < t.length):VV c X (.Name x pos) false (rdN i):=by
 refine⟨λ Ko s t H Q I a=>?_⟩;obtain⟨F,g,A,d,S,e,q⟩:=a;refine h Ko s t H Q I ?_;obtain⟨e,b⟩:=qm4.mp e;obtain⟨v,B,f,r,_⟩:=S.at (hi Ko t H s I) e b;exact⟨v,f,q v H B r (λ _ _ z=>z) λ z=>by cases z⟩
theorem qk9{X:Cx}{x:Str}(a:X.N[i]? = some x):∀ Ko t H s,M1 X Ko t H s->i < t.length:=λ Ko t H s I=>by
 rw[I.len];exact(zAd.mp a).1
end
def Sub(H:Hp)(B B':List γ):Prop:=∀ b,B'.count b<=B.count b∨(B'.count b<=1/\H b=none)
theorem Sub.new{H H1:Hp}{B B':List γ}(s:Sub H1 B B')(n:New H B)(q:Same H H1):New H B':=by
 refine⟨λ b=>?_,λ b o e=>?_⟩
 . rcases s b with h | ⟨h,_⟩
   . have:=n.one b;lia
   exact h
 rcases s b with h | ⟨_,h⟩
 . have:=n.new b o e;lia
 rw[q b o e] at h;cases h
def OpS(nw:Bool)(r:List V->Hp->VK->Prop)(g:Ds->Option D):Prop:=∀ F H vs xs B d (Q:VK),Mw F H vs xs B->g xs=some d ->
 (∀ v H' B',M0 F H' v d B'->Same H H'->(if nw=true then New H B' else Sub H B B')->Q v H')->r vs H Q
def At(nw:Bool)(r:R2)(g:D->D->Option D):Prop:=∀ F H v w x y B d (Q:VK),Mw F H [v,w] [x,y] B->g x y=some d ->
 (∀ v H' B',M0 F H' v d B'->Same H H'->(if nw=true then New H B' else Sub H B B')->Q v H')->r v w H Q
noncomputable def f2(g:D->D->Option D)(fa fb:FV):FV:=λ ds=>(fa ds).bind λ x=>(fb ds).bind λ y=>g x y
theorem qQ7{g:D->D->Option D}{fa fb:FV}{ds:Ds}{d:D}:f2 g fa fb ds=some d↔∃ x y,fa ds=some x/\fb ds=some y/\g x y=some d:=by
 unfold f2;cases a:fa ds with
 | none=>simp
 | some x=>cases b:fb ds with
   | none=>simp
   | some y=>simp
theorem rep2{F:γ->Prop}{H:Hp}{d e:D}{A B:List γ}(r:M0 F H v d A)(s:M0 F H w e B):Mw F H [v,w] [d,e] (A++(B++[])):=.cons r (.cons s .nil)
section
variable{c:Vc}{X:Cx}{a b:Kt}{oa ob R:Bool}{Y Z:FV}{r:R2}{g:D->D->Option D}{O U:VT}
theorem op_vv(h:At R r g):∀ N H Q,Bz c (R||(oa&&ob)) (f2 g Y Z) N H Q->tOp r (Bz c oa Y) (Bz c ob Z) N H Q:=by
 rintro N H Q ⟨F,k,A,d,S,e,q⟩;obtain⟨x,y,m,n,p⟩:=qQ7.mp e;refine⟨F,k,A,x,S,m,λ v H1 B1 l a s=>⟨F,k,A,y,S.same a,n,λ w H2 B2 t i z=>?_⟩⟩;refine h F H2 v w x y _ d Q (rep2 (l.same i) t) p λ u H3 B3 B C f=>?_
 refine q u H3 B3 B ((a.trans i).trans C) λ j=>?_
 cases R with
 | true=>rw[if_pos rfl] at f;exact⟨f.one,λ b o e=>f.new b o (i b o (a b o e))⟩
 | false =>
   rw[if_neg (by decide)] at f;have j:=zAr.mp j
   have:=(s j.1).append a l.cells (z j.2)
   exact f.new (by rw[zAh];exact this) (a.trans i)
def t2(g:D->D->Option D)(O U:VT):VT:=λ ds Q xe=>O ds (λ x ds1=>U ds1 (λ y a=>orF (g x y) λ d=>Q d a) xe) xe
theorem op_ee(p:VE c X a O)(n:VE c X b U)(h:At true r g):∀ N H Q,Be c (t2 g O U) N H Q->tOp r (Be c O) (Be c U) N H Q:=by
 rintro N H Q ⟨F,s,A,o,S,x,q⟩;refine⟨F,s,A,o,S,x,p.m _ _ _ _ _ (λ t i q v H1 F1 T A1 y S1 B C=>?_) (λ _ _ z=>z) q⟩;have e:M2 F H A F1 H1 A1:=C.count λ b=>by rw[zA0];grind -abstractProof
 refine⟨F1,i,A1,o,S1,x.step e,n.m _ _ _ _ _ (λ D E q w H2 F2 T2 A2 G S2 L I=>?_) (λ _ _ z=>z) q⟩;obtain⟨d,J,q⟩:=qa8.mp q;have f:M2 F1 H1 A1 F2 H2 A2:=I.count λ b=>by rw[zA0];grind -abstractProof
 have j:=y.keep (f.kp S1.ok S1.loc.cells) λ b n M=>by
   have:=B.sep b
   grind
 refine h F2 H2 v w t D _ d Q (rep2 j G) J λ u H3 B3 K k l=>?_
 rw[if_pos rfl] at l;exact q u H3 F2 B3 A2 K (S2.same k) (S2.new l k) ((e.trans f).trans (l.stp k))
def OpS1(R:Bool)(r:V->Hp->VK->Prop)(g:D->Option D):Prop:=∀ F H v x B d (Q:VK),M0 F H v x B->g x=some d ->
 (∀ v H' B',M0 F H' v d B'->Same H H'->(if R=true then New H B' else Sub H B B')->Q v H')->r v H Q
def t1(g:D->Option D)(O:VT):VT:=λ ds Q xe=>O ds (λ x ds1=>orF (g x) λ d=>Q d ds1) xe
theorem qL3{g:D->Option D}(h:VE c X a O):∀ ds (Q Q':DK) (xe e:XKd),(∀ d b,Q d b->Q' d b)->(∀ x b,xe x b->e x b)->t1 g O ds Q xe->t1 g O ds Q' e :=
 λ ds Q Q' xe e i j=>h.m _ _ _ _ _ (λ d f=>qa6 λ z=>i z f) j
variable{W:V->Hp->VK->Prop}{g1:D->Option D}
theorem op_e{R:Bool}(r:VE c X a O)(h:OpS1 R W g1):∀ N H Q,Be c (t1 g1 O) N H Q->Be c O N H (λ x H1=>W x H1 Q):=by
 rintro N H Q ⟨F,s,A,t,S,x,q⟩;refine⟨F,s,A,t,S,x,r.m _ _ _ _ _ (λ w y q v H1 F1 T A1 W S1 l i=>?_) (λ _ _ z=>z) q⟩;have n:M2 F H A F1 H1 A1:=i.count λ b=>by rw[zA0];lia
 obtain⟨d,B,q⟩:=qa8.mp q;refine h F1 H1 v w _ d Q W B λ u H3 B3 p j g=>?_
 cases R with
 | true =>
   rw[if_pos rfl] at g;exact q u H3 F1 B3 A1 p (S1.same j) (S1.new g j) (n.trans (g.stp j))
 | false =>
   rw[if_neg (by decide)] at g;refine q u H3 F1 B3 A1 p (S1.same j) ⟨λ b=>?_,λ b f=>?_,λ b f=>let ⟨u,e⟩:=l.ex b f;⟨u,j b u e⟩⟩ ?_
   . have:=l.sep b
     rw[zA0] at this ⊢;rcases g b with h | ⟨h,k⟩
     . lia
     by_cases C:A1.count b=0
     . lia
     obtain⟨o,e,_⟩:=(S1.loc.cells) b (qb1.mpr C);grind
   . have:=l.fro b f
     rw[zA0] at this ⊢;rcases g b with h | ⟨h,k⟩
     . lia
     obtain⟨o,e⟩:=l.ex b f;rw[e] at k;cases k
   refine⟨λ b o e q=>j b o (i.fr b o e q),λ b o e q=>?_,i.mono,i.fnew⟩
   have:=i.sub b o e q
   rw[zA0] at this ⊢;rcases g b with h | ⟨h,k⟩
   . lia
   rw[i.fr b o e q] at k;cases k
end
section
variable{c:Vc}{X:Cx}{b:Kt}{G C:Bool}{B:FV}{r:R2}
theorem qd0:VVs c X [] true (λ _=>some []):=⟨PA.mono qh3 λ w H Q ⟨F,a,A,b,S,e,q⟩=>by cases e;exact q [] H [] .nil (λ _ _ z=>z) λ _=>New.nil⟩
noncomputable def A6(B:FV)(fr:Ds->Option Ds):Ds->Option Ds:=λ ds=>(B ds).bind λ x=>(fr ds).bind λ xs=>some (x::xs)
theorem qC3{B:FV}{fr:Ds->Option Ds}{ds xs:Ds}:A6 B fr ds=some xs↔∃ x r,B ds=some x/\fr ds=some r/\xs=x::r:=by
 unfold A6;cases a:B ds with
 | none=>simp
 | some x=>cases b:fr ds with
   | none=>simp
   | some y=>simp[eq_comm]
theorem qb0{e:Kt}{es:List Kt}{own:Bool}{fr:Ds->Option Ds}(j:VV c X e G B)(k:VVs c X es own fr)(l:Jj (e::es) X.env=(false,eval e X.env)::Jj es X.env):VVs c X (e::es) (G&&own) (A6 B fr):=by
 refine⟨PA.mono (qb8 j.h k.h l) λ w H Q b=>?_⟩;obtain⟨F,f,A,u,S,e,q⟩:=b;obtain⟨x,r,m,n,rfl⟩:=qC3.mp e;refine⟨F,f,A,x,S,m,λ v H1 B1 g d o=>⟨F,f,A,r,S.same d,n,λ p H2 B2 s i t=>?_⟩⟩;refine q (v::p) H2 (B1++B2) (.cons (g.same i) s) (d.trans i) λ a=>?_
 have a:=zAr.mp a;exact(o a.1).append d g.cells (t a.2)
variable{rc:List V->Hp->VK->Prop}{E:Ds->Option D}
theorem qU3{own:Bool}{f:Ds->Option Ds}(h:OpS C rc E):∀ w H Q,Bz c (C||own) (λ ds=>(f ds).bind E) w H Q->tCB rc (qP3 c own f) w H Q:=by
 rintro w H Q ⟨F,ds,A,d,S,e,q⟩;obtain⟨i,j,k⟩:=zA3.mp e;refine⟨F,ds,A,i,S,j,λ l H1 B1 m g n=>h F H1 l i B1 d Q m k λ u H3 B3 p r a=>q u H3 B3 p (g.trans r) λ s=>?_⟩;cases C with
 | true=>rw[if_pos rfl] at a;exact⟨a.one,λ b o e=>a.new b o (g b o e)⟩
 | false=>rw[if_neg (by decide)] at a;exact a.new (n s) g
end
def D.kids:D->List D
 | .q ds=>ds
 | .l false ds=>ds
 | .dct false kvs=>kvs.map (·.2)
 | .ins false _ fs=>fs.map (·.2)
 | _=>[]
noncomputable def Ik{a:Type}:List (a×D)->Nat->D->List (a×D)
 | [],_,_=>[]
 | (k,_)::r,0,x=>(k,x)::r
 | p::r,n+1,x=>p::Ik r n x
theorem qn4{c:Type}:∀(l:List (c×D))(n:Nat)(x:D),(Ik l n x).map (·.1)=l.map (·.1)/\(Ik l n x).map (·.2)=(l.map (·.2)).set n x
 | [],_,_=>⟨rfl,rfl⟩
 | (k,_)::r,0,x=>⟨rfl,rfl⟩
 | p::r,n+1,x=>by
   obtain⟨a,b⟩:=qn4 r n x;simp only[Ik,zB7,a,b,List.set_cons_succ,and_self]
def D.setK:D->Nat->D->D
 | .q ds,n,x=>.q (ds.set n x)
 | .l z ds,n,x=>.l z (ds.set n x)
 | .dct z kvs,n,x=>.dct z (Ik kvs n x)
 | .ins z C fs,n,x=>.ins z C (Ik fs n x)
 | d,_,_=>d
def Lnk(H:Hp)(u:V)(n:Nat)(w:V):Prop:=∃ a,u=.ref a /\
 ((∃ vs,H a=some (.q vs)/\vs[n]? = some w)∨(∃ vs,H a=some (.l vs)/\vs[n]? = some w)∨(∃ kvs,H a=some (.dK kvs)/\(kvs.map (·.2))[n]? = some w)∨∃ C dx fs,H a=some (.ins C dx fs)/\(fs.map (·.2))[n]? = some w)
section
variable{F F':γ->Prop}{H H':Hp}
theorem Mw.split:∀{ds:List D}{vs:List V}{A:List γ}{i:Nat}{d:D},Mw F H vs ds A->ds[i]? = some d ->
   ∃ b v c ds1 a A1 B A2,vs=b++v::c/\ds=ds1++d::a/\b.length=i/\ds1.length=i/\A=A1++(B++A2)/\Mw F H b ds1 A1/\M0 F H v d B/\Mw F H c a A2:=by
 intro ds
 induction ds with
 | nil=>intro M A i d _ h;simp at h
 | cons e r f =>
   intro M A i d L h;cases i with
   | zero =>
     have:e=d:=by simpa using h
     subst this;cases L with
     | cons q t=>exact⟨[],_,_,[],_,[],_,_,rfl,rfl,rfl,rfl,rfl,.nil,q,t⟩
   | succ i =>
     have h:r[i]? = some d:=by simpa using h
     cases L with
     | @cons v _ B0 _ _ A0 q t =>
       obtain⟨σ1,o,σ2,ds1,a,A1,B,A2,g,j,k,l,m,n,p,s⟩:=f t h;exact⟨v::σ1,o,σ2,_::ds1,a,B0++A1,B,A2,by rw[g];rfl,by rw[j];rfl,by simp[k],by simp[l],by rw[m,zAj],.cons q n,p,s⟩
theorem Mw.append{a:List V}{ds es:List D}{A B:List γ}(r:Mw F H vs ds A)(t:Mw F H a es B):Mw F H (vs++a) (ds++es) (A++B):=by
 induction vs generalizing ds A with
 | nil=>cases r;exact t
 | cons v vs b =>
   cases r with
   | cons h c=>rw[zAj];exact .cons h (b c)
theorem Mw.kid{ds:List D}{A:List γ}{d:D}(r:Mw F H vs ds A)(h:ds[n]? = some d):∃(w:V)(B C:List γ),vs[n]? = some w/\M0 F H w d B/\(∀ b,A.count b=B.count b+C.count b) /\
   ∀{F':γ->Prop}{H':Hp}{W:γ->Prop}(d':D)(B':List γ),Kp F H W F' H'->(∀ b∈C,¬ W b)->M0 F' H' w d' B'->∃ A':List γ,Mw F' H' vs (ds.set n d') A'/\∀ b,A'.count b=B'.count b+C.count b:=by
 obtain⟨f,v,g,i,j,A1,B,A2,c,l,m,o,p,q,s,t⟩:=r.split h;refine⟨v,B,A1++A2,by rw[c];exact qh8 m,s,λ b=>by rw[p];simp only[zA0];grind -abstractProof,λ{F' H' W} d' B' k e u=>⟨A1++(B'++A2),?_,λ b=>by simp only[zA0];grind -abstractProof⟩⟩;rw[c,l,qe7 o];exact(q.keep k λ b a=>e b (zAf.mpr (.inl a))).append (.cons u (t.keep k λ b a=>e b (zAf.mpr (.inr a))))
theorem M0.kid{p:V}{s d:D}{A:List γ}(r:M0 F H p s A)(h:s.kids[n]? = some d):∃(w:V)(B C:List γ),Lnk H p n w/\M0 F H w d B/\(∀ b,A.count b=B.count b+C.count b) /\
   ∀{F':γ->Prop}{H':Hp}{W:γ->Prop}(d':D)(B':List γ),Kp F H W F' H'->(∀ b∈C,¬ W b)->M0 F' H' w d' B'->∃ A':List γ,M0 F' H' p (s.setK n d') A'/\∀ b,A'.count b=B'.count b+C.count b:=by
 cases r with
 | @q a vs ds _ e r =>
   obtain⟨w,B,C,f,g,i,j⟩:=r.kid h;refine⟨w,B,C,⟨a,rfl,.inl ⟨vs,e,f⟩⟩,g,i,λ{F' H' W} d' B' k c l=>?_⟩;obtain⟨A',m,q2⟩:=j d' B' k c l;exact⟨A',.q (k.q e) m,q2⟩
 | @l a vs ds A e r =>
   obtain⟨w,B,C,f,g,i,j⟩:=r.kid h;refine⟨w,B,a::C,⟨a,rfl,.inr (.inl ⟨vs,e,f⟩)⟩,g,λ b=>by rw[zAg,zAg,i];lia,λ{F' H' W} d' B' k c l=>?_⟩;obtain⟨A',m,q2⟩:=j d' B' k (λ b o=>c b (zA5 _ o)) l;exact⟨a::A',.l (k.fr a _ e (c a zAe)) m,λ b=>by rw[zAg,zAg,q2];lia⟩
 | @dct a kvs kds A e q r =>
   obtain⟨w,B,C,f,g,i,j⟩:=r.kid h;refine⟨w,B,a::C,⟨a,rfl,.inr (.inr (.inl ⟨kvs,e,f⟩))⟩,g,λ b=>by rw[zAg,zAg,i];lia,λ{F' H' W} d' B' k c l=>?_⟩;obtain⟨A',m,q2⟩:=j d' B' k (λ b o=>c b (zA5 _ o)) l;obtain⟨t,u⟩:=qn4 kds n d';exact⟨a::A',.dct (k.fr a _ e (c a zAe)) (q.trans t.symm) (by rw[u];exact m),λ b=>by rw[zAg,zAg,q2];lia⟩
 | @ins a C0 dx fvs fds A e q r =>
   obtain⟨w,B,C,f,g,i,j⟩:=r.kid (n:=n) h;refine⟨w,B,a::C,⟨a,rfl,.inr (.inr (.inr ⟨C0,dx,fvs,e,f⟩))⟩,g,λ b=>by rw[zAg,zAg,i];lia,λ{F' H' W} d' B' k c l=>?_⟩;obtain⟨A',m,q2⟩:=j d' B' k (λ b o=>c b (zA5 _ o)) l;obtain⟨t,u⟩:=qn4 fds n d';exact⟨a::A',.ins (k.fr a _ e (c a zAe)) (q.trans t.symm) (by rw[u];exact m),λ b=>by rw[zAg,zAg,q2];lia⟩
 | _=>cases (show (none:Option D)=some _ from h)
def D.getP:D->List Nat->Option D
 | d,[]=>some d
 | d,n::p=>match d.kids[n]? with
   | some e=>e.getP p
   | none=>none
def D.setP:D->List Nat->D->D
 | _,[],x=>x
 | d,n::p,x=>match d.kids[n]? with
   | some e=>d.setK n (e.setP p x)
   | none=>d
def Walk(H:Hp):V->List Nat->V->Prop
 | u,[],w=>u=w
 | u,n::p,w=>∃ v,Lnk H u n v/\Walk H v p w
theorem M0.path:∀{p:List Nat}{a:V}{c d:D}{A:List γ},M0 F H a c A->c.getP p=some d->∃(w:V)(B C:List γ),Walk H a p w/\M0 F H w d B/\(∀ b,A.count b=B.count b+C.count b) /\
   ∀{F':γ->Prop}{H':Hp}{W:γ->Prop}(d':D)(B':List γ),Kp F H W F' H'->(∀ b∈C,¬ W b)->M0 F' H' w d' B'->∃ A':List γ,M0 F' H' a (c.setP p d') A'/\∀ b,A'.count b=B'.count b+C.count b:=by
 intro p
 induction p with
 | nil =>
   intro a c d A r h;cases h;exact⟨a,A,[],rfl,r,λ b=>by simp,λ{F' H' W} d' B' k g i=>⟨B',i,λ b=>by simp⟩⟩
 | cons n p l =>
   intro a c d A r h;unfold D.getP at h;cases f:c.kids[n]? with
   | none=>rw[f] at h;cases h
   | some e =>
     rw[f] at h;obtain⟨m,B1,C1,o,q,s,t⟩:=r.kid f;obtain⟨w,B,C,u,v,x,y⟩:=l q h;refine⟨w,B,C++C1,⟨m,o,u⟩,v,λ b=>by rw[s,x,zA0];lia,λ{F' H' W} d' B' k g i=>?_⟩;obtain⟨A1,z,q2⟩:=y d' B' k (λ b j=>g b (zAf.mpr (.inl j))) i;obtain⟨A2,E,G⟩:=t (e.setP p d') A1 k (λ b j=>g b (zAf.mpr (.inr j))) z;refine⟨A2,?_,λ b=>by rw[G,q2,zA0];lia⟩;unfold D.setP;rw[f];exact E
def A7(ds:Ds)(i:Nat)(p:List Nat):Option D:=match ds[i]? with
 | some d=>d.getP p
 | none=>none
def Br(ds:Ds)(i:Nat)(p:List Nat)(x:D):Ds:=match ds[i]? with
 | some d=>ds.set i (d.setP p x)
 | none=>ds
theorem qI8{p:List Nat}{d:D}(h:D.getP .u p=some d):p=[]/\d=.u:=by
 cases p with
 | nil=>cases h;exact⟨rfl,rfl⟩
 | cons n p=>cases (show (none:Option D)=some _ from h)
theorem Locs.place{M:List (Option V)}{ds:Ds}{A:List γ}{p:List Nat}{d:D}(L:Locs F H M ds A)(h:A7 ds i p=some d)(g:d≠.u):∃(u w:V)(B C:List γ),M[i]? = some (some u)/\Walk H u p w/\M0 F H w d B/\(∀ b,A.count b=B.count b+C.count b) /\
   ∀{F':γ->Prop}{H':Hp}{W:γ->Prop}(d':D)(B':List γ),Kp F H W F' H'->(∀ b∈C,¬ W b)->M0 F' H' w d' B'->∃ A':List γ,Locs F' H' M (Br ds i p d') A'/\∀ b,A'.count b=B'.count b+C.count b:=by
 unfold A7 at h;cases c:ds[i]? with
 | none=>rw[c] at h;cases h
 | some K =>
   rw[c] at h;obtain⟨σ1,o,σ2,j,l,A1,B0,A2,f,m,n,q,s,t,v,x⟩:=L.split c;cases v with
   | no=>exact absurd (qI8 h).2 g
   | @so u _ _ r =>
     obtain⟨w,B,C,y,z,E,G⟩:=r.path h;refine⟨u,w,B,A1++(C++A2),by rw[f];exact qh8 n,y,z,λ b=>by rw[s];simp only[zA0,E];grind -abstractProof,λ{F' H' W} d' B' k e I=>?_⟩;obtain⟨A',J,q2⟩:=G d' B' k (λ b a=>e b (zAf.mpr (.inr (zAf.mpr (.inl a))))) I;refine⟨A1++(A'++A2),?_,λ b=>by simp only[zA0,q2];grind -abstractProof⟩;unfold Br;rw[c,f];dsimp only;rw[m,qe7 q];exact(t.keep k λ b a=>e b (zAf.mpr (.inl a))).append (.so J (x.keep k λ b a=>e b (zAf.mpr (.inr (zAf.mpr (.inr a))))))
theorem Lnk.fn{u:V}(h:Lnk H u n v)(h':Lnk H u n w):v=w:=by
 obtain⟨a,rfl,h⟩:=h;obtain⟨b,e,h'⟩:=h';cases e;rcases h with⟨vs,e,h⟩ | ⟨vs,e,h⟩ | ⟨vs,e,h⟩ | ⟨C,dx,vs,e,h⟩<;>rcases h' with⟨vs',e',h'⟩ | ⟨vs',e',h'⟩ | ⟨vs',e',h'⟩ | ⟨C',dx',vs',e',h'⟩<;>rw[e] at e'<;>cases e'<;>rw[h] at h'<;>exact Mc h'
theorem Walk.fn:∀{p:List Nat}{u v w:V},Walk H u p v->Walk H u p w->v=w
 | [],_,_,_,h,h'=>h.symm.trans h'
 | n::p,_,_,_,⟨x,h1,h2⟩,⟨y,h3,h4⟩=>by
   cases h1.fn h3;exact Walk.fn h2 h4
theorem Lnk.same{u:V}(h:Lnk H u n v)(s:Same H H'):Lnk H' u n v:=by
 obtain⟨a,rfl,h⟩:=h;refine⟨a,rfl,?_⟩;rcases h with⟨vs,e,h⟩ | ⟨vs,e,h⟩ | ⟨vs,e,h⟩ | ⟨C,dx,vs,e,h⟩
 . exact .inl ⟨vs,s _ _ e,h⟩
 . exact .inr (.inl ⟨vs,s _ _ e,h⟩)
 . exact .inr (.inr (.inl ⟨vs,s _ _ e,h⟩))
 exact .inr (.inr (.inr ⟨C,dx,vs,s _ _ e,h⟩))
theorem Walk.same:∀{p:List Nat}{u v:V},Walk H u p v->Same H H'->Walk H' u p v
 | [],_,_,h,_=>h
 | n::p,_,_,⟨x,h1,h2⟩,s=>⟨x,h1.same s,h2.same s⟩
end
section
variable{c:Vc}{X:Cx}{b:Kt}{r:R2}{g:D->D->Option D}{R:VT}
def t2n(g:D->D->Option D)(i:Nat)(R:VT):VT:=λ ds Q xe=>(rdN i ds).isSome=true/\R ds (λ y ds1=>orF ((rdN i ds1).bind λ x=>g x y) λ d=>Q d ds1) xe
theorem qF4(h:VE c X b R):∀ ds (Q Q':DK) (xe e:XKd),(∀ d a,Q d a->Q' d a)->(∀ x a,xe x a->e x a)->t2n g i R ds Q xe->t2n g i R ds Q' e :=
 λ ds Q Q' xe e j k=>Mb (h.m _ _ _ _ _ (λ d f=>qa6 λ z=>j z f) k)
theorem M3.name{F:γ->Prop}{H:Hp}{O:St}{ds:Ds}{A:List γ}{d:D}(S:M3 c F H O ds A)(hi:i < O.length)(h:rdN i ds=some d):∃ v B,O[i]? = some (some v)/\M0 F H v d B/\∀ b,B.count b<=A.count b :=
 let ⟨e,k⟩:=qm4.mp h
 S.at hi e k
theorem op_ne{O:St}{H:Hp}(o:VE c X b R)(h:At true r g)(hi:i < O.length)(q:Be c (t2n g i R) O H Q):tOp r (tVar i) (Be c R) O H Q:=by
 obtain⟨F,p,A,s,S,x,t,q⟩:=q;obtain⟨L,e⟩:=zAy.mp t;obtain⟨v,B0,n,_,_⟩:=S.name hi e;refine⟨v,n,F,p,A,s,S,x,o.m _ _ _ _ _ (λ C D q w H1 F1 T A1 E S1 M G=>?_) (λ _ _ z=>z) q⟩;have f:M2 F H A F1 H1 A1:=G.count λ b=>by rw[zA0];lia
 obtain⟨d,j,q⟩:=qa8.mp q;obtain⟨y,I,j⟩:=zA3.mp j;obtain⟨N,B,a,J,_⟩:=S1.name hi I;rw[n] at a;cases a;refine h F1 H1 v w y C _ d Q (rep2 J E) j λ u H3 B3 K k l=>?_
 rw[if_pos rfl] at l;exact q u H3 F1 B3 A1 K (S1.same k) (S1.new l k) (f.trans (l.stp k))
end
section
variable{F:γ->Prop}{H:Hp}{K:Mf}
theorem M0.lst_inv{ds:List D}{B:List γ}(r:M0 F H v (.l z ds) B):∃ a vs A,v=.ref a/\H a=some (.l vs)/\Mw F H vs ds A/\∀ b,A.count b<=B.count b:=by
 cases r with
 | l h r=>exact⟨_,_,_,rfl,h,r,λ b=>by rw[zAg];lia⟩
 | lstZ h f r=>exact⟨_,_,_,rfl,h,r,λ b=>zA6 _⟩
theorem M0.tup_inv{ds:List D}{B:List γ}(r:M0 F H v (.q ds) B):∃ a vs,v=.ref a/\H a=some (.q vs)/\Mw F H vs ds B:=by
 cases r with
 | q h r=>exact⟨_,_,rfl,h,r⟩
theorem M0.dct_inv{kds:List (Key×D)}{B:List γ}(r:M0 F H v (.dct z kds) B):∃ a kvs A,v=.ref a/\H a=some (.dK kvs)/\kvs.map (·.1)=kds.map (·.1)/\Mw F H (kvs.map (·.2)) (kds.map (·.2)) A/\∀ b,A.count b<=B.count b:=by
 cases r with
 | dct h e r=>exact⟨_,_,_,rfl,h,e,r,λ b=>by rw[zAg];lia⟩
 | dctZ h f e r=>exact⟨_,_,_,rfl,h,e,r,λ b=>zA6 _⟩
noncomputable def D.elems:D->Option Ds
 | .l _ ds=>some ds
 | .q ds=>some ds
 | _=>none
theorem M0.elems{d:D}{ds:Ds}{B:List γ}(r:M0 F H v d B)(h:d.elems=some ds):∃ a vs A,v=.ref a/\(SqL K H a vs∨SqT K H a vs)/\Mw F H vs ds A/\∀ b,A.count b<=B.count b:=by
 cases d with
 | l z c=>cases h;obtain⟨a,vs,A,e,h,r,q⟩:=r.lst_inv;exact⟨a,vs,A,e,.inl (.inl (.inl h)),r,q⟩
 | q c=>cases h;obtain⟨a,vs,e,h,r⟩:=r.tup_inv;exact⟨a,vs,_,e,.inr (.inl (.inl h)),r,λ _=>zA6 _⟩
 | _=>cases h
theorem Mw.len{ds:List D}{A:List γ}(r:Mw F H vs ds A):vs.length=ds.length:=by
 induction vs generalizing ds A with
 | nil=>cases r;rfl
 | cons v vs a=>cases r with | cons h t=>simp[a t]
theorem qf2{p:γ}(a:H p=none):New H [p]:=⟨λ b=>by rw[zAg];simp;split<;>lia,λ b o e=>by
 have:b≠p:=λ z=>by rw[z,a] at e;cases e
 simp[zAg,Ne.symm this]⟩
theorem qw5{p:γ}{ds:Ds}(a:H p=none)(r:Mw F H vs ds []):M0 F (upd H p (.l vs)) (.ref p) (.l false ds) [p]:=.l qa3 (r.same (Same.new a))
theorem qE5{p:γ}{ds:Ds}{A:List γ}(a:H p=none)(r:Mw F H vs ds A):M0 F (upd H p (.q vs)) (.ref p) (.q ds) A:=.q qa3 (r.same (Same.new a))
theorem Mw.get{ds:List D}{A:List γ}{d:D}(r:Mw F H vs ds A)(h:ds[n]? = some d):∃ w B,vs[n]? = some w/\M0 F H w d B/\∀ b,B.count b<=A.count b:=by
 obtain⟨w,B,C,a,c,e,_⟩:=r.kid h;exact⟨w,B,a,c,λ b=>by have:=e b;lia⟩
theorem Mw.atI{ds:List D}{A:List γ}{i:Int}{d:D}(r:Mw F H vs ds A)(h:L2.atI ds i=some d):∃ w B,L2.atI vs i=some w/\M0 F H w d B/\∀ b,B.count b<=A.count b:=by
 unfold L2.atI at h ⊢;rw[r.len];cases e:ixN ds.length i with
 | none=>rw[e] at h;cases h
 | some j =>
   rw[e] at h;exact r.get h
noncomputable def D.flat:D->Option V
 | .non=>some .non
 | .bl b=>some (.bl b)
 | .int i=>some (.int i)
 | .str x=>some (.str x)
 | _=>none
theorem M0.flat{d:D}{B:List γ}(r:M0 F H v d B)(h:d.flat=some w):v=w/\flatV v=true:=by
 cases r<;>cases h<;>exact⟨rfl,rfl⟩
end
noncomputable def big:Nat:=1000000
theorem qd8:big<=Jk:=by decide
section
variable{F:γ->Prop}{H:Hp}
theorem Mw.imms0{ds:Ds}{A:List γ}(r:Mw F H vs ds A)(h:D.imms ds=true):Mw F H vs ds []:=by
 have:=r.imms h
 subst this;exact r
theorem Mw.rep{ds:Ds}(r:Mw F H vs ds []):∀ k:Nat,Mw F H (Kx k vs).flatten (Kx k ds).flatten []
 | 0=>.nil
 | k+1=>by
   rw[zAx,zAx,zB6,zB6];exact r.append (B:=[]) (r.rep k)
end
noncomputable def gd(p:Prop)[Decidable p](d:D):Option D:=if p then some d else none
theorem qf5{p:Prop}[Decidable p]{d e:D}(h:gd p d=some e):p/\d=e:=by
 unfold gd at h
 grind
theorem qs7{p:Prop}[Decidable p]{d:D}(h:p):gd p d=some d:=if_pos h
def Il:D->D->Option D
 | .int i,.int j=>some (.int (i+j))
 | .str a,.str b=>gd (a.length+b.length<=big) (.str (a++b))
 | .l _ xs,.l _ ys=>gd (D.imms xs=true/\D.imms ys=true/\xs.length+ys.length<=big) (.l false (xs++ys))
 | _,_=>none
def rAddA:R2:=λ x y H Q=>rI0 (λ i j=>.int (i+j)) x y H Q∨(∃ i j,x=.str i/\y=.str j/\i.length+j.length<=Jk/\Q (.str (i++j)) H)∨rCat x y H Q
theorem qi4{X:Cx}:OpR X (J0 .Add) rAddA:=qU8.or (qw1.or qU7)
theorem Mw.both{F:γ->Prop}{H:Hp}{x y:D}{B:List γ}(r:Mw F H [v,w] [x,y] B):∃ A A2,M0 F H v x A/\M0 F H w y A2:=by
 cases r with | cons a t=>cases t with | cons b _=>exact⟨_,_,a,b⟩
theorem M0.int_inv{F:γ->Prop}{H:Hp}{i:Int}{A:List γ}(r:M0 F H v (.int i) A):v=.int i:=by cases r;rfl
theorem M0.ty_inv{F:γ->Prop}{H:Hp}{n:String}{A:List γ}(r:M0 F H v (.ty n) A):v=.ty n:=by cases r;rfl
theorem qU1{F:γ->Prop}{H:Hp}{a:γ}{ds:Ds}{T:List γ}(r:M0 F H (.ref a) (.l z ds) T):a∈T∨F a:=by
 cases r with
 | l h _=>exact .inl zAe
 | lstZ h f _=>exact .inr f
theorem M0.str_inv{F:γ->Prop}{H:Hp}{b:Str}{A:List γ}(r:M0 F H v (.str b) A):v=.str b:=by cases r;rfl
theorem qJ1{x y d:D}(h:Il x y=some d):(∃ i j,x=.int i/\y=.int j/\d=.int (i+j))∨(∃ a b,x=.str a/\y=.str b/\a.length+b.length<=big/\d=.str (a++b))∨∃ z c xs ys,x=.l z xs/\y=.l c ys/\(D.imms xs=true/\D.imms ys=true/\xs.length+ys.length<=big)/\d=.l false (xs++ys):=by
 unfold Il at h;split at h
 . exact .inl ⟨_,_,rfl,rfl,(Mc h).symm⟩
 . exact .inr (.inl ⟨_,_,rfl,rfl,(qf5 h).1,(qf5 h).2.symm⟩)
 . exact .inr (.inr ⟨_,_,_,_,rfl,rfl,(qf5 h).1,(qf5 h).2.symm⟩)
 cases h
theorem qi3:At true rAddA Il:=by
 intro F H v w x y B d Q r h q;obtain⟨A,A2,c,e⟩:=r.both;rcases qJ1 h with⟨i,j,rfl,rfl,rfl⟩ | ⟨a,b,rfl,rfl,hl,rfl⟩ | ⟨z,z2,xs,ys,rfl,rfl,hl,rfl⟩
 . exact .inl ⟨i,j,c.int_inv,e.int_inv,q _ H [] (.int _) (λ _ _ z=>z) New.nil⟩
 . exact .inr (.inl ⟨a,b,c.str_inv,e.str_inv,zAb hl qd8,q _ H [] (.str _) (λ _ _ z=>z) New.nil⟩)
 obtain⟨a,k,_,l,m,g,_⟩:=c.lst_inv;obtain⟨b,n,_,o,s,q2,_⟩:=e.lst_inv;refine .inr (.inr ⟨a,b,k,n,l,o,m,s,by rw[g.len,q2.len];exact zAb hl.2.2 qd8,λ p f=>?_⟩);exact q _ _ [p] (qw5 f ((g.imms0 hl.1).append (q2.imms0 hl.2.1))) (Same.new f) (qf2 f)
noncomputable def A8(i:Int):Bool:=decide (-(2 ^ 64) < i)&&decide (i < 2 ^ 64)
theorem qp2{i:Int}(h:A8 i=true):-(2 ^ 64) < i/\i < 2 ^ 64:=by
 have:=zAr.mp h
 exact⟨zAt this.1,zAt this.2⟩
def Hk:D->D->Option D
 | .int i,.int j=>gd ((A8 i||A8 j)=true) (.int (i * j))
 | .l _ xs,.int k=>gd (D.imms xs=true/\xs.length * k.toNat<=big/\k < 1000000/\-1000000 < k) (.l false (Kx k.toNat xs).flatten)
 | _,_=>none
def rMulA:R2:=λ x y H Q=>rI CMul (λ i j=>.int (i * j)) x y H Q∨rRep x y H Q
theorem qs2{X:Cx}:OpR X (J0 .Mult) rMulA:=qU6.or qU4
theorem qI9{x y d:D}(h:Hk x y=some d):(∃ i j,x=.int i/\y=.int j/\(A8 i||A8 j)=true/\d=.int (i * j))∨∃ z xs k,x=.l z xs/\y=.int k/\(D.imms xs=true/\xs.length * k.toNat<=big/\k < 1000000/\-1000000 < k)/\d=.l false (Kx k.toNat xs).flatten:=by
 unfold Hk at h;split at h
 . exact .inl ⟨_,_,rfl,rfl,(qf5 h).1,(qf5 h).2.symm⟩
 . exact .inr ⟨_,_,_,rfl,rfl,(qf5 h).1,(qf5 h).2.symm⟩
 cases h
theorem qs1:At true rMulA Hk:=by
 intro F H v w x y B d Q r h q;obtain⟨A,A2,c,e⟩:=r.both;rcases qI9 h with⟨i,j,rfl,rfl,hl,rfl⟩ | ⟨z,xs,k,rfl,rfl,hl,rfl⟩
 . exact .inl ⟨i,j,c.int_inv,e.int_inv,(Bool.or_eq_true_iff.mp hl).imp qp2 qp2,q _ H [] (.int _) (λ _ _ z=>z) New.nil⟩
 obtain⟨a,g,_,l,m,f,_⟩:=c.lst_inv;refine .inr ⟨a,k,g,l,e.int_inv,m,by lia,by lia,by rw[f.len];exact zAb hl.2.1 qd8,λ p b=>?_⟩;exact q _ _ [p] (qw5 b ((f.imms0 hl.1).rep _)) (Same.new b) (qf2 b)
def gI(p:Int->Int->Bool)(f:Int->Int->D):D->D->Option D
 | .int i,.int j=>gd (p i j=true) (f i j)
 | _,_=>none
theorem qW1{p:Int->Int->Bool}{f:Int->Int->D}{x y d:D}(h:gI p f x y=some d):∃ i j,x=.int i/\y=.int j/\p i j=true/\d=f i j:=by
 unfold gI at h;split at h
 . exact⟨_,_,rfl,rfl,(qf5 h).1,(qf5 h).2.symm⟩
 cases h
theorem os_I{C:Int->Int->Prop}{p:Int->Int->Bool}{f:Int->Int->D}{a:Int->Int->V}(b:∀ i j,p i j=true->C i j)(c:∀ F H i j,M0 F H (a i j) (f i j) []):At true (rI C a) (gI p f):=by
 intro F H v w x y B d Q r h q;obtain⟨A,A2,e,g⟩:=r.both;obtain⟨i,j,rfl,rfl,k,rfl⟩:=qW1 h;exact⟨i,j,e.int_inv,g.int_inv,b i j k,q _ H [] (c F H i j) (λ _ _ z=>z) New.nil⟩
theorem Ja{f:Int->Int->D}{a:Int->Int->V}(b:∀ F H i j,M0 F H (a i j) (f i j) []):At true (rI0 a) (gI (λ _ _=>true) f):=by
 intro F H v w x y B d Q r h q;obtain⟨i,j,c,e,_,g⟩:=os_I (λ _ _ _=>trivial) b F H v w x y B d Q r h q;exact⟨i,j,c,e,g⟩
def gDiv:=gI (λ _ j=>decide (0 < j)&&decide (j < 2 ^ 200)) λ i j=>.int (i / j)
def gMod:=gI (λ _ j=>decide (0 < j)) λ i j=>.int (i % j)
def gLt:=gI (λ _ _=>true) λ i j=>.bl (decide (i < j))
def gGt:=gI (λ _ _=>true) λ i j=>.bl (decide (j < i))
def gGe:=gI (λ _ _=>true) λ i j=>.bl (decide (j<=i))
theorem qO8:At true (rI CDivB λ i j=>.int (i / j)) gDiv:=os_I (λ i j h=>by
 have:=zAr.mp h
 exact⟨zAt this.1,zAt this.2⟩) λ _ _ _ _=>.int _
theorem qk6:At true (rI (λ _ j=>0 < j) λ i j=>.int (i % j)) gMod:=os_I (λ i j h=>zAt h) λ _ _ _ _=>.int _
theorem os_lt:At true (rI0 λ i j=>.bl (decide (i < j))) gLt:=Ja λ _ _ _ _=>.bl _
theorem os_gt:At true (rI0 λ i j=>.bl (decide (j < i))) gGt:=Ja λ _ _ _ _=>.bl _
theorem os_ge:At true (rI0 λ i j=>.bl (decide (j<=i))) gGe:=Ja λ _ _ _ _=>.bl _
noncomputable def Hl(f:D->D->Option Bool):List D->List D->Option Bool
 | [],[]=>some true
 | x::xs,y::ys=>(f x y).bind λ a=>(Hl f xs ys).bind λ b=>some (a&&b)
 | _,_=>some false
def eqF(x y:D):Option Bool:=match x.flat,y.flat with
 | some v,some w=>some (eqV v w)
 | _,_=>none
noncomputable def D.dk:D->Option (Option (Int×Int))
 | .dct _ []=>some none
 | .dct _ [(.inl k,.int j)]=>some (some (k,j))
 | _=>none
def eqZ(x y:D):Option Bool:=if (x.dk.isSome&&x.dk == y.dk)=true then some true else eqF x y
noncomputable def D.sameO:D->D->Bool
 | .obj a _,.obj b _=>a == b
 | _,_=>false
def eqY(x y:D):Option Bool:=if x.sameO y=true then some true else eqZ x y
def eqN:Nat->D->D->Option Bool
 | 0,x,y=>eqY x y
 | n+1,.l _ xs,.l _ ys=>Hl (eqN n) xs ys
 | n+1,.q xs,.q ys=>Hl (eqN n) xs ys
 | _,x,y=>eqY x y
theorem qh9{f:D->D->Option Bool}:∀{xs ys:List D}{b:Bool},Hl f xs ys=some b->∃ e:Nat->Bool,(∀ i x y,xs[i]? = some x->ys[i]? = some y->f x y=some (e i))/\b=((Lc (min xs.length ys.length)).all e&&xs.length == ys.length)
 | [],[],b,h=>by cases h;exact⟨λ _=>true,λ i x y h=>by simp at h,by simp⟩
 | [],y::ys,b,h=>by cases h;exact⟨λ _=>true,λ i x y h=>by simp at h,by simp⟩
 | x::xs,[],b,h=>by cases h;exact⟨λ _=>true,λ i x y _ h=>by simp at h,by simp⟩
 | x::xs,y::ys,b,h=>by
   obtain⟨a,k,h⟩:=zA3.mp h;obtain⟨p,l,h⟩:=zA3.mp h;cases h;obtain⟨e,m,q2⟩:=qh9 l;refine⟨λ i=>match i with | 0=>a | i+1=>e i,λ i c d g j=>?_,?_⟩
   . cases i with
     | zero =>
       have n:x=c:=by simpa using g
       have o:y=d:=by simpa using j
       subst n;subst o;exact k
     | succ i=>exact m i c d (by simpa using g) (by simpa using j)
   rw[q2,zAo,zAo,Nat.add_min_add_right,List.range_succ_eq_map,Li,List.all_map]
   have:(xs.length+1 == ys.length+1)=(xs.length == ys.length):=by
     by_cases h:xs.length=ys.length
     . simp[h]
     simp[h]
   rw[this,<- Bool.and_assoc];rfl
section
variable{F:γ->Prop}{H:Hp}
theorem M0.eqF{x y:D}{A B:List γ}{b:Bool}(r1:M0 F H v x A)(d:M0 F H w y B)(h:LV.eqF x y=some b):flatV v=true/\flatV w=true/\eqV v w=b:=by
 unfold LV.eqF at h;cases a:x.flat with
 | none=>rw[a] at h;cases h
 | some f =>
   cases c:y.flat with
   | none=>rw[a,c] at h;cases h
   | some g =>
     rw[a,c] at h;obtain⟨rfl,e⟩:=r1.flat a;obtain⟨rfl,f2⟩:=d.flat c;exact⟨e,f2,Mc h⟩
theorem M0.dk{x:D}{A:List γ}{o:Option (Int×Int)}(r:M0 F H v x A)(h:x.dk=some o):∃ a,v=.ref a/\H a=some (.dK (kvO o)):=by
 unfold D.dk at h;split at h
 . cases h
   obtain⟨a,b,_,rfl,e,q,_⟩:=r.dct_inv;exact⟨a,rfl,by rw[e,List.map_eq_nil_iff.mp q];rfl⟩
 . cases h
   obtain⟨a,b,_,rfl,e,q,t,_⟩:=r.dct_inv;refine⟨a,rfl,e.trans (congrArg _ ?_)⟩;obtain _ | ⟨⟨k,w⟩,_ | _⟩:=b
   . cases q
   . cases t with | cons p _=>cases p;cases q;rfl
   cases q
 cases h
theorem M0.eqZ{x y:D}{A B:List γ}{b:Bool}(r1:M0 F H v x A)(e:M0 F H w y B)(h:LV.eqZ x y=some b):(flatV v=true/\flatV w=true/\eqV v w=b)∨(b=true/\∃ a c o,v=.ref a/\w=.ref c/\H a=some (.dK (kvO o))/\H c=some (.dK (kvO o))):=by
 unfold LV.eqZ at h;split at h
 . rename_i hd
   obtain⟨d,f⟩:=zAr.mp hd;obtain⟨o,d⟩:=zAy.mp d;obtain⟨a,g,i⟩:=r1.dk d;obtain⟨c,j,q2⟩:=e.dk ((eq_of_beq f).symm.trans d);cases h;exact .inr ⟨rfl,a,c,o,g,j,i,q2⟩
 exact .inl (r1.eqF e h)
theorem qq6(n:Nat)(x y:D):(eqN (n+1) x y=LV.eqY x y)∨(∃ z xs a ys,x=.l z xs/\y=.l a ys)∨∃ xs ys,x=.q xs/\y=.q ys:=by
 cases x with
 | l z xs=>cases y with
   | l a ys=>exact .inr (.inl ⟨_,_,_,_,rfl,rfl⟩)
   | _=>exact .inl rfl
 | q xs=>cases y with
   | q ys=>exact .inr (.inr ⟨_,_,rfl,rfl⟩)
   | _=>exact .inl rfl
 | _=>exact .inl rfl
theorem qy4(x y:D):eqN 0 x y=LV.eqY x y:=rfl
theorem M0.sameO{x y:D}{A B:List γ}(r1:M0 F H v x A)(b:M0 F H w y B)(h:x.sameO y=true):∃ a,v=.ref a/\w=.ref a:=by
 cases r1 with
 | obj =>
   cases b with
   | obj=>exact⟨_,rfl,congrArg V.ref (eq_of_beq h).symm⟩
   | _=>cases h
 | _=>cases h
theorem M0.eqY{x y:D}{A B:List γ}{b:Bool}(r1:M0 F H v x A)(c:M0 F H w y B)(h:LV.eqY x y=some b):LV.eqZ x y=some b∨(b=true/\∃ a,v=.ref a/\w=.ref a):=by
 unfold LV.eqY at h;split at h
 . exact .inr ⟨(Mc h).symm,r1.sameO c ‹_›⟩
 exact .inl h
theorem qq7(f:∀{v:V}{x y:D}{A B:List γ}{b:Bool},M0 F H v x A->M0 F H v y B->eqN n x y=some b->b=true):∀{vs:List V}{xs ys:List D}{A B:List γ}{b:Bool},Mw F H vs xs A->Mw F H vs ys B->Hl (eqN n) xs ys=some b->b=true:=by
 intro vs
 induction vs with
 | nil=>intro xs ys A B b c d h;cases c;cases d;cases h;rfl
 | cons v vs e =>
   intro xs ys A B b c d h;cases c with | cons p1 t1=>cases d with | cons g t2 =>
   obtain⟨a,i,h⟩:=zA3.mp h;obtain⟨k,j,h⟩:=zA3.mp h;cases h;rw[f p1 g i,e t1 t2 j];rfl
theorem qy5:∀{n:Nat}{v:V}{x y:D}{A B:List γ}{b:Bool},M0 F H v x A->M0 F H v y B->eqN n x y=some b->b=true:=by
 intro n
 induction n with
 | zero =>
   intro v x y A B b c d h;rw[qy4] at h;rcases c.eqY d h with h | ⟨rfl,_⟩
   . rcases c.eqZ d h with⟨f1,f2,rfl⟩ | ⟨rfl,_⟩
     . exact qy3 f1
     rfl
   rfl
 | succ n k =>
   intro v x y A B b c d h;rcases qq6 n x y with e | ⟨z,l,q,m,rfl,rfl⟩ | ⟨l,m,rfl,rfl⟩
   . rw[e] at h
     rcases c.eqY d h with h | ⟨rfl,_⟩
     . rcases c.eqZ d h with⟨f1,f2,rfl⟩ | ⟨rfl,_⟩
       . exact qy3 f1
       rfl
     rfl
   . obtain⟨a,o,_,rfl,g,i,_⟩:=c.lst_inv
     obtain⟨p,j,_,e,f,q2,_⟩:=d.lst_inv;cases e;rw[g] at f;cases f;exact qq7 k i q2 h
   obtain⟨a,o,rfl,g,i⟩:=c.tup_inv;obtain⟨p,j,e,f,q2⟩:=d.tup_inv;cases e;rw[g] at f;cases f;exact qq7 k i q2 h
theorem Mw.getV{ds:List D}{A:List γ}(r:Mw F H vs ds A)(h:vs[n]? = some w):∃ d B,ds[n]? = some d/\M0 F H w d B:=by
 have c:=r.len;have e:=(zAd.mp h).1;obtain⟨f,B,a,b,_⟩:=r.get (n:=n) (d:=ds[n]'(by lia)) (by simp);rw[h] at a;cases a;exact⟨_,B,by simp,b⟩
theorem qC7{x y:D}{A B:List γ}{b:Bool}(r1:M0 F H v x A)(d:M0 F H w y B)(h:LV.eqZ x y=some b):EqD H n v w b:=by
 rcases r1.eqZ d h with⟨f1,f2,rfl⟩ | ⟨rfl,a,a',_,rfl,rfl,q1,q2⟩
 . exact .flat f1 f2
 by_cases c:a=a'
 . subst c;exact .same a
 exact .dcts c q1 q2
theorem qq4{x y:D}{A B:List γ}{b:Bool}(r1:M0 F H v x A)(c:M0 F H w y B)(h:LV.eqY x y=some b):EqD H n v w b:=by
 rcases r1.eqY c h with h | ⟨rfl,a,rfl,rfl⟩
 . exact qC7 r1 c h
 exact .same a
theorem qq5:∀{n:Nat}{v w:V}{x y:D}{A B:List γ}{b:Bool},M0 F H v x A->M0 F H w y B->eqN n x y=some b->EqD H n v w b:=by
 intro n
 induction n with
 | zero =>
   intro v w x y A B b c d h;rw[qy4] at h;exact qq4 c d h
 | succ n J =>
   intro v w x y A B b c d h;rcases qq6 n x y with e | ⟨z,K,M,L,rfl,rfl⟩ | ⟨K,L,rfl,rfl⟩
   . rw[e] at h
     exact qq4 c d h
   . obtain⟨a,m,_,rfl,k,g,_⟩:=c.lst_inv
     obtain⟨o,r,_,rfl,l,q2,_⟩:=d.lst_inv;by_cases f:a=o
     . subst f
       cases qy5 (n:=n+1) c d h;exact .same a
     obtain⟨e,s,rfl⟩:=qh9 h;rw[<- g.len,<- q2.len];by_cases j:m.length=r.length
     . rw[j,Nat.min_self,zAs,Bool.and_true,<- j]
       refine .lsts f k l j λ i p q t u=>?_
       obtain⟨x,_,C,E⟩:=g.getV t;obtain⟨y,_,G,I⟩:=q2.getV u;exact J E I (s i x y C G)
     have:(m.length == r.length)=false:=by simpa using j
     rw[this,Bool.and_false];exact .lens f k l j
   obtain⟨a,m,rfl,k,g⟩:=c.tup_inv;obtain⟨o,r,rfl,l,q2⟩:=d.tup_inv;by_cases f:a=o
   . subst f
     cases qy5 (n:=n+1) c d h;exact .same a
   obtain⟨e,s,rfl⟩:=qh9 h;rw[<- g.len,<- q2.len];refine .tups f k l λ i p q t u=>?_
   obtain⟨x,_,C,E⟩:=g.getV t;obtain⟨y,_,G,I⟩:=q2.getV u;exact J E I (s i x y C G)
end
noncomputable def D.sq:D->Option (Bool×Ds)
 | .l _ xs=>some (false,xs)
 | .q xs=>some (true,xs)
 | _=>none
theorem Jb{d:D}{xs:Ds}(h:d.sq=some (false,xs)):∃ z,d=.l z xs:=by
 cases d with
 | l z a=>cases h;grind
 | _=>cases h
theorem Jc{d:D}{xs:Ds}(h:d.sq=some (true,xs)):d=.q xs:=by
 cases d with
 | q a=>cases h;rfl
 | _=>cases h
noncomputable def D.isD:D->Bool
 | .dct _ _=>true
 | _=>false
def eqT(x y:D):Option Bool:=match x.sq,y.sq with
 | some (false,xs),some (false,ys)=>Hl (eqN 20) xs ys
 | some (true,xs),some (true,ys)=>Hl (eqN 20) xs ys
 | some _,some _=>some false
 | some _,none=>y.flat.map λ _=>false
 | none,some (k,_)=>if (k&&x.isD)=true then some false else x.flat.map λ _=>false
 | none,none=>eqZ x y
theorem M0.flatV{F:γ->Prop}{H:Hp}{d:D}{B:List γ}{b:Bool}(r:M0 F H v d B)(h:(d.flat.map λ _=>false)=some b):L2.flatV v=true/\b=false:=by
 cases e:d.flat with
 | none=>rw[e] at h;cases h
 | some w=>rw[e] at h;cases h;exact⟨(r.flat e).2,rfl⟩
theorem M0.rc{F:γ->Prop}{H:Hp}{x y:D}{A B:List γ}{b:Bool}(r1:M0 F H v x A)(m:M0 F H w y B)(h:eqT x y=some b):RcD H v w b:=by
 unfold eqT at h;cases g:x.sq with
 | none =>
   cases c:y.sq with
   | none =>
     rw[g,c] at h;rcases r1.eqZ m h with⟨f1,f2,rfl⟩ | ⟨rfl,a,o,_,rfl,rfl,l,q2⟩
     . exact .flat f1 f2
     exact .dcts l q2
   | some p =>
     obtain⟨k,K⟩:=p;rw[g,c] at h;cases k with
     | false =>
       obtain⟨z,rfl⟩:=Jb c;obtain⟨f,rfl⟩:=r1.flatV h;obtain⟨o,n,_,rfl,d,q2,_⟩:=m.lst_inv;exact .fl d f
     | true =>
       obtain rfl:=Jc c;obtain⟨o,n,rfl,d,q2⟩:=m.tup_inv;cases t:x.isD with
       | false=>rw[t] at h;obtain⟨f,rfl⟩:=r1.flatV h;exact .ft d f
       | true =>
         rw[t] at h;cases h;cases x with
         | dct z M=>obtain⟨a,L,_,rfl,e,_⟩:=r1.dct_inv;exact .dt e d
         | _=>cases t
 | some p =>
   obtain⟨k,N⟩:=p;cases c:y.sq with
   | none =>
     rw[g,c] at h;have h:(y.flat.map λ _=>false)=some b:=by cases k<;>exact h
     obtain⟨f,rfl⟩:=m.flatV h;cases k with
     | false=>obtain⟨z,rfl⟩:=Jb g;obtain⟨a,r,_,rfl,j,l,_⟩:=r1.lst_inv;exact .lf j f
     | true=>obtain rfl:=Jc g;obtain⟨a,r,rfl,j,l⟩:=r1.tup_inv;exact .tf j f
   | some p =>
     obtain⟨J,K⟩:=p;rw[g,c] at h;cases k with
     | false =>
       obtain⟨z,rfl⟩:=Jb g;obtain⟨a,r,_,rfl,j,l,_⟩:=r1.lst_inv;cases J with
       | false =>
         obtain⟨z,rfl⟩:=Jb c;obtain⟨o,n,_,rfl,d,q2,_⟩:=m.lst_inv;obtain⟨e,u,rfl⟩:=qh9 h;rw[<- l.len,<- q2.len];by_cases s:r.length=n.length
         . rw[s,Nat.min_self,zAs,Bool.and_true,<- s]
           refine .lsts j d s λ i p q g c=>?_
           obtain⟨x,_,C,E⟩:=l.getV g;obtain⟨y,_,G,I⟩:=q2.getV c;exact qq5 E I (u i x y C G)
         have:(r.length == n.length)=false:=by simpa using s
         rw[this,Bool.and_false];exact .lens j d s
       | true=>obtain rfl:=Jc c;obtain⟨o,n,rfl,d,q2⟩:=m.tup_inv;cases h;exact .lt j d
     | true =>
       obtain rfl:=Jc g;obtain⟨a,r,rfl,j,l⟩:=r1.tup_inv;cases J with
       | true =>
         obtain rfl:=Jc c;obtain⟨o,n,rfl,d,q2⟩:=m.tup_inv;obtain⟨e,u,rfl⟩:=qh9 h;rw[<- l.len,<- q2.len];refine .tups j d λ i p q g c=>?_
         obtain⟨x,_,C,E⟩:=l.getV g;obtain⟨y,_,G,I⟩:=q2.getV c;exact qq5 E I (u i x y C G)
       | false=>obtain⟨z,rfl⟩:=Jb c;obtain⟨o,n,_,rfl,d,q2,_⟩:=m.lst_inv;cases h;exact .tl j d
def gEq(x y:D):Option D:=(eqT x y).map .bl
def gNe(x y:D):Option D:=(eqT x y).map λ b=>.bl (!b)
theorem Aj:At true rEqD gEq:=by
 intro F H v w x y B d Q r h q;obtain⟨A,A2,a,c⟩:=r.both;obtain⟨b,e,rfl⟩:=Option.map_eq_some_iff.mp h;exact⟨b,a.rc c e,q _ H [] (.bl _) (λ _ _ z=>z) New.nil⟩
theorem Hu:At true rNeD gNe:=by
 intro F H v w x y B d Q r h q;obtain⟨A,A2,a,c⟩:=r.both;obtain⟨b,e,rfl⟩:=Option.map_eq_some_iff.mp h;exact⟨b,a.rc c e,q _ H [] (.bl _) (λ _ _ z=>z) New.nil⟩
def flats:List D->Option (List V)
 | []=>some []
 | d::r=>d.flat.bind λ v=>(flats r).bind λ vs=>some (v::vs)
theorem Mw.flats{F:γ->Prop}{H:Hp}:∀{vs a:List V}{ds:List D}{A:List γ},Mw F H vs ds A->LV.flats ds=some a->vs=a/\vs.all L2.flatV=true
 | _,_,_,_,.nil,h=>by cases h;exact⟨rfl,rfl⟩
 | _,_,_,_,.cons r t,h=>by
   obtain⟨v,b,h⟩:=zA3.mp h;obtain⟨vs,c,h⟩:=zA3.mp h;cases h;obtain⟨rfl,f⟩:=r.flat b;obtain⟨rfl,g⟩:=t.flats c;exact⟨rfl,by rw[Li,f,g];rfl⟩
def gInB(neg:Bool)(x y:D):Option D:=x.flat.bind λ v=>y.elems.bind λ ys=>(flats ys).bind λ a=>some (.bl (if neg then !inV v a else inV v a))
theorem os_in{K:Mf}{neg:Bool}:At true (rIn K neg) (gInB neg):=by
 intro F H v w x y B d Q r h q;obtain⟨A,A2,b,c⟩:=r.both;obtain⟨n,e,h⟩:=zA3.mp h;obtain⟨o,i,h⟩:=zA3.mp h;obtain⟨p,j,h⟩:=zA3.mp h;cases h;obtain⟨rfl,f⟩:=b.flat e;obtain⟨a,k,A3,rfl,l,m,_⟩:=c.elems (K:=K) i;obtain⟨rfl,g⟩:=m.flats j;exact⟨a,k,rfl,l,f,g,q _ H [] (.bl _) (λ _ _ z=>z) New.nil⟩
def gIx(x y:D):Option D:=match y with
 | .int i=>x.elems.bind λ ys=>atI ys i
 | _=>none
theorem qQ4{x y d:D}(h:gIx x y=some d):∃ i ys,y=.int i/\x.elems=some ys/\atI ys i=some d:=by
 cases y with
 | int i =>
   obtain⟨ys,a,h⟩:=zA3.mp h;exact⟨i,ys,rfl,a,h⟩
 | _=>cases h
theorem Am{K:Mf}:At false (rIx K) gIx:=by
 intro F H v w x y B d Q r h q;cases r with | @cons _ _ A _ _ _ l t=>cases t with | @cons _ _ A2 _ _ _ m _ =>
 obtain⟨i,p,rfl,n,h⟩:=qQ4 h;obtain rfl:=m.int_inv;obtain⟨a,j,A3,rfl,c,o,s⟩:=l.elems n;obtain⟨f,B',k,g,u⟩:=o.atI h;have e:=q f H B' g (λ _ _ z=>z) (by
   rw[if_neg (by decide)];exact λ b=>.inl (by grind))
 rcases c with c | c
 . exact .inl ⟨a,j,i,f,rfl,rfl,c,k,e⟩
 exact .inr (.inl ⟨a,j,i,f,rfl,rfl,c,k,e⟩)
section
variable{F:γ->Prop}{H:Hp}
theorem Mw.one_inv{x:D}{B:List γ}(r:Mw F H vs [x] B):∃ v,vs=[v]/\M0 F H v x B:=by
 cases r with | cons h t=>cases t;exact⟨_,rfl,by rw[zAh];exact h⟩
theorem Mw.two_inv{x y:D}{B:List γ}(r:Mw F H vs [x,y] B):∃ v w A C,vs=[v,w]/\M0 F H v x A/\M0 F H w y C/\∀ b,B.count b=A.count b+C.count b:=by
 cases r with | cons h t=>cases t with | cons a t=>cases t;exact⟨_,_,_,_,rfl,h,a,λ b=>by simp[zA0]⟩
end
noncomputable def fx1(g:D->Option D):Ds->Option D
 | [x]=>g x
 | _=>none
noncomputable def fx2(g:D->D->Option D):Ds->Option D
 | [x,y]=>g x y
 | _=>none
def CS1(nw:Bool)(r:List V->Hp->VK->Prop)(g:D->Option D):Prop:=∀ F H v x B d (Q:VK),M0 F H v x B->g x=some d ->
 (∀ v H' B',M0 F H' v d B'->Same H H'->(if nw=true then New H B' else Sub H B B')->Q v H')->r [v] H Q
theorem CS1.ops{nw:Bool}{r:List V->Hp->VK->Prop}{g:D->Option D}(h:CS1 nw r g):OpS nw r (fx1 g):=by
 intro F H c a B d Q r e q
 match a,e with
 | [x],e =>
   obtain⟨v,rfl,b⟩:=r.one_inv;exact h F H v x B d Q b e q
def gLen(x:D):Option D:=match x with
 | .str z=>gd (z.length<=big) (.int z.length)
 | .dct _ kvs=>some (.int kvs.length)
 | x=>x.elems.map λ ys=>.int ys.length
def rLenA(K:Mf):List V->Hp->VK->Prop:=λ xs H Q=>(∃ p ys,xs=[.ref p]/\(SqL K H p ys∨SqT K H p ys)/\Q (.int ys.length) H)∨(∃ z,xs=[.str z]/\z.length<=Jk/\Q (.int z.length) H)∨(∃ a kvs,xs=[V.ref a]/\H a=some (.dK kvs)/\Q (.int kvs.length) H)
theorem qW9{X:Cx}:CallR X (.builtin "len") (rLenA X.K):=qo7.or (qo6.or qD0)
theorem qP6{x d:D}(h:gLen x=some d):(∃ z,x=.str z/\z.length<=big/\d=.int z.length)∨(∃ z kvs,x=.dct z kvs/\d=.int kvs.length)∨∃ ys,x.elems=some ys/\d=.int ys.length:=by
 unfold gLen at h;split at h
 . exact .inl ⟨_,rfl,(qf5 h).1,(qf5 h).2.symm⟩
 . exact .inr (.inl ⟨_,_,rfl,(Mc h).symm⟩)
 obtain⟨ys,e,h⟩:=Option.map_eq_some_iff.mp h;exact .inr (.inr ⟨ys,e,h.symm⟩)
theorem qW8{K:Mf}:CS1 true (rLenA K) gLen:=by
 intro F H v x B d Q r h q;rcases qP6 h with⟨z,rfl,hl,rfl⟩ | ⟨z,kds,rfl,rfl⟩ | ⟨ys,e,rfl⟩
 . exact .inr (.inl ⟨z,by rw[r.str_inv],zAb hl qd8,q _ H [] (.int _) (λ _ _ z=>z) New.nil⟩)
 . obtain⟨a,b,A,rfl,c,e,f,_⟩:=r.dct_inv
   refine .inr (.inr ⟨a,b,rfl,c,?_⟩)
   have:b.length=kds.length:=by have:=congrArg Lm e;simpa using this
   rw[this];exact q _ H [] (.int _) (λ _ _ z=>z) New.nil
 obtain⟨a,g,A,rfl,c,f,_⟩:=r.elems e;refine .inl ⟨a,g,rfl,c,?_⟩;rw[f.len];exact q _ H [] (.int _) (λ _ _ z=>z) New.nil
noncomputable def D.kind:D->Option String
 | .non=>some "NoneType" | .bl _=>some "bool" | .int _=>some "int" | .str _=>some "str" | .l _ _=>some "list" | .q _=>some "tuple" | .dct _ _=>some "dict"
 | _=>none
theorem M0.kind{F:γ->Prop}{H:Hp}{d:D}{B:List γ}{t:String}(r:M0 F H v d B)(h:d.kind=some t):A4 H v=some t:=by
 cases r with
 | q e _=>cases h;exact qI0 e
 | l e _=>cases h;exact qx5 e
 | lstZ e _ _=>cases h;exact qx5 e
 | dct e _ _=>cases h;exact qE6 e
 | dctZ e _ _ _=>cases h;exact qE6 e
 | _=>cases h<;>rfl
noncomputable def isTy(n:String):Bool:=n == "bool" || n == "int" || n == "str" || n == "list" || n == "tuple" || n == "dict"
def gIsi(x y:D):Option D:=match y with
 | .ty n=>if isTy n=true then x.kind.map λ t=>.bl (subT t n) else none
 | _=>none
def CS2(nw:Bool)(r:List V->Hp->VK->Prop)(g:D->D->Option D):Prop:=∀ F H v w x y A B d (Q:VK),M0 F H v x A->M0 F H w y B->g x y=some d ->
 (∀ v H' B',M0 F H' v d B'->Same H H'->(if nw=true then New H B' else Sub H (A++B) B')->Q v H')->r [v,w] H Q
theorem CS2.ops{nw:Bool}{r:List V->Hp->VK->Prop}{g:D->D->Option D}(h:CS2 nw r g):OpS nw r (fx2 g):=by
 intro F H l c B d Q r e q
 match c,e with
 | [x,y],e =>
   obtain⟨v,w,A,C,rfl,f,i,j⟩:=r.two_inv;refine h F H v w x y A C d Q f i e λ u H' B' k s a=>q u H' B' k s ?_
   cases nw with
   | true=>exact a
   | false =>
     rw[if_neg (by decide)] at a ⊢;exact λ b=>(a b).imp (λ z=>by rw[zA0] at z;have:=j b;lia) id
theorem qR3:CS2 true rIsi gIsi:=by
 intro F H v w x y A B d Q b c e q;cases y with
 | ty n =>
   cases c.ty_inv;have e:(if isTy n=true then x.kind.map λ t=>D.bl (subT t n) else none)=some d:=e;by_cases a:isTy n=true
   . rw[if_pos a] at e
     obtain⟨t,f,rfl⟩:=Option.map_eq_some_iff.mp e;refine⟨v,n,t,rfl,b.kind f,?_,q _ H [] (.bl _) (λ _ _ z=>z) New.nil⟩;simp only[isTy,Bool.or_eq_true,zB4] at a;simp only[zAm,zB9,or_false];rcases a with ((((h | h) | h) | h) | h) | h
     . exact .inl h
     . exact .inr (.inl h)
     . exact .inr (.inr (.inl h))
     . exact .inr (.inr (.inr (.inl h)))
     . exact .inr (.inr (.inr (.inr (.inl h))))
     exact .inr (.inr (.inr (.inr (.inr h))))
   rw[if_neg a] at e;cases e
 | _=>cases e
theorem qp3{F:γ->Prop}{H:Hp}:∀ ns:List Int,Mw F H (ns.map V.int) (ns.map D.int) []
 | []=>.nil
 | n::r=>.cons (A:=[]) (B:=[]) (.int n) (qp3 r)
section
variable{c:Vc}{X:Cx}{a b e:Kt}{M O own L:Bool}{J E f:FV}{r:R2}{g:D->D->Option D}{C y t:VT}{pos:Pos}
theorem vnm(i:Nat){x:Str}(b:X.N[i]? = some x:=by rfl)(hv:Vis X.env.scope x:=by first | exact Mv rfl | exact Mu (Mv rfl) | exact Mu (Mu rfl))(d:N' x:=by decide)(a:(x == ("__classdict__" : Str))=false:=by decide) :
   VV c X (.Name x pos) false (rdN i):=qK9 (qn7 b hv d a) (qk9 b)
noncomputable def kC(d:D):FV:=λ _=>some d
theorem Ab{i:Int}:VV c X (.Constant (.int i) j pos) true (kC (.int i)):=Ij qn8 λ _ _=>.int _
theorem vbl{i:Bool}:VV c X (.Constant (.bool i) j pos) true (kC (.bl i)):=Ij pe_bl λ _ _=>.bl _
theorem vnon:VV c X (.Constant .none j pos) true (kC .non):=Ij qU0 λ _ _=>.non
theorem vstr{i:Str}:VV c X (.Constant (.str i) j pos) true (kC (.str i)):=Ij qT9 λ _ _=>.str _
theorem vty{x:Str}(n:String)(a:X.mg x=none)(b:Gl X x:=by rfl)(hv:Jo x=some (.type n):=by rfl)(d:x ≠ "__name__" := by decide)(e:N' x:=by decide):VV c X (.Name x pos) true (kC (.ty n)):=Ij (qO5 n a b hv d e) λ _ _=>.ty _
theorem vpow{i j:Int}(k:Int){m:Nat}{p q:Pos}(a:i ^ j.toNat=k:=by decide)(h0:0<=j:=by decide)(h1:j<=1000000:=by decide)(h2:i.natAbs < 2 ^ 64:=by decide):VV c X (.BinOp (.Constant (.int i) m p) .Pow (.Constant (.int j) n q) pos) true (kC (.int k)):=Ij (qN9 k a h0 h1 h2) λ _ _=>.int _
def P2(X:Cx)(e a b:Kt)(r:R2):Prop:=∀ C y,PE X a C->PE X b y->PE X e (tOp r C y)
def T2(X:Cx)(e a b:Kt)(r:R2):Prop:=∀ C y,PE X a C->PE X b y->PT X e (tTest (tOp r C y))
theorem Ag{op:Operator}(c:OpR X (J0 op) r):P2 X (.BinOp a op b pos) a b r:=λ _ _ d e=>pe_op c d e
theorem Hv{op:CmpOp}(c:OpR X (Jl op) r)(d:behindInMarks op b=false):P2 X (.Compare a [op] [b] pos) a b r:=λ _ _ e f=>qO4 c e f d
theorem Ae{op:CmpOp}(c:OpR X (Jl op) r)(d:behindInMarks op b=false):T2 X (.Compare a [op] [b] pos) a b r:=λ _ _ e f=>qM7 c e f d
theorem Aw(c:IxR X r)(d:qA0 b:=by exact λ _ _=>rfl):P2 X (.Subscript a b pos) a b r:=λ _ _ e f=>pe_ix c e f d
theorem v2(p:P2 X e a b r)(h:At L r g)(d:VV c X a M J)(f:VV c X b O E):VV c X e (L||(M&&O)) (f2 g J E):=⟨PE.mono (p _ _ d.h f.h) (op_vv h)⟩
theorem e2n(i:Nat){x:Str}{j:Pos}(p:P2 X e (.Name x j) b r)(h:At true r g)(a:VE c X b y)(f:X.N[i]? = some x:=by rfl)(hv:Vis X.env.scope x:=by first | exact Mv rfl | exact Mu (Mv rfl) | exact Mu (Mu rfl))(k:N' x:=by decide)(d:(x == ("__classdict__" : Str))=false:=by decide) :
   VE c X e (t2n g i y):=⟨λ Ko s o H Q I q=>p _ _ (qn7 f hv k d) a.h Ko s o H Q I (op_ne a h (qk9 f Ko o H s I) q),qF4 a⟩
noncomputable def D.asB:D->Option Bool
 | .bl b=>some b
 | _=>none
theorem M0.asB{F:γ->Prop}{H:Hp}{d:D}{B:List γ}{k:Bool}(r:M0 F H v d B)(h:d.asB=some k):v=.bl k:=by
 cases r<;>cases h<;>rfl
def ttV(f:FV):VTT:=λ ds Q _=>orF ((f ds).bind D.asB) λ b=>Q b ds
def ttE(t:VT):VTT:=λ ds Q xe=>t ds (λ d a=>orF d.asB λ b=>Q b a) xe
theorem qL0:∀ o H Q,Bi c (ttV f) o H Q->Bz c own f o H (λ x H'=>∃ k,x=.bl k/\Q k H'):=by
 rintro o H Q ⟨F,a,A,i,S,x,q⟩;obtain⟨b,e,q⟩:=qa8.mp q;obtain⟨d,g,h⟩:=zA3.mp e;exact⟨F,a,A,d,S,g,λ v H' B r s _=>⟨b,r.asB h,q H' F A (S.same s) (.same s)⟩⟩
theorem qL1(h:VE c X e t):∀ o H Q,Bi c (ttE t) o H Q->Be c t o H (λ x H'=>∃ k,x=.bl k/\Q k H'):=by
 rintro o H Q ⟨F,a,A,f,S,x,q⟩;refine⟨F,a,A,f,S,x,h.m _ _ _ _ _ (λ d g q v H1 F1 T A1 i S1 l j=>?_) (λ _ _ z=>z) q⟩;obtain⟨b,e,q⟩:=qa8.mp q;exact⟨b,i.asB e,q H1 F1 A1 S1 (j.count λ b=>by rw[zA0];lia)⟩
theorem qt8:∀ ds (Q Q':Bool->Ds->Prop) (xe b:XKd),(∀ d a,Q d a->Q' d a)->(∀ x a,xe x a->b x a)->ttV f ds Q xe->ttV f ds Q' b:=λ ds Q Q' xe b c _=>qa6 λ d=>c d ds
theorem qu0(h:VE c X e t):∀ ds (Q Q':Bool->Ds->Prop) (xe b:XKd),(∀ d a,Q d a->Q' d a)->(∀ x a,xe x a->b x a)->ttE t ds Q xe->ttE t ds Q' b:=λ ds Q Q' xe b f g=>h.m _ _ _ _ _ (λ d a=>qa6 λ z=>f z a) g
theorem tv(h:VV c X e own f)(a:∀ whole,isTrue e X.env whole=(do let v <- whole;standAt e.pos;holding [v] (truthy v)):=by intro _;rfl):VTe c X e (ttV f):=⟨PT.mono (qM6 h.h a) qL0,qt8⟩
theorem te(h:VE c X e t)(a:∀ whole,isTrue e X.env whole=(do let v <- whole;standAt e.pos;holding [v] (truthy v)):=by intro _;rfl):VTe c X e (ttE t):=⟨PT.mono (qM6 h.h a) (qL1 h),qu0 h⟩
theorem q2(p:T2 X e a b r)(h:At L r g)(d:VV c X a M J)(f:VV c X b O E):VTe c X e (ttV (f2 g J E)):=⟨PT.mono (p _ _ d.h f.h) λ o H Q q=>op_vv h o H _ (qL0 o H Q q),qt8⟩
theorem q2n(i:Nat){x:Str}{k:Pos}(p:P2 X e (.Name x k) b r)(l:T2 X e (.Name x k) b r)(h:At true r g)(d:VE c X b y)(f:X.N[i]? = some x:=by rfl)(hv:Vis X.env.scope x:=by first | exact Mv rfl | exact Mu (Mv rfl) | exact Mu (Mu rfl))(j:N' x:=by decide)(a:(x == ("__classdict__" : Str))=false:=by decide) :
   VTe c X e (ttE (t2n g i y)):=⟨λ Ko s o H Q I q=>l _ _ (qn7 f hv j a) d.h Ko s o H Q I (op_ne d h (qk9 f Ko o H s I) (qL1 (e2n i p h d f hv j a) o H Q q)),qu0 (e2n i p h d f hv j a)⟩
variable{w G:VTT}{rest:List Kt}
def Hw(t:VTT):VTT:=λ ds Q xe=>t ds (λ b a=>Q (!b) a) xe
theorem Hm(h:VTe c X a w):VTe c X (.UnaryOp .Not a pos) (Hw w):=by
 refine⟨PT.mono (qT1 h.h) λ o H Q ⟨F,e,A,f,S,x,q⟩=>⟨F,e,A,f,S,x,q⟩,λ e Q Q' f g i j=>h.m _ _ _ _ _ (λ b d=>i _ d) j⟩
structure VTw(c:Vc)(X:Cx)(e:Kt)(t:VTT):Prop where
 h:PW X e (Bi c t)
 m:∀ ds (Q Q':Bool->Ds->Prop) (xe xe':XKd),(∀ d ds',Q d ds'->Q' d ds')->(∀ x ds',xe x ds'->xe' x ds')->t ds Q xe->t ds Q' xe'
theorem VTw.te(h:VTw c X e w):VTe c X e w:=⟨h.h.pt,h.m⟩
theorem tand1(h:VTe c X a w):VTw c X (.BoolOp .And [a] pos) w:=⟨qM5 h.h,h.m⟩
theorem tor1(h:VTe c X a w):VTw c X (.BoolOp .Or [a] pos) w:=⟨qS9 h.h,h.m⟩
def ttAnd(t u:VTT):VTT:=λ ds Q xe=>t ds (λ k ds1=>if k=true then u ds1 Q xe else Q false ds1) xe
def ttOr(t u:VTT):VTT:=λ ds Q xe=>t ds (λ k ds1=>if k=true then Q true ds1 else u ds1 Q xe) xe
theorem qp8{k:Bool->St->Hp->(Bool->Hp->Prop)->Prop}{K:Bool->Ds->(Bool->Ds->Prop)->XKd->Prop}(h:VTe c X a w)(i:∀(b:Bool) F ds A xe o H (Q:Bool->Hp->Prop),M3 c F H o ds A->Xc c xe F H A->K b ds (λ f e=>∀ H' F' A',M3 c F' H' o e A'->M2 F H A F' H' A'->Q f H') xe->k b o H Q)(j:∀(b:Bool) ds (Q Q':Bool->Ds->Prop) (xe:XKd),(∀ d e,Q d e->Q' d e)->K b ds Q xe->K b ds Q' xe):∀ o H Q,Bi c (λ ds Q xe=>w ds (λ b ds1=>K b ds1 Q xe) xe) o H Q->Bi c w o H (λ b H1=>k b o H1 Q):=by
 rintro o H Q ⟨F,ds,A,xe,S,x,q⟩;exact⟨F,ds,A,xe,S,x,h.m _ _ _ _ _ (λ b ds1 q H1 F1 A1 S1 g=>(i b F1 ds1 A1 xe o H1 Q S1 (x.step g) (j b ds1 _ _ xe (λ f e q H' F' A' S' l=>q H' F' A' S' (g.trans l)) q))) (λ _ _ z=>z) q⟩
theorem tand(e:VTe c X a w)(f:VTw c X (.BoolOp .And (b::rest) pos) G):VTw c X (.BoolOp .And (a::b::rest) pos) (ttAnd w G):=by
 refine⟨PW.mono (qT0 e.h f.h) ?_,λ g Q Q' i l d j=>e.m _ _ _ _ _ (λ k n q=>?_) j⟩
 . refine qp8 e ?_ ?_
   . intro b F g A i o H Q S x q
     cases b with
     | true=>rw[if_pos rfl] at q ⊢;exact⟨F,g,A,i,S,x,q⟩
     | false=>rw[if_neg (by decide)] at q ⊢;exact q H F A S M2.refl
   intro b g Q Q' i d;cases b with
   | true=>rw[if_pos rfl,if_pos rfl];exact f.m _ _ _ _ _ d λ _ _ z=>z
   | false=>rw[if_neg (by decide),if_neg (by decide)];exact d _ _
 cases k with
 | true=>rw[if_pos rfl] at q ⊢;exact f.m _ _ _ _ _ d j q
 | false=>rw[if_neg (by decide)] at q ⊢;exact d _ _ q
theorem tor(e:VTe c X a w)(f:VTw c X (.BoolOp .Or (b::rest) pos) G):VTw c X (.BoolOp .Or (a::b::rest) pos) (ttOr w G):=by
 refine⟨PW.mono (pw_or e.h f.h) ?_,λ g Q Q' i l d j=>e.m _ _ _ _ _ (λ k n q=>?_) j⟩
 . refine qp8 e ?_ ?_
   . intro b F g A i o H Q S x q
     cases b with
     | false=>rw[if_neg (by decide)] at q ⊢;exact⟨F,g,A,i,S,x,q⟩
     | true=>rw[if_pos rfl] at q ⊢;exact q H F A S M2.refl
   intro b g Q Q' i d;cases b with
   | false=>rw[if_neg (by decide),if_neg (by decide)];exact f.m _ _ _ _ _ d λ _ _ z=>z
   | true=>rw[if_pos rfl,if_pos rfl];exact d _ _
 cases k with
 | false=>rw[if_neg (by decide)] at q ⊢;exact f.m _ _ _ _ _ d j q
 | true=>rw[if_pos rfl] at q ⊢;exact d _ _ q
end
section
variable{c:Vc}{X:Cx}{b e:Kt}{own E:Bool}{y:Pos}
theorem qx8{k:Bool}{p q a b:Prop}(h1:p->a)(h2:q->b):(if k=true then p else q)->(if k=true then a else b):=by grind
noncomputable def gNeg:D->Option D
 | .int i=>some (.int (-i))
 | _=>none
theorem qU2:OpS1 true (rU λ i=>.int (-i)) gNeg:=by
 intro F H v x B d Q r h q;cases x with
 | int i=>cases h;cases r.int_inv;exact⟨i,rfl,q _ H [] (.int _) (λ _ _ z=>z) New.nil⟩
 | _=>cases h
variable{rc:List V->Hp->VK->Prop}{C:Ds->Option D}{x:Str}{p:Pos}{w:List Kt}{fs:Ds->Option Ds}
def Bp(C:Ds->Option D)(fs:Ds->Option Ds):FV:=λ ds=>(fs ds).bind C
theorem vbi{id:String}(d:CallR X (.builtin id) rc)(h:OpS E rc C)(f:X.mg x=none)(g:VVs c X (e::w) own fs)(i:Gl X x:=by rfl)(hv:Jo x=some (.builtin id):=by rfl)(j:x ≠ "__name__" := by decide)(a:N' x:=by decide)(k:Jj (e::w) X.env=(false,eval e X.env)::Jj w X.env:=by rfl)(b:((backTo y (Jj w X.env)).any λ x=>x.1)=false:=by rfl) :
   VV c X (.Call (.Name x p) (e::w) [] y) (E||own) (Bp C fs):=⟨PE.mono (cbi d f g.h i hv j a k b) (qU3 h)⟩
def gLst(xs:Ds):Option D:=gd (D.imms xs=true/\xs.length<=big) (.l false xs)
def gTup(xs:Ds):Option D:=gd (D.imms xs=true/\xs.length<=big) (.q xs)
theorem Im(k:VVs c X w own fs):VV c X (.List w y) true (Bp gLst fs):=by
 refine⟨PE.mono (qH0 k.h) λ u H Q f=>?_⟩;obtain⟨F,l,A,d,S,e,q⟩:=f;obtain⟨m,n,r⟩:=zA3.mp e;obtain⟨g,rfl⟩:=qf5 r;refine⟨F,l,A,m,S,n,λ s H1 B1 i j t=>⟨by rw[i.len];exact zAb g.2 qd8,λ p a=>?_⟩⟩;exact q _ _ [p] (qw5 a (i.imms0 g.1)) (j.trans (Same.new a)) λ _=>⟨(qf2 a).one,λ b o e=>(qf2 a).new b o (j b o e)⟩
theorem vtup{k:Nat}(i:VVs c X w own fs):VV c X (.Tuple w k y) true (Bp gTup fs):=by
 refine⟨PE.mono (qT8 i.h) λ u H Q a=>?_⟩;obtain⟨F,j,A,d,S,e,q⟩:=a;obtain⟨l,m,n⟩:=zA3.mp e;obtain⟨b,rfl⟩:=qf5 n;refine⟨F,j,A,l,S,m,λ r H1 B1 f o s=>⟨by rw[f.len];exact zAb b.2 qd8,λ p g=>?_⟩⟩;exact q _ _ [] (qE5 g (f.imms0 b.1)) (o.trans (Same.new g)) λ _=>New.nil
noncomputable def D.asI:D->Option Int
 | .int i=>some i
 | _=>none
theorem M0.asI{F:γ->Prop}{H:Hp}{d:D}{B:List γ}{k:Int}(r:M0 F H v d B)(h:d.asI=some k):v=.int k:=by
 cases r<;>cases h<;>rfl
end
section
variable{c:Vc}{X:Cx}{b e:Kt}{G:Pos}{F F':γ->Prop}{H H':Hp}{E:St}{ds:Ds}{A:List γ}
theorem M3.put1{d:D}(S:M3 c F H E ds A)(h:ds[i]? = some d)(e:d≠.u):∃(v:V)(B C:List γ),(E++c.gv)[i]? = some (some v)/\M0 F H v d B/\(∀ b,A.count b=B.count b+C.count b) /\
   ∀{F':γ->Prop}{H':Hp}{W:γ->Prop}(d':D)(B':List γ),Kp F H W F' H'->(∀ b∈C,¬ W b)->M0 F' H' v d' B'->∃ A':List γ,Locs F' H' (E++c.gv) (ds.set i d') A'/\∀ b,A'.count b=B'.count b+C.count b:=by
 have f:A7 ds i []=some d:=by unfold A7;rw[h];rfl
 obtain⟨u,w,B,C,g,j,l,m,n⟩:=S.loc.place f e;cases j;refine⟨u,B,C,g,l,m,λ{F' H' W} d' B' k o r=>?_⟩;obtain⟨A',a,q2⟩:=n d' B' k o r;refine⟨A',?_,q2⟩;unfold Br at a;rw[h] at a;exact a
theorem qx4{d:D}(h:d.known=true):d≠.u:=λ z=>by subst z;cases h
def tMv(i:Nat):VT:=λ ds Q _=>orF (rdN i ds) λ d=>Q d (ds.set i .u)
theorem emv(i:Nat){x:Str}(k:X.N[i]? = some x:=by rfl)(hv:Vis X.env.scope x:=by first | exact Mv rfl | exact Mu (Mv rfl) | exact Mu (Mu rfl))(m:N' x:=by decide)(a:(x == ("__classdict__" : Str))=false:=by decide) :
   VE c X (.Name x G) (tMv i):=by
 refine⟨λ Ko s E H Q I g=>?_,λ n Q Q' p r t _=>qa6 λ d=>t _ _⟩;obtain⟨F,n,A,p,S,x,q⟩:=g;refine qn7 k hv m a Ko s E H Q I ?_;obtain⟨d,h,q⟩:=qa8.mp q;obtain⟨h,u⟩:=qm4.mp h;obtain⟨v,B,C,l,w,j,y⟩:=S.put1 h (qx4 u);rw[zA9 (qk9 k Ko E H s I)] at l;obtain⟨A',D,q2⟩:=y .u [] (Kp.same (λ _ _ z=>z)) (λ _ _ z=>z) (.u v);refine⟨v,l,q v H F B A' w ⟨D,S.ok.count λ b=>by rw[q2,j];simp,S.len,S.ag⟩ (S.ok.count λ b=>by rw[zA0,q2,j];simp) ?_⟩;exact⟨λ _ _ e _=>e,λ b o e z=>by rw[zA0,q2];have:=j b;simp;lia,λ _ f=>f,λ _ _ _ _ f=>f⟩
theorem share{B C:List γ}(o:Ok F H A)(a:∀ b,A.count b=B.count b+C.count b)(d:∀ b∈B,∃ o,H b=some o/\Bd o=true){A':List γ}(c:∀ b,A'.count b=C.count b) :
   Ok (λ b=>F b∨b∈B) H A'/\M2 F H A (λ b=>F b∨b∈B) H A':=by
 refine⟨⟨λ b=>by rw[c];have:=o.sep b;have:=a b;grind,λ b f=>?_,λ b f=>?_⟩,λ _ _ e _=>e,λ b o e z=>by rw[c];have:=a b;grind,λ b f=>.inl f,λ b u e z f=>?_⟩
 . rw[c]
   rcases f with f | f
   . have:=o.fro b f;have:=a b;grind
   have:=qb1.mp f;have:=o.sep b;grind
 . rcases f with f | f
   . exact o.ex b f
   exact let ⟨u,e,_⟩:=d b f;⟨u,e⟩
 grind
abbrev PF:=Ds->Option (Nat×List Nat)
inductive LiftP(c:Vc)(pf:PF)(E:St)(H:Hp)(Q:VK):Prop
 | mk (F:γ->Prop) (ds:Ds) (A:List γ) (i:Nat) (p:List Nat) (d:D) (S:M3 c F H E ds A) (e:pf ds=some (i,p)) (g:A7 ds i p=some d) (n:d≠.u) (q:∀ u w H',(E++c.gv)[i]? = some (some u)->Walk H' u p w->Same H H'->Q w H'):LiftP c pf E H Q
def liftP(c:Vc)(pf:PF):TE:=LiftP c pf
structure VP(c:Vc)(X:Cx)(e:Kt)(pf:PF):Prop where
 h:PE X e (liftP c pf)
theorem vpn(i:Nat){x:Str}(h:X.N[i]? = some x:=by rfl)(hv:Vis X.env.scope x:=by first | exact Mv rfl | exact Mu (Mv rfl) | exact Mu (Mu rfl))(l:N' x:=by decide)(b:(x == ("__classdict__" : Str))=false:=by decide) :
   VP c X (.Name x G) (λ _=>some (i,[])):=by
 refine⟨λ Ko s E H Q I f=>?_⟩;obtain⟨F,o,A,j,p,d,S,e,m,g,q⟩:=f;refine qn7 h hv l b Ko s E H Q I ?_;cases e;obtain⟨u,w,B,C,k,n,r,t,v⟩:=S.loc.place m g;cases n;have a:=k;rw[zA9 (qk9 h Ko E H s I)] at a;exact⟨u,a,q u u H k rfl λ _ _ z=>z⟩
theorem M3.place{p:List Nat}{d:D}{u:V}(S:M3 c F H E ds A)(h:A7 ds i p=some d)(e:d≠.u)(f:(E++c.gv)[i]? = some (some u))(g:Walk H u p w):∃(B C:List γ),M0 F H w d B/\(∀ b,A.count b=B.count b+C.count b) /\
   ∀{F':γ->Prop}{H':Hp}{W:γ->Prop}(d':D)(B':List γ),Kp F H W F' H'->(∀ b∈C,¬ W b)->M0 F' H' w d' B'->∃ A':List γ,Locs F' H' (E++c.gv) (Br ds i p d') A'/\∀ b,A'.count b=B'.count b+C.count b:=by
 obtain⟨n,o,B,C,a,j,k,l,m⟩:=S.loc.place h e;rw[f] at a;cases a;cases g.fn j;exact⟨B,C,k,l,m⟩
end
inductive Pl where
 | no
 | sl (i:Nat)
 | pl (i:Nat) (p:List Nat) (w:V)
abbrev VTB:=Ds->(Ds->List Pl->Ds->Prop)->XKd->Prop
inductive Bs(a:List (Option V)):List V->List Pl->Prop
 | nil:Bs a [] []
 | no {v:V} {vs:List V} {ps:List Pl} (t:Bs a vs ps):Bs a (v::vs) (.no::ps)
 | sl {v:V} {vs:List V} {ps:List Pl} {i:Nat} (h:a[i]? = some (some v)) (t:Bs a vs ps):Bs a (v::vs) (.sl i::ps)
 | so {v:V} {vs:List V} {ps:List Pl} {i:Nat} {p:List Nat} (t:Bs a vs ps):Bs a (v::vs) (.pl i p v::ps)
inductive LiftA(c:Vc)(t:VTB)(a:St)(H:Hp)(Q:List V->Hp->Prop):Prop
 | mk (F:γ->Prop) (ds:Ds) (A:List γ) (xe:XKd) (S:M3 c F H a ds A) (x:Xc c xe F H A) (q:t ds (λ xs pls ds'=>∀ vs H' F' T A',Mw F' H' vs xs T->Bs (a++c.gv) vs pls->M3 c F' H' a ds' A'->Ok F' H' (T++A')->M2 F H A F' H' (T++A')->Q vs H') xe):LiftA c t a H Q
def liftA(c:Vc)(t:VTB):TA:=LiftA c t
structure VAs(c:Vc)(X:Cx)(es:List Kt)(t:VTB):Prop where
 h:PA X es (liftA c t)
 m:∀ ds (Q Q':Ds->List Pl->Ds->Prop) (xe xe':XKd),(∀ d p ds',Q d p ds'->Q' d p ds')->(∀ x ds',xe x ds'->xe' x ds')->t ds Q xe->t ds Q' xe'
section
variable{c:Vc}{X:Cx}{e:Kt}{es:List Kt}{ta:VT}{tr:VTB}{F F':γ->Prop}{H H':Hp}{σ:St}{ds:Ds}{A:List γ}
def B4:VTB:=λ ds Q _=>Q [] [] ds
theorem Af:VAs c X [] B4:=⟨PA.mono qh3 λ σ H Q ⟨F,a,A,b,S,x,q⟩=>q [] H F [] A .nil .nil S S.ok M2.refl,λ a Q Q' b d e _=>e _ _ _⟩
def tbV(ta:VT)(tr:VTB):VTB:=λ ds Q xe=>ta ds (λ x ds1=>tr ds1 (λ xs ps a=>Q (x::xs) (.no::ps) a) xe) xe
theorem vaV(f:VE c X e ta)(g:VAs c X es tr)(w:Jj (e::es) X.env=(false,eval e X.env)::Jj es X.env:=by rfl):VAs c X (e::es) (tbV ta tr):=by
 refine⟨PA.mono (qb8 f.h g.h w) λ σ H Q i=>?_,λ o Q Q' j y B p=>f.m _ _ _ _ _ (λ d a=>g.m _ _ _ _ _ (λ C D k=>B _ _ _) p) p⟩;obtain⟨F,o,A,j,S,x,q⟩:=i;refine⟨F,o,A,j,S,x,f.m _ _ _ _ _ (λ M a q v H1 F1 T A1 r S1 s t=>?_) (λ _ _ z=>z) q⟩;have l:M2 F H A F1 H1 A1:=t.count λ b=>by rw[zA0];lia
 refine⟨F1,a,A1,j,S1,x.step l,g.m _ _ _ _ _ (λ C D k q E H2 F2 T2 A2 G I S2 J u=>?_) (λ _ _ z=>z) q⟩;have n:=r.keep (u.kp S1.ok S1.loc.cells) λ b N O=>by
   have:=s.sep b
   grind
 obtain⟨K,L⟩:=u.frame s r.cells J;exact q (v::E) H2 F2 (T++T2) A2 (.cons n G) (.no I) S2 (by rw[zAj];exact K) (by rw[zAj];exact t.trans L)
def tbN(i:Nat)(tr:VTB):VTB:=λ ds Q xe=>(rdN i ds).isSome=true/\tr ds (λ xs ps ds1=>orF (rdN i ds1) λ d=>Q (d::xs) (.sl i::ps) (ds1.set i .u)) xe
theorem vaN(i:Nat){x:Str}{p:Pos}(e:VAs c X es tr)(E:Jj (.Name x p::es) X.env=(false,eval (.Name x p) X.env)::Jj es X.env:=by rfl)(t:X.N[i]? = some x:=by rfl)(hv:Vis X.env.scope x:=by first | exact Mv rfl | exact Mu (Mv rfl) | exact Mu (Mu rfl))(G:N' x:=by decide)(f:(x == ("__classdict__" : Str))=false:=by decide) :
   VAs c X (.Name x p::es) (tbN i tr):=by
 refine⟨λ pos Ko s σ H Q I g=>?_,λ u Q Q' w J K L=>Mb (e.m _ _ _ _ _ (λ M O j=>qa6 λ d=>K _ _ _) L)⟩;obtain⟨F,u,A,w,S,x,k,q⟩:=g;refine qb8 (qn7 t hv G f) e.h E pos Ko s σ H Q I ?_;have y:=qk9 t Ko σ H s I;obtain⟨d0,P⟩:=zAy.mp k;obtain⟨v,B0,a,_,_⟩:=S.name y P;refine⟨v,a,F,u,A,w,S,x,e.m _ _ _ _ _ (λ M O j q R H2 F2 T2 A2 T U S2 D V=>?_) (λ _ _ z=>z) q⟩;obtain⟨d,l,q⟩:=qa8.mp q;obtain⟨l,W⟩:=qm4.mp l;obtain⟨v',B,C,n,Y,Z,h4⟩:=S2.put1 l (qx4 W);have o:=n;rw[zA9 y,a] at n;cases n;obtain⟨A3,q1,q2⟩:=h4 .u [] (Kp.same λ _ _ z=>z) (λ _ _ z=>z) (.u v);have r:∀ b,((B++T2)++A3).count b<=(T2++A2).count b:=λ b=>by simp only[zA0,q2,Z];simp;lia
 exact q (v::R) H2 F2 (B++T2) A3 (.cons Y T) (.sl o U) ⟨q1,(D.count r).right,S.len,S.ag⟩ (D.count r) (V.count r)
def An:List Pl->Ds->Ds->Option Ds
 | [],_,ds=>some ds
 | .no::ps,_::ys,ds=>An ps ys ds
 | .sl i::ps,y::ys,ds=>An ps ys (ds.set i y)
 | .pl i p v::ps,y::ys,ds=>match A7 ds i p with
   | some (.hole w)=>if w=v then An ps ys (Br ds i p y) else none
   | _=>none
 | _::_,[],_=>none
theorem qA5{τ:List (Option V)}{ds:Ds}{C B:List γ}{y:D}(L:Locs F H τ ds C)(hi:τ[i]? = some (some v))(r:M0 F H v y B):∃ A':List γ,Locs F H τ (ds.set i y) A'/\∀ b,A'.count b<=B.count b+C.count b:=by
 have t:=L.len;have g:=(zAd.mp hi).1;obtain⟨d,h⟩:∃ d,ds[i]? = some d:=⟨_,List.getElem?_eq_getElem (by lia)⟩
 obtain⟨σ1,o,σ2,a,c,A1,B0,A2,e,j,k,m,n,p,u,q⟩:=L.split h;have f:τ[i]? = some o:=by rw[e];exact qh8 k
 rw[hi] at f;cases f;have s:ds.set i y=a++y::c:=by
   have:=congrArg (λ l=>l.set i y) j
   rw[this,qe7 m]
 exact⟨A1++(B++A2),by rw[e,s];exact p.append (.so r q),λ b=>by rw[n];simp only[zA0];lia⟩
theorem qr3{c:List Pl}{ys ds a:Ds}{σ:List (Option V)}{B C:List γ}{more:List V}(e:Bs σ vs c)(r:Mw F H (vs++more) ys B)(L:Locs F H σ ds C)(h:An c ys ds=some a):∃ A':List γ,Locs F H σ a A'/\∀ b,A'.count b<=B.count b+C.count b:=by
 induction e generalizing ys ds B C with
 | nil =>
   have h:some ds=some a:=by cases ys<;>exact h
   cases h;exact⟨C,L,λ b=>by grind -abstractProof⟩
 | no e d =>
   cases r with
   | @cons _ _ A1 _ _ B1 r1 t =>
     obtain⟨A',f,q2⟩:=d t L h
     grind
 | sl l e d =>
   cases r with
   | @cons _ _ A1 _ _ B1 r1 t =>
     obtain⟨A2,f,q2⟩:=qA5 L l r1;obtain⟨A',j,k⟩:=d t f h;exact⟨A',j,λ b=>by rw[zA0];have:=k b;have:=q2 b;grind -abstractProof⟩
 | @so v _ _ i p e d =>
   cases r with
   | @cons _ y A1 _ _ B1 r1 t =>
     unfold An at h;split at h
     . rename_i w hg
       by_cases g:w=v
       . rw[if_pos g] at h
         subst g;obtain⟨u,o,B2,C2,q,s,m,x,n⟩:=L.place hg (by grind);cases m;obtain⟨A2,f,q2⟩:=n y A1 (Kp.same λ _ _ z=>z) (λ _ _ z=>z) r1;obtain⟨A',j,k⟩:=d t f h
         grind
       rw[if_neg g] at h;cases h
     cases h
abbrev VSp:=Ds->DK->XKd->Prop
inductive LiftF(s:VSp)(vs:List V)(H:Hp)(Q:VK)(E:XK):Prop
 | mk (F:γ->Prop) (ds:Ds) (A:List γ) (r:Mw F H vs ds A) (o:Ok F H A) (q:s ds (λ d ys=>∀ v H' F' T A',M0 F' H' v d T->Mw F' H' vs ys A'->Ok F' H' (T++A')->M2 F H A F' H' (T++A')->Q v H')
   (λ x ys=>∀ e H' F' A',RepX F' H' e x->Mw F' H' vs ys A'->Ok F' H' A'->M2 F H A F' H' A'->E (.ref e) none H')):LiftF s vs H Q E
def Hx(s:VSp):Sp:=LiftF s
def A9(s:VSp):Prop:=∀ ds (Q Q':DK) (xe xe':XKd),(∀ d a,Q d a->Q' d a)->(∀ x a,xe x a->xe' x a)->s ds Q xe->s ds Q' xe'
def qj6(s:VSp)(dv:Ds)(tr:VTB):VT:=λ ds Q xe=>tr ds (λ xs ps ds1=>s (xs++dv) (λ d ys=>orF (An ps ys ds1) λ a=>Q d a) (λ x ys=>orF (An ps ys ds1) λ a=>xe x a)) xe
theorem qq8{s:VSp}{dv:Ds}(f:A9 s)(g:VAs c X es tr):∀ ds (Q Q':DK) (xe b:XKd),(∀ d a,Q d a->Q' d a)->(∀ x a,xe x a->b x a)->qj6 s dv tr ds Q xe->qj6 s dv tr ds Q' b :=
 λ ds Q Q' xe b h e=>g.m _ _ _ _ _ (λ k l i=>f _ _ _ _ _ (λ d j=>qa6 λ z=>h _ _) (λ x j=>qa6 λ z=>e _ _)) e
def Defs(dvs:List V)(dv:Ds):Prop:=∀ F H,Mw F H dvs dv []
theorem qy6:Defs [] []:=λ _ _=>.nil
theorem qR4{s:VSp}{dvs:List V}{dv:Ds}(C:Defs dvs dv)(D:A9 s)(G:VAs c X es tr):∀ σ H Q,Be c (qj6 s dv tr) σ H Q->Iw (Hx s) dvs c.E (liftA c tr) σ H Q:=by
 rintro σ H Q ⟨F,I,A,J,S,x,q⟩;refine⟨F,I,A,J,S,x,G.m _ _ _ _ _ (λ K R L q U H1 F1 T A1 M u S1 a w=>?_) (λ _ _ z=>z) q⟩;have rall:=M.append (C F1 H1);rw[zAh] at rall;refine⟨F1,K++dv,T,rall,a.left,D _ _ _ _ _ (λ d N q v H2 F2 T2 A2 O j k h=>?_) (λ y N q e H2 F2 A2 P j k h=>?_) q⟩
 . obtain⟨i,l,q⟩:=qa8.mp q
   have f:Ok F1 H1 (A1++T):=a.count λ b=>by simp only[zA0];lia
   obtain⟨n,o⟩:=h.frame f S1.loc.cells k;have L1:=S1.loc.keep (h.kp a.left rall.cells) λ b p g=>by
     have:=a.sep b
     rw[zA0] at this
     have:=qb1.mp p
     lia
   obtain⟨A3,r,q2⟩:=qr3 u j L1 l;have g:∀ b,(T2++A3).count b<=(A1++(T2++A2)).count b:=λ b=>by simp only[zA0];have:=q2 b;lia
   have B:=n.count g;have t:=(w.trans (o.pre λ b=>by simp only[zA0];lia)).count g;exact q v H2 F2 T2 A3 O ⟨r,B.right,S.len,S.ag⟩ B t
 obtain⟨i,l,q⟩:=qa8.mp q;have f:Ok F1 H1 (A1++T):=a.count λ b=>by simp only[zA0];lia
 obtain⟨n,o⟩:=h.frame f S1.loc.cells k;have L1:=S1.loc.keep (h.kp a.left rall.cells) λ b p g=>by
   have:=a.sep b
   rw[zA0] at this
   have:=qb1.mp p
   lia
 obtain⟨A3,r,q2⟩:=qr3 u j L1 l;have g:∀ b,A3.count b<=(A1++A2).count b:=λ b=>by simp only[zA0];have:=q2 b;lia
 have t:M2 F H A F2 H2 A3:=(w.trans (o.pre λ b=>by simp only[zA0];lia)).count g;exact x y i σ e H2 F2 A3 q P ⟨r,(n.count g),S.len,S.ag⟩ t
end
structure VFnB(cm:HdK)(P:Kq)(w:Ks)(K:Mf)(mg:Str->Option V')(base:Heap)(k:Nat)(f:γ)(fd:δ)(ps:List Str)(s:VSp):Prop where
 ok:Al cm P w K mg base (CX1 P w) k f fd ps (Hx s)
 m:A9 s
abbrev VFn:=VFnB true
section
variable{c:Vc}{X:Cx}{e:Kt}{U:List Kt}{Y:VTB}{F M:γ->Prop}{H O:Hp}{J:St}{ds L:Ds}{A R T:List γ}{W p:Pos}{x Z m:Str}{st:Ku}{f:γ}{fd:δ}{ps:List Str}{k:Nat}{s:VSp}{dvs:List V}{dv:Ds}
theorem Ba(D:Df X.K X.mg x Z st f fd ps)(G:VFnB cm X.prog X.w X.K X.mg X.base k f fd ps s)(i:Lands X c.E)(j:M4 cm k X.A)(a:VAs c X (e::U) Y)(l:Gl X x:=by rfl)(d:N' x:=by decide)(n:Jj (e::U) X.env=(false,eval e X.env)::Jj U X.env:=by rfl)(g:(backTo W (Jj U X.env)).any (·.1)=false:=by rfl):VE c X (.Call (.Name x p) (e::U) [] W) (qj6 s [] Y) :=
 ⟨PE.mono (qv9 G.ok j l D.m D.F.kp D.b .nil i.passes a.h d n g) (qR4 qy6 G.m a),qq8 G.m a⟩
theorem qR5{xs:Ds}{f:List Pl}{xe:XKd}{K:DK}(B:Defs dvs dv)(C:A9 s)(S:M3 c F H J ds A)(x:Xc c xe F H A)(r1:Mw M O vs xs T)(u:Bs (J++c.gv) vs f)(S1:M3 c M O J L R)(o1:Ok M O (T++R))(w:M2 F H A M O (T++R))(D:∀ d i,K d i->∀ v H' F' T A',M0 F' H' v d T->M3 c F' H' J i A'->Ok F' H' (T++A')->M2 F H A F' H' (T++A')->Q v H')(q:s (xs++dv) (λ d ys=>orF (An f ys L) λ a=>K d a) (λ x ys=>orF (An f ys L) λ a=>xe x a)):Hx s (vs++dvs) O Q (c.E J):=by
 have rall:=r1.append (B M O);rw[zAh] at rall;refine⟨M,xs++dv,T,rall,o1.left,C _ _ _ _ _ (λ d ys q v H2 F2 T2 A2 G k l j=>?_) (λ y ys q e H2 F2 A2 I k l j=>?_) q⟩
 . obtain⟨a,m,q⟩:=qa8.mp q
   have g:Ok M O (R++T):=o1.count λ b=>by simp only[zA0];lia
   obtain⟨n,o⟩:=j.frame g S1.loc.cells l;have L1:=S1.loc.keep (j.kp o1.left rall.cells) λ b p h=>by
     have:=o1.sep b
     rw[zA0] at this
     have:=qb1.mp p
     lia
   obtain⟨A3,r,q2⟩:=qr3 u k L1 m;have h:∀ b,(T2++A3).count b<=(R++(T2++A2)).count b:=λ b=>by simp only[zA0];have:=q2 b;lia
   have z:Ok F2 H2 (T2++A3):=n.count h;have t:=(w.trans (o.pre λ b=>by simp only[zA0];lia)).count h;exact D d a q v H2 F2 T2 A3 G ⟨r,z.right,S.len,S.ag⟩ z t
 obtain⟨a,m,q⟩:=qa8.mp q;have g:Ok M O (R++T):=o1.count λ b=>by simp only[zA0];lia
 obtain⟨n,o⟩:=j.frame g S1.loc.cells l;have L1:=S1.loc.keep (j.kp o1.left rall.cells) λ b p h=>by
   have:=o1.sep b
   rw[zA0] at this
   have:=qb1.mp p
   lia
 obtain⟨A3,r,q2⟩:=qr3 u k L1 m;have h:∀ b,A3.count b<=(R++A2).count b:=λ b=>by simp only[zA0];have:=q2 b;lia
 have t:M2 F H A F2 H2 A3:=(w.trans (o.pre λ b=>by simp only[zA0];lia)).count h;exact x y a J e H2 F2 A3 q I ⟨r,(n.count h),S.len,S.ag⟩ t
def tLstV(Y:VTB):VT:=λ ds Q xe=>Y ds (λ xs ps L=>xs.length<=big/\Q (.l false xs) L) xe
theorem Bf(d:VAs c X U Y):VE c X (.List U W) (tLstV Y):=by
 refine⟨PE.mono (qH0 d.h) λ J H Q e=>?_,λ j Q Q' k l n o=>d.m _ _ _ _ _ (λ p r f=>Mb (n _ _)) o⟩;obtain⟨F,j,A,k,S,x,q⟩:=e;refine⟨F,j,A,k,S,x,d.m _ _ _ _ _ (λ p r f q s O M T R g B S1 t v=>⟨by rw[g.len];exact zAb q.1 qd8,λ y i=>?_⟩) (λ _ _ z=>z) q⟩;have same:=Same.new (u:=.l s) i;have w:=(qf2 i).ok t (λ b a=>by
   rcases zAf.mp a with a | a
   . exact g.cells b a
   exact S1.loc.cells b a) same
 exact q.2 (.ref y) _ M (y::T) R (.l qa3 (g.same same)) (S1.same same) w (v.trans ((qf2 i).stp same))
end
structure VEnds where
 nx:Ds->Prop
 rt:DK
 bk:Ds->Prop
 ct:Ds->Prop
 xe:XKd
abbrev VTS:=VEnds->Ds->Prop
structure VEnds.Le(e e':VEnds):Prop where
 nx:∀ ds,e.nx ds->e'.nx ds
 rt:∀ d ds,e.rt d ds->e'.rt d ds
 bk:∀ ds,e.bk ds->e'.bk ds
 ct:∀ ds,e.ct ds->e'.ct ds
 xe:∀ x ds,e.xe x ds->e'.xe x ds
structure Lk(c:Vc)(E:As)(F:γ->Prop)(H:Hp)(A:List γ)(e:VEnds):Prop where
 nx:∀ ds' a' H' F' A',e.nx ds'->M3 c F' H' a' ds' A'->M2 F H A F' H' A'->E.nx a' H'
 rt:∀ d ds' v a' H' F' T A',e.rt d ds'->M0 F' H' v d T->M3 c F' H' a' ds' A'->Ok F' H' (T++A')->M2 F H A F' H' (T++A')->E.rt v H'
 bk:∀ ds' a' H' F' A',e.bk ds'->M3 c F' H' a' ds' A'->M2 F H A F' H' A'->E.bk a' H'
 ct:∀ ds' a' H' F' A',e.ct ds'->M3 c F' H' a' ds' A'->M2 F H A F' H' A'->E.ct a' H'
 xe:Xc c e.xe F H A
theorem Lk.step{c:Vc}{E:As}{F F1:γ->Prop}{H H1:Hp}{A A1:List γ}{e:VEnds}(l:Lk c E F H A e)(s:M2 F H A F1 H1 A1):Lk c E F1 H1 A1 e :=
 ⟨λ a b' H' F' A' h S t=>l.nx a b' H' F' A' h S (s.trans t),λ d a v b' H' F' T A' h r S o t=>l.rt d a v b' H' F' T A' h r S o (s.trans t),λ a b' H' F' A' h S t=>l.bk a b' H' F' A' h S (s.trans t),λ a b' H' F' A' h S t=>l.ct a b' H' F' A' h S (s.trans t),l.xe.step s⟩
inductive LiftS(c:Vc)(t:VTS)(E:As)(a:St)(H:Hp):Prop
 | mk (F:γ->Prop) (ds:Ds) (A:List γ) (e:VEnds) (S:M3 c F H a ds A) (l:Lk c E F H A e) (q:t e ds):LiftS c t E a H
def Bk(c:Vc)(t:VTS):TS:=LiftS c t
structure VS(c:Vc)(X:Cx)(st:Ku)(t:VTS):Prop where
 h:PS X st (Bk c t)
 m:∀(e e':VEnds) ds,e.Le e'->t e ds->t e' ds
structure VSs(c:Vc)(X:Cx)(st:List Ku)(t:VTS):Prop where
 h:PSs X st (Bk c t)
 m:∀(e e':VEnds) ds,e.Le e'->t e ds->t e' ds
section
variable{c:Vc}{X:Cx}{b e:Kt}{st:Ku}{rest:List Ku}{t u:VTS}{te:VT}{pos:Pos}
def Jd:VTS:=λ e ds=>e.nx ds
def Hn(t u:VTS):VTS:=λ e ds=>t { e with nx:=u e } ds
theorem Ak:VSs c X [] Jd:=⟨PSs.mono qM8 λ E G H ⟨F,a,A,e,S,l,q⟩=>l.nx a G H F A q S M2.refl,λ e b a h=>h.nx a⟩
theorem Aa(h1:VS c X st t)(h2:VSs c X rest u):VSs c X (st::rest) (Hn t u):=by
 exact⟨PSs.mono (qn6 h1.h h2.h) λ E G H ⟨F,a,A,e,S,l,q⟩=>(⟨F,a,A,{ e with nx:=u e },S,⟨λ b G' H' F' A' q S' s=>⟨F',b,A',e,S',l.step s,q⟩,l.rt,l.bk,l.ct,l.xe⟩,q⟩),λ e d a h=>h1.m _ _ _ ⟨λ a=>h2.m _ _ _ h,h.rt,h.bk,h.ct,h.xe⟩⟩
theorem Ad(h1:VS c X st t):VSs c X [st] t:=⟨qe8 h1.h,h1.m⟩
def sRet(te:VT):VTS:=λ e ds=>te ds e.rt e.xe
theorem Ap(h:VE c X e te):VS c X (.Return (some e) pos) (sRet te):=by
 refine⟨PS.mono (qN0 h.h) λ E G H ⟨F,b,A,e,S,l,q⟩=>⟨F,b,A,e.xe,S,l.xe,h.m _ _ _ _ _ (λ d a q v H' F' T A' r S' o s=>l.rt d a v G H' F' T A' q r S' o s) (λ _ _ z=>z) q⟩,λ e g b f=>h.m _ _ _ _ _ f.rt f.xe⟩
def sExpr(te:VT):VTS:=λ e ds=>te ds (λ _ a=>e.nx a) e.xe
theorem sexpr(h:VE c X e te)(i:swapsWith e none pos.line X.env=pure false:=by rfl):VS c X (.Expr e pos) (sExpr te):=by
 refine⟨PS.mono (qN1 h.h i) λ E G H ⟨F,f,A,e,S,l,q⟩=>⟨F,f,A,e.xe,S,l.xe,h.m _ _ _ _ _ (λ d a q v H' F' T A' r S' o s=>l.nx a G H' F' A' q S' (s.count λ b=>by rw[zA0];lia)) (λ _ _ z=>z) q⟩,λ e j f g=>h.m _ _ _ _ _ (λ _=>g.nx) g.xe⟩
def sIf(b:VTT)(t u:VTS):VTS:=λ e ds=>b ds (λ k a=>if k=true then t e a else u e a) e.xe
theorem sif{g:Kt}{x y:List Ku}{i:VTT}(b:VTe c X g i)(j:VSs c X x t)(n:VSs c X y u):VS c X (.If g x y pos) (sIf i t u):=by
 refine⟨PS.mono (ps_if b.h j.h n.h) λ E G H d=>?_,λ e p o f=>b.m _ _ _ _ _ (λ k a=>qx8 (j.m _ _ _ f) (n.m _ _ _ f)) f.xe⟩;obtain⟨F,o,A,e,S,l,q⟩:=d;refine⟨F,o,A,e.xe,S,l.xe,b.m _ _ _ _ _ (λ k a q H' F' A' S' s=>?_) (λ _ _ z=>z) q⟩;cases k with
 | true=>rw[if_pos rfl] at q ⊢;exact⟨F',a,A',e,S',l.step s,q⟩
 | false=>rw[if_neg (by decide)] at q ⊢;exact⟨F',a,A',e,S',l.step s,q⟩
abbrev VTG:=D->Ds->(Ds->Prop)->Prop
inductive LiftG(c:Vc)(g:VTG)(v:V)(G:St)(H:Hp)(Q:St->Hp->Prop):Prop
 | mk (F:γ->Prop) (ds:Ds) (A T:List γ) (d:D) (r:M0 F H v d T) (S:M3 c F H G ds A) (o:Ok F H (T++A)) (q:g d ds (λ ds'=>∀ G' H' F' A',M3 c F' H' G' ds' A'->M2 F H (T++A) F' H' A'->Q G' H')):LiftG c g v G H Q
def B5(c:Vc)(g:VTG):TG:=LiftG c g
structure VG(c:Vc)(X:Cx)(e:Kt)(g:VTG):Prop where
 h:PG X e (B5 c g)
 m:∀ d ds (Q Q':Ds->Prop),(∀ ds',Q ds'->Q' ds')->g d ds Q->g d ds Q'
theorem PG.mono{g g':TG}(h:PG X e g)(i:∀ v G H Q,g' v G H Q->g v G H Q):PG X e g':=λ Ko s G H v u Q I r q=>h Ko s G H v u Q I r (i v G H Q q)
theorem M3.store{F:γ->Prop}{H:Hp}{G:St}{ds:Ds}{A T:List γ}{d:D}(S:M3 c F H G ds A)(m:c.W i=false)(hi:i < G.length)(r:M0 F H v d T)(o:Ok F H (T++A)) :
   ∃ A',M3 c F H (G.set i (some v)) (ds.set i d) A'/\M2 F H (T++A) F H A':=by
 have n:=S.loc.len;rw[zAk] at n;obtain⟨σ1,y,σ2,e,f,A1,B,A2,p,q,s,t,u,w,C,x⟩:=S.loc.split (i:=i) (d:=ds[i]'(by lia)) (by simp);have hσ:G.set i (some v)++c.gv=σ1++some v::σ2:=by
   rw[<- Lp _ _ hi,p,qe7 s]
 have g:ds.set i d=e++d::f:=by
   have:=congrArg (λ l=>l.set i d) q
   rw[this,qe7 t]
 have a:∀ b,(A1++(T++A2)).count b<=(T++A).count b:=λ b=>by rw[u];simp only[zA0];lia
 refine⟨A1++(T++A2),⟨by rw[hσ,g];exact w.append (.so r x),o.count a,?_,λ j h=>?_⟩,M2.refl.count a⟩
 . rw[S.len,zAk,zAk,Ll]
 have k:i≠j:=λ z=>by subst z;rw[m] at h;cases h
 rw[<- S.ag j h,<- Lp _ _ hi,List.getElem?_set_ne k]
def gNm(i:Nat):VTG:=λ d ds Q=>Q (ds.set i d)
theorem Ip(i:Nat){x:Str}(b:X.N.Nodup)(e:c.W i=false:=by rfl)(hi:X.N[i]? = some x:=by rfl)(f:Loc X.env.scope x:=by first | exact Mv rfl | exact Mu rfl)(g:X.fn x=true∨X.env.scope.names.lookup x=some .local:=by first | exact .inl rfl | exact .inr rfl | assumption):VG c X (.Name x pos) (gNm i):=by
 refine⟨λ Ko s G H v h Q I j a=>?_,λ d k Q Q' l=>l _⟩;obtain⟨F,k,A,T,d,r,S,o,q⟩:=a;refine qE2 b hi f g Ko s G H v h Q I j ?_;obtain⟨A',S',m⟩:=S.store e (qk9 hi Ko G H s I) r o;exact q _ H F A' S' m
def B9(te:VT)(g:VTG):VTS:=λ e ds=>te ds (λ d a=>g d a e.nx) e.xe
theorem qX4{tg:Kt}{g:VTG}(h:VE c X e te)(f:VG c X tg g):∀ E G H,Bk c (B9 te g) E G H->tAsg (Be c te) (B5 c g) E G H:=by
 rintro E G H ⟨F,i,A,j,S,l,q⟩;exact⟨F,i,A,j.xe,S,l.xe,h.m _ _ _ _ _ (λ d a q v H' F' T A' r S' o s=>(⟨F',a,A',T,d,r,S',o,f.m _ _ _ _ (λ b q σ2 H2 F2 A2 S2 k=>l.nx b σ2 H2 F2 A2 q S2 (s.trans k)) q⟩)) (λ _ _ z=>z) q⟩
theorem qz8{tg:Kt}{g:VTG}(h:VE c X e te)(f:VG c X tg g):∀(en a:VEnds) ds,en.Le a->B9 te g en ds->B9 te g a ds:=λ en a ds b=>h.m _ _ _ _ _ (λ d i=>f.m _ _ _ _ b.nx) b.xe
theorem sasg{tg:Kt}{g:VTG}(h:VE c X e te)(a:VG c X tg g)(b:swapsWithSole [tg] e pos.line X.env=pure false:=by rfl)(d:swappedStores [tg] e X.env=pure none:=by rfl)(h1:(Jz [tg] X.env).map (·.2)=[assign tg X.env]:=by rfl):VS c X (.Assign [tg] e pos) (B9 te g) :=
 ⟨PS.mono (qT4 h.h a.h b d h1) (qX4 h a),qz8 h a⟩
theorem Aq(i:Nat){x:Str}{pos':Pos}(a:X.N.Nodup)(h:VE c X e te)(b:c.W i=false:=by rfl)(hi:X.N[i]? = some x:=by rfl)(f:Loc X.env.scope x:=by first | exact Mv rfl | exact Mu rfl)(j:swapsWith e (some (.Name x pos')) pos.line X.env=pure false:=by rfl)(g:X.fn x=true∨X.env.scope.names.lookup x=some .local:=by first | exact .inl rfl | exact .inr rfl | assumption) :
   VS c X (.Assign [.Name x pos'] e pos) (B9 te (gNm i)):=by
 have k:VG c X (.Name x pos') (gNm i):=Ip i a b hi f g;refine⟨λ Ko s G H E I q=>qM9 a hi f h.h j g Ko s G H E I ?_,qz8 h k⟩;obtain⟨F,n,A,p,S,l,q⟩:=q;refine⟨F,n,A,p.xe,S,l.xe,h.m _ _ _ _ _ (λ d t q v H' F' T A' r S' o u=>?_) (λ _ _ z=>z) q⟩;obtain⟨A2,S2,w⟩:=S'.store b (qk9 hi Ko G H s I) r o;exact l.nx _ _ H' F' A2 q S2 (u.trans w)
abbrev Ha:=Ds->Ds->(Ds->Prop)->Prop
inductive qS0(c:Vc)(g:Ha)(vs:List V)(G:St)(H:Hp)(Q:St->Hp->Prop):Prop
 | mk (F:γ->Prop) (ds:Ds) (A T:List γ) (xs:Ds) (r:Mw F H vs xs T) (S:M3 c F H G ds A) (o:Ok F H (T++A)) (q:g xs ds (λ ds'=>∀ G' H' F' A',M3 c F' H' G' ds' A'->M2 F H (T++A) F' H' A'->Q G' H')):qS0 c g vs G H Q
def qV0(c:Vc)(g:Ha):TGs:=qS0 c g
structure VGs(c:Vc)(X:Cx)(es:List Kt)(g:Ha):Prop where
 h:PGs X es (qV0 c g)
 m:∀ xs ds (Q Q':Ds->Prop),(∀ ds',Q ds'->Q' ds')->g xs ds Q->g xs ds Q'
theorem PGs.mono{es:List Kt}{g g':TGs}(h:PGs X es g)(i:∀ v G H Q,g' v G H Q->g v G H Q):PGs X es g':=λ Ko s G H v u Q I r q=>h Ko s G H v u Q I r (i v G H Q q)
def gNilV:Ha:=λ xs ds Q=>match xs with | []=>Q ds | _=>False
def qJ0(g:VTG)(b:Ha):Ha:=λ xs ds Q=>match xs with | x::r=>g x ds λ a=>b r a Q | []=>False
theorem gnilV:VGs c X [] gNilV:=by
 refine⟨PGs.mono qN6 λ f G H Q a=>?_,λ b d Q Q' e q=>by cases b with | nil=>exact e _ q | cons _ _=>exact q.elim⟩;obtain⟨F,d,A,T,b,r,S,o,q⟩:=a;cases b with
 | nil=>cases r;exact⟨rfl,q G H F A S M2.refl⟩
 | cons _ _=>exact q.elim
theorem qQ3{tg:Kt}{es:List Kt}{g:VTG}{j:Ha}(h1:VG c X tg g)(h2:VGs c X es j)(p:(Jz (tg::es) X.env).map (·.2)=assign tg X.env::(Jz es X.env).map (·.2):=by rfl):VGs c X (tg::es) (qJ0 g j):=by
 refine⟨PGs.mono (qG8 h1.h h2.h p) λ k G H Q ⟨F,l,A,T,d,r,S,o,q⟩=>?_,λ d l Q Q' s q=>by
   cases d with
   | nil=>exact q.elim
   | cons x r=>exact h1.m _ _ _ _ (λ t=>h2.m _ _ _ _ s) q⟩
 cases d with
 | nil=>exact q.elim
 | cons x d =>
   cases r with
   | @cons v _ T1 k _ T2 r1 rt =>
     refine⟨v,k,rfl,F,l,A,T1,x,r1,S,o.count λ b=>by simp only[zA0];lia,h1.m _ _ _ _ (λ e q σ1 H1 F1 A1 S1 n=>?_) q⟩;have f:Ok F H (T2++(T1++A)):=o.count λ b=>by simp only[zA0];lia
     obtain⟨u,w⟩:=n.frame f rt.cells S1.ok;have i:=rt.keep (n.kp (f.right) λ b a=>by
       rcases zAf.mp a with a | a
       . exact r1.cells b a
       exact S.loc.cells b a) λ b a B=>by
       have:=f.sep b
       grind
     exact⟨F1,e,A1,T2,d,i,S1,u,h2.m _ _ _ _ (λ y q σ2 H2 F2 A2 S2 z=>q σ2 H2 F2 A2 S2 ((w.pre λ b=>by simp only[zA0];lia).trans z)) q⟩
def gTupV(n:Nat)(a:Ha):VTG:=λ d ds Q=>match d with | .q xs=>xs.length=n/\a xs ds Q | _=>False
end
section
variable{c:Vc}{F:γ->Prop}{H:Hp}{Y:St}{ds:Ds}{A T:List γ}
theorem qt3{a:γ}{o o':HO}(h:H a=some o)(c:Bd o=true)(d:¬ F a):Kp F H (λ b=>b=a) F (upd H a o') :=
 ⟨λ b u e w=>by rw[qa4 w];exact e,λ b w=>by subst w;exact⟨o,h,c⟩,λ b w=>by subst w;exact d,λ _ f=>f⟩
theorem Mw.setAt{ys:List D}{Ael Tv:List γ}{d:D}(r:Mw F H vs ys Ael)(t:n < ys.length)(e:M0 F H v d Tv):∃ B,Mw F H (vs.set n v) (ys.set n d) B/\∀ b,B.count b<=Ael.count b+Tv.count b:=by
 obtain⟨f,w,g,a,c,A1,B,A2,h,j,k,m,o,p,u,q⟩:=r.split (i:=n) (d:=ys[n]) (by simp);have s:ys.set n d=a++d::c:=by
   have:=congrArg (λ l=>l.set n d) j
   rw[this,qe7 m]
 rw[h,qe7 k,s];exact⟨A1++(Tv++A2),p.append (.cons e q),λ b=>by rw[o];simp only[zA0];lia⟩
theorem qd1{ys:List D}{B:List γ}(r:M0 F H v (.l false ys) B):∃ a vs Ael,v=.ref a/\H a=some (.l vs)/\Mw F H vs ys Ael/\B=a::Ael:=by
 cases r with
 | l h r=>exact⟨_,_,_,rfl,h,r,rfl⟩
theorem qk4{p:List Nat}{ys:List D}{u:V}(S:M3 c F H Y ds A)(h:A7 ds i p=some (.l false ys))(J:(Y++c.gv)[i]? = some (some u))(K:Walk H u p w) :
   ∃(a:γ)(vs:List V)(Ael:List γ),w=.ref a/\H a=some (.l vs)/\Mw F H vs ys Ael /\
   ∀(g:List V)(l:List D)(B' R T:List γ),Ok F H (T++A)->Mw F H g l B'->(∀ b,B'.count b+R.count b<=Ael.count b+T.count b) ->
     (∃ A',M3 c F (upd H a (.l g)) Y (Br ds i p (.l false l)) A'/\Ok F (upd H a (.l g)) (R++A')/\M2 F H (T++A) F (upd H a (.l g)) (R++A'))/\∀ v d,M0 F H v d R->M0 F (upd H a (.l g)) v d R:=by
 obtain⟨B,C,r,L,M⟩:=S.place h (by intro z;cases z) J K;obtain⟨a,vs,Ael,rfl,y,N,rfl⟩:=qd1 r;refine⟨a,vs,Ael,rfl,y,N,λ g l B' R T m O E=>?_⟩;have n:∀ b,A.count b=(if b=a then 1 else 0)+Ael.count b+C.count b:=λ b=>by
   rw[L,zAg]
   grind
 have s:=n a;rw[if_pos rfl] at s;have P:=m.sep a;rw[zA0] at P;have Q:=E a;have G:¬ F a:=λ f=>by have:=m.fro a f;rw[zA0] at this;grind
 have k:=qt3 (F:=F) (o':=.l g) y rfl G;have rep':M0 F (upd H a (.l g)) (.ref a) (.l false l) (a::B'):=.l qa3 (O.keep k λ b q w=>by subst w;have:=qb1.mp q;grind);obtain⟨A',U,q2⟩:=M _ _ k (λ b q w=>by subst w;have:=qb1.mp q;grind) rep';have t:∀ b,A'.count b=(if b=a then 1 else 0)+B'.count b+C.count b:=λ b=>by
   grind
 have j:∀ b,(R++A').count b<=(T++A).count b:=λ b=>by rw[zA0,zA0,t,n];have:=E b;grind
 have W:∀ b,F b->∃ o,upd H a (.l g) b=some o:=λ b f=>by
   obtain⟨x,e⟩:=m.ex b f;exact⟨x,by rw[qa4 (show b≠a from λ w=>G (w ▸ f))];exact e⟩
 have I:Ok F (upd H a (.l g)) (R++A'):=⟨λ b=>zAb (j b) (m.sep b),λ b f=>by have:=m.fro b f;have:=j b;grind,W⟩
 refine⟨⟨A',⟨U,I.right,S.len,S.ag⟩,I,λ b u e z=>?_,λ b u e z=>by have:=j b;grind,λ _ f=>f,λ _ _ _ _ f=>f⟩,λ v d X=>X.keep k λ b q w=>by subst w;have:=qb1.mp q;grind⟩;rw[qa4 λ w=>?_]
 . exact e
 grind
end
section
noncomputable def D.own:D->Option Ds
 | .l false ys=>some ys
 | _=>none
theorem qO7{d:D}{ys:Ds}(h:d.own=some ys):d=.l false ys:=by
 cases d with
 | l z a=>cases z with
   | false=>cases h;rfl
   | true=>cases h
 | _=>cases h
theorem qy0{ds:Ds}{d:D}(h:ds[i]? = some d):A7 ds i []=some d:=by unfold A7;rw[h];rfl
theorem qu9{ds:Ds}{d x:D}(h:ds[i]? = some d):Br ds i [] x=ds.set i x:=by unfold Br;rw[h];rfl
end
section
variable{c:Vc}{X:Cx}{a b e o:Kt}{pos:Pos}{pf:PF}{fb:FV}{ob:Bool}{r:V->List V->Hp->VK->Prop}
def Hy(pf:PF)(fb:FV):VTG:=λ d ds Q=>orF (pf ds) λ q=>orF ((A7 ds q.1 q.2).bind D.own) λ ys=>orF ((fb ds).bind D.asI) λ k=>orF (ixN ys.length k) λ n=>Q (Br ds q.1 q.2 (.l false (ys.set n d)))
theorem Je(y:VP c X o pf)(hi:VV c X b ob fb)(f:∀ v,assign (.Subscript o b pos) X.env v=(do
     let ov <- holding [v] (eval o X.env)
     let iv <- holding [v,ov] (eval b X.env)
     standAt pos
     holding [v,ov,iv] (setItem ov iv v)
     release [v,ov,iv] []):=by intro _;rfl):VG c X (.Subscript o b pos) (Hy pf fb):=by
 refine⟨PG.mono (qT7 y.h hi.h qu8 f) λ v σ H Q g=>?_,λ d j Q Q' z=>qa6 λ _=>qa6 λ _=>qa6 λ _=>qa6 λ _=>z _⟩;obtain⟨F,j,A,T,d,r,S,B,q⟩:=g;obtain⟨⟨i,p⟩,C,q⟩:=qa8.mp q;obtain⟨W,E,q⟩:=qa8.mp q;obtain⟨Y,l,G⟩:=zA3.mp E;cases qO7 G;obtain⟨k,I,q⟩:=qa8.mp q;obtain⟨J,K,L⟩:=zA3.mp I;obtain⟨n,m,q⟩:=qa8.mp q;refine⟨F,j,A,i,p,_,S,C,l,D.noConfusion,λ u w H1 M N s=>⟨F,j,A,J,S.same s,K,λ Z H2 B2 O t _=>?_⟩⟩;have e:=s.trans t;cases O.asI L;obtain⟨a,P,Ael,rfl,f,x,wr⟩:=qk4 (S.same e) l M (N.same t);obtain⟨B',R,U⟩:=x.setAt ((qx6 m).2.1) (r.same e);obtain⟨⟨A',S3,o3,V⟩,_⟩:=wr _ _ B' [] T (B.same e) R λ b=>by have:=U b;simp;omega
 exact⟨a,P,k,n,rfl,rfl,f,by rw[x.len];exact m,q σ _ F A' S3 ((M2.same e).trans V)⟩
def sAugV(f:Int->Int->Int)(pf:PF)(fb a:FV):VTS:=λ e ds=>orF (pf ds) λ q=>orF ((A7 ds q.1 q.2).bind D.own) λ ys=>orF ((fb ds).bind D.asI) λ k=>0<=k/\orF ((ys[k.toNat]?).bind D.asI) λ x=>orF ((a ds).bind D.asI) λ y=>e.nx (Br ds q.1 q.2 (.l false (ys.set k.toNat (.int (f x y)))))
theorem saug{op:Operator}{f:Int->Int->Int}{N:FV}{oe:Bool}{tpos:Pos}(V:VP c X o pf)(hi:VV c X b ob fb)(W:VV c X e oe N)(Y:PIp X op (ipI f))(Z:∀ n r d,augStore b n r d=(do holding [d,n,r] (setItem n r d);release [d,n,r] [];pure .next):=by intros;rfl):VS c X (.AugAssign (.Subscript o b tpos) op e pos) (sAugV f pf fb N):=by
 refine⟨PS.mono (qN2 V.h hi.h qI7 W.h Y qu8 Z) λ E σ H t=>?_,λ en a0 s hl=>qa6 λ _=>qa6 λ _=>qa6 λ _=>Mb (qa6 λ _=>qa6 λ _=>hl.nx _)⟩;obtain⟨F,s,A,en,S,l,q⟩:=t;obtain⟨⟨i,p⟩,e1,q⟩:=qa8.mp q;obtain⟨ys,e2,q⟩:=qa8.mp q;obtain⟨dl,v,e4⟩:=zA3.mp e2;cases qO7 e4;obtain⟨k,e5,O,q⟩:=qa8.mp q;obtain⟨dk,e6,e7⟩:=zA3.mp e5;obtain⟨x,e8,q⟩:=qa8.mp q;obtain⟨dx,P,z⟩:=zA3.mp e8;obtain⟨y,B,q⟩:=qa8.mp q;obtain⟨dy,C,G⟩:=zA3.mp B;refine⟨F,s,A,i,p,_,S,e1,v,D.noConfusion,λ u w H1 Q R T=>⟨F,s,A,dk,S.same T,e6,λ vk H2 B2 r2 I _=>?_⟩⟩;have g:=T.trans I;cases r2.asI e7;obtain⟨a,vs,Ael,rfl,J,K,_⟩:=qk4 (S.same g) v Q (R.same I);obtain⟨vx,Bx,hx,rx,_⟩:=K.get P;cases rx.asI z;refine⟨a,vs,k,_,rfl,rfl,J,O,hx,F,s,A,dy,S.same g,C,λ vy H3 B3 r3 U _=>?_⟩;cases r3.asI G;have j:=g.trans U;have S3:=S.same j;obtain⟨a',L,Ael',ea,M,m,wr⟩:=qk4 S3 v Q ((R.same I).same U);cases ea;have hn:=(zAd.mp P).1;obtain⟨B',r4,h4⟩:=m.setAt hn (.int (f x y));obtain⟨⟨A',S4,o4,s4⟩,_⟩:=wr _ _ B' [] [] S3.ok r4 λ b=>by have:=h4 b;simpa using this
 refine⟨x,y,rfl,rfl,a,L,k,k.toNat,rfl,rfl,M,?_,l.nx _ σ _ F A' q S4 ((M2.same j).trans s4)⟩;rw[m.len];unfold ixN;rw[if_pos O,if_pos (by lia)]
end
def Bo(g:VTG)(t:VTS)(e:VEnds):List D->Ds->Prop
 | [],ds=>e.nx ds
 | x::xs,ds=>g x ds λ ds1=>t { e with nx:=Bo g t e xs,ct:=Bo g t e xs,bk:=e.nx } ds1
section
variable{c:Vc}{X:Cx}{a b e R:Kt}{O:List Ku}{g:VTG}{t:VTS}{te:VT}{U:Pos}
theorem qg8(d:VG c X R g)(e:VSs c X O t){en b:VEnds}(a:en.Le b):∀(xs:List D) ds,Bo g t en xs ds->Bo g t b xs ds
 | [],ds=>a.nx ds
 | x::xs,ds=>d.m _ _ _ _ λ f=>e.m _ _ _ ⟨qg8 d e a xs,a.rt,a.nx,qg8 d e a xs,a.xe⟩
theorem qD3{E:As}{en:VEnds}{F:γ->Prop}{H:Hp}{M:St}{ds:Ds}{A:List γ}{x:V}{y:D}{N:St->Hp->Prop}{b:Ds->Prop}(i:VG c X R g)(S:M3 c F H M ds A)(l:Lk c E F H A en)(r:M0 F H x y [])(h:∀ a M' H' F' A',b a->M3 c F' H' M' a A'->M2 F H A F' H' A'->N M' H')(q:g y ds λ ds1=>t { en with nx:=b,ct:=b,bk:=en.nx } ds1) :
   B5 c g x M H λ σ2 H2=>Bk c t { E with nx:=N,ct:=N,bk:=E.nx } σ2 H2:=by
 refine⟨F,ds,A,[],y,r,S,S.ok,i.m _ _ _ _ (λ ds1 q σ1 H1 F1 A1 S1 d=>?_) q⟩;have e:=l.step d;exact⟨F1,ds1,A1,{ en with nx:=b,ct:=b,bk:=en.nx },S1,⟨λ a M' H' F' A' q S' f=>h a M' H' F' A' q S' (M2.trans d f),e.rt,e.nx,λ a M' H' F' A' q S' f=>h a M' H' F' A' q S' (M2.trans d f),e.xe⟩,q⟩
noncomputable def D.lstOf:D->Option Ds
 | .l _ ys=>some ys
 | _=>none
theorem qH7{d:D}{ys:Ds}(h:d.lstOf=some ys):∃ z,d=.l z ys:=by
 cases d with
 | l z a=>cases h;grind
 | _=>cases h
theorem qx7:∀{ys:List D}{i:Nat}{y:D},D.imms ys=true->ys[i]? = some y->y.imm=true
 | [],i,y,_,h=>by simp at h
 | d::r,0,y,hm,h=>by
   have:d=y:=by simpa using h
   subst this;exact(zAr.mp hm).1
 | d::r,i+1,y,hm,h=>qx7 (zAr.mp hm).2 (by simpa using h)
theorem ql3{xs:List α}{x:α}(h:xs[i]? = some x):xs.drop i=x::xs.drop (i+1):=by
 obtain⟨a,rfl⟩:=zAd.mp h;exact List.drop_eq_getElem_cons a
noncomputable def Bb(lo:Int)(n:Nat):List D:=(Lc n).map λ(i:Nat)=>.int (lo+(i:Int))
theorem qv4(h:i < n):(Bb lo n)[i]? = some (.int (lo+(i:Int))):=by
 unfold Bb;rw[zB0,List.getElem?_range h];rfl
theorem qE0(lo:Int)(n:Nat):(Bb lo n).length=n:=by simp[Bb]
noncomputable def midI(i:Int):Bool:=decide (-(2 ^ 62)<=i)&&decide (i < 2 ^ 62)
theorem qw6{i:Int}(h:midI i=true):-(2 ^ 62)<=i/\i < 2 ^ 62:=by
 have:=zAr.mp h
 exact⟨zAt this.1,zAt this.2⟩
theorem qQ5{E:As}{en:VEnds}{F:γ->Prop}{H:Hp}{M:St}{ds:Ds}{A:List γ}(d:VG c X R g)(S:M3 c F H M ds A)(l:Lk c E F H A en)(q:Bo g t en (Bb lo n) ds) :
   ∃ W:Nat->Nat->St->Hp->Prop,(∃ m,W 0 m M H)/\∀ i m M H,W i m M H ->
     ((Itr lo n).stop i H/\E.nx M H)∨((Itr lo n).go i H/\∃ N:St->Hp->Prop,(∀ M' H',N M' H'->∃ b,b < m/\W (i+1) b M' H')/\∀ x H',(Itr lo n).yld i H x H'->B5 c g x M H' λ σ2 H2=>Bk c t { E with nx:=N,ct:=N,bk:=E.nx } σ2 H2):=by
 refine qC0 (λ i M H=>∃ F ds A,M3 c F H M ds A/\Lk c E F H A en/\Bo g t en ((Bb lo n).drop i) ds) ⟨F,ds,A,S,l,q⟩ ?_ ?_
 . rintro i M H e ⟨F,ds,A,S,l,q⟩
   rw[ql3 (qv4 e)] at q;exact qD3 d S l (.int _) (λ a M' H' F' A' f S' h=>⟨F',a,A',S',l.step h,f⟩) q
 rintro M H ⟨F,ds,A,S,l,q⟩;rw[Ld (by rw[qE0];exact zA6 _)] at q;exact l.nx _ _ _ _ _ q S M2.refl
noncomputable def one1:Ds->Option Int
 | [.int j]=>some j
 | _=>none
theorem qE3{xs:Ds}{j:Int}(h:one1 xs=some j):xs=[.int j]:=by
 unfold one1 at h;split at h
 . grind
 cases h
def qM2(tr:VTA)(g:VTG)(t:VTS):VTS:=λ e ds=>tr ds (λ xs ds1=>orF (one1 xs) λ j=>midI j=true/\Bo g t e (Bb 0 j.toNat) ds1) e.xe
theorem qS5{tr:VTA}{p cpos:Pos}(u:PassesOwn (J' X.prog X.w) X.A X.env X.xe)(d:X.mg "range" = none)(e:VOs c X [a] tr)(f:VG c X R g)(n:VSs c X O t)(i:Gl X "range" := by rfl)(x:Jj [a] X.env=[(false,eval a X.env)]:=by rfl)(y:X.calm=true:=by rfl) :
   VS c X (.For R (.Call (.Name "range" p) [a] [] cpos) O [] U) (qM2 tr g t):=by
 refine⟨PS.mono (qT3 u y (qB0 i d e.h x) f.h n.h) λ E M H k=>?_,λ o B r s=>e.m _ _ _ _ _ (λ C b=>qa6 λ j=>Mb (qg8 f n s _ b)) s.xe⟩;obtain⟨F,r,A,o,S,l,q⟩:=k;refine⟨F,r,A,o.xe,S,l.xe,e.m _ _ _ _ _ (λ C b q L H1 F1 T A1 D S1 G=>?_) (λ _ _ z=>z) q⟩;obtain⟨j,I,d,J⟩:=qa8.mp q;cases qE3 I;obtain⟨v,rfl,K⟩:=D.one_inv;cases K.int_inv
 have:=qw6 d
 exact⟨j,rfl,this.1,this.2,qQ5 f S1 (l.step G) J⟩
def tFzV(te:VT):VT:=λ ds Q xe=>te ds (λ d ds1=>Q d.fz ds1) xe
theorem Bt(h:VE c X e te):VE c X e (tFzV te):=by
 refine⟨PE.mono h.h λ M H Q a=>?_,λ i Q Q' j n o p=>h.m _ _ _ _ _ (λ d g=>o _ _) p⟩;obtain⟨F,i,A,j,S,x,q⟩:=a;refine⟨F,i,A,j,S,x,h.m _ _ _ _ _ (λ d g q v H1 F1 T A1 k S1 r s=>?_) (λ _ _ z=>z) q⟩;obtain⟨l,t⟩:=share (C:=A1) r (λ b=>by rw[zA0]) k.cells (λ b=>rfl);exact q v H1 _ [] A1 (k.fz (λ b f=>.inl f) λ b u=>.inr u) ⟨(S1.loc.keep (Kp.more λ b f=>Mv f) λ _ _ z=>z),l,S1.len,S1.ag⟩ l (s.trans t)
end
section
variable{c:Vc}{X:Cx}{a b e J o:Kt}{g:VTG}{t:VTS}{te:VT}{F:γ->Prop}{H:Hp}{C:St}{ds G:Ds}{A B:List γ}{E:As}{I:VEnds}
structure Held(F:γ->Prop)(H:Hp)(a:γ)(vs:List V)(z:Bool)(ys:Ds)(T A:List γ):Prop where
 r:M0 F H (.ref a) (.l z ys) T
 h:H a=some (.l vs)
 o:Ok F H (T++A)
theorem Held.step{ys:Ds}{T:List γ}{a:γ}{F':γ->Prop}{H':Hp}{e:Ds}{A':List γ}(h:Held F H a vs z ys T A)(S:M3 c F H C ds A)(S':M3 c F' H' C' e A')(s':M2 F H A F' H' A'):Held F' H' a vs z ys T A':=by
 obtain⟨r,g,o⟩:=h;have d:=s'.kp S.ok S.loc.cells;have i:∀ b∈T,¬ (A.count b≠0):=λ b j k=>by
   have:=o.sep b
   rw[zA0] at this
   have:=qb1.mp j
   lia
 refine⟨r.keep d i,?_,(s'.frame o r.cells S'.ok).1⟩;rcases qU1 r with w | f
 . exact d.fr _ _ g (i _ w)
 exact d.fr _ _ g λ w=>d.wf _ w f
theorem Held.get{ys:Ds}{T:List γ}{a:γ}{x:V}(h:Held F H a vs z ys T A)(f:D.imms ys=true)(g:vs[i]? = some x):∃ y,ys[i]? = some y/\M0 F H x y []:=by
 obtain⟨l,j,Ael',k,b,c,_⟩:=h.r.lst_inv;cases k
 have:=h.h
 rw[b] at this;cases this;obtain⟨y,B,d,e⟩:=c.getV g
 have:=e.imm (qx7 f d)
 subst this;exact⟨y,d,e⟩
theorem Held.len{ys:Ds}{T:List γ}{a:γ}(h:Held F H a vs z ys T A):vs.length=ys.length:=by
 obtain⟨f,d,Ael',e,b,c,_⟩:=h.r.lst_inv;cases e
 have:=h.h
 rw[b] at this;cases this;exact c.len
noncomputable def enD(ys:Ds):List D:=ys.zipIdx.map λ p=>.q [.int (p.2:Int),p.1]
theorem qW7{ys:Ds}{y:D}(h:ys[i]? = some y):(enD ys)[i]? = some (.q [.int (i:Int),y]):=by
 unfold enD;rw[zB0,List.getElem?_zipIdx,h];simp
theorem qW6(ys:Ds):(enD ys).length=ys.length:=by simp[enD]
theorem qm8{K:Mf}{ys:Ds}{T:List γ}{a:γ}(o:VG c X J g)(S:M3 c F H C ds A)(l:Lk c E F H A I)(b:Held F H a vs z ys T A)(p:D.imms ys=true)(q:Bo g t I (enD ys) ds) :
   ∃ W:Nat->Nat->St->Hp->Prop,(∃ m,W 0 m C H)/\∀ i m C H,W i m C H ->
     ((Ite K a).stop i H/\E.nx C H)∨((Ite K a).go i H/\∃ N:St->Hp->Prop,(∀ C' H',N C' H'->∃ j,j < m/\W (i+1) j C' H')/\∀ x H',(Ite K a).yld i H x H'->B5 c g x C H' λ σ2 H2=>Bk c t { E with nx:=N,ct:=N,bk:=E.nx } σ2 H2):=by
 refine qJ2 (xs:=vs) (λ i C H=>∃ F ds A,M3 c F H C ds A/\Lk c E F H A I/\Held F H a vs z ys T A/\Bo g t I ((enD ys).drop i) ds) ⟨F,ds,A,S,l,b,q⟩ ?_ ?_ ?_
 . rintro i C H _ ⟨F,ds,A,S,l,b,q⟩
   exact .inl (.inl b.h)
 . rintro i x C H B r ⟨F,ds,A,S,l,b,q⟩ d
   obtain⟨y,s,v⟩:=b.get p r;rw[ql3 (qW7 s)] at q;have e:=Same.new (u:=.q [.int (i:Int),x]) d;have S1:=S.same e;have k:=l.step (M2.same e);exact qD3 o S1 k (qE5 d (.cons (.int _) (.cons v .nil))) (λ f C' H' F' A' w S' n=>⟨F',f,A',S',k.step n,(b.step S S1 (M2.same e)).step S1 S' n,w⟩) q
 rintro C H ⟨F,ds,A,S,l,b,q⟩;rw[Ld (by rw[qW6,b.len];exact zA6 _)] at q;exact l.nx _ _ _ _ _ q S M2.refl
def sForE(te:VT)(g:VTG)(t:VTS):VTS:=λ e ds=>te ds (λ d G=>orF d.lstOf λ ys=>D.imms ys=true/\Bo g t e (enD ys) G) e.xe
end
noncomputable def fin(W:Nat->Bool):Nat->Ds->Ds->Ds
 | k,d::r,d'::r'=>(if W k=true then d' else d)::fin W (k+1) r r'
 | _,_,_=>[]
noncomputable def Iq(W:Nat->Bool):Nat->Ds->Bool
 | _,[]=>true
 | k,d::r=>(W k||d.imm)&&Iq W (k+1) r
def qs9(W:Nat->Bool)(ds:Ds)(Q:DK)(xe:XKd):VEnds where
 nx ds':=Q .non (fin W 0 ds ds')
 rt d ds':=Q d (fin W 0 ds ds')
 bk _:=False
 ct _:=False
 xe x ds':=xe x (fin W 0 ds ds')
section
variable{F F':γ->Prop}{H H':Hp}
theorem qQ6{W:Nat->Bool}{Wr:γ->Prop}(q:Kp F H Wr F' H'):∀{vs:List V}{ds:Ds}{A:List γ}{k:Nat}{w':List (Option V)}{a:Ds}{A':List γ},Mw F H vs ds A->Iq W k ds=true->Locs F' H' w' a A'->vs.length<=w'.length->(∀ i,i < vs.length->W (k+i)=true->w'[i]? = (vs.map some)[i]?) ->
   ∃ A2,Mw F' H' vs (fin W k ds a) A2/\∀ b,A2.count b<=A'.count b:=by
 intro vs
 induction vs with
 | nil =>
   intro ds A k w' a A' r g L n l;cases r;exact⟨[],by cases a<;>exact .nil,λ b=>by simp⟩
 | cons v vs s =>
   intro ds A k w' a A' r g L n l;cases r with
   | @cons _ d B _ ds B2 r1 t =>
     have g:=zAr.mp g;have step:∀{σ2:List (Option V)}{c:Ds}{A2:List γ}(o:Option V),w'=o::σ2->Locs F' H' σ2 c A2->∃ A3,Mw F' H' vs (fin W (k+1) ds c) A3/\∀ b,A3.count b<=A2.count b:=λ{σ2 c A2} o e L2=>by
       subst e;refine s t g.2 L2 (by simpa using n) λ i j f=>?_
       have:=l (i+1) (by simpa using j) (by grind)
       simpa using this
     cases L with
     | nil=>simp at n
     | no L2 =>
       obtain⟨A3,m,q2⟩:=step none rfl L2;by_cases f:W k=true
       . have:=l 0 (by simp) (by simpa using f)
         simp at this
       have j:d.imm=true:=by
         rcases Bool.or_eq_true_iff.mp g.1 with h | h
         . exact absurd h f
         exact h
       have:=r1.imm j
       subst this;refine⟨[]++A3,?_,λ b=>by simpa using q2 b⟩;show Mw F' H' (v::vs) ((if W k=true then _ else d)::_) _;rw[if_neg f];exact .cons (r1.keep q λ b p=>by cases p) m
     | @so v' d' B' σ2 c A2 rr L2 =>
       obtain⟨A3,m,q2⟩:=step (some v') rfl L2;by_cases f:W k=true
       . have:=l 0 (by simp) (by simpa using f)
         simp at this;subst this;refine⟨B'++A3,?_,λ b=>by simp only[zA0];have:=q2 b;lia⟩;show Mw F' H' (v'::vs) ((if W k=true then d' else d)::_) _;rw[if_pos f];exact .cons rr m
       have j:d.imm=true:=by
         rcases Bool.or_eq_true_iff.mp g.1 with h | h
         . exact absurd h f
         exact h
       have:=r1.imm j
       subst this;refine⟨[]++A3,?_,λ b=>by simp only[Lu,zA0];have:=q2 b;lia⟩;show Mw F' H' (v::vs) ((if W k=true then d' else d)::_) _;rw[if_neg f];exact .cons (r1.keep q λ b p=>by cases p) m
theorem Mw.locs{ds:Ds}{A:List γ}(r:Mw F H vs ds A):Locs F H (vs.map some) ds A:=by
 induction vs generalizing ds A with
 | nil=>cases r;exact .nil
 | cons v vs a=>cases r with | cons h t=>exact .so h (a t)
theorem qg7:∀ n:Nat,Locs F H (Kx n none) (Kx n .u) []
 | 0=>.nil
 | n+1=>.no (qg7 n)
end
structure FunE(K:Mf)(x qual:Str)(st:Ku)(f:γ)(fd:δ):Prop where
 ex:∃(oc:V')(od:Option γ)(dV kV doc pm:V')(an:Option γ)(cdv ct:V')(osl:Array (Option V')),
   fd=W.fnOf x qual (qc4 st) (qb5 st) (qa1 st) dV kV doc pm an cdv ct/\K.lookup f=some ⟨oc,od,.func fd,osl⟩/\W.codeIn K cdv qual=true
theorem FunE.of{K:Mf}{x qual:Str}{st:Ku}{f:γ}{fd:δ}(F:Fun K x qual st f fd):FunE K x qual st f fd :=
 by obtain⟨g,h,kV,a,i,j,b,k,c,e,l,d⟩:=F.ex;exact⟨⟨g,h,.none,kV,a,i,j,b,k,c,e,l,d⟩⟩
theorem FunE.okX{w:Ks}{K:Mf}{x qual:Str}{st:Ku}{f:γ}{fd:δ}{ps:List Str}{k:Nat}{sp:Sp}(F:FunE K x qual st f fd)(S:qb2 N ps (qa1 st))(len:∀ vs H Q E,sp vs H Q E->vs.length=ps.length)(hbody:∀(a:V')(A:Kr)(outer:List Env)(s:Sh)(H:Hp)(vs:List V)(Q:VK)(E:XK),M4 cm k (A.deeper (PyProof.Rows.envOfC qual (qa1 st) s.heap.objs.size f a))->sp vs H Q E ->
     ∃ t,PSs (Ay cm (CX1 P w) P w K mg base N qual (qa1 st) f a A outer s H E) (qb5 st) t/\t { nx:=λ _ H'=>Q .non H',rt:=Q } (L2.start N vs) H):Al cm P w K mg base (CX1 P w) (k+1) f fd ps sp:=by
 obtain⟨i,j,l,kV,d,m,n,a,o,e,rfl,g,b⟩:=F.ex;exact Hr g b S len λ A outer s H vs Q E h c=>hbody a A outer s H vs Q E h c
theorem VFn.mkE{w:Ks}{K:Mf}{x qual:Str}{st:Ku}{f:γ}{fd:δ}{ps:List Str}{k:Nat}{s:VSp}(Fu:FunE K x qual st f fd)(Sc:qb2 N ps (qa1 st))(W:Nat->Bool)(G:A9 s)(j:∀ ds Q xe,s ds Q xe->ds.length=ps.length)(n:∀ ds Q xe,s ds Q xe->Iq W 0 ds=true)(hbody:∀(g:V')(A:Kr)(outer:List Env)(B:Sh)(H:Hp)(E:XK)(av:List (Option V)),M4 cm k (A.deeper (PyProof.Rows.envOfC qual (qa1 st) B.heap.objs.size f g)) ->
     ∃ t,VSs ⟨λ _=>E,W,av,[]⟩ (Ay cm (CX1 P w) P w K mg base N qual (qa1 st) f g A outer B H E) (qb5 st) t/\∀ ds Q xe,s ds Q xe->t (qs9 W ds Q xe) (ds++Kx (N.length - ds.length) .u)) :
   VFnB cm P w K mg base (k+1) f fd ps s:=by
 refine⟨Fu.okX Sc (λ l H Q E ⟨F,ds,A,r,o,h⟩=>by rw[r.len];exact j _ _ _ h) λ g Ar outer B H l Q E I C=>?_,G⟩;obtain⟨F,ds,A,r,o,h⟩:=C;obtain⟨t,J,L⟩:=hbody g Ar outer B H E (L2.start N l) I;have X:=j _ _ _ h;have M:=n _ _ _ h;have Y:ps.length<=N.length:=by have:=congrArg Lm Sc.pre;rw[La] at this;lia
 have L0:Locs F H (L2.start N l++[]) (ds++Kx (N.length - ds.length) .u) A:=by
   rw[zAh];unfold L2.start;rw[r.len]
   have:=r.locs.append (qg7 (F:=F) (H:=H) (N.length - ds.length))
   rwa[zAh] at this
 have S0:M3 ⟨λ _=>E,W,L2.start N l,[]⟩ F H (L2.start N l) (ds++Kx (N.length - ds.length) .u) A:=⟨L0,o,by simp,λ i _=>by simp⟩
 have m:∀{Z':St}{H':Hp}{F':γ->Prop}{a:Ds}{A' A2:List γ},M3 ⟨λ _=>E,W,L2.start N l,[]⟩ F' H' Z' a A'->M2 F H A F' H' A2->∃ A3,Mw F' H' l (fin W 0 ds a) A3/\∀ b,A3.count b<=A'.count b:=λ{Z' H' F' a A' A2} S' c=>by
   have hlen':=S'.len;simp only[zAh] at hlen';refine qQ6 (c.kp o r.cells) r M (by have:=S'.loc;simpa using this) ?_ λ i D O=>?_
   . rw[<- hlen'];unfold L2.start;simp
   have:=S'.ag i (by simpa using O)
   simp only[zAh] at this;rw[this];show (L2.start N l)[i]? = _;unfold L2.start;rw[zA9 (by simpa using D)]
 refine⟨_,J.h,F,_,A,qs9 W ds _ _,S0,⟨?_,?_,λ _ _ _ _ _ z=>Mt z,λ _ _ _ _ _ z=>Mt z,?_⟩,L _ _ _ h⟩
 . intro a Z' H' F' A' q S' c
   obtain⟨A3,p,q2⟩:=m S' c;have u:∀ b,([]++A3).count b<=A'.count b:=λ b=>by simpa using q2 b
   exact q .non H' F' [] A3 .non p (S'.ok.count u) (c.count u)
 . intro d a v Z' H' F' T A' q R S' S c
   obtain⟨A3,p,q2⟩:=m S' c;have u:∀ b,(T++A3).count b<=(T++A').count b:=λ b=>by simp only[zA0];have:=q2 b;lia
   exact q v H' F' T A3 R p (S.count u) (c.count u)
 intro y a Z' e H' F' A' q U S' c;obtain⟨A3,p,q2⟩:=m S' c;exact q e H' F' A3 U p (S'.ok.count q2) (c.count q2)
theorem VFn.mk'{w:Ks}{K:Mf}{x qual:Str}{st:Ku}{f:γ}{fd:δ}{ps:List Str}{k:Nat}{s:VSp}(Fu:Fun K x qual st f fd)(Sc:qb2 N ps (qa1 st))(W:Nat->Bool)(e:A9 s)(a:∀ ds Q xe,s ds Q xe->ds.length=ps.length)(b:∀ ds Q xe,s ds Q xe->Iq W 0 ds=true)(hbody:∀(c:V')(A:Kr)(outer:List Env)(d:Sh)(H:Hp)(E:XK)(av:List (Option V)),M4 cm k (A.deeper (PyProof.Rows.envOfC qual (qa1 st) d.heap.objs.size f c)) ->
     ∃ t,VSs ⟨λ _=>E,W,av,[]⟩ (Ay cm (CX1 P w) P w K mg base N qual (qa1 st) f c A outer d H E) (qb5 st) t/\∀ ds Q xe,s ds Q xe->t (qs9 W ds Q xe) (ds++Kx (N.length - ds.length) .u)) :
   VFnB cm P w K mg base (k+1) f fd ps s:=VFn.mkE (FunE.of Fu) Sc W e a b hbody
noncomputable def A5:List (Option Nat)->Ds->Ds×Ds
 | [],ds=>([],ds)
 | none::r,ds=>(.u::(A5 r ds).1,(A5 r ds).2)
 | some j::r,ds=>((ds[j]?).getD .u::(A5 r (ds.set j .u)).1,(A5 r (ds.set j .u)).2)
noncomputable def Hg:List (Option Nat)->Ds->Ds->Ds
 | none::r,_::i,o=>Hg r i o
 | some j::r,d::i,o=>Hg r i (o.set j d)
 | _,_,o=>o
def Bu(g:VTG)(qf:VTT)(te:VT)(K:Ds->Ds->Prop):List D->Ds->Ds->Prop
 | [],acc,a=>K acc a
 | x::xs,acc,a=>g x a λ ι1=>qf ι1 (λ b ι2=>if b=true then te ι2 (λ d ι3=>acc.length < big/\Bu g qf te K xs (acc++[d]) ι3) (λ _ _=>False) else Bu g qf te K xs acc ι2) (λ _ _=>False)
noncomputable def capW(src:List (Option Nat)):Nat->Bool:=λ i=>match src[i]? with | some (some _)=>true | _=>false
abbrev cIn(src:List (Option Nat))(av:List (Option V)):Vc:=⟨λ _ _ _ _=>False,capW src,av,[]⟩
structure VF(c:Vc)(X:Cx)(ifs:List Kt)(t:VTT):Prop where
 h:PFs X ifs (Bi c t)
 m:∀ ds (Q Q':Bool->Ds->Prop) (xe xe':XKd),(∀ d ds',Q d ds'->Q' d ds')->(∀ x ds',xe x ds'->xe' x ds')->t ds Q xe->t ds Q' xe'
def qYes:VTT:=λ ds Q _=>Q true ds
theorem vfnil{c:Vc}{X:Cx}:VF c X [] qYes:=⟨λ Ko s f H Q I ⟨F,a,A,b,S,x,q⟩=>qN8 Ko s f H Q I (q H F A S M2.refl),λ a Q Q' b d e _=>e _ _⟩
section
variable{F F':γ->Prop}{H H':Hp}
theorem qu2:∀{src:List (Option Nat)}{K a:List (Option V)}{ds:Ds}{A:List γ},Locs F H (K++a) ds A->(∀ j,some j∈src->j < K.length) ->
   ∃ Ai Ao,Locs F H (Ax K src) (A5 src ds).1 Ai/\Locs F H (K++a) (A5 src ds).2 Ao/\∀ b,A.count b=Ai.count b+Ao.count b
 | [],K,a,ds,A,L,_=>⟨[],A,.nil,L,λ b=>by simp⟩
 | none::r,K,a,ds,A,L,h=>by
   obtain⟨Ai,Ao,f,q2,g⟩:=qu2 L λ j c=>h j (zA5 _ c)
   exact⟨Ai,Ao,.no f,q2,g⟩
 | some j::r,K,a,ds,A,L,h=>by
   have c:=h j zAe;have t:=L.len;rw[zAk] at t;obtain⟨C,e⟩:∃ d,ds[j]? = some d:=⟨_,List.getElem?_eq_getElem (by grind -abstractProof)⟩
   obtain⟨σ1,o,σ2,i,k,A1,B,A2,m,u,w,x,y,n,p,q⟩:=L.split e;have s:(K++a)[j]? = some o:=by rw[m];exact qh8 w
   rw[zA9 c] at s;have z:ds.set j .u=i++.u::k:=by
     have:=congrArg (λ l=>l.set j .u) u
     rw[this,qe7 x]
   have L':Locs F H (K++a) (ds.set j .u) (A1++A2):=by
     rw[m,z];cases p with
     | no=>exact n.append (.no q)
     | @so v _ _ _=>exact n.append (.so (.u v) q)
   obtain⟨Ai,Ao,f,q2,g⟩:=qu2 L' λ j c=>h j (zA5 _ c)
   refine⟨B++Ai,Ao,?_,q2,λ b=>by rw[y];have:=g b;simp only[zA0] at *;grind -abstractProof⟩;show Locs F H (((K[j]?).getD none)::Ax K r) ((ds[j]?).getD .u::_) _;rw[s,e];exact Locs.cons p f
theorem qm7:∀{src:List (Option Nat)}{K c K':List (Option V)}{M o:Ds}{Ai Ao:List γ},Locs F H K' M Ai->Locs F H (K++c) o Ao->(∀ j,some j∈src->j < K.length)->(∀(i j:Nat),src[i]? = some (some j)->K'[i]? = some ((K[j]?).getD none))->K'.length=src.length ->
   ∃ A',Locs F H (K++c) (Hg src M o) A'/\∀ b,A'.count b<=Ai.count b+Ao.count b
 | [],K,c,K',M,o,Ai,Ao,L,Lo,_,_,_=>⟨Ao,by cases M<;>exact Lo,λ b=>by lia⟩
 | none::r,K,c,K',M,o,Ai,Ao,L,Lo,h,k,f=>by
   cases L with
   | nil=>simp at f
   | no L2 =>
     obtain⟨A',g,q2⟩:=qm7 L2 Lo (λ j a=>h j (zA5 _ a)) (λ i j e=>by simpa using k (i+1) j (by simpa using e)) (by simpa using f);exact⟨A',g,q2⟩
   | so w L2 =>
     obtain⟨A',g,q2⟩:=qm7 L2 Lo (λ j a=>h j (zA5 _ a)) (λ i j e=>by simpa using k (i+1) j (by simpa using e)) (by simpa using f);exact⟨A',g,λ b=>by rw[zA0];have:=q2 b;lia⟩
 | some j::r,K,c,K',M,o,Ai,Ao,L,Lo,h,k,f=>by
   have a:=h j zAe;have m:=Lo.len;rw[zAk] at m;obtain⟨I,n⟩:∃ d,o[j]? = some d:=⟨_,List.getElem?_eq_getElem (by lia)⟩
   obtain⟨σ1,p,σ2,q,s,A1,B,A2,t,D,E,G,x,y,J,z⟩:=Lo.split n;have A:(K++c)[j]? = some p:=by rw[t];exact qh8 E
   rw[zA9 a] at A;have u:=k 0 j rfl;rw[A] at u;have C:∀ d,o.set j d=q++d::s:=λ d=>by
     have:=congrArg (λ l=>l.set j d) D
     rw[this,qe7 G]
   cases L with
   | nil=>simp at f
   | no L2 =>
     have:p=none:=by simpa using u.symm
     subst this;have Lo':Locs F H (K++c) (o.set j .u) (A1++A2):=by rw[t,C];exact y.append (.no z)
     obtain⟨A',g,q2⟩:=qm7 L2 Lo' (λ j a=>h j (zA5 _ a)) (λ i j e=>by simpa using k (i+1) j (by simpa using e)) (by simpa using f);exact⟨A',g,λ b=>by rw[x];have:=q2 b;simp only[zA0] at *;lia⟩
   | @so v d Bv _ _ _ w L2 =>
     have:p=some v:=by simpa using u.symm
     subst this;have Lo':Locs F H (K++c) (o.set j d) (A1++(Bv++A2)):=by rw[t,C];exact y.append (.so w z)
     obtain⟨A',g,q2⟩:=qm7 L2 Lo' (λ j a=>h j (zA5 _ a)) (λ i j e=>by simpa using k (i+1) j (by simpa using e)) (by simpa using f);exact⟨A',g,λ b=>by rw[x];have:=q2 b;simp only[zA0] at *;lia⟩
theorem qG5(K:St)(src:List (Option Nat)):(Ax K src).length=src.length:=by simp[Ax]
theorem qG6{K:St}{src:List (Option Nat)}(h:src[i]? = some (some j)):(Ax K src)[i]? = some ((K[j]?).getD none):=by
 unfold Ax;rw[zB0,h];rfl
structure Jf(Pp:(γ->Prop)->Hp->Prop)(T:List γ):Prop where
 keep:∀{F F':γ->Prop}{H H':Hp}{W:γ->Prop},Kp F H W F' H'->(∀ b∈T,¬ W b)->Pp F H->Pp F' H'
 cells:∀{F:γ->Prop}{H:Hp},Pp F H->∀ b∈T,∃ o,H b=some o/\Bd o=true
end
section
variable{c:Vc}{F F':γ->Prop}{H H':Hp}{K:(γ->Prop)->Hp->Prop}{G:List (Option V)}{o:Ds}{I:γ}{J:Ds}{T A A' M:List γ}{E:St}{ds:Ds}
noncomputable def Tot(B T Ao A:List γ):List γ:=B++(T++(Ao++A))
theorem qk5(st:Jf K T){B:List γ}(r:M0 F H (.ref I) (.l false J) B)(g:K F H)(L:Locs F H G o Ao)(h:Ok F H (Tot B T Ao A))(S:M3 c F H E ds A)(s:M2 F H A F' H' A')(o':Ok F' H' A') :
   M0 F' H' (.ref I) (.l false J) B/\K F' H'/\Locs F' H' G o Ao/\Ok F' H' (Tot B T Ao A')/\M2 F H (Tot B T Ao A) F' H' (Tot B T Ao A'):=by
 unfold Tot at *
 have f:=s.kp S.ok S.loc.cells;have i:∀ b,(B++(T++(Ao++A))).count b=((B++(T++Ao))++A).count b:=λ b=>by simp only[zA0];grind -abstractProof
 have d:∀ b,b∈B∨b∈T∨b∈Ao->¬ (A.count b≠0):=λ b a j=>by
   have:=h.sep b
   grind
 have k:∀ b∈B++(T++Ao),∃ o,H b=some o/\Bd o=true:=λ b a=>by
   rcases zAf.mp a with a | a
   . exact r.cells b a
   rcases zAf.mp a with a | a
   . exact st.cells g b a
   exact L.cells b a
 obtain⟨l,m⟩:=s.frame (h.count λ b=>by rw[i];exact zA6 _) k o';have e:∀ b,(B++(T++(Ao++A'))).count b=((B++(T++Ao))++A').count b:=λ b=>by simp only[zA0];grind -abstractProof
 exact⟨r.keep f λ b a=>d b (.inl a),st.keep f (λ b a=>d b (.inr (.inl a))) g,L.keep f λ b a=>d b (.inr (.inr a)),l.count λ b=>by rw[e];exact zA6 _,(m.pre λ b=>by rw[i]).count λ b=>by rw[e];exact zA6 _⟩
theorem qH3(st:Jf K T){B:List γ}{d:D}(r:M0 F H (.ref I) (.l false J) B)(p:K F H)(L:Locs F H G o Ao)(S:M3 c F H E ds A)(q:M0 F H v d M)(h:Ok F H (Tot B T Ao (M++A))) :
   ∃ vs B',H I=some (.l vs)/\vs.length=J.length/\M0 F (upd H I (.l (vs++[v]))) (.ref I) (.l false (J++[d])) B'/\K F (upd H I (.l (vs++[v])))/\Locs F (upd H I (.l (vs++[v]))) G o Ao/\M3 c F (upd H I (.l (vs++[v]))) E ds A/\Ok F (upd H I (.l (vs++[v]))) (Tot B' T Ao A)/\M2 F H (Tot B T Ao (M++A)) F (upd H I (.l (vs++[v]))) (Tot B' T Ao A):=by
 unfold Tot at *
 obtain⟨a,vs,Ael,s,j,l,rfl⟩:=qd1 r;cases s;have t:=h.sep I;simp only[zA0,zAg,zAs,if_true] at t;have m:¬ F I:=λ f=>by have:=h.fro I f;simp only[zA0,zAg,zAs,if_true] at this;lia
 have k:=qt3 (o':=.l (vs++[v])) j rfl m;have i:∀ X:List γ,X.count I=0->∀ b∈X,¬ b=I:=λ X y b C w=>by subst w;exact(qb1.mp C) y
 have g:∀ b,(I::(Ael++(M++[]))++(T++(Ao++A))).count b<=(I::Ael++(T++(Ao++(M++A)))).count b:=λ b=>by simp only[zA0,zAg,List.count_nil];lia
 have n:∀ b,F b->∃ o,upd H I (.l (vs++[v])) b=some o:=λ b f=>by
   obtain⟨x,e⟩:=h.ex b f;exact⟨x,by rw[qa4 (show b≠I from λ w=>m (w ▸ f))];exact e⟩
 refine⟨vs,I::(Ael++(M++[])),j,l.len,?_,st.keep k (i T (by lia)) p,L.keep k (i Ao (by lia)),⟨S.loc.keep k (i A (by lia)),⟨S.ok.sep,S.ok.fro,n⟩,S.len,S.ag⟩,⟨λ b=>zAb (g b) (h.sep b),λ b f=>by have:=h.fro b f;have:=g b;lia,n⟩,λ b u e z=>?_,λ b u e z=>by have:=g b;lia,λ _ f=>f,λ _ _ _ _ f=>f⟩
 . exact .l qa3 ((l.append (.cons q .nil)).keep k (i _ (by grind)))
 rw[qa4 λ w=>?_]
 . exact e
 grind
end
def qx2(src:List (Option Nat))(g:VTG):TG:=λ v a H Q=>∃ av,B5 (cIn src av) g v a H Q
def qx1(src:List (Option Nat))(q:VTT):TT:=λ a H Q=>∃ av,Bi (cIn src av) q a H Q
def Hh(src:List (Option Nat))(t:VT):TE:=λ a H Q=>∃ av,Be (cIn src av) t a H Q
structure Blk(X:Cx)(NY:List Str)(sc:Scope)(src:List (Option Nat))(tg:Kt)(ifs:List Kt)(elt:Kt)(g:VTG)(qf:VTT)(te:VT):Prop where
 g:∀ av C s0 H0 ex,VG (cIn src av) (qc7 X NY sc C s0 H0 ex) tg g
 f:∀ av C s0 H0 ex,VF (cIn src av) (qc7 X NY sc C s0 H0 ex) ifs qf
 e:∀ av C s0 H0 ex,VE (cIn src av) (qc7 X NY sc C s0 H0 ex) elt te
 lt:∀ Ko a H s,M1 X Ko a H s->∀ j,some j∈src->j < a.length
section
variable{c:Vc}{X:Cx}{NY:List Str}{sc:Scope}{src:List (Option Nat)}{tg elt e:Kt}{ifs:List Kt}{g:VTG}{qf:VTT}{te:VT}
theorem Blk.pg(b:Blk X NY sc src tg ifs elt g qf te):∀ C a H0 ex,PG (qc7 X NY sc C a H0 ex) tg (qx2 src g):=λ C a H0 ex Ko s Z H v u Q I r ⟨c,q⟩=>(b.g c C a H0 ex).h Ko s Z H v u Q I r q
theorem Blk.pf(b:Blk X NY sc src tg ifs elt g qf te):∀ C a H0 ex,PFs (qc7 X NY sc C a H0 ex) ifs (qx1 src qf):=λ C a H0 ex Ko s Z H Q I ⟨c,q⟩=>(b.f c C a H0 ex).h Ko s Z H Q I q
theorem Blk.pe(b:Blk X NY sc src tg ifs elt g qf te):∀ C a H0 ex,PE (qc7 X NY sc C a H0 ex) elt (Hh src te):=λ C a H0 ex Ko s Z H Q I ⟨c,q⟩=>(b.e c C a H0 ex).h Ko s Z H Q I q
theorem Blk.gm(b:Blk X NY sc src tg ifs elt g qf te):∀ d ds (Q Q':Ds->Prop),(∀ a,Q a->Q' a)->g d ds Q->g d ds Q':=(b.g [] 0 {} (λ _=>none) []).m
theorem Blk.fm(b:Blk X NY sc src tg ifs elt g qf te):∀ ds (Q Q':Bool->Ds->Prop) (xe c:XKd),(∀ d a,Q d a->Q' d a)->(∀ x a,xe x a->c x a)->qf ds Q xe->qf ds Q' c:=(b.f [] 0 {} (λ _=>none) []).m
theorem Blk.em(b:Blk X NY sc src tg ifs elt g qf te):∀ ds (Q Q':DK) (xe c:XKd),(∀ d a,Q d a->Q' d a)->(∀ x a,xe x a->c x a)->te ds Q xe->te ds Q' c:=(b.e [] 0 {} (λ _=>none) []).m
theorem ql5(b:Blk X NY sc src tg ifs elt g qf te){K K':Ds->Ds->Prop}(h:∀ acc ι,K acc ι->K' acc ι):∀(xs:List D) acc ι,Bu g qf te K xs acc ι->Bu g qf te K' xs acc ι
 | [],acc,ι=>h acc ι
 | x::xs,acc,ι=>b.gm _ _ _ _ λ ι1=>b.fm _ _ _ _ _ (λ k ι2=>qx8 (b.em _ _ _ _ _ (λ d ι3=>Mb (ql5 b h xs _ _)) λ _ _ z=>z) (ql5 b h xs _ _)) λ _ _ z=>z
variable{F F0:γ->Prop}{H H0:Hp}{Pp:(γ->Prop)->Hp->Prop}{τ:List (Option V)}{o0:Ds}{Dd:γ}{acc:Ds}{T A A0:List γ}{Z:St}{ds ι:Ds}{av:List (Option V)}{K:Ds->Ds->Prop}
def Mid(src:List (Option Nat))(av:List (Option V))(Pp:(γ->Prop)->Hp->Prop)(T:List γ)(τ:List (Option V))(o0:Ds)(Dd:γ)(F0:γ->Prop)(H0:Hp)(A0:List γ)(g:VTG)(qf:VTT)(te:VT)(K:Ds->Ds->Prop)(xs:List D)(Z:St)(H:Hp):Prop :=
 ∃ F ι A acc B Ao,M3 (cIn src av) F H Z ι A/\M0 F H (.ref Dd) (.l false acc) B/\Pp F H/\Locs F H τ o0 Ao/\Ok F H (Tot B T Ao A)/\M2 F0 H0 A0 F H (Tot B T Ao A)/\Bu g qf te K xs acc ι
theorem qC8(b:Blk X NY sc src tg ifs elt g qf te)(st:Jf Pp T){B:List γ}{x:V}{y:D}{xs:List D}(S:M3 (cIn src av) F H Z ι A)(r:M0 F H (.ref Dd) (.l false acc) B)(t:Pp F H)(L:Locs F H τ o0 Ao)(u:Ok F H (Tot B T Ao A))(p:M2 F0 H0 A0 F H (Tot B T Ao A))(w:M0 F H x y [])(q:Bu g qf te K (y::xs) acc ι) :
   qx2 src g x Z H λ σ2 H2=>qx1 src qf σ2 H2 λ h H3=>if h=true then Hh src te σ2 H3 λ v H4=>∃ ys,H4 Dd=some (.l ys)/\ys.length < Jk/\Mid src av Pp T τ o0 Dd F0 H0 A0 g qf te K xs σ2 (upd H4 Dd (.l (ys++[v]))) else Mid src av Pp T τ o0 Dd F0 H0 A0 g qf te K xs σ2 H3:=by
 have a:∀(F:γ->Prop)(H:Hp)(A:List γ),Xc (cIn src av) (λ _ _=>False) F H A:=λ F H A x C Z' e H' F' A' z=>z.elim
 refine⟨av,F,ι,A,[],y,w,S,S.ok,b.gm _ _ _ _ (λ ι1 q σ1 H1 F1 A1 S1 E=>?_) q⟩;obtain⟨G,i,L1,j,t1⟩:=qk5 st r t L u S (show M2 F H A F1 H1 A1 from E) S1.ok;refine⟨av,F1,ι1,A1,_,S1,a _ _ _,b.fm _ _ _ _ _ (λ k ι2 q H2 F2 A2 S2 I=>?_) (λ _ _ z=>z) q⟩;obtain⟨s,c,L2,f,t2⟩:=qk5 st G i L1 j S1 I S2.ok;cases k with
 | false =>
   rw[if_neg (by decide)] at q ⊢;exact⟨F2,ι2,A2,acc,B,Ao,S2,s,c,L2,f,(p.trans t1).trans t2,q⟩
 | true =>
   rw[if_pos rfl] at q ⊢;refine⟨av,F2,ι2,A2,_,S2,a _ _ _,b.em _ _ _ _ _ (λ d ι3 q v H3 F3 Tv A3 J S3 M N=>?_) (λ _ _ z=>z) q⟩;obtain⟨O,l,L3,m,P⟩:=qk5 st s c L2 f S2 N M;obtain⟨Q,B',R,U,W,n,L4,S4,o,Y⟩:=qH3 st O l L3 S3 J m;exact⟨Q,R,by rw[U];exact zA8 q.1 qd8,F3,ι3,A3,acc++[d],B',Ao,S4,W,n,L4,o,((p.trans t1).trans t2).trans (P.trans Y),q.2⟩
theorem qK1{xs:List D}(f:∀ j,some j∈src->j < Z.length)(S:M3 c F H Z ds A)(o:Ok F H (T++A))(m:Pp F H)(st:Jf Pp T)(h:H Dd=none)(q:Bu g qf te K xs [] (A5 src ds).1) :
   Mid src (Ax Z src) Pp T (Z++c.gv) (A5 src ds).2 Dd F H (T++A) g qf te K xs (Ax Z src) (upd H Dd (.l [])):=by
 obtain⟨Ai,Ao,p,q2,r⟩:=qu2 S.loc f;have a:=Same.new (u:=.l []) h;have k:=(qf2 h).ok o (λ b d=>by
   rcases zAf.mp d with d | d
   . exact st.cells m b d
   exact S.loc.cells b d) a
 have n:∀ b,(Tot [Dd] T Ao Ai).count b=([Dd]++(T++A)).count b:=λ b=>by unfold Tot;simp only[zA0,r];grind -abstractProof
 have e:=k.count λ b=>by rw[n];exact zA6 _
 have l:Ok F (upd H Dd (.l [])) Ai:=e.count λ b=>by unfold Tot;simp only[zA0];grind -abstractProof
 refine⟨F,_,Ai,[],[Dd],Ao,⟨by rw[zAh];exact p.same a,l,by simp,λ i _=>by simp⟩,.l qa3 .nil,st.keep (Kp.same a) (λ _ _=>id) m,q2.same a,e,((qf2 h).stp a).count λ b=>by rw[n];exact zA6 _,q⟩
theorem qK2{H':Hp}{Fz:γ->Prop}{Hz:Hp}{Az:List γ}(d:∀ j,some j∈src->j < Z.length)(S:M3 c Fz Hz Z ds Az)(m:Mid src (Ax Z src) Pp T (Z++c.gv) o0 Dd F0 H0 A0 g qf te (λ acc ι'=>∀ v H' F' B A',M0 F' H' v (.l false acc) B->M3 c F' H' Z (Hg src ι' o0) A'->Pp F' H'->Ok F' H' (B++(T++A'))->M2 F0 H0 A0 F' H' (B++(T++A'))->Q v H') [] Z' H'):Q (.ref Dd) H':=by
 obtain⟨F,ι,A,acc,B,Ao,S1,r,k,L,l,s,q⟩:=m;have a:=S1.len;simp only[zAh] at a;obtain⟨A',n,o⟩:=qm7 (by have:=S1.loc;simpa using this) L d (λ i j e=>by
   have:=S1.ag i (by show capW src i=true;unfold capW;rw[e])
   simp only[zAh] at this;rw[this];exact qG6 e) (by rw[<- a,qG5])
 have f:∀ b,(B++(T++A')).count b<=(Tot B T Ao A).count b:=λ b=>by unfold Tot;simp only[zA0];have:=o b;lia
 have h:=l.count f;exact q (.ref Dd) H' F B A' r ⟨n,h.right.right,S.len,S.ag⟩ k h (s.count f)
theorem qp1:Jf (λ _ _=>True) [] where
 keep:=λ _ _ p=>p
 cells:=λ _ b a=>by cases a
theorem qF1{Q:Hp->Prop}(b:Blk X NY sc src tg ifs elt g qf te)(m:Mid src av (λ _ _=>True) [] τ o0 Dd F0 H0 A0 g qf te K (Bb lo n) Z' H)(a:∀ σ2 H2,Mid src av (λ _ _=>True) [] τ o0 Dd F0 H0 A0 g qf te K [] σ2 H2->Q H2):qr6 (Itr lo n) (qx2 src g) (qx1 src qf) (Hh src te) Dd Q Z' H:=by
 refine qy7 (λ i Z H=>Mid src av (λ _ _=>True) [] τ o0 Dd F0 H0 A0 g qf te K ((Bb lo n).drop i) Z H) m ?_ ?_
 . rintro i Z H c ⟨F,ι,A,d,B,Ao,S1,r,e,L,f,s,q⟩
   rw[ql3 (qv4 c)] at q;exact qC8 b qp1 S1 r e L f s (.int _) q
 intro Z H m;rw[Ld (by rw[qE0];exact zA6 _)] at m;exact a _ _ m
end
def Imp(c:Vc)(X:Cx)(t:VT)(a:TE):Prop:=∀ Ko s b H Q,M1 X Ko b H s->Be c t b H Q->a b H Q
def Ia(t:VT):Prop:=∀ ds (Q Q':DK) (xe xe':XKd),(∀ d a,Q d a->Q' d a)->(∀ x a,xe x a->xe' x a)->t ds Q xe->t ds Q' xe'
section
variable{c:Vc}{X:Cx}{NY:List Str}{J:Scope}{src:List (Option Nat)}{K E e o:Kt}{G:List Kt}{g:VTG}{y:VTT}{te:VT}
theorem qS1{a:TE}{t:VT}(h:PE X e a)(i:Imp c X t a)(m:Ia t):VE c X e t:=⟨λ Ko s u H Q I q=>h Ko s u H Q I (i Ko s u H Q I q),m⟩
def Ib(src:List (Option Nat))(g:VTG)(y:VTT)(te:VT)(ys:List D):Ds->DK->Prop:=λ ds1 Q=>Bu g y te (λ acc w'=>Q (.l false acc) (Hg src w' (A5 src ds1).2)) ys [] (A5 src ds1).1
theorem qu3(b:Blk X NY J src K G E g y te){ys:List D}{ds1:Ds}{Q Q':DK}(h:∀ d a,Q d a->Q' d a):Ib src g y te ys ds1 Q->Ib src g y te ys ds1 Q':=ql5 b (λ c w=>h _ _) _ _ _
def Jg(src:List (Option Nat))(tr:VTA)(g:VTG)(y:VTT)(te:VT):VT:=λ ds Q xe=>tr ds (λ xs ds1=>orF (one1 xs) λ j=>midI j=true/\Ib src g y te (Bb 0 j.toNat) ds1 Q) xe
theorem qp0{es:List Kt}{tr:VTA}(b:Blk X NY J src K G E g y te)(hi:VOs c X es tr):Ia (Jg src tr g y te):=λ i Q Q' j a e f=>hi.m _ _ _ _ _ (λ d h=>qa6 λ k=>Mb (qu3 b e)) f
theorem qG2{F:γ->Prop}{H:Hp}{A:List γ}{F1:γ->Prop}{H1:Hp}{A1:List γ}{u:St}{ds1:Ds}(b:Blk X NY J src K G E g y te)(a:∀ j,some j∈src->j < u.length)(S1:M3 c F1 H1 u ds1 A1)(f:M2 F H A F1 H1 A1)(q:Ib src g y te (Bb lo n) ds1 (λ d e=>∀ v H' F' T A',M0 F' H' v d T->M3 c F' H' u e A'->Ok F' H' (T++A')->M2 F H A F' H' (T++A')->Q v H')):∀ Dd,H1 Dd=none->qr6 (Itr lo n) (qx2 src g) (qx1 src y) (Hh src te) Dd (λ H'=>Q (.ref Dd) H') (Ax u src) (upd H1 Dd (.l [])):=λ Dd h =>
 qF1 b (qK1 a S1 S1.ok trivial qp1 h (ql5 b (λ i w q v H' F' B A' r S' _ k s=>q v H' F' B A' r S' k (f.trans s)) _ _ _ q)) λ σ2 H2 m=>qK2 a S1 m
theorem qQ1{es:List Kt}{tr:VTA}(b:Blk X NY J src K G E g y te)(hi:VOs c X es tr):Imp c X (Jg src tr g y te) (Iy (iRng1 (qP4 c tr)) src (qx2 src g) (qx1 src y) (Hh src te)):=by
 rintro Ko s u H Q I ⟨F,e,A,f,S,x,q⟩;have a:=b.lt Ko u H s I;refine⟨F,e,A,f,S,x,hi.m _ _ _ _ _ (λ p h q r H1 F1 T A1 i S1 k=>?_) (λ _ _ z=>z) q⟩;obtain⟨j,l,n,d⟩:=qa8.mp q;cases qE3 l;obtain⟨v,rfl,o⟩:=i.one_inv;cases o.int_inv
 have:=qw6 n
 exact⟨j,rfl,this.1,this.2,qG2 b a S1 k d⟩
noncomputable def capOk(X:Cx)(src:List (Option Nat)):Bool:=src.all λ o=>match o with | none=>true | some j=>decide (j < X.N.length)
theorem blk(b:∀ av C a H0 ex,VG (cIn src av) (qc7 X NY J C a H0 ex) K g)(c:∀ av C a H0 ex,VF (cIn src av) (qc7 X NY J C a H0 ex) G y)(d:∀ av C a H0 ex,VE (cIn src av) (qc7 X NY J C a H0 ex) E te)(e:capOk X src=true:=by rfl):Blk X NY J src K G E g y te :=
 ⟨b,c,d,λ Ko u H s I j f=>by
   have:=List.all_eq_true.mp e _ f
   rw[I.len];exact zAt this⟩
end
section
variable{c:Vc}{X:Cx}{t:List Kt}{p:VTB}
def tOfB(p:VTB):VTA:=λ ds Q xe=>p ds (λ xs _ ds1=>Q xs ds1) xe
theorem vosB(h:VAs c X t p):VOs c X t (tOfB p):=⟨PA.mono h.h λ n H Q ⟨F,d,A,e,S,x,q⟩=>⟨F,d,A,e,S,x,h.m _ _ _ _ _ (λ f g a q i H' F' T A' r _ S' o s=>q i H' F' T A' r S' (s.count λ b=>by rw[zA0];lia)) (λ _ _ z=>z) q⟩,λ d Q Q' e j k l=>h.m _ _ _ _ _ (λ f g a=>k _ _) l⟩
end
structure Bg(x y z:Int)(ns:List Int):Prop where
 x0:0<=x
 y0:0<=y
 y1:y < 2147483647
 z0:0<=z
 nn:∀ n∈ns,0<=n
noncomputable def bagD(x y z:Int)(ns:List Int):D:=.l false [.int x,.int y,.int z,.l false (ns.map .int)]
def lawE:VEnds where
 nx _:=False
 rt d _:=d.asB=some true
 bk _:=False
 ct _:=False
 xe _ _:=False
theorem qB4{c:Vc}{X:Cx}{rest:List Ku}{t:VTS}{H:Hp}{E:As}{p L:γ}{x y z:Int}{ns:List Int}(e:c.av.length=2+n)(k:∀ i,c.W i=false)(a:c.gv=[])(l:H p=some (.l [.int x,.int y,.int z,.ref L]))(m:H L=some (.l (ns.map V.int)))(o:L≠p)(s:∀ H',E.rt (.bl true) H')(u:t lawE (.hole w::bagD x y z ns::Kx n .u)):Bk c t E (some w::some (.ref p)::Kx n none) H:=by
 have L0:Locs (λ _=>False) H (some w::some (.ref p)::Kx n none) (.hole w::bagD x y z ns::Kx n .u) ([]++((p::([]++([]++([]++((L::[])++[])))))++[])) :=
   .so (.hole w) (.so (.l l (.cons (.int x) (.cons (.int y) (.cons (.int z) (.cons (.l m (qp3 ns)) .nil))))) (qg7 n))
 refine⟨λ _=>False,_,_,lawE,⟨by rw[a,zAh];exact L0,⟨λ b=>?_,λ b f=>f.elim,λ b f=>f.elim⟩,by rw[a,e];simp;lia,λ i h=>by rw[k i] at h;cases h⟩,⟨λ _ _ _ _ _ z=>Mt z,λ d A v B' H' F' T A' q r _ _ _=>by rw[r.asB q];exact s H',λ _ _ _ _ _ z=>Mt z,λ _ _ _ _ _ z=>Mt z,λ _ _ _ _ _ _ _ z=>Mt z⟩,u⟩;by_cases g:p=b
 . subst g;simp[o]
 by_cases j:L=b
 . subst j;simp[g]
 simp[g,j]
section
noncomputable def wOf(l:List Bool)(i:Nat):Bool:=l.getD i false
end
section
variable{a b:Kt}{g:VTG}{l:VTT}{te:VT}{x:Str}
theorem qz0{g:VTG}{l:VTT}{te:VT}{K:Ds->Ds->Prop}(I:Ds->Prop)(f:D->Option D):∀(xs:List D)(acc k:Ds),acc.length+xs.length < big->I k->(∀ x∈xs,∀ k acc,I k->∀ R:Ds->Ds->Prop,(∀ k',I k'->R (acc++(f x).toList) k')->acc.length < big->g x k λ ι1=>l ι1 (λ b ι2=>if b=true then te ι2 (λ d ι3=>acc.length < big/\R (acc++[d]) ι3) (λ _ _=>False) else R acc ι2) (λ _ _=>False))->(∀ k',I k'->K (acc++xs.filterMap f) k')->Bu g l te K xs acc k
 | [],acc,k,_,h,_,hK=>by
   have:=hK k h
   rw[List.filterMap_nil,zAh] at this;exact this
 | x::xs,acc,k,hl,h,hs,hK=>by
   refine hs x zAe k acc h (λ a i=>Bu g l te K xs a i) (λ k' hι=>?_) (by simp at hl;lia);refine qz0 I f xs _ k' ?_ hι (λ y e=>hs y (zA5 _ e)) λ ι2 j=>?_
   . cases c:f x with
     | none=>simp at hl ⊢;lia
     | some y=>simp at hl ⊢;lia
   have:=hK ι2 j
   rw[Lb] at this;cases c:f x with
   | none=>rw[c] at this;simpa using this
   | some y=>rw[c] at this;simpa using this
end
def Hi(C:γ)(fl:Str):Sp:=λ vs H Q _=>∃(e:γ)(v:V),vs=[.ref e,v]/\H e=some (Ac e C none true)/\∀ dx,H dx=none->dx≠e->Q .non (upd (upd H dx (XD dx [(fl,v)])) e (Ac e C (some dx) true))
section
variable{c:Vc}{X:Cx}{e:Kt}{te:VT}{pos cpos np:Pos}{k:Nat}{f C:γ}{fd:δ}{ps:List Str}{x fl:Str}
def qD7(C:γ)(fl:Str)(te:VT):VTS:=λ e ds=>te ds (λ d a=>d.imm=true/\e.xe ⟨C,[(fl,d)]⟩ a) e.xe
theorem qr7(M:MkE X.K C f)(Fn:Bm X.prog X.w X.K X.mg X.base CX0 k f fd ps (Hi C fl))(N:Hd (k+1) X.A)(O:X.mg x=some (.ref C))(P:Binds X.K fd ps [])(Q:Lands X c.E)(n:VE c X e te)(R:Gl X x:=by rfl)(p:N' x:=by decide)(J:Jj [e] X.env=(false,eval e X.env)::Jj [] X.env:=by rfl)(t:(backTo cpos (Jj [] X.env)).any (·.1)=false:=by rfl) :
   VS c X (.Raise (some (.Call (.Name x np) [e] [] cpos)) none pos) (qD7 C fl te):=by
 refine⟨PS.mono (qv6 M Fn N O P Q (qb8 n.h qh3 J) R p J t) λ E σ H y=>?_,λ e e' L h=>n.m _ _ _ _ _ (λ d i z=>⟨z.1,h.xe _ _ z.2⟩) h.xe⟩;obtain⟨F,L,A,ends,S,l,q⟩:=y;refine⟨F,L,A,ends.xe,S,l.xe,n.m _ _ _ _ _ (λ d i ⟨U,q⟩ v H' F' T A' r S' o s=>?_) (λ _ _ z=>z) q⟩;refine⟨by show 1<=1000;decide,λ a V=>⟨a,v,rfl,qa3,λ g W D=>⟨rfl,some g,qa3,?_⟩⟩⟩;have Y:H' g=none:=by rwa[qa4 D] at W
 obtain rfl:=r.imm U;have G:Same H' (upd (upd (upd (upd H' a (Ac a C none true)) g (XD g [(fl,v)])) a (Ac a C (some g) true)) a (Ac a C (some g) false)):=λ b u j=>by
   have I:b≠a:=λ z=>by rw[z,V] at j;cases j
   have Z:b≠g:=λ z=>by rw[z,Y] at j;cases j
   rw[qa4 I,qa4 I,qa4 Z,qa4 I];exact j
 refine l.xe ⟨C,[(fl,d)]⟩ i σ a _ F' A' q ⟨some g,none,qa3,nofun,.inr ⟨g,[(fl,v)],rfl,?_,rfl,?_⟩⟩ (S'.same G) ((s.count λ b=>by rw[zA0];lia).trans (M2.same G))
 . rw[qa4 D,qa4 D,qa3]
 exact .cons (A:=[]) (B:=[]) (r.same G) .nil
end
theorem vdct0{c:Vc}{X:Cx}{pos:Pos}:VV c X (.Dict [] [] pos) true (λ _=>some (.dct false [])) :=
 ⟨PE.mono qH1 λ f H Q ⟨F,b,A,d,S,e,q⟩ p a=>by
   cases e;exact q _ _ [p] (.dct (kvs:=[]) (kds:=[]) qa3 rfl .nil) (Same.new a) λ _=>qf2 a⟩
end LV
namespace L2
open PySem PySem.Spec PyProof.Rows
section
variable{prog:Kq}{w:Ks}{A:Kr}{E:V'->Sh->Prop}{s:Sh}{K:Mf}{x C:γ}
theorem qC6{Q:Option V'->Sh->Prop}{ox:Obj}{a:Option Obj}(X:K.In s.heap)(c:Exc K C)(I:W.InstAt s.heap x ox C a)(b:W.findObj K C a "__class__" = some (.bind (.builtin "getset_descriptor.__get__") (.builtin "object.__class__")))(e:W.mroIn K C (.type "object")=some true)(h:Q (some (.ref C)) { s with toks:=s.toks+1 }):J1 (J' prog w) A (getAttr? (.ref x) "__class__") Q E s:=by
 have FB:=Mk;obtain⟨f,g,d,t,i⟩:=s;have L0:=I.type (M:=J' prog w);have L1:=W.looks_findIn (M:=J' prog w) X c.ga;have L2:=W.looks_findIn (M:=J' prog w) X c.gt;have L3:=W.looks_find (M:=J' prog w) X I b;have j:builtinKind "BaseException.__getattribute__" = some .slot:=by decide +kernel
 have k:splitId "BaseException.__getattribute__" = some ("BaseException", "__getattribute__"):=by decide +kernel
 unfold getAttr? getAttrBy? getAttrBy;refine D' (wpAny_mkText (D' (wpAny_attempt (Jn (D' (L0.at (D' (L1.at ?_))))))));dsimp only;have l:(L5 "BaseException.__getattribute__" == L5 "object.__getattribute__")=false:=by decide +kernel
 rw[l,Bool.and_false,if_neg zA7];unfold getAttrByItsOwn hookBefore;refine D' ?_;rw[if_pos (by rfl)];refine L2.at ?_;unfold callGetattribute boundAndCalled;rw[if_neg (by decide)];refine D' (wpAny_attempt (Jn ?_));rw[FB.ga.bind (.ref x)];refine D' (G' (wpAny_call ?_));refine codeAny_call_builtin FB.ga.plain Mn (@W.check_slot (J' prog w) _ _ _ "BaseException.__getattribute__" "BaseException" "__getattribute__" (.ref x) [.str "__class__" t] [] _ j k (L0.andThen (W.looks_mroIn X c.be)) (Mq (.ref x) (.str "__class__" t)) ?_);unfold Builtin.«object.__getattribute__»;refine D' (G' (D' (G' (D' (L0.at (D' (L3.at ?_)))))));dsimp only;refine D' (Jn (wpAny_call (W.class_get (s:=⟨f,g,d,t+1,i⟩) (ox:=ox) (od:=a) X I e ?_)));refine G' ?_;exact W.handed_on rfl (G' h)
end
structure IsX(K:Mf)(C:γ):Prop where
 ex:Exc K C
 ca:W.findIn K (.ref C) "__class__" = some (some (.builtin "object.__class__"))
 cn:W.specialIn K (.builtin "object.__class__") "__get__" = some (some (.builtin "getset_descriptor.__get__"))
 ct:W.takesIn K (.builtin "object.__class__")=some true
theorem qs8{K:Mf}{C:γ}{od:Option Obj}{name:Str}{a g:V'}(b:(W.clsIn K C).isSome=true)(c:W.findIn K (.ref C) name=some (some a))(d:W.specialIn K a "__get__" = some (some g))(e:W.takesIn K a=some true):W.findObj K C od name=some (.bind g a):=by
 obtain⟨f,b⟩:=zAy.mp b;unfold W.findObj;rw[b,Option.bind_some,c,Option.bind_some];cases od<;>simp[d,e]
theorem qH9{K:Mf}{x C:γ}{ox:Obj}{od:Option Obj}(i:IsX K C):W.KitX K (.ref x) (.ref C) (λ h=>W.InstAt h x ox C od) where
 ty:=λ _ _ _ I=>I.type
 it:=λ _ _ X _=>by
   obtain⟨b,a,_⟩:=W.any_some i.ex.hd;unfold W.clsIn at a;split at a
   . rename_i c' d' cd' sl' ho
     intro A' Q' E' j k q;unfold isType loadHead;exact D' (wpAny_loadPart (k _ _ (X _ _ ho)) (G' q))
   cases a
 ne:=λ h d l f n m X c=>by
   obtain⟨b,a,_⟩:=W.any_some i.ex.hd;refine Bool.eq_false_iff.mpr λ q=>?_
   have e:C=d:=Value.ref.inj (zB4.mp q);subst e;unfold W.clsIn at a;split at a
   . rename_i c' d' cd' sl' ho
     have z:=(X _ _ ho).symm.trans c;cases z
   cases a
 ca:=λ X I k=>qC6 X i.ex I (qs8 (by obtain⟨o,g,_⟩:=W.any_some i.ex.hd;rw[g];rfl) i.ca i.cn i.ct) i.ex.ob k
theorem qJ5{X:Cx}{Ko:List (γ×Obj)}{w:St}{H:Hp}{s:Sh}{a C:γ}{od:Option γ}{fr:Bool}{cx:Option γ}(I:M1 X Ko w H s)(h:H a=some (Ac a C od fr cx))(i:∀ dx,od=some dx->∃ fs,H dx=some (XD dx fs)):∃ ox b,W.InstAt s.heap a ox C b:=by
 obtain⟨j,q,d,e,f,g,_⟩:=qi8 I.hok h;obtain⟨t,c,k,l⟩:=j;dsimp only at e f g;subst e f g;cases c with
 | none=>exact⟨_,none,d,rfl,rfl,True.intro⟩
 | some dx =>
   obtain⟨fs,m⟩:=i dx rfl;obtain⟨u,n,r,v,_⟩:=I9 I.hok m;obtain⟨od,o,p⟩:=qg6 n;exact⟨_,some od,d,rfl,rfl,o⟩
def rIsX(K:Mf):List V->Hp->VK->Prop:=λ xs H Q=>∃ a d u C c fr cx b,xs=[.ref a,d]/\Mx d u/\(∀ e,Mx d e->e=u)/\H a=some (Ac a C c fr cx)/\(∀ dx,c=some dx->∃ fs,H dx=some (XD dx fs))/\IsX K C/\Me K (.ref C) u=some b/\Q (.bl b) H
theorem qK3{X:Cx}:CallR X (.builtin "isinstance") (rIsX X.K):=by
 intro Ko s A H n o Q I r h;obtain⟨a,d,u,C,p,t,v,b,rfl,w,c,e,f,ix,g,q⟩:=h;obtain⟨i,x,rfl,j,k⟩:=vals2 r;obtain rfl:i=Lx a:=j;obtain rfl:=c _ k;obtain⟨y,l,J⟩:=qJ5 I e f;exact W.kia_one (qH9 ix) I.kIn J g (λ z=>nomatch z) λ m=>⟨.bl b,H,I.tok m,rfl,q⟩
end L2
namespace LV
open PySem L2
section
theorem qj1{F:γ->Prop}{H:Hp}{f:Str}{d:D}:∀(a:List (Str×V))(b:List (Str×D)),a.map (·.1)=b.map (·.1)->Mw F H (a.map (·.2)) (b.map (·.2)) []->b.lookup f=some d->∃ v,a.lookup f=some v/\M0 F H v d []
 | [],[],_,_,h=>by cases h
 | [],_::_,e,_,_=>by cases e
 | _::_,[],e,_,_=>by cases e
 | (k,v)::a,(k',d')::b,e,r,h=>by
   have g:=(List.cons.inj e).1;subst g;have r:=r;generalize i:([]:List γ)=N at r;cases r with
   | @cons _ _ B _ _ B' h1 t =>
     obtain⟨rfl,rfl⟩:=List.append_eq_nil_iff.mp i.symm;rw[zAn] at h ⊢;cases c:f == k with
     | true =>
       rw[c] at h;cases h;exact⟨v,rfl,h1⟩
     | false =>
       rw[c] at h;exact qj1 a b (List.cons.inj e).2 t h
end
theorem rm{cm:HdK}{j k:Nat}{A:Kr}(r:M4 cm k A)(h:j<=k:=by decide):M4 cm j A:=r.mono h
theorem VFn.mk2{cm:HdK}{P:Kq}{w:Ks}{K:Mf}{mg:Str->Option V'}{base:Heap}{x qual:Str}{st:Ku}{f:γ}{fd:δ}{N ps:List Str}{k:Nat}{s:VSp}(Fu:Fun K x qual st f fd)(Sc:qb2 N ps (qa1 st))(W:Nat->Bool)(c:A9 s)(h:∀ ds Q xe,s ds Q xe->ds.length=ps.length/\Iq W 0 ds=true)(hbody:∀(a:V')(A:Kr)(outer:List Env)(b:Sh)(H:Hp)(E:XK)(av:List (Option V)),M4 cm k (A.deeper (PyProof.Rows.envOfC qual (qa1 st) b.heap.objs.size f a)) ->
     ∃ t,VSs ⟨λ _=>E,W,av,[]⟩ (Ay cm (CX1 P w) P w K mg base N qual (qa1 st) f a A outer b H E) (qb5 st) t/\∀ ds Q xe,s ds Q xe->t (qs9 W ds Q xe) (ds++Kx (N.length - ds.length) .u)) :
   VFnB cm P w K mg base (k+1) f fd ps s:=VFn.mk' Fu Sc W c (λ ds Q xe z=>(h ds Q xe z).1) (λ ds Q xe z=>(h ds Q xe z).2) hbody
end LV
namespace S6
open PySem PyProof.Rows
section
variable{lt:Kv->Kv->Bool}
noncomputable def B(lt:Kv->Kv->Bool)(l:Bool)(a x:Kv):Bool:=if l then lt x a else !lt a x
section
variable{u v n x i:Nat}
theorem g1(c:¬ u ≥ v)(h:v - u<=n - x):u+(v - u) / 2 < v/\v - (u+(v - u) / 2+1)<=n - (x+1)/\u+(v - u) / 2 - u<=n - (x+1):=by
 have q:=Nat.div_lt_self (Nat.sub_pos_of_lt (Nat.lt_of_not_le c)) (zA6 2);generalize (v - u) / 2=m at *
 have t:=Nat.sub_le_sub_right h 1;exact⟨Nat.add_lt_of_lt_sub' q,zAb (Nat.sub_le_sub_left (Nat.succ_le_succ (Nat.le_add_right u m)) v) t,by rw[Nat.add_sub_cancel_left];exact zAb (Nat.le_pred_of_lt q) t⟩
theorem g2(h:v - u<=n - max 0 n)(hi:i < v):i < u:=by grind
end
end
noncomputable def att(a:Array Kv)(i:Nat):Kv:=a.getD i (Ly,Ly)
theorem qK6{a:Array Kv}{i:Nat}(h:i < a.size):a[i]? = some (att a i):=by simp[att,Array.getD,h]
section
variable{st:SortSt}
def R(st a:SortSt):Prop:=Kw a=Kw st/\arrOf a=arrOf st/\pendingOf a=pendingOf st/\failedOf a=failedOf st
end
section
theorem p1{x:Nat}(h:¬ (x == 1)=true)(h':0 < x):1 < x:=Nat.lt_of_le_of_ne h' λ e=>h (zB4.mpr e.symm)
end
section
variable{lt:Kv->Kv->Bool}{a:Array Kv}
def Ds(lt:Kv->Kv->Bool)(a:Array Kv):Prop:=a.toList.Pairwise λ x y=>lt x y=true∨lt y x=true
end
theorem wr{p:Nat}:∀(L:List Kv)(n:Nat)(a:Array Kv),p+n+L.length<=a.size ->
   ((L.zipIdx n).foldl (λ(a:Array Kv)(z:Kv×Nat)=>a.setIfInBounds (p+z.2) z.1) a).toList=a.toList.take (p+n)++L++a.toList.drop (p+n+L.length)
 | [],n,a,_=>by simp
 | x::L,n,a,h=>by
   rw[zAo] at h;rw[List.zipIdx_cons,Ls,wr L (n+1) _ (by rw[Array.size_setIfInBounds];lia),Array.toList_setIfInBounds,<- Nat.add_assoc,zAo,
     List.drop_set_of_lt (by lia),List.take_set,Lq,show a.toList[p+n]?.toList=[att a (p+n)] from ?_,Ln _ _ (by simp;lia),show p+n+1+L.length=p+n+(L.length+1) by lia]
   . simp[show min (p+n) a.size=p+n by lia]
   rw[Array.getElem?_toList,qK6 (by lia)];rfl
end S6
namespace LV
open PySem L2
mutual
def D.plain:D->Bool
 | .q ds=>D.plains ds
 | .l z ds=>!z&&D.plains ds
 | .non=>true | .bl _=>true | .int _=>true | .str _=>true
 | _=>false
def D.plains:List D->Bool
 | []=>true
 | d::r=>d.plain&&D.plains r
end
end LV
namespace L2
open PySem PySem.Spec PyProof.Rows
def tHdM(M:γ->Option Bool)(j:Nat)(ts tr:γ->TS):γ->TS:=λ a D d H=>∃ C c cx b,H a=some (Ac a C c false cx)/\M C=some b /\
 if b=true then ts a (qK5 j D) (d.set j (some (.ref a))) H else tr a D d H
theorem M4.u64{cm:HdK}{k:Nat}{A:Kr}(a:M4 cm k A):A.units+64 < cLine:=a.units
theorem M4.mark{cm:HdK}{k:Nat}{A:Kr}(r:M4 cm k A)(v:Option V'):M4 false k (A.mark v):=⟨λ _ z=>(nomatch z),r.dp,r.un⟩
section
variable{X:Cx}
theorem hd_go{j:Nat}{y:Str}{pos:Pos}{b₀:Ku}{suite:List Ku}{rest:List ExceptHandler}{ts tr:γ->TS}{Ko:List (γ×Obj)}{s:Sh}{B:St}{H:Hp}{D:As}{a:γ}{n:Nat}{b:Bool}(d:X.N.Nodup)(i:∀ a,PSs (Xh X a) (b₀::suite) (ts a))(k:PH X rest tr)(e:X.N[j]? = some y)(c:X.env.scope.names.lookup y=some .local)(I:M1 X Ko B H s)(F:Fly n H s.heap a)(O:Old X Ko n)(q:if b=true then ts a (qK5 j D) (B.set j (some (.ref a))) H else tr a D B H) :
   (match (Except.ok (if b then Flow.brk else Flow.next):Result) with
     | .ok .brk=>codeAny (J' X.prog X.w) (X.A.mark (some (.ref a))) (.handlers (.ref a) [.ExceptHandler none (some y) (b₀::suite) pos] X.env) (λ r s₂=>match r with
         | .ok f=>J1 (J' X.prog X.w) X.A (do bindName X.env y .none;unbindBehindTheSuite X.env y pos) (λ _ s₃=>SP X Ko D f s₃) X.xe s₂
         | .error x=>cameBackBy (J' X.prog X.w) X.A X.env X.xe x s₂) s
     | .ok _=>J1 (J' X.prog X.w) X.A (handleBy (.ref a) X.env rest) (SP X Ko D) X.xe s
     | .error x=>cameBackBy (J' X.prog X.w) X.A X.env X.xe x s):=by
 cases b with
 | false =>
   exact k Ko s B H D a n I F O q
 | true =>
   refine codeAny_handlers_suite_as (qC2 I F O λ o I1 F1=>?_);refine qn1 (X:=Xh X a) (v:=.ref a) I1.h d e (.inl c) rfl (λ l I2=>?_) (.inr c);refine Jv (i a Ko l (B.set j (some (.ref a))) H (qK5 j D) I2 q) (λ f p z=>?_) λ _ _ z=>z.elim
   cases f with
   | next=>obtain⟨B',H',J,z⟩:=z;exact qq0 (J.unh I.ok) d e c λ g J4=>⟨_,H',J4,z⟩
   | brk=>obtain⟨B',H',J,z⟩:=z;exact qq0 (J.unh I.ok) d e c λ g J4=>⟨_,H',J4,z⟩
   | cont=>obtain⟨B',H',J,z⟩:=z;exact qq0 (J.unh I.ok) d e c λ g J4=>⟨_,H',J4,z⟩
   | ret u=>obtain⟨v,B',H',J,m,z⟩:=z;exact qq0 (J.unh I.ok) d e c λ g J4=>⟨v,_,H',J4,m,z⟩
theorem qT6(j:Nat){x y:Str}{C':γ}{np pos:Pos}{b₀:Ku}{suite:List Ku}{rest:List ExceptHandler}{ts tr:γ->TS}(d:X.N.Nodup)(c:Exc X.K C')(e:X.mg x=some (.ref C'))(f:∀ a,PSs (Xh X a) (b₀::suite) (ts a))(g:PH X rest tr)(i:X.N[j]? = some y:=by rfl)(k:X.env.scope.names.lookup y=some .local:=by rfl)(l:Gl X x:=by rfl)(m:N' x:=by decide) :
   PH X (.ExceptHandler (some (.Name x np)) (some y) (b₀::suite) pos::rest) (tHdM (λ C=>W.mroIn X.K C (.ref C')) j ts tr):=by
 intro Ko s B H D a n I F O h;obtain⟨C,t,u,b,o,p,q⟩:=h;obtain⟨v,w,p1,r,_⟩:=qi8 I.hok o;refine wpAny_handleBy_cons (codeAny_handlers_test (qh6 (X:=Xh X a) I.h l e ?_ m)) (by intro z;cases z);exact qC5 I.kIn c p1 r p (hd_go d f g i k I F O q)
end
end L2
namespace LV
open PySem L2
variable{H:Hp}
abbrev VH:=Exn->VTS
inductive Ic(c:Vc)(t:VH)(a:γ)(E:As)(b:St)(H:Hp):Prop
 | mk (x:Exn) (F:γ->Prop) (ds:Ds) (A:List γ) (e:VEnds) (r:RepX F H a x) (S:M3 c F H b ds A) (l:Lk c E F H A e) (q:t x e ds):Ic c t a E b H
structure VHs(c:Vc)(X:Cx)(hs:List ExceptHandler)(t:VH):Prop where
 h:PH X hs (Ic c t)
 m:∀ x (e e':VEnds) ds,e.Le e'->t x e ds->t x e' ds
section
variable{c:Vc}{X:Cx}{K:Pos}
theorem PH.mono{b:List ExceptHandler}{t t':γ->TS}(h:PH X b t)(i:∀ a D J H,t' a D J H->t a D J H):PH X b t':=λ Ko s J H D a n I F O q=>h Ko s J H D a n I F O (i a D J H q)
theorem vhnil:VHs c X [] (λ _ _ _=>False):=⟨PH.mono qT5 λ _ _ _ _ ⟨_,_,_,_,_,_,_,_,q⟩=>q,λ _ _ _ _ _ z=>z⟩
theorem RepX.rep{F:γ->Prop}{a:γ}{x:Exn}(r:RepX F H a x):M0 F H (.ref a) (.exn x.C x.fs) []:=by
 obtain⟨g,h,e,_,⟨q,rfl⟩ | ⟨i,b,rfl,c,d,f⟩⟩:=r
 . rw[q];exact .exn0 e
 exact .exn e c d f
def sTryW(t:VTS)(th:VH):VTS:=λ e ds=>t { e with xe:=λ x a=>th x e a } ds
theorem stryW{body:List Ku}{h₀:ExceptHandler}{o:List ExceptHandler}{t:VTS}{th:VH}(p:∀ E xe f,Lands (Xt X xe f) E->VSs { c with E:=E } (Xt X xe f) body t)(s:VHs c X (h₀::o) th)(g:X.stack=X.env::X.outer:=by rfl)(i:X.env.frame=some X.env.locals:=by rfl):VS c X (.Try body (h₀::o) [] [] K) (sTryW t th):=by
 refine⟨PS.mono (qT2 (λ E xe f w=>(p E xe f w).h) s.h g i) λ D J H j=>?_,λ e G u h=>(p (λ _ _ _ _=>False) (λ _ _=>True) [] λ _ _ _ _ _ _ _ _ _ z=>z.elim).m _ _ _ ⟨h.nx,h.rt,h.bk,h.ct,λ x b=>s.m x _ _ _ h⟩⟩;obtain⟨F,u,A,e,S,l,q⟩:=j;refine⟨λ J' y _ H'=>∃ x a b F' A',y=.ref a/\th x e b/\RepX F' H' a x/\M3 c F' H' J' b A'/\M2 F H A F' H' A',⟨F,u,A,_,⟨S.loc,S.ok,S.len,S.ag⟩,⟨?_,?_,?_,?_,?_⟩,q⟩,λ a J' H' ⟨x,I,b,F',A',B,C,k,S',n⟩=>?_⟩
 . exact λ b J' H' F' A' q S'=>l.nx b J' H' F' A' q ⟨S'.loc,S'.ok,S'.len,S'.ag⟩
 . exact λ d b v J' H' F' T A' q r S'=>l.rt d b v J' H' F' T A' q r ⟨S'.loc,S'.ok,S'.len,S'.ag⟩
 . exact λ b J' H' F' A' q S'=>l.bk b J' H' F' A' q ⟨S'.loc,S'.ok,S'.len,S'.ag⟩
 . exact λ b J' H' F' A' q S'=>l.ct b J' H' F' A' q ⟨S'.loc,S'.ok,S'.len,S'.ag⟩
 . exact λ x b J' a H' F' A' q k S' n=>⟨x,a,b,F',A',rfl,q,k,⟨S'.loc,S'.ok,S'.len,S'.ag⟩,n⟩
 cases B;exact⟨J',rfl,λ _ _ z=>z,x,F',b,A',e,k,S',l.step n,C⟩
end
section
variable{c:Vc}{X:Cx}{e Z:Kt}{Y p:Pos}{own:Bool}{f:FV}
theorem M0.exn_inv{F:γ->Prop}{v:V}{C:γ}{fs:List (Str×D)}{B:List γ}(r:M0 F H v (.exn C fs) B):∃ a od cx,v=.ref a/\B=[]/\H a=some (Ac a C od false cx)/\(od=none/\fs=[]∨∃ dx b,od=some dx/\H dx=some (XD dx b)/\b.map (·.1)=fs.map (·.1)/\Mw F H (b.map (·.2)) (fs.map (·.2)) []):=by
 cases r with
 | exn h g e r=>exact⟨_,_,_,rfl,rfl,h,.inr ⟨_,_,rfl,g,e,r⟩⟩
 | exn0 h=>exact⟨_,_,_,rfl,rfl,h,.inl ⟨rfl,rfl⟩⟩
theorem qW4{P:List (Str×V)->γ->Prop}{od:Option γ}{N:Prop}(h:od=none/\N∨∃ dx a,od=some dx/\H dx=some (XD dx a)/\P a dx):∀ dx,od=some dx->∃ fs,H dx=some (XD dx fs):=by
 rintro dx rfl;rcases h with⟨z,_⟩ | ⟨dx',a,z,h,_⟩
 . cases z
 cases z;exact⟨a,h⟩
def Ir(K:Mf)(f:FV)(u:V'):VT:=λ ds Q _=>orF (f ds) λ d=>∃ C fs b,d=.exn C fs/\IsX K C/\Me K (.ref C) u=some b/\Q (.bl b) ds
theorem eisX{d:V}{u:V'}(n:X.mg "isinstance" = none)(o:VV c X e own f)(t:PE X Z (tC d))(w:Mx d u)(g:∀ k,Mx d k->k=u)(y:Gl X "isinstance" := by rfl)(h1:Jj [e,Z] X.env=(false,eval e X.env)::Jj [Z] X.env:=by rfl)(h2:Jj [Z] X.env=(false,eval Z X.env)::Jj [] X.env:=by rfl)(i:((backTo Y (Jj [Z] X.env)).any λ x=>x.1)=false:=by rfl) :
   VE c X (.Call (.Name "isinstance" p) [e,Z] [] Y) (Ir X.K f u):=by
 refine⟨PE.mono (cbi qK3 n (qb8 o.h (qb8 t qh3 h2) h1) y rfl (by decide) (by decide) h1 i) λ W H Q j=>?_,λ l Q Q' z D E _=>qa6 λ d ⟨C,m,b,h1,h2,G,I⟩=>⟨C,m,b,h1,h2,G,E _ _ I⟩⟩;obtain⟨F,l,A,z,S,x,q⟩:=j;obtain⟨R,J,C,m,b,rfl,ix,L,q⟩:=qa8.mp q;refine⟨F,l,A,_,S,J,λ v H1 B r s _=>?_⟩;obtain⟨a,M,N,rfl,rfl,O,P⟩:=r.exn_inv;exact⟨a,d,u,C,M,false,N,b,rfl,w,g,O,qW4 P,ix,L,q _ _ F [] A (.bl b) (S.same s) (S.same s).ok (.same s)⟩
theorem eisXc{x:Str}(C':γ){np:Pos}(d:X.mg "isinstance" = none)(g:VV c X e own f)(h:X.mg x=some (.ref C'))(i:Gl X "isinstance" := by rfl)(a:Gl X x:=by rfl)(j:N' x:=by decide)(h1:Jj [e,.Name x np] X.env=(false,eval e X.env)::Jj [.Name x np] X.env:=by rfl)(h2:Jj [.Name x np] X.env=(false,eval (.Name x np) X.env)::Jj [] X.env:=by rfl)(b:((backTo Y (Jj [.Name x np] X.env)).any λ x=>x.1)=false:=by rfl) :
   VE c X (.Call (.Name "isinstance" p) [e,.Name x np] [] Y) (Ir X.K f (.ref C')):=eisX d g (qO0 C' h a j) rfl (λ _ z=>z) i h1 h2 b
theorem eisXt{x:Str}(n:String){np:Pos}(g:X.mg "isinstance" = none)(h:VV c X e own f)(a:X.mg x=none)(i:Gl X "isinstance" := by rfl)(b:Gl X x:=by rfl)(hv:Jo x=some (.type n):=by rfl)(j:x ≠ "__name__" := by decide)(k:N' x:=by decide)(h1:Jj [e,.Name x np] X.env=(false,eval e X.env)::Jj [.Name x np] X.env:=by rfl)(h2:Jj [.Name x np] X.env=(false,eval (.Name x np) X.env)::Jj [] X.env:=by rfl)(d:((backTo Y (Jj [.Name x np] X.env)).any λ x=>x.1)=false:=by rfl) :
   VE c X (.Call (.Name "isinstance" p) [e,.Name x np] [] Y) (Ir X.K f (.type n)):=eisX g h (qO5 n a b hv j k) rfl (λ _ z=>z) i h1 h2 d
def tEFX(K:Mf)(f:FV)(fl:Str):VT:=λ ds Q _=>orF (f ds) λ d=>∃ C fs v,d=.exn C fs/\Exc K C/\qc2 K C fl/\fs.lookup fl=some v/\Q v ds
theorem B6{fl:Str}{K:Mf}(l:X.K=K)(m:VV c X e own f)(o:Jq e fl X.env (eval e X.env)=eval e X.env:=by rfl):VE c X (.Attribute e fl Y) (tEFX K f fl):=by
 subst l;refine⟨PE.mono (qO2 m.h o) λ W H Q g=>?_,λ j Q Q' p t u _=>qa6 λ d ⟨C,i,v,w,y,z,D,E⟩=>⟨C,i,v,w,y,z,D,u _ _ E⟩⟩;obtain⟨F,j,A,p,S,x,q⟩:=g;obtain⟨U,G,C,i,d,rfl,I,n,k,q⟩:=qa8.mp q;refine⟨F,j,A,_,S,G,λ v H1 B r s _=>?_⟩;obtain⟨a,V,J,rfl,rfl,L,⟨_,rfl⟩ | ⟨M,b,rfl,N,O,P⟩⟩:=r.exn_inv
 . cases k
 obtain⟨v,R,T⟩:=qj1 b i O P k;exact⟨a,C,M,false,J,b,v,rfl,L,N,I,n,R,q _ _ F [] A T (S.same s) (S.same s).ok (.same s)⟩
end
end LV
namespace LV
open PySem L2
def spX2(C:γ)(fl gl:Str):Sp:=λ vs H Q _=>∃(e:γ)(v w:V),vs=[.ref e,v,w]/\H e=some (Ac e C none true)/\∀ dx,H dx=none->dx≠e->Q .non (upd (upd (upd H dx (XD dx [(fl,v)])) e (Ac e C (some dx) true)) dx (XD dx (Au gl w [(fl,v)])))
section
variable{c:Vc}{X:Cx}{e1 e2:Kt}{o1 o2:Bool}{fa fb:FV}{pos cpos np:Pos}{k:Nat}{f C:γ}{fd:δ}{ps:List Str}{x fl gl:Str}
def qD9(C:γ)(fl gl:Str)(fa fb:FV):VTS:=λ e ds=>orF (fa ds) λ d=>orF (fb ds) λ a=>d.imm=true/\a.imm=true/\e.xe ⟨C,[(fl,d),(gl,a)]⟩ ds
theorem qL5(M:MkE X.K C f)(Fn:Bm X.prog X.w X.K X.mg X.base CX0 k f fd ps (spX2 C fl gl))(P:Hd (k+1) X.A)(Q:X.mg x=some (.ref C))(R:Binds X.K fd ps [])(T:Lands X c.E)(U:VV c X e1 o1 fa)(W:VV c X e2 o2 fb)(Y:∀ v w:V,Au gl w [(fl,v)]=[(fl,v),(gl,w)]:=by exact λ _ _=>rfl)(Z:Gl X x:=by rfl)(n:N' x:=by decide)(J:Jj [e1,e2] X.env=(false,eval e1 X.env)::Jj [e2] X.env:=by rfl)(o:Jj [e2] X.env=(false,eval e2 X.env)::Jj [] X.env:=by rfl)(p:(backTo cpos (Jj [e2] X.env)).any (·.1)=false:=by rfl) :
   VS c X (.Raise (some (.Call (.Name x np) [e1,e2] [] cpos)) none pos) (qD9 C fl gl fa fb):=by
 refine⟨PS.mono (qv6 M Fn P Q R T (qb8 U.h (qb8 W.h qh3 o) J) Z n J p) λ E σ H r=>?_,λ e e' j h=>qa6 λ d=>qa6 λ s z=>⟨z.1,z.2.1,h.xe _ _ z.2.2⟩⟩;obtain⟨F,j,A,ends,S,l,q⟩:=r;obtain⟨d,e1,q⟩:=qa8.mp q;obtain⟨s,e2,m1,m2,q⟩:=qa8.mp q;refine⟨F,j,A,d,S,e1,λ v H1 B L t _=>⟨F,j,A,s,S.same t,e2,λ y H2 B' N D _=>⟨by show 2<=1000;decide,λ a na=>⟨a,v,y,rfl,qa3,λ g h1 G=>⟨rfl,some g,by rw[qa4 (Ne.symm G),qa3],?_⟩⟩⟩⟩⟩;have nx:H2 g=none:=by rwa[qa4 G] at h1
 obtain rfl:=L.imm m1;obtain rfl:=N.imm m2;rw[Y];have m:Same H2 (upd (upd (upd (upd (upd H2 a (Ac a C none true)) g (XD g [(fl,v)])) a (Ac a C (some g) true)) g (XD g [(fl,v),(gl,y)])) a (Ac a C (some g) false)):=λ b u i=>by
   have I:b≠a:=λ z=>by rw[z,na] at i;cases i
   have O:b≠g:=λ z=>by rw[z,nx] at i;cases i
   rw[qa4 I,qa4 O,qa4 I,qa4 O,qa4 I];exact i
 refine l.xe ⟨C,[(fl,d),(gl,s)]⟩ j σ a _ F A q ⟨some g,none,qa3,nofun,.inr ⟨g,[(fl,v),(gl,y)],rfl,?_,rfl,?_⟩⟩ (((S.same t).same D).same m) (((M2.same t).trans (M2.same D)).trans (M2.same m))
 . rw[qa4 G,qa3]
 exact .cons (A:=[]) (B:=[]) ((L.same D).same m) (.cons (A:=[]) (B:=[]) (N.same m) .nil)
end
theorem Hb{cm:HdK}{k:Nat}{A:Kr}(r:M4 cm k A):M4 false k A:=⟨(λ _ h=>nomatch h),r.dp,r.un⟩
end LV
namespace LV
open PySem L2
section
variable{c:Vc}{X:Cx}{K:Mf}{e:Kt}{m p:Pos}{own:Bool}{f:FV}
theorem qc8{x:Str}(d:X.K=K)(C':γ){np:Pos}(g:X.mg "isinstance" = none)(h:VV c X e own f)(i:X.mg x=some (.ref C'))(j:Gl X "isinstance" := by rfl)(a:Gl X x:=by rfl)(k:N' x:=by decide)(h1:Jj [e,.Name x np] X.env=(false,eval e X.env)::Jj [.Name x np] X.env:=by rfl)(h2:Jj [.Name x np] X.env=(false,eval (.Name x np) X.env)::Jj [] X.env:=by rfl)(b:((backTo m (Jj [.Name x np] X.env)).any λ x=>x.1)=false:=by rfl) :
   VE c X (.Call (.Name "isinstance" p) [e,.Name x np] [] m) (Ir K f (.ref C')):=d ▸ eisXc C' g h i j a k h1 h2 b
theorem qR0{x:Str}(g:X.K=K)(n:String){np:Pos}(h:X.mg "isinstance" = none)(i:VV c X e own f)(a:X.mg x=none)(j:Gl X "isinstance" := by rfl)(b:Gl X x:=by rfl)(hv:Jo x=some (.type n):=by rfl)(k:x ≠ "__name__" := by decide)(l:N' x:=by decide)(h1:Jj [e,.Name x np] X.env=(false,eval e X.env)::Jj [.Name x np] X.env:=by rfl)(h2:Jj [.Name x np] X.env=(false,eval (.Name x np) X.env)::Jj [] X.env:=by rfl)(d:((backTo m (Jj [.Name x np] X.env)).any λ x=>x.1)=false:=by rfl) :
   VE c X (.Call (.Name "isinstance" p) [e,.Name x np] [] m) (Ir K f (.type n)):=g ▸ eisXt n h i a j b hv k l h1 h2 d
end
end LV
namespace L2
open PySem PySem.Spec PyProof.Rows
variable{P:Kq}{Q:Option V'->Sh->Prop}{a l:γ}{elts:List Kt}{i:Nat}{items:Array V'}
section
variable{prog:Kq}{w:Ks}{A:Kr}{K:Mf}{C:γ}{h:Heap}{g:Array GenState}{d:Drawn}{t:Nat}{L:OsState}
theorem qy1{Q:Fin->Sh->Prop}{E:V'->Sh->Prop}(X:K.In h)(m:Bh K C=true)(hi:W.findIn K (.ref C) "__init__" = some (some (.builtin "ValueError.__init__")))(l:∀ h',Heap.MadeExcOf h h' (h.objs.size+1) (.ref C) []->Q (.done (.ret (.ref (h.objs.size+1)))) ⟨h',g,d,t,L⟩) :
   J1 (J' prog w) A (Builtin.«type.__call__» ⟨[.ref C],[]⟩) Q E ⟨h,g,d,t,L⟩:=by
 have F:=Mh;obtain⟨s,u,N,v,n,i,x,sub,y,p,z,B,D,G,H,I,a,T⟩:=ql2 X m
 repeat (first | with_reducible refine Jt a ?_ | with_reducible refine wpAny_madeBy_exc a ?_ | wp_step)
 refine codeAny_call_builtin_code (Code.quiet_builtin _ F.quiet) (wpAny_check_new_subT F T a ?_);refine codeAny_exc_new_subT F T a ?_ (by size_fits);show J1 _ _ _ _ _ _;have c:∀ b o,h.get? b=some o->((h.push { cls:=.type "tuple",data:=.seq ([]:List V').toArray }).push { cls:=.ref C,data:=.fields #[.ref h.objs.size,.none,.none,.none,.bool false,.none] }).get? b=some o:=λ b o e=>zA1 _ (zA1 _ e)
 have j:=c _ _ a;have T₁:=T.keeps c;have f:((h.push { cls:=.type "tuple",data:=.seq ([]:List V').toArray }).push { cls:=.ref C,data:=.fields #[.ref h.objs.size,.none,.none,.none,.bool false,.none] }).get? (h.objs.size+1)=some { cls:=.ref C,data:=.fields #[.ref h.objs.size,.none,.none,.none,.bool false,.none] }:=by heap_get
 have q:(Lx C::n).contains (.ref C)=true:=by simp
 unfold isInstance
 repeat (first | with_reducible refine Jt f ?_ | (with_reducible refine wpAny_isSubtype_exc j ?_;rw[q]) | wp_step)
 show J1 _ _ (typeLookup (.ref C) _) _ _ _;have r:=(W.looks_findIn (M:=J' prog w) X hi).keeps c;refine r.at (Jn (D' (wpAny_of_eq (F.init.bind _) ?_)));refine D' (wpAny_call (codeAny_call_builtin F.init.plain F.initEntry (wpAny_check_init_subT F T₁ j f rfl ?_)))
 wp_walk
 refine l _ ⟨λ b o k=>?_,Heap.get?_none_of_le (zB2 _),h.objs.size+2,?_,Heap.get?_none_of_le (by lia),?_⟩
 . rw[zAa _ _ (Nat.ne_of_gt (Nat.lt_succ_of_lt (zA4 k)))]
   exact zA1 _ (zA1 _ (zA1 _ k))
 . rw[zAp _ (zA1 _ f) rfl]
   simp only[zBa];rfl
 rw[zAa _ _ (show h.objs.size+1≠h.objs.size+2 by lia)];exact Heap.get?_push_at (by simp only[zBa]) rfl
theorem qq3{Q E:V'->Sh->Prop}(X:K.In h)(m:Bh K C=true)(hi:W.findIn K (.ref C) "__init__" = some (some (.builtin "ValueError.__init__")))(c:∀ h',Heap.MadeExcOf h h' (h.objs.size+1) (.ref C) []->Q (.ref (h.objs.size+1)) ⟨h',g,d,t,L⟩):J1 (J' prog w) A (call (.ref C) []) Q E ⟨h,g,d,t,L⟩:=by
 obtain⟨f,i,N,j,k,b,l,sub,n,e,o,p,q,r,s,u,a,T⟩:=ql2 X m;have v:=tc_lookup;have f2:=tc_bind (.ref C);have x:(⟨h,g,d,t,L⟩:Sh).TypeIs (.ref C) "type" := ⟨_,a,rfl⟩
 refine wpAny_call (codeAny_of_tree ?_);show J1 _ _ (callAny (.ref C) _) _ _ _
 repeat (any_goals (first | assumption | with_reducible refine Jt a ?_ | wp_step))
 refine⟨rfl,?_⟩;exact codeAny_call_builtin_at (Code.quiet_builtin _ (by decide +kernel)) entry_typeCall (wpAny_check_type_call_sub a (qy1 X m hi c))
end
structure Bw(K:Mf)(C:γ):Prop where
 exc:Exc K C
 mke:Bh K C=true
 init:W.findIn K (.ref C) "__init__" = some (some (.builtin "ValueError.__init__"))
 kp:W.keepIn K (.ref C)=true
def qM0(C:γ)(E:St->XK):TS:=λ D b H=>∀ a,H a=none->E b (.ref a) none (upd H a (Ac a C none false))
section
variable{X:Cx}{C:γ}{E:St->XK}{x:Str}{q n p:Pos}
theorem qA7(M:Bw X.K C)(e:X.A.handled=none)(f:X.mg x=some (.ref C))(g:Lands X E)(i:Gl X x:=by rfl)(c:N' x:=by decide):PS X (.Raise (some (.Call (.Name x q) [] [] n)) none p) (qM0 C E):=by
 intro Ko s m H D I h;rw[arm_exec_Raise];refine D' (wpAny_standAt (qm5 (K:=X.K) e ?_));refine D' (wpAny_Call_Name_kw (qh6 I i f ?_ c));refine W.callWith_K0 I.kIn M.kp ?_;obtain⟨b,g1,k,t1,l⟩:=s;show J1 _ _ (call (.ref C) []) _ _ _;refine qq3 I.kIn M.mke M.init λ d z=>?_
 have j:H (b.objs.size+1)=none:=I.hok.fresh (zB2 _);obtain⟨t2,p1,_⟩:=z.there;have I3:=I.laid (a:=b.objs.size+1) (o:=Ac (b.objs.size+1) C none false) (t':=t1) (h':=d) z.keeps (zB2 _) (ql1 ⟨_,_,p1,rfl,rfl,rfl,⟨by simp,by simp[cxV]⟩,λ z=>nomatch z⟩);refine D' (wpAny_standAt (G' ?_));refine⟨b.objs.size+1,_,_,C,rfl,I3.kIn,M.exc,p1,rfl,rfl,by simp,?_⟩;exact g Ko m _ _ (b.objs.size+1) b.objs.size I3 ⟨zB2 _,⟨C,none,none,qa3⟩,_,_,p1,rfl,by simp,.inl (by simp)⟩ I.old (h _ j)
end
inductive HChn(h:Heap):γ->Prop
 | nil {a:γ} {o:Obj} {vs:Array V'} (ha:h.get? a=some o) (hd:o.data=.fields vs) (hv:vs[2]? = some .none):HChn h a
 | cons {a b:γ} {o:Obj} {vs:Array V'} (ha:h.get? a=some o) (hd:o.data=.fields vs) (hv:vs[2]? = some (.ref b)) (r:HChn h b):HChn h a
inductive Rch(h:Heap):γ->γ->Prop
 | refl {a:γ}:Rch h a a
 | step {a b c:γ} {o:Obj} {vs:Array V'} (ha:h.get? a=some o) (hd:o.data=.fields vs) (hv:vs[2]? = some (.ref b)) (r:Rch h b c):Rch h a c
theorem Rch.snoc{h:Heap}{b c:γ}{o:Obj}{vs:Array V'}(r:Rch h a b)(d:h.get? b=some o)(e:o.data=.fields vs)(hv:vs[2]? = some (.ref c)):Rch h a c:=by
 induction r with
 | refl=>exact .step d e hv .refl
 | step f g i _ j=>exact .step f g i (j d)
theorem HChn.there{h:Heap}(c:HChn h a):∃ o,h.get? a=some o:=by
 cases c with
 | nil b=>exact⟨_,b⟩
 | cons b=>exact⟨_,b⟩
theorem qg2:entryFor table "proto.unchain" = some Builtin.«proto.unchain»:=entryFor_of_tree (by kernel_rfl)
section
variable{prog:Kq}{w:Ks}{F:Heap}{e:γ}
theorem qt4(v:F.get? e=none){o:γ}(c:HChn F o):∀{h:γ}{tg:Bool}{A:Kr}{R:Result->Sh->Prop}{s:Sh},Rch F h o->(∀ b ob,F.get? b=some ob->s.heap.get? b=some ob)->R (.ok (.ret .none)) s ->
   codeAny (J' prog w) A (.builtin "proto.unchain" ⟨[.ref e,.ref o,.ref h,.bool tg],[]⟩) R s:=by
 induction c with
 | nil d f g =>
   intro h tg A R s r k q;refine codeAny_builtin qg2 ?_;unfold Builtin.«proto.unchain»;refine D' (wpAny_field (k _ _ d) f g ?_);rw[if_pos (zAs _)];exact G' q
 | @cons a b o vs d f g r ih =>
   intro h tg A R s n k q;refine codeAny_builtin qg2 ?_;unfold Builtin.«proto.unchain»;refine D' (wpAny_field (k _ _ d) f g ?_);obtain⟨ob,p⟩:=r.there;have B:(Lx b == Lx e)=false:=zB1.mpr λ z=>by
     cases z;rw[v] at p;cases p
   rw[if_neg (by simp),B,if_neg zA7];have i:∀ x y z t,(Code.builtin "proto.unchain" ⟨[x,y,z,t],[]⟩).quiet=true:=λ _ _ _ _=>Code.quiet_builtin _ (by decide +kernel)
   by_cases u:(Lx b == Lx h)=true
   . rw[if_pos u]
     exact D' (Jw (G' q))
   rw[if_neg u];dsimp only;cases tg with
   | false =>
     rw[if_neg zA7];exact D' (G' (G' ⟨i _ _ _ _,ih (n.snoc d f g) k q⟩))
   | true =>
     rw[if_pos rfl];cases n with
     | refl=>exact D' (wpAny_field (k _ _ d) f g (G' ⟨i _ _ _ _,ih .refl k q⟩))
     | step j l m C=>exact D' (wpAny_field (k _ _ j) l m (G' ⟨i _ _ _ _,ih (C.snoc d f g) k q⟩))
theorem qh2{α:Type}{A:Kr}{hv:γ}{oe:Obj}{vs:Array V'}{Q:α->Sh->Prop}{E:V'->Sh->Prop}{s:Sh}(f:A.handled=some (.ref hv))(c:HChn F hv)(a:F.get? e=none)(k:∀ b ob,F.get? b=some ob->s.heap.get? b=some ob)(g:s.heap.get? e=some oe)(i:oe.data=.fields vs)(j:2 < vs.size)(h:E (.ref e) { s with heap:=s.heap.update e (Obj.mapFields (·.setIfInBounds 2 (.ref hv))) }):J1 (J' prog w) A (raiseNew (.ref e):Sem α) Q E s:=by
 unfold raiseNew;refine D' (wpAny_handled ?_);rw[f];obtain⟨m,d⟩:=c.there;have l:(Lx hv != Lx e)=true:=bne_iff_ne.mpr λ z=>by
   cases z;rw[a] at d;cases d
 dsimp only;rw[if_pos l];refine D' (Jn (wpAny_runValue (qt4 a c .refl k ?_)));refine D' ?_;show J1 _ _ (setField (.ref e) 2 (.ref hv)) _ _ _;exact wpAny_setField g i j (wpAny_throw h)
end
section
variable{prog:Kq}{w:Ks}{A:Kr}{E:V'->Sh->Prop}{s:Sh}{hv:γ}{B:Heap}{it:γ}
theorem qf6{α:Type}{Q:α->Sh->Prop}{g:Heap}{d:Array GenState}{f:Drawn}{h:Nat}{os:OsState}(l:A.handled=some (.ref hv))(c:HChn B hv)(k:∀ b ob,B.get? b=some ob->g.get? b=some ob)(x:Heap.ExtBut it s.heap g)(n:∀ h' e,Heap.ExtBut it s.heap h'->(∃ o,h'.get? e=some o/\o.cls=.type "StopIteration")->E (.ref e) ⟨h',d,f,h,os⟩) :
   J1 (J' prog w) A (newExc (.type "StopIteration") [] >>= λ e=>(raiseNew e:Sem α)) Q E ⟨g,d,f,h,os⟩:=by
 refine D' ?_;simp only[newExc,newTuple];refine D' (wpAny_newObj_type ?_ (by size_fits));refine D' (m:=firstArgMember _ _) (wpAny_of_eq (a:=Ly) (by first | rfl | (simp only[firstArgMember];rfl)) ?_);refine wpAny_newObj_type ?_ (by size_fits);have i:∀ b ob,g.get? b=some ob->b < (g.push { cls:=.type "tuple",data:=.seq ([]:List V').toArray }).objs.size:=λ b ob q=>by rw[zBa];exact Nat.lt_succ_of_lt (zA4 q)
 refine qh2 l c (Option.eq_none_iff_forall_ne_some.mpr λ ob q=>zB8 _ (i _ _ (k _ _ q))) (λ b ob q=>zA1 _ (zA1 _ (k b ob q))) (zAl _ rfl) rfl (by simp<;>lia) ?_;refine n _ _ (λ b o j q=>?_) ⟨_,zAp _ (zAl _ rfl) (Obj.isFreed_of_fields (Obj.data_mapFields rfl _)),?_⟩
 . rw[zAa _ _ (Nat.ne_of_gt (i b o (x b o j q)))]
   exact zA1 _ (zA1 _ (x b o j q))
 exact Obj.cls_mapFields ..
def Ie(prog:Kq)(w:Ks)(A:Kr)(it:γ)(s:Sh)(code:Sem PySem.Fin):Prop :=
 ∀(R:PySem.Fin->Sh->Prop)(E:V'->Sh->Prop),(∀ h' e,Heap.ExtBut it s.heap h'->(∃ o,h'.get? e=some o/\o.cls=.type "StopIteration")->E (.ref e) { s with heap:=h' })->J1 (J' prog w) A code R E s
theorem Jh{T id:String}{code:Builtin}{x:γ}(a:s.TypeIs (.ref x) T)(c:Slot T "__next__" id)(en:entryFor table id=some code)(d:argsOk id ⟨[.ref x],[]⟩)(f:∀ h',Heap.ExtBut it s.heap h'->Q none { s with heap:=h' })(h:Ie prog w A.in1 it s (code ⟨[.ref x],[]⟩)):J1 (J' prog w) A (pyNext (.ref x)) Q E s:=by
 unfold pyNext;refine D' (wpAny_attempt (wpAny_callSpecial?_slot a c (wpAny_call_entry c a en (h _ _ λ h' e x y=>?_) d)));obtain⟨o,g,i⟩:=y;exact D' (wpAny_isInstance (b:=true) ⟨o,g,i⟩ isSubtype_stop (G' (f _ x)))
theorem qx0{items}(h:A.handled=some (.ref hv))(c:HChn B hv)(k:∀ b ob,B.get? b=some ob->b≠it/\s.heap.get? b=some ob)(a:s.heap.IsListIter it l i)(j:s.heap.IsList l items)(m:items[i]? = none):Ie prog w A it s (Builtin.«list_iterator.__next__» ⟨[.ref it],[]⟩):=λ R E' n=>by
 obtain⟨o,d,t,e⟩:=id a;obtain⟨u,f,_,v,g⟩:=j;have p:∀ Q,Q (Lx l) s->J1 (J' prog w) A (field (.ref it) 0) Q E' s:=λ Q q=>wpAny_field d e rfl q
 have r:∀ Q,Q (Lz i 0) s->J1 (J' prog w) A (field (.ref it) 1) Q E' s:=λ Q q=>wpAny_field d e rfl q
 have f2:∀ Q,Q (some items) s->J1 (J' prog w) A (seqItems? (.ref l)) Q E' s:=λ Q q=>wpAny_seqItems f g q
 unfold Builtin.«list_iterator.__next__»
 wp_walk using p,r,f2
 rw[Int.toNat_natCast,m];refine D' (Jw (D' (wpAny_setField d e (by simp) ?_)));exact qf6 (s:=s) (it:=it) h c (λ b ob q=>(zAa _ _ (Ne.symm (k b ob q).1)).trans (k b ob q).2) (Heap.SameBut.update ..).extBut n
theorem qr5{items}(h:A.handled=some (.ref hv))(c:HChn B hv)(k:∀ b ob,B.get? b=some ob->b≠it/\s.heap.get? b=some ob)(a:s.heap.IsTupleIter it l i)(j:s.heap.IsTuple l items)(m:items[i]? = none):Ie prog w A it s (Builtin.«tuple_iterator.__next__» ⟨[.ref it],[]⟩):=λ R E' n=>by
 obtain⟨o,d,t,e⟩:=id a;obtain⟨u,f,_,v,g⟩:=j;have p:∀ Q,Q (Lx l) s->J1 (J' prog w) A (field (.ref it) 0) Q E' s:=λ Q q=>wpAny_field d e rfl q
 have r:∀ Q,Q (Lz i 0) s->J1 (J' prog w) A (field (.ref it) 1) Q E' s:=λ Q q=>wpAny_field d e rfl q
 have f2:∀ Q,Q (some items) s->J1 (J' prog w) A (seqItems? (.ref l)) Q E' s:=λ Q q=>wpAny_seqItems f g q
 unfold Builtin.«tuple_iterator.__next__»
 wp_walk using p,r,f2
 rw[Int.toNat_natCast,m];refine D' (Jw (D' (wpAny_setField d e (by simp) ?_)));exact qf6 (s:=s) (it:=it) h c (λ b ob q=>(zAa _ _ (Ne.symm (k b ob q).1)).trans (k b ob q).2) (Heap.SameBut.update ..).extBut n
theorem qs0{x left step:Int}(e:A.handled=some (.ref hv))(c:HChn B hv)(k:∀ b ob,B.get? b=some ob->b≠it/\s.heap.get? b=some ob)(d:IsRangeIter s.heap it x left step)(hleft:left<=0) :
   Ie prog w A it s (Builtin.«range_iterator.__next__» ⟨[.ref it],[]⟩):=λ R E' f=>by
 have g:∀ Q,Q (rawInt x) s->J1 (J' prog w) A (field (.ref it) 0) Q E' s:=λ Q q=>wpAny_field d rfl rfl q
 have h:∀ Q,Q (rawInt left) s->J1 (J' prog w) A (field (.ref it) 1) Q E' s:=λ Q q=>wpAny_field d rfl rfl q
 have f2:∀ Q,Q (rawInt step) s->J1 (J' prog w) A (field (.ref it) 2) Q E' s:=λ Q q=>wpAny_field d rfl rfl q
 have i:∀ Q:Unit->Sh->Prop,J1 (J' prog w) A Builtin.SmallTypes.stopIteration Q E' s:=λ Q=>qf6 (s:=s) (it:=it) e c (λ b ob q=>(k b ob q).2) (Heap.ExtBut.refl it s.heap) f
 unfold Builtin.«range_iterator.__next__»;refine D' (wpAny_of_eq (a:=(.ref it,[])) rfl (D' (g _ (D' (h _ (D' (f2 _ ?_)))))));dsimp only[rawInt];rw[if_pos hleft];exact D' (Jw (D' (i _)))
theorem qi5{items}(d:A.handled=some (.ref hv))(c:HChn B hv)(k:∀ b ob,B.get? b=some ob->b≠it/\s.heap.get? b=some ob)(a:s.heap.IsTupleIter it l i)(e:s.heap.IsTuple l items)(f:items[i]? = none)(g:∀ h',Heap.ExtBut it s.heap h'->Q none { s with heap:=h' }):J1 (J' prog w) A (pyNext (.ref it)) Q E s :=
 Jh a.typeIs F.slot_tuple_iterator_next F.entry_tuple_iterator_next (F.args_tuple_iterator_next_1 _) g (qr5 d c k a e f)
theorem qi6{x left step:Int}(d:A.handled=some (.ref hv))(c:HChn B hv)(k:∀ b ob,B.get? b=some ob->b≠it/\s.heap.get? b=some ob)(a:IsRangeIter s.heap it x left step)(hleft:left<=0)(e:∀ h',Heap.ExtBut it s.heap h'->Q none { s with heap:=h' }):J1 (J' prog w) A (pyNext (.ref it)) Q E s :=
 Jh (show s.TypeIs (.ref it) "range_iterator" from⟨_,a,rfl⟩) F.slot_range_iterator_next F.entry_range_iterator_next (F.args_range_iterator_next_1 _) e (qs0 d c k a hleft)
theorem qk8{e:γ}{old:V'}(f:A.handled=some (.ref hv))(c:HChn B hv)(k:∀ b ob,B.get? b=some ob->b≠it/\s.heap.get? b=some ob)(d:IsEnum s.heap e it i old)(a:s.heap.IsListIter it l i)(g:s.heap.IsList l items)(h:items[i]? = none)(j:∀ h',Heap.ExtBut it s.heap h'->Q none { s with heap:=h' }):J1 (J' prog w) A (pyNext (.ref e)) Q E s:=by
 refine Jh (show s.TypeIs (.ref e) "enumerate" from⟨_,d,rfl⟩) F.slot_enumerate_next F.entry_enumerate_next (F.args_enumerate_next_1 _) j λ R E' m=>?_
 show J1 _ _ (field (.ref e) 2 >>= _) _ _ _;refine D' (wpAny_field d rfl (x:=.ref it) rfl (D' ?_));unfold Builtin.SmallTypes.nextOf;exact D' (wpAny_callSpecial?_slot a.typeIs slot_listiter_next (wpAny_call_entry slot_listiter_next a.typeIs entry_listiter_next (qx0 (A:=A.in1.in1) f c k a g h _ _ m) (args_listiter_next _)))
theorem ql7{t:γ}{tg:List (Bool×(V'->Sem Unit))}{Q:Unit->Sh->Prop}(m:A.handled=some (.ref hv))(c:HChn B hv)(k:∀ b ob,B.get? b=some ob->s.heap.get? b=some ob)(a:s.heap.IsTuple t items)(n:tg.length=items.size)(p:tg.findIdx? (·.1)=none)(h:∀ h',Heap.ExtBut s.heap.objs.size s.heap h'->J1 (J' prog w) A (assignInOrder (tg.map (·.2)) items.toList) Q E { s with heap:=h' }):J1 (J' prog w) A (unpack (.ref t) tg) Q E s:=by
 have j:t≠s.heap.objs.size:=λ z=>by obtain⟨o,r,_⟩:=a;exact absurd (zA4 r) (by rw[z];exact zB8 _)
 have u:∀ Q',(∀ g,g.IsTupleIter s.heap.objs.size t items.size->Heap.ExtBut s.heap.objs.size s.heap g->g.IsTuple t items->Q' items.toList { s with heap:=g }) ->
     J1 (J' prog w) A (draw (.ref s.heap.objs.size) items.size) Q' E { s with heap:=s.heap.push { cls:=.type "tuple_iterator",data:=.fields #[.ref t,.int 0 0] } }:=λ Q' q=>by
   refine wpAny_draw_tuple j items.size 0 _ _ ⟨_,zAl _ rfl,rfl,rfl⟩ (a.push _) (by lia) λ g i d=>?_
   have e:(items.toList.drop 0).take items.size=items.toList:=Lf (by simp);rw[e];exact q g (by simpa using i) (λ b o f z=>d.extBut b o f (zA1 _ z)) ((a.push _).extBut d.extBut j)
 unfold unpack unpackItems notIterableAtAll;rw[n,p];refine D' (Jn (D' (D' (wpAny_specialOf a.typeIs F.slot_tuple_iter.lookup (G' ?_)))));rw[if_neg (by simp)];refine D' (Jn (wpAny_pyIter_tuple a (D' (Jn (u _ λ g i d v=>?_)))));rw[if_neg (by simp)];refine D' (Jn (qi5 m c (λ b ob q=>?_) i v (by simp) λ x y=>?_))
 . have l:b≠s.heap.objs.size:=zAc (zA4 (k b ob q))
   exact⟨l,d b ob l (k b ob q)⟩
 exact G' (h x λ b o f z=>y b o f (d b o f z))
theorem qn0{env:Env}{x1}{pos:Pos}{t:γ}{Q:Unit->Sh->Prop}(a:A.handled=some (.ref hv))(c:HChn B hv)(k:∀ b ob,B.get? b=some ob->s.heap.get? b=some ob)(d:s.heap.IsTuple t items)(e:(Jz elts env).length=items.size)(f:(Jz elts env).findIdx? (·.1)=none)(h:∀ h',Heap.ExtBut s.heap.objs.size s.heap h'->J1 (J' prog w) A (assignInOrder ((Jz elts env).map (·.2)) items.toList) Q E { s with heap:=h' }) :
   J1 (J' prog w) A (assign (.Tuple elts x1 pos) env (.ref t)) Q E s:=by
 rw[arm_assign_Tuple];exact D' (wpAny_standAt (ql7 a c k d e f h))
end
theorem hid1{h:Heap}{it b:γ}{ob:Obj}(q:(W.hideAll h [it]).get? b=some ob):b≠it/\h.get? b=some ob :=
 ⟨λ z=>(by subst z;rw[W.hideAll_none [b] zAe] at q;cases q),W.of_hideAll _ q⟩
theorem _root_.LV.Chn.sub{H H':Hp}(k:∀ b o,H b=some o->H' b=some o)(c:LV.Chn H a):LV.Chn H' a:=by
 induction c with
 | nil h=>exact .nil (k _ _ h)
 | cons h _ d=>exact .cons (k _ _ h) d
theorem qi1{w:Ks}{H' H:Hp}{h:Heap}{it hv:γ}(g:HOk P w H h)(sub:∀ b o,H' b=some o->H b=some o)(j:H' it=none)(c:LV.Chn H' hv):HChn (W.hideAll h [it]) hv:=by
 have i:∀{b:γ}{o:HO},H' b=some o->b∉[it]:=λ{b o} e k=>by rw[zAu.mp k,j] at e;cases e
 induction c with
 | nil e =>
   obtain⟨l,m,a,n,p,d,f,_⟩:=qi8 g (sub _ _ e);exact .nil (W.hideAll_get _ a (i e)) d f.2
 | cons e r q =>
   obtain⟨l,m,a,n,p,d,f,_⟩:=qi8 g (sub _ _ e);exact .cons (W.hideAll_get _ a (i e)) d f.2 q
noncomputable def ItH(hv:γ)(J:It):It:=⟨J.go,J.yld,λ i H=>J.stop i H/\LV.Chn H hv⟩
abbrev atH(hv:γ):Cx->Prop:=λ X=>X.A.handled=some (.ref hv)
theorem qt6{w:Ks}{K:Mf}{x1:Nat}{pos:Pos}(hv a it e:γ)(c:e≠it):By (atH hv) P w K (.Tuple elts x1 pos) (ItH hv (Ite K a)) [e,it] e (λ i h=>(∃ old,IsEnum h e it (i:Nat) old)/\h.IsListIter it a i) :=
 qt7 (cl:=atH hv) (st:=(ItH hv (Ite K a)).stop) (λ X j k l m i Ko s R H E I n f ⟨r,t⟩=>by
   subst j k l;obtain⟨J,u,L⟩:=r;obtain⟨⟨old,v⟩,d⟩:=f;obtain⟨x,y,p,M⟩:=I.list u;obtain⟨g,A,f2,B,C,D⟩:=n it (by simp);have N:=y.length;exact qk8 m (qi1 I.hok (λ _ _ z=>z) g t) (λ b O q=>hid1 q) v d p.isList (by simp;lia) λ Q F=>⟨rfl,I.turned (t':=s.toks) (λ b o G q=>F b o G q) g A B C D⟩) c
theorem qr4{w:Ks}{K:Mf}{tg:Kt}(hv it:γ)(lo:Int)(n:Nat):By (atH hv) P w K tg (ItH hv (Itr lo n)) [it] it (λ i h=>IsRangeIter h it (lo+(i:Nat) * 1) ((n:Int) - (i:Nat)) 1) where
 mem:=by simp
 obj:=λ i h a b c=>by
   have e:b=it:=by simpa using c
   subst e;exact⟨_,a,λ v z=>by
     have B:Data.fields _=Data.cell v:=z;cases B⟩
 keep:=λ i h g a k=>k it (by simp) _ a
 item:=by
   intro X m p r A i Ko s M H E I j a d;subst m p r;obtain⟨l,t,f2,u,x,y⟩:=j it (by simp);have d:i < n:=d;refine wpAny_pyNext_range_item a (by lia) λ g f C=>?_
   have I1:M1 X Ko M H { s with heap:=g,toks:=s.toks+1 }:=I.turned (λ b o c e=>(C.2 b c).trans e) l t u x y;have D:lo+((i+1:Nat):Int) * 1=lo+(i:Nat) * 1+1:=by lia
   have F:(n:Int) - ((i+1:Nat):Int)=(n:Int) - (i:Nat) - 1:=by lia
   refine⟨_,rfl,Iv (s:={ s with heap:=g,toks:=s.toks+1 }) (n := "range_iterator") f rfl rfl (by decide) ⟨.int (lo+i),H,I1,⟨_,by rw[Int.mul_one]⟩,⟨rfl,rfl⟩,?_,λ b c=>(j b c).1⟩⟩;rw[D,F];exact f
 done:=by
   intro X m p r A i Ko s M H E I j a d;subst m p r;obtain⟨l,t,f2,u,x,y⟩:=j it (by simp);obtain⟨d,G⟩:=d;exact qi6 A (qi1 I.hok (λ _ _ z=>z) l G) (λ b L q=>hid1 q) a (by have:n<=i:=d;lia) λ g J=>⟨rfl,I.turned (t':=s.toks) (λ b o c e=>J b o c e) l t u x y⟩
 self:=λ _ _ _ _ _ a h=>wpAny_pyIter_rangeiter a h
section
variable{X:Cx}{L:Kt}{hv:γ}
def qV8(hv:γ)(K:Mf)(ta:TA):TI:=λ J H R=>ta J H λ vs H1=>∃ a,vs=[.ref a]/\(∃ xs,SqL K H1 a xs)/\R (ItH hv (Ite K a)) H1
theorem qG7{l:Kt}{ta:TA}{x1:Nat}{p pos tpos:Pos}(j:Gl X "enumerate")(k:X.mg "enumerate" = none)(m:PA X [l] ta)(n:Jj [l] X.env=[(false,eval l X.env)]:=by rfl):PIC (atH hv) X (.Tuple elts x1 tpos) (.Call (.Name "enumerate" p) [l] [] pos) (qV8 hv X.K ta):=by
 intro Ko s J H R I h;refine Call_ (qx3 I j k boot_enumerate (PyProof.Rows.callWith_type1 (thn (m pos Ko s J H _ I h) λ B c f=>?_) n rfl));obtain⟨C,H1,I1,o,t⟩:=f;obtain⟨a,e,⟨D,u⟩,q⟩:=t;subst e;cases o with
 | cons r v =>
   cases v;cases r;obtain⟨w,E,x,F⟩:=I1.list u;refine call_enumerate_list x.isList λ G i y z A=>?_
   refine wpAny_pyIter_enum i ?_;refine⟨c.heap.objs.size+1,[c.heap.objs.size+1,c.heap.objs.size],_,_,H1,rfl,I1.kept (t':=c.toks) A,qt6 hv a c.heap.objs.size (c.heap.objs.size+1) (Nat.succ_ne_self _),⟨⟨_,i⟩,y⟩,λ b g=>?_,q⟩;have d:c.heap.objs.size<=b:=by
     rcases zAm.mp g with rfl | g
     . exact zB2 _
     rw[zAu.mp g];exact zA6 _
   exact I1.fpOk d (I1.hok.fresh d)
def iRngH(hv:γ)(ta:TA):TI:=λ J H R=>ta J H λ vs H1=>∃ j:Int,vs=[.int j]/\-(2 ^ 62)<=j/\j < 2 ^ 62/\R (ItH hv (Itr 0 j.toNat)) H1
theorem qA9{a:Kt}{ta:TA}{p pos:Pos}(f:Gl X "range")(g:X.mg "range" = none)(i:PA X [a] ta)(k:Jj [a] X.env=[(false,eval a X.env)]:=by rfl):PIC (atH hv) X L (.Call (.Name "range" p) [a] [] pos) (iRngH hv ta):=by
 intro Ko s J H R I h;refine Call_ (qx3 I f g boot_range (PyProof.Rows.callWith_type1 (thn (i pos Ko s J H _ I h) λ x l c=>?_) k rfl));obtain⟨y,H1,I1,m,d⟩:=c;obtain⟨j,e,d,q2,q⟩:=d;subst e;cases m with
 | cons r n =>
   cases n;obtain⟨t,rfl⟩:=r;refine call_range_1 ?_;refine wpAny_pyIter_range (IsRange.new ..) (small_one (by lia) (by lia) d q2) ?_;refine⟨_,[_],_,_,H1,rfl,(I1.kept λ b o e=>zA1 _ e).kept λ b o e=>zA1 _ e,qr4 hv _ 0 j.toNat,?_,λ b u=>?_,q⟩
   . have v:(0:Int)+((0:Nat):Int) * 1=0:=by simp
     have w:((j.toNat:Nat):Int) - ((0:Nat):Int)=Builtin.Range.rangeSize 0 j 1:=by rw[rangeSize_one];split<;>lia
     show IsRangeIter _ _ ((0:Int)+((0:Nat):Int) * 1) (((j.toNat:Nat):Int) - ((0:Nat):Int)) 1;rw[v,w];exact zAl _ rfl
   have e:=zAu.mp u;subst e;exact(I1.kept (h':=l.heap.push _) (t':=_) λ b o e=>zA1 _ e).fpOk (zA6 _) (I1.hok.fresh (Nat.le_of_lt (by rw[zBa];exact Nat.lt_succ_self _)))
end
theorem qN7{X:Cx}{hv:γ}{es:List Kt}{k:Nat}{t:TGs}{n:Nat}{pos:Pos}(i:X.A.handled=some (.ref hv))(h:PGs X es t)(j:(Jz es X.env).length=n:=by rfl)(c:(Jz es X.env).findIdx? (·.1)=none:=by rfl):PG X (.Tuple es k pos) (λ v F H Q=>LV.Chn H hv/\gTup X.K n t v F H Q):=by
 intro Ko s F H v u Q I r ⟨l,d⟩;obtain⟨a,m,p,w,x,d⟩:=d;subst p;cases r;obtain⟨f,g,y,D⟩:=I.tuple w;refine qn0 i (qi1 (it:=s.heap.objs.size) I.hok (λ _ _ z=>z) (I.hok.fresh (zA6 _)) l) (λ b E q=>(hid1 q).2) (show s.heap.IsTuple a f.toArray from y) (by simp[j,<- x,g.length]) c λ B C=>?_
 have I1:M1 X Ko F H { s with heap:=B }:=I.kept (t':=s.toks) λ b o e=>C b o (zAc (zA4 e)) e
 exact h Ko _ F H m _ Q I1 (by simpa using g) d
section
variable{prog:Kq}{w:Ks}{A:Kr}{E:V'->Sh->Prop}{s:Sh}{hv:γ}{env:Env}
theorem qj0{K:Mf}{x:Sem V'}{Q:Flow->Sh->Prop}(m:A.handled=some (.ref hv))(h:J1 (J' prog w) A x (λ v s₁=>∃ e oe vs C,v=.ref e/\K.In s₁.heap/\Exc K C/\s₁.heap.get? e=some oe/\oe.cls=.ref C/\oe.data=.fields vs/\vs[1]? = some .none/\2 < vs.size/\HChn (W.hideAll s₁.heap [e]) hv/\E (.ref e) { s₁ with heap:=s₁.heap.update e (Obj.mapFields (·.setIfInBounds 2 (.ref hv))) }) E s) :
   J1 (J' prog w) A (raiseStmt env (some x) none) Q E s:=by
 unfold raiseStmt;refine D' (Jv h (λ v s₁ q=>?_) λ _ _ x=>x);obtain⟨e,oe,vs,C,rfl,X,c,i,a,f,n,o,p,r⟩:=q;obtain⟨F,t,u,y⟩:=oe;dsimp only at a f;subst a f;obtain⟨G,H,N,I,z,k,J,sub,L,B,M,O,P,R,S,T,newId,l,D,_⟩:=W.kts_cls X c.kts;obtain⟨U,g,d,V,Y⟩:=s₁;have j:(Lx C::z).contains (.type "BaseException")=true:=by rw[Lh,D,Bool.or_true]
 repeat (first | with_reducible refine Jt i ?_ | with_reducible refine Jt l ?_ | (with_reducible refine wpAny_isSubtype_exc l ?_;rw[j]) | with_reducible refine wpAny_field i rfl n ?_ | wp_step)
 exact qh2 m p (W.hideAll_none [e] zAe) (λ b Z q=>(hid1 q).2) i rfl o r
end
def qL9(hv C:γ)(sp:Sp)(E:St->XK)(t:TA):TS:=λ D d H=>t d H λ vs H1=>vs.length<=1000/\∀ a,H1 a=none->sp (.ref a::vs) (upd H1 a (Ac a C none true)) (λ v H2=>v=.non/\∃ c,H2 a=some (Ac a C c true)/\(∃ H0,LV.Chn H0 hv/\H0 a=none/\∀ b o,H0 b=some o->H2 b=some o)/\E d (.ref a) none (upd H2 a (Ac a C c false (some hv)))) E0
def qG0(hv C:γ)(E:St->XK):TS:=λ D b H=>LV.Chn H hv/\∀ a,H a=none->E b (.ref a) none (upd H a (Ac a C none false (some hv)))
section
variable{X:Cx}{cm:HdK}{k:Nat}{f C hv:γ}{fd:δ}{ps:List Str}{sp:Sp}{E:St->XK}{x:Str}{np cpos pos:Pos}{e:Kt}{es:List Kt}{t:TA}
theorem qp4(M:MkE X.K C f)(F:Al cm X.prog X.w X.K X.mg X.base CX0 k f fd ps sp)(U:M4 cm (k+1) X.A)(Y:X.A.handled=some (.ref hv))(Z:X.mg x=some (.ref C))(i:Binds X.K fd ps [])(hl:Lands X E)(ha:PA X (e::es) t)(hg:Gl X x:=by rfl)(j:N' x:=by decide)(he:Jj (e::es) X.env=(false,eval e X.env)::Jj es X.env:=by rfl)(l:(backTo cpos (Jj es X.env)).any (·.1)=false:=by rfl) :
   PS X (.Raise (some (.Call (.Name x np) (e::es) [] cpos)) none pos) (qL9 hv C sp E t):=by
 intro Ko s σ H D I h;rw[arm_exec_Raise];refine D' (wpAny_standAt (qj0 (K:=X.K) Y ?_));refine D' (wpAny_Call_Name_kw (qh6 I hg Z ?_ j));refine W.callWith_K (h₀:=X.base) I.ok.mod.kin M.kp (thn (ha cpos Ko s σ H _ I h) λ d s1 m=>?_) he l;obtain⟨vs,H1,I1,r,hz,q⟩:=m;refine⟨I1.kIn,?_⟩;obtain⟨c,g1,d1,t1,o1⟩:=s1;show J1 _ _ (call (.ref C) d) _ _ _;refine qy2 I1.kIn M.mke M.init (zB4.mp M.fn) (by rw[<- r.length,Jr];lia) ?_;have nz:H1 (c.objs.size+1)=none:=I1.hok.fresh (zB2 _);have N:=q (c.objs.size+1) nz;have I2:=I1.kept (h':=c.push { cls:=.type "tuple",data:=.seq d.toArray }) (t':=t1) λ b u z=>zA1 _ z
 have g2:((c.push { cls:=.type "tuple",data:=.seq d.toArray }).push { cls:=.ref C,data:=.fields #[.ref c.objs.size,.none,.none,.none,.bool false,.none] }).get? (c.objs.size+1)=some { cls:=.ref C,data:=.fields #[.ref c.objs.size,.none,.none,.none,.bool false,.none] }:=by heap_get
 have I3:=I2.laid (a:=c.objs.size+1) (o:=Ac (c.objs.size+1) C none true) (t':=t1) (h':=(c.push { cls:=.type "tuple",data:=.seq d.toArray }).push { cls:=.ref C,data:=.fields #[.ref c.objs.size,.none,.none,.none,.bool false,.none] })
   (λ b u z=>zA1 _ z) (Nat.le_of_eq (zBa _ _)) (ql1 ⟨_,_,g2,rfl,rfl,rfl,⟨by simp,by simp[cxV]⟩,λ _=>by simp⟩)
 have O:Mz (V.ref (c.objs.size+1)::vs) (Lx (c.objs.size+1)::d):=.cons rfl r;have n:((Lx (c.objs.size+1)::d)++[]).length=ps.length:=by rw[zAh,<- O.length];exact F.len _ _ _ _ N
 have g:=i _ (Lx (c.objs.size+1)::d) I3.kIn n;rw[zAh] at g;refine wpAny_call (codeAny_mono (F.run _ X.stack _ _ ⟨Lx (c.objs.size+1)::d,[]⟩ (Lx (c.objs.size+1)::d) _ _ E0 (U.make C d []) (I3.env0.make C d []) g O N) λ p y z=>?_);cases p with
 | error e=>exact z.elim
 | ok fl =>
   cases fl with
   | ret u =>
     obtain⟨v,H',I4,rv,ev,P,Q,⟨H0,ch,n0,sub⟩,q4⟩:=I3.after z;subst ev;refine⟨rv,?_⟩;refine D' (wpAny_standAt (G' ?_));obtain⟨oe,B,p1,R,p3,G,p5,S⟩:=qi8 I4.hok Q;have T:2 < B.size:=(Array.getElem?_eq_some_iff.mp p5.2).1;have J:=Obj.data_mapFields G (·.setIfInBounds 2 (Lx hv));have L:=zAp (Obj.mapFields (·.setIfInBounds 2 (Lx hv))) p1 (Obj.isFreed_of_fields J);refine⟨c.objs.size+1,oe,B,C,rfl,I4.kIn,M.exc,p1,R,G,S rfl,T,qi1 I4.hok sub n0 ch,?_⟩;have w1:(B.setIfInBounds 2 (Lx hv))[1]? = some .none:=by rw[Array.getElem?_setIfInBounds_ne (by decide)];exact S rfl
     have I5:M1 X Ko σ (upd H' (c.objs.size+1) (Ac (c.objs.size+1) C P false (some hv))) { y with heap:=y.heap.update (c.objs.size+1) (Obj.mapFields (·.setIfInBounds 2 (Lx hv))) } :=
       I4.write (x:=c.objs.size+1) (e:=c.objs.size+1) (t':=y.toks) (by rw[Q];exact True.intro) (.inl rfl) (λ b _ i z=>(zAa _ _ (Ne.symm i)).trans z) ⟨_,L⟩
         (ql1 ⟨_,_,L,(Obj.cls_mapFields ..).trans R,by rw[qp6 G];exact p3,J,⟨by rw[Array.size_setIfInBounds];lia,by rw[Array.getElem?_setIfInBounds_self_of_lt T];rfl⟩,λ z=>nomatch z⟩)
     exact hl Ko σ _ _ (c.objs.size+1) c.objs.size I5 ⟨zB2 _,⟨C,P,some hv,qa3⟩,_,_,L,J,by rw[Array.size_setIfInBounds];lia,.inl w1⟩ I1.old q4
   | next=>exact Mt z
   | brk=>exact Mt z
   | cont=>exact Mt z
theorem qv5(M:Bw X.K C)(k:X.A.handled=some (.ref hv))(l:X.mg x=some (.ref C))(m:Lands X E)(n:Gl X x:=by rfl)(d:N' x:=by decide):PS X (.Raise (some (.Call (.Name x np) [] [] cpos)) none pos) (qG0 hv C E):=by
 intro Ko s σ H D I ⟨p,h⟩;rw[arm_exec_Raise];refine D' (wpAny_standAt (qj0 (K:=X.K) k ?_));refine D' (wpAny_Call_Name_kw (qh6 I n l ?_ d));refine W.callWith_K0 I.kIn M.kp ?_;obtain⟨c,g1,r,t1,t⟩:=s;show J1 _ _ (call (.ref C) []) _ _ _;refine qq3 I.kIn M.mke M.init λ j z=>?_
 have f:H (c.objs.size+1)=none:=I.hok.fresh (zB2 _);obtain⟨t2,p1,_⟩:=z.there;have I3:=I.laid (a:=c.objs.size+1) (o:=Ac (c.objs.size+1) C none false) (t':=t1) (h':=j) z.keeps (zB2 _) (ql1 ⟨_,_,p1,rfl,rfl,rfl,⟨by simp,by simp[cxV]⟩,λ z=>nomatch z⟩);refine D' (wpAny_standAt (G' ?_));have g:=Obj.data_mapFields (o:={ cls:=.ref C,data:=.fields #[.ref t2,.none,.none,.none,.bool false,.none] }) rfl (·.setIfInBounds 2 (Lx hv));have i:=zAp (Obj.mapFields (·.setIfInBounds 2 (Lx hv))) p1 (Obj.isFreed_of_fields g);refine⟨c.objs.size+1,_,_,C,rfl,I3.kIn,M.exc,p1,rfl,rfl,by simp,by simp,qi1 I3.hok (H':=H) (λ b o z=>by rw[qa4 (qa9 z f)];exact z) f p,?_⟩;have I4:=I3.write (o:=Ac (c.objs.size+1) C none false (some hv)) (x:=c.objs.size+1) (e:=c.objs.size+1) (t':=t1) (by rw[qa3];exact True.intro) (.inl rfl) (λ b _ q z=>(zAa _ _ (Ne.symm q)).trans z) ⟨_,i⟩
   (ql1 ⟨_,_,i,Obj.cls_mapFields ..,by rw[qp6 rfl],g,⟨by simp,by simp[cxV]⟩,λ z=>nomatch z⟩)
 rw[qD2] at I4;exact m Ko σ _ _ (c.objs.size+1) c.objs.size I4 ⟨zB2 _,⟨C,none,some hv,qa3⟩,_,_,i,g,by simp,.inl (by simp)⟩ I.old (h _ f)
end
theorem Fun.okB{cm:HdK}{w:Ks}{K:Mf}{mg:Str->Option V'}{base:Heap}{x qual:Str}{st:Ku}{f:γ}{fd:δ}{N ps:List Str}{k:Nat}{sp:Sp}(F:Fun K x qual st f fd)(S:qb2 N ps (qa1 st))(len:∀ vs H Q E,sp vs H Q E->vs.length=ps.length)(hbody:∀(a:V')(A:Kr)(outer:List Env)(s:Sh)(H:Hp)(vs:List V)(Q:VK)(E:XK),M4 cm k (A.deeper (envOfC qual (qa1 st) s.heap.objs.size f a))->sp vs H Q E ->
     ∃ t,PSs (Ay cm CX0 P w K mg base N qual (qa1 st) f a A outer s H E).nox (qb5 st) t/\t { nx:=λ _ H'=>Q .non H',rt:=Q } (start N vs) H):Al cm P w K mg base CX0 (k+1) f fd ps sp:=by
 obtain⟨j,l,kV,d,m,n,a,o,e,rfl,g,b⟩:=F.ex;refine Hr g b S len λ A outer s H vs Q E i c=>?_
 obtain⟨t,h,q⟩:=hbody a A outer s H vs Q E i c;exact⟨t,h.nox,q⟩
end L2
namespace LV
open PySem L2
variable{P:Kq}{base:Heap}{mg:Str->Option V'}{w:Ks}
abbrev exL(ds:Ds):Prop:=ds.getLast? = some .exg
noncomputable abbrev hdH(hv:γ):HdK:=some (some (.ref hv))
section
variable{c:Vc}{X:Cx}{F F':γ->Prop}{H H':Hp}{v:St}{ds:Ds}{A A':List γ}{hv:γ}{g0:List (Option V)}
theorem M3.chn(S:M3 c F H v ds A)(d:c.gv=g0++[some (.ref hv)])(e:exL ds):Chn H hv:=by
 have L:=S.loc;rw[d,<- zAj] at L;have a:=L.len;simp only[zAk,zAo,Lg] at a;have f:ds[(v++g0).length]? = some .exg:=by
   rw[<- e,List.getLast?_eq_getElem?,<- a];simp
 obtain⟨σ1,o,σ2,g,h,A1,B,A2,i,l,j,m,n,p,k,q⟩:=L.split f;have b:((v++g0)++[some (V.ref hv)])[(v++g0).length]? = some o:=by rw[i];exact qh8 j
 rw[zB3 (zA6 _),Nat.sub_self] at b;cases b;cases k with
 | so r=>(cases r;assumption)
theorem Chn.step(q:Chn H hv)(S:M3 c F H v ds A)(s:M2 F H A F' H' A'):Chn H' hv:=q.keep (s.kp S.ok S.loc.cells)
theorem PS.nxand{st:Ku}{t:TS}{P:Hp->Prop}(h:PS X st t):PS X st (λ D v H=>t { D with nx:=λ v H=>P H/\D.nx v H } v H):=λ Ko s v H D I q=>Jv (h Ko s v H _ I q) (λ f a z=>by
 cases f with
 | next=>obtain⟨v',H',J,z⟩:=z;exact⟨v',H',J,z.2⟩
 | brk=>exact z
 | cont=>exact z
 | ret u=>exact z) (λ _ _ z=>z)
end
section
variable{c:Vc}{X:Cx}{e e1 e2:Kt}{te:VT}{pos cpos np:Pos}{k:Nat}{cm:HdK}{f C hv:γ}{g0:List (Option V)}{fd:δ}{ps:List Str}{x fl gl:Str}{o1 o2:Bool}{fa fb:FV}
theorem upH{K:Mf}{CX:CXT}{sp:Sp}(F:Al false P w K mg base CX k f fd ps sp):Al cm P w K mg base CX k f fd ps sp :=
 ⟨F.len,λ A outer s H args a b Q E c=>F.run A outer s H args a b Q E (Hb c)⟩
def sXS(t:VTS):VTS:=λ e ds=>exL ds/\t e ds
def sXE(t:VT):VT:=λ ds Q xe=>exL ds/\t ds Q xe
theorem qi9(M:MkE X.K C f)(Fn:Al cm X.prog X.w X.K X.mg X.base CX0 k f fd ps (Hi C fl))(U:M4 cm (k+1) X.A)(V:X.A.handled=some (.ref hv))(t:c.gv=g0++[some (.ref hv)])(W:X.mg x=some (.ref C))(Y:Binds X.K fd ps [])(Z:Lands X c.E)(y:VE c X e te)(hg:Gl X x:=by rfl)(D:N' x:=by decide)(N:Jj [e] X.env=(false,eval e X.env)::Jj [] X.env:=by rfl)(G:(backTo cpos (Jj [] X.env)).any (·.1)=false:=by rfl) :
   VS c X (.Raise (some (.Call (.Name x np) [e] [] cpos)) none pos) (sXS (qD7 C fl te)):=by
 refine⟨PS.mono (qp4 M Fn U V W Y Z (qb8 y.h qh3 N) hg D N G) λ E σ H I=>?_,λ e e' O h=>Mb (y.m _ _ _ _ _ (λ d n z=>⟨z.1,h.xe _ _ z.2⟩) h.xe)⟩;obtain⟨F,O,A,ends,S,l,hx,q⟩:=I;have ch:=S.chn t hx;refine⟨F,O,A,ends.xe,S,l.xe,y.m _ _ _ _ _ (λ d n ⟨hi,q⟩ v H' F' T A' r S' o s=>?_) (λ _ _ z=>z) q⟩;have p:=ch.step S s;refine⟨by show 1<=1000;decide,λ a J=>⟨a,v,rfl,qa3,λ g h1 L=>?_⟩⟩;have nx:H' g=none:=by rwa[qa4 L] at h1
 obtain rfl:=r.imm hi;have P:∀ Q,Same H' (upd (upd (upd H' a (Ac a C none true)) g (XD g [(fl,v)])) a Q):=λ Q b u i=>by
   have R:b≠a:=λ z=>by rw[z,J] at i;cases i
   have b2:b≠g:=λ z=>by rw[z,nx] at i;cases i
   rw[qa4 R,qa4 b2,qa4 R];exact i
 have j:Same H' (upd (upd (upd (upd H' a (Ac a C none true)) g (XD g [(fl,v)])) a (Ac a C (some g) true)) a (Ac a C (some g) false (some hv))):=λ b u i=>by
   rw[qa4 (λ z=>by rw[z,J] at i;cases i)];exact P _ b u i
 refine⟨rfl,some g,qa3,⟨H',p,J,λ b o z=>P _ b o z⟩,?_⟩;refine l.xe ⟨C,[(fl,d)]⟩ n σ a _ F' A' q ⟨some g,some hv,qa3,λ b z=>Mc z ▸ p.sub j,.inr ⟨g,[(fl,v)],rfl,?_,rfl,?_⟩⟩ (S'.same j) ((s.count λ b=>by rw[zA0];lia).trans (M2.same j))
 . rw[qa4 L,qa4 L,qa3]
 exact .cons (A:=[]) (B:=[]) (r.same j) .nil
theorem qF5(M:MkE X.K C f)(Fn:Al cm X.prog X.w X.K X.mg X.base CX0 k f fd ps (spX2 C fl gl))(W:M4 cm (k+1) X.A)(Y:X.A.handled=some (.ref hv))(t:c.gv=g0++[some (.ref hv)])(Z:X.mg x=some (.ref C))(hb:Binds X.K fd ps [])(hl:Lands X c.E)(ha:VV c X e1 o1 fa)(hc:VV c X e2 o2 fb)(hn:∀ v w:V,Au gl w [(fl,v)]=[(fl,v),(gl,w)]:=by exact λ _ _=>rfl)(hg:Gl X x:=by rfl)(y:N' x:=by decide)(O:Jj [e1,e2] X.env=(false,eval e1 X.env)::Jj [e2] X.env:=by rfl)(D:Jj [e2] X.env=(false,eval e2 X.env)::Jj [] X.env:=by rfl)(G:(backTo cpos (Jj [e2] X.env)).any (·.1)=false:=by rfl) :
   VS c X (.Raise (some (.Call (.Name x np) [e1,e2] [] cpos)) none pos) (sXS (qD9 C fl gl fa fb)):=by
 refine⟨PS.mono (qp4 M Fn W Y Z hb hl (qb8 ha.h (qb8 hc.h qh3 D) O) hg y O G) λ E σ H I=>?_,λ e e' n h=>Mb (qa6 λ d=>qa6 λ J z=>⟨z.1,z.2.1,h.xe _ _ z.2.2⟩)⟩;obtain⟨F,n,A,ends,S,l,hx,q⟩:=I;have ch:=S.chn t hx;obtain⟨d,e1,q⟩:=qa8.mp q;obtain⟨J,e2,m1,m2,q⟩:=qa8.mp q;refine⟨F,n,A,d,S,e1,λ v H1 B P p _=>⟨F,n,A,J,S.same p,e2,λ r H2 B' Q s _=>⟨by show 2<=1000;decide,λ a L=>⟨a,v,r,rfl,qa3,λ g h1 N=>?_⟩⟩⟩⟩;have m:Chn H2 hv:=ch.sub λ b o z=>s _ _ (p _ _ z)
 have nx:H2 g=none:=by rwa[qa4 N] at h1
 obtain rfl:=P.imm m1;obtain rfl:=Q.imm m2;rw[hn];have R:Same H2 (upd (upd (upd (upd H2 a (Ac a C none true)) g (XD g [(fl,v)])) a (Ac a C (some g) true)) g (XD g [(fl,v),(gl,r)])):=λ b u j=>by
   have T:b≠a:=λ z=>by rw[z,L] at j;cases j
   have U:b≠g:=λ z=>by rw[z,nx] at j;cases j
   rw[qa4 U,qa4 T,qa4 U,qa4 T];exact j
 have i:Same H2 (upd (upd (upd (upd (upd H2 a (Ac a C none true)) g (XD g [(fl,v)])) a (Ac a C (some g) true)) g (XD g [(fl,v),(gl,r)])) a (Ac a C (some g) false (some hv))):=λ b u j=>by
   rw[qa4 (λ z=>by rw[z,L] at j;cases j)];exact R b u j
 refine⟨rfl,some g,by rw[qa4 (Ne.symm N),qa3],⟨H2,m,L,λ b o z=>R b o z⟩,?_⟩;refine l.xe ⟨C,[(fl,d),(gl,J)]⟩ n σ a _ F A q ⟨some g,some hv,qa3,λ b z=>Mc z ▸ m.sub i,.inr ⟨g,[(fl,v),(gl,r)],rfl,?_,rfl,?_⟩⟩ (((S.same p).same s).same i) (((M2.same p).trans (M2.same s)).trans (M2.same i))
 . rw[qa4 N,qa3]
 exact .cons (A:=[]) (B:=[]) ((P.same s).same i) (.cons (A:=[]) (B:=[]) (Q.same i) .nil)
def qD8(C:γ):VTS:=λ e ds=>e.xe ⟨C,[]⟩ ds
theorem qu4(M:Bw X.K C)(g:X.A.handled=none)(i:X.mg x=some (.ref C))(j:Lands X c.E)(k:Gl X x:=by rfl)(b:N' x:=by decide):VS c X (.Raise (some (.Call (.Name x np) [] [] cpos)) none pos) (qD8 C):=by
 refine⟨PS.mono (qA7 M g i j k b) λ E σ H ⟨F,d,A,ends,S,l,q⟩ a m=>?_,λ e n d h=>h.xe _ _⟩;have f:=Same.new (u:=Ac a C none false) m;exact l.xe ⟨C,[]⟩ d σ a _ F A q ⟨none,none,qa3,nofun,.inl ⟨rfl,rfl⟩⟩ (S.same f) (M2.same f)
theorem qn2(M:Bw X.K C)(m:X.A.handled=some (.ref hv))(d:c.gv=g0++[some (.ref hv)])(n:X.mg x=some (.ref C))(o:Lands X c.E)(p:Gl X x:=by rfl)(f:N' x:=by decide):VS c X (.Raise (some (.Call (.Name x np) [] [] cpos)) none pos) (sXS (qD8 C)):=by
 refine⟨PS.mono (qv5 M m n o p f) λ E σ H g=>?_,λ e s j h=>Mb (h.xe _ _)⟩;obtain⟨F,j,A,ends,S,l,k,q⟩:=g;refine⟨S.chn d k,λ a r=>?_⟩;have i:=Same.new (u:=Ac a C none false (some hv)) r;exact l.xe ⟨C,[]⟩ j σ a _ F A q ⟨none,some hv,qa3,λ b z=>Mc z ▸ (S.chn d k).sub i,.inl ⟨rfl,rfl⟩⟩ (S.same i) (M2.same i)
end
section
variable{c:Vc}{X:Cx}{a e tg elt:Kt}{ifs:List Kt}{body:List Ku}{g0:List (Option V)}{g:VTG}{qf:VTT}{t:VTS}{te:VT}{pos p cpos tpos:Pos}{elts:List Kt}{x1:Nat}{hv:γ}{NY:List Str}{sc:Scope}{src:List (Option Nat)}
theorem qS6(L:X.A.handled=some (.ref hv))(j:c.gv=g0++[some (.ref hv)])(M:PassesOwn (J' X.prog X.w) X.A X.env X.xe)(N:X.mg "enumerate" = none)(hi:VE c X e te)(k:VG c X (.Tuple elts x1 tpos) g)(x:VSs c X body t)(n:Gl X "enumerate" := by rfl)(y:Jj [e] X.env=[(false,eval e X.env)]:=by rfl) :
   VS c X (.For (.Tuple elts x1 tpos) (.Call (.Name "enumerate" p) [e] [] cpos) body [] pos) (sXS (sForE te g t)):=by
 refine⟨PS.mono (PS.nxand (P:=λ H=>Chn H hv) (qE1 (cl:=atH hv) M L (qG7 n N (qb8 hi.h qh3 y) y) k.h x.h)) λ E σ H o=>?_,λ r O B C=>Mb (hi.m _ _ _ _ _ (λ d f=>qa6 λ Q=>Mb (qg8 k x C _ f)) C.xe)⟩;obtain⟨F,B,A,r,S,l,R,q⟩:=o;have U:=S.chn j R;have V:Lk c { E with nx:=λ σ H=>Chn H hv/\E.nx σ H } F H A r:=⟨λ Y σ' H' F' A' q S' D=>⟨U.step S D,l.nx _ _ _ _ _ q S' D⟩,l.rt,l.bk,l.ct,l.xe⟩
 refine⟨F,B,A,r.xe,S,l.xe,hi.m _ _ _ _ _ (λ d f q v H1 F1 T A1 G S1 Z s1=>?_) (λ _ _ z=>z) q⟩;obtain⟨Q,ey,s,qf⟩:=qa8.mp q;obtain⟨z,rfl⟩:=qH7 ey;obtain⟨a,vs,Ael,rfl,I,rs,_⟩:=G.lst_inv;have u:M2 F H A F1 H1 A1:=s1.count λ b=>by rw[zA0];lia
 obtain⟨W,h0,hw⟩:=qm8 (K:=X.K) k S1 (V.step u) ⟨G,I,Z⟩ s qf;exact⟨a,rfl,⟨vs,.inl (.inl I)⟩,W,h0,λ i m σ H w=>(hw i m σ H w).imp (λ ⟨h1,J⟩=>⟨⟨h1,J.1⟩,J⟩) id⟩
def sXG(g:VTG):VTG:=λ d ds Q=>exL ds/\g d ds Q
theorem qW0{es:List Kt}{k:Nat}{f:Ha}{n:Nat}(l:X.A.handled=some (.ref hv))(b:c.gv=g0++[some (.ref hv)])(h:VGs c X es f)(p:(Jz es X.env).length=n:=by rfl)(e:(Jz es X.env).findIdx? (·.1)=none:=by rfl):VG c X (.Tuple es k pos) (sXG (gTupV n f)):=by
 refine⟨PG.mono (qN7 l h.h p e) λ v σ H Q ⟨F,g,A,T,d,r,S,o,s,q⟩=>⟨S.chn b s,?_⟩,λ d g Q Q' t=>Mb λ q=>by
   cases d with
   | q i=>exact⟨q.1,h.m _ _ _ _ t q.2⟩
   | _=>exact q.elim⟩
 cases d with
 | q i =>
   obtain⟨a,u,rfl,w,j⟩:=r.tup_inv;exact⟨a,u,rfl,.inl (.inl w),by rw[j.len];exact q.1,F,g,A,T,i,j,S,o,q.2⟩
 | _=>exact q.elim
theorem qv3{t:VT}(m:Ia t):Ia (sXE t):=λ b Q Q' c a d e=>Mb (m b Q Q' c a d e)
theorem ecR1H{tr:VTA}(B:X.A.handled=some (.ref hv))(f:c.gv=g0++[some (.ref hv)])(C:X.mg "range" = none)(b:VOs c X [a] tr)(bl:Blk X NY sc src tg ifs elt g qf te)(l:Gl X "range" := by rfl)(n:Jj [a] X.env=[(false,eval a X.env)]:=by rfl)(E:qo4 X NY src sc=true:=by rfl)(G:∀ x,Jm (.Call (.Name "range" p) [a] [] cpos) X.env x=pure x:=by intro _;rfl):VE c X (.ListComp elt [⟨tg,.Call (.Name "range" p) [a] [] cpos,ifs,0⟩] sc pos) (sXE (Jg src tr g qf te)):=by
 refine qS1 (qv8 (cl:=atH hv) NY src (qA9 l C b.h n) bl.pg bl.pf bl.pe (λ _ _ _ _=>B) E G) ?_ (qv3 (qp0 bl b));rintro Ko s σ H Q I ⟨F,J,A,K,S,x,L,q⟩;have M:=S.chn f L;obtain⟨F1,t,A1,u,S1,N,O⟩:=qQ1 bl b Ko s σ H (λ v H'=>Chn H' hv/\Q v H') I ⟨F,J,A,K,S,x,qp0 bl b _ _ _ _ _ (λ d P k v H' F' T A' r S' o s=>⟨M.step S s,k v H' F' T A' r S' o s⟩) (λ _ _ z=>z) q⟩;refine⟨F1,t,A1,u,S1,N,b.m _ _ _ _ _ (λ xs R q U H1 F2 T A2 r S2 V=>?_) (λ _ _ z=>z) O⟩;obtain⟨j,Y,y,e,q⟩:=q U H1 F2 T A2 r S2 V;refine⟨j,Y,y,e,λ D Z=>?_⟩;obtain⟨W,h0,hw⟩:=q D Z;exact⟨W,h0,λ i m σ H w=>(hw i m σ H w).imp (λ ⟨y,e⟩=>⟨⟨y,e.1⟩,e.2⟩) id⟩
end
structure VFnH(hv:γ)(P:Kq)(w:Ks)(K:Mf)(mg:Str->Option V')(base:Heap)(k:Nat)(f:γ)(fd:δ)(ps:List Str)(s:VSp):Prop where
 ok:Al (hdH hv) P w K mg base (CX1 P w) k f fd ps (λ vs H Q E=>Chn H hv/\Hx s vs H Q E)
 m:A9 s
theorem M4.markH{cm:HdK}{k:Nat}{A:Kr}(r:M4 cm k A)(v:V'):M4 (some (some v)) k (A.mark (some v)):=⟨λ _ z=>Mc z,r.dp,r.un⟩
section
variable{c:Vc}{X:Cx}{e:Kt}{es:List Kt}{tr:VTB}{pos p:Pos}{x qual:Str}{st:Ku}{f hv:γ}{fd:δ}{ps:List Str}{k:Nat}{s:VSp}{g0:List (Option V)}
theorem qt0(a:c.gv=g0++[some (.ref hv)])(D:Df X.K X.mg x qual st f fd ps)(G:VFnH hv X.prog X.w X.K X.mg X.base k f fd ps s)(o:Lands X c.E)(r:M4 (hdH hv) k X.A)(g:VAs c X (e::es) tr)(t:Gl X x:=by rfl)(i:N' x:=by decide)(u:Jj (e::es) X.env=(false,eval e X.env)::Jj es X.env:=by rfl)(j:(backTo pos (Jj es X.env)).any (·.1)=false:=by rfl):VE c X (.Call (.Name x p) (e::es) [] pos) (sXE (qj6 s [] tr)):=by
 refine⟨PE.mono (qv9 G.ok r t D.m D.F.kp D.b .nil o.passes g.h i u j) λ σ H Q l=>?_,qv3 (qq8 G.m g)⟩;obtain⟨F,v,A,y,S,x,B,q⟩:=l;have C:=S.chn a B;exact⟨F,v,A,y,S,x,g.m _ _ _ _ _ (λ O ps I q P H1 F1 T A1 J L S1 M n=>⟨C.step S n,qR5 qy6 G.m S x J L S1 M n (λ d N h=>h) q⟩) (λ _ _ z=>z) q⟩
theorem VFnB.no{cm:HdK}{K:Mf}:VFnB cm P w K mg base k f fd ps (λ _ _ _=>False) :=
 ⟨⟨λ a H Q E ⟨_,_,_,_,_,q⟩=>q.elim,λ A outer s H args b a Q E c d e r ⟨_,_,_,_,_,q⟩=>q.elim⟩,λ _ _ _ _ _ _ _ z=>z⟩
theorem VFnH.mk2{K:Mf}{N:List Str}(Fu:Fun K x qual st f fd)(Sc:qb2 N ps (qa1 st))(W:Nat->Bool)(I:A9 s)(h:∀ ds Q xe,s ds Q xe->ds.length=ps.length/\Iq W 0 ds=true)(hbody:∀(j:V')(A:Kr)(outer:List Env)(p:Sh)(H:Hp)(E:XK)(av:List (Option V)),M4 (hdH hv) k (A.deeper (PyProof.Rows.envOfC qual (qa1 st) p.heap.objs.size f j)) ->
     ∃ t,VSs ⟨λ _=>E,W,av,[some (.ref hv)]⟩ (Ay (hdH hv) (CX1 P w) P w K mg base N qual (qa1 st) f j A outer p H E) (qb5 st) t/\∀ ds Q xe,s ds Q xe->t (qs9 W ds Q xe) (ds++Kx (N.length - ds.length) .u++[.exg])) :
   VFnH hv P w K mg base (k+1) f fd ps s:=by
 refine⟨(FunE.of Fu).okX Sc (λ c H Q E ⟨_,F,ds,A,r,o,z⟩=>by rw[r.len];exact(h _ _ _ z).1) λ j Ar outer p H c Q E J u=>?_,I⟩;obtain⟨L,F,ds,A,r,o,z⟩:=u;obtain⟨t,C,M⟩:=hbody j Ar outer p H E (L2.start N c++[some (.ref hv)]) J;obtain⟨Z,O⟩:=h _ _ _ z;have hN:ps.length<=N.length:=by have:=congrArg Lm Sc.pre;rw[La] at this;lia
 have L0:Locs F H (L2.start N c++[some (.ref hv)]) (ds++Kx (N.length - ds.length) .u++[.exg]) A:=by
   have D:Locs F H (L2.start N c) (ds++Kx (N.length - ds.length) .u) (A++[]):=by
     unfold L2.start;rw[r.len];exact r.locs.append (qg7 (F:=F) (H:=H) (N.length - ds.length))
   have R:=D.append (.so (B:=[]) (A:=[]) (.exg L) .nil);simpa using R
 have S0:M3 ⟨λ _=>E,W,L2.start N c++[some (.ref hv)],[some (.ref hv)]⟩ F H (L2.start N c) (ds++Kx (N.length - ds.length) .u++[.exg]) A:=⟨L0,o,rfl,λ i _=>rfl⟩
 have l:∀{σ':St}{H':Hp}{F':γ->Prop}{a:Ds}{A' A2:List γ},M3 ⟨λ _=>E,W,L2.start N c++[some (.ref hv)],[some (.ref hv)]⟩ F' H' σ' a A'->M2 F H A F' H' A2->∃ A3,Mw F' H' c (fin W 0 ds a) A3/\∀ b,A3.count b<=A'.count b:=λ{σ' H' F' a A' A2} S' g=>by
   have hlen':(L2.start N c++[some (V.ref hv)]).length=(σ'++[some (V.ref hv)]).length:=S'.len;refine qQ6 (g.kp o r.cells) r O S'.loc ?_ λ i G S=>?_
   . rw[<- hlen'];unfold L2.start;simp
   have:=S'.ag i (by simpa using S)
   rw[this];show (L2.start N c++[some (V.ref hv)])[i]? = _;have D:i < (c.map some).length:=by simpa using G
   unfold L2.start;rw[zAj,zA9 D]
 refine⟨_,C.h,F,_,A,qs9 W ds _ _,S0,⟨?_,?_,λ _ _ _ _ _ z=>Mt z,λ _ _ _ _ _ z=>Mt z,?_⟩,M _ _ _ z⟩
 . intro a σ' H' F' A' q S' g
   obtain⟨A3,m,q2⟩:=l S' g;have n:∀ b,([]++A3).count b<=A'.count b:=λ b=>by simpa using q2 b
   exact q .non H' F' [] A3 .non m (S'.ok.count n) (g.count n)
 . intro d a v σ' H' F' T A' q U S' X g
   obtain⟨A3,m,q2⟩:=l S' g;have n:∀ b,(T++A3).count b<=(T++A').count b:=λ b=>by simp only[zA0];have:=q2 b;lia
   exact q v H' F' T A3 U m (X.count n) (g.count n)
 intro y a σ' e H' F' A' q Y S' g;obtain⟨A3,m,q2⟩:=l S' g;exact q e H' F' A3 Y m (S'.ok.count q2) (g.count q2)
end
theorem Locs.dropLast{F:γ->Prop}{H:Hp}{o:Option V}:∀{e:List (Option V)}{ds:Ds}{A:List γ},Locs F H (e++[o]) ds A->∃ A',Locs F H e ds.dropLast A'/\∀ b,A'.count b<=A.count b
 | [],ds,A,L=>by
   have a:=L.len
   match ds,a with
   | [d],_=>exact⟨[],.nil,λ b=>by simp⟩
 | x::e,ds,A,L=>by
   cases L with
   | no t =>
     obtain⟨A',h,c⟩:=Locs.dropLast t;have a:=t.len;refine⟨A',?_,c⟩
     rename_i ds'
     match ds',a with
     | d::r,_=>exact .no h
     | [],z=>simp at z
   | @so v d B _ ds' A2 r t =>
     obtain⟨A',h,c⟩:=Locs.dropLast t;have a:=t.len;refine⟨B++A',?_,λ b=>by rw[zA0,zA0];have:=c b;lia⟩
     match ds',a with
     | d::r',_=>exact .so r h
     | [],z=>simp at z
theorem qI6{α:Type}{x y:List α}{z:α}{i:Nat}(a:x.length=y.length)(h:x[i]? = y[i]?):(x++[z])[i]? = (y++[z])[i]? := by
 by_cases b:i < x.length
 . rw[zA9 b,zA9 (a ▸ b),h]
 rw[zB3 (by lia),zB3 (by lia),a]
theorem qF7{α:Type}{x y:List α}{z:α}{i:Nat}(b:x.length=y.length)(h:(x++[z])[i]? = (y++[z])[i]?):x[i]? = y[i]? := by
 by_cases a:i < x.length
 . rwa[zA9 a,zA9 (b ▸ a)] at h
 rw[List.getElem?_eq_none (by lia),List.getElem?_eq_none (by lia)]
noncomputable abbrev cG(c:Vc)(a:γ):Vc:=⟨λ _ _ _ _=>False,c.W,c.av++[some (.ref a)],c.gv++[some (.ref a)]⟩
theorem qs6{X':Cx}{c:Vc}{a:γ}:Lands X' (cG c a).E:=λ _ _ _ _ _ _ _ _ _ z=>z.elim
section
variable{c:Vc}{X:Cx}{pos np:Pos}{j:Nat}{Z:VTS}{Y:VH}{b₀:Ku}{U:List Ku}{rest:List ExceptHandler}{y:Str}{M:γ->Option Bool}
noncomputable def Ig(e:VEnds):VEnds:=⟨λ _=>False,λ d ds=>e.rt d ds.dropLast,λ _=>False,λ _=>False,λ _ _=>False⟩
def hAsG(M:γ->Option Bool)(j:Nat)(Z:VTS)(Y:VH):VH:=λ x e ds=>∃ b,M x.C=some b/\if b=true then Z (Ig e) (ds.set j (.exn x.C x.fs)++[.exg]) else Y x e ds
theorem qV9{f:Vc}{X':Cx}{st:List Ku}(g:VSs f X' st Z)(h:VHs c X rest Y):∀ x (e a:VEnds) ds,e.Le a->hAsG M j Z Y x e ds->hAsG M j Z Y x a ds:=λ x e a ds d ⟨b,i,q⟩=>⟨b,i,qx8 (g.m (Ig e) (Ig a) _ ⟨λ _ z=>z,λ _ _=>d.rt _ _,λ _ z=>z,λ _ z=>z,λ _ _ z=>z⟩) (h.m x e a ds d) q⟩
theorem qQ2(G:c.W j=false){g:γ->TS}(k:g=λ a=>Bk (cG c a) Z){a:γ}{D:As}{R:St}{H:Hp}(I:j < R.length)(q:Ic c (hAsG M j Z Y) a D R H):tHdM M j g (Ic c Y) a D R H:=by
 subst k;obtain⟨x,F,w,A,e,r,S,l,b,J,q⟩:=q;obtain⟨K,y,m,n,_⟩:=id r;refine⟨x.C,K,y,b,m,J,?_⟩;cases b with
 | false=>exact⟨x,F,w,A,e,r,S,l,q⟩
 | true =>
   have L:Chn H a:=by
     cases y with
     | none=>exact .nil m
     | some b=>exact .cons m (n b rfl)
   obtain⟨A',S',N⟩:=S.store G I r.rep (by simpa using S.ok);have S2:M3 (cG c a) F H (R.set j (some (.ref a))) (w.set j (.exn x.C x.fs)++[.exg]) A':=by
     have O:=S'.loc.append (.so (B:=[]) (A:=[]) (.exg L) .nil);refine⟨?_,S'.ok,?_,λ i p=>?_⟩
     . show Locs F H (_++(c.gv++[some (V.ref a)])) _ _
       rw[<- zAj];simpa using O
     . show (c.av++[some (V.ref a)]).length=(_++(c.gv++[some (V.ref a)])).length
       rw[<- zAj,zAk,zAk (bs:=[some (V.ref a)]),S'.len]
     show (_++(c.gv++[some (V.ref a)]))[i]? = (c.av++[some (V.ref a)])[i]?;rw[<- zAj];exact qI6 S'.len.symm (S'.ag i p)
   refine⟨F,_,A',Ig e,S2,⟨λ _ _ _ _ _ z=>z.elim,λ d t v R' H' F' T A2 q r S3 o s=>?_,λ _ _ _ _ _ z=>z.elim,λ _ _ _ _ _ z=>z.elim,λ _ _ _ _ _ _ _ z=>z.elim⟩,q⟩;have L3:Locs F' H' (R'++(c.gv++[some (V.ref a)])) t A2:=S3.loc;rw[<- zAj] at L3;obtain⟨A3,L4,P⟩:=L3.dropLast;have u:(c.av++[some (V.ref a)]).length=(R'++(c.gv++[some (V.ref a)])).length:=S3.len;have h:c.av.length=(R'++c.gv).length:=by simp only[zAk,zAo,Lg] at u ⊢;lia
   have f:∀ b,(T++A3).count b<=(T++A2).count b:=λ b=>by rw[zA0,zA0];have:=P b;lia
   refine l.rt d _ v R' H' F' T A3 q r ⟨L4,(o.count f).right,h,λ i p=>?_⟩ (o.count f) ((N.trans s).count f);have E:(R'++(c.gv++[some (V.ref a)]))[i]? = (c.av++[some (V.ref a)])[i]? := S3.ag i p;rw[<- zAj] at E;exact qF7 h.symm E
theorem vhasG(j:Nat){x:Str}{C':γ}(f:X.N.Nodup)(ex:Exc X.K C')(g:X.mg x=some (.ref C'))(b:∀ a,VSs (cG c a) (Xh X a) (b₀::U) Z)(d:VHs c X rest Y)(i:c.W j=false:=by rfl)(e:X.N[j]? = some y:=by rfl)(k:X.env.scope.names.lookup y=some .local:=by rfl)(l:Gl X x:=by rfl)(m:N' x:=by decide) :
   VHs c X (.ExceptHandler (some (.Name x np)) (some y) (b₀::U) pos::rest) (hAsG (λ C=>W.mroIn X.K C (.ref C')) j Z Y) :=
 ⟨λ Ko s R H D a n I F O q=>qT6 j f ex g (λ a=>(b a).h) d.h e k l m Ko s R H D a n I F O (qQ2 i rfl (qk9 e Ko R H s I) q),qV9 (b 0) d⟩
end
theorem eneg{c:Vc}{X:Cx}{a:Kt}{ta:VT}{pos:Pos}(b:VE c X a ta):VE c X (.UnaryOp .USub a pos) (t1 gNeg ta):=⟨PE.mono (pe_un qS2 b.h) (op_e b qU2),qL3 b⟩
end LV
namespace LV.My
open PySem L2 _root_.My
variable{Q:DK}{b:Bool}{d x y:D}{ds ys:Ds}{e:VEnds}{f fa fb:FV}{i j n:Nat}{k:Int}{s:VSp}{t u:VTS}{te:VT}{tr:VTB}{xe:XKd}
theorem qa2{α:Type}{o:Option α}{a:α}{k:α->Prop}(e:o=some a)(h:k a):orF o k:=by rw[e];exact h
theorem Ih{p:Prop}[Decidable p]{a b:Prop}(h:p)(x:a):if p then a else b:=by rw[if_pos h];exact x
theorem Ji{p:Bool}{a b:Prop}(h1:p=true->a)(h2:p=false->b):if p=true then a else b:=by cases p with | true=>exact h1 rfl | false=>exact h2 rfl
theorem qd3{K:Ds->List Pl->Ds->Prop}(a:rdN i ds=some x)(h:tr ds (λ xs ps ds1=>orF (rdN i ds1) λ d=>K (d::xs) (.sl i::ps) (ds1.set i .u)) xe):tbN i tr ds K xe:=⟨by rw[a];rfl,h⟩
theorem qe0{K:Ds->List Pl->Ds->Prop}(b:f ds=some y)(h:tr ds (λ xs ps a=>K (y::xs) (.no::ps) a) xe):tbV (Bj f) tr ds K xe:=qa2 b h
section
theorem Ah{g:D->D->Option D}(h:fa ds=some x)(h':fb ds=some y)(h2:g x y=some d):f2 g fa fb ds=some d:=qQ7.mpr ⟨x,y,h,h',h2⟩
end
theorem guard{t:VT}{n:VTS}(h:∀(Q:DK)(xe:XKd),Q (.bl true) ds->t ds Q xe)(h2:u e ds):Hn (sIf (Hw (ttE t)) n Jd) u e ds:=h _ _ h2
theorem if_v{v:VTS}(h:f ds=some (.bl b))(h1:b=true->u e ds)(h2:b=false->v e ds):sIf (ttV f) u v e ds:=by
 show orF ((f ds).bind D.asB) _;rw[h];exact Ji h1 h2
theorem qH5(e:f ds=some d)(q:Q d ds):Bj f ds Q xe:=qa2 e q
theorem qa0{w:VTS}(b:Bool)(h:f ds=some (.bl b))(h1:b=true->u { e with nx:=w e } ds)(h2:b=false->w e ds):Hn (sIf (ttV f) u Jd) w e ds:=if_v h h1 h2
theorem qk3{t:VT}(h:t ds e.rt e.xe):sRet t e ds:=h
theorem qh1(d:D)(h:f ds=some d)(q:e.rt d ds):sRet (Bj f) e ds:=qa2 h q
theorem Av(a:Ds)(h:ds=a)(q:t e a):t e ds:=h ▸ q
theorem qA2{Q:Bool->Ds->Prop}(h:f ds=some (.bl b))(q:Q b ds):ttV f ds Q xe:=by
 show orF ((f ds).bind D.asB) _;rw[h];exact q
theorem qt9{t u:VTT}{Q:Bool->Ds->Prop}(b c:Bool)(h1:∀ Q:Bool->Ds->Prop,Q b ds->t ds Q xe)(h2:b=false->∀ Q:Bool->Ds->Prop,Q c ds->u ds Q xe)(q:Q (b||c) ds):ttOr t u ds Q xe:=h1 _ (by
 cases b with
 | false=>exact h2 rfl _ q
 | true=>exact q)
theorem qu1{t u:VTT}{Q:Bool->Ds->Prop}(b c:Bool)(h1:∀ Q:Bool->Ds->Prop,Q b ds->t ds Q xe)(h2:b=true->∀ Q:Bool->Ds->Prop,Q c ds->u ds Q xe)(q:Q (b&&c) ds):ttAnd t u ds Q xe:=h1 _ (by
 cases b with
 | false=>exact q
 | true=>exact h2 rfl _ q)
theorem if_of{a:VTT}(b:Bool)(h:∀ Q:Bool->Ds->Prop,Q b ds->a ds Q e.xe)(h1:b=true->t e ds)(h2:b=false->u e ds):sIf a t u e ds:=h _ (Ji h1 h2)
theorem qp9{a:VTT}{w:VTS}(b:Bool)(h:∀ Q:Bool->Ds->Prop,Q b ds->a ds Q e.xe)(h1:b=true->t { e with nx:=w e } ds)(h2:b=false->w e ds):Hn (sIf a t Jd) w e ds:=h _ (Ji h1 h2)
theorem qx9{t:VT}{n:VTS}(h:∀(Q:DK)(xe:XKd),Q (.bl true) ds->t ds Q xe)(h2:e.nx ds):sIf (Hw (ttE t)) n Jd e ds:=h _ _ h2
theorem qo3{g:VTG}{t:VTS}{e:VEnds}(I:Nat->Ds->Prop):∀(xs:List D)(i:Nat)(ds:Ds),I i ds->(∀(j:Nat)(x:D),xs[j]? = some x->∀ ds,I (i+j) ds->∀ K:Ds->Prop,(∀ a,I (i+j+1) a->K a)->g x ds λ ds1=>t { e with nx:=K,ct:=K,bk:=e.nx } ds1)->(∀ a,I (i+xs.length) a->e.nx a)->Bo g t e xs ds
 | [],_,ds,h,_,hn=>hn ds h
 | x::xs,i,ds,h,hs,hn=>hs 0 x rfl ds h _ λ a f=>qo3 I xs (i+1) a f (λ j y k b c K l=>hs (j+1) y k b (by rw[show i+(j+1)=i+1+j by grind -abstractProof];exact c) K λ d m=>l d (by rw[show i+1+j+1=i+(j+1)+1 by grind -abstractProof];exact m)) λ b c=>hn b (by rw[zAo,show i+(xs.length+1)=i+1+xs.length by grind -abstractProof];exact c)
theorem qG3{m:Nat}(h:(Bb 0 m)[j]? = some x):j < m/\x=.int (j:Int):=by
 by_cases a:j < m
 . rw[qv4 a] at h
   cases h;exact⟨a,by rw[Int.zero_add]⟩
 rw[List.getElem?_eq_none (by unfold Bb;rw[zAv,List.length_range];lia)] at h;cases h
theorem qg3(ds1:Ds)(h1:∀ K:Ds->Prop,K ds1->t { e with nx:=K } ds)(h2:u e ds1):Hn t u e ds:=h1 (u e) h2
theorem qm0(R:Ds->Prop)(h1:∀ K:Ds->Prop,(∀ ds1,R ds1->K ds1)->t { e with nx:=K } ds)(h2:∀ ds1,R ds1->u e ds1):Hn t u e ds:=h1 (u e) h2
theorem qX0(f:rdN i ds=some x)(c:rdN j ds=some y)(b:rdN i (ds.set j .u)=some x)(h:s [x,y] (λ d ys=>orF (An [.sl i,.sl j] ys ((ds.set j .u).set i .u)) λ a=>Q d a) (λ e ys=>orF (An [.sl i,.sl j] ys ((ds.set j .u).set i .u)) λ a=>xe e a)):qj6 s [] (tbN i (tbN j B4)) ds Q xe :=
 qd3 f (qd3 c (qa2 c (qa2 b h)))
theorem qR6{l:Nat}{w:D}(g:rdN i ds=some x)(k:rdN j ds=some y)(f:rdN l ds=some w)(b:rdN j (ds.set l .u)=some y)(c:rdN i ((ds.set l .u).set j .u)=some x)(h:s [x,y,w] (λ d ys=>orF (An [.sl i,.sl j,.sl l] ys (((ds.set l .u).set j .u).set i .u)) λ a=>Q d a) (λ e ys=>orF (An [.sl i,.sl j,.sl l] ys (((ds.set l .u).set j .u).set i .u)) λ a=>xe e a)):qj6 s [] (tbN i (tbN j (tbN l B4))) ds Q xe :=
 qd3 g (qd3 k (qd3 f (qa2 f (qa2 b (qa2 c h)))))
theorem qb9(h:ds[i]? = some d)(a:d.known=true):rdN i ds=some d:=qm4.mpr ⟨h,a⟩
def isBag(ns:List Int)(b:D):Prop:=∃ x y z,b=bagD x y z ns/\Bg x y z ns
theorem isBag.known{ns:List Int}{b:D}(h:isBag ns b):b.known=true:=by obtain⟨x,y,z,rfl,_⟩:=h;rfl
def qu5:VSp:=λ ds Q _=>∃ b m a,ds=[b,.int m]/\isBag a b/\0 < m/\m < 2 ^ 200/\∀ v c,0<=v->v < m->isBag a c->Q (.int v) [c,.int m]
theorem qg9{b:D}{ns:List Int}{m:Int}(d:ds[i]? = some b)(B:isBag ns b)(e:f ds=some (.int m))(h0:0 < m)(h1:m < 2 ^ 200)(q:∀ v a,0<=v->v < m->isBag ns a->Q (.int v) (ds.set i a)):qj6 qu5 [] (tbN i (tbV (Bj f) B4)) ds Q xe:=by
 have c:=qb9 d B.known;refine qd3 c (qe0 e (qa2 c ⟨b,m,ns,rfl,B,h0,h1,λ v a g h B'=>?_⟩));show Q (.int v) ((ds.set i .u).set i a);rw[List.set_set];exact q v a g h B'
theorem mulR{i j:Int}(h:A8 j=true):Hk (.int i) (.int j)=some (.int (i * j)):=qs7 (by grind)
theorem mulL{i j:Int}(h:A8 i=true):Hk (.int i) (.int j)=some (.int (i * j)):=qs7 (by grind)
theorem qR2{i j:Int}(h:0 < j)(h1:j < 2 ^ 200):gDiv (.int i) (.int j)=some (.int (i / j)):=qs7 (by show (decide (0 < j)&&decide (j < 2 ^ 200))=true;rw[zB5 h,zB5 h1];rfl)
theorem Hc{x n:Int}(h:0 < n):gMod (.int x) (.int n)=some (.int (x % n)):=qs7 (zB5 h)
theorem qF8{i:Int}(h:-(2 ^ 64) < i)(h':i < 2 ^ 64):A8 i=true:=by unfold A8;rw[zB5 h,zB5 h'];rfl
theorem qC1{g:VTG}{n:Int}(h:f ds=some (.int n))(h0:midI n=true)(k:Bo g t e (Bb 0 n.toNat) ds):qM2 (tOfB (tbV (Bj f) B4)) g t e ds:=by
 show orF (f ds) _;rw[h];exact⟨h0,k⟩
theorem qI2(e:f ds=some d)(hi:d.imm=true)(q:Q d ds):Hf f ds Q xe:=qa2 e ⟨hi,q⟩
theorem qL7(h:f ds=some d)(hi:d.imm=true)(q:e.nx (ds.set i d)):B9 (Hf f) (gNm i) e ds:=qI2 h hi q
theorem qE7{K:Ds->Prop}(hi:ds[i]? = some (.l false ys))(a:fb ds=some (.int k))(b:ixN ys.length k=some n)(q:K (ds.set i (.l false (ys.set n d)))):Hy (λ _=>some (i,[])) fb d ds K:=by
 refine qa2 rfl ?_;refine qa2 (by show (A7 ds i []).bind D.own=_;rw[qy0 hi];rfl) ?_;refine qa2 (by rw[a];rfl) ?_;refine qa2 b ?_;rw[qu9 hi];exact q
theorem qL4(a:f ds=some d)(b:d.imm=true)(hi:ds[i]? = some (.l false ys))(c:fb ds=some (.int k))(g:ixN ys.length k=some n)(q:e.nx (ds.set i (.l false (ys.set n d)))):B9 (Hf f) (Hy (λ _=>some (i,[])) fb) e ds :=
 qI2 a b (qE7 hi c g q)
theorem qD6(a:f ds=some d)(hi:ds[i]? = some (.l false ys))(b:fb ds=some (.int k))(c:ixN ys.length k=some n)(q:e.nx (ds.set i (.l false (ys.set n d)))):B9 (Bj f) (Hy (λ _=>some (i,[])) fb) e ds :=
 qH5 a (qE7 hi b c q)
theorem qD5{K:Ds->List Pl->Ds->Prop}(b:f ds=some y)(hi:y.imm=true)(h:tr ds (λ xs ps a=>K (y::xs) (.no::ps) a) xe):tbV (Hf f) tr ds K xe:=qI2 b hi h
theorem qX2{f:Int->Int->Int}{a:FV}{x y:Int}(hi:ds[i]? = some (.l false ys))(b:fb ds=some (.int k))(c:0<=k)(d:ys[k.toNat]? = some (.int x))(g:a ds=some (.int y))(q:e.nx (ds.set i (.l false (ys.set k.toNat (.int (f x y)))))):sAugV f (λ _=>some (i,[])) fb a e ds:=by
 refine qa2 rfl ?_;refine qa2 (by show (A7 ds i []).bind D.own=_;rw[qy0 hi];rfl) ?_;refine qa2 (by rw[b];rfl) ⟨c,?_⟩;refine qa2 (by rw[d];rfl) ?_;refine qa2 (by rw[g];rfl) ?_;rw[qu9 hi];exact q
theorem qI5{K:Ds->Prop}(h:K (ds.set i d)):gNm i d ds K:=h
theorem qc1{K:Ds->List Pl->Ds->Prop}(h:K [] [] ds):B4 ds K xe:=h
theorem qE8(h:te ds (λ _ a=>e.nx a) e.xe):sExpr te e ds:=h
theorem qI4{K:Ds->Prop}(h:K ((ds.set i x).set j y)):gTupV 2 (qJ0 (gNm i) (qJ0 (gNm j) gNilV)) (.q [x,y]) ds K:=⟨rfl,h⟩
theorem qK7{Q:Bool->Ds->Prop}(h:Q true ds):qYes ds Q xe:=h
theorem qb6{ta:VT}{K:Ds->List Pl->Ds->Prop}(h:ta ds (λ x ds1=>tr ds1 (λ xs ps a=>K (x::xs) (.no::ps) a) xe) xe):tbV ta tr ds K xe:=h
theorem qW5(h:y∈enD ys):∃ i v,y=.q [.int (i:Nat),v]/\ys[i]? = some v:=by
 obtain⟨⟨v,i⟩,a,rfl⟩:=List.mem_map.mp h;exact⟨i,v,rfl,List.mem_zipIdx_iff_getElem?.mp a⟩
theorem qj5(h:tr ds (λ xs ps ds1=>s (xs++[]) (λ d ys=>orF (An ps ys ds1) λ a=>Q d a) (λ x ys=>orF (An ps ys ds1) λ a=>xe x a)) xe):qj6 s [] tr ds Q xe:=h
theorem qd1(h:tr ds (λ xs _ ds1=>xs.length<=big/\Q (.l false xs) ds1) xe):tLstV tr ds Q xe:=h
theorem ql6(h:te ds (λ d a=>e.nx (a.set i d)) e.xe):B9 te (gNm i) e ds:=h
theorem qf8{K:Ds->List Pl->Ds->Prop}(b:f ds=some y)(h:tr ds (λ xs ps a=>K (y.fz::xs) (.no::ps) a) xe):tbV (tFzV (Bj f)) tr ds K xe:=qa2 b h
theorem fz_to(h:te ds (λ d ds1=>Q d.fz ds1) xe):tFzV te ds Q xe:=h
local macro_rules | `(tactic| walk_at "s")=>`(tactic| exact⟨rfl,rfl,rfl,by decide +kernel,rfl,by decide +kernel,by decide +kernel⟩)
local macro_rules | `(tactic| walk_at "m")=>`(tactic| (intro _ _ _ _ _ k l;repeat' first | exact id | exact k _ _ | exact l _ _ | refine Exists.imp λ _=>?_ | refine And.imp ?_ ?_ | refine Or.imp ?_ ?_ | refine forall_imp λ _=>?_))
local macro_rules | `(tactic| walk_at "l")=>`(tactic| (intro _ _ _ h;(repeat (first | refine Exists.elim h λ _ h=>?_ | refine And.elim (λ h _=>?_) h));rw[h];exact⟨rfl,rfl⟩))
theorem lt2:2<=big:=by show 2<=1000000;decide
theorem lt4:4<=big:=by show 4<=1000000;decide
noncomputable def top(i:Nat):Ku:=PySem.Challenge.pw_homeward_k15_refusals_apart.main.body.getD i (.Pass ⟨0,0,0,0⟩)
abbrev qe3:Ku:=qh7 (top 2) 0
abbrev qd6:Ku:=qh7 (top 3) 0
abbrev qe4:Ku:=qh7 (top 4) 0
abbrev qc5:Ku:=qh7 (top 5) 0
abbrev qd4:Ku:=qh7 (top 6) 0
abbrev qd5:Ku:=qh7 (top 8) 0
abbrev qc9:Ku:=qh7 (top 11) 0
abbrev qF9:Ku:=top 13
abbrev qv1:Ku:=top 14
abbrev qk0:Ku:=top 15
abbrev qk1:Ku:=top 16
abbrev qv2:Ku:=top 17
abbrev qk2:Ku:=top 18
abbrev Hj:Ku:=top 19
set_option genInjectivity false in
set_option genSizeOf false in
structure Adr where
 f0:γ
 d0:δ
 f1:γ
 d1:δ
 f2:γ
 d2:δ
 f3:γ
 d3:δ
 f4:γ
 d4:δ
 f5:γ
 d5:δ
 f6:γ
 d6:δ
 f7:γ
 d7:δ
 f8:γ
 d8:δ
 f9:γ
 d9:δ
 f10:γ
 d10:δ
 f11:γ
 d11:δ
 f12:γ
 d12:δ
 f13:γ
 d13:δ
 Cl:γ
 Ci:γ
 Ce:γ
 Cj:γ
 Ca:γ
 Cd:γ
 Cg:γ
 Cf:γ
 Ck:γ
 Ch:γ
 Cc:γ
structure Txt(K:Mf)(mg:Str->Option V')(a:Adr):Prop where
 d0:Md K a.Ci "__init__" "Wrong.__init__" qe3 a.f0 a.d0 ["self", "at"]
 d1:Md K a.Ce "__init__" "NoRoom.__init__" qd6 a.f1 a.d1 ["self", "room"]
 d2:Md K a.Cj "__init__" "There.__init__" qe4 a.f2 a.d2 ["self", "key"]
 d3:Md K a.Ca "__init__" "NotThere.__init__" qc5 a.f3 a.d3 ["self", "key"]
 d4:Md K a.Cd "__init__" "Unkept.__init__" qd4 a.f4 a.d4 ["self", "word", "room"]
 d5:Md K a.Cf "__init__" "NoText.__init__" qd5 a.f5 a.d5 ["self", "at"]
 d6:Md K a.Cc "__init__" "TooMany.__init__" qc9 a.f6 a.d6 ["self", "most"]
 d7:Df K mg "_law_bag" "_law_bag" qF9 a.f7 a.d7 ["_law_script"]
 d8:Df K mg "_law_take" "_law_take" qv1 a.f8 a.d8 ["_law_bag_here", "_law_many"]
 d9:Df K mg "_law_raised" "_law_raised" qk0 a.f9 a.d9 ["_law_which", "_law_thing", "_law_other"]
 d10:Df K mg "_law_fields" "_law_fields" qk1 a.f10 a.d10 ["_law_which", "_law_e"]
 d11:Df K mg "_law_kept" "_law_kept" qv2 a.f11 a.d11 ["_law_which", "_law_e", "_law_due"]
 d12:Df K mg "_law_caught" "_law_caught" qk2 a.f12 a.d12 ["_law_which", "_law_thing", "_law_other", "_law_again"]
 d13:Df K mg "law" "law" Hj a.f13 a.d13 ["_law_script"]
 Dm:mg "ValueError" = none
 Km:mg "abs" = none
 Ki:mg "bool" = none
 Gu:mg "enumerate" = none
 Cb:mg "isinstance" = none
 Kl:mg "len" = none
 Gp:mg "range" = none
 F4:mg "HomeError" = some (.ref a.Cl)
 Dz:Exc K a.Cl
 G6:mg "Wrong" = some (.ref a.Ci)
 Gx:Exc K a.Ci
 Ke:Me K (.ref a.Ci) (.type "ValueError")=some true
 Gs:MkE K a.Ci a.f0
 Gf:qc2 K a.Ci "at"
 Kg:IsX K a.Ci
 Fh:Me K (.ref a.Ci) (.ref a.Ce)=some false
 Gd:Me K (.ref a.Ci) (.ref a.Cj)=some false
 Dl:Me K (.ref a.Ci) (.ref a.Ca)=some false
 G0:Me K (.ref a.Ci) (.ref a.Cd)=some false
 Ft:Me K (.ref a.Ci) (.ref a.Cg)=some false
 F9:Me K (.ref a.Ci) (.ref a.Cf)=some false
 Gc:Me K (.ref a.Ci) (.ref a.Ck)=some false
 Fe:Me K (.ref a.Ci) (.ref a.Ch)=some false
 E8:Me K (.ref a.Ci) (.ref a.Cc)=some false
 E2:W.mroIn K a.Ci (.ref a.Cl)=some true
 Dx:mg "NoRoom" = some (.ref a.Ce)
 Gm:Exc K a.Ce
 Ka:Me K (.ref a.Ce) (.type "ValueError")=some true
 Gk:MkE K a.Ce a.f1
 Cw:qc2 K a.Ce "room"
 K9:IsX K a.Ce
 Fr:Me K (.ref a.Ce) (.ref a.Ci)=some false
 Fl:Me K (.ref a.Ce) (.ref a.Cj)=some false
 D2:Me K (.ref a.Ce) (.ref a.Ca)=some false
 Ek:Me K (.ref a.Ce) (.ref a.Cd)=some false
 Ei:Me K (.ref a.Ce) (.ref a.Cg)=some false
 El:Me K (.ref a.Ce) (.ref a.Cf)=some false
 Fa:Me K (.ref a.Ce) (.ref a.Ck)=some false
 En:Me K (.ref a.Ce) (.ref a.Ch)=some false
 E5:Me K (.ref a.Ce) (.ref a.Cc)=some false
 D4:W.mroIn K a.Ce (.ref a.Cl)=some true
 G7:mg "There" = some (.ref a.Cj)
 Gw:Exc K a.Cj
 Kc:Me K (.ref a.Cj) (.type "ValueError")=some true
 Gy:MkE K a.Cj a.f2
 Ez:qc2 K a.Cj "key"
 Kd:IsX K a.Cj
 Gg:Me K (.ref a.Cj) (.ref a.Ci)=some false
 Fg:Me K (.ref a.Cj) (.ref a.Ce)=some false
 Dn:Me K (.ref a.Cj) (.ref a.Ca)=some false
 Fd:Me K (.ref a.Cj) (.ref a.Cd)=some false
 F8:Me K (.ref a.Cj) (.ref a.Cg)=some false
 Fc:Me K (.ref a.Cj) (.ref a.Cf)=some false
 G8:Me K (.ref a.Cj) (.ref a.Ck)=some false
 Fy:Me K (.ref a.Cj) (.ref a.Ch)=some false
 Et:Me K (.ref a.Cj) (.ref a.Cc)=some false
 Du:W.mroIn K a.Cj (.ref a.Cl)=some true
 Cm:mg "NotThere" = some (.ref a.Ca)
 F6:Exc K a.Ca
 Gq:Me K (.ref a.Ca) (.type "ValueError")=some true
 F7:MkE K a.Ca a.f3
 Cp:qc2 K a.Ca "key"
 Gr:IsX K a.Ca
 Dw:Me K (.ref a.Ca) (.ref a.Ci)=some false
 De:Me K (.ref a.Ca) (.ref a.Ce)=some false
 Dh:Me K (.ref a.Ca) (.ref a.Cj)=some false
 Dc:Me K (.ref a.Ca) (.ref a.Cd)=some false
 D3:Me K (.ref a.Ca) (.ref a.Cg)=some false
 Da:Me K (.ref a.Ca) (.ref a.Cf)=some false
 Dk:Me K (.ref a.Ca) (.ref a.Ck)=some false
 D6:Me K (.ref a.Ca) (.ref a.Ch)=some false
 Cs:Me K (.ref a.Ca) (.ref a.Cc)=some false
 Co:W.mroIn K a.Ca (.ref a.Cl)=some true
 Do:mg "Unkept" = some (.ref a.Cd)
 Cr:Exc K a.Cd
 K7:Me K (.ref a.Cd) (.type "ValueError")=some true
 Go:MkE K a.Cd a.f4
 Cy:qc2 K a.Cd "word"
 Cv:qc2 K a.Cd "room"
 K8:IsX K a.Cd
 Fw:Me K (.ref a.Cd) (.ref a.Ci)=some false
 Ep:Me K (.ref a.Cd) (.ref a.Ce)=some false
 G4:Me K (.ref a.Cd) (.ref a.Cj)=some false
 D7:Me K (.ref a.Cd) (.ref a.Ca)=some false
 Ex:Me K (.ref a.Cd) (.ref a.Cg)=some false
 Ev:Me K (.ref a.Cd) (.ref a.Cf)=some false
 Fp:Me K (.ref a.Cd) (.ref a.Ck)=some false
 Eb:Me K (.ref a.Cd) (.ref a.Ch)=some false
 Dq:Me K (.ref a.Cd) (.ref a.Cc)=some false
 Db:W.mroIn K a.Cd (.ref a.Cl)=some true
 Dj:mg "Unlike" = some (.ref a.Cg)
 Kk:Exc K a.Cg
 K5:Me K (.ref a.Cg) (.type "ValueError")=some true
 Gj:Bw K a.Cg
 K3:IsX K a.Cg
 Fo:Me K (.ref a.Cg) (.ref a.Ci)=some false
 Ey:Me K (.ref a.Cg) (.ref a.Ce)=some false
 Fm:Me K (.ref a.Cg) (.ref a.Cj)=some false
 D1:Me K (.ref a.Cg) (.ref a.Ca)=some false
 Ec:Me K (.ref a.Cg) (.ref a.Cd)=some false
 Ea:Me K (.ref a.Cg) (.ref a.Cf)=some false
 Fj:Me K (.ref a.Cg) (.ref a.Ck)=some false
 Eu:Me K (.ref a.Cg) (.ref a.Ch)=some false
 Dv:Me K (.ref a.Cg) (.ref a.Cc)=some false
 D9:W.mroIn K a.Cg (.ref a.Cl)=some true
 E7:mg "NoText" = some (.ref a.Cf)
 Gn:Exc K a.Cf
 K1:Me K (.ref a.Cf) (.type "ValueError")=some true
 Gi:MkE K a.Cf a.f5
 F5:qc2 K a.Cf "at"
 K6:IsX K a.Cf
 G1:Me K (.ref a.Cf) (.ref a.Ci)=some false
 Er:Me K (.ref a.Cf) (.ref a.Ce)=some false
 Fi:Me K (.ref a.Cf) (.ref a.Cj)=some false
 D0:Me K (.ref a.Cf) (.ref a.Ca)=some false
 Ew:Me K (.ref a.Cf) (.ref a.Cd)=some false
 Es:Me K (.ref a.Cf) (.ref a.Cg)=some false
 G3:Me K (.ref a.Cf) (.ref a.Ck)=some false
 Ee:Me K (.ref a.Cf) (.ref a.Ch)=some false
 E4:Me K (.ref a.Cf) (.ref a.Cc)=some false
 D5:W.mroIn K a.Cf (.ref a.Cl)=some true
 G5:mg "NoRow" = some (.ref a.Ck)
 Kn:Exc K a.Ck
 Kf:Me K (.ref a.Ck) (.type "ValueError")=some true
 Gv:Bw K a.Ck
 Kh:IsX K a.Ck
 Ge:Me K (.ref a.Ck) (.ref a.Ci)=some false
 Fq:Me K (.ref a.Ck) (.ref a.Ce)=some false
 G9:Me K (.ref a.Ck) (.ref a.Cj)=some false
 Di:Me K (.ref a.Ck) (.ref a.Ca)=some false
 Fb:Me K (.ref a.Ck) (.ref a.Cd)=some false
 Fx:Me K (.ref a.Ck) (.ref a.Cg)=some false
 Fs:Me K (.ref a.Ck) (.ref a.Cf)=some false
 Fv:Me K (.ref a.Ck) (.ref a.Ch)=some false
 Ej:Me K (.ref a.Ck) (.ref a.Cc)=some false
 Dt:W.mroIn K a.Ck (.ref a.Cl)=some true
 Dr:mg "NoPlan" = some (.ref a.Ch)
 Kj:Exc K a.Ch
 K4:Me K (.ref a.Ch) (.type "ValueError")=some true
 Gh:Bw K a.Ch
 Kb:IsX K a.Ch
 Ff:Me K (.ref a.Ch) (.ref a.Ci)=some false
 Eo:Me K (.ref a.Ch) (.ref a.Ce)=some false
 Fk:Me K (.ref a.Ch) (.ref a.Cj)=some false
 Cz:Me K (.ref a.Ch) (.ref a.Ca)=some false
 Eh:Me K (.ref a.Ch) (.ref a.Cd)=some false
 Em:Me K (.ref a.Ch) (.ref a.Cg)=some false
 Ed:Me K (.ref a.Ch) (.ref a.Cf)=some false
 G2:Me K (.ref a.Ch) (.ref a.Ck)=some false
 Dy:Me K (.ref a.Ch) (.ref a.Cc)=some false
 D8:W.mroIn K a.Ch (.ref a.Cl)=some true
 Cq:mg "TooMany" = some (.ref a.Cc)
 Ga:Exc K a.Cc
 Gz:Me K (.ref a.Cc) (.type "ValueError")=some true
 Gb:MkE K a.Cc a.f6
 Cn:qc2 K a.Cc "most"
 K0:IsX K a.Cc
 Ef:Me K (.ref a.Cc) (.ref a.Ci)=some false
 E3:Me K (.ref a.Cc) (.ref a.Ce)=some false
 E9:Me K (.ref a.Cc) (.ref a.Cj)=some false
 Cu:Me K (.ref a.Cc) (.ref a.Ca)=some false
 Dg:Me K (.ref a.Cc) (.ref a.Cd)=some false
 E1:Me K (.ref a.Cc) (.ref a.Cg)=some false
 E6:Me K (.ref a.Cc) (.ref a.Cf)=some false
 Eg:Me K (.ref a.Cc) (.ref a.Ck)=some false
 Dp:Me K (.ref a.Cc) (.ref a.Ch)=some false
 Ct:W.mroIn K a.Cc (.ref a.Cl)=some true
section
variable{P:Kq}{w:Ks}{K:Mf}{mg:Str->Option V'}{base:Heap}{a:Adr}
theorem qL8:qb2 ["_law_script"] ["_law_script"] (qa1 qF9):=by walk_at "s"
theorem qP0(T:Txt K mg a):Bm P w K mg base CX0 1 a.f7 a.d7 ["_law_script"] (qS4 K):=by
 refine T.d7.F.ok qL8 (λ J H Q E h=>?_) (λ L A outer s H J Q E O h=>?_)
 . obtain⟨l,d,rfl,_⟩:=h
   rfl
 obtain⟨l,d,rfl,M,R,k⟩:=h;refine⟨_,(qe8 (qN0 (qH0 (qb8 qn8 (qb8 qn8 (qb8 qn8 (qb8 (qO3 ["_law_cell"] [none] (qN5 (qG9 qL6 (pv 0) qN4 (qN3 qn8))) (λ C B H0 G=>(gnm 0 (show (["_law_cell"]:List Str).Nodup by decide +kernel))) (λ C B H0 G=>qN8) (λ C B H0 G=>(cbi qK4 T.Km (qb8 (pv 0) qh3)))) qh3))))))),?_⟩;refine⟨_,rfl,_,rfl,l,_,rfl,M,λ c N=>?_⟩;have ec:Ix (d.map V.int) none (some 63)=d.map V.int:=by
   unfold Ix;have t:HT.sIx (d.map V.int).length (d.map V.int).length (some (63:Int))=min 63 (d.map V.int).length:=HT.qM1 _ _ 63;rw[t,HT.qG1,List.drop_zero,Nat.sub_zero];apply Lf;rw[zAv];lia
 rw[ec];refine⟨c,rfl,⟨_,SqL.of qa3⟩,λ D r=>?_⟩;have I:D≠c:=λ z=>by rw[z,qa3] at r;cases r
 have g:H D=none:=by rw[qa4 I] at r;exact r
 refine qC9 (K:=K) (xs:=d.map V.int) (λ i σ H1=>∃ v,σ=[v]/\H1=upd (upd H c (.l (d.map V.int))) D (.l (((d.take i).map λ n=>if n < 0 then -n else n).map V.int))) ⟨none,rfl,rfl⟩ ?_ ?_ ?_
 . rintro i σ H1 _ ⟨v,rfl,rfl⟩
   refine SqL.of ?_;rw[qa4 I.symm,qa3]
 . rintro i x σ H1 j ⟨v,rfl,rfl⟩
   obtain⟨n,u,rfl⟩:∃ n,d[i]? = some n/\V.int n=x:=by
     rw[zB0] at j;cases e:d[i]? with
     | none=>rw[e] at j;cases j
     | some z=>rw[e] at j;exact⟨z,rfl,Mc j⟩
   refine⟨_,rfl,_,rfl,_,qa3,?_,_,rfl,?_⟩
   . rw[zAv,zAv,La]
     exact qA4 (by lia)
   rw[qD2];congr 1;rw[Lq,u];simp
 rintro σ H1 ⟨v,rfl,rfl⟩;rw[zAv,Lf (zA6 _)];refine⟨by show 4<=Jk;decide,λ p f=>?_⟩;have q:p≠D:=λ z=>by rw[z,qa3] at f;cases f
 rw[qa4 q] at f;have y:p≠c:=λ z=>by rw[z,qa3] at f;cases f
 rw[qa4 y] at f;refine k p D _ f g (λ b o e=>?_) ⟨0,1234567891,0,d.map λ n=>if n < 0 then -n else n,qa3,?_,by decide,by decide,by decide,by decide,?_⟩
 . rw[qa4 (qa9 e f),qa4 (qa9 e g),qa4 (qa9 e N)]
   exact e
 . rw[qa4 q.symm,qa3]
 intro n u;obtain⟨m,_,rfl⟩:=List.mem_map.mp u
 split<;>lia
theorem qf7:qb2 ["_law_bag_here", "_law_many", "_law_cell", "_law_value", "_law_first", "_law_second"] ["_law_bag_here", "_law_many"] (qa1 qv1):=by walk_at "s"
theorem qh4(T:Txt K mg a):VFn P w K mg base 1 a.f8 a.d8 ["_law_bag_here", "_law_many"] qu5:=by
 refine VFn.mk' T.d8.F qf7 (wOf [true,true]) (λ r Q Q' u J L _ h=>by obtain⟨b,m,g,e,H,A,M,q⟩:=h;exact⟨b,m,g,e,H,A,M,λ v N O R B=>L _ _ (q v N O R B)⟩) (λ r Q u ⟨b,m,g,e,_⟩=>by rw[e];rfl) (λ r Q u h=>by obtain⟨b,m,g,e,⟨x,y,z,S,_⟩,_⟩:=h;rw[e,S];rfl) (λ _ _ _ _ _ _ _ U=>⟨_,(Aa (sif (q2 (Ae (qc0 U.u64) (qb3 _)) Aj (v2 (Aw qd2) Am (vnm 0) Ab) Ab) (Aa (Aq 2 qf7.nd (qa7 Ab)) (Aa (sif (q2 (Ae op_lt (qb3 _)) os_lt (v2 (Aw qd2) Am (vnm 0) Ab) (vbi qW9 qW8.ops T.Kl (qb0 (v2 (Aw qd2) Am (vnm 0) Ab) qd0 rfl))) (Ad (Aq 2 qf7.nd (qd9 (v2 (Aw qd2) Am (v2 (Aw qd2) Am (vnm 0) Ab) (v2 (Aw qd2) Am (vnm 0) Ab))))) Ak) (Aa (saug (vpn 0) Ab Ab qV7) (Aa (sif (q2 (Ae op_ge (qb3 _)) os_ge (vnm 2) Ab) (Ad (sasg (qd9 (vnm 2)) (Je (vpn 0) Ab))) Ak) (Ad (sasg (qa7 (v2 (Ag qk7) qk6 (v2 (Ag qi4) qi3 (v2 (Ag qi4) qi3 (v2 (Ag qs2) qs1 (v2 (Aw qd2) Am (vnm 0) Ab) Ab) (v2 (Ag qk7) qk6 (vnm 2) Ab)) (v2 (Ag qs2) qs1 Ab (v2 (Aw qd2) Am (vnm 0) Ab))) Ab)) (Je (vpn 0) Ab))))))) Ak) (Aa (sif (q2 (Ae op_gt (qb3 _)) os_gt (v2 (Aw qd2) Am (vnm 0) Ab) Ab) (Aa (Aq 3 qf7.nd (qa7 (v2 (Ag qk7) qk6 (v2 (Aw qd2) Am (vnm 0) Ab) (vnm 1)))) (Aa (sasg (qa7 (v2 (Ag qw0) qO8 (v2 (Aw qd2) Am (vnm 0) Ab) (vnm 1))) (Je (vpn 0) Ab)) (Ad (Ap (emv 3))))) Ak) (Aa (Aq 4 qf7.nd (qa7 (v2 (Ag qk7) qk6 (v2 (Ag qs2) qs1 (v2 (Ag qi4) qi3 (v2 (Aw qd2) Am (vnm 0) Ab) Ab) Ab) Ab))) (Aa (Aq 5 qf7.nd (qa7 (v2 (Ag qk7) qk6 (v2 (Ag qs2) qs1 (v2 (Ag qk7) qk6 (v2 (Ag qs2) qs1 (vnm 4) (vnm 4)) Ab) Ab) Ab))) (Aa (sif (q2 (Ae op_gt (qb3 _)) os_gt (vnm 1) Ab) (Ad (Ap (qa7 (v2 (Ag qk7) qk6 (v2 (Ag qi4) qi3 (v2 (Ag qs2) qs1 (vnm 5) Ab) (vnm 4)) (vnm 1))))) Ak) (Ad (Ap (qa7 (v2 (Ag qk7) qk6 (v2 (Ag qw0) qO8 (vnm 5) Ab) (vnm 1)))))))))),λ r Q u h=>?_⟩);obtain⟨b,m,g,rfl,⟨x,y,z,rfl,B⟩,p,C,k⟩:=h;refine Av [bagD x y z g,.int m,.u,.u,.u,.u] rfl ?_;refine qm0 (λ r=>∃ j o t c,r=[bagD j o t g,.int m,c,.u,.u,.u]/\Bg j o t g) (λ K l=>?_) ?_
 . refine if_v (b:=decide (x=0)) rfl (λ _=>?_) (λ _=>l _ ⟨x,y,z,_,rfl,B⟩)
   refine qg3 [bagD x y z g,.int m,.int 0,.u,.u,.u] (λ K l=>l) ?_;refine qm0 (λ r=>∃ c:Int,0<=c/\r=[bagD x y z g,.int m,.int c,.u,.u,.u]) (λ K l=>?_) ?_
   . refine if_v (b:=decide (z < (((g.map D.int).length:Nat):Int))) rfl (λ A=>?_) (λ _=>l _ ⟨0,by decide,rfl⟩)
     obtain⟨v,V,e⟩:=qz6 (xs:=g.map D.int) (i:=z) B.z0 (zAt A);obtain⟨c,E,rfl⟩:=List.mem_map.mp V;exact qL7 (Ah (y:=.int z) (x:=.l false (g.map .int)) rfl rfl e) rfl (l _ ⟨c,B.nn c E,rfl⟩)
   rintro r ⟨c,E,rfl⟩;refine qg3 [bagD x y (z+1) g,.int m,.int c,.u,.u,.u] (λ K l=>?_) ?_
   . exact qX2 (k:=2) (x:=z) (y:=1) (ys:=[.int x,.int y,.int z,.l false (g.map .int)]) rfl rfl (by decide) rfl rfl l
   refine qm0 (λ r=>∃ j:Int,0<=j/\r=[bagD j y (z+1) g,.int m,.int c,.u,.u,.u]) (λ K l=>?_) ?_
   . refine if_v (b:=decide (1000000000000000000<=c)) rfl (λ _=>?_) (λ _=>l _ ⟨x,B.x0,rfl⟩)
     exact qL4 (d:=.int c) (ys:=[.int x,.int y,.int (z+1),.l false (g.map .int)]) (k:=0) (n:=0) rfl rfl rfl rfl rfl (l _ ⟨c,E,rfl⟩)
   rintro r ⟨j,G,rfl⟩;have W:f2 gMod (f2 Il (f2 Il (f2 Hk (f2 gIx (rdN 0) (kC (.int 1))) (kC (.int 48271))) (f2 gMod (rdN 2) (kC (.int 2147483647)))) (f2 Hk (kC (.int 7919)) (f2 gIx (rdN 0) (kC (.int 2))))) (kC (.int 2147483647)) [bagD j y (z+1) g,.int m,.int c,.u,.u,.u]=some (.int ((y * 48271+c % 2147483647+7919 * (z+1)) % 2147483647)) :=
     Ah (Ah (Ah (Ah (x:=.int y) rfl rfl (mulR (by decide))) (Ah rfl rfl (Hc (by decide))) rfl) (Ah (y:=.int (z+1)) rfl rfl (mulL (by decide))) rfl) rfl (Hc (by decide))
   exact qD6 (ys:=[.int j,.int y,.int (z+1),.l false (g.map .int)]) (k:=1) (n:=1) W rfl rfl rfl (l _ ⟨j,_,z+1,_,rfl,G,Int.emod_nonneg _ (by decide),Int.emod_lt_of_pos _ (by decide),by have:=B.z0;lia,B.nn⟩)
 rintro r ⟨j,o,t,c,rfl,B'⟩;refine qa0 (decide (0 < j)) rfl (λ H=>?_) λ _=>?_
 . refine qg3 [bagD j o t g,.int m,c,.int (j % m),.u,.u] (λ K l=>qa2 (Ah (x:=.int j) rfl rfl (Hc p)) l) ?_
   refine qg3 [bagD (j / m) o t g,.int m,c,.int (j % m),.u,.u] (λ K l=>?_) ?_
   . exact qD6 (ys:=[.int j,.int o,.int t,.l false (g.map .int)]) (k:=0) (n:=0) (Ah (x:=.int j) rfl rfl (qR2 p C)) rfl rfl rfl l
   exact k (j % m) _ (Int.emod_nonneg _ (by lia)) (Int.emod_lt_of_pos _ p) ⟨_,_,_,rfl,Int.ediv_nonneg B'.x0 (by lia),B'.y0,B'.y1,B'.z0,B'.nn⟩
 have X:0<=(o+1) * 39373 % 1000000007:=Int.emod_nonneg _ (by decide);have Y:(o+1) * 39373 % 1000000007 < 1000000007:=Int.emod_lt_of_pos _ (by decide);refine qg3 [bagD j o t g,.int m,c,.u,.int ((o+1) * 39373 % 1000000007),.u] (λ K l=>qa2 (Ah (Ah (Ah (x:=.int o) rfl rfl rfl) rfl (mulR (by decide))) rfl (Hc (by decide))) l) ?_;generalize (o+1) * 39373 % 1000000007=f at X Y;refine qg3 [bagD j o t g,.int m,c,.u,.int f,.int (f * f % 998244353 * 30011 % 998244353)] (λ K l=>qa2 (Ah (Ah (Ah (Ah rfl rfl (mulL (qF8 (by lia) (by lia)))) rfl (Hc (by decide))) rfl (mulR (by decide))) rfl (Hc (by decide))) l) ?_;generalize f * f % 998244353 * 30011 % 998244353=s;have I:∀ v,Q (.int (v % m)) [bagD j o t g,.int m]:=λ v=>k _ _ (Int.emod_nonneg _ (by lia)) (Int.emod_lt_of_pos _ p) ⟨_,_,_,rfl,B'⟩
 refine qa0 (decide (1000000 < m)) rfl (λ _=>?_) λ _=>?_
 . exact qh1 _ (Ah (Ah (Ah rfl rfl (mulR (by decide))) rfl rfl) rfl (Hc p)) (I _)
 exact qh1 _ (Ah (Ah rfl rfl (qR2 (by decide) (by decide))) rfl (Hc p)) (I _)
theorem qm1:qb2 ["self", "at"] ["self", "at"] (qa1 qe3):=by walk_at "s"
theorem qg0(T:Txt K mg a):Al false P w K mg base CX0 1 a.f0 a.d0 ["self", "at"] (Hi a.Ci "at"):=by
 refine T.d0.F.okB qm1 (λ b H Q E h=>?_) (λ c A outer s H b Q E j h=>?_)
 . obtain⟨e,v,rfl,_⟩:=h
   rfl
 obtain⟨e,v,rfl,d,k⟩:=h;exact⟨_,(qe8 (qf9 (pv 0) (pv 1))),_,rfl,_,rfl,e,a.Ci,rfl,T.Gx,T.Gf,.inl ⟨d,λ f g i=>k f g i⟩⟩
theorem qj9:qb2 ["self", "room"] ["self", "room"] (qa1 qd6):=by walk_at "s"
theorem qf1(T:Txt K mg a):Al false P w K mg base CX0 1 a.f1 a.d1 ["self", "room"] (Hi a.Ce "room"):=by
 refine T.d1.F.okB qj9 (λ b H Q E h=>?_) (λ c A outer s H b Q E j h=>?_)
 . obtain⟨e,v,rfl,_⟩:=h
   rfl
 obtain⟨e,v,rfl,d,k⟩:=h;exact⟨_,(qe8 (qf9 (pv 0) (pv 1))),_,rfl,_,rfl,e,a.Ce,rfl,T.Gm,T.Cw,.inl ⟨d,λ f g i=>k f g i⟩⟩
theorem qm2:qb2 ["self", "key"] ["self", "key"] (qa1 qe4):=by walk_at "s"
theorem qg1(T:Txt K mg a):Al false P w K mg base CX0 1 a.f2 a.d2 ["self", "key"] (Hi a.Cj "key"):=by
 refine T.d2.F.okB qm2 (λ b H Q E h=>?_) (λ c A outer s H b Q E j h=>?_)
 . obtain⟨e,v,rfl,_⟩:=h
   rfl
 obtain⟨e,v,rfl,d,k⟩:=h;exact⟨_,(qe8 (qf9 (pv 0) (pv 1))),_,rfl,_,rfl,e,a.Cj,rfl,T.Gw,T.Ez,.inl ⟨d,λ f g i=>k f g i⟩⟩
theorem qh0:qb2 ["self", "key"] ["self", "key"] (qa1 qc5):=by walk_at "s"
theorem qd7(T:Txt K mg a):Al false P w K mg base CX0 1 a.f3 a.d3 ["self", "key"] (Hi a.Ca "key"):=by
 refine T.d3.F.okB qh0 (λ b H Q E h=>?_) (λ c A outer s H b Q E j h=>?_)
 . obtain⟨e,v,rfl,_⟩:=h
   rfl
 obtain⟨e,v,rfl,d,k⟩:=h;exact⟨_,(qe8 (qf9 (pv 0) (pv 1))),_,rfl,_,rfl,e,a.Ca,rfl,T.F6,T.Cp,.inl ⟨d,λ f g i=>k f g i⟩⟩
theorem qj7:qb2 ["self", "word", "room"] ["self", "word", "room"] (qa1 qd4):=by walk_at "s"
theorem qe9(T:Txt K mg a):Al false P w K mg base CX0 1 a.f4 a.d4 ["self", "word", "room"] (spX2 a.Cd "word" "room"):=by
 refine T.d4.F.okB qj7 (λ d H Q E h=>?_) (λ f A outer s H d Q E j h=>?_)
 . obtain⟨e,v,y,rfl,_⟩:=h
   rfl
 obtain⟨e,v,y,rfl,g,k⟩:=h;exact⟨_,(qn6 (qf9 (pv 0) (pv 1))
   (qe8 (qf9 (pv 0) (pv 2)))),_,rfl,_,rfl,e,a.Cd,rfl,T.Cr,T.Cy,.inl ⟨g,λ b i c=>⟨_,rfl,_,rfl,e,a.Cd,rfl,T.Cr,T.Cv,.inr ⟨b,[("word",v)],qa3,by rw[qa4 c,qa3],by show 1 < 1000;decide,k b i c⟩⟩⟩⟩
theorem qj8:qb2 ["self", "at"] ["self", "at"] (qa1 qd5):=by walk_at "s"
theorem qf0(T:Txt K mg a):Al false P w K mg base CX0 1 a.f5 a.d5 ["self", "at"] (Hi a.Cf "at"):=by
 refine T.d5.F.okB qj8 (λ b H Q E h=>?_) (λ c A outer s H b Q E j h=>?_)
 . obtain⟨e,v,rfl,_⟩:=h
   rfl
 obtain⟨e,v,rfl,d,k⟩:=h;exact⟨_,(qe8 (qf9 (pv 0) (pv 1))),_,rfl,_,rfl,e,a.Cf,rfl,T.Gn,T.F5,.inl ⟨d,λ f g i=>k f g i⟩⟩
theorem qi2:qb2 ["self", "most"] ["self", "most"] (qa1 qc9):=by walk_at "s"
theorem qe1(T:Txt K mg a):Al false P w K mg base CX0 1 a.f6 a.d6 ["self", "most"] (Hi a.Cc "most"):=by
 refine T.d6.F.okB qi2 (λ b H Q E h=>?_) (λ c A outer s H b Q E j h=>?_)
 . obtain⟨e,v,rfl,_⟩:=h
   rfl
 obtain⟨e,v,rfl,d,k⟩:=h;exact⟨_,(qe8 (qf9 (pv 0) (pv 1))),_,rfl,_,rfl,e,a.Cc,rfl,T.Ga,T.Cn,.inl ⟨d,λ f g i=>k f g i⟩⟩
theorem qm3:qb2 ["_law_which", "_law_thing", "_law_other"] ["_law_which", "_law_thing", "_law_other"] (qa1 qk0):=by walk_at "s"
noncomputable def xD(a:Adr)(t o:D):Nat->Exn
 | 0=>⟨a.Ci,[("at",t)]⟩
 | 1=>⟨a.Ce,[("room",t)]⟩
 | 2=>⟨a.Cj,[("key",t)]⟩
 | 3=>⟨a.Ca,[("key",t)]⟩
 | 4=>⟨a.Cd,[("word",t),("room",o)]⟩
 | 5=>⟨a.Cf,[("at",t)]⟩
 | 6=>⟨a.Cc,[("most",t)]⟩
 | 7=>⟨a.Cg,[]⟩
 | 8=>⟨a.Ck,[]⟩
 | _=>⟨a.Ch,[]⟩
structure Odd(x:D):Prop where
 kn:x.known=true
 im:x.imm=true
theorem ten(h:n < 10):n=0∨n=1∨n=2∨n=3∨n=4∨n=5∨n=6∨n=7∨n=8∨n=9:=by lia
def ql8(a:Adr):VSp:=λ ds _ xe=>∃ w t o,ds=[.int (w:Nat),t,o]/\w < 10/\Odd t/\Odd o/\xe (xD a t o w) ds
theorem qw2(T:Txt K mg a):VFn P w K mg base 3 a.f9 a.d9 ["_law_which", "_law_thing", "_law_other"] (ql8 a):=by
 refine VFn.mk2 T.d9.F qm3 (wOf [true,true,true]) (λ g Q Q' j l _ m ⟨w,t,o,e,n,p,r,q⟩=>⟨w,t,o,e,n,p,r,m _ _ q⟩) (λ g Q j ⟨w,t,o,e,_⟩=>by rw[e];exact⟨rfl,rfl⟩) (λ _ _ _ _ _ _ _ c=>⟨_,(Aa (sif (q2 (Ae (qc0 c.u64) (qb3 _)) Aj (vnm 0) Ab) (Ad (qr7 T.Gs (upH (qg0 T)) (rm c) T.G6 T.d0.b qa5 (qd9 (vnm 1)))) Ak) (Aa (sif (q2 (Ae (qc0 c.u64) (qb3 _)) Aj (vnm 0) Ab) (Ad (qr7 T.Gk (upH (qf1 T)) (rm c) T.Dx T.d1.b qa5 (qd9 (vnm 1)))) Ak) (Aa (sif (q2 (Ae (qc0 c.u64) (qb3 _)) Aj (vnm 0) Ab) (Ad (qr7 T.Gy (upH (qg1 T)) (rm c) T.G7 T.d2.b qa5 (qd9 (vnm 1)))) Ak) (Aa (sif (q2 (Ae (qc0 c.u64) (qb3 _)) Aj (vnm 0) Ab) (Ad (qr7 T.F7 (upH (qd7 T)) (rm c) T.Cm T.d3.b qa5 (qd9 (vnm 1)))) Ak) (Aa (sif (q2 (Ae (qc0 c.u64) (qb3 _)) Aj (vnm 0) Ab) (Ad (qL5 T.Go (upH (qe9 T)) (rm c) T.Do T.d4.b qa5 (vnm 1) (vnm 2))) Ak) (Aa (sif (q2 (Ae (qc0 c.u64) (qb3 _)) Aj (vnm 0) Ab) (Ad (qr7 T.Gi (upH (qf0 T)) (rm c) T.E7 T.d5.b qa5 (qd9 (vnm 1)))) Ak) (Aa (sif (q2 (Ae (qc0 c.u64) (qb3 _)) Aj (vnm 0) Ab) (Ad (qr7 T.Gb (upH (qe1 T)) (rm c) T.Cq T.d6.b qa5 (qd9 (vnm 1)))) Ak) (Aa (sif (q2 (Ae (qc0 c.u64) (qb3 _)) Aj (vnm 0) Ab) (Ad (qu4 T.Gj (c.hd _ rfl) T.Dj qa5)) Ak) (Aa (sif (q2 (Ae (qc0 c.u64) (qb3 _)) Aj (vnm 0) Ab) (Ad (qu4 T.Gv (c.hd _ rfl) T.G5 qa5)) Ak) (Ad (qu4 T.Gh (c.hd _ rfl) T.Dr qa5))))))))))),λ g Q j h=>?_⟩);obtain⟨w,t,o,rfl,s,d,k,q⟩:=h;refine Av [.int (w:Nat),t,o] rfl ?_;have f:∀ i:Int,rdN 1 [.int i,t,o]=some t:=λ _=>qb9 rfl d.kn
 have u:∀ i:Int,rdN 2 [.int i,t,o]=some o:=λ _=>qb9 rfl k.kn
 rcases ten s with rfl | rfl | rfl | rfl | rfl | rfl | rfl | rfl | rfl | rfl
 . refine qa0 true rfl (λ _=>?_) nofun;exact qa2 (f _) ⟨d.im,d.im,q⟩
 . refine qa0 false rfl nofun λ _=>?_;refine qa0 true rfl (λ _=>?_) nofun;exact qa2 (f _) ⟨d.im,d.im,q⟩
 . refine qa0 false rfl nofun λ _=>?_;refine qa0 false rfl nofun λ _=>?_;refine qa0 true rfl (λ _=>?_) nofun;exact qa2 (f _) ⟨d.im,d.im,q⟩
 . refine qa0 false rfl nofun λ _=>?_;refine qa0 false rfl nofun λ _=>?_;refine qa0 false rfl nofun λ _=>?_;refine qa0 true rfl (λ _=>?_) nofun;exact qa2 (f _) ⟨d.im,d.im,q⟩
 . refine qa0 false rfl nofun λ _=>?_;refine qa0 false rfl nofun λ _=>?_;refine qa0 false rfl nofun λ _=>?_;refine qa0 false rfl nofun λ _=>?_;refine qa0 true rfl (λ _=>?_) nofun;exact qa2 (f _) (qa2 (u _) ⟨d.im,k.im,q⟩)
 . refine qa0 false rfl nofun λ _=>?_;refine qa0 false rfl nofun λ _=>?_;refine qa0 false rfl nofun λ _=>?_;refine qa0 false rfl nofun λ _=>?_;refine qa0 false rfl nofun λ _=>?_;refine qa0 true rfl (λ _=>?_) nofun;exact qa2 (f _) ⟨d.im,d.im,q⟩
 . refine qa0 false rfl nofun λ _=>?_;refine qa0 false rfl nofun λ _=>?_;refine qa0 false rfl nofun λ _=>?_;refine qa0 false rfl nofun λ _=>?_;refine qa0 false rfl nofun λ _=>?_;refine qa0 false rfl nofun λ _=>?_;refine qa0 true rfl (λ _=>?_) nofun;exact qa2 (f _) ⟨d.im,d.im,q⟩
 . refine qa0 false rfl nofun λ _=>?_;refine qa0 false rfl nofun λ _=>?_;refine qa0 false rfl nofun λ _=>?_;refine qa0 false rfl nofun λ _=>?_;refine qa0 false rfl nofun λ _=>?_;refine qa0 false rfl nofun λ _=>?_;refine qa0 false rfl nofun λ _=>?_;refine qa0 true rfl (λ _=>?_) nofun;exact q
 . refine qa0 false rfl nofun λ _=>?_;refine qa0 false rfl nofun λ _=>?_;refine qa0 false rfl nofun λ _=>?_;refine qa0 false rfl nofun λ _=>?_;refine qa0 false rfl nofun λ _=>?_;refine qa0 false rfl nofun λ _=>?_;refine qa0 false rfl nofun λ _=>?_;refine qa0 false rfl nofun λ _=>?_;refine qa0 true rfl (λ _=>?_) nofun;exact q
 refine qa0 false rfl nofun λ _=>?_;refine qa0 false rfl nofun λ _=>?_;refine qa0 false rfl nofun λ _=>?_;refine qa0 false rfl nofun λ _=>?_;refine qa0 false rfl nofun λ _=>?_;refine qa0 false rfl nofun λ _=>?_;refine qa0 false rfl nofun λ _=>?_;refine qa0 false rfl nofun λ _=>?_;refine qa0 false rfl nofun λ _=>?_;exact q
theorem qs4(T:Txt K mg a)(hv:γ):VFnH hv P w K mg base 3 a.f9 a.d9 ["_law_which", "_law_thing", "_law_other"] (ql8 a):=by
 refine VFnH.mk2 T.d9.F qm3 (wOf [true,true,true]) (λ g Q Q' j l _ m ⟨w,t,o,e,n,p,r,q⟩=>⟨w,t,o,e,n,p,r,m _ _ q⟩) (λ g Q j ⟨w,t,o,e,_⟩=>by rw[e];exact⟨rfl,rfl⟩) (λ _ _ _ _ _ _ _ c=>⟨_,(Aa (sif (q2 (Ae (qc0 c.u64) (qb3 _)) Aj (vnm 0) Ab) (Ad (qi9 (g0:=[]) (hv:=hv) T.Gs (qg0 T) (rm (Hb c)) (c.hd _ rfl) rfl T.G6 T.d0.b qa5 (qd9 (vnm 1)))) Ak) (Aa (sif (q2 (Ae (qc0 c.u64) (qb3 _)) Aj (vnm 0) Ab) (Ad (qi9 (g0:=[]) (hv:=hv) T.Gk (qf1 T) (rm (Hb c)) (c.hd _ rfl) rfl T.Dx T.d1.b qa5 (qd9 (vnm 1)))) Ak) (Aa (sif (q2 (Ae (qc0 c.u64) (qb3 _)) Aj (vnm 0) Ab) (Ad (qi9 (g0:=[]) (hv:=hv) T.Gy (qg1 T) (rm (Hb c)) (c.hd _ rfl) rfl T.G7 T.d2.b qa5 (qd9 (vnm 1)))) Ak) (Aa (sif (q2 (Ae (qc0 c.u64) (qb3 _)) Aj (vnm 0) Ab) (Ad (qi9 (g0:=[]) (hv:=hv) T.F7 (qd7 T) (rm (Hb c)) (c.hd _ rfl) rfl T.Cm T.d3.b qa5 (qd9 (vnm 1)))) Ak) (Aa (sif (q2 (Ae (qc0 c.u64) (qb3 _)) Aj (vnm 0) Ab) (Ad (qF5 (g0:=[]) (hv:=hv) T.Go (qe9 T) (rm (Hb c)) (c.hd _ rfl) rfl T.Do T.d4.b qa5 (vnm 1) (vnm 2))) Ak) (Aa (sif (q2 (Ae (qc0 c.u64) (qb3 _)) Aj (vnm 0) Ab) (Ad (qi9 (g0:=[]) (hv:=hv) T.Gi (qf0 T) (rm (Hb c)) (c.hd _ rfl) rfl T.E7 T.d5.b qa5 (qd9 (vnm 1)))) Ak) (Aa (sif (q2 (Ae (qc0 c.u64) (qb3 _)) Aj (vnm 0) Ab) (Ad (qi9 (g0:=[]) (hv:=hv) T.Gb (qe1 T) (rm (Hb c)) (c.hd _ rfl) rfl T.Cq T.d6.b qa5 (qd9 (vnm 1)))) Ak) (Aa (sif (q2 (Ae (qc0 c.u64) (qb3 _)) Aj (vnm 0) Ab) (Ad (qn2 (g0:=[]) (hv:=hv) T.Gj (c.hd _ rfl) rfl T.Dj qa5)) Ak) (Aa (sif (q2 (Ae (qc0 c.u64) (qb3 _)) Aj (vnm 0) Ab) (Ad (qn2 (g0:=[]) (hv:=hv) T.Gv (c.hd _ rfl) rfl T.G5 qa5)) Ak) (Ad (qn2 (g0:=[]) (hv:=hv) T.Gh (c.hd _ rfl) rfl T.Dr qa5))))))))))),λ g Q j h=>?_⟩);obtain⟨w,t,o,rfl,s,d,k,q⟩:=h;refine Av [.int (w:Nat),t,o,.exg] rfl ?_;have f:∀ i:Int,rdN 1 [.int i,t,o,.exg]=some t:=λ _=>qb9 rfl d.kn
 have u:∀ i:Int,rdN 2 [.int i,t,o,.exg]=some o:=λ _=>qb9 rfl k.kn
 rcases ten s with rfl | rfl | rfl | rfl | rfl | rfl | rfl | rfl | rfl | rfl
 . refine qa0 true rfl (λ _=>?_) nofun;exact⟨rfl,qa2 (f _) ⟨d.im,d.im,q⟩⟩
 . refine qa0 false rfl nofun λ _=>?_;refine qa0 true rfl (λ _=>?_) nofun;exact⟨rfl,qa2 (f _) ⟨d.im,d.im,q⟩⟩
 . refine qa0 false rfl nofun λ _=>?_;refine qa0 false rfl nofun λ _=>?_;refine qa0 true rfl (λ _=>?_) nofun;exact⟨rfl,qa2 (f _) ⟨d.im,d.im,q⟩⟩
 . refine qa0 false rfl nofun λ _=>?_;refine qa0 false rfl nofun λ _=>?_;refine qa0 false rfl nofun λ _=>?_;refine qa0 true rfl (λ _=>?_) nofun;exact⟨rfl,qa2 (f _) ⟨d.im,d.im,q⟩⟩
 . refine qa0 false rfl nofun λ _=>?_;refine qa0 false rfl nofun λ _=>?_;refine qa0 false rfl nofun λ _=>?_;refine qa0 false rfl nofun λ _=>?_;refine qa0 true rfl (λ _=>?_) nofun;exact⟨rfl,qa2 (f _) (qa2 (u _) ⟨d.im,k.im,q⟩)⟩
 . refine qa0 false rfl nofun λ _=>?_;refine qa0 false rfl nofun λ _=>?_;refine qa0 false rfl nofun λ _=>?_;refine qa0 false rfl nofun λ _=>?_;refine qa0 false rfl nofun λ _=>?_;refine qa0 true rfl (λ _=>?_) nofun;exact⟨rfl,qa2 (f _) ⟨d.im,d.im,q⟩⟩
 . refine qa0 false rfl nofun λ _=>?_;refine qa0 false rfl nofun λ _=>?_;refine qa0 false rfl nofun λ _=>?_;refine qa0 false rfl nofun λ _=>?_;refine qa0 false rfl nofun λ _=>?_;refine qa0 false rfl nofun λ _=>?_;refine qa0 true rfl (λ _=>?_) nofun;exact⟨rfl,qa2 (f _) ⟨d.im,d.im,q⟩⟩
 . refine qa0 false rfl nofun λ _=>?_;refine qa0 false rfl nofun λ _=>?_;refine qa0 false rfl nofun λ _=>?_;refine qa0 false rfl nofun λ _=>?_;refine qa0 false rfl nofun λ _=>?_;refine qa0 false rfl nofun λ _=>?_;refine qa0 false rfl nofun λ _=>?_;refine qa0 true rfl (λ _=>?_) nofun;exact⟨rfl,q⟩
 . refine qa0 false rfl nofun λ _=>?_;refine qa0 false rfl nofun λ _=>?_;refine qa0 false rfl nofun λ _=>?_;refine qa0 false rfl nofun λ _=>?_;refine qa0 false rfl nofun λ _=>?_;refine qa0 false rfl nofun λ _=>?_;refine qa0 false rfl nofun λ _=>?_;refine qa0 false rfl nofun λ _=>?_;refine qa0 true rfl (λ _=>?_) nofun;exact⟨rfl,q⟩
 refine qa0 false rfl nofun λ _=>?_;refine qa0 false rfl nofun λ _=>?_;refine qa0 false rfl nofun λ _=>?_;refine qa0 false rfl nofun λ _=>?_;refine qa0 false rfl nofun λ _=>?_;refine qa0 false rfl nofun λ _=>?_;refine qa0 false rfl nofun λ _=>?_;refine qa0 false rfl nofun λ _=>?_;refine qa0 false rfl nofun λ _=>?_;exact⟨rfl,q⟩
theorem qv0:qb2 ["_law_which", "_law_e"] ["_law_which", "_law_e"] (qa1 qk1):=by walk_at "s"
noncomputable def fdD(t o:D):Nat->Ds
 | 0=>[t]
 | 1=>[t]
 | 2=>[t]
 | 3=>[t]
 | 4=>[t,o]
 | 5=>[t]
 | 6=>[t]
 | _=>[]
def qu6(a:Adr):VSp:=λ ds Q _=>∃ w t o,ds=[.int (w:Nat),.exn (xD a t o w).C (xD a t o w).fs]/\w < 10/\Odd t/\Odd o/\Q (.l false (fdD t o w)) ds
theorem qw3(T:Txt K mg a):VFnB false P w K mg base 1 a.f10 a.d10 ["_law_which", "_law_e"] (qu6 a):=by
 refine VFn.mk2 T.d10.F qv0 (wOf [true,true]) (by walk_at "m") (by walk_at "l") (λ _ _ _ _ _ _ _ b=>⟨_,(Aa (sif (q2 (Ae qp5 (by with_unfolding_all rfl)) os_in (vnm 0) (vtup (qb0 Ab (qb0 Ab qd0 rfl) rfl))) (Ad (Ap (Bf (vaV (B6 (K:=K) rfl (vnm 1)) Af)))) Ak) (Aa (sif (q2 (Ae (qc0 b.u64) (qb3 _)) Aj (vnm 0) Ab) (Ad (Ap (Bf (vaV (B6 (K:=K) rfl (vnm 1)) Af)))) Ak) (Aa (sif (q2 (Ae qp5 (by with_unfolding_all rfl)) os_in (vnm 0) (vtup (qb0 Ab (qb0 Ab qd0 rfl) rfl))) (Ad (Ap (Bf (vaV (B6 (K:=K) rfl (vnm 1)) Af)))) Ak) (Aa (sif (q2 (Ae (qc0 b.u64) (qb3 _)) Aj (vnm 0) Ab) (Ad (Ap (Bf (vaV (B6 (K:=K) rfl (vnm 1)) (vaV (B6 (K:=K) rfl (vnm 1)) Af))))) Ak) (Aa (sif (q2 (Ae (qc0 b.u64) (qb3 _)) Aj (vnm 0) Ab) (Ad (Ap (Bf (vaV (B6 (K:=K) rfl (vnm 1)) Af)))) Ak) (Ad (Ap (qa7 (Im qd0))))))))),λ d Q e h=>?_⟩);obtain⟨w,t,o,rfl,c,f,g,q⟩:=h;refine Av [.int (w:Nat),.exn (xD a t o w).C (xD a t o w).fs] rfl ?_;rcases ten c with rfl | rfl | rfl | rfl | rfl | rfl | rfl | rfl | rfl | rfl
 . refine qa0 true rfl (λ _=>?_) nofun;exact qk3 (qd1 (qb6 (qa2 (a:=.exn (xD a t o 0).C (xD a t o 0).fs) rfl ⟨_,_,t,rfl,T.Gx,T.Gf,rfl,qc1 ⟨by show 1<=1000000;decide,q⟩⟩)))
 . refine qa0 false rfl nofun λ _=>?_;refine qa0 true rfl (λ _=>?_) nofun;exact qk3 (qd1 (qb6 (qa2 (a:=.exn (xD a t o 1).C (xD a t o 1).fs) rfl ⟨_,_,t,rfl,T.Gm,T.Cw,rfl,qc1 ⟨by show 1<=1000000;decide,q⟩⟩)))
 . refine qa0 false rfl nofun λ _=>?_;refine qa0 false rfl nofun λ _=>?_;refine qa0 true rfl (λ _=>?_) nofun;exact qk3 (qd1 (qb6 (qa2 (a:=.exn (xD a t o 2).C (xD a t o 2).fs) rfl ⟨_,_,t,rfl,T.Gw,T.Ez,rfl,qc1 ⟨by show 1<=1000000;decide,q⟩⟩)))
 . refine qa0 false rfl nofun λ _=>?_;refine qa0 false rfl nofun λ _=>?_;refine qa0 true rfl (λ _=>?_) nofun;exact qk3 (qd1 (qb6 (qa2 (a:=.exn (xD a t o 3).C (xD a t o 3).fs) rfl ⟨_,_,t,rfl,T.F6,T.Cp,rfl,qc1 ⟨by show 1<=1000000;decide,q⟩⟩)))
 . refine qa0 false rfl nofun λ _=>?_;refine qa0 false rfl nofun λ _=>?_;refine qa0 false rfl nofun λ _=>?_;refine qa0 true rfl (λ _=>?_) nofun;exact qk3 (qd1 (qb6 (qa2 (a:=.exn (xD a t o 4).C (xD a t o 4).fs) rfl ⟨_,_,t,rfl,T.Cr,T.Cy,rfl,qb6 (qa2 (a:=.exn (xD a t o 4).C (xD a t o 4).fs) rfl ⟨_,_,o,rfl,T.Cr,T.Cv,rfl,qc1 ⟨lt2,q⟩⟩)⟩)))
 . refine qa0 true rfl (λ _=>?_) nofun;exact qk3 (qd1 (qb6 (qa2 (a:=.exn (xD a t o 5).C (xD a t o 5).fs) rfl ⟨_,_,t,rfl,T.Gn,T.F5,rfl,qc1 ⟨by show 1<=1000000;decide,q⟩⟩)))
 . refine qa0 false rfl nofun λ _=>?_;refine qa0 false rfl nofun λ _=>?_;refine qa0 false rfl nofun λ _=>?_;refine qa0 false rfl nofun λ _=>?_;refine qa0 true rfl (λ _=>?_) nofun;exact qk3 (qd1 (qb6 (qa2 (a:=.exn (xD a t o 6).C (xD a t o 6).fs) rfl ⟨_,_,t,rfl,T.Ga,T.Cn,rfl,qc1 ⟨by show 1<=1000000;decide,q⟩⟩)))
 . refine qa0 false rfl nofun λ _=>?_;refine qa0 false rfl nofun λ _=>?_;refine qa0 false rfl nofun λ _=>?_;refine qa0 false rfl nofun λ _=>?_;refine qa0 false rfl nofun λ _=>?_;exact qh1 (.l false []) rfl q
 . refine qa0 false rfl nofun λ _=>?_;refine qa0 false rfl nofun λ _=>?_;refine qa0 false rfl nofun λ _=>?_;refine qa0 false rfl nofun λ _=>?_;refine qa0 false rfl nofun λ _=>?_;exact qh1 (.l false []) rfl q
 refine qa0 false rfl nofun λ _=>?_;refine qa0 false rfl nofun λ _=>?_;refine qa0 false rfl nofun λ _=>?_;refine qa0 false rfl nofun λ _=>?_;refine qa0 false rfl nofun λ _=>?_;exact qh1 (.l false []) rfl q
theorem qn5:qb2 ["_law_which", "_law_e", "_law_due", "_law_k", "_law_found"] ["_law_which", "_law_e", "_law_due"] (qa1 qv2):=by walk_at "s"
structure Okd(x:D):Prop extends Odd x where
 ne:gNe x x=some (.bl false)
 ib:∃ b,gIsi x (.ty "bool")=some (.bl b)
theorem qP9(h:fa ds=some x)(a:gIsi x (.ty "bool")=some (.bl b)):Bp (fx2 gIsi) (A6 fa (A6 (kC (D.ty "bool")) λ _=>some [])) ds=some (.bl b):=by
 unfold Bp A6;rw[h];exact a
theorem qW3{t o f:D}{w:Nat}(a:w < 10)(b:Okd t)(c:Okd o)(h:(fdD t o w)[i]? = some f):[t,o][i]? = some f/\Okd f:=by
 rcases ten a with rfl | rfl | rfl | rfl | rfl | rfl | rfl | rfl | rfl | rfl<;>(match i,h with
   | 0,h=>first | (cases h;exact⟨rfl,b⟩) | cases h
   | 1,h=>first | (cases h;exact⟨rfl,c⟩) | cases h
   | i+2,h=>cases h)
theorem qW2{t o:D}{w:Nat}(b:w < 10)(a:Odd t)(c:Odd o):D.imms (fdD t o w)=true:=by
 have d:D.imms [t]=true:=by show (t.imm&&true)=true;rw[a.im];rfl
 have e:D.imms [t,o]=true:=by show (t.imm&&(o.imm&&true))=true;rw[a.im,c.im];rfl
 rcases ten b with rfl | rfl | rfl | rfl | rfl | rfl | rfl | rfl | rfl | rfl<;>first | rfl | exact d | exact e
def qF6(a:Adr):VSp:=λ ds Q _=>∃ w t o z,ds=[.int (w:Nat),.exn (xD a t o w).C (xD a t o w).fs,.l z [t,o]]/\w < 10/\Okd t/\Okd o/\Q (.bl true) ds
theorem qg5(T:Txt K mg a)(hv:γ):VFnH hv P w K mg base 2 a.f11 a.d11 ["_law_which", "_law_e", "_law_due"] (qF6 a):=by
 refine VFnH.mk2 T.d11.F qn5 (wOf [true,true,true]) (λ c Q Q' p v A _ h=>by obtain⟨w,t,o,z,e,B,D,E,q⟩:=h;exact⟨w,t,o,z,e,B,D,E,A _ _ q⟩) (λ c Q p h=>by obtain⟨w,t,o,z,e,_⟩:=h;rw[e];exact⟨rfl,rfl⟩) (λ _ _ _ _ _ _ _ d=>⟨_,(Aa (qS6 (g0:=[]) (hv:=hv) (d.hd _ rfl) rfl PassesOwn.leaving T.Gu (Ba T.d10 (qw3 T) qa5 (rm (Hb d)) (vaN 0 (vaN 1 Af))) (qW0 (g0:=[]) (hv:=hv) (n:=2) (d.hd _ rfl) rfl (qQ3 (Ip 3 qn5.nd) (qQ3 (Ip 4 qn5.nd) gnilV))) (Ad (sif (tor (q2 (Ae (qs3 d.u64) (qb3 _)) Hu (vnm 4) (v2 (Aw qd2) Am (vnm 2) (vnm 3))) (tor1 (q2 (Ae (qs3 d.u64) (qb3 _)) Hu (vbi qz5 qR3.ops T.Cb (qb0 (vnm 4) (qb0 (vty "bool" T.Ki) qd0 rfl) rfl)) (vbi qz5 qR3.ops T.Cb (qb0 (v2 (Aw qd2) Am (vnm 2) (vnm 3)) (qb0 (vty "bool" T.Ki) qd0 rfl) rfl))))).te (Ad (Ap (qa7 vbl))) Ak))) (Ad (Ap (qa7 vbl)))),λ c Q p h=>?_⟩);obtain⟨w,t,o,z,rfl,g,j,k,q⟩:=h;refine Av [.int (w:Nat),.exn (xD a t o w).C (xD a t o w).fs,.l z [t,o],.u,.u,.exg] rfl ?_;refine qm0 (λ c=>∃ x y,c=[.int (w:Nat),.exn (xD a t o w).C (xD a t o w).fs,.l z [t,o],x,y,.exg]) (λ K G=>⟨rfl,qX0 (x:=.int (w:Nat)) (y:=.exn (xD a t o w).C (xD a t o w).fs) rfl rfl rfl ⟨w,t,o,rfl,g,j.toOdd,k.toOdd,qa2 (a:=[.int (w:Nat),.exn (xD a t o w).C (xD a t o w).fs,.l z [t,o],.u,.u,.exg]) rfl (qa2 (a:=fdD t o w) rfl ⟨qW2 g j.toOdd k.toOdd,qo3 (λ _ c=>∃ x y,c=[.int (w:Nat),.exn (xD a t o w).C (xD a t o w).fs,.l z [t,o],x,y,.exg]) _ 0 _ ⟨_,_,rfl⟩ ?_ λ c h=>G _ h⟩)⟩⟩) ?_
 . rintro i y H c ⟨L,M,rfl⟩ K2 l
   obtain⟨i,f,rfl,I⟩:=qW5 (List.mem_of_getElem? H);obtain⟨J,m⟩:=qW3 g j k I;obtain⟨b,r⟩:=m.ib;refine⟨rfl,qI4 (Av [.int (w:Nat),.exn (xD a t o w).C (xD a t o w).fs,.l z [t,o],.int (i:Nat),f,.exg] rfl ?_)⟩;have s:rdN 4 [.int (w:Nat),.exn (xD a t o w).C (xD a t o w).fs,.l z [t,o],.int (i:Nat),f,.exg]=some f:=qb9 rfl m.kn;have u:f2 gIx (rdN 2) (rdN 3) [.int (w:Nat),.exn (xD a t o w).C (xD a t o w).fs,.l z [t,o],.int (i:Nat),f,.exg]=some f:=Ah (x:=.l z [t,o]) (y:=.int (i:Nat)) rfl rfl (qF0 J);exact if_of false (λ Q q=>qt9 false false (λ Q q=>qA2 (Ah s u m.ne) q) (λ _ Q q=>qA2 (Ah (qP9 s r) (qP9 u r) (by cases b<;>rfl)) q) q) nofun λ _=>l _ ⟨_,_,rfl⟩
 rintro c ⟨x,y,rfl⟩;exact qh1 (.bl true) rfl q
theorem qb7:qb2 ["_law_which", "_law_thing", "_law_other", "_law_again", "_law_e", "_law_sorts"] ["_law_which", "_law_thing", "_law_other", "_law_again"] (qa1 qk2):=by walk_at "s"
theorem qD4{th:VH}(h:∀(N:Ds->Prop)(X:XKd),(∀ a,u e a->N a)->(∀ x a,th x { e with nx:=u e } a->X x a)->t { e with nx:=N,xe:=X } ds):Hn (sTryW t th) u e ds:=h _ _ (λ _ z=>z) λ _ _ z=>z
theorem qE4{u:V'}{C:γ}{fs:List (Str×D)}{Q:Bool->Ds->Prop}(h:rdN i ds=some (.exn C fs))(ix:IsX K C)(c:Me K (.ref C) u=some b)(q:Q (!b) ds):Hw (ttE (Ir K (rdN i) u)) ds Q xe :=
 qa2 h ⟨C,fs,b,rfl,ix,c,qa2 (a:=b) rfl q⟩
theorem B7{g:D->Option D}(h:rdN i ds=some x)(h2:g x=some d):(rdN i ds).bind g=some d:=by rw[h];exact h2
theorem addL{xs:Ds}(h1:D.imms xs=true)(h2:D.imms ys=true)(a:xs.length+ys.length<=big):Il (.l false xs) (.l false ys)=some (.l false (xs++ys)):=qs7 ⟨h1,h2,a⟩
theorem qp7(a:fa ds=some x)(b:fb ds=some y)(c:x.imm=true)(d:y.imm=true):Bp gLst (A6 fa (A6 fb λ _=>some [])) ds=some (.l false [x,y]):=by
 unfold Bp A6;rw[a,b];refine qs7 ⟨?_,by show 1+1<=1000000;decide⟩;show (x.imm&&(y.imm&&true))=true;rw[c,d];rfl
theorem isx(T:Txt K mg a){w:Nat}(t o:D)(b:w < 10):W.mroIn K (xD a t o w).C (.ref a.Cl)=some true/\IsX K (xD a t o w).C/\Me K (.ref (xD a t o w).C) (.type "ValueError")=some true/\Me K (.ref (xD a t o w).C) (.ref a.Ci)=some (decide (w=0))/\Me K (.ref (xD a t o w).C) (.ref a.Ce)=some (decide (w=1))/\Me K (.ref (xD a t o w).C) (.ref a.Cj)=some (decide (w=2))/\Me K (.ref (xD a t o w).C) (.ref a.Ca)=some (decide (w=3))/\Me K (.ref (xD a t o w).C) (.ref a.Cd)=some (decide (w=4))/\Me K (.ref (xD a t o w).C) (.ref a.Cf)=some (decide (w=5))/\Me K (.ref (xD a t o w).C) (.ref a.Cc)=some (decide (w=6))/\Me K (.ref (xD a t o w).C) (.ref a.Cg)=some (decide (w=7))/\Me K (.ref (xD a t o w).C) (.ref a.Ck)=some (decide (w=8))/\Me K (.ref (xD a t o w).C) (.ref a.Ch)=some (decide (w=9)):=by
 rcases ten b with rfl | rfl | rfl | rfl | rfl | rfl | rfl | rfl | rfl | rfl
 . exact⟨T.E2,T.Kg,T.Ke,qc6 _ _,T.Fh,T.Gd,T.Dl,T.G0,T.F9,T.E8,T.Ft,T.Gc,T.Fe⟩
 . exact⟨T.D4,T.K9,T.Ka,T.Fr,qc6 _ _,T.Fl,T.D2,T.Ek,T.El,T.E5,T.Ei,T.Fa,T.En⟩
 . exact⟨T.Du,T.Kd,T.Kc,T.Gg,T.Fg,qc6 _ _,T.Dn,T.Fd,T.Fc,T.Et,T.F8,T.G8,T.Fy⟩
 . exact⟨T.Co,T.Gr,T.Gq,T.Dw,T.De,T.Dh,qc6 _ _,T.Dc,T.Da,T.Cs,T.D3,T.Dk,T.D6⟩
 . exact⟨T.Db,T.K8,T.K7,T.Fw,T.Ep,T.G4,T.D7,qc6 _ _,T.Ev,T.Dq,T.Ex,T.Fp,T.Eb⟩
 . exact⟨T.D5,T.K6,T.K1,T.G1,T.Er,T.Fi,T.D0,T.Ew,qc6 _ _,T.E4,T.Es,T.G3,T.Ee⟩
 . exact⟨T.Ct,T.K0,T.Gz,T.Ef,T.E3,T.E9,T.Cu,T.Dg,T.E6,qc6 _ _,T.E1,T.Eg,T.Dp⟩
 . exact⟨T.D9,T.K3,T.K5,T.Fo,T.Ey,T.Fm,T.D1,T.Ec,T.Ea,T.Dv,qc6 _ _,T.Fj,T.Eu⟩
 . exact⟨T.Dt,T.Kh,T.Kf,T.Ge,T.Fq,T.G9,T.Di,T.Fb,T.Fs,T.Ej,T.Fx,qc6 _ _,T.Fv⟩
 exact⟨T.D8,T.Kb,T.K4,T.Ff,T.Eo,T.Fk,T.Cz,T.Eh,T.Ed,T.Dy,T.Em,T.G2,qc6 _ _⟩
def qr8:VSp:=λ ds Q _=>∃ w t o,ds=[.int (w:Nat),t,o,.bl false]/\w < 10/\Okd t/\Okd o/\Q (.bl true) ds
def qu7:VSp:=λ ds Q _=>∃ w t o a,ds=[.int (w:Nat),t,o,.bl a]/\w < 10/\Okd t/\Okd o/\Q (.bl true) ds
theorem qs5(T:Txt K mg a)(hv:γ):VFnH hv P w K mg base 4 a.f12 a.d12 ["_law_which", "_law_thing", "_law_other", "_law_again"] qr8:=by
 refine VFnH.mk2 T.d12.F qb7 (wOf [true,true,true,true]) (λ p Q Q' n v z _ h=>by obtain⟨w,t,o,e,A,B,E,q⟩:=h;exact⟨w,t,o,e,A,B,E,z _ _ q⟩) (λ p Q n ⟨w,t,o,e,_⟩=>by rw[e];exact⟨rfl,rfl⟩) (λ _ _ _ _ _ _ _ f=>⟨_,(Aa (stryW (λ E' n pn G=>(Ad (sexpr (qt0 (g0:=[]) (hv:=hv) rfl T.d9 (qs4 T hv) G (rm f) (vaN 0 (vaN 1 (vaN 2 Af))))))) (vhasG 4 qb7.nd T.Dz T.F4 (λ g=>(Aa (Aq 5 qb7.nd (Bf (vaV (qc8 (K:=K) rfl a.Ci T.Cb (vnm 4) T.G6) (vaV (qc8 (K:=K) rfl a.Ce T.Cb (vnm 4) T.Dx) (vaV (qc8 (K:=K) rfl a.Cj T.Cb (vnm 4) T.G7) (vaV (qc8 (K:=K) rfl a.Ca T.Cb (vnm 4) T.Cm) Af)))))) (Aa (Aq 5 qb7.nd (e2n 5 (Ag qi4) qi3 (Bf (vaV (qc8 (K:=K) rfl a.Cd T.Cb (vnm 4) T.Do) (vaV (qc8 (K:=K) rfl a.Cf T.Cb (vnm 4) T.E7) (vaV (qc8 (K:=K) rfl a.Cc T.Cb (vnm 4) T.Cq) (vaV (qc8 (K:=K) rfl a.Cg T.Cb (vnm 4) T.Dj) Af))))))) (Aa (Aq 5 qb7.nd (e2n 5 (Ag qi4) qi3 (Bf (vaV (qc8 (K:=K) rfl a.Ck T.Cb (vnm 4) T.G5) (vaV (qc8 (K:=K) rfl a.Ch T.Cb (vnm 4) T.Dr) Af))))) (Aa (sif (VTw.te (tor (q2n 5 (Hv (qs3 f.u64) (qb3 _)) (Ae (qs3 f.u64) (qb3 _)) Hu (ecR1H (hv:=g) (NY:=["_law_k", "_law_which"]) (src:=[none,some 0]) rfl rfl T.Gp (vosB (vaV (qa7 Ab) Af)) (blk (λ r C s H0 u=>(Ip 0 (show (["_law_k", "_law_which"]:List Str).Nodup by decide +kernel))) (λ r C s H0 u=>vfnil) (λ r C s H0 u=>(qa7 (v2 (Hv (qc0 f.u64) (qb3 _)) Aj (vnm 0) (vnm 1))))))) (tor1 (Hm (te (qR0 (K:=K) rfl "ValueError" T.Cb (vnm 4) T.Dm)))))) (Ad (Ap (qa7 vbl))) Ak) (Aa (sif (Hm (te (qt0 (hv:=g) rfl T.d11 (qg5 T g) qs6 (rm (M4.markH f (.ref g))) (vaN 0 (vaN 4 (vaV (qa7 (Im (qb0 (vnm 1) (qb0 (vnm 2) qd0 rfl) rfl))) Af)))))) (Ad (Ap (qa7 vbl))) Ak) (Aa (sif (tand (tv (vnm 3)) (tand1 (Hm (te (Ba (cm:=false) T.d12 (VFnB.no (k:=0)) qs6 (rm (f.mark _)) (vaN 0 (vaN 2 (vaN 1 (vaV (qa7 vbl) Af))))))))).te (Ad (Ap (qa7 vbl))) Ak) (Ad (Ap (qt0 (hv:=g) rfl T.d11 (qg5 T g) qs6 (rm (M4.markH f (.ref g))) (vaN 0 (vaN 4 (vaV (qa7 (Im (qb0 (vnm 1) (qb0 (vnm 2) qd0 rfl) rfl))) Af))))))))))))) vhnil)) (Ad (Ap (qa7 vbl)))),λ p Q n h=>?_⟩);obtain⟨w,t,o,rfl,i,b,c,q⟩:=h;obtain⟨H,ix,I,J,L,M,O,S,U,V,W,Y,Z⟩:=isx T t o i;refine Av [D.int (w:Nat),t,o,.bl false,.u,.u,.exg] rfl ?_;refine qD4 λ N X hN hX=>qE8 ?_
 refine⟨rfl,?_⟩;refine qR6 (x:=.int (w:Nat)) (y:=t) (w:=o) rfl (qb9 rfl b.kn) (qb9 rfl c.kn) (qb9 rfl b.kn) rfl ⟨w,t,o,rfl,i,b.toOdd,c.toOdd,qa2 (a:=[D.int (w:Nat),t,o,.bl false,.u,.u,.exg]) rfl (hX _ _ ⟨true,H,Ih rfl (Av [D.int (w:Nat),t,o,.bl false,D.exn (xD a t o w).C (xD a t o w).fs,.u,.exg,.exg] rfl ?_)⟩)⟩;refine qg3 [D.int (w:Nat),t,o,.bl false,D.exn (xD a t o w).C (xD a t o w).fs,D.l false [.bl (decide (w=0)),.bl (decide (w=1)),.bl (decide (w=2)),.bl (decide (w=3))],.exg,.exg] (λ K l=>ql6 (qd1 (qb6 (qa2 (a:=D.exn (xD a t o w).C (xD a t o w).fs) rfl ⟨_,_,_,rfl,ix,J,qb6 (qa2 (a:=D.exn (xD a t o w).C (xD a t o w).fs) rfl ⟨_,_,_,rfl,ix,L,qb6 (qa2 (a:=D.exn (xD a t o w).C (xD a t o w).fs) rfl ⟨_,_,_,rfl,ix,M,qb6 (qa2 (a:=D.exn (xD a t o w).C (xD a t o w).fs) rfl ⟨_,_,_,rfl,ix,O,qc1 ⟨lt4,l⟩⟩)⟩)⟩)⟩)))) ?_;refine qg3 [D.int (w:Nat),t,o,.bl false,D.exn (xD a t o w).C (xD a t o w).fs,D.l false [.bl (decide (w=0)),.bl (decide (w=1)),.bl (decide (w=2)),.bl (decide (w=3)),.bl (decide (w=4)),.bl (decide (w=5)),.bl (decide (w=6)),.bl (decide (w=7))],.exg,.exg] (λ K l=>ql6 ⟨rfl,qd1 (qb6 (qa2 (a:=D.exn (xD a t o w).C (xD a t o w).fs) rfl ⟨_,_,_,rfl,ix,S,qb6 (qa2 (a:=D.exn (xD a t o w).C (xD a t o w).fs) rfl ⟨_,_,_,rfl,ix,U,qb6 (qa2 (a:=D.exn (xD a t o w).C (xD a t o w).fs) rfl ⟨_,_,_,rfl,ix,V,qb6 (qa2 (a:=D.exn (xD a t o w).C (xD a t o w).fs) rfl ⟨_,_,_,rfl,ix,W,qc1 ⟨lt4,qa2 (a:=D.l false [.bl (decide (w=0)),.bl (decide (w=1)),.bl (decide (w=2)),.bl (decide (w=3)),.bl (decide (w=4)),.bl (decide (w=5)),.bl (decide (w=6)),.bl (decide (w=7))]) (B7 (x:=D.l false [.bl (decide (w=0)),.bl (decide (w=1)),.bl (decide (w=2)),.bl (decide (w=3))]) rfl (addL (xs:=[.bl (decide (w=0)),.bl (decide (w=1)),.bl (decide (w=2)),.bl (decide (w=3))]) (ys:=[.bl (decide (w=4)),.bl (decide (w=5)),.bl (decide (w=6)),.bl (decide (w=7))]) rfl rfl (by show 4+4<=1000000;decide))) l⟩⟩)⟩)⟩)⟩))⟩) ?_;refine qg3 [D.int (w:Nat),t,o,.bl false,D.exn (xD a t o w).C (xD a t o w).fs,D.l false [.bl (decide (w=0)),.bl (decide (w=1)),.bl (decide (w=2)),.bl (decide (w=3)),.bl (decide (w=4)),.bl (decide (w=5)),.bl (decide (w=6)),.bl (decide (w=7)),.bl (decide (w=8)),.bl (decide (w=9))],.exg,.exg] (λ K l=>ql6 ⟨rfl,qd1 (qb6 (qa2 (a:=D.exn (xD a t o w).C (xD a t o w).fs) rfl ⟨_,_,_,rfl,ix,Y,qb6 (qa2 (a:=D.exn (xD a t o w).C (xD a t o w).fs) rfl ⟨_,_,_,rfl,ix,Z,qc1 ⟨lt2,qa2 (a:=D.l false [.bl (decide (w=0)),.bl (decide (w=1)),.bl (decide (w=2)),.bl (decide (w=3)),.bl (decide (w=4)),.bl (decide (w=5)),.bl (decide (w=6)),.bl (decide (w=7)),.bl (decide (w=8)),.bl (decide (w=9))]) (B7 (x:=D.l false [.bl (decide (w=0)),.bl (decide (w=1)),.bl (decide (w=2)),.bl (decide (w=3)),.bl (decide (w=4)),.bl (decide (w=5)),.bl (decide (w=6)),.bl (decide (w=7))]) rfl (addL (xs:=[.bl (decide (w=0)),.bl (decide (w=1)),.bl (decide (w=2)),.bl (decide (w=3)),.bl (decide (w=4)),.bl (decide (w=5)),.bl (decide (w=6)),.bl (decide (w=7))]) (ys:=[.bl (decide (w=8)),.bl (decide (w=9))]) rfl rfl (by show 8+2<=1000000;decide))) l⟩⟩)⟩))⟩) ?_;refine qp9 false (λ Q q=>qt9 false false (λ Q q=>?_) (λ _ Q q=>?_) q) nofun λ _=>?_
 . refine⟨rfl,rfl,?_⟩
   unfold Jg tOfB;refine qe0 (y:=D.int 10) rfl (qc1 (qa2 (a:=(10:Int)) rfl ⟨rfl,?_⟩));refine qz0 (λ ι=>∃ d,ι=[d,.int (w:Nat)]) (λ x=>x.asI.map λ k=>.bl (k == (w:Int))) _ [] _ (by show 0+10 < 1000000;decide) ⟨_,rfl⟩ ?_ ?_
   . rintro y hy ι a0 ⟨d,rfl⟩ R hR m
     obtain⟨j,hj⟩:=List.getElem?_of_mem hy;obtain⟨_,rfl⟩:=qG3 hj;exact qI5 (qK7 (Ih rfl (qH5 (d:=.bl ((j:Int) == (w:Int))) rfl ⟨m,hR [.int j,.int (w:Nat)] ⟨_,rfl⟩⟩)))
   rintro ι ⟨d,rfl⟩;refine qa2 (a:=D.bl false) (B7 (x:=D.l false [.bl (decide (w=0)),.bl (decide (w=1)),.bl (decide (w=2)),.bl (decide (w=3)),.bl (decide (w=4)),.bl (decide (w=5)),.bl (decide (w=6)),.bl (decide (w=7)),.bl (decide (w=8)),.bl (decide (w=9))]) rfl ?_) (qa2 (a:=false) rfl q);rcases ten i with rfl | rfl | rfl | rfl | rfl | rfl | rfl | rfl | rfl | rfl<;>rfl
 . exact qE4 (C:=(xD a t o w).C) (fs:=(xD a t o w).fs) rfl ix I q
 refine guard (λ Q n q=>⟨rfl,qj5 (qd3 (x:=.int (w:Nat)) rfl (qd3 (x:=D.exn (xD a t o w).C (xD a t o w).fs) rfl (qe0 (y:=.l false [t,o]) (qp7 (qb9 rfl b.kn) (qb9 rfl c.kn) b.im c.im) (qc1 (qa2 (a:=D.exn (xD a t o w).C (xD a t o w).fs) rfl (qa2 (a:=D.int (w:Nat)) rfl ⟨w,t,o,false,rfl,i,b,c,qa2 (a:=[D.int (w:Nat),t,o,.bl false,D.exn (xD a t o w).C (xD a t o w).fs,D.l false [.bl (decide (w=0)),.bl (decide (w=1)),.bl (decide (w=2)),.bl (decide (w=3)),.bl (decide (w=4)),.bl (decide (w=5)),.bl (decide (w=6)),.bl (decide (w=7)),.bl (decide (w=8)),.bl (decide (w=9))],.exg,.exg]) rfl q⟩))))))⟩) ?_;refine qp9 false (λ Q q=>qu1 false false (λ Q q=>qA2 rfl q) nofun q) nofun λ _=>?_
 exact qk3 ⟨rfl,qj5 (qd3 (x:=.int (w:Nat)) rfl (qd3 (x:=D.exn (xD a t o w).C (xD a t o w).fs) rfl (qe0 (y:=.l false [t,o]) (qp7 (qb9 rfl b.kn) (qb9 rfl c.kn) b.im c.im) (qc1 (qa2 (a:=D.exn (xD a t o w).C (xD a t o w).fs) rfl (qa2 (a:=D.int (w:Nat)) rfl ⟨w,t,o,false,rfl,i,b,c,qa2 (a:=[D.int (w:Nat),t,o,.bl false,D.exn (xD a t o w).C (xD a t o w).fs,D.l false [.bl (decide (w=0)),.bl (decide (w=1)),.bl (decide (w=2)),.bl (decide (w=3)),.bl (decide (w=4)),.bl (decide (w=5)),.bl (decide (w=6)),.bl (decide (w=7)),.bl (decide (w=8)),.bl (decide (w=9))],.exg,.exg]) rfl q⟩))))))⟩
abbrev qe6 (w) (ag) (a:Adr) (t) (o) (p1 p2 b:D):=([D.int (w:Nat),p1,p2,.bl ag,D.exn (xD a t o w).C (xD a t o w).fs,D.l false [.bl (decide (w=0)),.bl (decide (w=1)),.bl (decide (w=2)),.bl (decide (w=3)),.bl (decide (w=4)),.bl (decide (w=5)),.bl (decide (w=6)),.bl (decide (w=7)),.bl (decide (w=8)),.bl (decide (w=9))],b]:Ds)
theorem qw4(T:Txt K mg a):VFn P w K mg base 5 a.f12 a.d12 ["_law_which", "_law_thing", "_law_other", "_law_again"] qu7:=by
 refine VFn.mk2 T.d12.F qb7 (wOf [true,true,true,true]) (by walk_at "m") (by walk_at "l") (λ _ _ _ _ _ _ _ g=>⟨_,(Aa (stryW (λ E' r pn z=>(Ad (sexpr (Ba T.d9 (qw2 T) z (rm g) (vaN 0 (vaN 1 (vaN 2 Af))))))) (vhasG 4 qb7.nd T.Dz T.F4 (λ f=>(Aa (Aq 5 qb7.nd (Bf (vaV (qc8 (K:=K) rfl a.Ci T.Cb (vnm 4) T.G6) (vaV (qc8 (K:=K) rfl a.Ce T.Cb (vnm 4) T.Dx) (vaV (qc8 (K:=K) rfl a.Cj T.Cb (vnm 4) T.G7) (vaV (qc8 (K:=K) rfl a.Ca T.Cb (vnm 4) T.Cm) Af)))))) (Aa (Aq 5 qb7.nd (e2n 5 (Ag qi4) qi3 (Bf (vaV (qc8 (K:=K) rfl a.Cd T.Cb (vnm 4) T.Do) (vaV (qc8 (K:=K) rfl a.Cf T.Cb (vnm 4) T.E7) (vaV (qc8 (K:=K) rfl a.Cc T.Cb (vnm 4) T.Cq) (vaV (qc8 (K:=K) rfl a.Cg T.Cb (vnm 4) T.Dj) Af))))))) (Aa (Aq 5 qb7.nd (e2n 5 (Ag qi4) qi3 (Bf (vaV (qc8 (K:=K) rfl a.Ck T.Cb (vnm 4) T.G5) (vaV (qc8 (K:=K) rfl a.Ch T.Cb (vnm 4) T.Dr) Af))))) (Aa (sif (VTw.te (tor (q2n 5 (Hv (qs3 g.u64) (qb3 _)) (Ae (qs3 g.u64) (qb3 _)) Hu (ecR1H (hv:=f) (NY:=["_law_k", "_law_which"]) (src:=[none,some 0]) rfl rfl T.Gp (vosB (vaV (qa7 Ab) Af)) (blk (λ s C u H0 v=>(Ip 0 (show (["_law_k", "_law_which"]:List Str).Nodup by decide +kernel))) (λ s C u H0 v=>vfnil) (λ s C u H0 v=>(qa7 (v2 (Hv (qc0 g.u64) (qb3 _)) Aj (vnm 0) (vnm 1))))))) (tor1 (Hm (te (qR0 (K:=K) rfl "ValueError" T.Cb (vnm 4) T.Dm)))))) (Ad (Ap (qa7 vbl))) Ak) (Aa (sif (Hm (te (qt0 (hv:=f) rfl T.d11 (qg5 T f) qs6 (rm (M4.markH g (.ref f))) (vaN 0 (vaN 4 (vaV (qa7 (Im (qb0 (vnm 1) (qb0 (vnm 2) qd0 rfl) rfl))) Af)))))) (Ad (Ap (qa7 vbl))) Ak) (Aa (sif (tand (tv (vnm 3)) (tand1 (Hm (te (qt0 (hv:=f) rfl T.d12 (qs5 T f) qs6 (rm (M4.markH g (.ref f))) (vaN 0 (vaN 2 (vaN 1 (vaV (qa7 vbl) Af))))))))).te (Ad (Ap (qa7 vbl))) Ak) (Ad (Ap (qt0 (hv:=f) rfl T.d11 (qg5 T f) qs6 (rm (M4.markH g (.ref f))) (vaN 0 (vaN 4 (vaV (qa7 (Im (qb0 (vnm 1) (qb0 (vnm 2) qd0 rfl) rfl))) Af))))))))))))) vhnil)) (Ad (Ap (qa7 vbl)))),λ ds Q r h=>?_⟩);obtain⟨w,t,o,c,rfl,i,b,e,q⟩:=h;obtain⟨A,ix,B,E,G,H,I,J,L,M,O,S,U⟩:=isx T t o i;refine Av [D.int (w:Nat),t,o,.bl c,.u,.u] rfl ?_;refine qD4 λ N X hN V=>qE8 ?_
 refine qR6 (x:=.int (w:Nat)) (y:=t) (w:=o) rfl (qb9 rfl b.kn) (qb9 rfl e.kn) (qb9 rfl b.kn) rfl ⟨w,t,o,rfl,i,b.toOdd,e.toOdd,qa2 (a:=[D.int (w:Nat),t,o,.bl c,.u,.u]) rfl (V _ _ ⟨true,A,Ih rfl (Av [D.int (w:Nat),t,o,.bl c,D.exn (xD a t o w).C (xD a t o w).fs,.u,.exg] rfl ?_)⟩)⟩;refine qg3 [D.int (w:Nat),t,o,.bl c,D.exn (xD a t o w).C (xD a t o w).fs,D.l false [.bl (decide (w=0)),.bl (decide (w=1)),.bl (decide (w=2)),.bl (decide (w=3))],.exg] (λ K n=>ql6 (qd1 (qb6 (qa2 (a:=D.exn (xD a t o w).C (xD a t o w).fs) rfl ⟨_,_,_,rfl,ix,E,qb6 (qa2 (a:=D.exn (xD a t o w).C (xD a t o w).fs) rfl ⟨_,_,_,rfl,ix,G,qb6 (qa2 (a:=D.exn (xD a t o w).C (xD a t o w).fs) rfl ⟨_,_,_,rfl,ix,H,qb6 (qa2 (a:=D.exn (xD a t o w).C (xD a t o w).fs) rfl ⟨_,_,_,rfl,ix,I,qc1 ⟨lt4,n⟩⟩)⟩)⟩)⟩)))) ?_;refine qg3 [D.int (w:Nat),t,o,.bl c,D.exn (xD a t o w).C (xD a t o w).fs,D.l false [.bl (decide (w=0)),.bl (decide (w=1)),.bl (decide (w=2)),.bl (decide (w=3)),.bl (decide (w=4)),.bl (decide (w=5)),.bl (decide (w=6)),.bl (decide (w=7))],.exg] (λ K n=>ql6 ⟨rfl,qd1 (qb6 (qa2 (a:=D.exn (xD a t o w).C (xD a t o w).fs) rfl ⟨_,_,_,rfl,ix,J,qb6 (qa2 (a:=D.exn (xD a t o w).C (xD a t o w).fs) rfl ⟨_,_,_,rfl,ix,L,qb6 (qa2 (a:=D.exn (xD a t o w).C (xD a t o w).fs) rfl ⟨_,_,_,rfl,ix,M,qb6 (qa2 (a:=D.exn (xD a t o w).C (xD a t o w).fs) rfl ⟨_,_,_,rfl,ix,O,qc1 ⟨lt4,qa2 (a:=D.l false [.bl (decide (w=0)),.bl (decide (w=1)),.bl (decide (w=2)),.bl (decide (w=3)),.bl (decide (w=4)),.bl (decide (w=5)),.bl (decide (w=6)),.bl (decide (w=7))]) (B7 (x:=D.l false [.bl (decide (w=0)),.bl (decide (w=1)),.bl (decide (w=2)),.bl (decide (w=3))]) rfl (addL (xs:=[.bl (decide (w=0)),.bl (decide (w=1)),.bl (decide (w=2)),.bl (decide (w=3))]) (ys:=[.bl (decide (w=4)),.bl (decide (w=5)),.bl (decide (w=6)),.bl (decide (w=7))]) rfl rfl (by show 4+4<=1000000;decide))) n⟩⟩)⟩)⟩)⟩))⟩) ?_;refine qg3 (qe6 w c a t o t o .exg) (λ K n=>ql6 ⟨rfl,qd1 (qb6 (qa2 (a:=D.exn (xD a t o w).C (xD a t o w).fs) rfl ⟨_,_,_,rfl,ix,S,qb6 (qa2 (a:=D.exn (xD a t o w).C (xD a t o w).fs) rfl ⟨_,_,_,rfl,ix,U,qc1 ⟨lt2,qa2 (a:=D.l false [.bl (decide (w=0)),.bl (decide (w=1)),.bl (decide (w=2)),.bl (decide (w=3)),.bl (decide (w=4)),.bl (decide (w=5)),.bl (decide (w=6)),.bl (decide (w=7)),.bl (decide (w=8)),.bl (decide (w=9))]) (B7 (x:=D.l false [.bl (decide (w=0)),.bl (decide (w=1)),.bl (decide (w=2)),.bl (decide (w=3)),.bl (decide (w=4)),.bl (decide (w=5)),.bl (decide (w=6)),.bl (decide (w=7))]) rfl (addL (xs:=[.bl (decide (w=0)),.bl (decide (w=1)),.bl (decide (w=2)),.bl (decide (w=3)),.bl (decide (w=4)),.bl (decide (w=5)),.bl (decide (w=6)),.bl (decide (w=7))]) (ys:=[.bl (decide (w=8)),.bl (decide (w=9))]) rfl rfl (by show 8+2<=1000000;decide))) n⟩⟩)⟩))⟩) ?_;refine qp9 false (λ Q q=>qt9 false false (λ Q q=>?_) (λ _ Q q=>?_) q) nofun λ _=>?_
 . refine⟨rfl,rfl,?_⟩
   unfold Jg tOfB;refine qe0 (y:=D.int 10) rfl (qc1 (qa2 (a:=(10:Int)) rfl ⟨rfl,?_⟩));refine qz0 (λ ι=>∃ d,ι=[d,.int (w:Nat)]) (λ x=>x.asI.map λ k=>.bl (k == (w:Int))) _ [] _ (by show 0+10 < 1000000;decide) ⟨_,rfl⟩ ?_ ?_
   . rintro y W ι Y ⟨d,rfl⟩ R Z p
     obtain⟨j,hj⟩:=List.getElem?_of_mem W;obtain⟨_,rfl⟩:=qG3 hj;exact qI5 (qK7 (Ih rfl (qH5 (d:=.bl ((j:Int) == (w:Int))) rfl ⟨p,Z [.int j,.int (w:Nat)] ⟨_,rfl⟩⟩)))
   rintro ι ⟨d,rfl⟩;refine qa2 (a:=D.bl false) (B7 (x:=D.l false [.bl (decide (w=0)),.bl (decide (w=1)),.bl (decide (w=2)),.bl (decide (w=3)),.bl (decide (w=4)),.bl (decide (w=5)),.bl (decide (w=6)),.bl (decide (w=7)),.bl (decide (w=8)),.bl (decide (w=9))]) rfl ?_) (qa2 (a:=false) rfl q);rcases ten i with rfl | rfl | rfl | rfl | rfl | rfl | rfl | rfl | rfl | rfl<;>rfl
 . exact qE4 (C:=(xD a t o w).C) (fs:=(xD a t o w).fs) rfl ix B q
 refine guard (λ Q r q=>⟨rfl,qj5 (qd3 (x:=.int (w:Nat)) rfl (qd3 (x:=D.exn (xD a t o w).C (xD a t o w).fs) rfl (qe0 (y:=.l false [t,o]) (qp7 (qb9 rfl b.kn) (qb9 rfl e.kn) b.im e.im) (qc1 (qa2 (a:=D.exn (xD a t o w).C (xD a t o w).fs) rfl (qa2 (a:=D.int (w:Nat)) rfl ⟨w,t,o,false,rfl,i,b,e,qa2 (a:=(qe6 w c a t o t o .exg)) rfl q⟩))))))⟩) ?_;refine qp9 false (λ Q q=>qu1 c false (λ Q q=>qA2 rfl q) (λ _ Q q=>?_) ((Bool.and_false c).symm ▸ q)) nofun λ _=>?_
 . exact⟨rfl,qj5 (qd3 (x:=.int (w:Nat)) rfl (qd3 (x:=o) (qb9 rfl e.kn) (qd3 (x:=t) (qb9 rfl b.kn) (qe0 (y:=.bl false) rfl (qc1 (qa2 (a:=t) (qb9 rfl b.kn) (qa2 (a:=o) (qb9 rfl e.kn) (qa2 (a:=D.int (w:Nat)) rfl ⟨w,o,t,rfl,i,e,b,qa2 (a:=(qe6 w c a t o t o .exg)) rfl (qa2 (a:=true) rfl q)⟩))))))))⟩
 exact qk3 ⟨rfl,qj5 (qd3 (x:=.int (w:Nat)) rfl (qd3 (x:=D.exn (xD a t o w).C (xD a t o w).fs) rfl (qe0 (y:=.l false [t,o]) (qp7 (qb9 rfl b.kn) (qb9 rfl e.kn) b.im e.im) (qc1 (qa2 (a:=D.exn (xD a t o w).C (xD a t o w).fs) rfl (qa2 (a:=D.int (w:Nat)) rfl ⟨w,t,o,false,rfl,i,b,e,qa2 (a:=(qe6 w c a t o t o .exg)) rfl q⟩))))))⟩
theorem qr9:qb2 ["_law_script", "_law_bag_here", "_law_first", "_law_k", "_law_ways", "_law_some"] ["_law_script"] (qa1 Hj):=by walk_at "s"
noncomputable def Bl(i j:Int):Ds:=[.int i,.int (-j),.str "order",.str "",.non,.bl true,.bl false,.l true [.int 3],.q [.int 3,.non],.dct true []]
theorem qP2(i:Int):gNe (.int i) (.int i)=some (.bl false):=by
 show some (D.bl (!(i == i)))=_;rw[zAs];rfl
theorem qO9{i j:Int}(h:x∈Bl i j):Okd x:=by
 simp only[Bl,zAm,zB9,or_false] at h;rcases h with rfl | rfl | rfl | rfl | rfl | rfl | rfl | rfl | rfl | rfl
 . exact⟨⟨rfl,rfl⟩,qP2 _,_,rfl⟩
 . exact⟨⟨rfl,rfl⟩,qP2 _,_,rfl⟩
 all_goals exact⟨⟨rfl,rfl⟩,rfl,_,rfl⟩
theorem t1_to{g:D->Option D}{ta:VT}(h:ta ds (λ x ds1=>orF (g x) λ d=>Q d ds1) xe):t1 g ta ds Q xe:=h
theorem qU9(T:Txt K mg a):Bm P w K mg base (CX1 P w) 6 a.f13 a.d13 ["_law_script"] (Hs K):=by
 refine T.d13.F.okX qr9 (λ vs H Q E h=>?_) (λ C A outer s H vs Q E r h=>?_)
 . obtain⟨l,J,rfl,_⟩:=h
   rfl
 obtain⟨l,J,rfl,hS,hl,k⟩:=h;refine⟨_,qn6 (sset 1 qr9.nd (callD T.d7 (qP0 T) (rm r) (qb8 (pv 0) qh3))) (show VSs ⟨λ _=>E,λ _=>false,Kx 6 none,[]⟩ (Ay true (CX1 P w) P w K mg base ["_law_script", "_law_bag_here", "_law_first", "_law_k", "_law_ways", "_law_some"] "law" (qa1 Hj) a.f13 C A outer s H E) _ _ from(Aa (Aq 2 qr9.nd (Ba T.d8 (qh4 T) qa5 (rm r) (vaN 1 (vaV (qa7 Ab) Af)))) (Aa (qS5 PassesOwn.leaving T.Gp (vosB (vaV (qa7 Ab) Af)) (Ip 3 qr9.nd) (Aa (Aq 4 qr9.nd (Bf (vaV (Ba T.d8 (qh4 T) qa5 (rm r) (vaN 1 (vaV (qa7 Ab) Af))) (vaV (Ba T.d8 (qh4 T) qa5 (rm r) (vaN 1 (vaV (qa7 Ab) Af))) Af)))) (Aa (Aq 5 qr9.nd (Bf (vaV (Bt (Ba T.d8 (qh4 T) qa5 (rm r) (vaN 1 (vaV (qa7 (v2 (Ag qi4) qi3 (vpow 1000000000000000000) Ab)) Af)))) (vaV (Bt (eneg (Ba T.d8 (qh4 T) qa5 (rm r) (vaN 1 (vaV (qa7 Ab) Af))))) (vaV (Bt (qa7 vstr)) (vaV (Bt (qa7 vstr)) (vaV (Bt (qa7 vnon)) (vaV (Bt (qa7 vbl)) (vaV (Bt (qa7 vbl)) (vaV (Bt (qa7 (Im (qb0 Ab qd0 rfl)))) (vaV (Bt (qa7 (vtup (qb0 Ab (qb0 vnon qd0 rfl) rfl)))) (vaV (Bt (qa7 vdct0)) Af)))))))))))) (Ad (sif (Hm (te (Ba T.d12 (qw4 T) qa5 (rm r) (vaV (qa7 (v2 (Ag qk7) qk6 (v2 (Ag qi4) qi3 (vnm 2) (vnm 3)) Ab)) (vaV (qd9 (v2 (Aw qd2) Am (vnm 5) (v2 (Aw qd2) Am (vnm 4) Ab))) (vaV (qd9 (v2 (Aw qd2) Am (vnm 5) (v2 (Aw qd2) Am (vnm 4) Ab))) (vaV (qa7 vbl) Af))))))) (Ad (Ap (qa7 vbl))) Ak))))) (Ad (Ap (qa7 vbl)))))).h,?_⟩;refine⟨_,rfl,l,J,rfl,hS,hl,λ p L H' hp hL kp B=>?_⟩;obtain⟨x,y,z,g,B⟩:=B;refine qB4 (rest:=[]) (X:=Ay true (CX1 P w) P w K mg base [] "law" (qa1 Hj) a.f13 C A outer s H E) (n:=4) (x:=x) (y:=y) (z:=z) (ns:=g) rfl (λ _=>rfl) rfl B.at_ B.li B.ne (λ H'=>k H') ?_;have B0:isBag g (bagD x y z g):=⟨x,y,z,rfl,B.x0,B.y0,B.y1,B.z0,B.nn⟩
 generalize bagD x y z g=b at B0;generalize V.ref l=u;refine Av [.hole u,b,.u,.u,.u,.u] rfl ?_;refine qm0 (λ e=>∃ b f,e=[.hole u,b,.int f,.u,.u,.u]/\isBag g b/\0<=f) (λ K t=>ql6 ?_) ?_
 . exact qg9 (ds:=[.hole u,b,.u,.u,.u,.u]) rfl B0 rfl (by decide) (by decide) λ v b' v0 v1 B'=>t _ ⟨b',v,rfl,B',v0⟩
 rintro e ⟨b,f,rfl,B,f0⟩;refine qm0 (λ e=>∃ b G o j,e=[.hole u,b,.int f,G,o,j]/\isBag g b) (λ K t=>?_) ?_
 . refine qC1 (n:=20) rfl (by decide) ?_
   refine qo3 (λ _ e=>∃ b G o j,e=[.hole u,b,.int f,G,o,j]/\isBag g b) _ 0 _ ⟨b,_,_,_,rfl,B⟩ ?_ λ e h=>t _ h
   rintro i x hx e ⟨b,G,o,j,rfl,B⟩ K2 M;obtain⟨hi,rfl⟩:=qG3 hx;refine qI5 (Av [.hole u,b,.int f,.int (i:Nat),o,j] rfl ?_);refine qm0 (λ e=>∃ b p q,e=[.hole u,b,.int f,.int (i:Nat),.l false [.int p,.int q],j]/\isBag g b/\0<=p/\p < 10/\0<=q/\q < 10) (λ K t=>ql6 (qd1 ?_)) ?_
   . refine qb6 (qg9 (ds:=[.hole u,b,.int f,.int (i:Nat),o,j]) rfl B rfl (by decide) (by decide) λ p N O p1 B1=>?_)
     refine qb6 (qg9 (ds:=[.hole u,N,.int f,.int (i:Nat),o,j]) rfl B1 rfl (by decide) (by decide) λ q R S U B2=>?_);exact qc1 ⟨lt2,t _ ⟨R,p,q,rfl,B2,O,p1,S,U⟩⟩
   rintro e ⟨b,p,q,rfl,B,O,p1,S,U⟩;refine qm0 (λ e=>∃ b m n,e=[.hole u,b,.int f,.int (i:Nat),.l false [.int p,.int q],.l false (Bl m n)]/\isBag g b) (λ K t=>ql6 (qd1 ?_)) ?_
   . refine qb6 (fz_to (qg9 (ds:=[.hole u,b,.int f,.int (i:Nat),.l false [.int p,.int q],j]) rfl B rfl (by decide) (by decide) λ m N m0 m1 B1=>?_))
     refine qb6 (fz_to (t1_to (qg9 (ds:=[.hole u,N,.int f,.int (i:Nat),.l false [.int p,.int q],j]) rfl B1 rfl (by decide) (by decide) λ n R n0 n1 B2=>qa2 (a:=D.int (-n)) rfl ?_)));refine qf8 (y:=.str "order") rfl ?_;refine qf8 (y:=.str "") rfl ?_;refine qf8 (y:=.non) rfl ?_;refine qf8 (y:=.bl true) rfl ?_;refine qf8 (y:=.bl false) rfl ?_;refine qf8 (y:=.l false [.int 3]) rfl ?_;refine qf8 (y:=.q [.int 3,.non]) rfl ?_;refine qf8 (y:=.dct false []) rfl ?_;exact qc1 ⟨by show 10<=1000000;decide,t _ ⟨R,m,n,rfl,B2⟩⟩
   rintro e ⟨b,m,n,rfl,B⟩;obtain⟨d,hd,ed⟩:=qz6 (xs:=Bl m n) (i:=p) O p1;obtain⟨Z,W,Y⟩:=qz6 (xs:=Bl m n) (i:=q) S U;have kd:=qO9 hd;have I:=qO9 W;obtain⟨c,hc,ec⟩:∃ c:Nat,c < 10/\(f+(i:Nat)) % 10=(c:Int):=⟨((f+(i:Nat)) % 10).toNat,by lia,by lia⟩
   refine qx9 (λ Q xe hq=>qj5 (qe0 (y:=.int (c:Nat)) ?_ (qD5 (y:=d) (Ah (x:=.l false (Bl m n)) (y:=.int p) rfl rfl ed) kd.im (qD5 (y:=Z) (Ah (x:=.l false (Bl m n)) (y:=.int q) rfl rfl Y) I.im (qe0 (y:=.bl true) rfl (qc1 ⟨c,d,Z,true,rfl,hc,kd,I,qa2 (a:=([.hole u,b,.int f,.int (i:Nat),.l false [.int p,.int q],.l false (Bl m n)]:Ds)) rfl hq⟩)))))) (M _ ⟨b,_,_,_,rfl,B⟩);exact Ah (x:=.int (f+(i:Nat))) (y:=.int 10) rfl rfl (by rw[<- ec];exact Hc (by decide))
 rintro e ⟨b,G,o,j,rfl,B⟩;exact qh1 (.bl true) rfl rfl
end
theorem dfX{K:Mf}{mg:Str->Option V'}{x qual:Str}{st:Ku}{f:γ}{ps:List Str}{n:V'}{od g:Option γ}{m:Array (Option V')}{kV e i d j:V'}{h:Heap}(X:K.In h)(G:h.Ns Js mg)(a:W.nsIn K Js x=some (some (.ref f)))(l:K.lookup f=some ⟨n,od,.func (W.fnOf x qual (qc4 st) (qb5 st) (qa1 st) .none kV e i g d j),m⟩)(c:W.codeIn K d qual=true)(k:W.keepIn K (.ref f)=true)(b:∀(kV e i:V')(g:Option γ)(d j:V')(us:List V'),us.length=ps.length->bindArgs (W.fnOf x qual (qc4 st) (qb5 st) (qa1 st) .none kV e i g d j) ⟨us,[]⟩=pure (ps.zip us)) :
 Df K mg x qual st f (W.fnOf x qual (qc4 st) (qb5 st) (qa1 st) .none kV e i g d j) ps:=dfmk l c k (W.mg_of X G a) b
theorem qX5{l:W.OpenLaw}{w:Ks}{K:Mf}{mg:Str->Option V'}{fa k n f2 o p q r f7 f8 f9 c d f t C0 C1 C2 C3 C4 C5 C6 C7 C8 C9 C10:γ}{d0 d1 d2 d3 d4 d5 d6 d7 d8 d9 g h i b:δ}(u:mg "law" = some (.ref fa))(j0:Md K C1 "__init__" "Wrong.__init__" qe3 k d0 ["self", "at"])(j1:Md K C2 "__init__" "NoRoom.__init__" qd6 n d1 ["self", "room"])(j2:Md K C3 "__init__" "There.__init__" qe4 f2 d2 ["self", "key"])(j3:Md K C4 "__init__" "NotThere.__init__" qc5 o d3 ["self", "key"])(j4:Md K C5 "__init__" "Unkept.__init__" qd4 p d4 ["self", "word", "room"])(j5:Md K C7 "__init__" "NoText.__init__" qd5 q d5 ["self", "at"])(j6:Md K C10 "__init__" "TooMany.__init__" qc9 r d6 ["self", "most"])(j7:Df K mg "_law_bag" "_law_bag" qF9 f7 d7 ["_law_script"])(j8:Df K mg "_law_take" "_law_take" qv1 f8 d8 ["_law_bag_here", "_law_many"])(j9:Df K mg "_law_raised" "_law_raised" qk0 f9 d9 ["_law_which", "_law_thing", "_law_other"])(x:Df K mg "_law_fields" "_law_fields" qk1 c g ["_law_which", "_law_e"])(y:Df K mg "_law_kept" "_law_kept" qv2 d h ["_law_which", "_law_e", "_law_due"])(z:Df K mg "_law_caught" "_law_caught" qk2 f i ["_law_which", "_law_thing", "_law_other", "_law_again"])(j:Df K mg "law" "law" Hj t b ["_law_script"])(A:mg "ValueError" = none)(B:mg "abs" = none)(C:mg "bool" = none)(D:mg "enumerate" = none)(E:mg "isinstance" = none)(F:mg "len" = none)(G:mg "range" = none)(H:mg "HomeError" = some (.ref C0))(I:Exc K C0)(J:mg "Wrong" = some (.ref C1))(L:Exc K C1)(M:Me K (.ref C1) (.type "ValueError")=some true)(N:MkE K C1 k)(O:qc2 K C1 "at")(P:IsX K C1)(Q:Me K (.ref C1) (.ref C2)=some false)(R:Me K (.ref C1) (.ref C3)=some false)(S:Me K (.ref C1) (.ref C4)=some false)(T:Me K (.ref C1) (.ref C5)=some false)(U:Me K (.ref C1) (.ref C6)=some false)(V:Me K (.ref C1) (.ref C7)=some false)(X:Me K (.ref C1) (.ref C8)=some false)(Y:Me K (.ref C1) (.ref C9)=some false)(Z:Me K (.ref C1) (.ref C10)=some false)(a0:W.mroIn K C1 (.ref C0)=some true)(a1:mg "NoRoom" = some (.ref C2))(a2:Exc K C2)(a3:Me K (.ref C2) (.type "ValueError")=some true)(a4:MkE K C2 n)(a5:qc2 K C2 "room")(a6:IsX K C2)(a7:Me K (.ref C2) (.ref C1)=some false)(a8:Me K (.ref C2) (.ref C3)=some false)(a9:Me K (.ref C2) (.ref C4)=some false)(b0:Me K (.ref C2) (.ref C5)=some false)(b1:Me K (.ref C2) (.ref C6)=some false)(b2:Me K (.ref C2) (.ref C7)=some false)(b3:Me K (.ref C2) (.ref C8)=some false)(b4:Me K (.ref C2) (.ref C9)=some false)(b5:Me K (.ref C2) (.ref C10)=some false)(b6:W.mroIn K C2 (.ref C0)=some true)(b7:mg "There" = some (.ref C3))(b8:Exc K C3)(b9:Me K (.ref C3) (.type "ValueError")=some true)(c0:MkE K C3 f2)(c1:qc2 K C3 "key")(c2:IsX K C3)(c3:Me K (.ref C3) (.ref C1)=some false)(c4:Me K (.ref C3) (.ref C2)=some false)(c5:Me K (.ref C3) (.ref C4)=some false)(c6:Me K (.ref C3) (.ref C5)=some false)(c7:Me K (.ref C3) (.ref C6)=some false)(c8:Me K (.ref C3) (.ref C7)=some false)(c9:Me K (.ref C3) (.ref C8)=some false)(e0:Me K (.ref C3) (.ref C9)=some false)(e1:Me K (.ref C3) (.ref C10)=some false)(e2:W.mroIn K C3 (.ref C0)=some true)(e3:mg "NotThere" = some (.ref C4))(e4:Exc K C4)(e5:Me K (.ref C4) (.type "ValueError")=some true)(e6:MkE K C4 o)(e7:qc2 K C4 "key")(e8:IsX K C4)(e9:Me K (.ref C4) (.ref C1)=some false)(g0:Me K (.ref C4) (.ref C2)=some false)(g3:Me K (.ref C4) (.ref C3)=some false)(g4:Me K (.ref C4) (.ref C5)=some false)(g5:Me K (.ref C4) (.ref C6)=some false)(g6:Me K (.ref C4) (.ref C7)=some false)(g7:Me K (.ref C4) (.ref C8)=some false)(g8:Me K (.ref C4) (.ref C9)=some false)(g9:Me K (.ref C4) (.ref C10)=some false)(h0:W.mroIn K C4 (.ref C0)=some true)(h1:mg "Unkept" = some (.ref C5))(h2:Exc K C5)(h3:Me K (.ref C5) (.type "ValueError")=some true)(h4:MkE K C5 p)(h5:qc2 K C5 "word")(h6:qc2 K C5 "room")(h7:IsX K C5)(h8:Me K (.ref C5) (.ref C1)=some false)(h9:Me K (.ref C5) (.ref C2)=some false)(i0:Me K (.ref C5) (.ref C3)=some false)(i1:Me K (.ref C5) (.ref C4)=some false)(i2:Me K (.ref C5) (.ref C6)=some false)(i3:Me K (.ref C5) (.ref C7)=some false)(j100:Me K (.ref C5) (.ref C8)=some false)(j101:Me K (.ref C5) (.ref C9)=some false)(j102:Me K (.ref C5) (.ref C10)=some false)(j103:W.mroIn K C5 (.ref C0)=some true)(j104:mg "Unlike" = some (.ref C6))(j105:Exc K C6)(j106:Me K (.ref C6) (.type "ValueError")=some true)(j107:Bw K C6)(j108:IsX K C6)(j109:Me K (.ref C6) (.ref C1)=some false)(j110:Me K (.ref C6) (.ref C2)=some false)(j111:Me K (.ref C6) (.ref C3)=some false)(j112:Me K (.ref C6) (.ref C4)=some false)(j113:Me K (.ref C6) (.ref C5)=some false)(j114:Me K (.ref C6) (.ref C7)=some false)(j115:Me K (.ref C6) (.ref C8)=some false)(j116:Me K (.ref C6) (.ref C9)=some false)(j117:Me K (.ref C6) (.ref C10)=some false)(j118:W.mroIn K C6 (.ref C0)=some true)(j119:mg "NoText" = some (.ref C7))(j120:Exc K C7)(j121:Me K (.ref C7) (.type "ValueError")=some true)(j122:MkE K C7 q)(j123:qc2 K C7 "at")(j124:IsX K C7)(j125:Me K (.ref C7) (.ref C1)=some false)(j126:Me K (.ref C7) (.ref C2)=some false)(j127:Me K (.ref C7) (.ref C3)=some false)(j128:Me K (.ref C7) (.ref C4)=some false)(j129:Me K (.ref C7) (.ref C5)=some false)(j130:Me K (.ref C7) (.ref C6)=some false)(j131:Me K (.ref C7) (.ref C8)=some false)(j132:Me K (.ref C7) (.ref C9)=some false)(j133:Me K (.ref C7) (.ref C10)=some false)(j134:W.mroIn K C7 (.ref C0)=some true)(j135:mg "NoRow" = some (.ref C8))(j136:Exc K C8)(j137:Me K (.ref C8) (.type "ValueError")=some true)(j138:Bw K C8)(j139:IsX K C8)(j140:Me K (.ref C8) (.ref C1)=some false)(j141:Me K (.ref C8) (.ref C2)=some false)(j142:Me K (.ref C8) (.ref C3)=some false)(j143:Me K (.ref C8) (.ref C4)=some false)(j144:Me K (.ref C8) (.ref C5)=some false)(j145:Me K (.ref C8) (.ref C6)=some false)(j146:Me K (.ref C8) (.ref C7)=some false)(j147:Me K (.ref C8) (.ref C9)=some false)(j148:Me K (.ref C8) (.ref C10)=some false)(j149:W.mroIn K C8 (.ref C0)=some true)(j150:mg "NoPlan" = some (.ref C9))(j151:Exc K C9)(j152:Me K (.ref C9) (.type "ValueError")=some true)(j153:Bw K C9)(j154:IsX K C9)(j155:Me K (.ref C9) (.ref C1)=some false)(j156:Me K (.ref C9) (.ref C2)=some false)(j157:Me K (.ref C9) (.ref C3)=some false)(j158:Me K (.ref C9) (.ref C4)=some false)(j159:Me K (.ref C9) (.ref C5)=some false)(j160:Me K (.ref C9) (.ref C6)=some false)(j161:Me K (.ref C9) (.ref C7)=some false)(j162:Me K (.ref C9) (.ref C8)=some false)(j163:Me K (.ref C9) (.ref C10)=some false)(j164:W.mroIn K C9 (.ref C0)=some true)(j165:mg "TooMany" = some (.ref C10))(j166:Exc K C10)(j167:Me K (.ref C10) (.type "ValueError")=some true)(j168:MkE K C10 r)(j169:qc2 K C10 "most")(j170:IsX K C10)(j171:Me K (.ref C10) (.ref C1)=some false)(j172:Me K (.ref C10) (.ref C2)=some false)(j173:Me K (.ref C10) (.ref C3)=some false)(j174:Me K (.ref C10) (.ref C4)=some false)(j175:Me K (.ref C10) (.ref C5)=some false)(j176:Me K (.ref C10) (.ref C6)=some false)(j177:Me K (.ref C10) (.ref C7)=some false)(j178:Me K (.ref C10) (.ref C8)=some false)(j179:Me K (.ref C10) (.ref C9)=some false)(j180:W.mroIn K C10 (.ref C0)=some true)(hb:∀(s:Sh)(v:V'),BindsTo s b ⟨[v],[]⟩ [("_law_script",v)]):∃ fd:δ,(∀(s:Sh)(v:V'),BindsTo s fd ⟨[v],[]⟩ [("_law_script",v)])/\∀ base:Heap,K.In base->base.Ns Js mg->Bm l.prog w K mg base (CX1 l.prog w) 6 fa fd ["_law_script"] (Hs K):=by
 have e:=u.symm.trans j.m;injection e with e
 injection e with e
 subst e;exact⟨b,hb,λ base _ _=>qU9 (a:=⟨k,d0,n,d1,f2,d2,o,d3,p,d4,q,d5,r,d6,f7,d7,f8,d8,f9,d9,c,g,d,h,f,i,fa,b,C0,C1,C2,C3,C4,C5,C6,C7,C8,C9,C10⟩) ⟨j0,j1,j2,j3,j4,j5,j6,j7,j8,j9,x,y,z,j,A,B,C,D,E,F,G,H,I,J,L,M,N,O,P,Q,R,S,T,U,V,X,Y,Z,a0,a1,a2,a3,a4,a5,a6,a7,a8,a9,b0,b1,b2,b3,b4,b5,b6,b7,b8,b9,c0,c1,c2,c3,c4,c5,c6,c7,c8,c9,e0,e1,e2,e3,e4,e5,e6,e7,e8,e9,g0,g3,g4,g5,g6,g7,g8,g9,h0,h1,h2,h3,h4,h5,h6,h7,h8,h9,i0,i1,i2,i3,j100,j101,j102,j103,j104,j105,j106,j107,j108,j109,j110,j111,j112,j113,j114,j115,j116,j117,j118,j119,j120,j121,j122,j123,j124,j125,j126,j127,j128,j129,j130,j131,j132,j133,j134,j135,j136,j137,j138,j139,j140,j141,j142,j143,j144,j145,j146,j147,j148,j149,j150,j151,j152,j153,j154,j155,j156,j157,j158,j159,j160,j161,j162,j163,j164,j165,j166,j167,j168,j169,j170,j171,j172,j173,j174,j175,j176,j177,j178,j179,j180⟩⟩
theorem walk{l:W.OpenLaw}{q:Kq}{loose:List Str}{XP:(Str->Option V')->Heap->Prop}{YP:Ks->Heap->Prop}{d:DefRec}{K:Params->Mf}(c:l.most=some 63)(b:d.params.defaults=[])(e:∀(w:Ks)(h:Heap),YP w h->(K w.params).In h)(F:∀(w:Ks)(mg:Str->Option V')(fa:γ)(h:Heap),(K w.params).In h->h.Ns Js mg->mg d.name=some (.ref fa) ->
 ∃ fd:δ,(∀(s:Sh)(u:V'),BindsTo s fd ⟨[u],[]⟩ [("_law_script",u)])/\∀ base:Heap,(K w.params).In base->base.Ns Js mg->Bm l.prog w (K w.params) mg base (CX1 l.prog w) 6 fa fd ["_law_script"] (Hs (K w.params))) :
 W.WalkO q loose XP YP l.row.toRowW d [] (λ f vs=>PySem.call f vs) :=
 L2.qK8 (n:=63) (k:=6) (x := "_law_script") (CX:=λ w=>CX1 l.prog w) (sp:=λ w=>Hs (K w.params)) c (by decide) b ⟨λ _ z=>Mc (show some none=some _ from z),by decide,by decide⟩ e F (λ _ _ a g i _ j=>⟨a,g,rfl,j,i,λ _=>rfl⟩) λ _ _ _ _ _ ⟨_,_,_,_,_,_,_,_,z⟩=>z
end LV.My
open PySem PySem.W PyProof.Rows L2
local macro_rules | `(tactic| walk_at "u")=>`(tactic| (intro _ _ _ _ _ _;repeat' first | exact LV.ec0 (rfl) | refine LV.ec1 λ _=>?_))
local macro_rules | `(tactic| walk_at "d")=>`(tactic| (refine' LV.My.dfX (by assumption) (by assumption) ?a ?l ?c ?k ?b;(case a | l | c | k=>k_is);(case b=>walk_at "u")))
local macro_rules | `(tactic| walk_at "e")=>`(tactic| (refine' mdmk ?l ?c ?k ?a ?i ?b;(case a | i | l | c | k=>k_is);(case b=>walk_at "u")))
local macro_rules | `(tactic| walk_at "c")=>`(tactic| (refine' mg_of (by assumption) (by assumption) ?a;k_is))
local macro_rules | `(tactic| walk_at "z")=>`(tactic| (refine' mg_none_of (by assumption) (by assumption) ?a;k_is))
local macro_rules | `(tactic| walk_at "q")=>`(tactic| (first | k_is | kernel_rfl | rfl))
local macro_rules | `(tactic| walk_at "n")=>`(tactic| (show findIn _ _ _=some none;k_is))
local macro_rules | `(tactic| walk_at "x9")=>`(tactic| (refine⟨?_,?_,?_,?_,?_,?_,?_,?_,?_⟩<;>walk_at "q"))
local macro_rules | `(tactic| walk_at "ix")=>`(tactic| (refine⟨⟨?_,?_,?_,?_,?_,?_,?_,?_,?_⟩,?_,?_,?_⟩<;>walk_at "q"))
local macro_rules | `(tactic| walk_at "me")=>`(tactic| (refine⟨⟨?_,?_,?_,?_,?_,?_,?_,?_,?_⟩,?_,?_,?_,?_⟩<;>walk_at "q"))
theorem PySem.Challenge.cw_homeward_k15_refusals_apart_holds : PySem.Challenge.rw_homeward_k15_refusals_apart.Holds := by
 w_on;o_law;k_head;(case hw=>w_witness2)
 k_fill
 refine LV.My.walk (l:=PySem.Challenge.rw_homeward_k15_refusals_apart) rfl rfl (λ w h Y=>PySem.W.kIn_of Y) ?F
 case F =>
 intro w b f h KX G a;refine' LV.My.qX5 a ?j0 ?j1 ?j2 ?j3 ?j4 ?j5 ?j6 ?j7 ?j8 ?j9 ?j10 ?j11 ?j12 ?j13 ?j14 ?j15 ?j16 ?j17 ?j18 ?j19 ?j20 ?j21 ?j22 ?j23 ?j24 ?j25 ?j26 ?j27 ?j28 ?j29 ?j30 ?j31 ?j32 ?j33 ?j34 ?j35 ?j36 ?j37 ?j38 ?j39 ?j40 ?j41 ?j42 ?j43 ?j44 ?j45 ?j46 ?j47 ?j48 ?j49 ?j50 ?j51 ?j52 ?j53 ?j54 ?j55 ?j56 ?j57 ?j58 ?j59 ?j60 ?j61 ?j62 ?j63 ?j64 ?j65 ?j66 ?j67 ?j68 ?j69 ?j70 ?j71 ?j72 ?j73 ?j74 ?j75 ?j76 ?j77 ?j78 ?j79 ?j80 ?j81 ?j82 ?j83 ?j84 ?j85 ?j86 ?j87 ?j88 ?j89 ?j90 ?j91 ?j92 ?j93 ?j94 ?j95 ?j96 ?j97 ?j98 ?j99 ?j100 ?j101 ?j102 ?j103 ?j104 ?j105 ?j106 ?j107 ?j108 ?j109 ?j110 ?j111 ?j112 ?j113 ?j114 ?j115 ?j116 ?j117 ?j118 ?j119 ?j120 ?j121 ?j122 ?j123 ?j124 ?j125 ?j126 ?j127 ?j128 ?j129 ?j130 ?j131 ?j132 ?j133 ?j134 ?j135 ?j136 ?j137 ?j138 ?j139 ?j140 ?j141 ?j142 ?j143 ?j144 ?j145 ?j146 ?j147 ?j148 ?j149 ?j150 ?j151 ?j152 ?j153 ?j154 ?j155 ?j156 ?j157 ?j158 ?j159 ?j160 ?j161 ?j162 ?j163 ?j164 ?j165 ?j166 ?j167 ?j168 ?j169 ?j170 ?j171 ?j172 ?j173 ?j174 ?j175 ?j176 ?j177 ?j178 ?j179 ?j180 ?hb
 case j21|j23|j39|j55|j71|j87|j104|j119|j135|j150|j165=>walk_at "c"
 case j0|j1|j2|j3|j4|j5|j6=>walk_at "e"
 case j7|j8|j9|j10|j11|j12|j13=>walk_at "d"
 case j14|j15|j16|j17|j18|j19|j20=>walk_at "z"
 case j22|j24|j40|j56|j72|j88|j105|j120|j136|j151|j166=>walk_at "x9"
 case j25|j29|j30|j31|j32|j33|j34|j35|j36|j37|j38|j41|j45|j46|j47|j48|j49|j50|j51|j52|j53|j54|j57|j61|j62|j63|j64|j65|j66|j67|j68|j69|j70|j73|j77|j78|j79|j80|j81|j82|j83|j84|j85|j86|j89|j94|j95|j96|j97|j98|j99|j100|j101|j102|j103|j106|j109|j110|j111|j112|j113|j114|j115|j116|j117|j118|j121|j125|j126|j127|j128|j129|j130|j131|j132|j133|j134|j137|j140|j141|j142|j143|j144|j145|j146|j147|j148|j149|j152|j155|j156|j157|j158|j159|j160|j161|j162|j163|j164|j167|j171|j172|j173|j174|j175|j176|j177|j178|j179|j180=>walk_at "q"
 case j27|j43|j59|j75|j91|j92|j123|j169=>walk_at "n"
 case j28|j44|j60|j76|j93|j108|j124|j139|j154|j170=>walk_at "ix"
 case j107|j138|j153=>refine⟨⟨?_,?_,?_,?_,?_,?_,?_,?_,?_⟩,?_,?_,?_⟩<;>walk_at "q"
 case j26|j42|j58|j74|j90|j122|j168=>walk_at "me"
 case hb=>exact λ s v=>.of_eq rfl
#print axioms PySem.Challenge.cw_homeward_k15_refusals_apart_holds
