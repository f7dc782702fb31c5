import PyProof.Rows.All
import Wide.All
import OpenK.AllK
import Wide.FinOn
import Lean
import PyProof.EqAt
import PyProof.EqKinds
import PyProof.TupleCall
import PyProof.P3Eq
import PyProof.NeData
import PyProof.ConsumeWalk
import PyProof.Rows.SumAny
import PyProof.ZipIter
import PyProof.Rows.ZipGen
import PyProof.Rows.SeqMore
import PyProof.FactsAll.tuple
import PyProof.WalksMore
import PyProof.EnumMake
import PyProof.EnumFor
import PyProof.Rows.MinMaxN
import KE.KDictList
import KE.KRevIter
import KE.KItemsList
import PyProof.Rows.SortWalk
import PyProof.Rows.SetFrom
import PyProof.SetRoads
import PySem.Challenge.RW_cutlands_k07_where_cuts_meet
set_option maxRecDepth 100000
set_option maxHeartbeats 0
set_option linter.all false
noncomputable section
abbrev LI:=List Int
abbrev LL:=List LI
section
open PySem
def aa:=@List.getElem?_eq_some_iff
def ae:=@Heap.get?_push_of_some
def af:=@List.getD_eq_getElem?_getD
def ag:=@List.getElem?_eq_getElem
def ai:=@List.mem_append
def aj:=@List.mem_singleton
def ak:=@wpAny_pure
def ao:=@wpAny_bind
def aq:=@List.getElem?_set_ne
def ar:=@Heap.get?_push_size
def au:=@List.mem_of_getElem?
def av:=@List.getElem?_map
def aw:=@List.length_map
def ax:=@List.mem_append_left
def ay:=@List.length_cons
def az:=@Int.le_of_lt
def aA:=@decide_eq_false
def aB:=@decide_eq_true
def aC:=@List.mem_map
def aD:=@Nat.lt_of_lt_of_le
def aE:=@List.mem_cons
def aF:=@Nat.zero_add
def aG:=@Bool.false_ne_true
def aH:=@List.map_map
def aJ:=@Nat.le_refl
def aK:=@Heap.lt_size
def aL:=@Nat.ne_of_lt
def aM:=@Nat.le_trans
def aN:=@Classical.byContradiction
def aP:=@if_pos
def aQ:=@if_neg
def aR:=@List.mem_range
def aS:=@List.length_append
def aT:=@List.mem_filter
def aU:=@List.getElem_mem
def aV:=@List.of_mem_zip
def aW:=@Int.mul_pos
def aX:=@Int.natAbs_mul
def aY:=@List.map_append
def aZ:=@Nat.lt_irrefl
def a9:=@List.eq_of_mem_replicate
def bf:=@Nat.le_of_lt
def bg:=@List.filterMap_cons
def bh:=@List.mem_cons_self
def bj:=@List.mem_cons_of_mem
def bp:=@Array.length_toList
def bu:=@Nat.ne_of_gt
def bz:=@Int.mul_one
def bA:=@List.mem_filterMap
def bB:=@List.mem_append_right
def bC:=@List.size_toArray
def bD:=@List.map_cons
def bE:=@Nat.lt_succ_self
def bF:=@Nat.zero_le
def bG:=@List.append_nil
def bH:=@Nat.le_succ
def bI:=@List.nodup_cons
def bJ:=@Option.isSome_iff_exists
def bK:=@List.length_take
def bL:=@List.length_replicate
def bM:=@Int.toNat_natCast
def bN:=@List.length_drop
def bO:=@Bool.and_eq_true
def bP:=@List.length_set
def bQ:=@List.all_cons
def bR:=@List.any_cons
def bS:=@List.replicate_succ
def bT:=@List.flatten_cons
def bU:=@List.append_assoc
def bV:=@List.length_singleton
def bW:=@Nat.succ_mul
def bX:=@Nat.le_of_not_lt
def bY:=@Bool.false_eq_true
def bZ:=@List.lookup_cons
def b4:=@Nat.le_of_succ_le
def b5:=@Nat.lt_succ_of_lt
def b6:=@Nat.le_add_right
def b7:=@Nat.le_succ_of_le
def b9:=@List.range_succ_eq_map
def cf:=@List.all_map
def cg:=@List.any_map
def cj:=@List.take_of_length_le
def ck:=@List.all_eq_true
def cm:=@List.length_range
def cn:=@Int.gcd_dvd_left
def cq:=@Int.gcd_dvd_right
def cu:=@Int.dvd_mul_of_dvd_left
def cv:=@Int.fmod_nonneg_of_pos
def cw:=@Int.fmod_lt_of_pos
def cx:=@Int.natAbs_natCast
def cy:=@Int.gcd_pos_of_ne_zero_right
def cz:=@Int.mul_assoc
def cA:=@Int.mul_comm
def cB:=@Int.mul_fdiv_cancel_left
def cC:=@List.lookup_cons_self
def cD:=@List.drop_eq_getElem_cons
def cE:=@List.map_take
def cF:=@Nat.not_lt_zero
def cG:=@Nat.le_max_left
def cH:=@Nat.le_max_right
def cI:=@Int.natAbs_add_le
def cJ:=@Int.natAbs_neg
def cK:=@List.drop_of_length_le
def cL:=@Int.toNat_of_nonneg
def cN:=@Int.mul_le_mul_of_nonneg_left
def cO:=@Int.mul_zero
def cP:=@Int.dvd_trans
def cQ:=@Int.one_mul
def cR:=@Nat.lt_of_le_of_lt
def cS:=@List.take_length
def cT:=@List.getElem_map
def cU:=@Int.neg_mul
def cV:=@Int.zero_mul
def cW:=@Int.mul_add
def cX:=@List.length_erase_of_mem
def cY:=@List.length_nil
def cZ:=@List.map_set
def c5:=@List.mem_of_mem_erase
def c6:=@Rat.intCast_mul
def c7:=@Int.mul_ne_zero
def c8:=@List.sum_cons
def c9:=@Nat.mul_le_mul_left
def dc:=@Int.eq_of_mul_eq_mul_left
def de:=@List.mem_or_eq_of_mem_set
def df:=@List.pairwise_map
def dg:=@List.pairwise_append
def dh:=@List.pairwise_singleton
def dk:=@Nat.mul_le_mul
def dm:=@List.length_eq_zero_iff
def dt:=@List.mem_iff_getElem?
def du:=@List.pairwise_iff_getElem
def dw:=@List.nodup_range
def dy:=@List.nodup_append
def dz:=@List.length_zip
def dA:=@List.mem_of_mem_take
def dB:=@Rat.lt_of_mul_lt_mul_left
def dC:=@Nat.pow_lt_pow_right
def dD:=@Nat.le_antisymm
def dE:=@List.mem_map_of_mem
def dF:=@List.getElem_range
end
set_option Elab.async false
namespace L2
open PySem PySem.Spec PyProof.Rows
abbrev pV:=Sum Int Str
def EG:pV->Value->Bool
 | .inl k,v=>Value.isInt k v
 | .inr x,v=>Value.isStrOf x v
def IT(w:World):pV->Int
 | .inl k=>hashInt k
 | .inr x=>hashStr w x
theorem gw:∀{k:pV} {v:Value},EG k v=true->(∃i t,k=Sum.inl i/\v=Value.int i t)\/(∃x t,k=Sum.inr x/\v=Value.str x t)
 | .inl i,v,h=>by obtain⟨t,e⟩:=Value.isInt_shape (k:=i) (v:=v) h;exact .inl ⟨i,t,rfl,e⟩
 | .inr x,v,h=>by obtain⟨t,e⟩:=Value.isStrOf_shape (x:=x) (v:=v) h;exact .inr ⟨x,t,rfl,e⟩
theorem GO(a b:Int):decide ((Sum.inl a:pV)=Sum.inl b)=(a == b):=by
 by_cases e:a=b
 ·subst e;simp
 ·have h:¬(Sum.inl a:pV)=Sum.inl b:=λq=>e (Sum.inl.inj q);rw[aA h];exact (beq_eq_false_iff_ne.mpr e).symm
theorem FS(a b:Str):decide ((Sum.inr a:pV)=Sum.inr b)=decide (a=b):=by
 by_cases e:a=b
 ·subst e;simp
 ·have h:¬(Sum.inr a:pV)=Sum.inr b:=λq=>e (Sum.inr.inj q);rw[aA h,aA e]
theorem Gh(a:Int)(b:Str):decide ((Sum.inl a:pV)=Sum.inr b)=false:=aA (λq=>nomatch q)
theorem Gu(a:Str)(b:Int):decide ((Sum.inr a:pV)=Sum.inl b)=false:=aA (λq=>nomatch q)
def xW(prog:Program)(w:World):PySem.KeyKind prog w pV where
 is:=EG
 hash:=IT w
 inj:=λv a b ha hb=>by
  rcases gw ha with⟨i,t,rfl,rfl⟩ | ⟨x,t,rfl,rfl⟩
  ·rcases gw hb with⟨j,u,rfl,e⟩ | ⟨y,u,rfl,e⟩
   ·injection e with e1 _;rw[e1]
   ·exact nomatch e
  ·rcases gw hb with⟨j,u,rfl,e⟩ | ⟨y,u,rfl,e⟩
   ·exact nomatch e
   ·injection e with e1 _;rw[e1]
 byValue:=λk v h=>by rcases gw h with⟨i,t,rfl,rfl⟩ | ⟨x,t,rfl,rfl⟩<;>rfl
 pyHash:=λhv h=>by
  rcases gw hv with⟨i,t,rfl,rfl⟩ | ⟨x,t,rfl,rfl⟩
  ·exact wpAny_pyHash_int h
  ·exact wpAny_pyHash_str h
 eqBool:=λhu hv h=>by
  rcases gw hu with⟨i,t,rfl,rfl⟩ | ⟨x,t,rfl,rfl⟩
  ·rcases gw hv with⟨j,u,rfl,rfl⟩ | ⟨y,u,rfl,rfl⟩
   ·rw[GO] at h;exact wpAny_eqBool_int h
   ·rw[Gh] at h;exact SeqAt.EqAt.int_str i t y u _ _ _ _ h
  ·rcases gw hv with⟨j,u,rfl,rfl⟩ | ⟨y,u,rfl,rfl⟩
   ·rw[Gu] at h;exact SeqAt.EqAt.str_int x t j u _ _ _ _ h
   ·rw[FS] at h;exact wpAny_eqBool_str h
 «strs»:=λk x t v h=>by
  rcases gw h with⟨i,u,rfl,e⟩ | ⟨y,u,rfl,e⟩
  ·exact nomatch e
  ·injection e with e1 _;subst e1;cases v<;>rfl
end L2
namespace L2
open PySem PySem.Spec PyProof.Rows
inductive V where
 | non | bl (b:Bool) | int (i:Int) | str (x:Str) | byt (b:Array UInt8) | flt (b:UInt64) | ref (a:Addr) | ty (n:String)
 deriving DecidableEq
def fM:V->Value->Prop
 | .non,u=>u=Value.none
 | .bl b,u=>u=Value.bool b
 | .int i,u=>∃t,u=Value.int i t
 | .str x,u=>∃t,u=Value.str x t
 | .byt b,u=>∃t,u=Value.bytes b t
 | .flt b,u=>∃t,u=Value.float b t
 | .ref a,u=>u=Value.ref a
 | .ty n,u=>u=Value.type n
abbrev eU:List V->List Value->Prop:=Paired fM
theorem eU.length{xs:List V}{us:List Value}(r:eU xs us):xs.length=us.length:=Paired.length r
theorem eU.get:∀{xs:List V} {us:List Value} {i:Nat} {x:V},eU xs us->xs[i]? = some x->∃u,us[i]? = some u/\fM x u
 | _,_,_,_,.nil,e=>by simp at e
 | _,_,0,_,.cons r _,e=>by simp at e;subst e;exact⟨_,rfl,r⟩
 | _,_,i+1,x,.cons _ t,e=>by obtain⟨u,h1,h2⟩:=eU.get (i:=i) (x:=x) t (by simpa using e);exact⟨u,by simpa using h1,h2⟩
theorem eU.set{x:V}{u:Value}(r:fM x u):∀{xs:List V} {us:List Value} (i:Nat),eU xs us->eU (xs.set i x) (us.set i u)
 | _,_,_,.nil=>.nil
 | _,_,0,.cons _ t=>.cons r t
 | _,_,i+1,.cons q t=>.cons q (eU.set r i t)
theorem eU.append:∀{xs ys:List V} {us ws:List Value},eU xs us->eU ys ws->eU (xs++ys) (us++ws)
 | _,_,_,_,.nil,s=>s
 | _,_,_,_,.cons r t,s=>.cons r (eU.append t s)
theorem eU.take:∀{xs:List V} {us:List Value} (n:Nat),eU xs us->eU (xs.take n) (us.take n)
 | _,_,0,_=>.nil
 | _,_,_+1,.nil=>.nil
 | _,_,n+1,.cons r t=>.cons r (eU.take n t)
theorem eU.drop:∀{xs:List V} {us:List Value} (n:Nat),eU xs us->eU (xs.drop n) (us.drop n)
 | _,_,0,r=>r
 | _,_,_+1,.nil=>.nil
 | _,_,n+1,.cons _ t=>eU.drop n t
def rE:Option V->Option Value->Prop
 | some v,some u=>fM v u
 | none,none=>True
 | _,_=>False
def KV{κ:Type}:List (κ×V)->List (κ×Value)->Prop:=Paired λ(p:κ×V) (q:κ×Value)=>p.1=q.1/\fM p.2 q.2
def kV:pV->V
 | .inl i=>.int i
 | .inr x=>.str x
inductive HO where
 | lst (xs:List V)
 | tup (xs:List V)
 | dK (kvs:List (pV×V)) | dT (kvs:List (List pV×V))
 | set (S:Int->Bool) (n:Nat)
 | ins (C dx:Addr) (fs:List (Str×V))
 | own (x:Addr)
 | xd (fs:List (Str×V))
 | met (f x:Addr)
 | rng (lo hi:Int)
 | frz (o:Obj) (u:HO)
 | tbl (ps:Array Value)
 | ext (φ:Heap->Prop)
abbrev Hp:=Addr->Option HO
def gL(H:Hp)(a:Addr)(o:HO):Hp:=λb=>if b=a then some o else H b
theorem eC{H:Hp}{a:Addr}{o:HO}:gL H a o a=some o:=by unfold gL;rw[aP rfl]
theorem eD{H:Hp}{a b:Addr}{o:HO}(h:b≠a):gL H a o b=H b:=by unfold gL;rw[aQ h]
theorem eO{H:Hp}{a b:Addr}{o:HO}(h:H a=some o)(h':H b=none):a≠b:=by intro e;subst e;rw[h] at h';cases h'
section
variable (P:Program)(w:World)
def ig(H:Hp)(h:Heap)(a:Addr):HO->Prop
 | .lst xs=>xs.length<=sizeLine/\∃(its:List Value) (n:Nat),eU xs its/\h.get? a=some {cls:=.type "list",data:=.seq its.toArray n}
 | .tup xs=>xs.length<=sizeLine/\∃its:List Value,eU xs its/\IsTup h a its.toArray
 | .dK kvs=>kvs.length<=sizeLine/\(a == sysModules)=false/\∃vs,KV kvs vs/\h.DictOf (xW P w) a vs
 | .dT kvs=>kvs.length<=sizeLine/\(a == sysModules)=false/\∃xs:List (List pV×Addr×Value),
   Paired (λ(p:List pV×V) (q:List pV×Addr×Value)=>p.1=q.1/\H q.2.1=some (.tup (p.1.map kV))/\fM p.2 q.2.2) kvs xs/\
   ∃o es ep,h.get? a=some o/\o.ExactDict/\o.data=.dict es ep/\es.toList=xs.map (entryOfKey (tupleKind (xW P w)))/\(xs.map (·.1)).Nodup
 | .set S n=>h.SetOf (intKind P w) a S n
 | .ins C dx fs=>H dx=some (.own a)/\fs.length<=1000/\dx≠a/\h.get? a=some (W.instObj C dx)/\
   ∃mA,h.Ns1 dx mA/\(∀f,rE (fs.lookup f) (mA f))/\PySem.Within mA (fs.map (·.1))
 | .own _=>∃o,h.get? a=some o
 | .xd fs=>∃mA,h.Ns1 a mA/\∀f,rE (fs.lookup f) (mA f)
 | .rng lo hi=>∃t u v,h.get? a=some {cls:=.type "range",data:=.fields #[.int lo t,.int hi u,.int 1 v]}
 | .frz o u=>h.get? a=some o/\ig H h a u
 | .tbl ps=>h.get? a=some {cls:=.none,data:=.fields ps}
 | .met f x=>h.get? a=some (W.methodObj (.ref f) (.ref x))
 | .ext φ=>φ h/\(∃o,h.get? a=some o)/\∀h1 h2:Heap,φ h1->(∀o,h1.get? a=some o->h2.get? a=some o)->φ h2
def oA(H:Hp)(h:Heap):Prop:=∀a o,H a=some o->ig P w H h a o
end
section
variable {P:Program}{w:World}{H H':Hp}{h h':Heap}{a:Addr}{o:HO}
theorem ig.lt(x:ig P w H h a o):a<h.objs.size:=by
 cases o with
 | lst xs=>obtain⟨_,_,_,_,e⟩:=x;exact aK e
 | tup xs=>obtain⟨_,_,_,p⟩:=x;exact p.lt
 | dK kvs=>obtain⟨_,_,_,_,o,_,_,e,_⟩:=x;exact aK e
 | dT kvs=>obtain⟨_,_,_,_,o,_,_,e,_⟩:=x;exact aK e
 | set S n=>obtain⟨o,_,_,_,e,_⟩:=x;exact aK e
 | ins C dx fs=>obtain⟨_,_,_,e,_⟩:=x;exact aK e
 | own y=>obtain⟨_,e⟩:=x;exact aK e
 | xd fs=>obtain⟨_,⟨_,_,_,e,_⟩,_⟩:=x;exact aK e
 | rng lo hi=>obtain⟨_,_,_,e⟩:=x;exact aK e
 | frz ob u=>obtain⟨e,_⟩:=x;exact aK e
 | tbl ps=>exact aK (show h.get? a=some _ from x)
 | met f y=>exact aK (show h.get? a=some _ from x)
 | ext φ=>obtain⟨_,⟨_,e⟩,_⟩:=x;exact aK e
theorem Paired.mapP{α β:Type}{F G:α->β->Prop}:∀{l₁:List α} {l₂:List β},Paired F l₁ l₂->(∀a b,F a b->G a b)->Paired G l₁ l₂
 | _,_,.nil,_=>.nil
 | _,_,.cons r t,f=>.cons (f _ _ r) (Paired.mapP t f)
theorem Paired.imp'{α β:Type}{F G:α->β->Prop}(f:∀a b,F a b->G a b){l₁:List α}{l₂:List β}(r:Paired F l₁ l₂):Paired G l₁ l₂:=Paired.mapP r f
theorem ig.stay(x:ig P w H h a o)(k:∀b u,(b=a\/H b=some (.own a))->h.get? b=some u->h'.get? b=some u)
  (ho:∀b,H b=some (.own a)->H' b=some (.own a)) (ht:∀b xs,H b=some (.tup xs)->H' b=some (.tup xs)):ig P w H' h' a o:=by
 induction o with
 | lst xs=>obtain⟨z,its,n,r,e⟩:=x;exact⟨z,its,n,r,k _ _ (.inl rfl) e⟩
 | tup xs=>obtain⟨z,its,r,ob,e,c⟩:=x;exact⟨z,its,r,ob,k _ _ (.inl rfl) e,c⟩
 | dK kvs=>obtain⟨z,y,vs,r,ob,es,ep,e,c⟩:=x;exact⟨z,y,vs,r,ob,es,ep,k _ _ (.inl rfl) e,c⟩
 | dT kvs=>obtain⟨z,y,xs,r,ob,es,ep,e,c⟩:=x;exact⟨z,y,xs,Paired.mapP r λp q z=>⟨z.1,ht _ _ z.2.1,z.2.2⟩,ob,es,ep,k _ _ (.inl rfl) e,c⟩
 | set S n=>obtain⟨ob,es,ep,t,e,c⟩:=x;exact⟨ob,es,ep,t,k _ _ (.inl rfl) e,c⟩
 | ins C dx fs=>obtain⟨d,z,ne,e,mA,⟨od,es,ep,e2,c⟩,r⟩:=x;exact⟨ho _ d,z,ne,k _ _ (.inl rfl) e,mA,⟨od,es,ep,k _ _ (.inr d) e2,c⟩,r⟩
 | own y=>obtain⟨ob,e⟩:=x;exact⟨ob,k _ _ (.inl rfl) e⟩
 | xd fs=>obtain⟨mA,⟨od,es,ep,e,c⟩,r⟩:=x;exact⟨mA,⟨od,es,ep,k _ _ (.inl rfl) e,c⟩,r⟩
 | rng lo hi=>obtain⟨t,u,v,e⟩:=x;exact⟨t,u,v,k _ _ (.inl rfl) e⟩
 | frz ob u ih=>obtain⟨e,q⟩:=x;exact⟨k _ _ (.inl rfl) e,ih q⟩
 | tbl ps=>have e:h.get? a=some {cls:=.none,data:=.fields ps}:=x;show h'.get? a=some {cls:=.none,data:=.fields ps};exact k a _ (.inl rfl) e
 | met f y=>have e:h.get? a=some (W.methodObj (.ref f) (.ref y)):=x;show h'.get? a=some (W.methodObj (.ref f) (.ref y));exact k a _ (.inl rfl) e
 | ext φ=>obtain⟨p,⟨o,e⟩,st⟩:=x;exact⟨st _ _ p λo q=>k _ _ (.inl rfl) q,⟨o,k _ _ (.inl rfl) e⟩,st⟩
theorem oA.lt(x:oA P w H h)(e:H a=some o):a<h.objs.size:=(x a o e).lt
theorem oA.fresh(x:oA P w H h)(e:h.objs.size<=a):H a=none:=by
 cases q:H a with
 | none=>rfl
 | some u=>exact absurd (aD (x.lt q) e) (aZ _)
theorem oA.kept(x:oA P w H h)(k:∀b u,h.get? b=some u->h'.get? b=some u):oA P w H h':=λa o e=>(x a o e).stay (λb u _ q=>k b u q) (λ_ q=>q) λ_ _ q=>q
theorem oA.laid(x:oA P w H h)(k:∀b u,h.get? b=some u->h'.get? b=some u)(hp:h.objs.size<=a)(new:ig P w (gL H a o) h' a o):oA P w (gL H a o) h':=λb u e=>by
 have hn:=x.fresh hp;by_cases hb:b=a
 ·subst hb;rw[eC] at e;cases e;exact new
 ·rw[eD hb] at e;exact (x b u e).stay (λc v _ q=>k c v q) (λc q=>by rw[eD (eO q hn)];exact q) λc xs q=>by rw[eD (eO q hn)];exact q
end
def Rd(H:Hp)(a:Addr)(u:HO):Prop:=H a=some u\/∃o,H a=some (.frz o u)
theorem Rd.ok{P:Program}{w:World}{H:Hp}{h:Heap}{a:Addr}{u:HO}(r:Rd H a u)(x:oA P w H h):ig P w H h a u:=by
 rcases r with r | ⟨o,r⟩
 ·exact x a u r
 ·obtain⟨_,q⟩:=x a _ r;exact q
def ID:Option HO->Prop
 | some (.lst _)=>True
 | some (.dK _)=>True
 | some (.dT _)=>True
 | some (.set _ _)=>True
 | some (.ins _ _ _)=>True
 | some (.ext _)=>True
 | _=>False
section
variable {P:Program}{w:World}{H:Hp}{h h':Heap}{x e:Addr}{o':HO}
theorem oA.write(ok:oA P w H h)(mu:ID (H x))(he:e=x\/H e=some (.own x))(k:∀b u,b≠e->h.get? b=some u->h'.get? b=some u)(heo:∃u,h'.get? e=some u)
  (new:ig P w (gL H x o') h' x o'):oA P w (gL H x o') h':=λb u q=>by
 have nown:∀c y,H c=some (.own y)->c≠x:=λc y r z=>by subst z;rw[r] at mu;exact mu
 have ntup:∀c xs,H c=some (.tup xs)->c≠x:=λc xs r z=>by subst z;rw[r] at mu;exact mu
 by_cases hb:b=x
 ·subst hb;rw[eC] at q;cases q;exact new
 ·rw[eD hb] at q;by_cases hbe:b=e
  ·have q':H b=some (.own x):=by
    rcases he with z | z
    ·exact absurd (hbe.trans z) hb
    ·rw[hbe];exact z
   rw[q] at q';cases q';obtain⟨v,hv⟩:=heo;exact⟨v,by rw[hbe];exact hv⟩
  ·refine (ok b u q).stay (λc v hc r=>k c v ?_ r) (λc r=>by rw[eD (nown c b r)];exact r) λc xs r=>by rw[eD (ntup c xs r)];exact r
   rcases hc with rfl | hc
   ·exact hbe
   ·rintro rfl;rcases he with z | z
    ·exact nown c b hc z
    ·rw[hc] at z;cases z;exact hb rfl
end
structure Un(fs ex:List Addr)(H H':Hp)(h h':Heap):Prop where
 keep:∀b o,h.get? b=some o->H b=none->b∉fs->b∉ex->h'.get? b=some o
 slot:∀b o,h.get? b=some o->H b=none->b∈fs->b∉ex->∃sl,h'.get? b=some {o with slots:=sl}
 free:∀b o,h.get? b=some o->H b=none->b∉ex->H' b=none
 there:∀b o,h.get? b=some o->b∉ex->∃o',h'.get? b=some o'
 tups:∀b xs,H b=some (.tup xs)->H' b=some (.tup xs)
 frzs:∀b o u,H b=some (.frz o u)->H' b=some (.frz o u)
 tbls:∀b ps,H b=some (.tbl ps)->∃more,H' b=some (.tbl (ps++more))
section
variable {fs fs' ex ex':List Addr}{H H1 H2:Hp}{h h1 h2 h':Heap}{a x e:Addr}{o:HO}
theorem Un.any(u:Un fs ex H H1 h h1){b:Addr}{ob:Obj}(q:h.get? b=some ob)(n:H b=none)(hx:b∉ex):∃sl,h1.get? b=some {ob with slots:=sl}:=by
 by_cases hb:b∈fs
 ·exact u.slot b ob q n hb hx
 ·exact⟨ob.slots,u.keep b ob q n hb hx⟩
theorem Un.kept(k:∀b u,h.get? b=some u->h'.get? b=some u):Un fs ex H H h h':=⟨λb ob q _ _ _=>k b ob q,λb ob q _ _ _=>⟨ob.slots,k b ob q⟩,λ_ _ _ n _=>n,λb ob q _=>⟨ob,k b ob q⟩,λ_ _ q=>q,λ_ _ _ q=>q,λ_ ps q=>⟨#[],by rw[q];simp⟩⟩
theorem Un.refl:Un fs ex H H h h:=Un.kept λ_ _ q=>q
theorem Un.laid(k:∀b u,h.get? b=some u->h'.get? b=some u)(hp:h.objs.size<=a)(hn:H a=none):Un fs ex H (gL H a o) h h' where
 keep:=λb u q _ _ _=>k b u q
 slot:=λb u q _ _ _=>⟨u.slots,k b u q⟩
 free:=λb u q n _=>by rw[eD (aL (aD (aK q) hp))];exact n
 there:=λb u q _=>⟨u,k b u q⟩
 tups:=λb xs q=>by rw[eD (eO q hn)];exact q
 frzs:=λb u xs q=>by rw[eD (eO q hn)];exact q
 tbls:=λb ps q=>⟨#[],by rw[eD (eO q hn),q];simp⟩
theorem Un.write(mu:ID (H x))(he:e=x\/H e=some (.own x))(k:∀b u,b≠e->h.get? b=some u->h'.get? b=some u)(heo:∃u,h'.get? e=some u):Un fs ex H (gL H x o) h h':=by
 have hx:∀b,H b=none->b≠x:=λb n z=>by subst z;rw[n] at mu;exact mu
 have hb:∀b,H b=none->b≠e:=λb n z=>by
  subst z;rcases he with r | r
  ·exact hx b n r
  ·rw[n] at r;cases r
 have hm:∀b u,H b=some u->¬ID (some u)->b≠x:=λb u q nm z=>by subst z;rw[q] at mu;exact nm mu
 refine⟨λb u q n _ _=>k b u (hb b n) q,λb u q n _ _=>⟨u.slots,k b u (hb b n) q⟩,λb u q n _=>by rw[eD (hx b n)];exact n,λb u q _=>?_,
  λb xs q=>by rw[eD (hm b _ q λz=>z)];exact q,λb u xs q=>by rw[eD (hm b _ q λz=>z)];exact q,λb ps q=>⟨#[],by rw[eD (hm b _ q λz=>z),q];simp⟩⟩
 by_cases hbe:b=e
 ·subst hbe;exact heo
 ·exact⟨u,k b u hbe q⟩
end
def Iy(h:Heap)(H:Hp):List Addr:=(List.range h.objs.size).filter λa=>(H a).isSome
def tf(h:Heap)(H:Hp):Heap:=W.hideAll h (Iy h H)
theorem yR(h:Heap)(H:Hp):(tf h H).objs.size=h.objs.size:=W.hideAll_size _ _
theorem zZ{h:Heap}{H:Hp}{b:Addr}{o:Obj}(e:h.get? b=some o)(n:H b=none):(tf h H).get? b=some o:=W.hideAll_get _ e λhm=>by have q:(H b).isSome=true:=(aT.mp hm).2;rw[n] at q;simp at q
theorem DM{h:Heap}{H:Hp}{b:Addr}{o:Obj}(e:(tf h H).get? b=some o):h.get? b=some o/\H b=none:=by
 have e':h.get? b=some o:=W.of_hideAll (Iy h H) e;refine⟨e',?_⟩;cases q:H b with
 | none=>rfl
 | some x=>have hm:b∈Iy h H:=aT.mpr ⟨aR.mpr (aK e'),by simp[q]⟩;have z:(tf h H).get? b=none:=W.hideAll_none (Iy h H) hm;rw[z] at e;cases e
end L2
namespace L2
open PySem PySem.Spec PyProof.Rows
structure Mod(K:W.Frag)(mg:Str->Option Value)(base:Heap):Prop where
 kin:K.In base
 glob:base.Ns mainGlobals mg
 blt:∃mb,base.Ns builtinsNs mb/\∀x:Str,x≠ "__name__" ->mb x=bootBuiltins x
 nolimit:base.NoLimit
structure Cx where
 prog:Program
 w:World
 K:W.Frag
 mg:Str->Option Value
 base:Heap
 A:Around
 N:List Str
 s₀:Shared
 H₀:Hp
 env:Env
 outer:List Env
 stack:List Env
 ex:List Addr
 fn:Str->Bool
 calm:Bool
 pn:List (Addr×Obj)
 xe:Value->Shared->Prop
def zG(l:List Env):List Addr:=l.filterMap (·.frame)
abbrev Cx.fs(X:Cx):List Addr:=zG X.outer
def Hr(sc:Scope)(x:Str):Prop:=sc.names.lookup x=some .local\/sc.names.lookup x=some .cell\/sc.names.lookup x=some .free
def zN(sc:Scope)(x:Str):Prop:=sc.names.lookup x=some .local\/sc.names.lookup x=some .cell
def IM(env:Env)(h:Heap)(m:Str->Option Value)(x:Str)(u:Value):Prop:=(env.kindOf x=some .local/\m x=some u)\/((env.kindOf x=some .cell\/env.kindOf x=some .free)/\∃c,env.cells.lookup x=some c/\h.IsCell c (some u))
structure Cx.Ok(X:Cx):Prop where
 mod:Mod X.K X.mg X.base
 kind:X.env.scope.kind=.function
 glob:X.env.globals=mainGlobals
 blt:X.env.builtins=builtinsNs
 above:X.s₀.heap.objs.size<=X.env.locals
 inj:∀x y c,X.env.cells.lookup x=some c->X.env.cells.lookup y=some c->x=y
 has:∀x,(X.env.kindOf x=some .cell\/X.env.kindOf x=some .free)->∃c,X.env.cells.lookup x=some c
 cab:∀x c,X.fn x=true->X.env.cells.lookup x=some c->X.s₀.heap.objs.size<=c
 hd:X.calm=true->X.A.handled=none
 frames:X.A.frames=some X.stack
 stk:X.stack=X.outer\/(X.stack=X.env::X.outer/\X.env.frame=some X.env.locals)
 exf:∀b∈X.ex,b≠X.env.locals/\∀x c,X.env.cells.lookup x=some c->c≠b
 bs:∀b o,X.base.get? b=some o->X.s₀.heap.get? b=some o/\X.H₀ b=none
 bsz:X.base.objs.size<=X.s₀.heap.objs.size
 noex:∀b o,X.base.get? b=some o->b∉X.ex
 exfs:∀b∈X.ex,b∉X.fs
 funs:X.s₀.heap.FunFrames X.base X.outer
 frf:∀b∈X.fs,X.H₀ b=none
structure eJ(X:Cx)(dN:List (Addr×Obj))(σ:List (Option V))(H:Hp)(s:Shared):Prop where
 ok:X.Ok
 os:s.os=X.s₀.os
 bare:AllBare s.gens
 base:Un X.fs X.ex X.H₀ H X.s₀.heap s.heap
 loc:∃m,s.heap.Ns X.env.locals m/\∀(i:Nat) (x:Str) (v:V),X.N[i]? = some x->σ[i]? = some (some v)->Hr X.env.scope x->∃u,fM v u/\IM X.env s.heap m x u
 cell:∀x c,X.env.cells.lookup x=some c->∃v,s.heap.IsCell c v
 free:H X.env.locals=none
 freeC:∀x c,X.env.cells.lookup x=some c->H c=none
 pin:∀p∈X.pn++dN,s.heap.get? p.1=some p.2/\H p.1=none/\p.1≠X.env.locals/\p.1∉X.fs/\∀v,p.2.data≠.cell v
 hok:oA X.prog X.w H s.heap
 len:σ.length=X.N.length
section
variable {X:Cx}{dN:List (Addr×Obj)}{σ:List (Option V)}{H H':Hp}{s:Shared}{h':Heap}
theorem Cx.Ok.nofr(ok:X.Ok){b:Addr}{o:Obj}(e:X.base.get? b=some o):b∉X.fs:=λhb=>by have:=(ok.funs.mem hb).1;rw[e] at this;cases this
theorem eJ.bs(I:eJ X dN σ H s):∀b o,X.base.get? b=some o->s.heap.get? b=some o/\H b=none:=λb o e=>⟨I.base.keep b o (I.ok.bs b o e).1 (I.ok.bs b o e).2 (I.ok.nofr e) (I.ok.noex b o e),I.base.free b o (I.ok.bs b o e).1 (I.ok.bs b o e).2 (I.ok.noex b o e)⟩
theorem eJ.bk(I:eJ X dN σ H s):∀b o,X.base.get? b=some o->s.heap.get? b=some o:=λb o e=>(I.bs b o e).1
theorem eJ.mod(I:eJ X dN σ H s):Mod X.K X.mg X.base:=I.ok.mod
theorem eJ.kIn(I:eJ X dN σ H s):X.K.In s.heap:=I.ok.mod.kin.keeps I.bk
theorem eJ.lt(I:eJ X dN σ H s):X.env.locals<s.heap.objs.size:=let ⟨_,hn,_⟩:=I.loc;hn.lt
theorem eJ.sz(I:eJ X dN σ H s):X.s₀.heap.objs.size<=s.heap.objs.size:=aM I.ok.above (bf I.lt)
theorem eJ.nofs(I:eJ X dN σ H s){a:Addr}(h:s.heap.objs.size<=a):a∉X.fs:=λhb=>by obtain⟨_,o,ho,_⟩:=I.ok.funs.mem hb;exact absurd (aD (aK ho) (aM I.sz h)) (aZ _)
theorem eJ.cne(I:eJ X dN σ H s):∀x c,X.env.cells.lookup x=some c->c≠X.env.locals:=λx c e z=>by obtain⟨v,o,ho,hd⟩:=I.cell x c e;obtain⟨m,⟨o',es,ep,ho',hd',_⟩,_⟩:=I.loc;rw[z,ho'] at ho;cases ho;rw[hd'] at hd;cases hd
theorem eJ.funs(I:eJ X dN σ H s):s.heap.FunFrames X.base X.outer:=by
 have all:∀(l:List Env),(∀b∈zG l,b∈X.fs)->X.s₀.heap.FunFrames X.base l->s.heap.FunFrames X.base l:=by
  intro l;induction l with
  | nil=>intro _ _;trivial
  | cons env r ih=>intro hs hl;obtain⟨hk,⟨L,o,hf,hn,ho,hd⟩,hr⟩:=hl;have hL:L∈X.fs:=hs L (by unfold zG;rw[bg,hf];exact bh);obtain⟨sl,e⟩:=I.base.slot L o ho (I.ok.frf L hL) hL λz=>I.ok.exfs L z hL;exact⟨hk,⟨L,_,hf,hn,e,hd⟩,ih (λb hb=>hs b (by unfold zG;rw[bg,hf];exact bj _ hb)) hr⟩
 exact all X.outer (λ_ hb=>hb) I.ok.funs
theorem eJ.stack(I:eJ X dN σ H s):s.heap.FunFrames X.base X.stack:=by
 rcases I.ok.stk with e | ⟨e,hf⟩
 ·rw[e];exact I.funs
 ·rw[e];obtain⟨m,hn,_⟩:=I.loc;refine .cons (by rw[I.ok.kind];decide) hf hn ?_ I.funs;exact Heap.get?_none_of_le (aM I.ok.bsz I.ok.above)
theorem eJ.stkSub(I:eJ X dN σ H s):∀b∈zG X.stack,b∈X.env.locals::X.fs:=λb hb=>by
 rcases I.ok.stk with e | ⟨e,hf⟩
 ·rw[e] at hb;exact bj _ hb
 ·rw[e] at hb;unfold zG at hb;rw[bg,hf] at hb;exact hb
theorem eJ.stkFree(I:eJ X dN σ H s):∀b∈zG X.stack,H b=none:=λb hb=>by
 rcases aE.mp (I.stkSub b hb) with e | hb
 ·rw[e];exact I.free
 ·obtain⟨_,o,ho,_⟩:=I.ok.funs.mem hb;exact I.base.free b o ho (I.ok.frf b hb) λz=>I.ok.exfs b z hb
theorem eJ.step{g':Array GenState}{t':Nat}{d':Drawn}{ch:List Addr}(I:eJ X dN σ H s)
  (hch:∀b∈ch,(b∈X.ex\/X.s₀.heap.objs.size<=b)/\b≠X.env.locals/\(∀x c,X.env.cells.lookup x=some c->c≠b)/\∀p∈X.pn++dN,p.1≠b)
  (keep:∀b o,b≠X.env.locals->b∉X.fs->b∉ch->s.heap.get? b=some o->H b=none->h'.get? b=some o)
  (slot:∀b o,b≠X.env.locals->b∈X.fs->b∉ch->s.heap.get? b=some o->H b=none->∃sl,h'.get? b=some {o with slots:=sl}) (free:∀b o,b∉ch->s.heap.get? b=some o->H b=none->H' b=none)
  (there:∀b o,b∉ch->s.heap.get? b=some o->∃o',h'.get? b=some o')
  (tups:∀b xs,H b=some (.tup xs)->H' b=some (.tup xs)) (frzs:∀b o u,H b=some (.frz o u)->H' b=some (.frz o u)) (tbls:∀b ps,H b=some (.tbl ps)->∃more,H' b=some (.tbl (ps++more)))
  (ns:∀m,s.heap.Ns X.env.locals m->h'.Ns X.env.locals m) (hok:oA X.prog X.w H' h') (hg:AllBare g') :
  eJ X dN σ H' {s with heap:=h',gens:=g',drawn:=d',toks:=t'}:=by
 have neL:∀b o,X.s₀.heap.get? b=some o->b≠X.env.locals:=λb o e=>aL (aD (aK e) I.ok.above);have neC:∀b o,X.s₀.heap.get? b=some o->b∉X.ex->b∉ch:=λb o e hx hb=>by
  rcases (hch b hb).1 with z | z
  ·exact hx z
  ·exact absurd (aD (aK e) z) (aZ _)
 have cellK:∀x c,X.env.cells.lookup x=some c->∀v,s.heap.IsCell c v->h'.IsCell c v:=λx c e v ⟨o,ho,hd⟩=>by
  have nch:c∉ch:=λz=>(hch c z).2.2.1 x c e rfl;by_cases hc:c∈X.fs
  ·obtain⟨sl,q⟩:=slot c o (I.cne x c e) hc nch ho (I.freeC x c e);exact⟨_,q,hd⟩
  ·exact⟨o,keep c o (I.cne x c e) hc nch ho (I.freeC x c e),hd⟩
 refine⟨I.ok,I.os,hg,⟨λb o e n hb hx=>?_,λb o e n hb hx=>?_,λb o e n hx=>?_,λb o e hx=>?_,λb xs e=>tups b xs (I.base.tups b xs e),λb o xs e=>frzs b o xs (I.base.frzs b o xs e),λb ps e=>?_⟩,?_,λx c e=>?_,?_,λx c e=>?_,λp hp=>?_,hok,I.len⟩
 ·exact keep b o (neL b o e) hb (neC b o e hx) (I.base.keep b o e n hb hx) (I.base.free b o e n hx)
 ·obtain⟨sl,e1⟩:=I.base.slot b o e n hb hx;obtain⟨sl',e2⟩:=slot b _ (neL b o e) hb (neC b o e hx) e1 (I.base.free b o e n hx);exact⟨sl',e2⟩
 ·obtain⟨o',e1⟩:=I.base.there b o e hx;exact free b o' (neC b o e hx) e1 (I.base.free b o e n hx)
 ·obtain⟨o',e1⟩:=I.base.there b o e hx;exact there b o' (neC b o e hx) e1
 ·obtain⟨m1,e1⟩:=I.base.tbls b ps e;obtain⟨m2,e2⟩:=tbls b _ e1;exact⟨m1++m2,by rw[e2,Array.append_assoc]⟩
 ·obtain⟨m,hn,hl⟩:=I.loc;refine⟨m,ns m hn,λi x v e1 e2 e3=>?_⟩;obtain⟨u,r,l⟩:=hl i x v e1 e2 e3;refine⟨u,r,?_⟩;rcases l with l | ⟨k,c,e,z⟩
  ·exact .inl l
  ·exact .inr ⟨k,c,e,cellK x c e _ z⟩
 ·obtain⟨v,z⟩:=I.cell x c e;exact⟨v,cellK x c e v z⟩
 ·obtain⟨m,⟨o,_,_,ho,_⟩,_⟩:=I.loc;exact free _ o (λz=>(hch _ z).2.1 rfl) ho I.free
 ·obtain⟨v,o,ho,hd⟩:=I.cell x c e;exact free c o (λz=>(hch c z).2.2.1 x c e rfl) ho (I.freeC x c e)
 ·obtain⟨e,n,ne,nf,d⟩:=I.pin p hp;have nch:p.1∉ch:=λz=>(hch p.1 z).2.2.2 p hp rfl;exact⟨keep p.1 p.2 ne nf nch e n,free p.1 p.2 nch e n,ne,nf,d⟩
theorem eJ.un{t':Nat}(I:eJ X dN σ H s)(u:Un X.fs [] H H' s.heap h')(hok:oA X.prog X.w H' h'):eJ X dN σ H' {s with heap:=h',toks:=t'}:=by obtain⟨m,⟨o,es,ep,ho,r⟩,_⟩:=id I.loc;obtain⟨sl,hL⟩:=u.any ho I.free (by simp);exact I.step (g':=s.gens) (d':=s.drawn) (ch:=[]) (λ_ z=>nomatch z) (λb o _ hb _ e n=>u.keep b o e n hb (by simp)) (λb o _ hb _ e n=>u.slot b o e n hb (by simp)) (λb o _ e n=>u.free b o e n (by simp)) (λb o _ e=>u.there b o e (by simp)) u.tups u.frzs u.tbls (λm' hm=>by obtain⟨o',es',ep',ho',r'⟩:=hm;rw[ho] at ho';cases ho';exact⟨_,es',ep',hL,r'⟩) hok I.bare
theorem eJ.call{g':Array GenState}{t':Nat}{d':Drawn}{ch:List Addr}(I:eJ X dN σ H s)(u:Un (zG X.stack) ch H H' s.heap h')(hok:oA X.prog X.w H' h')(hg:AllBare g')
  (hch:∀b∈ch,(b∈X.ex\/X.s₀.heap.objs.size<=b)/\b≠X.env.locals/\(∀x c,X.env.cells.lookup x=some c->c≠b)/\∀p∈X.pn++dN,p.1≠b) :
  eJ X dN σ H' {s with heap:=h',gens:=g',drawn:=d',toks:=t'}:=by
 obtain⟨m,⟨o,es,ep,ho,r⟩,_⟩:=id I.loc;obtain⟨sl,hL⟩:=u.any ho I.free λz=>(hch _ z).2.1 rfl;exact I.step (ch:=ch) hch (λb o hL hb hc e n=>u.keep b o e n (λz=>(aE.mp (I.stkSub b z)).elim hL hb) hc) (λb o _ _ hc e n=>u.any e n hc) (λb o hc e n=>u.free b o e n hc) (λb o hc e=>u.there b o e hc) u.tups u.frzs u.tbls (λm' hm=>by obtain⟨o',es',ep',ho',r'⟩:=hm;rw[ho] at ho';cases ho';exact⟨_,es',ep',hL,r'⟩) hok hg
theorem eJ.turned{t':Nat}{it:Addr}(I:eJ X dN σ H s)(k:∀b o,b≠it->s.heap.get? b=some o->h'.get? b=some o)(hn:H it=none)(hL:it≠X.env.locals)
  (h1:it∈X.ex\/X.s₀.heap.objs.size<=it) (h2:∀x c,X.env.cells.lookup x=some c->c≠it) (h3:∀p∈X.pn++dN,p.1≠it):eJ X dN σ H {s with heap:=h',toks:=t'}:=by
 have nit:∀b u,H b=some u->b≠it:=λb u e z=>by rw[z,hn] at e;cases e
 refine I.step (g':=s.gens) (d':=s.drawn) (ch:=[it]) (λb hb=>?_) (λb o _ _ hc e _=>k b o (λz=>hc (by simp[z])) e) (λb o _ _ hc e _=>⟨o.slots,k b o (λz=>hc (by simp[z])) e⟩) (λ_ _ _ _ n=>n)
  (λb o hc e=>⟨o,k b o (λz=>hc (by simp[z])) e⟩) (λ_ _ e=>e) (λ_ _ _ e=>e) (λb ps e=>⟨#[],by rw[e];simp⟩) (λm hm=>?_) (λb u e=>?_) I.bare
 ·have e:b=it:=by simpa using hb
  subst e;exact⟨h1,hL,h2,h3⟩
 ·obtain⟨o,es,ep,ho,r⟩:=hm;exact⟨o,es,ep,k _ o (Ne.symm hL) ho,r⟩
 ·refine (I.hok b u e).stay (λc v hc q=>k c v ?_ q) (λ_ q=>q) λ_ _ q=>q;rcases hc with z | z
  ·rw[z];exact nit b u e
  ·exact nit c _ z
theorem eJ.tok(I:eJ X dN σ H s)(t:Nat):eJ X dN σ H {s with toks:=t}:=I.un (h':=s.heap) (t':=t) Un.refl I.hok
theorem eJ.kept{t':Nat}(I:eJ X dN σ H s)(k:∀b u,s.heap.get? b=some u->h'.get? b=some u):eJ X dN σ H {s with heap:=h',toks:=t'}:=I.un (Un.kept k) (I.hok.kept k)
theorem eJ.laid{a:Addr}{o:HO}{t':Nat}(I:eJ X dN σ H s)(k:∀b u,s.heap.get? b=some u->h'.get? b=some u)(hp:s.heap.objs.size<=a)(new:ig X.prog X.w (gL H a o) h' a o) :
  eJ X dN σ (gL H a o) {s with heap:=h',toks:=t'}:=I.un (Un.laid k hp (I.hok.fresh hp)) (I.hok.laid k hp new)
theorem eJ.write{x e:Addr}{o:HO}{t':Nat}(I:eJ X dN σ H s)(mu:ID (H x))(he:e=x\/H e=some (.own x))(k:∀b u,b≠e->s.heap.get? b=some u->h'.get? b=some u)(heo:∃u,h'.get? e=some u)
  (new:ig X.prog X.w (gL H x o) h' x o):eJ X dN σ (gL H x o) {s with heap:=h',toks:=t'}:=I.un (Un.write mu he k heo) (I.hok.write mu he k heo new)
theorem eJ.weak{σ':List (Option V)}(I:eJ X dN σ H s)(hl:σ'.length=σ.length)(w:∀(i:Nat) v,σ'[i]? = some (some v)->σ[i]? = some (some v)):eJ X dN σ' H s:=⟨I.ok,I.os,I.bare,I.base,let ⟨m,hn,hl'⟩:=I.loc;⟨m,hn,λi x v e1 e2 e3=>hl' i x v e1 (w i v e2) e3⟩,I.cell,I.free,I.freeC,I.pin,I.hok,hl.trans I.len⟩
theorem eJ.pins_of{pins':List (Addr×Obj)}(I:eJ X dN σ H s)(h:∀p∈pins',s.heap.get? p.1=some p.2/\H p.1=none/\p.1≠X.env.locals/\p.1∉X.fs/\∀v,p.2.data≠.cell v):eJ X pins' σ H s:=⟨I.ok,I.os,I.bare,I.base,I.loc,I.cell,I.free,I.freeC,λp hp=>(ai.mp hp).elim (λz=>I.pin p (ax _ z)) (h p),I.hok,I.len⟩
theorem uQ{N:List Str}(hN:N.Nodup){i j:Nat}{x:Str}(a:N[i]? = some x)(b:N[j]? = some x):i=j:=by obtain⟨h1,e1⟩:=aa.mp a;obtain⟨h2,e2⟩:=aa.mp b;exact (List.getElem_inj hN).mp (e1.trans e2.symm)
theorem sA{M:Model}{A:Around}{E:Value->Shared->Prop}{i:Nat}{x:Str}{v:V}{u:Value}{Q:Unit->Shared->Prop}(I:eJ X dN σ H s)(hN:X.N.Nodup)(hi:X.N[i]? = some x)(hx:zN X.env.scope x)(r:fM v u)
  (h:∀s',eJ X dN (σ.set i (some v)) H s'->(∃a,Heap.SameBut a s.heap s'.heap/\(a=X.env.locals\/X.env.cells.lookup x=some a))->Q () s') (hf:X.fn x=true\/X.env.scope.names.lookup x=some .local:=by first | exact .inl rfl | exact .inr rfl | assumption):wpAny M A (storeName X.env x u) Q E s:=by
 obtain⟨m,hn,hl⟩:=id I.loc;have hcls:(X.env.scope.kind == .class||(X.env.scope.kind == .module&&X.env.locals != X.env.globals))=false:=by rw[I.ok.kind];rfl
 have hiσ:i<σ.length:=by rw[I.len];exact (aa.mp hi).1
 have cne:=I.cne;have tracked:∀{a:Addr} {h':Heap},(∃o,s.heap.get? a=some o/\H a=none)->Heap.SameBut a s.heap h'->oA X.prog X.w H h':=λ{a h'} ha hs b ob e=>by
  obtain⟨_,_,hfree⟩:=ha;refine (I.hok b ob e).stay (λc w' hc q=>(hs.2 c ?_).trans q) (λ_ q=>q) λ_ _ q=>q;rintro rfl;rcases hc with rfl | hc
  ·rw[hfree] at e;cases e
  ·rw[hfree] at hc;cases hc
 rcases hx with hk | hk
 ·refine wpAny_storeName_local hk hn (λh' hn' hs=>?_) hcls;obtain⟨oL,_,_,hoL,_⟩:=id hn;refine h _ ⟨I.ok,I.os,I.bare,⟨λb o e n hb hx=>?_,λb o e n hb hx=>?_,I.base.free,λb o e hx=>?_,I.base.tups,I.base.frzs,I.base.tbls⟩,⟨_,hn',λj y v' e1 e2 e3=>?_⟩,λy c e=>?_,I.free,I.freeC,λp hp=>?_,tracked ⟨oL,hoL,I.free⟩ hs,by simpa using I.len⟩ ⟨_,hs,.inl rfl⟩
  ·exact (hs.2 b (aL (aD (aK e) I.ok.above))).trans (I.base.keep b o e n hb hx)
  ·obtain⟨sl,e1⟩:=I.base.slot b o e n hb hx;exact⟨sl,(hs.2 b (aL (aD (aK e) I.ok.above))).trans e1⟩
  ·obtain⟨o',e1⟩:=I.base.there b o e hx;exact⟨o',(hs.2 b (aL (aD (aK e) I.ok.above))).trans e1⟩
  ·by_cases hj:j=i
   ·subst hj;rw[hi] at e1;cases e1;rw[List.getElem?_set_self hiσ] at e2;cases e2;exact⟨u,r,.inl ⟨hk,by simp⟩⟩
   ·rw[aq (Ne.symm hj)] at e2;obtain⟨u',r',q⟩:=hl j y v' e1 e2 e3;refine⟨u',r',?_⟩;rcases q with⟨k,e⟩ | ⟨k,c,e,z⟩
    ·refine .inl ⟨k,?_⟩;have:y≠x:=λe=>hj (uQ hN e1 (e▸hi));simp[this,e]
    ·exact .inr ⟨k,c,e,z.sameBut hs (cne y c e)⟩
  ·obtain⟨w',z⟩:=I.cell y c e;exact⟨w',z.sameBut hs (cne y c e)⟩
  ·obtain⟨e,n,ne,nf,d⟩:=I.pin p hp;exact⟨(hs.2 p.1 ne).trans e,n,ne,nf,d⟩
 ·have hfn:X.fn x=true:=by
   rcases hf with z | z
   ·exact z
   ·rw[z] at hk;cases hk
  obtain⟨c,hc⟩:=I.ok.has x (.inl hk);obtain⟨w',z⟩:=I.cell x c hc;refine wpAny_storeName_cell I.ok.kind hk hc z (λh' hc' hs=>?_);obtain⟨oc,hoc,hocd⟩:=id z;refine h {s with heap:=h'} ⟨I.ok,I.os,I.bare,⟨λb o e n hb hx=>?_,λb o e n hb hx=>?_,I.base.free,λb o e hx=>?_,I.base.tups,I.base.frzs,I.base.tbls⟩,⟨m,hn.sameBut hs (Ne.symm (cne x c hc)),λj y v' e1 e2 e3=>?_⟩,λy c' e=>?_,I.free,I.freeC,λp hp=>?_,tracked ⟨oc,hoc,I.freeC x c hc⟩ hs,by simpa using I.len⟩ ⟨c,hs,.inr hc⟩
  ·exact (hs.2 b (aL (aD (aK e) (I.ok.cab x c hfn hc)))).trans (I.base.keep b o e n hb hx)
  ·obtain⟨sl,e1⟩:=I.base.slot b o e n hb hx;exact⟨sl,(hs.2 b (aL (aD (aK e) (I.ok.cab x c hfn hc)))).trans e1⟩
  ·obtain⟨o',e1⟩:=I.base.there b o e hx;exact⟨o',(hs.2 b (aL (aD (aK e) (I.ok.cab x c hfn hc)))).trans e1⟩
  ·by_cases hj:j=i
   ·subst hj;rw[hi] at e1;cases e1;rw[List.getElem?_set_self hiσ] at e2;cases e2;exact⟨u,r,.inr ⟨.inl hk,c,hc,hc'⟩⟩
   ·rw[aq (Ne.symm hj)] at e2;obtain⟨u',r',q⟩:=hl j y v' e1 e2 e3;refine⟨u',r',?_⟩;rcases q with q | ⟨k,c',e,z'⟩
    ·exact .inl q
    ·refine .inr ⟨k,c',e,z'.sameBut hs ?_⟩;rintro rfl;exact hj (uQ hN e1 (I.ok.inj _ _ _ e hc▸hi))
  ·by_cases hcc:c'=c
   ·subst hcc;exact⟨_,hc'⟩
   ·obtain⟨w2,z2⟩:=I.cell y c' e;exact⟨w2,z2.sameBut hs hcc⟩
  ·obtain⟨e,n,ne,nf,d⟩:=I.pin p hp;refine⟨(hs.2 p.1 ?_).trans e,n,ne,nf,d⟩;intro q;rw[q,hoc] at e;have q':oc=p.2:=Option.some.inj e;exact d w' (by rw[<-q'];exact hocd)
theorem n8{M:Model}{A:Around}{E:Value->Shared->Prop}{i:Nat}{x:Str}{v:V}{u:Value}{Q:Unit->Shared->Prop}(I:eJ X dN σ H s)(hN:X.N.Nodup)(hi:X.N[i]? = some x)(hx:zN X.env.scope x)(r:fM v u)
  (h:∀s',eJ X dN (σ.set i (some v)) H s'->Q () s') (hf:X.fn x=true\/X.env.scope.names.lookup x=some .local:=by first | exact .inl rfl | exact .inr rfl | assumption):wpAny M A (storeName X.env x u) Q E s:=
 sA I hN hi hx r (λs' I' _=>h s' I') hf
theorem eJ.call'{s':Shared}{ch:List Addr}(I:eJ X dN σ H s)(ho:s'.os=s.os)(u:Un (zG X.stack) ch H H' s.heap s'.heap)(hok:oA X.prog X.w H' s'.heap)(hg:AllBare s'.gens)
  (hch:∀b∈ch,(b∈X.ex\/X.s₀.heap.objs.size<=b)/\b≠X.env.locals/\(∀x c,X.env.cells.lookup x=some c->c≠b)/\∀p∈X.pn++dN,p.1≠b):eJ X dN σ H' s':=by
 obtain⟨h',g',d',t',o'⟩:=s';have e:o'=s.os:=ho;subst e;exact I.call (g':=g') (t':=t') (d':=d') u hok hg hch
end
abbrev XK:=Value->Option Addr->Hp->Prop
abbrev St:=List (Option V)
abbrev VK:=V->Hp->Prop
abbrev TE:=St->Hp->VK->Prop
abbrev TT:=St->Hp->(Bool->Hp->Prop)->Prop
abbrev TA:=St->Hp->(List V->Hp->Prop)->Prop
structure rF where
 nx:St->Hp->Prop
 rt:VK
 bk:St->Hp->Prop:=λ_ _=>False
 ct:St->Hp->Prop:=λ_ _=>False
abbrev TS:=rF->St->Hp->Prop
def EP(X:Cx)(dN:List (Addr×Obj))(σ:St)(Q:VK)(u:Value)(s':Shared):Prop:=∃v H',eJ X dN σ H' s'/\fM v u/\Q v H'
def TP(X:Cx)(dN:List (Addr×Obj))(σ:St)(Q:Bool->Hp->Prop)(b:Bool)(s':Shared):Prop:=∃H',eJ X dN σ H' s'/\Q b H'
def AP(X:Cx)(dN:List (Addr×Obj))(σ:St)(Q:List V->Hp->Prop)(us:List Value)(s':Shared):Prop:=∃vs H',eJ X dN σ H' s'/\eU vs us/\Q vs H'
def SP(X:Cx)(dN:List (Addr×Obj))(D:rF)(f:Flow)(s':Shared):Prop:=
 match f with
 | .next=>∃σ' H',eJ X dN σ' H' s'/\D.nx σ' H'
 | .brk=>∃σ' H',eJ X dN σ' H' s'/\D.bk σ' H'
 | .cont=>∃σ' H',eJ X dN σ' H' s'/\D.ct σ' H'
 | .ret u=>∃v σ' H',eJ X dN σ' H' s'/\fM v u/\D.rt v H'
def PE(X:Cx)(e:Expr)(t:TE):Prop:=∀(dN:List (Addr×Obj)) (s:Shared) (σ:St) (H:Hp) (Q:VK),eJ X dN σ H s->t σ H Q->wpAny (model X.prog X.w) X.A (eval e X.env) (EP X dN σ Q) X.xe s
def PT(X:Cx)(e:Expr)(t:TT):Prop:=∀(dN:List (Addr×Obj)) (s:Shared) (σ:St) (H:Hp) (Q:Bool->Hp->Prop),eJ X dN σ H s->t σ H Q->wpAny (model X.prog X.w) X.A (isTrue e X.env (eval e X.env)) (TP X dN σ Q) X.xe s
def PW(X:Cx)(e:Expr)(t:TT):Prop:=∀(whole:Sem Value) (dN:List (Addr×Obj)) (s:Shared) (σ:St) (H:Hp) (Q:Bool->Hp->Prop),eJ X dN σ H s->t σ H Q->wpAny (model X.prog X.w) X.A (isTrue e X.env whole) (TP X dN σ Q) X.xe s
theorem PW.pt{X:Cx}{e:Expr}{t:TT}(h:PW X e t):PT X e t:=h _
def PA(X:Cx)(es:List Expr)(t:TA):Prop:=∀(pos:Pos) (dN:List (Addr×Obj)) (s:Shared) (σ:St) (H:Hp) (Q:List V->Hp->Prop),eJ X dN σ H s->t σ H Q->wpAny (model X.prog X.w) X.A (spliced (backTo pos (starEach es X.env))) (AP X dN σ Q) X.xe s
def PS(X:Cx)(st:Stmt)(t:TS):Prop:=∀(dN:List (Addr×Obj)) (s:Shared) (σ:St) (H:Hp) (D:rF),eJ X dN σ H s->t D σ H->wpAny (model X.prog X.w) X.A (exec st X.env) (SP X dN D) X.xe s
def uI(X:Cx)(st:List Stmt)(t:TS):Prop:=∀(dN:List (Addr×Obj)) (s:Shared) (σ:St) (H:Hp) (D:rF),eJ X dN σ H s->t D σ H->wpAny (model X.prog X.w) X.A (execs st X.env) (SP X dN D) X.xe s
theorem g9{α:Type}{t:Sem α}{Q Q':α->Shared->Prop}{M:Model}{A:Around}{E:Value->Shared->Prop}{s:Shared}(h:wpAny M A t Q E s)(hQ:∀a s,Q a s->Q' a s):wpAny M A t Q' E s:=wpAny_mono h hQ λ_ _ x=>x
end L2
namespace L2
open PySem PySem.Spec PyProof.Rows
section
variable {X:Cx}
def kW(i:Nat):TE:=λσ H Q=>∃v,σ[i]? = some (some v)/\Q v H
def tC(v:V):TE:=λ_ H Q=>Q v H
theorem Fy{i:Nat}{x:Str}{pos:Pos}(hN:X.N[i]? = some x)(hv:Hr X.env.scope x)(hd:(x == ("__debug__" : Str))=false:=by decide)(hcd:(x == ("__classdict__" : Str))=false:=by decide):PE X (.Name x pos) (kW i):=by
 intro dN s σ H Q I h;obtain⟨v,e,h⟩:=h;obtain⟨m,hn,hl⟩:=I.loc;obtain⟨u,r,l⟩:=hl i x v hN e hv;have fin:EP X dN σ Q u s:=⟨v,H,I,r,h⟩;rcases l with⟨hk,hm⟩ | ⟨hk,c,hc,hcell⟩
 ·exact wpAny_Name (wpAny_loadName_local I.ok.kind hk hn hm fin) hd
 ·rcases hk with hk | hk
  ·exact wpAny_Name (wpAny_loadName_cell I.ok.kind hk hc hcell fin) hd
  ·exact wpAny_Name (wpAny_loadName_free I.ok.kind hk hc hcell fin hcd) hd
theorem wd{i j pos}:PE X (.Constant (.int i) j pos) (tC (.int i)):=λ_ _ _ H _ I h=>wpAny_Constant_int ⟨.int i,H,I.tok _,⟨_,rfl⟩,h⟩
theorem Hv{b j pos}:PE X (.Constant (.bool b) j pos) (tC (.bl b)):=λ_ _ _ H _ I h=>Constant_bool ⟨.bl b,H,I,rfl,h⟩
theorem EZ{x j pos}:PE X (.Constant (.str x) j pos) (tC (.str x)):=λ_ _ _ H _ I h=>Calls.Constant_str ⟨.str x,H,I.tok _,⟨_,rfl⟩,h⟩
def Gl(X:Cx)(x:Str):Prop:=X.env.kindOf x=some .globalImplicit
theorem tz{E:Value->Shared->Prop}{dN:List (Addr×Obj)}{s:Shared}{σ:St}{H:Hp}{x:Str}{u:Value}{pos:Pos}{Q:Value->Shared->Prop}(I:eJ X dN σ H s)(hg:Gl X x)(hm:X.mg x=some u)(h:Q u s)
  (hd:(x == ("__debug__" : Str))=false:=by decide):wpAny (model X.prog X.w) X.A (eval (.Name x pos) X.env) Q E s:=
 Calls.Name_function_global I.ok.kind hg (Calls.loadGlobal_global (by rw[I.ok.glob];exact I.mod.glob.keeps I.bk) hm h) hd
theorem ky{E:Value->Shared->Prop}{dN:List (Addr×Obj)}{s:Shared}{σ:St}{H:Hp}{x:Str}{u:Value}{pos:Pos}{Q:Value->Shared->Prop}(I:eJ X dN σ H s)(hg:Gl X x)(hm:X.mg x=none)(hv:bootBuiltins x=some u)(h:Q u s)
  (hn:x≠ "__name__" :=by decide) (hd:(x == ("__debug__" : Str))=false:=by decide):wpAny (model X.prog X.w) X.A (eval (.Name x pos) X.env) Q E s:=by
 obtain⟨mb,h1,h2⟩:=I.mod.blt;exact Calls.Name_function_global I.ok.kind hg (Calls.loadGlobal_builtin (by rw[I.ok.glob];exact I.mod.glob.keeps I.bk) hm (by rw[I.ok.blt];exact h1.keeps I.bk) ((h2 x hn).trans hv) h) hd
theorem Cp{x:Str}{v:V}{u:Value}{pos:Pos}(hg:Gl X x)(hm:X.mg x=some u)(r:fM v u)(hd:(x == ("__debug__" : Str))=false:=by decide):PE X (.Name x pos) (tC v):=λ_ _ _ H _ I h=>tz I hg hm ⟨v,H,I,r,h⟩ hd
theorem Ce{x:Str}{v:V}{u:Value}{pos:Pos}(hg:Gl X x)(hm:X.mg x=none)(hv:bootBuiltins x=some u)(r:fM v u)(hn:x≠ "__name__" :=by decide)(hd:(x == ("__debug__" : Str))=false:=by decide):PE X (.Name x pos) (tC v):=λ_ _ _ H _ I h=>ky I hg hm hv ⟨v,H,I,r,h⟩ hn hd
variable {a b:Expr}{ta tb:TE}{pos:Pos}
def tB(t:TE):TT:=λσ H Q=>t σ H λx H1=>∃c,x=.bl c/\Q c H1
theorem GE{e:Expr}{t:TE}(h:PE X e t)(he:∀whole,isTrue e X.env whole=(do let v <-whole;standAt e.pos;holding [v] (truthy v)):=by intro _;rfl):PT X e (tB t):=by intro dN s σ H Q I hw;refine isTrue_plain (g9 (h dN s σ H _ I hw) λv s1 ⟨x,H1,I1,r1,q1⟩=>?_) (he _);obtain⟨d,rfl,q⟩:=q1;cases r1;exact wpAny_truthy_bool ⟨H1,I1,q⟩
variable {tA tB':TT}{kG:List Expr}
def Fv(t u:TT):TT:=λσ H Q=>t σ H λc H1=>if c=true then u σ H1 Q else Q false H1
def IX(t u:TT):TT:=λσ H Q=>t σ H λc H1=>if c=true then Q true H1 else u σ H1 Q
def Gy(t:TT):TT:=λσ H Q=>t σ H λc H1=>Q (!c) H1
theorem Dy(ha:PT X a tA):PW X (.BoolOp .And [a] pos) tA:=by
 intro wh dN s σ H Q I h;refine isTrue_and (g9 (ha dN s σ H Q I h) λc s1 e=>?_);cases c with
 | true=>exact isTrue_and_nil e
 | false=>exact e
theorem GS(ha:PT X a tA):PW X (.BoolOp .Or [a] pos) tA:=by
 intro wh dN s σ H Q I h;refine isTrue_or (g9 (ha dN s σ H Q I h) λc s1 e=>?_);cases c with
 | false=>exact isTrue_or_nil e
 | true=>exact e
theorem Gc(ha:PT X a tA)(hb:PW X (.BoolOp .And (b::kG) pos) tB'):PW X (.BoolOp .And (a::b::kG) pos) (Fv tA tB'):=by
 intro wh dN s σ H Q I h;refine isTrue_and (g9 (ha dN s σ H _ I h) λc s1 ⟨H1,I1,q1⟩=>?_);cases c with
 | true=>exact hb wh dN s1 σ H1 Q I1 q1
 | false=>exact⟨H1,I1,q1⟩
theorem Hz(ha:PT X a tA)(hb:PW X (.BoolOp .Or (b::kG) pos) tB'):PW X (.BoolOp .Or (a::b::kG) pos) (IX tA tB'):=by
 intro wh dN s σ H Q I h;refine isTrue_or (g9 (ha dN s σ H _ I h) λc s1 ⟨H1,I1,q1⟩=>?_);cases c with
 | true=>exact⟨H1,I1,q1⟩
 | false=>exact hb wh dN s1 σ H1 Q I1 q1
theorem FH(ha:PT X a tA):PT X (.UnaryOp .Not a pos) (Gy tA):=by intro dN s σ H Q I h;exact isTrue_not (ha dN s σ H (λc H1=>Q (!c) H1) I h)
def A3(ta tb:TE):TE:=λσ H Q=>ta σ H λx H1=>∃c,x=.bl c/\if c=true then tb σ H1 Q else Q (.bl false) H1
def Ac(ta:TE):TE:=λσ H Q=>ta σ H λx H1=>∃c,x=.bl c/\Q (.bl (!c)) H1
theorem EY{op}{t:TE}(h:PE X a t):PE X (.BoolOp op [a] pos) t:=λdN s σ H Q I hw=>BoolOp_one (h dN s σ H Q I hw)
theorem FP(ha:PE X a ta)(hb:PE X (.BoolOp .And (b::kG) pos) tb):PE X (.BoolOp .And (a::b::kG) pos) (A3 ta tb):=by
 intro dN s σ H Q I h;refine BoolOp_and (g9 (ha dN s σ H _ I h) λv s1 ⟨x,H1,I1,r1,q1⟩=>?_);obtain⟨c,rfl,q1⟩:=q1;cases r1;refine wpAny_truthy_bool ?_;cases c with
 | true=>exact hb dN s1 σ H1 Q I1 q1
 | false=>exact⟨.bl false,H1,I1,rfl,q1⟩
theorem Fs(ha:PE X a ta):PE X (.UnaryOp .Not a pos) (Ac ta):=by intro dN s σ H Q I h;refine UnaryOp_ (g9 (ha dN s σ H _ I h) λv s1 ⟨x,H1,I1,r1,q1⟩=>?_);obtain⟨c,rfl,q1⟩:=q1;cases r1;exact not_of (wpAny_truthy_bool ⟨.bl (!c),H1,I1,rfl,q1⟩)
end
end L2
namespace L2
open PySem PySem.Spec PyProof.Rows
def jq(K:W.Frag)(H:Hp)(a:Addr)(xs:List V):Prop:=
 Rd H a (.lst xs)\/
  ∃(o:Obj) (its:Array Value) (n:Nat),K.lookup a=some o/\o.cls=.type "list" /\o.dict=none/\o.data=.seq its n/\its.size<=sizeLine/\eU xs its.toList
def jR(K:W.Frag)(H:Hp)(a:Addr)(xs:List V):Prop:=
 Rd H a (.tup xs)\/
  ∃(o:Obj) (its:Array Value) (n:Nat),K.lookup a=some o/\o.cls=.type "tuple" /\o.data=.seq its n/\its.size<=sizeLine/\eU xs its.toList
def IP:Value->Option V
 | .none=>some .non
 | .bool b=>some (.bl b)
 | .int i _=>some (.int i)
 | .str x _=>some (.str x)
 | .bytes b _=>some (.byt b)
 | .float b _=>some (.flt b)
 | .ref a=>some (.ref a)
 | .type n=>some (.ty n)
 | _=>none
theorem fM.abs{x:V}{u:Value}(r:fM x u):IP u=some x:=by
 cases x with
 | non=>cases r;rfl
 | bl _=>cases r;rfl
 | int _=>obtain⟨t,rfl⟩:=r;rfl
 | str _=>obtain⟨t,rfl⟩:=r;rfl
 | byt _=>obtain⟨t,rfl⟩:=r;rfl
 | flt _=>obtain⟨t,rfl⟩:=r;rfl
 | ref _=>cases r;rfl
 | ty _=>cases r;rfl
theorem fM.inj{x y:V}{u:Value}(r:fM x u)(q:fM y u):x=y:=Option.some.inj (r.abs.symm.trans q.abs)
theorem eU.inj:∀{xs ys:List V} {us:List Value},eU xs us->eU ys us->xs=ys
 | _,_,_,.nil,.nil=>rfl
 | _,_,_,.cons r t,.cons r' t'=>by rw[r.inj r',eU.inj t t']
section
variable {X:Cx}{dN:List (Addr×Obj)}{σ:St}{H:Hp}{s:Shared}{a:Addr}{xs ys:List V}
theorem jq.of{K:W.Frag}(h:H a=some (.lst xs)):jq K H a xs:=.inl (.inl h)
theorem jR.of{K:W.Frag}(h:H a=some (.tup xs)):jR K H a xs:=.inl (.inl h)
theorem eJ.list(I:eJ X dN σ H s)(h:jq X.K H a xs):∃its:List Value,eU xs its/\PlainL s.heap a its.toArray/\xs.length<=sizeLine:=by
 rcases h with h | ⟨o,its,n,hk,hc,hd,hs,hz,r⟩
 ·obtain⟨z,its,n,r,e⟩:=h.ok I.hok;exact⟨its,r,⟨_,n,e,rfl,rfl,rfl⟩,z⟩
 ·refine⟨its.toList,r,⟨o,n,I.kIn a o hk,hc,hd,by simpa using hs⟩,?_⟩;have e:=r.length;simp only[bp] at e;omega
theorem eJ.tuple(I:eJ X dN σ H s)(h:jR X.K H a xs):∃its:List Value,eU xs its/\IsTup s.heap a its.toArray/\xs.length<=sizeLine:=by
 rcases h with h | ⟨o,its,n,hk,hc,hs,hz,r⟩
 ·obtain⟨z,its,r,p⟩:=h.ok I.hok;exact⟨its,r,p,z⟩
 ·refine⟨its.toList,r,⟨o,I.kIn a o hk,hc,n,by simpa using hs⟩,?_⟩;have e:=r.length;simp only[bp] at e;omega
theorem eJ.list_inj(I:eJ X dN σ H s)(h:jq X.K H a xs)(h':jq X.K H a ys):xs=ys:=by
 obtain⟨its,r,⟨o,n,e,_,_,d⟩,_⟩:=I.list h;obtain⟨its',r',⟨o',n',e',_,_,d'⟩,_⟩:=I.list h';rw[e] at e';cases e';rw[d] at d';injection d' with d1 _;have:its=its':=by simpa using congrArg Array.toList d1
 subst this;exact r.inj r'
theorem eJ.tuple_inj(I:eJ X dN σ H s)(h:jR X.K H a xs)(h':jR X.K H a ys):xs=ys:=by
 obtain⟨its,r,⟨o,e,_,n,d⟩,_⟩:=I.tuple h;obtain⟨its',r',⟨o',e',_,n',d'⟩,_⟩:=I.tuple h';rw[e] at e';cases e';rw[d] at d';injection d' with d1 _;have:its=its':=by simpa using congrArg Array.toList d1
 subst this;exact r.inj r'
end
abbrev Cx.wish(X:Cx)(E:Value->Shared->Prop):Cx:={X with xe:=E}
abbrev Cx.nox(X:Cx):Cx:=X.wish λ_ _=>False
theorem Cx.Ok.wish{X:Cx}(ok:X.Ok)(E:Value->Shared->Prop):(X.wish E).Ok:=⟨ok.mod,ok.kind,ok.glob,ok.blt,ok.above,ok.inj,ok.has,ok.cab,ok.hd,ok.frames,ok.stk,ok.exf,ok.bs,ok.bsz,ok.noex,ok.exfs,ok.funs,ok.frf⟩
theorem Cx.Ok.unwish{X:Cx}{E:Value->Shared->Prop}(ok:(X.wish E).Ok):X.Ok:=⟨ok.mod,ok.kind,ok.glob,ok.blt,ok.above,ok.inj,ok.has,ok.cab,ok.hd,ok.frames,ok.stk,ok.exf,ok.bs,ok.bsz,ok.noex,ok.exfs,ok.funs,ok.frf⟩
section
variable {X:Cx}{dN:List (Addr×Obj)}{σ:St}{H:Hp}{s:Shared}{E:Value->Shared->Prop}
theorem eJ.wish(I:eJ X dN σ H s)(E:Value->Shared->Prop):eJ (X.wish E) dN σ H s:=⟨I.ok.wish E,I.os,I.bare,I.base,I.loc,I.cell,I.free,I.freeC,I.pin,I.hok,I.len⟩
theorem eJ.unwish(I:eJ (X.wish E) dN σ H s):eJ X dN σ H s:=⟨I.ok.unwish,I.os,I.bare,I.base,I.loc,I.cell,I.free,I.freeC,I.pin,I.hok,I.len⟩
theorem SP.unwish{D:rF}{f:Flow}{s':Shared}(h:SP (X.wish E) dN D f s'):SP X dN D f s':=by
 cases f with
 | next=>obtain⟨σ',H',I,q⟩:=h;exact⟨σ',H',I.unwish,q⟩
 | brk=>obtain⟨σ',H',I,q⟩:=h;exact⟨σ',H',I.unwish,q⟩
 | cont=>obtain⟨σ',H',I,q⟩:=h;exact⟨σ',H',I.unwish,q⟩
 | ret u=>obtain⟨v,σ',H',I,r,q⟩:=h;exact⟨v,σ',H',I.unwish,r,q⟩
theorem uI.nox{st:List Stmt}{t:TS}(h:uI X.nox st t):uI X st t:=λdN s σ H D I hw=>wpAny_mono (h dN s σ H D (I.wish _) hw) (λ_ _ q=>q.unwish) λ_ _ z=>False.elim z
end
section
variable {X:Cx}{st:Stmt}{kG:List Stmt}{t u:TS}{e:Expr}{te:TE}{pos:Pos}
def zX:TS:=λD σ H=>D.nx σ H
def DO(t u:TS):TS:=λD σ H=>t {D with nx:=u D} σ H
theorem Cj:uI X [] zX:=λ_ _ σ H _ I h=>wpAny_execs_nil ⟨σ,H,I,h⟩
theorem vh(h1:PS X st t)(h2:uI X kG u):uI X (st::kG) (DO t u):=by
 intro dN s σ H D I h;refine wpAny_execs_cons (g9 (h1 dN s σ H {D with nx:=u D} I h) λf s1 q=>?_);cases f with
 | next=>obtain⟨σ',H',I',q⟩:=q;exact h2 dN s1 σ' H' D I' q
 | ret v=>exact q
 | brk=>exact q
 | cont=>exact q
theorem xV(h1:PS X st t):uI X [st] t:=by
 intro dN s σ H D I h;refine wpAny_execs_cons (g9 (h1 dN s σ H D I h) λf s1 q=>?_);cases f with
 | next=>exact wpAny_execs_nil q
 | ret v=>exact q
 | brk=>exact q
 | cont=>exact q
theorem eJ.quiet{dN:List (Addr×Obj)}{σ:St}{H:Hp}{s:Shared}(I:eJ X dN σ H s):interactive X.env=false:=by simp[interactive,I.ok.kind]
def n5(te:TE):TS:=λD σ H=>te σ H λ_ H1=>D.nx σ H1
theorem pM(he:PE X e te)(hs:swapsWith e none pos.line X.env=pure false:=by rfl):PS X (.Expr e pos) (n5 te):=by intro dN s σ H D I h;exact wpAny_Expr_any (g9 (he dN s σ H _ I h) λv s1 ⟨x,H1,I1,r1,q1⟩=>⟨σ,H1,I1,q1⟩) I.quiet hs
def t6(te:TE):TS:=λD σ H=>te σ H D.rt
theorem tM(he:PE X e te):PS X (.Return (some e) pos) (t6 te):=by intro dN s σ H D I h;exact wpAny_Return_some (g9 (he dN s σ H _ I h) λv s1 ⟨x,H1,I1,r1,q1⟩=>⟨x,σ,H1,I1,r1,q1⟩)
def Ga(c:TT)(t u:TS):TS:=λD σ H=>c σ H λb H1=>if b=true then t D σ H1 else u D σ H1
theorem Ih{c:Expr}{a b:List Stmt}{tc:TT}(hc:PT X c tc)(ha:uI X a t)(hb:uI X b u):PS X (.If c a b pos) (Ga tc t u):=by
 intro dN s σ H D I h;refine wpAny_If (g9 (hc dN s σ H _ I h) λd s1 ⟨H1,I1,q1⟩=>?_);cases d with
 | true=>exact ha dN s1 σ H1 D I1 q1
 | false=>exact hb dN s1 σ H1 D I1 q1
def xq:TS:=λ_ _ _=>False
theorem BN:PS X st xq:=λ_ _ _ _ _ _ h=>h.elim
end
abbrev TG:=V->St->Hp->(St->Hp->Prop)->Prop
abbrev vR:=List V->St->Hp->(St->Hp->Prop)->Prop
def PG(X:Cx)(target:Expr)(t:TG):Prop:=
 ∀(dN:List (Addr×Obj)) (s:Shared) (σ:St) (H:Hp) (v:V) (u:Value) (Q:St->Hp->Prop),eJ X dN σ H s->fM v u->t v σ H Q->
  wpAny (model X.prog X.w) X.A (assign target X.env u) (λ_ s'=>∃σ' H',eJ X dN σ' H' s'/\Q σ' H') X.xe s
def G6(X:Cx)(ts:List Expr)(t:vR):Prop:=
 ∀(dN:List (Addr×Obj)) (s:Shared) (σ:St) (H:Hp) (vs:List V) (us:List Value) (Q:St->Hp->Prop),eJ X dN σ H s->eU vs us->t vs σ H Q->
  wpAny (model X.prog X.w) X.A (assignInOrder ((assignEach ts X.env).map (·.2)) us) (λ_ s'=>∃σ' H',eJ X dN σ' H' s'/\Q σ' H') X.xe s
abbrev FC:=V->V->V->Hp->(Hp->Prop)->Prop
def HX(X:Cx)(t:FC):Prop:=
 ∀(dN:List (Addr×Obj)) (s:Shared) (σ:St) (H:Hp) (o i v:V) (ov iv u:Value) (Q:Hp->Prop),eJ X dN σ H s->fM o ov->fM i iv->fM v u->t o i v H Q->
  wpAny (model X.prog X.w) X.A (setItem ov iv u) (λ_ s'=>∃H',eJ X dN σ H' s'/\Q H') X.xe s
section
variable {X:Cx}{pos:Pos}
def ir(i:Nat):TG:=λv σ H Q=>Q (σ.set i (some v)) H
theorem ye{i:Nat}{x:Str}(hN:X.N.Nodup)(hi:X.N[i]? = some x)(hx:zN X.env.scope x)(hf:X.fn x=true\/X.env.scope.names.lookup x=some .local:=by first | exact .inl rfl | exact .inr rfl | assumption):PG X (.Name x pos) (ir i):=by intro dN s σ H v u Q I r h;exact wpAny_assign_Name (n8 I hN hi hx r (λs' I'=>⟨_,H,I',h⟩) hf)
def y9:vR:=λvs σ H Q=>vs=[]/\Q σ H
def qq(t:TG)(u:vR):vR:=λvs σ H Q=>∃v r,vs=v::r/\t v σ H λσ' H'=>u r σ' H' Q
theorem xQ:G6 X [] y9:=by intro dN s σ H vs us Q I r h;obtain⟨e,h⟩:=h;subst e;cases r;exact assignInOrder_nil ⟨σ,H,I,h⟩
theorem vB{e:Expr}{es:List Expr}{t:TG}{u:vR}(h1:PG X e t)(h2:G6 X es u)
  (hs:(assignEach (e::es) X.env).map (·.2)=assign e X.env::(assignEach es X.env).map (·.2):=by rfl):G6 X (e::es) (qq t u):=by
 intro dN s σ H vs us Q I r h;obtain⟨v,vr,e1,h⟩:=h;subst e1;cases r with
 | cons r rr=>rw[hs];refine assignInOrder_cons (g9 (h1 dN s σ H _ _ _ I r h) λ_ s1 ⟨σ1,H1,I1,q1⟩=>?_);exact h2 dN s1 σ1 H1 _ _ Q I1 rr q1
def yJ(K:W.Frag)(n:Nat)(t:vR):TG:=λv σ H Q=>∃a xs,v=.ref a/\jR K H a xs/\xs.length=n/\t xs σ H Q
theorem Bf{es:List Expr}{k:Nat}{t:vR}{n:Nat}(hc:X.calm=true)(h:G6 X es t)
  (hn:(assignEach es X.env).length=n:=by rfl) (hst:(assignEach es X.env).findIdx? (·.1)=none:=by rfl):PG X (.Tuple es k pos) (yJ X.K n t):=by
 intro dN s σ H v u Q I r hw;obtain⟨a,xs,e1,hq,hl,hw⟩:=hw;subst e1;cases r;obtain⟨its,rv,ht,hz⟩:=I.tuple hq;refine assign_Tuple_tuple (I.ok.hd hc) ht (by simp[hn,<-hl,rv.length]) hst λh' hx=>?_;have I1:eJ X dN σ H {s with heap:=h'}:=I.kept (t':=s.toks) λb o e=>hx b o (aL (aK e)) e;exact h dN _ σ H xs _ Q I1 (by simpa using rv) hw
def Gf(to ti:TE)(t:FC):TG:=λv σ H Q=>to σ H λo H1=>ti σ H1 λi H2=>t o i v H2 λH3=>Q σ H3
theorem GM{o i:Expr}{to ti:TE}{t:FC}(ho:PE X o to)(hi:PE X i ti)(hs:HX X t)
  (ha:∀v,assign (.Subscript o i pos) X.env v=(do
   let ov <-holding [v] (eval o X.env)
   let iv <-holding [v,ov] (eval i X.env)
   standAt pos
   holding [v,ov,iv] (setItem ov iv v)
   release [v,ov,iv] []):=by intro _;rfl):PG X (.Subscript o i pos) (Gf to ti t):=by
 intro dN s σ H v u Q I r h;rw[ha];refine ao (wpAny_holding (g9 (ho dN s σ H _ I h) λov s1 ⟨x,H1,I1,r1,q1⟩=>?_));refine ao (wpAny_holding (g9 (hi dN s1 σ H1 _ I1 q1) λiv s2 ⟨y,H2,I2,r2,q2⟩=>?_));refine ao (wpAny_standAt (ao (wpAny_holding (g9 (hs dN s2 σ H2 x y v ov iv u _ I2 r1 r2 r q2) λ_ s3 ⟨H3,I3,q3⟩=>?_))));exact wpAny_release ⟨σ,H3,I3,q3⟩
def mj(te:TE)(g:TG):TS:=λD σ H=>te σ H λx H1=>g x σ H1 D.nx
theorem Fe{tg e:Expr}{te:TE}{g:TG}(he:PE X e te)(hg:PG X tg g)(hs:swapsWithSole [tg] e pos.line X.env=pure false:=by rfl)(hw:swappedStores [tg] e X.env=pure none:=by rfl)
  (h1:(assignEach [tg] X.env).map (·.2)=[assign tg X.env]:=by rfl):PS X (.Assign [tg] e pos) (mj te g):=by
 intro dN s σ H D I h;refine wpAny_Assign_stores (g9 (he dN s σ H _ I h) λv s1 ⟨x,H1,I1,r1,q1⟩=>?_) hs hw;rw[h1];exact g9 (hg dN s1 σ H1 x v _ I1 r1 q1) λ_ s2 q=>q
theorem w6{i:Nat}{x:Str}{e:Expr}{te:TE}{pos':Pos}(hN:X.N.Nodup)(hi:X.N[i]? = some x)(hx:zN X.env.scope x)(he:PE X e te)(hs:swapsWith e (some (.Name x pos')) pos.line X.env=pure false:=by rfl)(hf:X.fn x=true\/X.env.scope.names.lookup x=some .local:=by first | exact .inl rfl | exact .inr rfl | assumption) :
  PS X (.Assign [.Name x pos'] e pos) (mj te (ir i)):=by
 intro dN s σ H D I h;refine wpAny_Assign_Name (g9 (he dN s σ H _ I h) λv s1 ⟨y,H1,I1,r1,q1⟩=>?_) hs;exact n8 I1 hN hi hx r1 (λs2 I2=>⟨_,H1,I2,q1⟩) hf
def EV(i j:Nat)(ta:TA):TS:=λD σ H=>ta σ H λvs H1=>∃v w,vs=[v,w]/\D.nx ((σ.set i (some v)).set j (some w)) H1
theorem Gk{i j:Nat}{x y:Str}{a b:Expr}{ta:TA}{px py pt:Pos}{kt k2 pt2}(hc:X.calm=true)(hN:X.N.Nodup)(hi:X.N[i]? = some x)(hj:X.N[j]? = some y)(hij:i≠j)
  (hx:X.env.scope.names.lookup x=some .local) (hy:X.env.scope.names.lookup y=some .local) (ha:PA X [a,b] ta)
  (hw:swappedStores [.Tuple [.Name x px,.Name y py] kt pt] (.Tuple [a,b] k2 pt2) X.env=pure (some [x,y]))
  (hs:swapsWithSole [.Tuple [.Name x px,.Name y py] kt pt] (.Tuple [a,b] k2 pt2) pos.line X.env=pure false:=by rfl) :
  PS X (.Assign [.Tuple [.Name x px,.Name y py] kt pt] (.Tuple [a,b] k2 pt2) pos) (EV i j ta):=by
 intro dN s σ H D I h;rw[exec_Assign_arm];refine ao (wpAny_standAt ?_);rw[hs];refine ao (ak ?_);rw[aQ (by decide)];refine ao (Tuple_ (g9 (ha _ dN s σ H _ I h) λus s1 ⟨vs,H1,I1,r1,q1⟩=>?_));obtain⟨v,w,e1,q1⟩:=q1;subst e1;obtain⟨u1,u2,rfl,rv,rw'⟩:∃u1 u2,us=[u1,u2]/\fM v u1/\fM w u2:=by
  cases r1 with
  | cons p q=>
   cases q with
   | cons p' q'=>cases q';exact⟨_,_,rfl,p,p'⟩
 refine wpAny_newObj_type ?_ (by show 2<=sizeLine;decide);have I2:eJ X dN σ H1 {s1 with heap:=s1.heap.push {cls:=.type "tuple",data:=.seq [u1,u2].toArray}}:=I1.kept (t':=s1.toks) λb o e=>ae _ e;rw[hw];refine ao (ak ?_);show wpAny (model X.prog X.w) X.A (do rule "assign.swapped-stores";let items <-unpackItems (.ref s1.heap.objs.size) 2 none;assignInOrder [λv=>bindName X.env y v,λv=>bindName X.env x v] items.reverse;pure Flow.next) _ _ _;refine ao (wpAny_rule (ao (unpackItems_tuple (items:=#[u1,u2]) (I.ok.hd hc) (IsTup.new s1.heap _) λh' hx'=>?_)));have I3:=I2.kept (h':=h') (t':=s1.toks) λb o e=>hx' b o (aL (aK e)) e;show wpAny _ _ (assignInOrder [λv=>bindName X.env y v,λv=>bindName X.env x v] [u2,u1] >>= λ_=>pure Flow.next) _ _ _;refine ao (assignInOrder_cons (wpAny_bindName (n8 I3 hN hj (.inl hy) rw' (λs2 I4=>?_) (.inr hy))));refine assignInOrder_cons (wpAny_bindName (n8 I4 hN hi (.inl hx) rv (λs3 I5=>assignInOrder_nil (ak ?_)) (.inr hx)));rw[List.set_comm _ _ (Ne.symm hij)] at I5;exact⟨_,H1,I5,q1⟩
end
section
variable {X:Cx}{pos:Pos}
def xa(c:TT)(tb:TS):TS:=λD σ H=>∃W:Nat->St->Hp->Prop,(∃m,W m σ H)/\∀m σ H,W m σ H->
 c σ H λb H1=>if b=true then ∃N:St->Hp->Prop,(∀σ' H',N σ' H'->∃m',m'<m/\W m' σ' H')/\tb {D with nx:=N,ct:=N,bk:=D.nx} σ H1 else D.nx σ H1
theorem AD{c:Expr}{body:List Stmt}{tc:TT}{tb:TS}(hp:PassesOwn (model X.prog X.w) X.A X.env X.xe)(hc:PT X c tc)(hb:uI X body tb):PS X (.While c body [] pos) (xa tc tb):=by
 intro dN s σ H D I h;obtain⟨W,⟨m0,w0⟩,turn⟩:=h;refine wpAny_While (codeAny_whileLoop (λn s'=>∃σ' H',eJ X dN σ' H' s'/\W n σ' H') ?_ m0 ⟨σ,H,I,w0⟩);rintro n s1 ⟨σ1,H1,I1,w1⟩;refine wpAny_passesOwn hp (g9 (hc dN s1 σ1 H1 _ I1 (turn n σ1 H1 w1)) λb s2 ⟨H2,I2,q2⟩=>?_);cases b with
 | true=>
  obtain⟨N,hN,q2⟩:=q2;rw[aP rfl];refine wpAny_passesOwn hp (g9 (hb dN s2 σ1 H2 _ I2 q2) λf s3 q3=>?_);cases f with
  | next=>obtain⟨σ3,H3,I3,n3⟩:=q3;obtain⟨m',hm,w3⟩:=hN σ3 H3 n3;exact⟨m',hm,σ3,H3,I3,w3⟩
  | cont=>obtain⟨σ3,H3,I3,n3⟩:=q3;obtain⟨m',hm,w3⟩:=hN σ3 H3 n3;exact⟨m',hm,σ3,H3,I3,w3⟩
  | brk=>exact q3
  | ret v=>exact q3
 | false=>rw[aQ aG];exact wpAny_execs_nil ⟨σ1,H2,I2,q2⟩
end
structure It where
 go:Nat->Hp->Prop
 yld:Nat->Hp->V->Hp->Prop
 stop:Nat->Hp->Prop
def pI(X:Cx)(dN:List (Addr×Obj))(H:Hp)(b:Addr):Prop:=H b=none/\b≠X.env.locals/\b∉X.fs/\(b∈X.ex\/X.s₀.heap.objs.size<=b)/\(∀x c,X.env.cells.lookup x=some c->c≠b)/\∀p∈X.pn++dN,p.1≠b
theorem eJ.fpOk{X:Cx}{dN:List (Addr×Obj)}{σ:St}{H H':Hp}{s:Shared}{b:Addr}(I:eJ X dN σ H s)(hb:s.heap.objs.size<=b)(hn:H' b=none):pI X dN H' b:=by
 refine⟨hn,bu (aD I.lt hb),I.nofs hb,.inr (aM I.sz hb),λx c e z=>?_,λp hp z=>?_⟩
 ·obtain⟨v,q⟩:=I.cell x c e;exact absurd (aD q.lt (by rw[z];exact hb)) (aZ _)
 ·exact absurd (aD (aK (I.pin p hp).1) (by rw[z];exact hb)) (aZ _)
structure wN(P:Program)(w:World)(K:W.Frag)(tg:Expr)(J:It)(fp:List Addr)(it:Addr)(tn:Nat->Heap->Prop):Prop where
 mem:it∈fp
 obj:∀i h,tn i h->∀b∈fp,∃o,h.get? b=some o/\∀v,o.data≠.cell v
 keep:∀i h h',tn i h->(∀b∈fp,∀o,h.get? b=some o->h'.get? b=some o)->tn i h'
 item:∀(X:Cx),X.prog=P->X.w=w->X.K=K->X.calm=true->∀(i:Nat) (dN:List (Addr×Obj)) (s:Shared) (σ:St) (H:Hp) (E:Value->Shared->Prop),eJ X dN σ H s->(∀b∈fp,pI X dN H b)->tn i s.heap->J.go i H->
  wpAny (model P w) X.A (pyNext (.ref it)) (λr s1=>∃u,r=some u/\
   wpAny (model P w) X.A (letOwnedTupleGo tg (.ref it) u) (λ_ s2=>∃x H',eJ X dN σ H' s2/\fM x u/\J.yld i H x H'/\tn (i+1) s2.heap/\∀b∈fp,H' b=none) E s1) E s
 done:∀(X:Cx),X.prog=P->X.w=w->X.K=K->X.calm=true->∀(i:Nat) (dN:List (Addr×Obj)) (s:Shared) (σ:St) (H:Hp) (E:Value->Shared->Prop),eJ X dN σ H s->(∀b∈fp,pI X dN H b)->tn i s.heap->J.stop i H->
  wpAny (model P w) X.A (pyNext (.ref it)) (λr s1=>r=none/\eJ X dN σ H s1) E s
 self:∀(A:Around) (i:Nat) (s:Shared) (Q:Value->Shared->Prop) (E:Value->Shared->Prop),tn i s.heap->Q (.ref it) s->wpAny (model P w) A (pyIter (.ref it)) Q E s
abbrev TI:=St->Hp->(It->Hp->Prop)->Prop
def JA(X:Cx)(dN:List (Addr×Obj))(σ:St)(tg:Expr)(R:It->Hp->Prop)(itv:Value)(s2:Shared):Prop:=∃(it:Addr) (fp:List Addr) (tn:Nat->Heap->Prop) (J:It) (H':Hp),itv=.ref it/\eJ X dN σ H' s2/\wN X.prog X.w X.K tg J fp it tn/\tn 0 s2.heap/\(∀b∈fp,pI X dN H' b)/\R J H'
def PI(X:Cx)(tg iter:Expr)(wi:TI):Prop:=
 ∀(dN:List (Addr×Obj)) (s:Shared) (σ:St) (H:Hp) (R:It->Hp->Prop),eJ X dN σ H s->wi σ H R->
  wpAny (model X.prog X.w) X.A (eval iter X.env) (λv s1=>wpAny (model X.prog X.w) X.A (pyIter v) (JA X dN σ tg R) X.xe s1) X.xe s
theorem Ae{M:Model}{A:Around}{E:Value->Shared->Prop}{s:Shared}{tg:Expr}{it:Addr}{u:Value}{o:Obj}{n:String}{vs:Array Value}{Q:Unit->Shared->Prop}(ho:s.heap.get? it=some o)(hc:o.cls=.type n)(hd:o.data=.fields vs)
    (hn:["enumerate", "zip", "dict_itemiterator", "dict_reverseitemiterator", "odict_iterator", "itertools.zip_longest", "itertools.pairwise"].contains n=false) (hQ:Q () s):wpAny M A (letOwnedTupleGo tg (.ref it) u) Q E s:=by
  unfold letOwnedTupleGo;cases tg<;>first
    | exact ak hQ
    | (cases u<;>first
        | exact ak hQ
        | (refine ao (wpAny_load ho ?_)
           rw[hc,hd]
           show wpAny M A (if (["enumerate", "zip", "dict_itemiterator", "dict_reverseitemiterator", "odict_iterator", "itertools.zip_longest", "itertools.pairwise"].contains n&&vs[0]? == some (rawInt _))=true then _ else _) Q E s
           rw[aQ (by intro h;rw[hn,Bool.false_and] at h;cases h)]
           exact ak hQ))
def Jh(K:W.Frag)(a:Addr):It:=⟨λi H=>∃xs x,jq K H a xs/\xs[i]? = some x,λi H x H'=>H'=H/\∀xs,jq K H a xs->xs[i]? = some x,λi H=>∃xs,jq K H a xs/\xs.length<=i⟩
def IW(K:W.Frag)(a:Addr):It:=⟨λi H=>∃xs x,jR K H a xs/\xs[i]? = some x,λi H x H'=>H'=H/\∀xs,jR K H a xs->xs[i]? = some x,λi H=>∃xs,jR K H a xs/\xs.length<=i⟩
def HW(lo:Int)(n:Nat):It:=⟨λi _=>i<n,λi H x H'=>H'=H/\x=.int (lo+i),λi _=>n<=i⟩
theorem yU{P:Program}{w:World}{K:W.Frag}{tg:Expr}(a it:Addr):wN P w K tg (Jh K a) [it] it (λi h=>h.IsListIter it a i) where
 mem:=by simp
 obj:=λi h st b hb=>by
  have e:b=it:=by simpa using hb
  subst e;obtain⟨o,e,c,d⟩:=st;exact⟨o,e,λv z=>by rw[d] at z;cases z⟩
 keep:=λi h h' st k=>st.at λo e=>k it (by simp) o e
 item:=by intro X hP hw hK hc i dN s σ H E I hf st hg;subst hP hw hK;obtain⟨xs,x,hq,hx⟩:=hg;obtain⟨its,rv,p,hz⟩:=I.list hq;obtain⟨u,hu,ru⟩:=rv.get hx;obtain⟨f0,f1,f2,f3,f4,f5⟩:=hf it (by simp);refine wpAny_pyNext_list_item st p.isList (x:=u) (by simpa using hu) λh' st' sb=>?_;have I1:eJ X dN σ H {s with heap:=h'}:=I.turned (t':=s.toks) (λb o hb e=>(sb.2 b hb).trans e) f0 f1 f3 f4 f5;obtain⟨o,e,c,d⟩:=id st';exact⟨u,rfl,Ae (s:={s with heap:=h'}) e c d (by decide) ⟨x,H,I1,ru,⟨rfl,λys hy=>by rw[I.list_inj hy hq];exact hx⟩,st',λb hb=>(hf b hb).1⟩⟩
 done:=by intro X hP hw hK hc i dN s σ H E I hf st hg;subst hP hw hK;obtain⟨xs,hq,hx⟩:=hg;obtain⟨its,rv,p,hz⟩:=I.list hq;obtain⟨f0,f1,f2,f3,f4,f5⟩:=hf it (by simp);have hl:=rv.length;exact wpAny_pyNext_list_end (I.ok.hd hc) st p.isList (by simp;omega) λh' eb=>⟨rfl,I.turned (t':=s.toks) (λb o hb e=>eb b o hb e) f0 f1 f3 f4 f5⟩
 self:=λ_ _ _ _ _ st h=>wpAny_pyIter_listiter st h
theorem v8{P:Program}{w:World}{K:W.Frag}{tg:Expr}(a it:Addr):wN P w K tg (IW K a) [it] it (λi h=>h.IsTupleIter it a i) where
 mem:=by simp
 obj:=λi h st b hb=>by
  have e:b=it:=by simpa using hb
  subst e;obtain⟨o,e,c,d⟩:=st;exact⟨o,e,λv z=>by rw[d] at z;cases z⟩
 keep:=λi h h' st k=>st.at λo e=>k it (by simp) o e
 item:=by intro X hP hw hK hc i dN s σ H E I hf st hg;subst hP hw hK;obtain⟨xs,x,hq,hx⟩:=hg;obtain⟨its,rv,p,hz⟩:=I.tuple hq;obtain⟨u,hu,ru⟩:=rv.get hx;obtain⟨f0,f1,f2,f3,f4,f5⟩:=hf it (by simp);refine wpAny_pyNext_tuple_item st (show s.heap.IsTuple a its.toArray from p) (x:=u) (by simpa using hu) λh' st' sb=>?_;have I1:eJ X dN σ H {s with heap:=h'}:=I.turned (t':=s.toks) (λb o hb e=>(sb.2 b hb).trans e) f0 f1 f3 f4 f5;obtain⟨o,e,c,d⟩:=id st';exact⟨u,rfl,Ae (s:={s with heap:=h'}) e c d (by decide) ⟨x,H,I1,ru,⟨rfl,λys hy=>by rw[I.tuple_inj hy hq];exact hx⟩,st',λb hb=>(hf b hb).1⟩⟩
 done:=by intro X hP hw hK hc i dN s σ H E I hf st hg;subst hP hw hK;obtain⟨xs,hq,hx⟩:=hg;obtain⟨its,rv,p,hz⟩:=I.tuple hq;obtain⟨f0,f1,f2,f3,f4,f5⟩:=hf it (by simp);have hl:=rv.length;exact wpAny_pyNext_tuple_end (I.ok.hd hc) st (show s.heap.IsTuple a its.toArray from p) (by simp;omega) λh' eb=>⟨rfl,I.turned (t':=s.toks) (λb o hb e=>eb b o hb e) f0 f1 f3 f4 f5⟩
 self:=λ_ _ _ _ _ st h=>wpAny_pyIter_tupleiter st h
theorem xl{P:Program}{w:World}{K:W.Frag}{tg:Expr}(it:Addr)(lo:Int)(n:Nat):wN P w K tg (HW lo n) [it] it (λi h=>IsRangeIter h it (lo+(i:Nat)*1) ((n:Int) - (i:Nat)) 1) where
 mem:=by simp
 obj:=λi h st b hb=>by
  have e:b=it:=by simpa using hb
  subst e;exact⟨_,st,λv z=>by have z':Data.fields _=Data.cell v:=z;cases z'⟩
 keep:=λi h h' st k=>k it (by simp) _ st
 item:=by intro X hP hw hK hc i dN s σ H E I hf st hg;subst hP hw hK;obtain⟨f0,f1,f2,f3,f4,f5⟩:=hf it (by simp);have W:=Walks.range (prog:=X.prog) (w:=X.w) (I.ok.hd hc) it lo 1 n;refine W.item i s _ _ hg st λv h' tk hv st' kk=>?_;obtain⟨t,rfl⟩:=hv;have I1:eJ X dN σ H {s with heap:=h',toks:=tk}:=I.turned (λb o hb e=>kk b o (by simpa using hb) e) f0 f1 f3 f4 f5;refine⟨_,rfl,Ae (s:={s with heap:=h',toks:=tk}) (n:= "range_iterator") st' rfl rfl (by decide) ⟨.int (lo+i),H,I1,⟨t,?_⟩,⟨rfl,rfl⟩,st',λb hb=>(hf b hb).1⟩⟩;rw[bz]
 done:=by intro X hP hw hK hc i dN s σ H E I hf st hg;subst hP hw hK;obtain⟨f0,f1,f2,f3,f4,f5⟩:=hf it (by simp);exact wpAny_pyNext_range_end (I.ok.hd hc) st (by have:n<=i:=hg;omega) λh' eb=>⟨rfl,I.turned (t':=s.toks) (λb o hb e=>eb b o hb e) f0 f1 f3 f4 f5⟩
 self:=λ_ _ _ _ _ st h=>wpAny_pyIter_rangeiter st h
end L2
namespace L2
open PySem PySem.Spec PyProof.Rows
section
variable {X:Cx}{tg:Expr}
def Bv(K:W.Frag)(tl:TE):TI:=λσ H R=>tl σ H λx H1=>∃a,x=.ref a/\(∃xs,jq K H1 a xs)/\R (Jh K a) H1
def GW(K:W.Frag)(tl:TE):TI:=λσ H R=>tl σ H λx H1=>∃a,x=.ref a/\(∃xs,jR K H1 a xs)/\R (IW K a) H1
theorem CO{l:Expr}{tl:TE}(hl:PE X l tl):PI X tg l (Bv X.K tl):=by
 intro dN s σ H R I h;refine g9 (hl dN s σ H _ I h) λv s1 ⟨x,H1,I1,r1,q1⟩=>?_;obtain⟨a,e,⟨xs,hq⟩,q⟩:=q1;subst e;cases r1;obtain⟨its,rv,p,hz⟩:=I1.list hq;refine wpAny_pyIter_list p.isList ?_;refine⟨s1.heap.objs.size,[s1.heap.objs.size],_,_,H1,rfl,I1.kept (t':=s1.toks) λb o e=>ae _ e,yU a _,⟨_,ar _ rfl,rfl,rfl⟩,λb hb=>?_,q⟩;have e:b=s1.heap.objs.size:=by simpa using hb
 subst e;exact I1.fpOk (aJ _) (I1.hok.fresh (aJ _))
theorem GV{l:Expr}{tl:TE}(hl:PE X l tl):PI X tg l (GW X.K tl):=by
 intro dN s σ H R I h;refine g9 (hl dN s σ H _ I h) λv s1 ⟨x,H1,I1,r1,q1⟩=>?_;obtain⟨a,e,⟨xs,hq⟩,q⟩:=q1;subst e;cases r1;obtain⟨its,rv,p,hz⟩:=I1.tuple hq;refine wpAny_pyIter_tuple (show s1.heap.IsTuple a its.toArray from p) ?_;refine⟨s1.heap.objs.size,[s1.heap.objs.size],_,_,H1,rfl,I1.kept (t':=s1.toks) λb o e=>ae _ e,v8 a _,⟨_,ar _ rfl,rfl,rfl⟩,λb hb=>?_,q⟩;have e:b=s1.heap.objs.size:=by simpa using hb
 subst e;exact I1.fpOk (aJ _) (I1.hok.fresh (aJ _))
theorem AZ{dN:List (Addr×Obj)}{σ:St}{H:Hp}{s:Shared}{R:It->Hp->Prop}{E:Value->Shared->Prop}{lo hi:Int}{t u v:Tok}{tk:Nat}(I:eJ X dN σ H s)(h1:-(2 ^ 62)<=lo)(h2:lo<2 ^ 62)(h3:-(2 ^ 62)<=hi)(h4:hi<2 ^ 62)
  (q:R (HW lo (hi - lo).toNat) H):wpAny (model X.prog X.w) X.A (pyIter (.ref s.heap.objs.size)) (JA X dN σ tg R) E {s with heap:=s.heap.push {cls:=.type "range",data:=.fields #[.int lo t,.int hi u,.int 1 v]},toks:=tk}:=by
 refine wpAny_pyIter_range (IsRange.new ..) (small_one h1 h2 h3 h4) ?_;have I1:eJ X dN σ H {s with heap:=s.heap.push {cls:=.type "range",data:=.fields #[.int lo t,.int hi u,.int 1 v]},toks:=tk}:=I.kept λb o e=>ae _ e;refine⟨(s.heap.push {cls:=.type "range",data:=.fields #[.int lo t,.int hi u,.int 1 v]}).objs.size,[(s.heap.push {cls:=.type "range",data:=.fields #[.int lo t,.int hi u,.int 1 v]}).objs.size],_,_,H,rfl,
  I1.kept (t':=tk) λb o e=>ae _ e,xl _ lo (hi - lo).toNat,?_,λb hb=>?_,q⟩
 ·have e1:lo+((0:Nat):Int)*1=lo:=by simp
  have e2:(((hi - lo).toNat:Nat):Int) - ((0:Nat):Int)=Builtin.Range.rangeSize lo hi 1:=by rw[rangeSize_one];split<;>omega
  show IsRangeIter _ _ (lo+((0:Nat):Int)*1) ((((hi - lo).toNat:Nat):Int) - ((0:Nat):Int)) 1;rw[e1,e2];exact ar _ rfl
 ·have e:b=(s.heap.push {cls:=.type "range",data:=.fields #[.int lo t,.int hi u,.int 1 v]}).objs.size:=by simpa using hb
  subst e;exact I1.fpOk (aJ _) (I1.hok.fresh (aJ _))
def Bk(ta:TA):TI:=λσ H R=>ta σ H λvs H1=>∃j:Int,vs=[.int j]/\-(2 ^ 62)<=j/\j<2 ^ 62/\R (HW 0 j.toNat) H1
theorem zK{a:Expr}{ta:TA}{p pos:Pos}(hg:Gl X "range")(hm:X.mg "range" = none)(ha:PA X [a] ta)(hs:starEach [a] X.env=[(false,eval a X.env)]:=by rfl):PI X tg (.Call (.Name "range" p) [a] [] pos) (Bk ta):=by
 intro dN s σ H R I h;refine Call_ (ky I hg hm boot_range (PyProof.Rows.callWith_type1 (g9 (ha pos dN s σ H _ I h) λus s1 ⟨vs,H1,I1,r1,q1⟩=>?_) hs rfl));obtain⟨j,e,q1,q2,q⟩:=q1;subst e;cases r1 with
 | cons r rr=>cases rr;obtain⟨t,rfl⟩:=r;exact call_range_1 (AZ I1 (by omega) (by omega) q1 q2 (by simpa using q))
def z9(wi:TI)(g:TG)(tb:TS):TS:=λD σ H=>wi σ H λJ H1=>∃W:Nat->Nat->St->Hp->Prop,(∃m,W 0 m σ H1)/\∀i m σ H,W i m σ H->
 (J.stop i H/\D.nx σ H)\/(J.go i H/\∃N:St->Hp->Prop,(∀σ' H',N σ' H'->∃m',m'<m/\W (i+1) m' σ' H')/\∀x H',J.yld i H x H'->g x σ H' λσ2 H2=>tb {D with nx:=N,ct:=N,bk:=D.nx} σ2 H2)
def qu(fp:List Addr)(h:Heap):List (Addr×Obj):=fp.filterMap λb=>(h.get? b).map λo=>(b,o)
theorem lE{fp:List Addr}{h:Heap}{b:Addr}{o:Obj}(hb:b∈fp)(e:h.get? b=some o):(b,o)∈qu fp h:=bA.mpr ⟨b,hb,by rw[e];rfl⟩
theorem yS{fp:List Addr}{h:Heap}{p:Addr×Obj}(hp:p∈qu fp h):p.1∈fp/\h.get? p.1=some p.2:=by
 obtain⟨b,hb,e⟩:=bA.mp hp;cases q:h.get? b with
 | none=>rw[q] at e;cases e
 | some o=>rw[q] at e;have e':(b,o)=p:=Option.some.inj e;subst e';exact⟨hb,q⟩
theorem eJ.pinned{dN:List (Addr×Obj)}{σ:St}{H:Hp}{s:Shared}{fp:List Addr}(I:eJ X dN σ H s)(hf:∀b∈fp,pI X dN H b)(ho:∀b∈fp,∃o,s.heap.get? b=some o/\∀v,o.data≠.cell v):eJ X (dN++qu fp s.heap) σ H s:=I.pins_of λp hp=>(ai.mp hp).elim (λz=>I.pin p (bB _ z)) λz=>by obtain⟨hb,e⟩:=yS z;obtain⟨f0,f1,f2,_⟩:=hf p.1 hb;obtain⟨o,e',d⟩:=ho p.1 hb;rw[e] at e';cases e';exact⟨e,f0,f1,f2,d⟩
theorem eJ.unpinned{dN pl:List (Addr×Obj)}{σ:St}{H:Hp}{s:Shared}(I:eJ X (dN++pl) σ H s):eJ X dN σ H s:=I.pins_of λp hp=>I.pin p (bB _ (ax _ hp))
theorem B2{iter:Expr}{body:List Stmt}{wi:TI}{g:TG}{tb:TS}{pos:Pos}(hp:PassesOwn (model X.prog X.w) X.A X.env X.xe)(hc:X.calm=true)(hi:PI X tg iter wi)(hg:PG X tg g)(hb:uI X body tb)
  (hs:∀x,foldedSetIterable iter X.env x=pure x:=by intro _;rfl):PS X (.For tg iter body [] pos) (z9 wi g tb):=by
 intro dN s σ H D I h;refine wpAny_For (g9 (hi dN s σ H _ I h) λv s1 h1=>g9 h1 λitv s2 h2=>?_) hs;obtain⟨it,fp,tn,J,H2,e,I2,T,st2,f2,W,⟨m0,w0⟩,turn⟩:=h2;subst e;have stat:∀{H':Hp},(∀b∈fp,H' b=none)->∀b∈fp,pI X dN H' b:=λhn b hb=>⟨hn b hb,(f2 b hb).2⟩;refine codeAny_forLoop_any (λn s'=>∃i σ' H',eJ X dN σ' H' s'/\tn i s'.heap/\(∀b∈fp,H' b=none)/\W i n σ' H') ?_ m0 ⟨0,σ,H2,I2,st2,λb hb=>(f2 b hb).1,w0⟩;rintro n s3 ⟨i,σ3,H3,I3,st3,fr3,w3⟩;rcases turn i n σ3 H3 w3 with⟨stop,qn⟩ | ⟨go,N,hN,step⟩
 ·refine wpAny_passesOwn hp (g9 (T.done X rfl rfl rfl hc i dN s3 σ3 H3 X.xe I3 (stat fr3) st3 stop) λr s4 ⟨hr,I4⟩=>?_);subst hr;exact wpAny_execs_nil ⟨σ3,H3,I4,qn⟩
 ·refine wpAny_passesOwn hp (g9 (T.item X rfl rfl rfl hc i dN s3 σ3 H3 X.xe I3 (stat fr3) st3 go) λr s4 ⟨u,hr,h4⟩=>?_);subst hr;refine wpAny_passesOwn hp (g9 h4 λ_ s5 ⟨x,H5,I5,r5,y5,st5,fr5⟩=>?_);have I5':=I5.pinned (stat fr5) (T.obj _ _ st5);refine wpAny_passesOwn hp (g9 (hg _ s5 σ3 H5 x u _ I5' r5 (step x H5 y5)) λ_ s6 ⟨σ6,H6,I6,q6⟩=>?_);refine wpAny_passesOwn hp (g9 (hb _ s6 σ6 H6 _ I6 q6) λf s7 q7=>?_);have again:∀{σ7:St} {H7:Hp},eJ X (dN++qu fp s5.heap) σ7 H7 s7->N σ7 H7->∃m,m<n/\∃i σ' H',eJ X dN σ' H' s7/\tn i s7.heap/\(∀b∈fp,H' b=none)/\W i m σ' H':=λ{σ7 H7} I7 n7=>by obtain⟨m',hm,w7⟩:=hN σ7 H7 n7;refine⟨m',hm,i+1,σ7,H7,I7.unpinned,T.keep _ _ _ st5 λb hb o e=>(I7.pin (b,o) (bB _ (bB _ (lE hb e)))).1,λb hb=>?_,w7⟩;obtain⟨o,e,d⟩:=T.obj _ _ st5 b hb;exact (I7.pin (b,o) (bB _ (bB _ (lE hb e)))).2.1
  cases f with
  | next=>obtain⟨σ7,H7,I7,n7⟩:=q7;exact again I7 n7
  | cont=>obtain⟨σ7,H7,I7,n7⟩:=q7;exact again I7 n7
  | brk=>obtain⟨σ7,H7,I7,q7⟩:=q7;exact⟨σ7,H7,I7.unpinned,q7⟩
  | ret v=>obtain⟨x7,σ7,H7,I7,r7,q7⟩:=q7;exact⟨x7,σ7,H7,I7.unpinned,r7,q7⟩
end
end L2
namespace L2
open PySem PySem.Spec PyProof.Rows
abbrev R2:=V->V->Hp->VK->Prop
def mM(X:Cx)(f:Value->Value->Sem Value)(r:R2):Prop:=
 ∀(dN:List (Addr×Obj)) (s:Shared) (σ:St) (H:Hp) (x y:V) (v u:Value) (Q:VK),eJ X dN σ H s->fM x v->fM y u->r x y H Q->
  wpAny (model X.prog X.w) X.A (f v u) (EP X dN σ Q) X.xe s
def Jg(X:Cx)(f:Value->Sem Value)(r:V->Hp->VK->Prop):Prop:=
 ∀(dN:List (Addr×Obj)) (s:Shared) (σ:St) (H:Hp) (x:V) (v:Value) (Q:VK),eJ X dN σ H s->fM x v->r x H Q->
  wpAny (model X.prog X.w) X.A (f v) (EP X dN σ Q) X.xe s
def iW(X:Cx)(f:Value)(r:List V->Hp->VK->Prop):Prop:=
 ∀(dN:List (Addr×Obj)) (s:Shared) (σ:St) (H:Hp) (xs:List V) (us:List Value) (Q:VK),eJ X dN σ H s->eU xs us->r xs H Q->
  wpAny (model X.prog X.w) X.A (call f us) (EP X dN σ Q) X.xe s
def rh(r:R2)(ta tb:TE):TE:=λσ H Q=>ta σ H λx H1=>tb σ H1 λy H2=>r x y H2 Q
def Iw(r:V->Hp->VK->Prop)(ta:TE):TE:=λσ H Q=>ta σ H λx H1=>r x H1 Q
def rI(C:Int->Int->Prop)(g:Int->Int->V):R2:=λx y H Q=>∃i j,x=.int i/\y=.int j/\C i j/\Q (g i j) H
def xu(g:Int->Int->V):R2:=λx y H Q=>∃i j,x=.int i/\y=.int j/\Q (g i j) H
def rU(g:Int->V):V->Hp->VK->Prop:=λx H Q=>∃i,x=.int i/\Q (g i) H
section
variable {X:Cx}{a b c:Expr}{ta tb tc:TE}{pos:Pos}
theorem Fh(ha:PE X a ta)(hb:PE X b tb){dN:List (Addr×Obj)}{s:Shared}{σ:St}{H:Hp}{R:V->V->Hp->Prop}(I:eJ X dN σ H s)
  (h:ta σ H λx H1=>tb σ H1 λy H2=>R x y H2) {Q:Value->Shared->Prop} {f:Value->Value->Sem Value}
  (hf:∀v u s2 x y H2,eJ X dN σ H2 s2->fM x v->fM y u->R x y H2->wpAny (model X.prog X.w) X.A (f v u) Q X.xe s2) :
  wpAny (model X.prog X.w) X.A (eval a X.env) (λv s₁=>wpAny (model X.prog X.w) X.A (eval b X.env) (λu s₂=>wpAny (model X.prog X.w) X.A (f v u) Q X.xe s₂) X.xe s₁) X.xe s:=by
 refine g9 (ha dN s σ H _ I h) λv s1 ⟨x,H1,I1,r1,q1⟩=>?_;refine g9 (hb dN s1 σ H1 _ I1 q1) λu s2 ⟨y,H2,I2,r2,q2⟩=>?_;exact hf v u s2 x y H2 I2 r1 r2 q2
theorem zQ{op:Operator}{r:R2}(ho:mM X (binaryOp op) r)(ha:PE X a ta)(hb:PE X b tb):PE X (.BinOp a op b pos) (rh r ta tb):=by intro dN s σ H Q I h;exact wpAny_BinOp (Fh ha hb I h λv u s2 x y H2 I2 rx ry q=>ho dN s2 σ H2 x y v u Q I2 rx ry q)
theorem EE{op:UnaryOp}{r:V->Hp->VK->Prop}(ho:Jg X (unaryOp op) r)(ha:PE X a ta):PE X (.UnaryOp op a pos) (Iw r ta):=by intro dN s σ H Q I h;exact UnaryOp_ (g9 (ha dN s σ H _ I h) λv s1 ⟨x,H1,I1,r1,q1⟩=>ho dN s1 σ H1 x v Q I1 r1 q1)
theorem II{f:Value->Value->Sem Value}{C:Int->Int->Prop}{g:Int->Int->Int}
  (rule:∀(i j:Int) (t u:Tok) (s:Shared) (Q:Value->Shared->Prop) (E:Value->Shared->Prop),C i j->Q (.int (g i j) s.toks) {s with toks:=s.toks+1}->wpAny (model X.prog X.w) X.A (f (.int i t) (.int j u)) Q E s) :
  mM X f (rI C λi j=>.int (g i j)):=by
 intro dN s σ H x y v u Q I rx ry h;obtain⟨i,j,rfl,rfl,hc,q⟩:=h;obtain⟨t,rfl⟩:=rx;obtain⟨t',rfl⟩:=ry;exact rule i j t t' s _ _ hc ⟨.int (g i j),H,I.tok _,⟨_,rfl⟩,q⟩
theorem Hj{f:Value->Value->Sem Value}{g:Int->Int->Int}
  (rule:∀(i j:Int) (t u:Tok) (s:Shared) (Q:Value->Shared->Prop) (E:Value->Shared->Prop),Q (.int (g i j) s.toks) {s with toks:=s.toks+1}->wpAny (model X.prog X.w) X.A (f (.int i t) (.int j u)) Q E s) :
  mM X f (xu λi j=>.int (g i j)):=by
 intro dN s σ H x y v u Q I rx ry h;obtain⟨i,j,rfl,rfl,q⟩:=h;obtain⟨t,rfl⟩:=rx;obtain⟨t',rfl⟩:=ry;exact rule i j t t' s _ _ ⟨.int (g i j),H,I.tok _,⟨_,rfl⟩,q⟩
theorem Cc{f:Value->Value->Sem Value}{g:Int->Int->Bool}
  (rule:∀(i j:Int) (t u:Tok) (s:Shared) (Q:Value->Shared->Prop) (E:Value->Shared->Prop),Q (.bool (g i j)) s->wpAny (model X.prog X.w) X.A (f (.int i t) (.int j u)) Q E s) :
  mM X f (xu λi j=>.bl (g i j)):=by
 intro dN s σ H x y v u Q I rx ry h;obtain⟨i,j,rfl,rfl,q⟩:=h;obtain⟨t,rfl⟩:=rx;obtain⟨t',rfl⟩:=ry;exact rule i j t t' s _ _ ⟨.bl (g i j),H,I,rfl,q⟩
def Hq(i j:Int):Prop:=0<=j/\j<=1000000/\i.natAbs<2 ^ 64
theorem Gb:mM X (binaryOp .Add) (xu λi j=>.int (i+j)):=Hj λ_ _ _ _ _ _ _ q=>add_int q
theorem Gw:mM X (binaryOp .Sub) (xu λi j=>.int (i - j)):=Hj λ_ _ _ _ _ _ _ q=>sub_int q
theorem Ek:mM X (binaryOp .Mod) (rI (λ_ j=>j≠0) λi j=>.int (i.fmod j)):=II λ_ _ _ _ _ _ _ hc q=>mod_int' hc q
theorem GD:mM X (binaryOp .Pow) (rI Hq λi j=>.int (i ^ j.toNat)):=II λ_ _ _ _ _ _ _ hc q=>pow_int_small hc.1 hc.2.1 hc.2.2 q
theorem Kd{f:Value->Sem Value}{g:Int->Int}
  (rule:∀(i:Int) (t:Tok) (s:Shared) (Q:Value->Shared->Prop) (E:Value->Shared->Prop),Q (.int (g i) s.toks) {s with toks:=s.toks+1}->wpAny (model X.prog X.w) X.A (f (.int i t)) Q E s) :
  Jg X f (rU λi=>.int (g i)):=by
 intro dN s σ H x v Q I rx h;obtain⟨i,rfl,q⟩:=h;obtain⟨t,rfl⟩:=rx;exact rule i t s _ _ ⟨.int (g i),H,I.tok _,⟨_,rfl⟩,q⟩
theorem Ad:Jg X (unaryOp .USub) (rU λi=>.int (-i)):=Kd λ_ _ _ _ _ q=>neg_int q
end
section
variable {X:Cx}{a b c:Expr}{ta tb tc:TE}{pos:Pos}
theorem uK:mM X (compareOp .Lt) (xu λi j=>.bl (decide (i<j))):=Cc λ_ _ _ _ _ _ _ q=>lt_int q
theorem By:mM X (compareOp .LtE) (xu λi j=>.bl (decide (i<=j))):=Cc λ_ _ _ _ _ _ _ q=>le_int q
theorem yo:mM X (compareOp .Gt) (xu λi j=>.bl (decide (j<i))):=Cc λ_ _ _ _ _ _ _ q=>gt_int q
theorem Ex:mM X (compareOp .GtE) (xu λi j=>.bl (decide (j<=i))):=Cc λ_ _ _ _ _ _ _ q=>ge_int q
theorem oz(b:Expr){op:CmpOp}(h:op≠.In:=by decide)(h2:op≠.NotIn:=by decide):behindInMarks op b=false:=by
 have e1:(op == CmpOp.In)=false:=by cases op<;>first | rfl | exact absurd rfl h
 have e2:(op == CmpOp.NotIn)=false:=by cases op<;>first | rfl | exact absurd rfl h2
 cases b<;>simp[behindInMarks,e1,e2]
theorem Ci{op:CmpOp}{r:R2}(ho:mM X (compareOp op) r)(ha:PE X a ta)(hb:PE X b tb)(hm:behindInMarks op b=false):PE X (.Compare a [op] [b] pos) (rh r ta tb):=by intro dN s σ H Q I h;exact wpAny_Compare1 (Fh ha hb I h λv u s2 x y H2 I2 rx ry q=>ho dN s2 σ H2 x y v u Q I2 rx ry q) hm
def vN(t:TE):TT:=λσ H Q=>t σ H λx H'=>∃k,x=.bl k/\Q k H'
theorem CT{op:CmpOp}{r:R2}(ho:mM X (compareOp op) r)(ha:PE X a ta)(hb:PE X b tb)(hm:behindInMarks op b=false):PT X (.Compare a [op] [b] pos) (vN (rh r ta tb)):=by
 intro dN s σ H Q I h;refine wpAny_isTrue_Compare1 (g9 (ha dN s σ H _ I h) λv s1 ⟨x,H1,I1,r1,q1⟩=>g9 (hb dN s1 σ H1 _ I1 q1) λu s2 ⟨y,H2,I2,r2,q2⟩=>g9 (ho dN s2 σ H2 x y v u _ I2 r1 r2 q2) λc s3 ⟨z,H3,I3,r3,k,e,q3⟩=>?_) hm
 subst e;cases r3;exact wpAny_truthy_bool ⟨H3,I3,q3⟩
def wm(r r':R2)(ta tb tc:TE):TE:=λσ H Q=>ta σ H λx H1=>tb σ H1 λy H2=>r x y H2 λz H3=>∃k,z=.bl k/\
 (if k=true then tc σ H3 λw' H4=>r' y w' H4 Q else Q (.bl false) H3)
theorem Au{op op':CmpOp}{r r':R2}(ho:mM X (compareOp op) r)(ho':mM X (compareOp op') r')(ha:PE X a ta)(hb:PE X b tb)(hc:PE X c tc)
  (hm:lastMarks [op,op'] [b,c]=false:=by with_unfolding_all rfl):PE X (.Compare a [op,op'] [b,c] pos) (wm r r' ta tb tc):=by
 intro dN s σ H Q I h;refine Compare_chain (g9 (ha dN s σ H _ I h) λv s1 ⟨x,H1,I1,r1,q1⟩=>chain_link (g9 (hb dN s1 σ H1 _ I1 q1) λu s2 ⟨y,H2,I2,r2,q2⟩=>g9 (ho dN s2 σ H2 x y v u _ I2 r1 r2 q2) λd s3 ⟨z,H3,I3,r3,k,e,q3⟩=>?_)) hm
 subst e;cases r3;refine wpAny_truthy_bool ?_;cases k with
 | false=>exact ite_ff ⟨.bl false,H3,I3,rfl,q3⟩
 | true=>exact ite_tt (chain_last (g9 (hc dN s3 σ H3 _ I3 q3) λw' s4 ⟨z',H4,I4,r4,q4⟩=>ho' dN s4 σ H4 y z' u w' Q I4 r2 r4 q4))
theorem qL:(sizeLine:Nat)<2 ^ 63:=by rw[sizeLine_eq];decide
theorem wY:mM X (binaryOp .Add) (λx y H Q=>∃i j,x=.str i/\y=.str j/\i.length+j.length<=sizeLine/\Q (.str (i++j)) H):=by intro dN s σ H x y v u Q I rx ry h;obtain⟨i,j,rfl,rfl,hz,q⟩:=h;obtain⟨t,rfl⟩:=rx;obtain⟨t',rfl⟩:=ry;exact add_str (λt' tk=>⟨.str (i++j),H,I.tok _,⟨_,rfl⟩,q⟩) hz
theorem lJ{x:V}{us:List Value}(r:eU [x] us):∃u,us=[u]/\fM x u:=by
 cases r with
 | cons r1 r2=>cases r2;exact⟨_,rfl,r1⟩
theorem HZ{x y:V}{us:List Value}(r:eU [x,y] us):∃u w',us=[u,w']/\fM x u/\fM y w':=by
 cases r with
 | cons r1 r2=>
  cases r2 with
  | cons r3 r4=>cases r4;exact⟨_,_,rfl,r1,r3⟩
theorem nM:iW X (.builtin "abs") (λxs H Q=>∃i,xs=[.int i]/\Q (.int (if i<0 then -i else i)) H):=by intro dN s σ H xs us Q I r h;obtain⟨i,rfl,q⟩:=h;obtain⟨u,rfl,t,rfl⟩:=lJ r;exact call_abs_int λu tk=>⟨.int (if i<0 then -i else i),H,I.tok _,⟨_,rfl⟩,q⟩
theorem sR:iW X (.type "int") (λxs H Q=>(∃i,xs=[.int i]/\Q (.int i) H)\/∃k,xs=[.bl k]/\Q (.int (if k then 1 else 0)) H):=by
 intro dN s σ H xs us Q I r h;rcases h with⟨i,rfl,q⟩ | ⟨k,rfl,q⟩
 ·obtain⟨u,rfl,t,rfl⟩:=lJ r;exact call_int_int ⟨.int i,H,I,⟨_,rfl⟩,q⟩
 ·obtain⟨u,rfl,r1⟩:=lJ r;cases r1;exact call_int_bool ⟨.int (if k then 1 else 0),H,I.tok _,⟨_,rfl⟩,q⟩
def E1(K:W.Frag)(x:V)(H:Hp)(n:Nat):Prop:=
 match x with
 | .str y=>y.length<=sizeLine/\n=y.length
 | .byt y=>y.size<=sizeLine/\n=y.size
 | .ref p=>(∃xs,jq K H p xs/\n=xs.length)\/∃xs,jR K H p xs/\n=xs.length
 | _=>False
theorem BP:iW X (.builtin "len") (λxs H Q=>∃x n,xs=[x]/\E1 X.K x H n/\Q (.int n) H):=by
 intro dN s σ H xs us Q I r h;obtain⟨x,n,rfl,e,q⟩:=h;obtain⟨u,rfl,rx⟩:=lJ r;have hl:=qL;have hs:sizeLine=16777216:=sizeLine_eq;cases x with
 | str y=>obtain⟨t,rfl⟩:=rx;obtain⟨hy,e'⟩:y.length<=sizeLine/\n=y.length:=e;subst e';exact len_str (by omega) ⟨.int _,H,I.tok _,⟨_,rfl⟩,q⟩
 | byt y=>obtain⟨t,rfl⟩:=rx;obtain⟨hy,e'⟩:y.size<=sizeLine/\n=y.size:=e;subst e';exact W.len_bytes (by omega) ⟨.int _,H,I.tok _,⟨_,rfl⟩,q⟩
 | ref p=>
  cases rx;have e':(∃xs,jq X.K H p xs/\n=xs.length)\/∃xs,jR X.K H p xs/\n=xs.length:=e;rcases e' with⟨xs,hx,e'⟩ | ⟨xs,hx,e'⟩
  ·subst e';obtain⟨its,r',pl,hz⟩:=I.list hx;have jm:=r'.length;exact Calls.call_len_list pl.isList (by simp only[bC];omega) ⟨.int xs.length,H,I.tok _,⟨_,by simp only[bC];rw[jm]⟩,q⟩
  ·subst e';obtain⟨its,r',pl,hz⟩:=I.tuple hx;have jm:=r'.length;exact len_tuple pl (by simp only[bC];omega) ⟨.int xs.length,H,I.tok _,⟨_,by simp only[bC];rw[jm]⟩,q⟩
 | _=>exact (show False from e).elim
end
end L2
namespace L2
open PySem PySem.Spec PyProof.Rows
structure wQ(h:Heap)(x dx C:Addr)(mA:Str->Option Value):Prop where
 obj:h.get? x=some (W.instObj C dx)
 ns:h.Ns1 dx mA
 ne:dx≠x
theorem zq{h:Heap}{dx:Addr}{mA:Str->Option Value}(n:h.Ns1 dx mA):∃od,h.get? dx=some od/\∀name,W.lookIn name od=some (mA name):=by
 obtain⟨o,es,ep,ho,hd,hk,_,hm⟩:=n;refine⟨o,ho,λname=>?_⟩;have e:=hm name;unfold nsFind findBy at e;rw[<-Array.find?_toList] at e;unfold W.lookIn;rw[hd];dsimp only;split
 ·rename_i y q;rw[q] at e;exact congrArg some e
 ·rename_i q;rw[q] at e;have a:es.toList.any (·.refKey)=false:=by rw[List.any_eq_false];intro y hy;obtain⟨z,t,hkey⟩:=hk y (Array.mem_toList_iff.mp hy);simp[DictEntry.refKey,hkey]
  have a':¬es.toList.any (·.refKey)=true:=by rw[a];exact aG
  rw[aQ a'];exact congrArg some e
theorem wQ.look{h:Heap}{x dx C:Addr}{mA:Str->Option Value}(I:wQ h x dx C mA):∃od,W.InstAt h x (W.instObj C dx) C (some od)/\∀name,W.lookIn name od=some (mA name):=
 let ⟨od,ho,hl⟩:=zq I.ns
 ⟨od,⟨I.obj,rfl,rfl,ho⟩,hl⟩
section
variable {prog:Program}{w:World}{A:Around}{E:Value->Shared->Prop}{s:Shared}{K:W.Frag}{x dx C f:Addr}{mA:Str->Option Value}{name:Str}{v:Value}
theorem DL{expr:Bool}{Q:Value->Shared->Prop}(X:K.In s.heap)(I:wQ s.heap x dx C mA)(hg:W.plainGet K C name=true)(hh:W.hasDictIn K C=true)
  (ha:W.findIn K (.ref C) name=some none) (hv:mA name=some v) (hv':W.handedIn v=true) (h:Q v {s with toks:=s.toks+1}) :
  wpAny (model prog w) A (getAttr (.ref x) name expr) Q E s:=by
 obtain⟨od,J,hl⟩:=I.look;exact W.get_value X J (W.plainGet_of hg).1 (W.findObj_own hh ha rfl (by rw[hl,hv])) hv' h
theorem BW{pl:Sem Bool}{Q:Value×List Value->Shared->Prop}(X:K.In s.heap)(I:wQ s.heap x dx C mA)(hg:W.plainGet K C name=true)
  (hf:W.findIn K (.ref C) name=some (some (.ref f))) (ht:W.isFn K (.ref f)=true) (hv:mA name=none) (h:Q (.ref f,[.ref x]) s) :
  wpAny (model prog w) A (getMethod (.ref x) name pl) Q E s:=by
 obtain⟨od,J,hl⟩:=I.look;exact W.method_fn X J (W.plainGet_of hg).1 (W.plainGet_of hg).2 hf (beq_iff_eq.mp ht) (by show (W.lookIn name od).map (·.isSome)=some false;rw[hl,hv];rfl) h
theorem Cd{ns:List Str}{Q:Unit->Shared->Prop}(X:K.In s.heap)(I:wQ s.heap x dx C mA)
  (hs:W.findIn K (.ref C) "__setattr__" = some (some (.builtin "object.__setattr__"))) (hp:W.plainOver K C=true) (ht:W.takerIn K C name=some none) (hh:W.hasDictIn K C=true)
  (hw:PySem.Within mA ns) (hsz:ns.length<=sizeLine)
  (h:∀h',wQ h' x dx C (λy=>if y=name then some v else mA y)->Heap.SameBut dx s.heap h'->Q () {s with heap:=h',toks:=s.toks+2}) :
  wpAny (model prog w) A (setAttr (.ref x) name v) Q E s:=by
 obtain⟨od,J,hl⟩:=I.look;refine W.set_plain X J hs (W.osa_open (s:={s with toks:=s.toks+1}) (r:=none) X J hp ht λb=>?_);obtain⟨cd,hc,hd'⟩:=W.any_some hh;have hx:s.heap.get? x=some ⟨.ref C,some dx,.plain,#[]⟩:=I.obj;refine ao (ak (ao (ao (wpAny_loadPart hx (ao (W.Looks.here (s:={s with toks:=s.toks+1}) (W.looks_clsIn X hc) ?_))))));rw[hd'];refine ak (a:=some dx) (ao (ak (ao ?_)));refine wpAny_nsSet1 (s:={s with toks:=s.toks+1}) I.ns λh' hn2 hs2=>?_;obtain⟨oD,esD,epD,hoD,hdD,hcD⟩:=hn2.count (PySem.Within.cons name v hw);refine ao (wpAny_lookBehind hoD (by rw[hdD];exact pastItsLine_dict (aM hcD (by rw[ay];omega))) ?_);exact ak (h _ ⟨(hs2.2 _ (Ne.symm I.ne)).trans I.obj,hn2,I.ne⟩ hs2)
theorem A8{R:Result->Shared->Prop}{vs:List Value}{kw:List (Str×Value)}(X:K.In s.heap)(hm:W.makesIn K C=true)
  (hi:W.findIn K (.ref C) "__init__" = some (some (.ref f))) (hf:W.typeIn K (.ref f)=some (.type "function"))
  (h:codeAny (model prog w) (A.under (.builtin "type.__call__" ⟨.ref C::vs,kw⟩)) (.call (.ref f) ⟨.ref (s.heap.objs.size+1)::vs,kw⟩) (W.InitBack (s.heap.objs.size+1) R)
   {s with heap:=(s.heap.push W.emptyDict).push (W.instObj C s.heap.objs.size)}) :
  codeAny (model prog w) A (.call (.ref C) ⟨vs,kw⟩) R s:=by
 obtain⟨hh,g,d,t,os⟩:=s;exact W.make_core (W.makes_of X hm) (W.looks_findIn X hi) (λself=>W.bind_fn X self hf) (.inl rfl) h
end
def lg(f:Str)(v:V):List (Str×V)->List (Str×V)
 | []=>[(f,v)]
 | (g,x)::r=>if g=f then (g,v)::r else (g,x)::lg f v r
theorem ph(f g:Str)(v:V):∀fs:List (Str×V),(lg f v fs).lookup g=if g=f then some v else fs.lookup g
 | []=>by
  show List.lookup g [(f,v)]=_;by_cases h:g=f
  ·have hb:(g == f)=true:=beq_iff_eq.mpr h;simp only[List.lookup,hb,aP h]
  ·have hb:(g == f)=false:=beq_eq_false_iff_ne.mpr h;simp only[List.lookup,hb,aQ h]
 | (k,x)::r=>by
  have ih:=ph f g v r;rw[show lg f v ((k,x)::r)=(if k=f then (k,v)::r else (k,x)::lg f v r) from rfl];by_cases hk:k=f
  ·rw[aP hk];by_cases h:g=k
   ·have hb:(g == k)=true:=beq_iff_eq.mpr h;simp only[List.lookup,hb,aP (h.trans hk)]
   ·have hb:(g == k)=false:=beq_eq_false_iff_ne.mpr h;simp only[List.lookup,hb,aQ (λe:g=f=>h (e.trans hk.symm))]
  ·rw[aQ hk];by_cases h:g=k
   ·have hb:(g == k)=true:=beq_iff_eq.mpr h;simp only[List.lookup,hb,aQ (λe:g=f=>hk (h.symm.trans e))]
   ·have hb:(g == k)=false:=beq_eq_false_iff_ne.mpr h;simp only[List.lookup,hb];exact ih
theorem oG(f:Str)(v:V):∀fs:List (Str×V),f∈(lg f v fs).map (·.1)/\∀g,g∈fs.map (·.1)->g∈(lg f v fs).map (·.1)
 | []=>⟨by simp[lg],λg h=>by simp at h⟩
 | (k,x)::r=>by
  obtain⟨i1,i2⟩:=oG f v r;rw[show lg f v ((k,x)::r)=(if k=f then (k,v)::r else (k,x)::lg f v r) from rfl];by_cases hk:k=f
  ·rw[aP hk];subst hk;exact⟨by simp,λg h=>by simpa using h⟩
  ·rw[aQ hk];refine⟨?_,λg h=>?_⟩
   ·rw[bD];exact bj _ i1
   ·rw[bD] at h ⊢;rcases aE.mp h with e | e
    ·exact aE.mpr (.inl e)
    ·exact bj _ (i2 g e)
theorem pb(f:Str)(v:V):∀fs:List (Str×V),(lg f v fs).length<=fs.length+1
 | []=>by simp[lg]
 | (k,x)::r=>by
  have ih:=pb f v r;rw[show lg f v ((k,x)::r)=(if k=f then (k,v)::r else (k,x)::lg f v r) from rfl];by_cases hk:k=f
  ·rw[aP hk,ay,ay];omega
  ·rw[aQ hk,ay,ay];omega
theorem rE.some_of{v:V}{o:Option Value}(r:rE (some v) o):∃u,o=some u/\fM v u:=by
 cases o with
 | none=>exact (show False from r).elim
 | some u=>exact⟨u,rfl,r⟩
theorem rE.none_of{o:Option Value}(r:rE none o):o=none:=by
 cases o with
 | none=>rfl
 | some u=>exact (show False from r).elim
theorem zl{v:V}{u:Value}(r:fM v u):W.handedIn u=true:=by
 cases v with
 | non=>cases (show u=Value.none from r);rfl
 | bl b=>cases (show u=Value.bool b from r);rfl
 | int i=>obtain⟨t,e⟩:=(show ∃t,u=Value.int i t from r);cases e;rfl
 | str x=>obtain⟨t,e⟩:=(show ∃t,u=Value.str x t from r);cases e;rfl
 | byt b=>obtain⟨t,e⟩:=(show ∃t,u=Value.bytes b t from r);cases e;rfl
 | flt b=>obtain⟨t,e⟩:=(show ∃t,u=Value.float b t from r);cases e;rfl
 | ref a=>cases (show u=Value.ref a from r);rfl
 | ty n=>cases (show u=Value.type n from r);rfl
section
variable {P:Program}{w:World}{H H':Hp}{h h':Heap}{a C dx:Addr}{fs fs':List (Str×V)}
theorem pT(hok:oA P w H h)(e:H a=some (.ins C dx fs)):∃mA,wQ h a dx C mA/\(∀f,rE (fs.lookup f) (mA f))/\PySem.Within mA (fs.map (·.1))/\fs.length<=1000/\H dx=some (.own a):=by obtain⟨d,z,ne,ob,mA,n,r,q⟩:=(show ig P w H h a (.ins C dx fs) from hok a _ e);exact⟨mA,⟨ob,n,ne⟩,r,q,z,d⟩
end
structure sJ(K:W.Frag)(C:Addr):Prop where
 pg:W.plainGet K C Str.empty=true
 hd:W.hasDictIn K C=true
 po:W.plainOver K C=true
 sa:W.findIn K (.ref C) "__setattr__" = some (some (.builtin "object.__setattr__"))
theorem sJ.get{K:W.Frag}{C:Addr}(c:sJ K C)(f:Str):W.plainGet K C f=true:=c.pg
def jg(K:W.Frag)(C:Addr)(f:Str):Prop:=W.findIn K (.ref C) f=some none
theorem jg.taker{K:W.Frag}{C:Addr}{f:Str}(n:jg K C f):W.takerIn K C f=some none:=by unfold W.takerIn;rw[show W.findIn K (.ref C) f=some none from n];rfl
structure Eh(K:W.Frag)(C:Addr)(m:Str)(f:Addr):Prop where
 at_:W.findIn K (.ref C) m=some (some (.ref f))
 fn:W.isFn K (.ref f)=true
 kp:W.keepIn K (.ref f)=true
section
variable {X:Cx}{dN:List (Addr×Obj)}{σ:St}{H:Hp}{s:Shared}{a C dx:Addr}{fs:List (Str×V)}{f:Str}{v:V}{A:Around}{E:Value->Shared->Prop}
theorem wa{b:Bool}{Q:Value->Shared->Prop}(I:eJ X dN σ H s)(e:H a=some (.ins C dx fs))(c:sJ X.K C)(n:jg X.K C f)(l:fs.lookup f=some v)
  (h:∀u s',eJ X dN σ H s'->fM v u->Q u s'):wpAny (model X.prog X.w) A (getAttr (.ref a) f b) Q E s:=by
 obtain⟨mA,O,r,_,_,_⟩:=pT I.hok e;obtain⟨u,hu,ru⟩:=rE.some_of (v:=v) (o:=mA f) (by rw[<-l];exact r f);exact DL I.kIn O (c.get f) c.hd n hu (zl ru) (h u _ (I.tok _) ru)
theorem wW{m:Str}{g:Addr}{pl:Sem Bool}{Q:Value×List Value->Shared->Prop}(I:eJ X dN σ H s)(e:H a=some (.ins C dx fs))(c:sJ X.K C)(k:Eh X.K C m g)(l:fs.lookup m=none)
  (h:Q (.ref g,[.ref a]) s):wpAny (model X.prog X.w) A (getMethod (.ref a) m pl) Q E s:=by
 obtain⟨mA,O,r,_,_,_⟩:=pT I.hok e;have hn:mA m=none:=rE.none_of (by rw[<-l];exact r m);exact BW I.kIn O (c.get m) k.at_ k.fn hn h
theorem wu{y:V}{u:Value}{Q:Unit->Shared->Prop}(I:eJ X dN σ H s)(e:H a=some (.ins C dx fs))(c:sJ X.K C)(n:jg X.K C f)(hl:fs.length<1000)(ry:fM y u)
  (h:∀s',eJ X dN σ (gL H a (.ins C dx (lg f y fs))) s'->Q () s'):wpAny (model X.prog X.w) A (setAttr (.ref a) f u) Q E s:=by
 obtain⟨mA,O,r,wi,_,ho⟩:=pT I.hok e;have hz:(fs.map (·.1)).length<=sizeLine:=by rw[aw,sizeLine_eq];omega
 refine Cd I.kIn O c.sa c.po n.taker c.hd wi hz λh' O' sb=>h _ ?_;have hd:∃o,h'.get? dx=some o:=let ⟨o,_,_,e',_⟩:=O'.ns;⟨o,e'⟩;refine I.write (x:=a) (e:=dx) (by rw[e];exact True.intro) (.inr ho) (λb q hb z=>(sb.2 b hb).trans z) hd ?_;refine⟨by rw[eD O.ne];exact ho,?_,O.ne,O'.obj,_,O'.ns,λg=>?_,λg hg=>?_⟩
 ·have:=pb f y fs;omega
 ·show rE ((lg f y fs).lookup g) (if g=f then some u else mA g);rw[ph];by_cases q:g=f
  ·rw[aP q,aP q];exact ry
  ·rw[aQ q,aQ q];exact r g
 ·by_cases q:g=f
  ·rw[q];exact (oG f y fs).1
  ·refine (oG f y fs).2 g (wi g λz=>hg ?_);show (if g=f then some u else mA g)=none;rw[aQ q];exact z
theorem eJ.made(I:eJ X dN σ H s):eJ X dN σ (gL (gL H s.heap.objs.size (.own (s.heap.objs.size+1))) (s.heap.objs.size+1) (.ins C s.heap.objs.size []))
  {s with heap:=(s.heap.push W.emptyDict).push (W.instObj C s.heap.objs.size)}:=by
 have e1:(s.heap.push W.emptyDict).get? s.heap.objs.size=some W.emptyDict:=ar s.heap rfl;have e2:((s.heap.push W.emptyDict).push (W.instObj C s.heap.objs.size)).get? (s.heap.objs.size+1)=some (W.instObj C s.heap.objs.size):=by have:=ar (s.heap.push W.emptyDict) (o:=W.instObj C s.heap.objs.size) rfl;rwa [Heap.size_push] at this
 have e3:(s.heap.push W.emptyDict).Ns s.heap.objs.size (λ_=>none):=⟨W.emptyDict,#[],_,e1,rfl,(λe he=>absurd he (by simp)),λ_=>rfl⟩;have I1:=I.laid (a:=s.heap.objs.size) (o:=.own (s.heap.objs.size+1)) (h':=s.heap.push W.emptyDict) (t':=s.toks) (λb u q=>ae _ q) (aJ _) ⟨_,e1⟩;refine I1.laid (a:=s.heap.objs.size+1) (o:=.ins C s.heap.objs.size []) (t':=s.toks) (λb u q=>ae _ q) (Nat.le_of_eq (Heap.size_push _ _)) ?_;have ne:s.heap.objs.size≠s.heap.objs.size+1:=aL (bE _);refine⟨by rw[eD ne,eC],bF _,ne,e2,λ_=>none,(Heap.Ns1.of_empty e3).at λo q=>ae _ q,λ_=>True.intro,λy hy=>absurd rfl hy⟩
theorem Ef{prog:Program}{w:World}{env:Env}{e:Expr}{f:Str}{pos:Pos}{s:Shared}{Q:Value->Shared->Prop}(hb:attributeBase e f env (eval e env)=eval e env)
  (h:wpAny (model prog w) A (eval e env) (λo s₁=>wpAny (model prog w) A (getAttr o f true) Q E s₁) E s):wpAny (model prog w) A (eval (.Attribute e f pos) env) Q E s:=
 Attribute_any_ h (by rw[arm_eval_Attribute,hb])
end
def FW(K:W.Frag)(ta:TE)(f:Str):TE:=λσ H Q=>ta σ H λx H1=>∃a C dx fs v,x=.ref a/\H1 a=some (.ins C dx fs)/\sJ K C/\jg K C f/\fs.lookup f=some v/\Q v H1
def E8(K:W.Frag)(ta tv:TE)(f:Str):TS:=λD σ H=>tv σ H λy H1=>ta σ H1 λx H2=>∃a C dx fs,x=.ref a/\H2 a=some (.ins C dx fs)/\sJ K C/\jg K C f/\fs.length<1000/\
 D.nx σ (gL H2 a (.ins C dx (lg f y fs)))
section
variable {X:Cx}{o e value:Expr}{f:Str}{pos pos' tpos:Pos}{ta tv:TE}
theorem Gm(he:PE X e ta)(hb:attributeBase e f X.env (eval e X.env)=eval e X.env):PE X (.Attribute e f pos) (FW X.K ta f):=by intro dN s σ H Q I h;refine Ef hb (g9 (he dN s σ H _ I h) λu s1 ⟨x,H1,I1,rx,a,C,dx,fs,v,ex,ea,c,n,l,q⟩=>?_);subst ex;obtain rfl:u=Value.ref a:=rx;exact wa I1 ea c n l λu' s2 I2 ru=>⟨v,H1,I2,ru,q⟩
theorem AE(ha:PE X o ta)(hv:PE X value tv)(hs:swapsWith value (some (.Attribute o f pos')) pos.line X.env=pure false):PS X (.Assign [.Attribute o f pos'] value pos) (E8 X.K ta tv f):=by intro dN s σ H D I h;refine plainObj_wpAny_Assign_Attribute (g9 (hv dN s σ H _ I h) λu s1 ⟨y,H1,I1,ry,q⟩=>g9 (ha dN s1 σ H1 _ I1 q) λov s2 ⟨x,H2,I2,rx,a,C,dx,fs,ex,ea,c,n,l,q2⟩=>?_) hs;subst ex;obtain rfl:ov=Value.ref a:=rx;exact wu I2 ea c n l ry λs3 I3=>⟨σ,_,I3,q2⟩
end
section
variable {X:Cx}{dN:List (Addr×Obj)}{σ:St}{H:Hp}{s:Shared}{A:Around}{E:Value->Shared->Prop}{Q:Value->Shared->Prop}{c:Value}{b:Bool}
inductive lY(K:W.Frag)(H:Hp):V->Value->Prop where
 | non:lY K H .non (.type "NoneType")
 | bl (x:Bool):lY K H (.bl x) (.type "bool")
 | int (i:Int):lY K H (.int i) (.type "int")
 | str (x:Str):lY K H (.str x) (.type "str")
 | flt (x:UInt64):lY K H (.flt x) (.type "float")
 | lst {a:Addr} {xs:List V} (e:H a=some (.lst xs)):lY K H (.ref a) (.type "list")
 | frz {a:Addr} {o:Obj} {xs:List V} (e:H a=some (.frz o (.lst xs))):lY K H (.ref a) (.type "list")
 | tup {a:Addr} {xs:List V} (e:H a=some (.tup xs)):lY K H (.ref a) (.type "tuple")
 | dK {a:Addr} {kvs:List (pV×V)} (e:H a=some (.dK kvs)):lY K H (.ref a) (.type "dict")
 | dT {a:Addr} {kvs:List (List pV×V)} (e:H a=some (.dT kvs)):lY K H (.ref a) (.type "dict")
 | ins {a C dx:Addr} {fs:List (Str×V)} (e:H a=some (.ins C dx fs)) (cl:sJ K C) (ha:W.findIn K (.ref C) "__class__" = some (some (.builtin "object.__class__")))
   (hn:W.specialIn K (.builtin "object.__class__") "__get__" = some (some (.builtin "getset_descriptor.__get__"))) (htk:W.takesIn K (.builtin "object.__class__")=some true)
   (hm:W.mroIn K C (.type "object")=some true):lY K H (.ref a) (.ref C)
theorem yL{x:V}{u t:Value}(I:eJ X dN σ H s)(rx:fM x u)(ty:lY X.K H x t)(e:W.kitOne X.K t c=some b)(h:∀tk,Q (.bool b) {s with toks:=tk}) :
  wpAny (model X.prog X.w) A (call (.builtin "isinstance") [u,c]) Q E s:=by
 cases ty with
 | non=>cases (show u=Value.none from rx);exact W.kia_one W.kitx_none I.kIn True.intro e (λz=>nomatch z) h
 | bl y=>cases (show u=Value.bool y from rx);exact W.kia_one W.kitx_bool I.kIn True.intro e (λz=>nomatch z) h
 | int i=>obtain⟨t,q⟩:=(show ∃t,u=Value.int i t from rx);cases q;exact W.kia_one W.kitx_int I.kIn True.intro e (λz=>nomatch z) h
 | str y=>obtain⟨t,q⟩:=(show ∃t,u=Value.str y t from rx);cases q;exact W.kia_one W.kitx_str I.kIn True.intro e (λz=>nomatch z) h
 | flt y=>obtain⟨t,q⟩:=(show ∃t,u=Value.float y t from rx);cases q;exact W.kia_one W.kitx_float I.kIn True.intro e (λz=>nomatch z) h
 | @lst a xs ea=>cases (show u=Value.ref a from rx);obtain⟨_,_,n,_,h1⟩:=(show ig X.prog X.w H s.heap a (.lst xs) from I.hok a _ ea);exact W.kia_one W.kitx_list I.kIn ⟨_,h1,rfl⟩ e (λz=>nomatch z) h
 | @frz a ob xs ea=>cases (show u=Value.ref a from rx);obtain⟨_,_,_,n,_,h1⟩:=(show ig X.prog X.w H s.heap a (.frz ob (.lst xs)) from I.hok a _ ea);exact W.kia_one W.kitx_list I.kIn ⟨_,h1,rfl⟩ e (λz=>nomatch z) h
 | @tup a xs ea=>cases (show u=Value.ref a from rx);obtain⟨_,_,_,p⟩:=(show ig X.prog X.w H s.heap a (.tup xs) from I.hok a _ ea);obtain⟨o,h1,h2,_⟩:=p;exact W.kia_one W.kitx_tuple I.kIn ⟨o,h1,h2⟩ e (λz=>nomatch z) h
 | @dK a kvs ea=>cases (show u=Value.ref a from rx);obtain⟨_,_,vs,_,p⟩:=(show ig X.prog X.w H s.heap a (.dK kvs) from I.hok a _ ea);obtain⟨o,es,ep,h1,h2,_⟩:=p;exact W.kia_one W.kitx_dict I.kIn ⟨o,h1,h2.1⟩ e (λz=>nomatch z) h
 | @dT a kvs ea=>cases (show u=Value.ref a from rx);obtain⟨_,_,xs,_,o,es,ep,h1,h2,_⟩:=(show ig X.prog X.w H s.heap a (.dT kvs) from I.hok a _ ea);exact W.kia_one W.kitx_dict I.kIn ⟨o,h1,h2.1⟩ e (λz=>nomatch z) h
 | @ins a C dx fs ea cl ha hn htk hm=>cases (show u=Value.ref a from rx);obtain⟨mA,O,_⟩:=pT I.hok ea;obtain⟨od,J,_⟩:=O.look;exact W.kia_one (W.kitx_own (cl.get _) cl.hd ha hn htk hm) I.kIn J e (λz=>nomatch z) h
end
end L2
namespace L2
open PySem PySem.Spec PyProof.Rows
structure gh(k:Nat)(A:Around):Prop where
 hd:A.handled=none
 dp:A.depth+3*k+5<recursionLimit
 un:A.units+16*k+200<cLine
theorem gh.mono{j k:Nat}{A:Around}(r:gh k A)(h:j<=k):gh j A:=⟨r.hd,by have:=r.dp;omega,by have:=r.un;omega⟩
theorem gh.deeper{k:Nat}{A:Around}(r:gh (k+1) A)(env:Env):gh k (A.deeper env):=⟨r.hd,by have:=r.dp;show A.depth+1+3*k+5<_;omega,by have:=r.un;show A.units+3+16*k+200<_;omega⟩
theorem xE{A:Around}{C:Addr}{us:List Value}{kw:List (Str×Value)}:(A.under (.builtin "type.__call__" ⟨.ref C::us,kw⟩)).depth=A.depth+1:=by first | rfl | simp[Around.under,Code.weight,Code.isCreation,Code.isGuard,Code.isCaller,Code.frames,Code.isFrame,guardIds]
theorem xp{A:Around}{C:Addr}{us:List Value}{kw:List (Str×Value)}:(A.under (.builtin "type.__call__" ⟨.ref C::us,kw⟩)).units=A.units+1:=by first | rfl | simp[Around.under,Code.cUnits,Code.frames,Code.isFrame]
theorem gh.make{k:Nat}{A:Around}(r:gh (k+1) A)(C:Addr)(us:List Value)(kw:List (Str×Value)):gh k (A.under (.builtin "type.__call__" ⟨.ref C::us,kw⟩)):=⟨r.hd,by have:=r.dp;rw[xE];omega,by have:=r.un;rw[xp];omega⟩
theorem gh.depth{k:Nat}{A:Around}(r:gh k A):A.depth<recursionLimit:=by have:=r.dp;omega
def nQ:TA:=λ_ H Q=>Q [] H
def km(ta:TE)(tr:TA):TA:=λσ H Q=>ta σ H λx H1=>tr σ H1 λxs H2=>Q (x::xs) H2
section
variable {X:Cx}{e:Expr}{es:List Expr}{te:TE}{t:TA}{pos:Pos}
theorem lU:PA X [] nQ:=λ_ _ _ _ H Q I h=>Calls.spliced_nil ⟨[],H,I,.nil,h⟩
theorem jE(ha:PE X e te)(hr:PA X es t)(hs:starEach (e::es) X.env=(false,eval e X.env)::starEach es X.env:=by rfl):PA X (e::es) (km te t):=by intro pos dN s σ H Q I h;rw[hs];show wpAny _ _ (spliced ((false,eval e X.env)::backTo pos (starEach es X.env))) _ _ s;refine Calls.spliced_cons (g9 (ha dN s σ H _ I h) λu s1 ⟨x,H1,I1,r1,q1⟩=>?_);exact g9 (hr pos dN s1 σ H1 _ I1 q1) λus s2 ⟨xs,H2,I2,r2,q2⟩=>⟨x::xs,H2,I2,.cons r1 r2,q2⟩
def Ar(t:TA):TE:=λσ H Q=>t σ H λxs H1=>xs.length<=sizeLine/\∀p,H1 p=none->Q (.ref p) (gL H1 p (.tup xs))
def Gp(t:TA):TE:=λσ H Q=>t σ H λxs H1=>xs.length<=sizeLine/\∀p,H1 p=none->Q (.ref p) (gL H1 p (.lst xs))
theorem Aj{x1}(h:PA X es t):PE X (.Tuple es x1 pos) (Ar t):=by intro dN s σ H Q I hq;refine wpAny_Tuple_spliced (g9 (h pos dN s σ H _ I hq) λus s1 ⟨xs,H1,I1,r,z,q⟩=>⟨by rw[<-r.length];exact z,?_⟩);have hf:H1 s1.heap.objs.size=none:=I1.hok.fresh (aJ _);refine⟨.ref s1.heap.objs.size,gL H1 s1.heap.objs.size (.tup xs),I1.laid (t':=s1.toks) (λb u e=>ae _ e) (aJ _) ?_,rfl,q _ hf⟩;exact⟨z,us,r,⟨_,ar _ rfl,rfl,_,rfl⟩⟩
theorem GI(h:PA X es t):PE X (.List es pos) (Gp t):=by intro dN s σ H Q I hq;refine wpAny_List_spliced (g9 (h pos dN s σ H _ I hq) λus s1 ⟨xs,H1,I1,r,z,q⟩=>⟨by rw[<-r.length];exact z,?_⟩);have hf:H1 s1.heap.objs.size=none:=I1.hok.fresh (aJ _);refine⟨.ref s1.heap.objs.size,gL H1 s1.heap.objs.size (.lst xs),I1.laid (t':=s1.toks) (λb u e=>ae _ e) (aJ _) ?_,rfl,q _ hf⟩;exact⟨z,us,0,r,ar _ rfl⟩
end
abbrev Sp:=List V->Hp->VK->XK->Prop
abbrev zB:=List Env->Hp->Shared->XK->Value->Shared->Prop
structure vV(P:Program)(w:World)(K:W.Frag)(mg:Str->Option Value)(base:Heap)(A:Around)(outer:List Env)(s:Shared)(H:Hp):Prop where
 frames:A.frames=some outer
 mod:Mod K mg base
 bs:∀b o,base.get? b=some o->s.heap.get? b=some o/\H b=none
 bsz:base.objs.size<=s.heap.objs.size
 funs:s.heap.FunFrames base outer
 frf:∀b∈zG outer,H b=none
 hok:oA P w H s.heap
 bare:AllBare s.gens
def CE(outer:List Env)(P:Program)(w:World)(H:Hp)(s:Shared)(Q:VK)(u:Value)(s':Shared):Prop:=∃v H',s'.os=s.os/\AllBare s'.gens/\Un (zG outer) [] H H' s.heap s'.heap/\oA P w H' s'.heap/\fM v u/\Q v H'
def CR(CX:zB)(outer:List Env)(P:Program)(w:World)(H:Hp)(s:Shared)(Q:VK)(E:XK)(r:Result)(s':Shared):Prop:=
 match r with
 | .ok (.ret u)=>CE outer P w H s Q u s'
 | .ok _=>False
 | .error e=>CX outer H s E e s'
structure j6(P:Program)(w:World)(K:W.Frag)(mg:Str->Option Value)(base:Heap)(CX:zB)(k:Nat)(f:Addr)(fd:FuncData)(ps:List Str)(sp:Sp):Prop where
 len:∀vs H Q E,sp vs H Q E->vs.length=ps.length
 run:∀(A:Around) (outer:List Env) (s:Shared) (H:Hp) (args:Args) (us:List Value) (vs:List V) (Q:VK) (E:XK),gh k A->vV P w K mg base A outer s H->BindsTo s fd args (ps.zip us)->eU vs us->sp vs H Q E->
  codeAny (model P w) A (.call (.ref f) args) (CR CX outer P w H s Q E) s
theorem j6.mono{P:Program}{w:World}{K:W.Frag}{mg:Str->Option Value}{base:Heap}{CX:zB}{j k:Nat}{f:Addr}{fd:FuncData}{ps:List Str}{sp:Sp}(F:j6 P w K mg base CX j f fd ps sp)(h:j<=k) :
  j6 P w K mg base CX k f fd ps sp:=⟨F.len,λA outer s H args us vs Q E hr=>F.run A outer s H args us vs Q E (hr.mono h)⟩
theorem j6.imp{P:Program}{w:World}{K:W.Frag}{mg:Str->Option Value}{base:Heap}{CX:zB}{k:Nat}{f:Addr}{fd:FuncData}{ps:List Str}{sp sp':Sp}(F:j6 P w K mg base CX k f fd ps sp)
  (h:∀vs H Q E,sp' vs H Q E->sp vs H Q E):j6 P w K mg base CX k f fd ps sp':=
 ⟨λvs H Q E q=>F.len vs H Q E (h _ _ _ _ q),λA outer s H args us vs Q E hr he hb hv hs=>F.run A outer s H args us vs Q E hr he hb hv (h _ _ _ _ hs)⟩
theorem vV.make{P:Program}{w:World}{K:W.Frag}{mg:Str->Option Value}{base:Heap}{A:Around}{outer:List Env}{s:Shared}{H:Hp}(e:vV P w K mg base A outer s H)(C:Addr)(us:List Value)(kw:List (Str×Value)) :
  vV P w K mg base (A.under (.builtin "type.__call__" ⟨.ref C::us,kw⟩)) outer s H:=⟨by first | exact e.frames | (simpa[Around.under,Code.envs,Code.isFrame,pushEnvs] using e.frames),e.mod,e.bs,e.bsz,e.funs,e.frf,e.hok,e.bare⟩
section
variable {X:Cx}{dN:List (Addr×Obj)}{σ:St}{H:Hp}{s s':Shared}
theorem eJ.env0(I:eJ X dN σ H s):vV X.prog X.w X.K X.mg X.base X.A X.stack s H:=⟨I.ok.frames,I.ok.mod,I.bs,aM I.ok.bsz I.sz,I.stack,I.stkFree,I.hok,I.bare⟩
theorem eJ.after{Q:VK}{u:Value}(I:eJ X dN σ H s)(h:CE X.stack X.prog X.w H s Q u s'):EP X dN σ Q u s':=by obtain⟨v,H',os,bare,un,hok,r,q⟩:=h;obtain⟨hh,g,d,t,os'⟩:=s';obtain rfl:os'=s.os:=os;exact⟨v,H',I.call (h':=hh) (g':=g) (d':=d) (t':=t) (ch:=[]) un hok bare (λb z=>absurd z (by simp)),r,q⟩
end
def qY(sp:Sp)(dvs:List V)(E:XK)(t:TA):TE:=λσ H Q=>t σ H λvs H1=>sp (vs++dvs) H1 Q E
def sC(C:Addr)(m:Str)(sp:Sp)(dvs:List V)(E:XK)(ta:TE)(t:TA):TE:=λσ H Q=>ta σ H λx H1=>∃a dx fs,x=.ref a/\H1 a=some (.ins C dx fs)/\fs.lookup m=none/\
 t σ H1 λvs H2=>sp (x::(vs++dvs)) H2 Q E
def xZ(C:Addr)(sp:Sp)(dvs:List V)(E:XK)(t:TA):TE:=λσ H Q=>t σ H λvs H1=>∀x dx,H1 x=none->H1 dx=none->dx≠x->
 sp (.ref x::(vs++dvs)) (gL (gL H1 dx (.own x)) x (.ins C dx [])) (λv H2=>v=.non/\Q (.ref x) H2) E
def lW(K:W.Frag)(fd:FuncData)(ps:List Str)(ds:List Value):Prop:=∀(s:Shared) (us:List Value),K.In s.heap->(us++ds).length=ps.length->BindsTo s fd ⟨us,[]⟩ (ps.zip (us++ds))
theorem lW.all{K:W.Frag}{fd:FuncData}{ps:List Str}(h:∀us:List Value,us.length=ps.length->bindArgs fd ⟨us,[]⟩=pure (ps.zip us)):lW K fd ps []:=λs us _ hl=>by rw[bG] at hl ⊢;exact .of_eq (h us hl)
def oC(CX:zB)(X:Cx)(E:XK):Prop:=∀(dN:List (Addr×Obj)) (σ:St) (H:Hp) (s:Shared) (e:Value) (s':Shared),eJ X dN σ H s->CX X.stack H s E e s'->X.xe e s'
section
variable {X:Cx}{CX:zB}{k:Nat}{f C:Addr}{fd:FuncData}{ps:List Str}{sp:Sp}{dvs:List V}{ds:List Value}{E:XK}{x m:Str}{p pos apos:Pos}{e o:Expr}{es:List Expr}{ta:TE}{t:TA}
theorem BF{dN:List (Addr×Obj)}{σ:St}{H:Hp}{s:Shared}{Q:VK}{us:List Value}{vs:List V}(F:j6 X.prog X.w X.K X.mg X.base CX k f fd ps sp)(hr:gh k X.A)(hb:lW X.K fd ps ds)(hd:eU dvs ds)(hx:oC CX X E)
  (I:eJ X dN σ H s) (r:eU vs us) (h:sp (vs++dvs) H Q E):wpAny (model X.prog X.w) X.A (call (.ref f) us) (EP X dN σ Q) X.xe s:=by
 have r2:eU (vs++dvs) (us++ds):=r.append hd;have hl:(us++ds).length=ps.length:=by rw[<-r2.length];exact F.len _ _ _ _ h
 refine wpAny_call (codeAny_mono (F.run X.A X.stack s H ⟨us,[]⟩ (us++ds) (vs++dvs) Q E hr I.env0 (hb s us I.kIn hl) r2 h) λr s' hq=>?_);cases r with
 | error e=>exact hx dN σ H s e s' I hq
 | ok fl=>
  cases fl with
  | ret u=>exact I.after hq
  | next=>exact False.elim hq
  | brk=>exact False.elim hq
  | cont=>exact False.elim hq
theorem CM(F:j6 X.prog X.w X.K X.mg X.base CX k f fd ps sp)(hr:gh k X.A)(hg:Gl X x)(hm:X.mg x=some (.ref f))(hk:W.keepIn X.K (.ref f)=true)(hb:lW X.K fd ps ds)(hd:eU dvs ds)(hx:oC CX X E)
  (ha:PA X (e::es) t) (hdb:(x == ("__debug__" : Str))=false:=by decide) (he:starEach (e::es) X.env=(false,eval e X.env)::starEach es X.env:=by rfl) (hpl:(backTo pos (starEach es X.env)).any (·.1)=false:=by rfl) :
  PE X (.Call (.Name x p) (e::es) [] pos) (qY sp dvs E t):=by
 intro dN s σ H Q I h;refine wpAny_Call_Name_kw (tz I hg hm ?_ hdb);refine W.callWith_K (h₀:=X.base) I.ok.mod.kin hk (g9 (ha pos dN s σ H _ I h) λus s1 ⟨vs,H1,I1,r,q⟩=>⟨I1.kIn,?_⟩) he hpl;exact BF F hr hb hd hx I1 r q
theorem A2{pl:Sem Bool}(he:PE X o ta)(c:sJ X.K C)(hm:Eh X.K C m f)(F:j6 X.prog X.w X.K X.mg X.base CX k f fd ps sp)(hr:gh k X.A)(hb:lW X.K fd ps ds)(hd:eU dvs ds)(hx:oC CX X E)
  (ht:eval (.Call (.Attribute o m apos) [] [] pos) X.env=(do
   let ov <-eval o X.env
   standAt apos.atName
   let (f,first) <-holding [ov] (getMethod ov m pl)
   callWith pos f first (backTo pos (starEach [] X.env)) (backToKw pos (keywordEach [] X.env))):=by rfl) :
  PE X (.Call (.Attribute o m apos) [] [] pos) (sC C m sp dvs E ta nQ):=by
 intro dN s σ H Q I h;refine W.methodCall_KW (pl:=pl) (g9 (he dN s σ H _ I h) λu s1 ⟨x,H1,I1,rx,a,dx,fs,ex,ea,l,q⟩=>?_) ht;subst ex;obtain rfl:u=Value.ref a:=rx;refine wW I1 ea c hm l ?_;exact W.callWith_K0 (first:=[.ref a]) I1.kIn hm.kp (BF (us:=[.ref a]) (vs:=[.ref a]) F hr hb hd hx I1 (.cons rfl .nil) q)
structure Mk(K:W.Frag)(C f:Addr):Prop where
 makes:W.makesIn K C=true
 init:W.findIn K (.ref C) "__init__" = some (some (.ref f))
 fn:W.isFn K (.ref f)=true
 kp:W.keepIn K (.ref C)=true
theorem BQ{dN:List (Addr×Obj)}{σ:St}{H:Hp}{s:Shared}{Q:VK}{us:List Value}{vs:List V}(M:Mk X.K C f)(F:j6 X.prog X.w X.K X.mg X.base CX k f fd ps sp)(hr:gh (k+1) X.A)(hb:lW X.K fd ps ds)(hd:eU dvs ds)
  (hx:oC CX X E) (I:eJ X dN σ H s) (r:eU vs us)
  (h:∀x dx,H x=none->H dx=none->dx≠x->sp (.ref x::(vs++dvs)) (gL (gL H dx (.own x)) x (.ins C dx [])) (λv H2=>v=.non/\Q (.ref x) H2) E) :
  wpAny (model X.prog X.w) X.A (call (.ref C) us) (EP X dN σ Q) X.xe s:=by
 have hq:=h (s.heap.objs.size+1) s.heap.objs.size (I.hok.fresh (bH _)) (I.hok.fresh (aJ _)) (aL (bE _));have I2:=eJ.made (C:=C) I;have r2:eU (V.ref (s.heap.objs.size+1)::(vs++dvs)) (Value.ref (s.heap.objs.size+1)::(us++ds)):=.cons rfl (r.append hd);have hl:(Value.ref (s.heap.objs.size+1)::us++ds).length=ps.length:=by have e:=r2.length;rw[F.len _ _ _ _ hq] at e;exact e.symm
 refine wpAny_call (A8 (f:=f) I.kIn M.makes M.init (beq_iff_eq.mp M.fn) (codeAny_mono (F.run _ X.stack _ _ ⟨Value.ref (s.heap.objs.size+1)::us,[]⟩ (Value.ref (s.heap.objs.size+1)::(us++ds)) _ _ E (hr.make C us [])
  (I2.env0.make C us []) (hb _ (Value.ref (s.heap.objs.size+1)::us) I2.kIn hl) r2 hq) λr s' hq'=>?_))
 cases r with
 | error e=>exact hx dN σ _ _ e s' I2 hq'
 | ok fl=>
  cases fl with
  | ret u=>obtain⟨v,H',I3,rv,ev,q3⟩:=I2.after hq';subst ev;exact⟨rv,⟨V.ref (s.heap.objs.size+1),H',I3,rfl,q3⟩⟩
  | next=>exact False.elim hq'
  | brk=>exact False.elim hq'
  | cont=>exact False.elim hq'
theorem CW(M:Mk X.K C f)(F:j6 X.prog X.w X.K X.mg X.base CX k f fd ps sp)(hr:gh (k+1) X.A)(hg:Gl X x)(hm:X.mg x=some (.ref C))(hb:lW X.K fd ps ds)(hd:eU dvs ds)(hx:oC CX X E)
  (ha:PA X (e::es) t) (hdb:(x == ("__debug__" : Str))=false:=by decide) (he:starEach (e::es) X.env=(false,eval e X.env)::starEach es X.env:=by rfl) (hpl:(backTo pos (starEach es X.env)).any (·.1)=false:=by rfl) :
  PE X (.Call (.Name x p) (e::es) [] pos) (xZ C sp dvs E t):=by
 intro dN s σ H Q I h;refine wpAny_Call_Name_kw (tz I hg hm ?_ hdb);refine W.callWith_K (h₀:=X.base) I.ok.mod.kin M.kp (g9 (ha pos dN s σ H _ I h) λus s1 ⟨vs,H1,I1,r,q⟩=>⟨I1.kIn,?_⟩) he hpl;exact BQ M F hr hb hd hx I1 r q
end
section
variable {X:Cx}{CX:zB}{k:Nat}{f C:Addr}{fd:FuncData}{ps ks:List Str}{sp:Sp}{E:XK}{x m:Str}{p pos apos kpos:Pos}{e o:Expr}{es:List Expr}{kws:List Keyword}{te ta:TE}{t tk:TA}{nm:Option Str}
variable {g:List Value->List Value->List Value}{gV:List V->List V->List V}
end
structure gd(N P:List Str)(sc:Scope):Prop where
 kind:sc.kind=.function
 co:sc.isCoroutine=false
 gen:sc.isGenerator=false
 nd:N.Nodup
 pre:N.take P.length=P
 par:∀x∈P,sc.names.lookup x=some .local\/sc.names.lookup x=some .cell
 nofree:∀y∈sc.names,y.2≠.free
theorem sr{kindOf:Str->Option NameKind}{x:Str}:∀{binds:List (Str×Value)} {m:Str->Option Value},(∀v,(x,v)∉binds)->bindL kindOf binds m x=m x
 | [],_,_=>rfl
 | (n,v)::r,m,h=>by
  unfold bindL;rw[sr λw hw=>h w (bj _ hw)];split
  ·have:x≠n:=by rintro rfl;exact h v bh
   simp[this]
  ·rfl
theorem rZ{kindOf:Str->Option NameKind}{x:Str}:∀{binds:List (Str×Value)} {m:Str->Option Value},(∀v,(x,v)∉binds)->bindC kindOf binds m x=m x
 | [],_,_=>rfl
 | (n,v)::r,m,h=>by
  unfold bindC;rw[rZ λw hw=>h w (bj _ hw)];split
  ·rfl
  ·have:x≠n:=by rintro rfl;exact h v bh
   simp[this]
theorem sH{kindOf:Str->Option NameKind}{x:Str}{v:Value}:∀{P:List Str} {vs:List Value} {i:Nat} {m:Str->Option Value},P.Nodup->P[i]? = some x->vs[i]? = some v->kindOf x=some .local->
  bindL kindOf (P.zip vs) m x=some v
 | [],_,_,_,_,h,_,_=>by simp at h
 | _::_,[],_,_,_,_,h,_=>by simp at h
 | p::P,w::vs,0,m,nd,h1,h2,hk=>by simp at h1 h2;subst h1;subst h2;show bindL kindOf ((p,w)::P.zip vs) m p=_;unfold bindL;rw[sr λv hv=>(bI.mp nd).1 (aV hv).1,aP hk];simp
 | p::P,w::vs,i+1,m,nd,h1,h2,hk=>by show bindL kindOf ((p,w)::P.zip vs) m x=_;unfold bindL;exact sH (i:=i) (bI.mp nd).2 (by simpa using h1) (by simpa using h2) hk
theorem sO{kindOf:Str->Option NameKind}{x:Str}{v:Value}:∀{P:List Str} {vs:List Value} {i:Nat} {m:Str->Option Value},P.Nodup->P[i]? = some x->vs[i]? = some v->kindOf x≠some .local->
  bindC kindOf (P.zip vs) m x=some v
 | [],_,_,_,_,h,_,_=>by simp at h
 | _::_,[],_,_,_,_,h,_=>by simp at h
 | p::P,w::vs,0,m,nd,h1,h2,hk=>by simp at h1 h2;subst h1;subst h2;show bindC kindOf ((p,w)::P.zip vs) m p=_;unfold bindC;rw[rZ λv hv=>(bI.mp nd).1 (aV hv).1,aQ hk];simp
 | p::P,w::vs,i+1,m,nd,h1,h2,hk=>by show bindC kindOf ((p,w)::P.zip vs) m x=_;unfold bindC;exact sO (i:=i) (bI.mp nd).2 (by simpa using h1) (by simpa using h2) hk
def ju(N:List Str)(vs:List V):St:=vs.map some++List.replicate (N.length - vs.length) none
def lV(CX:zB)(P:Program)(w:World)(K:W.Frag)(mg:Str->Option Value)(base:Heap)(N:List Str)(qual:Str)(scope:Scope)(f:Addr)(cd:Value)(A:Around)(outer:List Env)(s:Shared)(H:Hp)(E:XK):Cx where
 prog:=P
 w:=w
 K:=K
 mg:=mg
 base:=base
 A:=A.deeper (envOfC qual scope s.heap.objs.size f cd)
 N:=N
 s₀:=s
 H₀:=H
 env:=envOfC qual scope s.heap.objs.size f cd
 outer:=outer
 stack:=envOfC qual scope s.heap.objs.size f cd::outer
 ex:=[]
 calm:=true
 fn:=λ_=>true
 pn:=[]
 xe:=λe s'=>wpAny (model P w) (A.deeper (envOfC qual scope s.heap.objs.size f cd)) (leaving (envOfC qual scope s.heap.objs.size f cd) e) (λ_ s''=>CX outer H s E e s'') (λe' s''=>CX outer H s E e' s'') s'
theorem jJ{sc:Scope}{n:Nat}{x:Str}(h:sc.names.lookup x=some .cell):∃c,(cellsFrom n sc.names []).lookup x=some c:=by have q:=W.cellsFrom_some sc.names n [] (.inl h);exact bJ.mp q
theorem zJ{CX:zB}{P:Program}{w:World}{K:W.Frag}{mg:Str->Option Value}{base:Heap}{N ps:List Str}{qual:Str}{scope:Scope}{f:Addr}{cd:Value}{A:Around}{outer:List Env}{s s1:Shared}{H:Hp}{E:XK}{us:List Value}{vs:List V}
  (S:gd N ps scope) (hd:A.handled=none) (e0:vV P w K mg base A outer s H) (hl:vs.length=ps.length) (r:eU vs us)
  (x:InCallC s s.heap.objs.size (bindL (envOfC qual scope s.heap.objs.size f cd).kindOf (ps.zip us) λ_=>none) (cellsFrom (s.heap.objs.size+1) scope.names []) (bindC (envOfC qual scope s.heap.objs.size f cd).kindOf (ps.zip us) λ_=>none) s1) :
  eJ (lV CX P w K mg base N qual scope f cd A outer s H E) [] (ju N vs) H s1:=by
 have hpl:ps.length<=N.length:=by have:=congrArg List.length S.pre;rw[bK] at this;omega
 obtain⟨h1,tk,rfl,hk⟩:=x.done;have noA:∀b:Addr,b∉(lV CX P w K mg base N qual scope f cd A outer s H E).ex:=λb z=>absurd (show b∈([]:List Addr) from z) (by simp);refine⟨⟨e0.mod,S.kind,rfl,rfl,aJ _,λy z c h1 h2=>?_,λy hy=>?_,λy c _ h=>?_,λ_=>hd,Around.frames_deeper e0.frames,.inr ⟨rfl,rfl⟩,λb z=>absurd z (noA b),e0.bs,e0.bsz,λb _ _=>noA b,λb z=>absurd z (noA b),e0.funs,e0.frf⟩,
  rfl,e0.bare,Un.kept hk,⟨_,x.toInCall.ns,λi y v h1 h2 h3=>?_⟩,λy c h=>⟨_,x.cell y c h⟩,e0.hok.fresh (aJ _),λy c h=>?_,λp hp=>absurd (show p∈([]:List (Addr×Obj)) from hp) (by simp),e0.hok.kept hk,?_⟩
 ·exact name_of_addr x.apart (PySem.mem_of_lookup h1) (PySem.mem_of_lookup h2)
 ·have hy:scope.names.lookup y=some .cell\/scope.names.lookup y=some .free:=hy;rcases hy with hy | hy
  ·exact jJ hy
  ·exact absurd rfl (S.nofree _ (PySem.mem_of_lookup hy))
 ·exact bf (x.above y c (PySem.mem_of_lookup h))
 ·have hi:i<vs.length:=by
   unfold ju at h2;by_cases hi:i<vs.length
   ·exact hi
   ·rw[List.getElem?_append_right (by simpa using hi)] at h2;rw[List.getElem?_replicate] at h2;split at h2<;>cases h2
  have ha:vs[i]? = some v:=by
   unfold ju at h2;rw[List.getElem?_append_left (by simpa using hi),av] at h2;cases e:vs[i]? with
   | none=>rw[e] at h2;cases h2
   | some a=>rw[e] at h2;cases h2;rfl
  obtain⟨u,hu,rv⟩:=r.get ha;have hp:ps[i]? = some y:=by rw[<-S.pre,List.getElem?_take_of_lt (by omega)];exact h1
  have ndP:ps.Nodup:=by rw[<-S.pre];exact S.nd.sublist (List.take_sublist _ _)
  refine⟨u,rv,?_⟩;rcases S.par y (au hp) with k | k
  ·exact .inl ⟨k,sH ndP hp hu k⟩
  ·obtain⟨c,e⟩:=jJ (n:=s.heap.objs.size+1) k;refine .inr ⟨.inl k,c,e,?_⟩;have q:=x.cell y c e;rw[sO ndP hp hu (by show scope.names.lookup y≠_;rw[k];decide)] at q;exact q
 ·exact e0.hok.fresh (bf (x.above y c (PySem.mem_of_lookup h)))
 ·unfold ju;show _=N.length;rw[aS,aw,bL];omega
theorem Hb{CX:zB}{P:Program}{w:World}{K:W.Frag}{mg:Str->Option Value}{base:Heap}{k:Nat}{f:Addr}{name qual:Str}{params:Arguments}{body:List Stmt}{scope:Scope}{dV kV doc pm cdv ct oc:Value}{an od:Option Addr}
  {osl:Array (Option Value)} {N ps:List Str} {sp:Sp} (lk:K.lookup f=some ⟨oc,od,.func (W.fnOf name qual params body scope dV kV doc pm an cdv ct),osl⟩) (hcd:W.codeIn K cdv qual=true) (S:gd N ps scope)
  (len:∀vs H Q E,sp vs H Q E->vs.length=ps.length)
  (hbody:∀(A:Around) (outer:List Env) (s:Shared) (H:Hp) (vs:List V) (Q:VK) (E:XK),gh k (A.deeper (envOfC qual scope s.heap.objs.size f cdv))->sp vs H Q E->
   ∃t,uI (lV CX P w K mg base N qual scope f cdv A outer s H E) body t/\t {nx:=λ_ H'=>Q .non H',rt:=Q} (ju N vs) H) :
  j6 P w K mg base CX (k+1) f (W.fnOf name qual params body scope dV kV doc pm an cdv ct) ps sp:=by
 refine⟨len,λA outer s H args us vs Q E hr e0 hb r hsp=>?_⟩;have hl:=len _ _ _ _ hsp;have KX:K.In s.heap:=e0.mod.kin.keeps λb o e=>(e0.bs b o e).1;have lim:s.heap.NoLimit:=e0.mod.nolimit.keeps λb o e=>(e0.bs b o e).1;have hkind:∀y∈ps.zip us,scope.names.lookup y.1=some .local\/(scope.names.lookup y.1=some .cell/\((cellsFrom (s.heap.objs.size+1) scope.names []).lookup y.1).isSome=true):=λ⟨n,v⟩ hy=>by
  rcases S.par n (aV hy).1 with q | q
  ·exact .inl q
  ·exact .inr ⟨q,W.cellsFrom_some _ _ _ (.inl q)⟩
 refine codeAny_call_function hr.depth (KX _ _ lk) rfl S.co S.gen rfl (W.codeRec_of KX hcd) (hb _ _ _ _ ?_);refine wpAny_newFunctionEnv_cells S.kind hkind λenv he s1 x=>?_;subst he;refine⟨lim.keeps x.toInCall.keep,codeAny_func ?_⟩;obtain⟨t,ht,hq⟩:=hbody A outer s H vs Q E (hr.deeper _) hsp;have I:eJ (lV CX P w K mg base N qual scope f cdv A outer s H E) [] (ju N vs) H s1:=zJ S hr.hd e0 hl r x;refine wpAny_mono (ht [] s1 (ju N vs) H _ I hq) (λfl s' hs=>?_) λe s' hs=>hs;have fin:∀{σ':St} {H':Hp} {v:V} {u:Value},eJ (lV CX P w K mg base N qual scope f cdv A outer s H E) [] σ' H' s'->fM v u->Q v H'->CE outer P w H s Q u s':=λ{σ' H' v u} J rv q=>⟨v,H',J.os,J.bare,J.base,J.hok,rv,q⟩
 cases fl with
 | ret u=>obtain⟨v,σ',H',J,rv,q⟩:=hs;exact fin J rv q
 | next=>obtain⟨σ',H',J,q⟩:=hs;exact fin (v:=V.non) (u:=Value.none) J rfl q
 | brk=>obtain⟨_,_,_,q⟩:=hs;exact False.elim q
 | cont=>obtain⟨_,_,_,q⟩:=hs;exact False.elim q
end L2
namespace L2
open PySem PySem.Spec PyProof.Rows
section
variable {X:Cx}{x:Str}{p pos:Pos}{e:Expr}{es:List Expr}{t:TA}{id T:String}{r:List V->Hp->VK->Prop}
def Cv(r:List V->Hp->VK->Prop)(t:TA):TE:=λσ H Q=>t σ H λvs H1=>r vs H1 Q
theorem vF(hc:iW X (.builtin id) r)(hg:Gl X x)(hm:X.mg x=none)(hv:bootBuiltins x=some (.builtin id))(ha:PA X (e::es) t)(hn:x≠ "__name__" :=by decide)(hdb:(x == ("__debug__" : Str))=false:=by decide)
  (he:starEach (e::es) X.env=(false,eval e X.env)::starEach es X.env:=by rfl) (hpl:(backTo pos (starEach es X.env)).any (·.1)=false:=by rfl):PE X (.Call (.Name x p) (e::es) [] pos) (Cv r t):=by
 intro dN s σ H Q I h;refine wpAny_Call_Name_kw (ky I hg hm hv ?_ hn hdb);exact PyProof.Rows.callWith_builtin1 (g9 (ha pos dN s σ H _ I h) λus s1 ⟨vs,H1,I1,r1,q1⟩=>hc dN s1 σ H1 vs us Q I1 r1 q1) he hpl
theorem sf(hc:iW X (.type T) r)(hg:Gl X x)(hm:X.mg x=none)(hv:bootBuiltins x=some (.type T))(ha:PA X (e::es) t)(hn:x≠ "__name__" :=by decide)(hdb:(x == ("__debug__" : Str))=false:=by decide)
  (he:starEach (e::es) X.env=(false,eval e X.env)::starEach es X.env:=by rfl) (hpl:(backTo pos (starEach es X.env)).any (·.1)=false:=by rfl):PE X (.Call (.Name x p) (e::es) [] pos) (Cv r t):=by
 intro dN s σ H Q I h;refine wpAny_Call_Name_kw (ky I hg hm hv ?_ hn hdb);exact PyProof.Rows.callWith_type1 (g9 (ha pos dN s σ H _ I h) λus s1 ⟨vs,H1,I1,r1,q1⟩=>hc dN s1 σ H1 vs us Q I1 r1 q1) he hpl
end
end L2
namespace HT
open PySem PyProof.Rows
section
open PySem.SeqAt
open PySem.AutoSeq1 (wpAny_loadPart')
open PySem.MeetsSeq PySem.MeetsSeq2 PySem.MeetsSeq3
end
section
variable {prog:Program}{w:World}{A:Around}{E:Value->Shared->Prop}{s:Shared}
theorem cat_tup{t b:Addr}{vs ws:List Value}{Q:Value->Shared->Prop}(ht:IsTup s.heap t vs.toArray)(hb:IsTup s.heap b ws.toArray)(hv:vs≠[])
  (h1:ws=[]->Q (.ref t) s) (h2:ws≠[]->Q (.ref s.heap.objs.size) {s with heap:=s.heap.push {cls:=.type "tuple",data:=.seq (vs++ws).toArray}})
  (hsz:vs.length+ws.length<=sizeLine):wpAny (model prog w) A (binaryOp .Add (.ref t) (.ref b)) Q E s:=by
 obtain⟨⟨cls,dd,data,sl⟩,ho,hc,n,hd⟩:=id ht;obtain⟨⟨cls2,dd2,data2,sl2⟩,ho2,hc2,n2,hd2⟩:=id hb;simp only at hc hd hc2 hd2;subst hc hd hc2 hd2;have e:vs.toArray++ws.toArray=(vs++ws).toArray:=by simp
 by_cases hw:ws=[]
 ·exact concat_meets ⟨_,ho,rfl⟩ ⟨_,ho2,rfl⟩ noFill_tuple_add seq_tuple_add PySem.F.slot_tuple_add PySem.F.entry_tuple_add (PySem.F.args_tuple_add_2 _ _)
   (tuple_addW1 t b vs.toArray ws.toArray n n2 dd dd2 sl sl2 (by simpa using hv) (by simp[hw])) ⟨ho,ho2,h1 hw⟩
 ·refine concat_meets ⟨_,ho,rfl⟩ ⟨_,ho2,rfl⟩ noFill_tuple_add seq_tuple_add PySem.F.slot_tuple_add PySem.F.entry_tuple_add (PySem.F.args_tuple_add_2 _ _)
   (tuple_addW2 t b vs.toArray ws.toArray n n2 dd dd2 sl sl2 (by simpa using hv) (by simpa using hw) (by rw[bC,bC];exact hsz)) ⟨ho,ho2,?_⟩
  rw[e];exact h2 hw
def sIx(n d:Nat):Option Int->Nat
 | none=>d
 | some v=>if v<0 then (v+(n:Int)).toNat else min v.toNat n
theorem sIx_none(n d:Nat):sIx n d none=d:=rfl
theorem sIx_nat(n d k:Nat):sIx n d (some (k:Int))=min k n:=by show (if (k:Int)<0 then ((k:Int)+(n:Int)).toNat else min (k:Int).toNat n)=min k n;rw[aQ (by omega),bM]
theorem GB(n d:Nat)(hd:d<=n)(o:Option Int):sIx n d o<=n:=by
 cases o with
 | none=>exact hd
 | some v=>
  show (if v<0 then (v+(n:Int)).toNat else min v.toNat n)<=n;by_cases hv:v<0
  ·rw[aP hv];omega
  ·rw[aQ hv];exact Nat.min_le_right _ _
theorem yq(v:Int)(n d:Nat):(if v<0 then max (v+(n:Int)) 0 else min v (n:Int))=((sIx n d (some v):Nat):Int):=by
 show (if v<0 then max (v+(n:Int)) 0 else min v (n:Int))=(((if v<0 then (v+(n:Int)).toNat else min v.toNat n):Nat):Int);by_cases hv:v<0
 ·simp only[aP hv];omega
 ·simp only[aQ hv];omega
theorem xr(lo hi:Option Int)(n:Nat):Builtin.Slice.sliceAdjust lo hi 1 (n:Int)=(((sIx n 0 lo:Nat):Int),((sIx n n hi:Nat):Int)):=by
 have h1:¬((1:Int)<0):=by omega
 unfold Builtin.Slice.sliceAdjust;simp only[h1,if_false];refine Prod.ext ?_ ?_
 ·cases lo with
  | none=>rfl
  | some v=>exact yq v n 0
 ·cases hi with
  | none=>rfl
  | some v=>exact yq v n n
theorem xx(i j:Nat):Builtin.Slice.slicePlaces (i:Int) (j:Int) 1=j - i:=by
 unfold Builtin.Slice.slicePlaces;have h1:(1:Int)>0:=by omega
 simp only[h1,if_true,Int.ediv_one];split<;>omega
theorem q0{v:Value}{o:Option Int}{Q:Option Int->Shared->Prop}(p:IsPart v o)(h:Q o s):wpAny (model prog w) A (Builtin.Slice.slicePartIndex v) Q E s:=by
 cases p with
 | none=>exact slicePart_none h
 | int i t=>exact slicePart_int h
theorem k9{sl:Addr}{vl vu:Value}{lo hi:Option Int}{n:Nat}{Q:Int×Int×Nat->Shared->Prop}(hs:s.heap.IsSliceOf sl vl vu .none)(pl:IsPart vl lo)(pu:IsPart vu hi)
  (h:Q (((sIx n 0 lo:Nat):Int),1,sIx n n hi - sIx n 0 lo) s):wpAny (model prog w) A (Builtin.Slice.sliceApplied (.ref sl) (pure (n:Int))) Q E s:=by
 obtain⟨os,hos,hcs,hds⟩:=id hs;unfold Builtin.Slice.sliceApplied Builtin.Slice.sliceFields;refine ao (ao (wpAny_field hos hds (x:=vl) rfl (ao (wpAny_field hos hds (x:=vu) rfl (ao (wpAny_field hos hds (x:=.none) rfl (ak ?_)))))));refine ao (slicePart_none ?_);show wpAny _ _ (if ((1:Int) == 0)=true then _ else _) _ _ s;rw[aQ (by decide)];refine ao (q0 pl (ao (q0 pu (ao (ak ?_)))));show wpAny _ _ (match Builtin.Slice.sliceAdjust lo hi 1 (n:Int) with | (lo,hi)=>pure (lo,(1:Int),Builtin.Slice.slicePlaces lo hi 1)) _ _ s;rw[xr lo hi n];show wpAny _ _ (pure (((sIx n 0 lo:Nat):Int),(1:Int),Builtin.Slice.slicePlaces ((sIx n 0 lo:Nat):Int) ((sIx n n hi:Nat):Int) 1)) _ _ s;rw[xx];exact ak h
theorem Aw(xs:Array Value)(i k:Nat):((List.range k).filterMap λ(m:Nat)=>xs[((i:Int)+(m:Int)*1).toNat]?).toArray=((xs.toList.drop i).take k).toArray:=by
 have e:(λ(m:Nat)=>xs[((i:Int)+(m:Int)*1).toNat]?)=λm=>xs[i+m]?:=by
  funext m;have:((i:Int)+(m:Int)*1).toNat=i+m:=by omega
  rw[this]
 rw[e];have:=pick_run xs i k;rw[List.filterMap_map] at this;have e2:((λx=>xs[x]?) ∘ λx=>i+x)=λm=>xs[i+m]?:=rfl;rw[e2] at this;rw[this]
theorem getItem_tuple_cut{t sl:Addr}{items:Array Value}{vl vu:Value}{lo hi:Option Int}{Q:Value->Shared->Prop}(ht:IsTup s.heap t items)(hs:s.heap.IsSliceOf sl vl vu .none)(pl:IsPart vl lo)(pu:IsPart vu hi)
  (hw:¬(sIx items.size 0 lo=0/\sIx items.size items.size hi=items.size))
  (h:Q (.ref s.heap.objs.size) {s with heap:=s.heap.push {cls:=.type "tuple",data:=.seq ((items.toList.drop (sIx items.size 0 lo)).take (sIx items.size items.size hi - sIx items.size 0 lo)).toArray}})
  (hsz:items.size<=sizeLine):wpAny (model prog w) A (getItem (.ref t) (.ref sl)) Q E s:=by
 have yG:sizeOk (.seq ((items.toList.drop (sIx items.size 0 lo)).take (sIx items.size items.size hi - sIx items.size 0 lo)).toArray):=by show ((items.toList.drop (sIx items.size 0 lo)).take (sIx items.size items.size hi - sIx items.size 0 lo)).toArray.size<=sizeLine;rw[bC,bK,bN,bp];omega
 have hj:sIx items.size items.size hi<=items.size:=GB _ _ (aJ _) hi;obtain⟨os,hos,hcs,hds⟩:=id hs;have hTs:s.TypeIs (.ref sl) "slice" :=⟨os,hos,hcs⟩;unfold getItem;try with_reducible refine wpAny_holding ?_;first | refine ao (ak ?_) | skip
 refine ao (wpAny_sequenceKey ht.typeIs (by decide) ?_);refine ao (wpAny_callSpecial?_slot (name:=Str.ofString "__getitem__") ht.typeIs PyProof.Rows.slot_tuple_getitem
  (wpAny_call_entry PyProof.Rows.slot_tuple_getitem ht.typeIs entry_tuple_getitem ?_ (args_tuple_getitem _ _)))
 show wpAny _ _ (Builtin.Tuple.tupleItemsOf (.ref t) >>= _) _ _ s;refine ao (tupleItemsOf_ ht ?_);refine ao (wpAny_typeOf hTs ?_);rw[aP (by decide)];refine ao (k9 hs pl pu ?_);have hno:¬((((sIx items.size 0 lo:Nat):Int) == 0&&(1:Int) == 1&&(sIx items.size items.size hi - sIx items.size 0 lo) == items.size)=true):=by intro q;rw[bO,bO] at q;have q1:((sIx items.size 0 lo:Nat):Int)=0:=eq_of_beq q.1.1;have q2:sIx items.size items.size hi - sIx items.size 0 lo=items.size:=eq_of_beq q.2;exact hw ⟨by omega,by omega⟩
 show wpAny _ _ (if (((sIx items.size 0 lo:Nat):Int) == 0&&(1:Int) == 1&&(sIx items.size items.size hi - sIx items.size 0 lo) == items.size)=true then _ else _) _ _ s;rw[aQ hno,Aw];first
  | exact ao (m:=Builtin.Tuple.tupleExact _) (wpAny_newObj_type (ak ⟨_,rfl,ak h⟩) yG)
  | exact ao (m:=Builtin.Tuple.tupleExact _) (wpAny_newObj_type (ao (ak (ak ⟨_,rfl,ak h⟩))) yG)
  | exact ao (ao (m:=Builtin.Tuple.tupleExact _) (wpAny_newObj_type (ak (ak ⟨_,rfl,ak h⟩)) yG))
  | exact ao (ao (m:=Builtin.Tuple.tupleExact _) (wpAny_newObj_type (ak ⟨_,rfl,ak h⟩) yG))
end
end HT
namespace L2
open PySem PySem.Spec PyProof.Rows
abbrev TO:=St->Hp->(Option Int->Hp->Prop)->Prop
def PO(X:Cx)(e:Option Expr)(t:TO):Prop:=
 ∀(dN:List (Addr×Obj)) (s:Shared) (σ:St) (H:Hp) (Q:Option Int->Hp->Prop),eJ X dN σ H s->t σ H Q->
  wpAny (model X.prog X.w) X.A (evalPart e X.env) (λu s'=>∃o H',eJ X dN σ H' s'/\IsPart u o/\Q o H') X.xe s
def xU:TO:=λ_ H Q=>Q none H
def Et(t:TE):TO:=λσ H Q=>t σ H λx H1=>∃i,x=.int i/\Q (some i) H1
section
variable {X:Cx}{e:Expr}{te:TE}{lo hi:Option Expr}{tl th:TO}{pos p2:Pos}
theorem Dd:PO X none xU:=by intro dN s σ H Q I h;rw[evalPart_none];exact ak ⟨none,H,I,.none,h⟩
theorem DP(h:PE X e te):PO X (some e) (Et te):=by intro dN s σ H Q I hw;rw[evalPart_some];refine g9 (h dN s σ H _ I hw) λu s1 ⟨x,H1,I1,r1,q1⟩=>?_;obtain⟨i,rfl,q⟩:=q1;obtain⟨t,rfl⟩:=r1;exact⟨some i,H1,I1,.int i t,q⟩
def EM(X:Cx)(r:V->Option Int->Option Int->Hp->VK->Prop):Prop:=
 ∀(dN:List (Addr×Obj)) (s:Shared) (σ:St) (H:Hp) (x:V) (v vl vu:Value) (lo hi:Option Int) (sl:Addr) (Q:VK),eJ X dN σ H s->fM x v->s.heap.IsSliceOf sl vl vu .none->IsPart vl lo->IsPart vu hi->r x lo hi H Q->
  ∃T id,typeLookup (.type T) "__getitem__" = pure (some (.builtin id))/\s.TypeIs v T/\wpAny (model X.prog X.w) X.A (getItem v (.ref sl)) (EP X dN σ Q) X.xe s
theorem EM.or{r r':V->Option Int->Option Int->Hp->VK->Prop}(h:EM X r)(h':EM X r'):EM X (λx lo hi H Q=>r x lo hi H Q\/r' x lo hi H Q):=by
 intro dN s σ H x v vl vu lo hi sl Q I rx hs pl pu q;rcases q with q | q
 ·exact h dN s σ H x v vl vu lo hi sl Q I rx hs pl pu q
 ·exact h' dN s σ H x v vl vu lo hi sl Q I rx hs pl pu q
def Jw(r:V->Option Int->Option Int->Hp->VK->Prop)(te:TE)(tl th:TO):TE:=λσ H Q=>te σ H λx H1=>tl σ H1 λl H2=>th σ H2 λu H3=>r x l u H3 Q
theorem BX{r:V->Option Int->Option Int->Hp->VK->Prop}(hr:EM X r)(he:PE X e te)(hl:PO X lo tl)(hu:PO X hi th):PE X (.Subscript e (.Slice lo hi none p2) pos) (Jw r te tl th):=by intro dN s σ H Q I h;refine Subscript_ (g9 (he dN s σ H _ I h) λv s1 ⟨x,H1,I1,r1,q1⟩=>?_);refine wpAny_Slice (g9 (hl dN s1 σ H1 _ I1 q1) λvl s2 ⟨l,H2,I2,pl,q2⟩=>g9 (hu dN s2 σ H2 _ I2 q2) λvu s3 ⟨u,H3,I3,pu,q3⟩=>?_);rw[evalPart_none];refine ak ?_;have I4:eJ X dN σ H3 {s3 with heap:=s3.heap.push {cls:=.type "slice",data:=.fields #[vl,vu,.none]}}:=I3.kept (t':=s3.toks) λb ob q=>ae _ q;obtain⟨T,id,hT,ht,hg⟩:=hr dN {s3 with heap:=s3.heap.push {cls:=.type "slice",data:=.fields #[vl,vu,.none]}} σ H3 x v vl vu l u s3.heap.objs.size Q I4 r1 (Heap.IsSliceOf.new ..) pl pu q3;show wpAny (model X.prog X.w) X.A (subscriptTail e (.Slice lo hi none p2) v (.ref s3.heap.objs.size)) (EP X dN σ Q) X.xe {s3 with heap:=s3.heap.push {cls:=.type "slice",data:=.fields #[vl,vu,.none]}};exact tail_any (ops:=[.ref s3.heap.objs.size,v]) ht hT hg (by with_unfolding_all rfl)
def vZ(xs:List V)(lo hi:Option Int):List V:=(xs.drop (HT.sIx xs.length 0 lo)).take (HT.sIx xs.length xs.length hi - HT.sIx xs.length 0 lo)
theorem pk(xs:List V)(lo hi:Option Int):(vZ xs lo hi).length<=xs.length:=by unfold vZ;rw[bK,bN];omega
def Hl(K:W.Frag):V->Option Int->Option Int->Hp->VK->Prop:=λx lo hi H Q=>∃a xs,x=.ref a/\jR K H a xs/\
 ¬(HT.sIx xs.length 0 lo=0/\HT.sIx xs.length xs.length hi=xs.length)/\∀p,H p=none->Q (.ref p) (gL H p (.tup (vZ xs lo hi)))
theorem FN:EM X (Hl X.K):=by
 intro dN s σ H x v vl vu lo hi sl Q I rx hs pl pu h;obtain⟨a,xs,rfl,hx,hw,q⟩:=h;cases rx;obtain⟨its,r,ht,hz⟩:=I.tuple hx;have jm:its.toArray.size=xs.length:=by rw[bC];exact r.length.symm
 refine⟨"tuple",_,PyProof.Rows.slot_tuple_getitem.lookup,ht.typeIs,?_⟩;refine HT.getItem_tuple_cut ht hs pl pu (by rw[jm];exact hw) ?_ (by rw[jm];exact hz);rw[jm];refine⟨.ref s.heap.objs.size,_,I.laid (t':=s.toks) (o:=.tup (vZ xs lo hi)) (λb ob q=>ae _ q) (aJ _) ?_,rfl,q _ (I.hok.fresh (aJ _))⟩;exact⟨aM (pk xs lo hi) hz,_,(r.drop (HT.sIx xs.length 0 lo)).take (HT.sIx xs.length xs.length hi - HT.sIx xs.length 0 lo),IsTup.new _ _⟩
def HC(K:W.Frag):R2:=λx y H Q=>∃a b xs ys,x=.ref a/\y=.ref b/\jR K H a xs/\jR K H b ys/\xs≠[]/\xs.length+ys.length<=sizeLine/\
 (ys=[]->Q (.ref a) H)/\(ys≠[]->∀p,H p=none->Q (.ref p) (gL H p (.tup (xs++ys))))
theorem eU.nil_iff{xs:List V}{us:List Value}(r:eU xs us):us=[]↔xs=[]:=by
 cases r with
 | nil=>simp
 | cons _ _=>simp
theorem Dc:mM X (binaryOp .Add) (HC X.K):=by intro dN s σ H x y v u Q I rx ry h;obtain⟨a,b,xs,ys,rfl,rfl,ha,hb,hx,hz,q1,q2⟩:=h;cases rx;cases ry;obtain⟨its,r1,p1,_⟩:=I.tuple ha;obtain⟨its2,r2,p2,_⟩:=I.tuple hb;refine HT.cat_tup p1 p2 (λz=>hx (r1.nil_iff.mp z)) (λz=>⟨.ref a,H,I,rfl,q1 (r2.nil_iff.mp z)⟩) (λz=>?_) (by rw[<-r1.length,<-r2.length];exact hz);refine⟨.ref s.heap.objs.size,_,I.laid (t':=s.toks) (o:=.tup (xs++ys)) (λb ob q=>ae _ q) (aJ _) ?_,rfl,q2 (λw=>z (r2.nil_iff.mpr w)) _ (I.hok.fresh (aJ _))⟩;exact⟨by rw[aS];exact hz,_,r1.append r2,IsTup.new _ _⟩
end
end L2
namespace L2
open PySem PySem.Spec PyProof.Rows
def rm(n:Nat)(i:Int):Option Nat:=if 0<=i then (if i<n then some i.toNat else none) else if -(n:Int)<=i then some (i+n).toNat else none
def lP{α:Type}(xs:List α)(i:Int):Option α:=(rm xs.length i).bind λj=>xs[j]?
theorem yn{n:Nat}{i:Int}{j:Nat}(h:rm n i=some j):seqIndex? i n=some j/\j<n/\-(n:Int)<=i/\i<n:=by
 unfold rm at h;by_cases h0:0<=i
 ·rw[aP h0] at h;by_cases h1:i<n
  ·rw[aP h1] at h;have e:i.toNat=j:=Option.some.inj h;exact⟨by rw[seqIndex_of h0 h1,e],by omega,by omega,h1⟩
  ·rw[aQ h1] at h;cases h
 ·rw[aQ h0] at h;by_cases h1:-(n:Int)<=i
  ·rw[aP h1] at h;have e:(i+n).toNat=j:=Option.some.inj h;exact⟨by rw[seqIndex_neg (by omega) h1,e],by omega,h1,by omega⟩
  ·rw[aQ h1] at h;cases h
theorem sW{α:Type}{xs:List α}{i:Int}{v:α}(h:lP xs i=some v):∃j,seqIndex? i xs.length=some j/\xs[j]? = some v/\j<xs.length/\-(xs.length:Int)<=i/\i<xs.length:=by
 unfold lP at h;cases e:rm xs.length i with
 | none=>rw[e] at h;cases h
 | some j=>rw[e] at h;obtain⟨h1,h2,h3,h4⟩:=yn e;exact⟨j,h1,h,h2,h3,h4⟩
theorem vE{α:Type}(xs:List α)(v:α):lP (xs++[v]) (-1)=some v:=by
 have hl:(xs++[v]).length=xs.length+1:=by simp
 have e:rm (xs++[v]).length (-1)=some xs.length:=by unfold rm;rw[hl,aQ (by decide),aP (by omega)];congr 1;omega
 unfold lP;rw[e];show (xs++[v])[xs.length]? = some v;simp
def tm(b:Expr):Prop:=∀o i,subscripted b false o i=operate [o,i] (getItem o i)
def CV(X:Cx)(r:R2):Prop:=
 ∀(value slice:Expr) (dN:List (Addr×Obj)) (s:Shared) (σ:St) (H:Hp) (x y:V) (v u:Value) (Q:VK),eJ X dN σ H s->fM x v->fM y u->r x y H Q->
  subscripted slice false v u=operate [v,u] (getItem v u)->wpAny (model X.prog X.w) X.A (subscriptTail value slice v u) (EP X dN σ Q) X.xe s
def J3(X:Cx)(id:String)(r:V->List V->Hp->VK->Prop):Prop:=
 ∀(dN:List (Addr×Obj)) (s:Shared) (σ:St) (H:Hp) (x:V) (xs:List V) (v:Value) (us:List Value) (Q:VK),eJ X dN σ H s->fM x v->eU xs us->r x xs H Q->
  wpAny (model X.prog X.w) X.A (call (.builtin id) (v::us)) (EP X dN σ Q) X.xe s
section
variable {X:Cx}{a b:Expr}{ta tb:TE}{pos:Pos}
theorem CV.or{r r':R2}(h:CV X r)(h':CV X r'):CV X (λx y H Q=>r x y H Q\/r' x y H Q):=by
 intro value slice dN s σ H x y v u Q I rx ry q hs;rcases q with q | q
 ·exact h value slice dN s σ H x y v u Q I rx ry q hs
 ·exact h' value slice dN s σ H x y v u Q I rx ry q hs
theorem Eu{r:R2}(hr:CV X r)(ha:PE X a ta)(hb:PE X b tb)(hs:tm b):PE X (.Subscript a b pos) (rh r ta tb):=by intro dN s σ H Q I h;exact Subscript_ (Fh ha hb I h λv u s2 x y H2 I2 rx ry q=>hr a b dN s2 σ H2 x y v u Q I2 rx ry q (hs _ _))
def Hu(K:W.Frag):R2:=λx y H Q=>∃p xs i v,x=.ref p/\y=.int i/\jq K H p xs/\lP xs i=some v/\Q v H
def HG(K:W.Frag):R2:=λx y H Q=>∃p xs i v,x=.ref p/\y=.int i/\jR K H p xs/\lP xs i=some v/\Q v H
def Hi:R2:=λx y H Q=>∃z i c,x=.str z/\y=.int i/\z.length<=sizeLine/\lP z.cps.toList i=some c/\Q (.str ⟨#[c]⟩) H
theorem pU:CV X (Hu X.K):=by
 intro value slice dN s σ H x y v u Q I rx ry h hs;obtain⟨p,xs,i,z,rfl,rfl,hq,he,q⟩:=h;cases rx;obtain⟨t,rfl⟩:=ry;obtain⟨its,r,pl,hz⟩:=I.list hq;obtain⟨j,h1,h2,h3,h4,h5⟩:=sW he;obtain⟨w,ew,rw'⟩:=r.get h2;have hl:=r.length;have hn:=qL;have fin:EP X dN σ Q w s:=⟨z,H,I,rw',q⟩;by_cases h0:0<=i
 ·have hj:i.toNat=j:=by rw[seqIndex_of h0 h5] at h1;exact Option.some.inj h1
  exact item_listR pl.isList h0 (by omega) (by rw[hj];simpa using ew) fin hs
 ·have hj:(i+(its.toArray.size:Int)).toNat=j:=by rw[seqIndex_neg (by omega) h4] at h1;rw[bC,<-hl];exact Option.some.inj h1
  exact subscriptTail_builtinR (x:=w) pl.isList.typeIs slot_list_getitem.lookup
   (wpAny_getItem_list_neg (Q:=λr s'=>r=w/\EP X dN σ Q r s') pl.isList (by omega) (by rw[bC]<;>omega) (by omega) (by rw[hj];simpa using ew) ⟨rfl,fin⟩) hs
theorem gY:CV X (HG X.K):=by
 intro value slice dN s σ H x y v u Q I rx ry h hs;obtain⟨p,xs,i,z,rfl,rfl,hq,he,q⟩:=h;cases rx;obtain⟨t,rfl⟩:=ry;obtain⟨its,r,pl,hz⟩:=I.tuple hq;obtain⟨j,h1,h2,h3,h4,h5⟩:=sW he;obtain⟨w,ew,rw'⟩:=r.get h2;have hl:=r.length;have hn:=qL;have fin:EP X dN σ Q w s:=⟨z,H,I,rw',q⟩;exact subscriptTail_builtinR (x:=w) pl.typeIs slot_tuple_getitem.lookup
  (getItem_tuple (j:=j) (Q:=λr s'=>r=w/\EP X dN σ Q r s') pl (by omega) (by omega) (by rw[bC,<-hl];exact h1) (by simpa using ew) ⟨rfl,fin⟩) hs
theorem GU:CV X Hi:=by
 intro value slice dN s σ H x y v u Q I rx ry h hs;obtain⟨z,i,c,rfl,rfl,hz,he,q⟩:=h;obtain⟨t,rfl⟩:=rx;obtain⟨t',rfl⟩:=ry;obtain⟨j,h1,h2,h3,h4,h5⟩:=sW he;have hl:z.cps.toList.length=z.length:=by simp[Str.length]
 rw[hl] at h1 h4 h5;have hn:=qL;exact tail_any (typeIs_str s z t) slot_str_getitem.lookup (getItem_str (c:=c) (by have e1:decide (i < -(2 ^ 63:Int))=false:=aA (by omega);have e2:decide (i >= 2 ^ 63)=false:=aA (by omega);rw[e1,e2,Bool.or_false]) (by rw[h1];simpa using h2) ⟨.str ⟨#[c]⟩,H,I.tok _,⟨_,rfl⟩,q⟩) hs
def Iz(K:W.Frag):R2:=λx y H Q=>Hu K x y H Q\/HG K x y H Q\/Hi x y H Q
theorem Ax:CV X (Iz X.K):=pU.or (gY.or GU)
theorem xJ(its:List Value)(n j:Nat)(u:Value):Obj.mapSeq (·.setIfInBounds j u) {cls:=.type "list",data:=.seq its.toArray n}={cls:=.type "list",data:=.seq (its.set j u).toArray n}:=by simp[Obj.mapSeq]
theorem eJ.lst{dN:List (Addr×Obj)}{σ:St}{H:Hp}{s:Shared}{p:Addr}{xs:List V}(I:eJ X dN σ H s)(h:H p=some (.lst xs)) :
  ∃(its:List Value) (n:Nat),eU xs its/\s.heap.get? p=some {cls:=.type "list",data:=.seq its.toArray n}/\xs.length<=sizeLine:=by
 obtain⟨z,its,n,r,e⟩:=I.hok p _ h;exact⟨its,n,r,e,z⟩
theorem eJ.lstUpd{dN:List (Addr×Obj)}{σ:St}{H:Hp}{s:Shared}{p:Addr}{xs ys:List V}{its its':List Value}{n n':Nat}{f:Obj->Obj}(I:eJ X dN σ H s)(h:H p=some (.lst xs))
  (ho:s.heap.get? p=some {cls:=.type "list",data:=.seq its.toArray n}) (hf:f {cls:=.type "list",data:=.seq its.toArray n}={cls:=.type "list",data:=.seq its'.toArray n'}) (r:eU ys its') (hz:ys.length<=sizeLine) (t:Nat) :
  eJ X dN σ (gL H p (.lst ys)) {s with heap:=s.heap.update p f,toks:=t}:=by
 have e:(s.heap.update p f).get? p=some {cls:=.type "list",data:=.seq its'.toArray n'}:=by rw[Heap.get?_update_self f ho (by rw[hf]<;>rfl),hf]
 refine I.write (x:=p) (e:=p) (by rw[h];trivial) (.inl rfl) (λb u hb q=>(Heap.get?_update_other _ _ (Ne.symm hb)).trans q) ⟨_,e⟩ ?_;exact⟨hz,its',n',r,e⟩
def ym:V->V->V->Hp->(Hp->Prop)->Prop:=λo i v H Q=>∃p xs k j,o=.ref p/\i=.int k/\H p=some (.lst xs)/\rm xs.length k=some j/\Q (gL H p (.lst (xs.set j v)))
theorem Am:HX X ym:=by
 intro dN s σ H o i v ov iv u Q I ro ri rv h;obtain⟨p,xs,k,j,rfl,rfl,hp,hj,q⟩:=h;cases ro;obtain⟨t,rfl⟩:=ri;obtain⟨its,n,r,ho,hz⟩:=I.lst hp;obtain⟨h1,h2,h3,h4⟩:=yn hj;have hl:=r.length;have hn:=qL;have I':eJ X dN σ (gL H p (.lst (xs.set j v))) {s with heap:=s.heap.update p (Obj.mapSeq (·.setIfInBounds j u))}:=I.lstUpd hp ho (xJ its n j u) (r.set rv j) (by rw[bP];exact hz) s.toks
 by_cases h0:0<=k
 ·have hk:k.toNat=j:=by rw[seqIndex_of h0 h4] at h1;exact Option.some.inj h1
  exact W.ki_setAt ho h0 (by omega) (by rw[bC,<-hl];exact h4) (by rw[hk];exact⟨_,I',q⟩)
 ·have hk:(k+(its.toArray.size:Int)).toNat=j:=by rw[seqIndex_neg (by omega) h3] at h1;rw[bC,<-hl];exact Option.some.inj h1
  exact W.ki_setBack ho (by omega) (by rw[bC,<-hl];exact h3) (by omega) (by rw[hk];exact⟨_,I',q⟩)
theorem ud(lo hi:Option Int)(n:Nat):(sliceBounds lo hi none n).1=((HT.sIx n 0 lo:Nat):Int)/\(sliceBounds lo hi none n).2.1=((HT.sIx n n hi:Nat):Int)/\(sliceBounds lo hi none n).2.2=1:=by
 refine⟨?_,?_,rfl⟩
 ·cases lo with
  | none=>simp[sliceBounds,HT.sIx]
  | some i=>
   simp only[sliceBounds,HT.sIx,Option.getD_none,show (1:Int)>0 by decide,if_true];by_cases h:i<0
   ·simp only[h,if_true]<;>omega
   ·simp only[h,if_false]<;>omega
 ·cases hi with
  | none=>simp[sliceBounds,HT.sIx]
  | some i=>
   simp only[sliceBounds,HT.sIx,Option.getD_none,show (1:Int)>0 by decide,if_true];by_cases h:i<0
   ·simp only[h,if_true]<;>omega
   ·simp only[h,if_false]<;>omega
theorem rq(its:List Value)(lo hi:Option Int):slicePick its.toArray lo hi none=((its.drop (HT.sIx its.length 0 lo)).take (HT.sIx its.length its.length hi - HT.sIx its.length 0 lo)).toArray:=by obtain⟨h1,h2,h3⟩:=ud lo hi its.toArray.size;unfold slicePick;rw[h1,h2,h3];simp only[sliceRange_one,pick_run,bC]<;>rfl
def He(K:W.Frag):V->Option Int->Option Int->Hp->VK->Prop:=λx lo hi H Q=>∃a xs,x=.ref a/\jq K H a xs/\∀p,H p=none->Q (.ref p) (gL H p (.lst (vZ xs lo hi)))
theorem Cg:EM X (He X.K):=by intro dN s σ H x v vl vu lo hi sl Q I rx hs pl pu h;obtain⟨a,xs,rfl,hx,q⟩:=h;cases rx;obtain⟨its,r,ht,hz⟩:=I.list hx;have jm:=r.length;refine⟨"list",_,slot_list_getitem.lookup,ht.isList.typeIs,?_⟩;refine wpAny_getItem_list_slice ht.isList hs pl pu .none (by simp) ?_ (by rw[bC]<;>omega);rw[rq,<-jm];refine⟨.ref s.heap.objs.size,_,I.laid (t':=s.toks) (o:=.lst (vZ xs lo hi)) (λb ob q=>ae _ q) (aJ _) ?_,rfl,q _ (I.hok.fresh (aJ _))⟩;exact⟨aM (pk xs lo hi) hz,_,0,(r.drop (HT.sIx xs.length 0 lo)).take (HT.sIx xs.length xs.length hi - HT.sIx xs.length 0 lo),ar _ rfl⟩
def mI:V->Bool
 | .non=>true
 | .bl _=>true
 | .int _=>true
 | .str _=>true
 | _=>false
def B5:V->V->Bool
 | .non,.non=>true
 | .bl a,.bl b=>a == b
 | .bl a,.int b=>(if a then 1 else 0) == b
 | .int a,.bl b=>a == (if b then 1 else 0)
 | .int a,.int b=>a == b
 | .str a,.str b=>a == b
 | _,_=>false
theorem GX{A:Around}{s:Shared}{y x:V}{u v:Value}(ry:fM y u)(rx:fM x v)(fy:mI y=true)(fx:mI x=true):SeqAt.EqAt A s u v (B5 y x):=by
 cases y with
 | non=>
  cases ry;cases x with
  | non=>cases rx;exact SeqAt.EqAt.same _
  | bl b=>cases rx;exact SeqAt.EqAt.none_bool b
  | int b=>obtain⟨t,rfl⟩:=rx;exact SeqAt.EqAt.none_int b t
  | str b=>obtain⟨t,rfl⟩:=rx;exact SeqAt.EqAt.none_str b t
  | _=>exact absurd (show false=true from fx) aG
 | bl a=>
  cases ry;cases x with
  | non=>cases rx;exact SeqAt.EqAt.bool_none a
  | bl b=>cases rx;exact SeqAt.EqAt.bool_bool a b
  | int b=>obtain⟨t,rfl⟩:=rx;exact SeqAt.EqAt.bool_int a b t
  | str b=>obtain⟨t,rfl⟩:=rx;exact SeqAt.EqAt.bool_str a b t
  | _=>exact absurd (show false=true from fx) aG
 | int a=>
  obtain⟨t',rfl⟩:=ry;cases x with
  | non=>cases rx;exact SeqAt.EqAt.int_none a t'
  | bl b=>cases rx;exact SeqAt.EqAt.int_bool a t' b
  | int b=>obtain⟨t,rfl⟩:=rx;exact SeqAt.EqAt.int_int a t' b t
  | str b=>obtain⟨t,rfl⟩:=rx;exact SeqAt.EqAt.int_str a t' b t
  | _=>exact absurd (show false=true from fx) aG
 | str a=>
  obtain⟨t',rfl⟩:=ry;cases x with
  | non=>cases rx;exact SeqAt.EqAt.str_none a t'
  | bl b=>cases rx;exact SeqAt.EqAt.str_bool a t' b
  | int b=>obtain⟨t,rfl⟩:=rx;exact SeqAt.EqAt.str_int a t' b t
  | str b=>obtain⟨t,rfl⟩:=rx;exact SeqAt.EqAt.str_str a t' b t
  | _=>exact absurd (show false=true from fx) aG
 | _=>exact absurd (show false=true from fy) aG
def Dg(x:V)(u:Value):Bool:=match u with
 | .none=>B5 .non x
 | .bool b=>B5 (.bl b) x
 | .int i _=>B5 (.int i) x
 | .str z _=>B5 (.str z) x
 | _=>false
theorem Bp{x y:V}{u:Value}(r:fM y u)(f:mI y=true):Dg x u=B5 y x:=by
 cases y with
 | non=>cases r;rfl
 | bl b=>cases r;rfl
 | int i=>obtain⟨t,rfl⟩:=r;rfl
 | str z=>obtain⟨t,rfl⟩:=r;rfl
 | _=>exact absurd (show false=true from f) aG
theorem tQ{x:V}:∀{xs:List V} {us:List Value},eU xs us->xs.all mI=true->us.any (Dg x)=xs.any λy=>B5 y x
 | _,_,.nil,_=>rfl
 | y::xs,u::us,.cons r t,f=>by rw[bQ,bO] at f;rw[bR,bR,Bp r f.1,tQ t f.2]
theorem qW{A:Around}{s:Shared}{x:V}{v:Value}(rx:fM x v)(fx:mI x=true):∀{xs:List V} {us:List Value},eU xs us->xs.all mI=true->∀u∈us,SeqAt.EqAt A s u v (Dg x u)
 | _,_,.nil,_=>λu hu=>by cases hu
 | y::xs,u::us,.cons r t,f=>λu' hu=>by
  rw[bQ,bO] at f;rcases aE.mp hu with rfl | hu
  ·rw[Bp r f.1];exact GX r rx f.1 fx
  ·exact qW rx fx t f.2 u' hu
def IE(x:V)(xs:List V):Bool:=xs.any λy=>B5 y x
def I0(K:W.Frag)(neg:Bool):R2:=λx y H Q=>∃p xs,y=.ref p/\(jq K H p xs\/jR K H p xs)/\mI x=true/\xs.all mI=true/\Q (.bl (if neg then !IE x xs else IE x xs)) H
theorem um:mM X (compareOp .NotIn) (I0 X.K true):=by
 intro dN s σ H x y v u Q I rx ry h;obtain⟨p,xs,rfl,hq,fx,fs,q⟩:=h;cases ry;rcases hq with hq | hq
 ·obtain⟨its,r,pl,hz⟩:=I.list hq;refine SeqAt.notIn_listAt (Dg x) pl.isList (λw hw=>qW rx fx r fs w (by simpa using hw)) ⟨.bl _,H,I,rfl,?_⟩;rw[show its.toArray.any (Dg x)=its.any (Dg x) by simp,tQ r fs];exact q
 ·obtain⟨its,r,pl,hz⟩:=I.tuple hq;refine SeqAt.notIn_tupleAt (Dg x) pl (λw hw=>qW rx fx r fs w (by simpa using hw)) ⟨.bl _,H,I,rfl,?_⟩;rw[show its.toArray.any (Dg x)=its.any (Dg x) by simp,tQ r fs];exact q
theorem tU:iW X (.type "list") (λxs H Q=>∃p ys,xs=[.ref p]/\(jq X.K H p ys\/jR X.K H p ys)/\∀l,H l=none->Q (.ref l) (gL H l (.lst ys))):=by
 intro dN s σ H xs us Q I r h;obtain⟨p,ys,rfl,hq,q⟩:=h;obtain⟨u,rfl,rx⟩:=lJ r;cases rx;have fin:∀(its:List Value),eU ys its->ys.length<=sizeLine->∀(h':Heap) (c':Nat),(∀b o',s.heap.get? b=some o'->h'.get? b=some o')->
   h'.get? s.heap.objs.size=some {cls:=.type "list",dict:=none,data:=.seq its.toArray c',slots:=#[]}->EP X dN σ Q (.ref s.heap.objs.size) {s with heap:=h'}:=λits r' hz h' c' kp e=>
  ⟨.ref s.heap.objs.size,_,I.laid (t':=s.toks) kp (aJ _) (show ig X.prog X.w _ h' _ (.lst ys) from ⟨hz,its,c',r',e⟩),rfl,q _ (I.hok.fresh (aJ _))⟩
 rcases hq with hq | hq
 ·obtain⟨its,r',pl,hz⟩:=I.list hq;have jm:=r'.length;obtain⟨o,ho,hc,n,hd⟩:=pl.isList;exact call_list_seq p (.inl rfl) ho hc hd (λh' c' kp e=>fin its r' hz h' c' kp e) (by simp only[bC]<;>omega)
 ·obtain⟨its,r',pl,hz⟩:=I.tuple hq;have jm:=r'.length;obtain⟨o,ho,hc,n,hd⟩:=pl;exact call_list_seq p (.inr rfl) ho hc hd (λh' c' kp e=>fin its r' hz h' c' kp e) (by simp only[bC]<;>omega)
theorem rK:iW X (.type "tuple") (λxs H Q=>∃p ys,xs=[.ref p]/\((jq X.K H p ys/\∀l,H l=none->Q (.ref l) (gL H l (.tup ys)))\/(jR X.K H p ys/\Q (.ref p) H))):=by
 intro dN s σ H xs us Q I r h;obtain⟨p,ys,rfl,h⟩:=h;obtain⟨u,rfl,rx⟩:=lJ r;cases rx;rcases h with⟨hq,q⟩ | ⟨hq,q⟩
 ·obtain⟨its,r',pl,hz⟩:=I.list hq;have jm:=r'.length;refine call_tuple_list pl.isList (λh' kp=>?_) (by simp only[bC]<;>omega);have I1:eJ X dN σ H {s with heap:=h'}:=I.kept (t':=s.toks) kp;have I2:eJ X dN σ (gL H h'.objs.size (.tup ys)) {s with heap:=h'.push {cls:=.type "tuple",data:=.seq its.toArray}}:=
   I1.laid (t':=s.toks) (λb o e=>ae _ e) (aJ _) (show ig X.prog X.w _ _ _ (.tup ys) from ⟨hz,its,r',IsTup.new _ _⟩)
  exact⟨.ref h'.objs.size,_,I2,rfl,q _ (I1.hok.fresh (aJ _))⟩
 ·obtain⟨its,r',pl,hz⟩:=I.tuple hq;exact call_tuple_same pl ⟨.ref p,H,I,rfl,q⟩
def Gz(K:W.Frag)(T:String)(x:V)(H:Hp):Prop:=match x with
 | .str _=>T = "str"
 | .int _=>T = "int"
 | .ref p=>(T = "list" /\∃xs,jq K H p xs)\/(T = "tuple" /\∃o,K.lookup p=some o/\o.cls=.type "tuple" /\o.dict=none)\/
   (T = "dict" /\((∃kvs,H p=some (.dK kvs))\/∃kvs,H p=some (.dT kvs)))\/(T = "set" /\∃S n,H p=some (.set S n))
 | _=>False
theorem Gs{dN:List (Addr×Obj)}{σ:St}{H:Hp}{s:Shared}{T:String}{x:V}{v:Value}(I:eJ X dN σ H s)(r:fM x v)(ty:Gz X.K T x H) :
  s.TypeIs v T/\∀a,v=.ref a->∃ob,s.heap.get? a=some ob/\ob.dict=none:=by
 cases x with
 | str z=>obtain⟨t,rfl⟩:=r;cases (show T = "str" from ty);exact⟨typeIs_str s z t,λ_ e=>nomatch e⟩
 | int i=>obtain⟨t,rfl⟩:=r;cases (show T = "int" from ty);exact⟨typeIs_int s i t,λ_ e=>nomatch e⟩
 | ref p=>
  cases r;rcases ty with⟨rfl,xs,hq⟩ | ⟨rfl,o,hk,hc,hd⟩ | ⟨rfl,hk⟩ | ⟨rfl,S,n,hk⟩
  ·obtain⟨its,_,pl,_⟩:=I.list hq;refine⟨pl.isList.typeIs,λa e=>?_⟩;cases e;obtain⟨o,n,e,c,hd,_⟩:=pl;exact⟨o,e,hd⟩
  ·refine⟨⟨o,I.kIn p o hk,hc⟩,λa e=>?_⟩;cases e;exact⟨o,I.kIn _ o hk,hd⟩
  ·have z:∃o,s.heap.get? p=some o/\o.ExactDict:=by
    rcases hk with⟨kvs,hk⟩ | ⟨kvs,hk⟩
    ·obtain⟨_,_,_,_,o,_,_,e,ex,_⟩:=I.hok p _ hk;exact⟨o,e,ex⟩
    ·obtain⟨_,_,_,_,o,_,_,e,ex,_⟩:=I.hok p _ hk;exact⟨o,e,ex⟩
   obtain⟨o,e,ex⟩:=z;refine⟨⟨o,e,ex.1⟩,λa e2=>?_⟩;cases e2;exact⟨o,e,ex.2.1⟩
  ·obtain⟨o,_,_,_,e,ex,_⟩:=I.hok p _ hk;refine⟨⟨o,e,ex.1⟩,λa e2=>?_⟩;cases e2;exact⟨o,e,ex.2.1⟩
 | _=>exact False.elim ty
def Ir(K:W.Frag)(T:String)(r:V->List V->Hp->VK->Prop)(to:TE)(t:TA):TE:=λσ H Q=>to σ H λx H1=>Gz K T x H1/\t σ H1 λxs H2=>r x xs H2 Q
variable {o e:Expr}{es:List Expr}{to:TE}{t:TA}{name:Str}{apos cpos:Pos}{T id:String}{r:V->List V->Hp->VK->Prop}
theorem uC(pa:PlainAttrs T)(slot:Slot T name id)(hty:typeOf (.builtin id)=pure (.type "method_descriptor"))(hm:J3 X id r)(ho:PE X o to)(ha:PA X (e::es) t)
  (hbase:attributeBase o name X.env (eval o X.env)=eval o X.env:=by rfl)
  (hfew:((backTo cpos (starEach (e::es) X.env)).all (λx=>!x.1)&&(backToKw cpos (keywordEach [] X.env)).all (λx=>x.1.isSome)
   && decide ((e::es).length+([]:List Keyword).length+(if ([]:List Keyword).isEmpty then 0 else 1)<30))=true:=by rfl)
  (hline:(apos.endLine == cpos.line)=true:=by rfl) (hs:starEach (e::es) X.env=(false,eval e X.env)::starEach es X.env:=by rfl) (hplain:(backTo cpos (starEach es X.env)).any (·.1)=false:=by rfl) :
  PE X (.Call (.Attribute o name apos) (e::es) [] cpos) (Ir X.K T r to t):=by
 intro dN s σ H Q I h;refine wpAny_Call_method_late hbase hfew hline rfl (g9 (ho dN s σ H _ I h) λv s1 ⟨x,H1,I1,r1,ty,q1⟩=>?_);obtain⟨h1,h2⟩:=Gs I1 r1 ty;refine⟨T,id,pa,slot,hty,h1,h2,?_⟩;have hA:=ha cpos dN s1 σ H1 _ I1 q1;rw[hs] at hA ⊢;refine Calls.callWith_builtin (by show (false||(backTo cpos (starEach es X.env)).any (·.1))=false;rw[hplain]<;>rfl) (Calls.evalArgs_plain ?_);exact g9 hA λus s2 ⟨vs,H2,I2,r2,q2⟩=>hm dN s2 σ H2 x vs v us Q I2 r1 r2 q2
end
end L2
namespace L2
open PySem PySem.Spec PyProof.Rows
def Jt(X:Cx)(id:String)(r:V->List V->Hp->VK->Prop):Prop:=
 ∀(dN:List (Addr×Obj)) (s:Shared) (σ:St) (H:Hp) (x:V) (xs:List V) (v:Value) (us:List Value) (Q:VK),eJ X dN σ H s->fM x v->eU xs us->r x xs H Q->
  wpAny (model X.prog X.w) X.A (call (.builtin id) (v::us)) (EP X dN σ Q) X.xe s
theorem eU.one:∀{x:V} {us:List Value},eU [x] us->∃u,us=[u]/\fM x u
 | _,_,.cons r .nil=>⟨_,rfl,r⟩
theorem eU.eraseIdx:∀{xs:List V} {us:List Value} (i:Nat),eU xs us->eU (xs.eraseIdx i) (us.eraseIdx i)
 | _,_,_,.nil=>.nil
 | _,_,0,.cons _ t=>t
 | _,_,i+1,.cons r t=>.cons r (eU.eraseIdx i t)
theorem eU.rep{xs:List V}{us:List Value}(h:eU xs us):∀k:Nat,eU (List.replicate k xs).flatten (List.replicate k us).flatten
 | 0=>.nil
 | k+1=>by rw[bS,bS,bT,bT];exact eU.append h (eU.rep h k)
theorem sk{α:Type}:∀(l:List α) (i:Nat),(l.eraseIdx i).length<=l.length
 | [],_=>aJ _
 | _::_,0=>bH _
 | _::r,i+1=>Nat.succ_le_succ (sk r i)
theorem sx(its:List Value):∀(k:Nat) (acc:List Value),
  List.foldl (λx1 x2=>x1++x2) acc.toArray (List.replicate k its.toArray)=(acc++(List.replicate k its).flatten).toArray
 | 0,acc=>by simp
 | k+1,acc=>by
  have e:acc.toArray++its.toArray=(acc++its).toArray:=by simp
  have e2:(acc++its)++(List.replicate k its).flatten=acc++(List.replicate (k+1) its).flatten:=by rw[bS,bT,bU]
  rw[<-e2,<-sx its k (acc++its),<-e,bS,List.foldl_cons]
section
variable {X:Cx}{dN:List (Addr×Obj)}{σ:St}{H:Hp}{s:Shared}{l b:Addr}{xs ys zs:List V}
theorem eJ.lset{its its':List Value}{n:Nat}{f:Array Value->Array Value}{t':Nat}(I:eJ X dN σ H s)(hH:H l=some (.lst xs))
  (e:s.heap.get? l=some {cls:=.type "list",data:=.seq its.toArray n}) (hf:f its.toArray=its'.toArray) (hv:eU ys its') (hz:ys.length<=sizeLine) :
  eJ X dN σ (gL H l (.lst ys)) {s with heap:=s.heap.update l (Obj.mapSeq f),toks:=t'}:=by
 have q:=PySem.IsL.update e f;rw[hf] at q;refine I.write (x:=l) (e:=l) (by rw[hH];exact trivial) (.inl rfl) (λb' u hb hu=>(Heap.get?_update_other s.heap (Obj.mapSeq f) (Ne.symm hb)).trans hu) ⟨_,q⟩ ?_;exact⟨hz,its',_,hv,q⟩
theorem eJ.lnew{its:List Value}{t':Nat}(I:eJ X dN σ H s)(hv:eU ys its)(hz:ys.length<=sizeLine) :
  eJ X dN σ (gL H s.heap.objs.size (.lst ys)) {s with heap:=s.heap.push {cls:=.type "list",data:=.seq its.toArray},toks:=t'}:=
 I.laid (λ_ _ q=>ae _ q) (aJ _) ⟨hz,its,0,hv,ar _ rfl⟩
theorem eJ.fresh(I:eJ X dN σ H s):H s.heap.objs.size=none:=I.hok.fresh (aJ _)
theorem eJ.lstM(I:eJ X dN σ H s)(hH:H l=some (.lst xs)):xs.length<=sizeLine/\∃(its:List Value) (n:Nat),eU xs its/\xs.length=its.length/\s.heap.get? l=some {cls:=.type "list",data:=.seq its.toArray n}:=by obtain⟨z,its,n,r,e⟩:=I.hok l _ hH;exact⟨z,its,n,r,r.length,e⟩
theorem AA{n:Nat}(h:n<=sizeLine):Builtin.List.listTooLong n=false:=by unfold Builtin.List.listTooLong;exact aA (by omega)
end
section
variable {X:Cx}
def pQ:V->List V->Hp->VK->Prop:=λx vs H Q=>∃l xs y,x=.ref l/\vs=[y]/\H l=some (.lst xs)/\xs.length<sizeLine/\Q .non (gL H l (.lst (xs++[y])))
theorem mv:Jt X "list.append" pQ:=by intro dN s σ H x vs v us Q I rx rv h;obtain⟨l,xs,y,rfl,rfl,hH,hz,q⟩:=h;cases rx;obtain⟨u,rfl,ru⟩:=rv.one;obtain⟨z,its,n,r,hl,e⟩:=I.lstM hH;refine call_meets F.slot_list_append ⟨_,e,rfl⟩ F.entry_list_append (F.args_list_append_2 _ _) (PySem.list_append l its.toArray n u (by rw[bC];omega)) ⟨e,?_⟩;refine⟨.non,_,I.lset (its':=its++[u]) hH e (by simp) (r.append (.cons ru .nil)) ?_,rfl,q⟩;rw[aS,bV];omega
def Bu:V->List V->Hp->VK->Prop:=λx vs H Q=>∃l xs i k y,x=.ref l/\vs=[.int i]/\H l=some (.lst xs)/\-(2 ^ 63)<=i/\i<2 ^ 63/\seqIndex? i xs.length=some k/\xs[k]? = some y/\Q y (gL H l (.lst (xs.eraseIdx k)))
theorem BK:Jt X "list.pop" Bu:=by
 intro dN s σ H x vs v us Q I rx rv h;obtain⟨l,xs,i,k,y,rfl,rfl,hH,h1,h2,hk,hy,q⟩:=h;cases rx;obtain⟨u,rfl,ru⟩:=rv.one;obtain⟨t,rfl⟩:=ru;obtain⟨z,its,n,r,hl,e⟩:=I.lstM hH;obtain⟨w,hw,rw'⟩:=r.get hy;refine call_meets F.slot_list_pop ⟨_,e,rfl⟩ F.entry_list_pop (F.args_list_pop_2 _ _)
  (MeetsSeq.list_pop_at l its.toArray n i t k w (fitsIndex_both h1 h2) (by rw[bC,<-hl];exact hk) (by rw[<-Array.getElem?_toList];exact hw) (by rw[bC];omega)) ⟨e,?_⟩
 refine⟨y,_,I.lset (its':=its.eraseIdx k) hH e ?_ (r.eraseIdx k) ?_,rw',q⟩
 ·show its.toArray.eraseIdxIfInBounds k=(its.eraseIdx k).toArray;rw[List.eraseIdxIfInBounds_toArray]
 ·have:=sk xs k;omega
def Gv:R2:=λx y H Q=>∃l b xs zs,x=.ref l/\y=.ref b/\H l=some (.lst xs)/\H b=some (.lst zs)/\xs.length+zs.length<=sizeLine/\∀p,H p=none->Q (.ref p) (gL H p (.lst (xs++zs)))
theorem BI:mM X (binaryOp .Add) Gv:=by
 intro dN s σ H x y v u Q I rx ry h;obtain⟨l,b,xs,zs,rfl,rfl,hH,hB,hz,q⟩:=h;cases rx;cases ry;obtain⟨z,its,n,r,hl,e⟩:=I.lstM hH;obtain⟨z2,its2,n2,r2,hl2,e2⟩:=I.lstM hB;refine PySem.P.add_list e e2 ?_ (by rw[bC,bC];omega);have ea:its.toArray++its2.toArray=(its++its2).toArray:=by simp
 rw[ea];exact⟨.ref _,_,I.lnew (t':=s.toks) (r.append r2) (by rw[aS];omega),rfl,q _ I.fresh⟩
def Hd:R2:=λx y H Q=>∃l k xs,x=.ref l/\y=.int k/\H l=some (.lst xs)/\-(2 ^ 63)<=k/\k<2 ^ 63/\xs.length*k.toNat<=sizeLine/\
 ∀p,H p=none->Q (.ref p) (gL H p (.lst (List.replicate k.toNat xs).flatten))
theorem DB{α:Type}(xs:List α)(k:Nat):(List.replicate k xs).flatten.length=k*xs.length:=by
 induction k with
 | zero=>simp
 | succ k ih=>rw[bS,bT,aS,ih,bW,Nat.add_comm]
theorem GH:mM X (binaryOp .Mult) Hd:=by
 intro dN s σ H x y v u Q I rx ry h;obtain⟨l,k,xs,rfl,rfl,hH,h1,h2,hz,q⟩:=h;cases rx;obtain⟨t,rfl⟩:=ry;obtain⟨z,its,n,r,hl,e⟩:=I.lstM hH;have jm:its.toArray.size*k.toNat<=sizeLine:=by rw[bC,<-hl];exact hz
 have hcap:¬its.toArray.size*k.toNat>(2 ^ 63 - 1) / 8:=by
  have:(sizeLine:Nat)<=(2 ^ 63 - 1) / 8:=by decide
  omega
 have hfit:¬(!Builtin.List.listFitsIndex k)=true:=by rw[fitsIndex_both h1 h2];exact aG
 have hlong:¬Builtin.List.listTooLong (its.toArray.size*k.toNat)=true:=by rw[AA jm];exact aG
 have hnew:List.foldl (λx1 x2=>x1++x2) #[] (List.replicate (if its.toArray.isEmpty=true then 0 else k.toNat) its.toArray)=(List.replicate k.toNat its).flatten.toArray:=by
  have f0:∀m:Nat,List.foldl (λx1 x2=>x1++x2) #[] (List.replicate m its.toArray)=(List.replicate m its).flatten.toArray:=λm=>by have:=sx its m [];rw[List.nil_append] at this;exact this
  rw[f0];cases its with
  | nil=>simp
  | cons a r'=>rw[aQ (by simp)]
 refine wpAny_binaryOp_repeat_ref (T:= "list") (U:= "int") (by decide) ⟨_,e,rfl⟩ (λs'=>typeIs_int s' k t) noFill_list_mul F.fills_int_mul F.slot_int_rmul repeat_list F.slot_int_index.lookup
  (call_meets F.slot_int_rmul (typeIs_int s k t) F.entry_int_rmul (F.args_int_rmul_2 _ _) (int___rmul___int_list k t l its.toArray n)
   ⟨e,rfl,⟨_,e,rfl⟩,call_meets F.slot_list_mul ⟨_,e,rfl⟩ F.entry_list_mul (F.args_list_mul_2 _ _) (AutoListH.list___mul___list_int_3 l its.toArray n k t hfit hcap hlong) ⟨e,?_⟩⟩)
 rw[hnew];exact⟨.ref _,_,I.lnew (t':=s.toks) (r.rep k.toNat) (by rw[DB,Nat.mul_comm];exact hz),rfl,q _ I.fresh⟩
end
section
variable {prog:Program}{w:World}{A:Around}{E:Value->Shared->Prop}{s:Shared}
end
section
variable {X:Cx}
end
end L2
namespace Att
open PySem PySem.W PySem.Calls PyProof.Rows
theorem pG{P:Params}{h:Heap}:∀(ns:LI) (vs:List Value),WellAll P h vs (ns.map WData.int)->IntsAre vs ns:=by
 intro ns;induction ns with
 | nil=>intro vs w;rw[List.map_nil] at w;cases w;exact .nil
 | cons n ns ih=>
  intro vs w;rw[bD] at w;cases w with
  | cons a b=>cases a;exact .cons _ _ (ih _ b)
theorem script_of{l:OpenLaw}{n:Nat}(hn:l.most=some n){P:Params}{h:Heap}{args:List WData}{vals:List Value}
  (hpre:l.row.toRowW.claim.pre args=true) (hwl:WellAll P h vals args) :
  ∃a vs ns,vals=[Value.ref a]/\args=[WData.list (ns.map WData.int)]/\h.get? a=some {cls:=.type "list",data:=.seq vs.toArray}/\IntsAre vs ns/\ns.length<=n:=by
 have hsh:WShape.hasAll [] args [.list .int]=true:=(pre_splitW hpre).1;have hc:l.pre.holds [] {args:=args}=true:=(pre_splitW hpre).2;obtain⟨d,r,rfl,h1,h2⟩:=hasAllW_cons hsh;obtain rfl:=hasAllW_nil h2;obtain⟨xs,rfl,h3⟩:=hasW_list h1;obtain⟨ns,rfl⟩:=items_int h3;have jm:ns.length<=n:=by
  unfold OpenLaw.pre at hc;have h4:(WTm.not (.lt (.lit (.int (n:Int))) (.len (.arg 0)))).holds [] {args:=[.list (ns.map .int)]}=true:=by have h4:=(holds_andW hc).1;rw[hn] at h4;exact h4
  have h5:=condW_of h4 (w_not (w_lt w_lit (w_len_list (w_arg rfl))));rw[aw] at h5;refine bX λq=>?_;have q':(n:Int)<((ns.length:Nat):Int):=by omega
  first
   | (rw[aB q'] at h5;exact absurd h5 (by decide))
   | (simp at h5;omega)
 cases hwl with
 | cons w1 w2=>
  cases w2;cases w1 with
  | list ho Ep=>exact⟨_,_,ns,rfl,rfl,ho,pG ns _ Ep,jm⟩
theorem post_true(l:OpenLaw)(args:List WData):l.row.toRowW.claim.post args (.bool true) args=true:=
 postW_of (r:=l.row.toRowW) (X:=(true == true))
  (show WShape.has [] (.bool true) .bool=true by first | rfl | decide | simp[WShape.has,WShape.arms,WShape.armsAll])
  (show (WTm.eq .res (.lit (.bool true))).value [] {args:=args,res:=some (.bool true),after:=args}=some (.bool (true == true)) from w_eq_bool (w_res rfl) w_lit) rfl
section
variable {prog:Program}{w:World}{A:Around}{E:Value->Shared->Prop}{s:Shared}{K:Frag}
end
end Att
namespace L2
open PySem PySem.Spec PyProof.Rows
theorem sI:∀{vs:List Value} {ns:LI},IntsAre vs ns->eU (ns.map V.int) vs
 | _,_,.nil=>.nil
 | _,_,.cons n t h=>.cons ⟨t,rfl⟩ (sI h)
def ET(H:Hp):Prop:=∀b,H b=none\/∃o xs,H b=some (.frz o (.lst xs))
theorem AQ{P:Program}{w:World}{K:W.Frag}{mg mb:Str->Option Value}{CX:zB}{k:Nat}{fa a:Addr}{fd:FuncData}{x:Str}{sp:Sp}{s₁:Shared}{vs:List Value}{ns:LI}
  (KX:K.In s₁.heap) (hns:s₁.heap.Ns mainGlobals mg) (hb:s₁.heap.Ns builtinsNs mb) (hbb:∀x:Str,x≠ "__name__" ->mb x=bootBuiltins x) (hlim:s₁.heap.NoLimit) (hg:s₁.gens = #[])
  (ha:s₁.heap.get? a=some {cls:=.type "list",data:=.seq vs.toArray}) (hi:IntsAre vs ns) (hl:ns.length<=sizeLine) (hr:gh k callerA)
  (F:∀base:Heap,K.In base->base.Ns mainGlobals mg->j6 P w K mg base CX k fa fd [x] sp) (hbind:∀(s:Shared) (u:Value),BindsTo s fd ⟨[u],[]⟩ [(x,u)])
  (hsp:∀H:Hp,ET H->jq K H a (ns.map V.int)->sp [.ref a] H (λv _=>v=.bl true) λ_ _ _=>False)
  (hCX:∀H e s',CX [] H s₁ (λ_ _ _=>False) e s'->False) :
  codeAny (model P w) callerA (.call (.ref fa) ⟨[.ref a],[]⟩) (λr s'=>r=.ok (.ret (.bool true))/\OldK s₁.heap s'.heap/\s'.os=s₁.os/\AllBare s'.gens) s₁:=by
 have rv:=sI hi;have lenV:=hi.length;have core:∀H:Hp,ET H->jq K H a (ns.map V.int)->oA P w H s₁.heap->(∀b,H b≠none->b=a)->(H a≠none->K.lookup a=none)->
   codeAny (model P w) callerA (.call (.ref fa) ⟨[.ref a],[]⟩) (λr s'=>r=.ok (.ret (.bool true))/\OldK s₁.heap s'.heap/\s'.os=s₁.os/\AllBare s'.gens) s₁:=by
  intro H hO hS hok hA hK;have base_of:∀{b:Addr} {o:Obj},s₁.heap.get? b=some o->H b=none->(tf s₁.heap H).get? b=some o:=λe n=>zZ e n;have noA:∀{b:Addr} {o:Obj} {es:Array DictEntry} {ep:Nat},s₁.heap.get? b=some o->o.data=.dict es ep->H b=none:=λ{b o es ep} e d=>by
   cases q:H b with
   | none=>rfl
   | some u=>have e':b=a:=hA b (by rw[q];simp);subst e';rw[ha] at e;cases e;have d':Data.seq vs.toArray _=Data.dict es ep:=d;cases d'
  have nsK:∀{b:Addr} {m:Str->Option Value},s₁.heap.Ns b m->(tf s₁.heap H).Ns b m:=λ{b m} ⟨o,es,ep,e,d,r⟩=>⟨o,es,ep,base_of e (noA e d),d,r⟩;have hKb:K.In (tf s₁.heap H):=λb o e=>base_of (KX b o e) (by
   cases q:H b with
   | none=>rfl
   | some u=>have e':b=a:=hA b (by rw[q];simp);subst e';rw[hK (by rw[q];simp)] at e;cases e)
  have hM:Mod K mg (tf s₁.heap H):=⟨hKb,nsK hns,⟨mb,nsK hb,hbb⟩,let ⟨mc,h1,h2⟩:=hlim;⟨mc,nsK h1,h2⟩⟩;have e0:vV P w K mg (tf s₁.heap H) callerA [] s₁ H:=⟨rfl,hM,λb o e=>DM e,Nat.le_of_eq (yR _ _),trivial,λb hb=>absurd (show b∈([]:List Addr) from hb) (by simp),hok,.of_eq hg⟩;refine codeAny_mono ((F _ hKb (nsK hns)).run callerA [] s₁ H ⟨[.ref a],[]⟩ [.ref a] [.ref a] _ _ hr e0 (hbind s₁ (.ref a)) (.cons rfl .nil) (hsp H hO hS)) λr s' h=>?_;cases r with
  | error e=>exact (hCX H e s' h).elim
  | ok fl=>
   cases fl with
   | next=>exact False.elim h
   | brk=>exact False.elim h
   | cont=>exact False.elim h
   | ret u=>
    obtain⟨v,H',os,bare,un,hok',r',q⟩:=h;have q':v=.bl true:=q;subst q';obtain rfl:u=Value.bool true:=r';refine⟨rfl,OldK.of_keep λb o e=>?_,os,bare⟩;cases q:H b with
    | none=>exact un.keep b o e q (by intro z;exact absurd (show b∈([]:List Addr) from z) (by simp)) (by simp)
    | some u=>
     rcases hO b with z | ⟨ob,xs,z⟩
     ·rw[q] at z;cases z
     ·have z2:=un.frzs b ob _ z;obtain⟨e1,_⟩:=hok b _ z;obtain⟨e2,_⟩:=hok' b _ z2;rw[e] at e1;cases e1;exact e2
 cases hk:K.lookup a with
 | some o=>have e:=KX a o hk;rw[ha] at e;cases e;refine core (λ_=>none) (λ_=>.inl rfl) (.inr ⟨_,vs.toArray,_,hk,rfl,rfl,rfl,by rw[bC,lenV];exact hl,by simpa using rv⟩) (λb u z=>by have z':(none:Option HO)=some u:=z;cases z') (λb z=>absurd rfl z) λz=>absurd rfl z
 | none=>
  refine core (λb=>if b=a then some (.frz {cls:=.type "list",data:=.seq vs.toArray} (.lst (ns.map V.int))) else none) (λb=>?_) (.inl (.inr ⟨{cls:=.type "list",data:=.seq vs.toArray},aP rfl⟩)) (λb u z=>?_) (λb z=>?_) λ_=>hk
  ·by_cases hb:b=a
   ·exact .inr ⟨_,_,aP hb⟩
   ·exact .inl (aQ hb)
  ·by_cases hb:b=a
   ·have z':=(aP hb).symm.trans z;cases z';subst hb;exact⟨ha,by rw[aw];exact hl,vs,_,rv,ha⟩
   ·have z':=(aQ hb).symm.trans z;cases z'
  ·by_cases hb:b=a
   ·exact hb
   ·exact absurd (aQ hb) z
end L2
namespace L2
open PySem PySem.Spec PyProof.Rows
end L2
namespace L2
open PySem PySem.Spec PyProof.Rows
def ko(s:Stmt)(j:Nat):Stmt:=match s with
 | .ClassDef _ _ _ body _ _ _ _ _ _ _=>body.getD j (.Pass ⟨0,0,0,0⟩)
 | _=>.Pass ⟨0,0,0,0⟩
def gA(s:Stmt):Arguments:=match s with
 | .FunctionDef _ a _ _ _ _ _ _ _ _=>a
 | _=>{posonlyargs:=[],args:=[],vararg:=none,kwonlyargs:=[],kw_defaults:=[],kwarg:=none,defaults:=[]}
def fu(s:Stmt):List Stmt:=match s with
 | .FunctionDef _ _ b _ _ _ _ _ _ _=>b
 | _=>[]
def dY(s:Stmt):Scope:=match s with
 | .FunctionDef _ _ _ _ _ _ sc _ _ _=>sc
 | _=>{kind:=.function,names:=[],isGenerator:=false,isCoroutine:=false}
abbrev qX:zB:=λ_ _ _ _ _ _=>False
abbrev E0:XK:=λ_ _ _=>False
theorem BC{X:Cx}:oC qX X E0:=λ_ _ _ _ _ _ _ h=>h.elim
structure B7(K:W.Frag)(x qual:Str)(st:Stmt)(f:Addr)(fd:FuncData):Prop where
 ex:∃(oc:Value) (od:Option Addr) (kV doc pm:Value) (an:Option Addr) (cdv ct:Value) (osl:Array (Option Value)),
  fd=W.fnOf x qual (gA st) (fu st) (dY st) .none kV doc pm an cdv ct/\K.lookup f=some ⟨oc,od,.func fd,osl⟩/\W.codeIn K cdv qual=true
 kp:W.keepIn K (.ref f)=true
section
variable {P:Program}{w:World}{K:W.Frag}{mg:Str->Option Value}{base:Heap}
theorem B7.ok{x qual:Str}{st:Stmt}{f:Addr}{fd:FuncData}{N ps:List Str}{k:Nat}{sp:Sp}(F:B7 K x qual st f fd)(S:gd N ps (dY st))(len:∀vs H Q E,sp vs H Q E->vs.length=ps.length)
  (hbody:∀(cdv:Value) (A:Around) (outer:List Env) (s:Shared) (H:Hp) (vs:List V) (Q:VK) (E:XK),gh k (A.deeper (envOfC qual (dY st) s.heap.objs.size f cdv))->sp vs H Q E->
   ∃t,uI (lV qX P w K mg base N qual (dY st) f cdv A outer s H E).nox (fu st) t/\t {nx:=λ_ H'=>Q .non H',rt:=Q} (ju N vs) H):j6 P w K mg base qX (k+1) f fd ps sp:=by
 obtain⟨oc,od,kV,doc,pm,an,cdv,ct,osl,rfl,lk,hcd⟩:=F.ex;refine Hb lk hcd S len λA outer s H vs Q E hr hsp=>?_;obtain⟨t,h,q⟩:=hbody cdv A outer s H vs Q E hr hsp;exact⟨t,h.nox,q⟩
theorem B7.binds{x qual:Str}{st:Stmt}{f:Addr}{fd:FuncData}{ps:List Str}(F:B7 K x qual st f fd)
  (h:∀(kV doc pm:Value) (an:Option Addr) (cdv ct:Value) (us:List Value),us.length=ps.length->bindArgs (W.fnOf x qual (gA st) (fu st) (dY st) .none kV doc pm an cdv ct) ⟨us,[]⟩=pure (ps.zip us)):lW K fd ps []:=by
 obtain⟨oc,od,kV,doc,pm,an,cdv,ct,osl,rfl,lk,hcd⟩:=F.ex;exact .all (h kV doc pm an cdv ct)
theorem xF{x qual:Str}{st:Stmt}{f:Addr}{oc:Value}{od an:Option Addr}{osl:Array (Option Value)}{kV doc pm cdv ct:Value}(l:K.lookup f=some ⟨oc,od,.func (W.fnOf x qual (gA st) (fu st) (dY st) .none kV doc pm an cdv ct),osl⟩)
  (c:W.codeIn K cdv qual=true) (k:W.keepIn K (.ref f)=true):B7 K x qual st f (W.fnOf x qual (gA st) (fu st) (dY st) .none kV doc pm an cdv ct):=⟨⟨oc,od,kV,doc,pm,an,cdv,ct,osl,rfl,l,c⟩,k⟩
end
section
variable {X:Cx}
theorem pv(i:Nat){x:Str}{pos:Pos}(hN:X.N[i]? = some x:=by rfl)(hv:Hr X.env.scope x:=by first | exact Or.inl rfl | exact Or.inr (Or.inl rfl) | exact Or.inr (Or.inr rfl))(hd:(x == ("__debug__" : Str))=false:=by decide)
  (hcd:(x == ("__classdict__" : Str))=false:=by decide):PE X (.Name x pos) (kW i):=Fy hN hv hd hcd
end
def eL(H H':Hp):Prop:=∀b o,H b=some o->H' b=some o
theorem eL.refl(H:Hp):eL H H:=λ_ _ h=>h
theorem eL.trans{H H1 H2:Hp}(a:eL H H1)(b:eL H1 H2):eL H H2:=λc o h=>b c o (a c o h)
theorem eL.seq{K:W.Frag}{H H':Hp}{a:Addr}{xs:List V}(e:eL H H')(h:jq K H a xs):jq K H' a xs:=by
 rcases h with (h | ⟨o,h⟩) | h
 ·exact .inl (.inl (e _ _ h))
 ·exact .inl (.inr ⟨o,e _ _ h⟩)
 ·exact .inr h
end L2
namespace L2
open PySem PySem.Spec PyProof.Rows
section
variable {P:Program}{w:World}{H:Hp}{h:Heap}{a:Addr}{o:HO}
theorem oA.track(ok:oA P w H h)(hn:H a=none)(new:ig P w (gL H a o) h a o):oA P w (gL H a o) h:=λb u e=>by
 by_cases hb:b=a
 ·subst hb;rw[eC] at e;cases e;exact new
 ·rw[eD hb] at e;refine (ok b u e).stay (λ_ _ _ q=>q) (λc q=>?_) λc xs q=>?_
  ·rw[eD (eO q hn)];exact q
  ·rw[eD (eO q hn)];exact q
end
theorem eJ.track{X:Cx}{dN:List (Addr×Obj)}{σ:St}{H:Hp}{s:Shared}{a:Addr}{o:HO}(I:eJ X dN σ H s)(hn:H a=none)(h1:a∈X.ex\/X.s₀.heap.objs.size<=a)
  (hL:a≠X.env.locals) (h2:∀x c,X.env.cells.lookup x=some c->c≠a) (h3:∀p∈X.pn++dN,p.1≠a) (new:ig X.prog X.w (gL H a o) s.heap a o):eJ X dN σ (gL H a o) s:=by
 have J:=I.step (h':=s.heap) (H':=gL H a o) (g':=s.gens) (t':=s.toks) (d':=s.drawn) (ch:=[a])
  (λb hb=>by
   have e:b=a:=by simpa using hb
   subst e;exact⟨h1,hL,h2,h3⟩)
  (λ_ _ _ _ _ e _=>e) (λ_ u _ _ _ e _=>⟨u.slots,e⟩)
  (λb u hb _ n=>by rw[eD (by simpa using hb)];exact n)
  (λ_ u _ e=>⟨u,e⟩)
  (λb xs q=>by rw[eD (eO q hn)];exact q)
  (λb u v q=>by rw[eD (eO q hn)];exact q)
  (λb ps q=>⟨#[],by rw[eD (eO q hn),q];simp⟩)
  (λ_ q=>q) (I.hok.track hn new) I.bare
 exact J
def jO(env:Env):List (Str×NameKind)->List (Str×Addr)->List (Str×Addr)
 | [],acc=>acc
 | (n,k)::r,acc=>if k == NameKind.free then (match env.cells.lookup n with
  | some c=>jO env r ((n,c)::acc)
  | none=>jO env r acc) else jO env r acc
theorem mH{scope:Scope}{env:Env}(h:∀y∈scope.names,y.2=.free->∃c,env.cells.lookup y.1=some c):closureFor scope env=pure (jO env scope.names []):=by
 have all:∀(l:List (Str×NameKind)) (acc:List (Str×Addr)),(∀y∈l,y.2=.free->∃c,env.cells.lookup y.1=some c)->
   (forIn l acc λ(x:Str×NameKind) (cs:List (Str×Addr))=>(if (x.2 == NameKind.free)=true then (do
    let a <-cellOf env x.1
    pure (ForInStep.yield ((x.1,a)::cs))) else pure (ForInStep.yield cs):Sem _))=pure (jO env l acc):=by
  intro l;induction l with
  | nil=>intro acc _;rfl
  | cons y r ih=>
   intro acc hl;obtain⟨n,k⟩:=y;rw[List.forIn_cons];by_cases hk:(k == NameKind.free)=true
   ·obtain⟨c,hc⟩:=hl (n,k) bh (by simpa using hk);have hc':env.cells.lookup n=some c:=hc;have e:cellOf env n=pure c:=by unfold cellOf;rw[hc']
    simp only[hk,if_true,e,pure_bind];rw[ih _ λy hy=>hl y (bj _ hy)];show pure (jO env r ((n,c)::acc))=pure (if (k == NameKind.free)=true then (match env.cells.lookup n with
     | some c=>jO env r ((n,c)::acc)
     | none=>jO env r acc) else jO env r acc)
    rw[aP hk,hc']
   ·have hk':(k == NameKind.free)=false:=by simpa using hk
    simp only[hk',bY,if_false,pure_bind];rw[ih _ λy hy=>hl y (bj _ hy)];show pure (jO env r acc)=pure (if (k == NameKind.free)=true then (match env.cells.lookup n with
     | some c=>jO env r ((n,c)::acc)
     | none=>jO env r acc) else jO env r acc)
    rw[aQ hk]
 have:=all scope.names [] h;unfold closureFor;simp only[pure_bind,bind_pure] at this ⊢;exact this
theorem jx{env:Env}{x:Str}{c:Addr}:∀{l:List (Str×NameKind)} {acc:List (Str×Addr)},(∀y d,acc.lookup y=some d->env.cells.lookup y=some d)->(jO env l acc).lookup x=some c->env.cells.lookup x=some c
 | [],acc,ha,h=>ha x c h
 | (n,k)::r,acc,ha,h=>by
  unfold jO at h;by_cases hk:(k == NameKind.free)=true
  ·rw[aP hk] at h;cases e:env.cells.lookup n with
   | none=>rw[e] at h;exact jx ha h
   | some d=>
    rw[e] at h;refine jx (λy d' hy=>?_) h;rw[bZ] at hy;cases q:y == n with
    | true=>rw[q] at hy;cases hy;rw[beq_iff_eq.mp q];exact e
    | false=>rw[q] at hy;exact ha y d' hy
  ·rw[aQ hk] at h;exact jx ha h
theorem mw{env:Env}{x:Str}:∀{l:List (Str×NameKind)} {acc:List (Str×Addr)},(∃c,acc.lookup x=some c)->∃c,(jO env l acc).lookup x=some c
 | [],_,h=>h
 | (n,k)::r,acc,h=>by
  unfold jO;by_cases hk:(k == NameKind.free)=true
  ·rw[aP hk];cases e:env.cells.lookup n with
   | none=>exact mw h
   | some d=>
    refine mw ?_;rw[bZ];cases q:x == n with
    | true=>exact⟨d,rfl⟩
    | false=>exact h
  ·rw[aQ hk];exact mw h
theorem kQ{env:Env}{x:Str}:∀{l:List (Str×NameKind)} {acc:List (Str×Addr)},(x,NameKind.free)∈l->(∃c,env.cells.lookup x=some c)->∃c,(jO env l acc).lookup x=some c
 | (n,k)::r,acc,hm,hc=>by
  rcases aE.mp hm with e | hm
  ·cases e;obtain⟨c,hc⟩:=hc;unfold jO;rw[aP (by rfl),hc];refine mw ⟨c,?_⟩;rw[bZ,beq_self_eq_true]
  ·unfold jO;by_cases hk:(k == NameKind.free)=true
   ·rw[aP hk];cases env.cells.lookup n with
    | none=>exact kQ hm hc
    | some d=>exact kQ hm hc
   ·rw[aQ hk];exact kQ hm hc
theorem nq{scope:Scope}{env:Env}{x:Str}(h:(relabel scope env).names.lookup x=some .cell\/(relabel scope env).names.lookup x=some .free):(x,NameKind.free)∈scope.names\/scope.names.lookup x=some .cell:=by
 have all:∀(l:List (Str×NameKind)),∀k,(k=NameKind.cell\/k=NameKind.free)->
   (l.map λ(n,k)=>if (k == NameKind.free&&env.scope.kind == .function&&env.kindOf n == some .cell) then (n,NameKind.cell) else (n,k)).lookup x=some k->(x,NameKind.free)∈l\/l.lookup x=some .cell:=by
  intro l;induction l with
  | nil=>intro k _ h;simp at h
  | cons y r ih=>
   intro k hk h;obtain⟨n,k0⟩:=y;rw[bD] at h;by_cases hc:(k0 == NameKind.free&&env.scope.kind == .function&&env.kindOf n == some .cell)=true
   ·have hf:k0=.free:=by simp only[bO,beq_iff_eq] at hc;exact hc.1.1
    simp only[hc,if_true] at h;rw[bZ] at h;cases q:x == n with
    | true=>rw[hf,beq_iff_eq.mp q];exact .inl bh
    | false=>
     rw[q] at h;rcases ih k hk h with z | z
     ·exact .inl (bj _ z)
     ·exact .inr (by rw[bZ,q];exact z)
   ·simp only[hc,bY,if_false] at h;rw[bZ] at h;cases q:x == n with
    | true=>
     rw[q] at h;have e:k0=k:=by simpa using h
     rcases hk with rfl | rfl
     ·exact .inr (by rw[bZ,q,e])
     ·rw[e,beq_iff_eq.mp q];exact .inl bh
    | false=>
     rw[q] at h;rcases ih k hk h with z | z
     ·exact .inl (bj _ z)
     ·exact .inr (by rw[bZ,q];exact z)
 rcases h with h | h
 ·exact all scope.names _ (.inl rfl) h
 ·exact all scope.names _ (.inr rfl) h
theorem tZ{scope:Scope}{env:Env}{x:Str}(h:scope.names.lookup x=some .free):(relabel scope env).names.lookup x=some .cell\/(relabel scope env).names.lookup x=some .free:=by
 have all:∀(l:List (Str×NameKind)),l.lookup x=some .free->
   (l.map λ(n,k)=>if (k == NameKind.free&&env.scope.kind == .function&&env.kindOf n == some .cell) then (n,NameKind.cell) else (n,k)).lookup x=some .cell\/
   (l.map λ(n,k)=>if (k == NameKind.free&&env.scope.kind == .function&&env.kindOf n == some .cell) then (n,NameKind.cell) else (n,k)).lookup x=some .free:=by
  intro l;induction l with
  | nil=>intro h;simp at h
  | cons y r ih=>
   intro h;obtain⟨n,k⟩:=y;rw[bD];rw[bZ] at h;cases q:x == n with
   | true=>
    rw[q] at h;have hk:k=.free:=by simpa using h
    by_cases hc:(k == NameKind.free&&env.scope.kind == .function&&env.kindOf n == some .cell)=true
    ·refine .inl ?_;simp only[hc,if_true];rw[bZ,q]
    ·refine .inr ?_;simp only[hc,bY,if_false];rw[bZ,q,hk]
   | false=>
    rw[q] at h;by_cases hc:(k == NameKind.free&&env.scope.kind == .function&&env.kindOf n == some .cell)=true
    ·simp only[hc,if_true];rw[bZ,q];exact ih h
    ·simp only[hc,bY,if_false];rw[bZ,q];exact ih h
 exact all scope.names h
def zu(X:Cx)(ifs:List Expr)(t:TT):Prop:=
 ∀(dN:List (Addr×Obj)) (s:Shared) (σ:St) (H:Hp) (Q:Bool->Hp->Prop),eJ X dN σ H s->t σ H Q->
  wpAny (model X.prog X.w) X.A (forIn ifs true λc r=>if r=true then do let ok <-isTrue c X.env (eval c X.env);pure (ForInStep.yield ok) else pure (ForInStep.yield r)) (TP X dN σ Q) X.xe s
def FM:TT:=λ_ H Q=>Q true H
theorem Dr{X:Cx}:zu X [] FM:=λ_ _ _ H _ I h=>wpAny_tests_nil ⟨H,I,h⟩
theorem DY{X:Cx}{c:Expr}{t:TT}(hc:PT X c t):zu X [c] t:=λdN s σ H Q I h=>wpAny_tests_one (hc dN s σ H Q I h)
theorem kf{x:Str}{c:Addr}:∀(names:List (Str×NameKind)) (k:Nat) (acc:List (Str×Addr)),(cellsFrom k names acc).lookup x=some c->acc.lookup x=some c\/(k<=c/\(x,NameKind.cell)∈names)
 | [],_,_,h=>.inl h
 | (n,kd)::r,k,acc,h=>by
  unfold cellsFrom at h;split at h
  ·rename_i hk;rcases kf r _ _ h with q | ⟨q,m⟩
   ·rw[bZ] at q;cases hb:x == n with
    | true=>rw[hb] at q;cases q;refine .inr ⟨aJ _,?_⟩;rw[beq_iff_eq.mp hb,beq_iff_eq.mp hk];exact bh
    | false=>rw[hb] at q;exact .inl q
   ·exact .inr ⟨b4 q,bj _ m⟩
  ·rcases kf r _ _ h with q | ⟨q,m⟩
   ·exact .inl q
   ·exact .inr ⟨q,bj _ m⟩
theorem jH{x:Str}:∀(names:List (Str×NameKind)) (k:Nat) (acc:List (Str×Addr)),(x,NameKind.cell)∉names->(cellsFrom k names acc).lookup x=acc.lookup x
 | [],_,_,_=>rfl
 | (n,kd)::r,k,acc,h=>by
  unfold cellsFrom;have hr:(x,NameKind.cell)∉r:=λz=>h (bj _ z);split
  ·rename_i hk;rw[jH r _ _ hr,bZ];cases hb:x == n with
   | true=>exact absurd (by rw[beq_iff_eq.mp hb,beq_iff_eq.mp hk];exact bh) h
   | false=>rfl
  ·exact jH r _ _ hr
theorem kD{x:Str}{c:Addr}:∀(names:List (Str×NameKind)) (k:Nat) (acc:List (Str×Addr)),(x,NameKind.cell)∈names->(cellsFrom k names acc).lookup x=some c->k<=c
 | [],_,_,h,_=>nomatch h
 | (n,kd)::r,k,acc,h,e=>by
  unfold cellsFrom at e;by_cases hr:(x,NameKind.cell)∈r
  ·split at e
   ·exact b4 (kD r _ _ hr e)
   ·exact kD r _ _ hr e
  ·rcases aE.mp h with q | q
   ·cases q;rw[aP (by rfl),jH r _ _ hr,bZ,beq_self_eq_true] at e;cases e;exact aJ _
   ·exact absurd q hr
theorem kv:∀(names:List (Str×NameKind)) (k:Nat) (acc:List (Str×Addr)),(∀x y c,acc.lookup x=some c->acc.lookup y=some c->x=y)->(∀x c,acc.lookup x=some c->c<k)->
  ∀x y c,(cellsFrom k names acc).lookup x=some c->(cellsFrom k names acc).lookup y=some c->x=y
 | [],_,_,h,_=>h
 | (n,kd)::r,k,acc,h,hl=>by
  unfold cellsFrom;split
  ·refine kv r (k+1) ((n,k)::acc) (λx y c h1 h2=>?_) λx c h1=>?_
   ·rw[bZ] at h1 h2;cases e1:x == n with
    | true=>
     cases e2:y == n with
     | true=>rw[beq_iff_eq.mp e1,beq_iff_eq.mp e2]
     | false=>rw[e1] at h1;rw[e2] at h2;cases h1;exact absurd (hl _ _ h2) (aZ _)
    | false=>
     rw[e1] at h1;cases e2:y == n with
     | true=>rw[e2] at h2;cases h2;exact absurd (hl _ _ h1) (aZ _)
     | false=>rw[e2] at h2;exact h x y c h1 h2
   ·rw[bZ] at h1;cases e1:x == n with
    | true=>rw[e1] at h1;cases h1;exact bE _
    | false=>rw[e1] at h1;exact b5 (hl x c h1)
  ·exact kv r k acc h hl
theorem j5{x:Str}{c:Addr}:∀(names:List (Str×NameKind)) (h:Heap) (acc:List (Str×Addr)),(cellsFrom h.objs.size names acc).lookup x=some c->acc.lookup x=some c\/(h.objs.size<=c/\(pushCells h names).IsCell c none)
 | [],_,_,e=>.inl e
 | (n,kd)::r,h,acc,e=>by
  unfold cellsFrom at e;unfold pushCells;split at e
  ·rename_i hk;rw[aP hk];have e':(cellsFrom (h.push {cls:=.type "cell",data:=.cell none}).objs.size r ((n,h.objs.size)::acc)).lookup x=some c:=by rw[Heap.size_push];exact e
   rcases j5 r _ _ e' with q | ⟨q,m⟩
   ·rw[bZ] at q;cases hb:x == n with
    | true=>rw[hb] at q;cases q;exact .inr ⟨aJ _,_,pushCells_keeps r _ _ _ (ar _ rfl),rfl⟩
    | false=>rw[hb] at q;exact .inl q
   ·rw[Heap.size_push] at q;exact .inr ⟨b4 q,m⟩
  ·rename_i hk;rw[aQ hk];exact j5 r _ _ e
theorem oM{M:Model}{A:Around}{E:Value->Shared->Prop}{s:Shared}{scope:Scope}{globals:Addr}{closure:List (Str×Addr)}{qual:Str}{func:Option Addr}{code:Value}{outer:Env}{builtins:Addr}{Q:Env->Shared->Prop}
  (hQ:Q (newEnv scope s.heap.objs.size globals (cellsFrom (s.heap.objs.size+1) scope.names closure) qual func code (some outer) builtins) {s with heap:=pushCells (s.heap.push {cls:=.type "dict",data:=.dict #[]}) scope.names}) :
  wpAny M A (newFunctionEnv scope globals closure [] qual func code (some outer) builtins) Q E s:=by
 simp only[newFunctionEnv,Option.isSome_some,if_true];refine ao (wpAny_alloc ?_);refine ao (wpAny_layCells _ (λname kind cells=>by cases hkc:kind == NameKind.cell<;>simp[hkc]) _ _ _ _ ?_);rw[show ({s with heap:=s.heap.push {cls:=.type "dict",data:=.dict #[]}}:Shared).heap.objs.size=s.heap.objs.size+1 from Heap.size_push ..];rw[List.forIn_nil];exact ao (ak (ak hQ))
def jW(X:Cx)(N:List Str)(scope:Scope)(C:Addr)(s₃:Shared)(H:Hp)(ex:List Addr)(pn:List (Addr×Obj)):Cx:={X with N:=N,s₀:=s₃,H₀:=H,env:=compEnvC scope (cellsFrom (C+1) scope.names (jO X.env scope.names [])) C X.env,outer:=X.stack,ex:=ex,fn:=λx=>scope.names.lookup x == some .cell,pn:=pn,xe:=λ_ _=>False}
def pull(ix:List (Option Nat))(σ:St):St:=ix.map fun
 | none=>none
 | some j=>(σ[j]?).getD none
def Jq(J:It)(ix:List (Option Nat))(g:TG)(tt:TT)(te:TE)(σ:St)(H1:Hp)(Q:VK):Prop:=∃W:Nat->Nat->List V->Hp->Prop,(∃m,W 0 m [] H1)/\∀i m ys H,W i m ys H->
 (J.stop i H/\∀D,H D=none->Q (.ref D) (gL H D (.lst ys)))\/
 (J.go i H/\ys.length<sizeLine/\∀x H',J.yld i H x H'->g x (pull ix σ) H' λσ2 H2=>tt σ2 H2 λb H3=>if b=true then te σ2 H3 λy H4=>∃m',m'<m/\W (i+1) m' (ys++[y]) H4 else ∃m',m'<m/\W (i+1) m' ys H3)
def BH(ix:List (Option Nat))(wi:TI)(g:TG)(tt:TT)(te:TE):TE:=λσ H Q=>wi σ H λJ H1=>Jq J ix g tt te σ H1 Q
end L2
namespace L2
open PySem PySem.Spec PyProof.Rows
section
variable {prog:Program}{w:World}{A:Around}{R:Result->Shared->Prop}{s:Shared}
theorem sS{elt tg iter:Expr}{ifs:List Expr}{scope:Scope}{pos:Pos}{it acc:Value}{env:Env}(J:Nat->Shared->Prop)
  (turn:∀n s,J n s->wpAny (model prog w) A (pyNext it) (λr s₁=>match r with
   | none=>R (.ok .next) s₁
   | some v=>wpAny (model prog w) A (letOwnedTupleGo tg it v) (λ_ s₂=>wpAny (model prog w) A (assign tg env v) (λ_ s₃=>
     wpAny (model prog w) A (forIn ifs true λc r=>if r=true then do let ok <-isTrue c env (eval c env);pure (ForInStep.yield ok) else pure (ForInStep.yield r)) (λok s₄=>
      if ok=true then wpAny (model prog w) A (eval elt env) (λx s₅=>wpAny (model prog w) A (call (.builtin "list.append") [acc,x]) (λ_ s₆=>∃m,m<n/\J m s₆) (λ_ _=>False) s₅) (λ_ _=>False) s₄
      else ∃m,m<n/\J m s₄) (λ_ _=>False) s₃) (λ_ _=>False) s₂) (λ_ _=>False) s₁) (λ_ _=>False) s)
  (n:Nat) (h:J n s):codeAny (model prog w) A (.compLoop (.ListComp elt [⟨tg,iter,ifs,0⟩] scope pos) 0 it acc env) R s:=by
 refine codeAny_loop rfl J (λn s hJ=>?_) n h;show wpAny _ A ((compTurn (.ListComp elt [⟨tg,iter,ifs,0⟩] scope pos) 0 it acc env).onRaise (λx=>do noteFrame x env;theTreesLotGoes x)) _ _ s;refine wpAny_noted ?_;rw[compTurn_list];refine ao (wpAny_standAt (ao (wpAny_mono (turn n s hJ) (λr s₁ h₁=>?_) λ_ _ z=>z.elim)));cases r with
 | none=>exact ak h₁
 | some v=>
  refine ao (wpAny_mono h₁ (λ_ s₂ h₂=>?_) λ_ _ z=>z.elim);refine ao (wpAny_mono h₂ (λ_ s₃ h₃=>ao (wpAny_mono h₃ (λok s₄ h₄=>?_) λ_ _ z=>z.elim)) λ_ _ z=>z.elim);cases ok with
  | false=>exact ak ⟨rfl,h₄⟩
  | true=>exact ao (ao (wpAny_mono h₄ (λx s₅ h₅=>ao (wpAny_mono h₅ (λ_ s₆ h₆=>ak (ak ⟨rfl,h₆⟩)) λ_ _ z=>z.elim)) λ_ _ z=>z.elim))
end
def lF(ix:List (Option Nat))(g:TG):Prop:=∀x σ1 H Q,g x σ1 H Q->g x σ1 H λσ2 H2=>(∀i j:Nat,ix[i]? = some (some j)->σ2[i]? = σ1[i]?)/\Q σ2 H2
theorem qy{ix:List (Option Nat)}{k:Nat}(hk:ix[k]? = some none):lF ix (ir k):=λx σ1 H Q h=>by
 refine⟨λi j e=>?_,h⟩;have:k≠i:=by rintro rfl;rw[hk] at e;cases e
 rw[aq this]
abbrev rH(us:List Value):Obj:={cls:=.type "list",data:=.seq us.toArray us.length}
section
variable {X:Cx}{tg elt iter:Expr}{ifs:List Expr}{scope:Scope}{pos:Pos}{N:List Str}{ix:List (Option Nat)}{wi:TI}{g:TG}{tt:TT}{te:TE}
structure vf(X:Cx)(scope:Scope)(N:List Str)(ix:List (Option Nat)):Prop where
 kind:scope.kind=.function
 sep:∀y∈scope.names,y.2=.cell->scope.names.lookup y.1=some .cell
 names:∀y∈scope.names,y.2=.local->scope.names.lookup y.1=some .local
 fre:∀y∈scope.names,y.2=.free->∃c,X.env.cells.lookup y.1=some c
 len:N.length=ix.length
 ix:∀(i j:Nat) (x:Str),N[i]? = some x->ix[i]? = some (some j)->X.N[j]? = some x/\scope.names.lookup x=some .free/\Hr X.env.scope x/\X.env.kindOf x≠some .local
theorem Hc{dN:List (Addr×Obj)}{σ:St}{H:Hp}{s:Shared}{fp:List Addr}(L:vf X scope N ix)(I:eJ X dN σ H s)(f:∀b∈fp,pI X dN H b)(hlt:∀b∈fp,b<s.heap.objs.size)(o:Obj) :
  (jW X N scope (s.heap.objs.size+1) {s with heap:=s.heap.push o} H (s.heap.objs.size::fp) (X.pn++dN)).Ok:=by
 have I1:eJ X dN σ H {s with heap:=s.heap.push o}:=I.kept (t':=s.toks) λb u e=>ae _ e;have sound0:∀x c,(jO X.env scope.names []).lookup x=some c->X.env.cells.lookup x=some c:=λx c e=>jx (λy d z=>by simp at z) e;have cellLt:∀x c,X.env.cells.lookup x=some c->c<s.heap.objs.size:=λx c e=>let ⟨_,q⟩:=I.cell x c e;q.lt;have sound:∀x c,(cellsFrom (s.heap.objs.size+1+1) scope.names (jO X.env scope.names [])).lookup x=some c->X.env.cells.lookup x=some c\/s.heap.objs.size+1+1<=c:=λx c e=>by
  rcases kf _ _ _ e with q | ⟨q,_⟩
  ·exact .inl (sound0 x c q)
  ·exact .inr q
 refine⟨I.ok.mod,L.kind,I.ok.glob,I.ok.blt,?_,kv _ _ _ (λx y c h1 h2=>I.ok.inj x y c (sound0 x c h1) (sound0 y c h2)) (λx c h1=>b5 (b5 (cellLt x c (sound0 x c h1)))),λx hx=>?_,λx c h1 h2=>?_,I.ok.hd,I.ok.frames,.inl rfl,λb hb=>?_,λb u e=>?_,?_,λb u e hb=>?_,λb hb=>?_,I1.stack,I.stkFree⟩
 ·show (s.heap.push o).objs.size<=s.heap.objs.size+1;rw[Heap.size_push];exact aJ _
 ·refine bJ.mp (W.cellsFrom_some _ _ _ ?_);rcases nq hx with hm | hm
  ·exact .inr (bJ.mpr (kQ hm (L.fre _ hm rfl)))
  ·exact .inl hm
 ·have h1':(scope.names.lookup x == some .cell)=true:=h1;have hk:scope.names.lookup x=some .cell:=by simpa using h1'
  show (s.heap.push o).objs.size<=c;rw[Heap.size_push];exact b4 (kD _ _ _ (PySem.mem_of_lookup hk) h2)
 ·rcases aE.mp hb with rfl | hb
  ·refine⟨aL (bE _),λx c e z=>?_⟩;rcases sound x c e with q | q
   ·exact absurd (cellLt x c q) (by rw[z];exact aZ _)
   ·rw[z] at q;omega
  ·refine⟨aL (b5 (hlt b hb)),λx c e=>?_⟩;rcases sound x c e with q | q
   ·exact (f b hb).2.2.2.2.1 x c q
   ·intro z;rw[z] at q;exact absurd (aM (b6 _ 2) q) (Nat.not_le.mpr (hlt b hb))
 ·exact⟨ae _ (I.bs b u e).1,(I.bs b u e).2⟩
 ·show X.base.objs.size<=(s.heap.push o).objs.size;rw[Heap.size_push];exact b7 (aM I.ok.bsz I.sz)
 ·have hb':=aK (I.bs b u e).1;rcases aE.mp hb with rfl | hb
  ·exact aZ _ hb'
  ·rcases (f b hb).2.2.2.1 with z | z
   ·exact I.ok.noex b u e z
   ·exact absurd (aD (aK e) (aM I.ok.bsz z)) (aZ _)
 ·intro z;have hs:=I.stkSub b z;rcases aE.mp hb with rfl | hb
  ·rcases aE.mp hs with q | q
   ·exact absurd I.lt (by rw[<-q];exact aZ _)
   ·exact I.nofs (aJ _) q
  ·rcases aE.mp hs with q | q
   ·exact (f b hb).2.1 q
   ·exact (f b hb).2.2.1 q
end
end L2
namespace L2
open PySem PySem.Spec PyProof.Rows
section
variable {X:Cx}{tg elt iter:Expr}{ifs:List Expr}{scope:Scope}{pos:Pos}{N:List Str}{ix:List (Option Nat)}{wi:TI}{g:TG}{tt:TT}{te:TE}
theorem vQ{ix:List (Option Nat)}{σ:St}{i:Nat}{v:V}(h:(pull ix σ)[i]? = some (some v)):∃j,ix[i]? = some (some j)/\σ[j]? = some (some v):=by
 unfold pull at h;rw[av] at h;cases e:ix[i]? with
 | none=>rw[e] at h;cases h
 | some k=>
  rw[e] at h;cases k with
  | none=>cases h
  | some j=>
   refine⟨j,rfl,?_⟩;have h':(σ[j]?).getD none=some v:=by simpa using h
   cases q:σ[j]? with
   | none=>rw[q] at h';cases h'
   | some z=>rw[q] at h';simpa using h'
theorem x9{dN:List (Addr×Obj)}{σ:St}{RR:Value->Addr->Result->Shared->Prop}{Q:VK}{E:Value->Shared->Prop}{it:Addr}{fp:List Addr}{tn:Nat->Heap->Prop}{J:It}{H2:Hp}{s2:Shared}{W:Nat->Nat->List V->Hp->Prop}{m0:Nat}
  (hc:X.calm=true) (L:vf X scope N ix) (hgk:lF ix g)
  (blk:∀C s₃ H ex pn,PG (jW X N scope C s₃ H ex pn) tg g/\zu (jW X N scope C s₃ H ex pn) ifs tt/\PE (jW X N scope C s₃ H ex pn) elt te)
  (I2:eJ X dN σ H2 s2) (T:wN X.prog X.w X.K tg J fp it tn) (st2:tn 0 s2.heap) (f2:∀b∈fp,pI X dN H2 b) (w0:W 0 m0 [] H2)
  (turn:∀i m ys H,W i m ys H->(J.stop i H/\∀D,H D=none->Q (.ref D) (gL H D (.lst ys)))\/
   (J.go i H/\ys.length<sizeLine/\∀x H',J.yld i H x H'->g x (pull ix σ) H' λσ2 H2=>tt σ2 H2 λb H3=>if b=true then te σ2 H3 λy H4=>∃m',m'<m/\W (i+1) m' (ys++[y]) H4 else ∃m',m'<m/\W (i+1) m' ys H3))
  (fin:∀D C m H' s',s'.heap.Ns C m->pI X dN H' C->eJ X dN σ H' s'->Q (.ref D) H'->RR (.ref D) C (.ok .next) s') :
  wpAny (model X.prog X.w) X.A (newList []) (λacc s₃=>wpAny (model X.prog X.w) X.A (newFunctionEnv scope X.env.globals (jO X.env scope.names []) [] X.env.qual none .none (some X.env)) (λcenv s₄=>codeAny (model X.prog X.w) X.A (.compStart (.ListComp elt [⟨tg,iter,ifs,0⟩] scope pos) 0 (.ref it) acc {cenv with scope:=relabel scope X.env}) (RR acc cenv.locals) s₄) E s₃) E s2:=by
 refine wpAny_newObj_type (oM ?_);dsimp only;have hCs:(s2.heap.push {cls:=.type "list",dict:=none,data:=.seq ([]:List Value).toArray}).objs.size=s2.heap.objs.size+1:=Heap.size_push ..;generalize hh₁:pushCells ((s2.heap.push {cls:=.type "list",dict:=none,data:=.seq ([]:List Value).toArray}).push {cls:=.type "dict",data:=.dict #[]}) scope.names=h₁;rw[hCs];have hns₁:h₁.Ns (s2.heap.objs.size+1) (λ_=>none):=by rw[<-hh₁,<-hCs];exact (Heap.Ns.new _ _).keeps (pushCells_keeps _ _)
 have hnew:∀x c,(cellsFrom (s2.heap.objs.size+1+1) scope.names (jO X.env scope.names [])).lookup x=some c->X.env.cells.lookup x=some c\/(s2.heap.objs.size+1+1<=c/\h₁.IsCell c none):=λx c e=>by
  have hs3:((s2.heap.push {cls:=.type "list",dict:=none,data:=.seq ([]:List Value).toArray}).push {cls:=.type "dict",data:=.dict #[]}).objs.size=s2.heap.objs.size+1+1:=by rw[Heap.size_push,hCs]
  rw[<-hs3] at e;rcases j5 _ _ _ e with q | ⟨q,m⟩
  ·exact .inl (jx (λy d z=>by simp at z) q)
  ·rw[hs3] at q;rw[hh₁] at m;exact .inr ⟨q,m⟩
 have fpObj:=T.obj 0 _ st2;have hlt:∀b∈fp,b<s2.heap.objs.size:=λb hb=>let ⟨_,e,_⟩:=fpObj b hb;aK e;have ok:=Hc L I2 f2 hlt {cls:=.type "list",dict:=none,data:=.seq ([]:List Value).toArray};have DC:s2.heap.objs.size≠s2.heap.objs.size+1:=aL (bE _);have hold:∀b o,(s2.heap.push {cls:=.type "list",dict:=none,data:=.seq ([]:List Value).toArray}).get? b=some o->h₁.get? b=some o:=λb o e=>by rw[<-hh₁];exact pushCells_keeps _ _ _ _ (ae _ e)
 have old:∀b o,s2.heap.get? b=some o->h₁.get? b=some o:=λb o e=>hold b o (ae _ e);have sound:∀x c,(jO X.env scope.names []).lookup x=some c->X.env.cells.lookup x=some c:=λx c e=>jx (λy d z=>by simp at z) e;have cellLt:∀x c,X.env.cells.lookup x=some c->c<s2.heap.objs.size:=λx c e=>let ⟨_,q⟩:=I2.cell x c e;q.lt;have hDn:H2 s2.heap.objs.size=none:=I2.hok.fresh (aJ _);have hCn:H2 (s2.heap.objs.size+1)=none:=I2.hok.fresh (bH _);have pinLt:∀p∈X.pn++dN,p.1<s2.heap.objs.size:=λp hp=>aK (I2.pin p hp).1;have hDfs:s2.heap.objs.size∉zG X.stack:=λz=>by
  rcases aE.mp (I2.stkSub _ z) with q | q
  ·exact absurd I2.lt (by rw[<-q];exact aZ _)
  ·exact I2.nofs (aJ _) q
 have I':eJ (jW X N scope (s2.heap.objs.size+1) {s2 with heap:=s2.heap.push {cls:=.type "list",dict:=none,data:=.seq ([]:List Value).toArray}} H2 (s2.heap.objs.size::fp) (X.pn++dN))
   [(s2.heap.objs.size,rH [])] (pull ix σ) H2 {s2 with heap:=h₁,toks:=s2.toks}:=by
  refine⟨ok,rfl,I2.bare,Un.kept hold,⟨_,hns₁,λi x v h1 h2 h3=>?_⟩,λx c e=>?_,hCn,λx c e=>?_,λp hp=>?_,I2.hok.kept old,?_⟩
  ·obtain⟨j,ej,es⟩:=vQ h2;obtain⟨q1,q2,q3,q4⟩:=L.ix i j x h1 ej;obtain⟨m,_,hl⟩:=I2.loc;obtain⟨u,r,lk⟩:=hl j x v q1 es q3;refine⟨u,r,?_⟩;rcases lk with⟨k,_⟩ | ⟨k,c,hcl,hv⟩
   ·exact absurd k q4
   ·obtain⟨c',hc'⟩:=kQ (acc:=[]) (PySem.mem_of_lookup q2) ⟨c,hcl⟩;have:=sound x c' hc';rw[hcl] at this;cases this;have hnc:(x,NameKind.cell)∉scope.names:=λz=>by have:=L.sep _ z rfl;rw[q2] at this;cases this
    refine .inr ⟨?_,c,(jH _ _ _ hnc).trans hc',let ⟨ob,ho,hd⟩:=hv;⟨ob,old c ob ho,hd⟩⟩;exact tZ q2
  ·rcases hnew x c e with q | ⟨_,q⟩
   ·obtain⟨v,ob,ho,hd⟩:=I2.cell x c q;exact⟨v,ob,old c ob ho,hd⟩
   ·exact⟨none,q⟩
  ·rcases hnew x c e with q | ⟨q,_⟩
   ·exact I2.freeC x c q
   ·exact I2.hok.fresh (aM (b6 _ 2) q)
  ·rcases ai.mp hp with hp | hp
   ·obtain⟨e,n,ne,nf,d⟩:=I2.pin p hp;refine⟨old _ _ e,n,aL (b5 (pinLt p hp)),λz=>?_,d⟩;rcases aE.mp (I2.stkSub _ z) with q | q
    ·exact ne q
    ·exact nf q
   ·have e:p=(s2.heap.objs.size,rH []):=by simpa using hp
    subst e;exact⟨hold _ _ (ar _ rfl),hDn,DC,hDfs,λv z=>by cases z⟩
  ·unfold pull;rw[aw];exact L.len.symm
 generalize hX':jW X N scope (s2.heap.objs.size+1) {s2 with heap:=s2.heap.push {cls:=.type "list",dict:=none,data:=.seq ([]:List Value).toArray}} H2 (s2.heap.objs.size::fp) (X.pn++dN)=X' at I';obtain⟨hg,hif,he⟩:=blk (s2.heap.objs.size+1) {s2 with heap:=s2.heap.push {cls:=.type "list",dict:=none,data:=.seq ([]:List Value).toArray}} H2 (s2.heap.objs.size::fp) (X.pn++dN);rw[hX'] at hg hif he;have stat:∀{H':Hp} {us:List Value},(∀b∈fp,H' b=none)->∀b∈fp,pI X' [(s2.heap.objs.size,rH us)] H' b:=λ{H' us} hn b hb=>by
  subst hX';obtain⟨_,f1,f2',f3,f4,f5⟩:=f2 b hb;refine⟨hn b hb,aL (b5 (hlt b hb)),λz=>?_,.inl (bj _ hb),λx c e=>?_,λp hp=>?_⟩
  ·rcases aE.mp (I2.stkSub _ z) with q | q
   ·exact f1 q
   ·exact f2' q
  ·rcases hnew x c e with q | ⟨q,_⟩
   ·exact f4 x c q
   ·intro z;rw[z] at q;exact absurd (aM (b6 _ 2) q) (Nat.not_le.mpr (hlt b hb))
  ·rcases ai.mp hp with hp | hp
   ·exact f5 p hp
   ·have e:p=(s2.heap.objs.size,rH us):=by simpa using hp
    subst e;exact Ne.symm (aL (hlt b hb))
 have loop:codeAny (model X.prog X.w) X.A (.compLoop (.ListComp elt [⟨tg,iter,ifs,0⟩] scope pos) 0 (.ref it) (.ref s2.heap.objs.size) X'.env) (RR (.ref s2.heap.objs.size) (s2.heap.objs.size+1))
   {s2 with heap:=h₁,toks:=s2.toks}:=by
  refine sS (λn s'=>∃i ys us H',eJ X' [(s2.heap.objs.size,rH us)] (pull ix σ) H' s'/\eU ys us/\ys.length<=sizeLine/\tn i s'.heap/\(∀b∈fp,H' b=none)/\W i n ys H') ?_ m0
   ⟨0,[],[],H2,I',.nil,bF _,T.keep _ _ _ st2 λb _ o e=>old b o e,λb hb=>(f2 b hb).1,w0⟩
  rintro n s3 ⟨i,ys,us,H3,I3,rv,hz,st3,fr3,w3⟩;have hcX:X'.calm=true:=by subst hX';exact hc
  have hA:X'.A=X.A:=by subst hX';rfl
  rcases turn i n ys H3 w3 with⟨stop,qn⟩ | ⟨go,jm,step⟩
  ·have hd:=T.done X' (by subst hX';rfl) (by subst hX';rfl) (by subst hX';rfl) hcX i _ s3 _ H3 (λ_ _=>False) I3 (stat fr3) st3 stop;rw[hA] at hd;refine g9 hd λr s4 ⟨hr,I4⟩=>?_;subst hr;subst hX';obtain⟨m,hn,_⟩:=I4.loc;have hD3:=I4.pin (s2.heap.objs.size,rH us) (bB _ bh);have u1:Un (zG X.stack) fp H2 H3 s2.heap s4.heap:=by
    have B:=I4.base;have nD:∀b o,s2.heap.get? b=some o->b∉fp->b∉s2.heap.objs.size::fp:=λb o e hb z=>by
     rcases aE.mp z with q | q
     ·exact absurd (aK e) (by rw[q];exact aZ _)
     ·exact hb q
    exact⟨λb o e n hb hx=>B.keep b o (ae _ e) n hb (nD b o e hx),λb o e n hb hx=>B.slot b o (ae _ e) n hb (nD b o e hx),
     λb o e n hx=>B.free b o (ae _ e) n (nD b o e hx),λb o e hx=>B.there b o (ae _ e) (nD b o e hx),B.tups,B.frzs,B.tbls⟩
   have I5:eJ X dN σ H3 s4:=I2.call' (ch:=fp) I4.os u1 I4.hok I4.bare λb hb=>let ⟨_,f1,_,f3,f4,f5⟩:=f2 b hb;⟨f3,f1,f4,f5⟩;have I6:eJ X dN σ (gL H3 s2.heap.objs.size (.lst ys)) s4:=I5.track hD3.2.1 (.inr I2.sz) (Ne.symm (aL I2.lt)) (λx c e z=>absurd (cellLt x c e) (by rw[z];exact aZ _))
    (λp hp=>aL (pinLt p hp)) ⟨hz,us,us.length,rv,hD3.1⟩
   refine fin _ _ m _ s4 hn ⟨?_,?_,?_,.inr (b7 I2.sz),λx c e z=>?_,λp hp=>?_⟩ I6 (qn _ hD3.2.1)
   ·rw[eD (Ne.symm DC)];exact I4.free
   ·exact Ne.symm (aL (b5 I2.lt))
   ·exact I2.nofs (bH _)
   ·exact absurd (cellLt x c e) (by rw[z];exact Nat.not_lt.mpr (bH _))
   ·exact aL (b5 (pinLt p hp))
  ·have hd:=T.item X' (by subst hX';rfl) (by subst hX';rfl) (by subst hX';rfl) hcX i _ s3 _ H3 (λ_ _=>False) I3 (stat fr3) st3 go;rw[hA] at hd;refine g9 hd λr s4 ⟨u,hr,h4⟩=>?_;subst hr;refine g9 h4 λ_ s5 ⟨x,H5,I5,r5,y5,st5,fr5⟩=>?_;have I5':=I5.pinned (stat fr5) (T.obj _ _ st5);have hM:model X'.prog X'.w=model X.prog X.w:=by subst hX';rfl
   have hE:X'.xe=λ_ _=>False:=by subst hX';rfl
   have a6:=hg _ s5 _ H5 x u _ I5' r5 (hgk x _ H5 _ (step x H5 y5));rw[hM,hA,hE] at a6;refine g9 a6 λ_ s6 ⟨σ6,H6,I6,agr,q6⟩=>?_;have a7:=hif _ s6 σ6 H6 _ I6 q6;rw[hM,hA,hE] at a7;refine g9 a7 λok s7 ⟨H7,I7,q7⟩=>?_;have back:∀{s':Shared} {H':Hp} {pl:List (Addr×Obj)},eJ X' pl σ6 H' s'->eJ X' pl (pull ix σ) H' s':=λ{s' H' pl} I=>by
    refine I.weak ?_ λk v e=>?_
    ·have e1:=I.len;have e2:=I3.len;rw[e1,e2]
    ·obtain⟨j,ej,_⟩:=vQ e;rw[agr k j ej];exact e
   have held:∀{s':Shared} {H':Hp},eJ X' ([(s2.heap.objs.size,rH us)]++qu fp s5.heap) σ6 H' s'->tn (i+1) s'.heap/\∀b∈fp,H' b=none:=λ{s' H'} I=>by refine⟨T.keep _ _ _ st5 λb hb o e=>(I.pin (b,o) (bB _ (bB _ (lE hb e)))).1,λb hb=>?_⟩;obtain⟨o,e,_⟩:=T.obj _ _ st5 b hb;exact (I.pin (b,o) (bB _ (bB _ (lE hb e)))).2.1
   cases ok with
   | false=>rw[aQ aG] at q7 ⊢;obtain⟨m',hm,w7⟩:=q7;obtain⟨k1,k2⟩:=held I7;exact⟨m',hm,i+1,ys,us,H7,(back I7).unpinned,rv,hz,k1,k2,w7⟩
   | true=>
    rw[aP rfl] at q7 ⊢;have a8:=he _ s7 σ6 H7 _ I7 q7;rw[hM,hA,hE] at a8;refine g9 a8 λy s8 ⟨yv,H8,I8,r8,m',hm,w8⟩=>?_;obtain⟨k1,k2⟩:=held I8;have hD8:=I8.pin (s2.heap.objs.size,rH us) (bB _ (ax _ bh));have hl:=rv.length;refine append_at (hsz:=by rw[bC];omega) hD8.1 λh9 sb hD9=>?_;have I9:eJ X' [] (pull ix σ) H8 s8:=(back I8).pins_of λp hp=>by simp at hp
    have I10:eJ X' [] (pull ix σ) H8 {s8 with heap:=h9}:=I9.turned (t':=s8.toks) (it:=s2.heap.objs.size) (λb o hb e=>sb.extBut b o hb e) hD8.2.1 hD8.2.2.1 (.inl (by subst hX';exact bh))
     (λx c e z=>by
      subst hX';rcases hnew x c e with q | ⟨q,_⟩
      ·exact absurd (cellLt x c q) (by rw[z];exact aZ _)
      ·rw[z] at q;omega) (λp hp z=>by
      subst hX';rcases ai.mp hp with hp | hp
      ·exact absurd (pinLt p hp) (by rw[z];exact aZ _)
      ·simp at hp)
    have e9:h9.get? s2.heap.objs.size=some (rH (us++[y])):=by rw[hD9];simp
    refine⟨m',hm,i+1,ys++[yv],us++[y],H8,I10.pins_of λp hp=>?_,rv.append (.cons r8 .nil),by rw[aS,bV];omega,?_,k2,w8⟩
    ·have e:p=(s2.heap.objs.size,rH (us++[y])):=by simpa using hp
     subst e;exact⟨e9,hD8.2.1,hD8.2.2.1,hD8.2.2.2.1,λv z=>by cases z⟩
    ·exact T.keep _ _ _ k1 λb hb o e=>sb.extBut b o (aL (hlt b hb)) e
 have loop':=loop;subst hX';exact codeAny_compStart_list loop (T.self X.A 0 _ _ _ (T.keep _ _ _ st2 λb _ o e=>old b o e) loop')
theorem Ho(hc:X.calm=true)(hi:PI X tg iter wi)(L:vf X scope N ix)(hgk:lF ix g)
  (blk:∀C s₃ H ex pn,PG (jW X N scope C s₃ H ex pn) tg g/\zu (jW X N scope C s₃ H ex pn) ifs tt/\PE (jW X N scope C s₃ H ex pn) elt te)
  (hs:∀x,foldedSetIterable iter X.env x=pure x:=by intro _;rfl):PE X (.ListComp elt [⟨tg,iter,ifs,0⟩] scope pos) (BH ix wi g tt te):=by
 intro dN s σ H Q I h;rw[eval_ListComp];refine wpAny_comprehension_free (use:=none) rfl hs (mH L.fre) L.kind L.names (g9 (hi dN s σ H _ I h) λv s1 h1=>g9 h1 λitv s2 h2=>?_);obtain⟨it,fp,tn,J,H2,e,I2,T,st2,f2,W,⟨m0,w0⟩,turn⟩:=h2;subst e;refine x9 (RR:=λacc C=>compPost (model X.prog X.w) X.A X.xe none (EP X dN σ Q) acc C) hc L hgk blk I2 T st2 f2 w0 turn λD C m H' s' hn f I' q=>?_;refine⟨m,hn,λh' sb=>⟨.ref D,H',I'.turned (t':=s'.toks) (λb o hb e=>sb.extBut b o hb e) f.1 f.2.1 f.2.2.2.1 f.2.2.2.2.1 f.2.2.2.2.2,rfl,q⟩⟩
end
end L2
namespace L2
open PySem PySem.Spec PyProof.Rows
structure ee(K:W.Frag)(mg:Str->Option Value)(x:Str)(st:Stmt):Prop where
 ex:∃f fd,B7 K x x st f fd/\mg x=some (.ref f)
theorem Gx{K:W.Frag}{h:Heap}{mg:Str->Option Value}{x:Str}{st:Stmt}{f:Addr}{oc:Value}{od an:Option Addr}{osl:Array (Option Value)}{kV doc pm cdv ct:Value}(X:K.In h)(G:h.Ns mainGlobals mg)
  (a:W.nsIn K mainGlobals x=some (some (.ref f)))
  (l:K.lookup f=some ⟨oc,od,.func (W.fnOf x x (gA st) (fu st) (dY st) .none kV doc pm an cdv ct),osl⟩)
  (c:W.codeIn K cdv x=true) (k:W.keepIn K (.ref f)=true):ee K mg x st:=⟨f,_,xF l c k,W.mg_of X G a⟩
structure iJ(P:Program)(w:World)(K:W.Frag)(mg:Str->Option Value)(base:Heap)(x:Str)(k:Nat)(sp:Sp):Prop where
 ex:∃f fd ps,j6 P w K mg base qX k f fd ps sp/\mg x=some (.ref f)/\W.keepIn K (.ref f)=true/\lW K fd ps []
theorem iJ.mono{P:Program}{w:World}{K:W.Frag}{mg:Str->Option Value}{base:Heap}{x:Str}{j k:Nat}{sp:Sp}(h:iJ P w K mg base x j sp)(hk:j<=k):iJ P w K mg base x k sp:=
 let ⟨f,fd,ps,F,a,b,c⟩:=h.ex
 ⟨f,fd,ps,F.mono hk,a,b,c⟩
theorem uj{P:Program}{w:World}{K:W.Frag}{mg:Str->Option Value}{base:Heap}{x:Str}{st:Stmt}{N ps:List Str}{k:Nat}{sp:Sp}(D:ee K mg x st)(S:gd N ps (dY st))
  (hb:∀(kV doc pm:Value) (an:Option Addr) (cdv ct:Value) (us:List Value),us.length=ps.length->bindArgs (W.fnOf x x (gA st) (fu st) (dY st) .none kV doc pm an cdv ct) ⟨us,[]⟩=pure (ps.zip us))
  (len:∀vs H Q E,sp vs H Q E->vs.length=ps.length)
  (hbody:∀(f:Addr) (cdv:Value) (A:Around) (outer:List Env) (s:Shared) (H:Hp) (vs:List V) (Q:VK) (E:XK),gh k (A.deeper (envOfC x (dY st) s.heap.objs.size f cdv))->sp vs H Q E->
   ∃t,uI (lV qX P w K mg base N x (dY st) f cdv A outer s H E).nox (fu st) t/\t {nx:=λ_ H'=>Q .non H',rt:=Q} (ju N vs) H):iJ P w K mg base x (k+1) sp:=by
 obtain⟨f,fd,F,m⟩:=D.ex;exact⟨f,fd,ps,F.ok S len (hbody f),m,F.kp,F.binds hb⟩
section
variable {X:Cx}{x:Str}{k:Nat}{sp:Sp}{e:Expr}{es:List Expr}{t:TA}{p pos:Pos}
theorem qJ(h:iJ X.prog X.w X.K X.mg X.base x k sp)(hr:gh k X.A)(ha:PA X (e::es) t)(hg:Gl X x:=by rfl)
  (hdb:(x == ("__debug__" : Str))=false:=by decide) (he:starEach (e::es) X.env=(false,eval e X.env)::starEach es X.env:=by rfl) (hpl:(backTo pos (starEach es X.env)).any (·.1)=false:=by rfl) :
  PE X (.Call (.Name x p) (e::es) [] pos) (qY sp [] E0 t):=by
 obtain⟨f,fd,ps,F,a,b,c⟩:=h.ex;exact CM F hr hg a b c .nil BC ha hdb he hpl
end
theorem CI{X:Cx}:mM X (binaryOp .Mult) (rI (λi j=>PySem.IntMulOk i j) λi j=>.int (i*j)):=II λ_ _ _ _ _ _ _ hc q=>mul_int q hc
theorem Bi{X:Cx}:mM X (binaryOp .FloorDiv) (rI (λi j=>j≠0/\Builtin.divisionGoesByPylong i j=false) λi j=>.int (i.fdiv j)):=II λ_ _ _ _ _ _ _ hc q=>floordiv_int hc.1 q (.inl hc.2)
end L2
namespace L2
open PySem PySem.Spec PyProof.Rows
section
variable {P:Program}{w:World}{K:W.Frag}{mg:Str->Option Value}{base:Heap}{N:List Str}{qual:Str}{scope:Scope}{f:Addr}{cd:Value}{A:Around}{outer:List Env}{s₀:Shared}{H₀:Hp}{E:XK}
variable {dN:List (Addr×Obj)}{σ:St}{H:Hp}{s:Shared}
end
end L2
namespace L2
open PySem PySem.Spec PyProof.Rows PySem.W
section
variable {P:Program}{w:World}{K:W.Frag}{mg:Str->Option Value}{base:Heap}{N:List Str}{qual:Str}{scope:Scope}{f:Addr}{cd:Value}{A:Around}{outer:List Env}{s₀:Shared}{H₀:Hp}{E:XK}
end
end L2
namespace L2
open PySem PySem.Spec PyProof.Rows PySem.W PySem.Calls Builtin Builtin.ObjectAttr Builtin.Getset_descriptor
section
variable {prog:Program}{w:World}{A:Around}{E:Value->Shared->Prop}{s:Shared}{K:Frag}{x D:Addr}
end
end L2
namespace L2
open PySem PySem.Spec PyProof.Rows PySem.W PySem.Calls Builtin Builtin.ObjectAttr Builtin.Getset_descriptor
section
variable {prog:Program}{w:World}{A:Around}{E:Value->Shared->Prop}{s:Shared}{K:Frag}{x C D:Addr}
end
section
variable {X:Cx}{dN pins' pn pn':List (Addr×Obj)}{σ:St}{H H1 H':Hp}{s s1 s':Shared}{xe:Value->Shared->Prop}{ea t:Addr}{C:Value}{vs:List Value}{B h:Heap}
end
end L2
namespace L2
open PySem PySem.Spec PyProof.Rows PySem.W PySem.Calls
section
variable {X:Cx}{x:Str}{k:Nat}{sp:Sp}{e:Expr}{es:List Expr}{t:TA}{p pos:Pos}{E:XK}
end
end L2
namespace L2
open PySem PySem.Spec PyProof.Rows PySem.W
mutual
inductive DV(K:Frag)(H:Hp):V->PyData->Prop
 | non:DV K H .non .none
 | bl (b:Bool):DV K H (.bl b) (.bool b)
 | int (i:Int):DV K H (.int i) (.int i)
 | str (x:Str):DV K H (.str x) (.str x)
 | lst {a:Addr} {xs:List V} {ds:List PyData} (h:jq K H a xs) (hs:vv K H xs ds):DV K H (.ref a) (.list ds)
 | tup {a:Addr} {xs:List V} {ds:List PyData} (h:jR K H a xs) (hs:vv K H xs ds):DV K H (.ref a) (.tuple ds)
inductive vv(K:Frag)(H:Hp):List V->List PyData->Prop
 | nil:vv K H [] []
 | cons {v:V} {d:PyData} {vs:List V} {ds:List PyData} (h:DV K H v d) (hs:vv K H vs ds):vv K H (v::vs) (d::ds)
end
section
variable {X:Cx}{dN:List (Addr×Obj)}{σ:St}{H:Hp}{s:Shared}
mutual
theorem DV.reads(I:eJ X dN σ H s):∀{v:V} {d:PyData} {u:Value},DV X.K H v d->fM v u->∃as,Reads s.heap u d as
 | _,_,_,.non,r=>by cases r;exact⟨_,.none⟩
 | _,_,_,.bl b,r=>by cases r;exact⟨_,.bool b⟩
 | _,_,_,.int i,r=>by obtain⟨t,rfl⟩:=r;exact⟨_,.int i t⟩
 | _,_,_,.str x,r=>by obtain⟨t,rfl⟩:=r;exact⟨_,.str x t⟩
 | _,_,_,.lst h hs,r=>by cases r;obtain⟨its,r',⟨o,n,e,hc,hd,hq⟩,_⟩:=I.list h;obtain⟨as,ra⟩:=vv.reads I hs r';exact⟨_,.list e hc hq (by simpa using ra)⟩
 | _,_,_,.tup h hs,r=>by cases r;obtain⟨its,r',⟨o,e,hc,n,hq⟩,_⟩:=I.tuple h;obtain⟨as,ra⟩:=vv.reads I hs r';exact⟨_,.tuple e hc hq (by simpa using ra)⟩
theorem vv.reads(I:eJ X dN σ H s):∀{vs:List V} {ds:List PyData} {us:List Value},vv X.K H vs ds->eU vs us->∃as,ReadsAll s.heap us ds as
 | _,_,_,.nil,r=>by cases r;exact⟨_,.nil⟩
 | _,_,_,.cons h hs,r=>by
  cases r with
  | cons r1 r2=>obtain⟨as,ra⟩:=DV.reads I h r1;obtain⟨bs,rb⟩:=vv.reads I hs r2;exact⟨_,.cons ra rb⟩
end
def v9(K:Frag)(neg:Bool):R2:=λx y H Q=>∃da db,DV K H x da/\DV K H y db/\(da.canLay0=true/\db.canLay0=true/\da.depth<=100)/\Q (.bl (if neg then !PyData.eqv da db else PyData.eqv da db)) H
theorem zW(hu:X.A.units+200<cLine):mM X (compareOp .Eq) (v9 X.K false):=by intro dN s σ H x y v u Q I rx ry h;obtain⟨da,db,hx,hy,⟨ca,cb,hd⟩,q⟩:=h;obtain⟨as,ra⟩:=hx.reads I rx;obtain⟨bs,rb⟩:=hy.reads I ry;exact SeqAt.eqOverData _ _ _ _ _ _ _ _ _ _ _ _ ra rb ca cb (by omega) ⟨.bl _,H,I,rfl,q⟩
theorem Af(hu:X.A.units+200<cLine):mM X (compareOp .NotEq) (v9 X.K true):=by intro dN s σ H x y v u Q I rx ry h;obtain⟨da,db,hx,hy,⟨ca,cb,hd⟩,q⟩:=h;obtain⟨as,ra⟩:=hx.reads I rx;obtain⟨bs,rb⟩:=hy.reads I ry;exact SeqAt.neOverData _ _ _ _ _ _ _ _ _ _ _ _ ra rb ca cb (by omega) ⟨.bl _,H,I,rfl,q⟩
theorem IB{A:Around}{k:Nat}(hr:gh k A):A.units+200<cLine:=by have:=hr.un;omega
end
end L2
namespace L2
open PySem PySem.Spec PyProof.Rows
theorem vK:∀{bs:List Bool} {us:List Value},eU (bs.map V.bl) us->us=bs.map Value.bool
 | [],_,.nil=>rfl
 | b::bs,u::us,.cons r t=>by have e:u=Value.bool b:=r;rw[e,vK t];rfl
theorem mY:∀{ns:LI} {us:List Value},eU (ns.map V.int) us->IntsAre us ns
 | [],_,.nil=>.nil
 | n::ns,u::us,.cons r t=>by obtain⟨tk,e⟩:=(show ∃tk,u=Value.int n tk from r);rw[e];exact .cons n tk (mY t)
theorem zL{bs:List Bool}:(List.range bs.length).all (λi=>bs.getD i false)=bs.all id:=by
 induction bs with
 | nil=>rfl
 | cons b bs ih=>rw[ay,b9,bQ,cf,bQ,<-ih];rfl
theorem rX{bs:List Bool}:(List.range bs.length).any (λi=>bs.getD i false)=bs.any id:=by
 induction bs with
 | nil=>rfl
 | cons b bs ih=>rw[ay,b9,bR,cg,bR,<-ih];rfl
section
variable {X:Cx}
theorem zv{prog:Program}{w:World}{A:Around}{bs:List Bool}:TruthOf prog w A (λi v=>(bs.map Value.bool).toArray[i]? = some v) (λi=>bs.getD i false):=λi v s Q E hP hQ=>by
 have e:(bs.map Value.bool)[i]? = some v:=by simpa using hP
 rw[av] at e;cases hb:bs[i]? with
 | none=>rw[hb] at e;cases e
 | some b=>
  rw[hb] at e;cases e;have:bs.getD i false=b:=by rw[af,hb];rfl
  dsimp only at hQ;rw[this] at hQ;exact ak hQ
theorem BA(hc:X.calm=true):iW X (.builtin "all") (λxs H Q=>∃(p:Addr) (bs:List Bool),xs=[.ref p]/\jq X.K H p (bs.map V.bl)/\Q (.bl (bs.all id)) H):=by
 intro dN s σ H xs us Q I r h;obtain⟨p,bs,rfl,hS,q⟩:=h;obtain⟨u,rfl,rx⟩:=lJ r;cases rx;obtain⟨its,rv,pl,hz⟩:=I.list hS;have e:=vK rv;subst e;have hlt:p<s.heap.objs.size:=by obtain⟨_,e,_⟩:=pl.isList;exact aK e
 refine call_all_walk (wpAny_pyIter_list pl.isList ⟨s.heap.objs.size,_,_,_,_,_,λi=>bs.getD i false,rfl,Walks.list (A:=X.A.in1) (I.ok.hd hc) _ p (aL hlt) _,⟨⟨_,ar _ rfl,rfl,rfl⟩,pl.isList.push _⟩,zv,λh' tk hk=>?_⟩);refine⟨.bl _,H,I.kept (t':=tk) (λb o e=>hk b o ?_ (ae _ e)),rfl,?_⟩
 ·intro hm;have:=aK e;have z:b=s.heap.objs.size:=by simpa using hm
  rw[z] at this;exact aZ _ this
 ·rw[<-zL] at q;simpa using q
theorem BG(hc:X.calm=true):iW X (.builtin "sum") (λxs H Q=>∃(p:Addr) (ns:LI),xs=[.ref p]/\jq X.K H p (ns.map V.int)/\Q (.int ns.sum) H):=by intro dN s σ H xs us Q I r h;obtain⟨p,ns,rfl,hS,q⟩:=h;obtain⟨u,rfl,rx⟩:=lJ r;cases rx;obtain⟨its,rv,pl,hz⟩:=I.list hS;have hi:=mY rv;obtain⟨xs,e⟩:=hi.allInts.items;have hl:=pl.isList;rw[e] at hl;refine sum_intListG (I.ok.hd hc) hl λh' tk t' hk=>⟨.int ns.sum,H,I.kept (t':=tk) hk,⟨t',?_⟩,q⟩;rw[preSum_eq,cj (by simp),<-nums_intItems,<-e,show its.toArray.toList=its from rfl,hi.numsOf]
theorem qS:bootBuiltins "all" = some (.builtin "all"):=by decide +kernel
theorem zO:bootBuiltins "any" = some (.builtin "any"):=by decide +kernel
theorem vY:bootBuiltins "sum" = some (.builtin "sum"):=by decide +kernel
end
end L2
namespace L2
open PySem PySem.Spec PyProof.Rows
def f7(b:Bool)(h:Heap)(l:Addr)(xs:Array Value):Prop:=if b=true then h.IsTuple l xs else h.IsList l xs
def je(b:Bool)(h:Heap)(it l:Addr)(k:Nat):Prop:=if b=true then h.IsTupleIter it l k else h.IsListIter it l k
def qA(b:Bool):String:=if b=true then "tuple_iterator" else "list_iterator"
theorem je.look{b:Bool}{h:Heap}{it l:Addr}{k:Nat}(x:je b h it l k):∃o,h.get? it=some o/\o.cls=.type (qA b)/\o.data=.fields #[.ref l,.int k 0]:=by
 cases b with
 | true=>exact (show h.IsTupleIter it l k from x)
 | false=>exact (show h.IsListIter it l k from x)
theorem je.of{b:Bool}{h:Heap}{it l:Addr}{k:Nat}(x:∃o,h.get? it=some o/\o.cls=.type (qA b)/\o.data=.fields #[.ref l,.int k 0]):je b h it l k:=by
 cases b with
 | true=>exact x
 | false=>exact x
theorem je.to{b:Bool}{h h':Heap}{it l:Addr}{k:Nat}(x:je b h it l k)(e:∀o,h.get? it=some o->h'.get? it=some o):je b h' it l k:=by obtain⟨o,ho,q⟩:=x.look;exact .of ⟨o,e o ho,q⟩
theorem f7.look{b:Bool}{h:Heap}{l:Addr}{xs:Array Value}(x:f7 b h l xs):∃o n,h.get? l=some o/\o.data=.seq xs n:=by
 cases b with
 | true=>obtain⟨o,ho,_,n,hd⟩:=(show h.IsTuple l xs from x);exact⟨o,n,ho,hd⟩
 | false=>obtain⟨o,ho,_,n,hd⟩:=(show h.IsList l xs from x);exact⟨o,n,ho,hd⟩
theorem f7.to{b:Bool}{h h':Heap}{l:Addr}{xs:Array Value}(x:f7 b h l xs)(e:∀o,h.get? l=some o->h'.get? l=some o):f7 b h' l xs:=by
 cases b with
 | true=>obtain⟨o,ho,q⟩:=(show h.IsTuple l xs from x);exact⟨o,e o ho,q⟩
 | false=>obtain⟨o,ho,q⟩:=(show h.IsList l xs from x);exact⟨o,e o ho,q⟩
section
variable {prog:Program}{w:World}{A:Around}{E:Value->Shared->Prop}{s:Shared}
theorem Dm{it l:Addr}{k:Nat}{xs:Array Value}{Q:Value->Shared->Prop}(hi:s.heap.IsTupleIter it l k)(hl:s.heap.IsTuple l xs)
  (h1:∀x h',xs[k]? = some x->h'.IsTupleIter it l (k+1)->Heap.SameBut it s.heap h'->Q x {s with heap:=h'})
  (h2:xs[k]? = none->A.handled=none/\∀h' e,Heap.ExtBut it s.heap h'->(∃o,h'.get? e=some o/\o.cls=.type "StopIteration")->E (.ref e) {s with heap:=h'}) :
  wpAny (model prog w) A (Builtin.SmallTypes.nextOf (.ref it)) Q E s:=by
 obtain⟨oi,gi,ci,di⟩:=id hi;obtain⟨ol,gl,_,n,dl⟩:=hl;unfold Builtin.SmallTypes.nextOf;refine ao (wpAny_callSpecial?_slot (name:=Str.ofString "__next__") hi.typeIs F.slot_tuple_iterator_next (wpAny_call_entry F.slot_tuple_iterator_next hi.typeIs F.entry_tuple_iterator_next ?_ (F.args_tuple_iterator_next_1 _)));show wpAny _ _ (field (.ref it) 0 >>= _) _ _ s;refine ao (wpAny_field gi di (x:=.ref l) rfl ?_);show wpAny _ _ (if (Value.ref l == Value.none)=true then _ else field (.ref it) 1 >>= _) _ _ s;have ne:(Value.ref l == Value.none)=false:=rfl;simp only[ne,bY,if_false];refine ao (wpAny_field gi di (x:=.int k 0) rfl (ao (wpAny_seqItems gl dl ?_)));cases hx:xs[k]? with
 | some x=>simp only[bM,hx];refine ao (wpAny_setField gi di (by simp) (ak ⟨x,rfl,ak (h1 x _ hx ?_ (Heap.SameBut.update ..))⟩));refine⟨_,Heap.get?_update_self _ gi (Obj.isFreed_of_fields (Obj.data_mapFields di _)),(Obj.cls_mapFields ..).trans ci,?_⟩;rw[Obj.data_mapFields di];simp[rawInt]
 | none=>obtain⟨hh,h2⟩:=h2 hx;simp only[bM,hx];refine ao (wpAny_rule (ao (wpAny_setField gi di (by simp) ?_)));show wpAny _ _ (newExc (.type "StopIteration") [] >>= _) _ _ _;simp only[newExc,newTuple];refine ao (ao (wpAny_newObj_type (ao (m:=firstArgMember _ _) (wpAny_of_eq (a:=Value.none) (by first | rfl | (simp only[firstArgMember];rfl)) (wpAny_newObj_type ?_ (by size_fits)))) (by size_fits)));simp only[raiseNew];refine ao (wpAny_handled ?_);rw[show A.in1.handled=none from hh];refine ao (ak (wpAny_throw ?_));exact h2 _ _ (((Heap.SameBut.update ..).extBut.push _).push _) ⟨_,ar _ rfl,rfl⟩
theorem qH{b:Bool}{it l:Addr}{k:Nat}{xs:Array Value}{Q:Value->Shared->Prop}(hi:je b s.heap it l k)(hl:f7 b s.heap l xs)
  (h1:∀x h',xs[k]? = some x->je b h' it l (k+1)->Heap.SameBut it s.heap h'->Q x {s with heap:=h'})
  (h2:xs[k]? = none->A.handled=none/\∀h' e,Heap.ExtBut it s.heap h'->(∃o,h'.get? e=some o/\o.cls=.type "StopIteration")->E (.ref e) {s with heap:=h'}) :
  wpAny (model prog w) A (Builtin.SmallTypes.nextOf (.ref it)) Q E s:=by
 cases b with
 | true=>exact Dm hi hl h1 h2
 | false=>
  have hi':s.heap.IsListIter it l k:=hi;have hl':s.heap.IsList l xs:=hl;cases hx:xs[k]? with
  | some x=>exact wpAny_nextOf_list_item hi' hl' hx λh' a b=>h1 x h' hx a b
  | none=>obtain⟨hh,h2⟩:=h2 hx;exact wpAny_nextOf_list_end hh hi' hl' hx h2
theorem Ah{b1 b2:Bool}{z TI TO i1 i2 l1 l2:Addr}{k:Nat}{xs ys:Array Value}{a b:Value}{Q:Value->Shared->Prop}(D:ZipApart z TI TO i1 i2 l1 l2)
  (hz:IsZip s.heap z TI TO .none) (hTI:IsPair s.heap TI (.ref i1) (.ref i2)) (hTO:IsPair s.heap TO a b)
  (h1:je b1 s.heap i1 l1 k) (h2:je b2 s.heap i2 l2 k) (hl1:f7 b1 s.heap l1 xs) (hl2:f7 b2 s.heap l2 ys)
  (yes:∀x y h',xs[k]? = some x->ys[k]? = some y->IsZip h' z TI TO (rawInt s.heap.objs.size)->IsPair h' TO x y->je b1 h' i1 l1 (k+1)->je b2 h' i2 l2 (k+1)->IsPair h' s.heap.objs.size x y->h'.objs.size=s.heap.objs.size+1->
   (∀c o,c≠z->c≠TO->c≠i1->c≠i2->s.heap.get? c=some o->h'.get? c=some o)->Q (.ref s.heap.objs.size) {s with heap:=h'})
  (no:xs[k]? = none\/ys[k]? = none->A.handled=none/\∀h' e,(∀c o,c≠z->c≠TO->c≠i1->c≠i2->s.heap.get? c=some o->h'.get? c=some o)->(∃o,h'.get? e=some o/\o.cls=.type "StopIteration")->E (.ref e) {s with heap:=h'}) :
  wpAny (model prog w) A (Builtin.«zip.__next__» ⟨[.ref z],[]⟩) (λfin s'=>∃v,fin=.done (.ret v)/\Q v s') E s:=by
 have notZ:∀{h:Heap} {e:Addr} {oe:Obj} {f:Value},IsZip h z TI TO f->h.get? e=some oe->oe.cls=.type "StopIteration" ->e≠z:=λ{h e oe f} q ge ce u=>by subst u;rw[q] at ge;cases ge;simp at ce
 show wpAny _ _ (field (.ref z) 2 >>= λ_=>_) _ _ _;refine ao (wpAny_field hz rfl (x:=.bool false) rfl ?_);show wpAny _ _ (field (.ref z) 3 >>= λ_=>_) _ _ _;refine ao (wpAny_field hz rfl (x:=.ref TI) rfl (ao (wpAny_seqItems hTI rfl ?_)));show wpAny _ _ (Builtin.SmallTypes.ownedTupleIsFree (.ref z) >>= λ_=>_) _ _ _;unfold Builtin.SmallTypes.ownedTupleIsFree;refine ao (ao (wpAny_field hz rfl (x:=.none) rfl (ak ?_)));simp only[if_true];refine ao (wpAny_rule (ao (wpAny_field hz rfl (x:=.ref TO) rfl (ao (wpAny_setField_rec hz (by simp) λg1 y1 k1=>?_)))));have z1:IsZip g1 z TI TO .ellipsis:=y1;simp only[List.zipIdx_cons,List.zipIdx_nil,List.forIn_cons,List.forIn_nil];refine ao (ao (ao (wpAny_onRaise ?_)));show wpAny _ _ (Builtin.SmallTypes.nextOf (.ref i1) >>= λ_=>_) _ _ _;refine ao (qH (h1.to λo e=>k1.extBut _ _ D.i1z e) (hl1.to λo e=>k1.extBut _ _ D.l1z e) (λx g2 hx t2 k2=>ak ?_) (λhx=>⟨(no (.inl hx)).1,λg2 e k2 ⟨oe,ge,ce⟩=>?_⟩))
 ·have p2:IsPair g2 TO a b:=k2.extBut _ _ D.TOi1 (k1.extBut _ _ D.TOz hTO);refine ao (wpAny_seqItems p2 rfl (ao (wpAny_updateSeq_pair p2 λg3 q3 k3=>?_)));have p3:IsPair g3 TO x b:=q3;refine ao (wpAny_letGo (ak (ao (ao (wpAny_onRaise ?_)))));show wpAny _ _ (Builtin.SmallTypes.nextOf (.ref i2) >>= λ_=>_) _ _ _;have to3:∀c o,c≠z->c≠i1->c≠TO->s.heap.get? c=some o->g3.get? c=some o:=λc o c1 c2 c3 e=>k3.extBut _ _ c3 (k2.extBut _ _ c2 (k1.extBut _ _ c1 e));refine ao (qH (h2.to λo e=>to3 _ o D.i2z D.i12.symm D.TOi2.symm e) (hl2.to λo e=>to3 _ o D.l2z D.l2i1 D.l2TO e) (λy g4 hy t4 k4=>ak ?_) (λhy=>⟨(no (.inr hy)).1,λg4 e k4 ⟨oe,ge,ce⟩=>?_⟩))
  ·have p4:IsPair g4 TO x b:=k4.extBut _ _ D.TOi2 p3;refine ao (wpAny_seqItems p4 rfl (ao (wpAny_updateSeq_pair p4 λg5 q5 k5=>?_)));have p5:IsPair g5 TO x y:=q5;refine ao (wpAny_letGo (ak (ak (ao (wpAny_seqItems p5 rfl (ao (wpAny_newTuple ?_)))))));have sz:g5.objs.size=s.heap.objs.size:=by rw[k5.1,k4.1,k3.1,k2.1,k1.1]
   have z5:IsZip g5 z TI TO .ellipsis:=k5.extBut _ _ D.TOz.symm (k4.extBut _ _ D.i2z.symm (k3.extBut _ _ D.TOz.symm (k2.extBut _ _ D.i1z.symm z1)));have to5:∀c o,c≠z->c≠TO->c≠i1->c≠i2->s.heap.get? c=some o->g5.get? c=some o:=λc o c1 c2 c3 c4 e=>k5.extBut _ _ c2 (k4.extBut _ _ c4 (to3 c o c1 c3 c2 e));show wpAny _ _ (Builtin.SmallTypes.ownedTupleHandOut (.ref z) (.ref g5.objs.size) >>= λ_=>_) _ _ _;unfold Builtin.SmallTypes.ownedTupleHandOut;refine ao (ao (wpAny_setField_rec (show IsZip (g5.push {cls:=.type "tuple",data:=.seq #[x,y]}) z TI TO .ellipsis from ae _ z5) (by simp) λg7 y7 k7=>?_));have z7:IsZip g7 z TI TO (rawInt g5.objs.size):=y7;refine wpAny_setField_rec z7 (by simp) λg8 y8 k8=>?_;have z8:IsZip g8 z TI TO (rawInt g5.objs.size):=y8;have up:∀c o,c≠z->(g5.push {cls:=.type "tuple",data:=.seq #[x,y]}).get? c=some o->g8.get? c=some o:=λc o c1 e=>k8.extBut _ _ c1 (k7.extBut _ _ c1 e);have up5:∀c o,c≠z->g5.get? c=some o->g8.get? c=some o:=λc o c1 e=>up c o c1 (ae _ e);have p8:IsPair g8 g5.objs.size x y:=up _ _ (bu (aK z5)) (ar _ rfl);have s8:g8.objs.size=g5.objs.size+1:=by rw[k8.1,k7.1,Heap.size_push]
   rw[sz] at z8 p8 s8;refine ak ⟨_,rfl,?_⟩;show Q (.ref g5.objs.size) {s with heap:=g8};rw[sz];have e1:je b1 g8 i1 l1 (k+1):=t2.to λo e=>up5 _ o D.i1z (k5.extBut _ _ D.TOi1.symm (k4.extBut _ _ D.i12 (k3.extBut _ _ D.TOi1.symm e)));have e2:je b2 g8 i2 l2 (k+1):=t4.to λo e=>up5 _ o D.i2z (k5.extBut _ _ D.TOi2.symm e);exact yes x y g8 hx hy z8 (up5 _ _ D.TOz p5) e1 e2 p8 s8 λc o c1 c2 c3 c4 e=>up5 c o c1 (to5 c o c1 c2 c3 c4 e)
  ·have z4:IsZip g4 z TI TO .ellipsis:=k4 _ _ D.i2z.symm (k3.extBut _ _ D.TOz.symm (k2.extBut _ _ D.i1z.symm z1));refine wpAny_setField_rec z4 (by simp) λg5 _ k5=>(no (.inr hy)).2 g5 e (λc o c1 c2 c3 c4 q=>k5.extBut _ _ c1 (k4 _ _ c4 (to3 c o c1 c3 c2 q))) ⟨oe,k5.extBut _ _ (notZ z4 ge ce) ge,ce⟩
 ·have z2:IsZip g2 z TI TO .ellipsis:=k2 _ _ D.i1z.symm z1;refine wpAny_setField_rec z2 (by simp) λg3 _ k3=>(no (.inl hx)).2 g3 e (λc o c1 c2 c3 c4 q=>k3.extBut _ _ c1 (k2 _ _ c3 (k1.extBut _ _ c1 q))) ⟨oe,k3.extBut _ _ (notZ z2 ge ce) ge,ce⟩
theorem ve{b1 b2:Bool}{z TI TO i1 i2 l1 l2:Addr}{k:Nat}{xs ys:Array Value}{a b:Value}{Q:Option Value->Shared->Prop}(D:ZipApart z TI TO i1 i2 l1 l2)
  (hz:IsZip s.heap z TI TO .none) (hTI:IsPair s.heap TI (.ref i1) (.ref i2)) (hTO:IsPair s.heap TO a b)
  (h1:je b1 s.heap i1 l1 k) (h2:je b2 s.heap i2 l2 k) (hl1:f7 b1 s.heap l1 xs) (hl2:f7 b2 s.heap l2 ys)
  (yes:∀x y h',xs[k]? = some x->ys[k]? = some y->IsZip h' z TI TO (rawInt s.heap.objs.size)->IsPair h' TO x y->je b1 h' i1 l1 (k+1)->je b2 h' i2 l2 (k+1)->IsPair h' s.heap.objs.size x y->h'.objs.size=s.heap.objs.size+1->
   (∀c o,c≠z->c≠TO->c≠i1->c≠i2->s.heap.get? c=some o->h'.get? c=some o)->Q (some (.ref s.heap.objs.size)) {s with heap:=h'})
  (no:xs[k]? = none\/ys[k]? = none->A.handled=none/\∀h',(∀c o,c≠z->c≠TO->c≠i1->c≠i2->s.heap.get? c=some o->h'.get? c=some o)->Q none {s with heap:=h'}) :
  wpAny (model prog w) A (pyNext (.ref z)) Q E s:=by
 have ty:s.TypeIs (.ref z) "zip" :=⟨_,hz,rfl⟩;unfold pyNext;refine ao (wpAny_attempt (wpAny_callSpecial?_slot (name:=Str.ofString "__next__") ty F.slot_zip_next (wpAny_call_entry F.slot_zip_next ty F.entry_zip_next
  (Ah D hz hTI hTO h1 h2 hl1 hl2 (λx y h' u1 u2 u3 u4 u5 u6 u7 u8 u9=>ak (yes x y h' u1 u2 u3 u4 u5 u6 u7 u8 u9)) λq=>⟨(no q).1,λh' e hk ⟨o,ho,hc⟩=>?_⟩) (F.args_zip_next_1 _))))
 exact ao (wpAny_isInstance (T:= "StopIteration") (b:=true) ⟨o,ho,hc⟩ isSubtype_stop (ak ((no q).2 h' hk)))
theorem kM{b:Bool}{l:Addr}{xs:Array Value}{Q:Value->Shared->Prop}(hl:f7 b s.heap l xs)
  (h:Q (.ref s.heap.objs.size) {s with heap:=s.heap.push {cls:=.type (qA b),data:=.fields #[.ref l,.int 0 0]}}):wpAny (model prog w) A (pyIter (.ref l)) Q E s:=by
 cases b with
 | true=>exact wpAny_pyIter_tuple (show s.heap.IsTuple l xs from hl) h
 | false=>exact wpAny_pyIter_list (show s.heap.IsList l xs from hl) h
end
abbrev zo(b:Bool)(l:Addr):Obj:={cls:=.type (qA b),data:=.fields #[.ref l,.int 0 0]}
abbrev zt(x y:Value):Obj:={cls:=.type "tuple",data:=.seq #[x,y]}
abbrev zz(p q:Addr):Obj:={cls:=.type "zip",data:=.fields #[.none,.bool false,.bool false,.ref p,.ref q]}
abbrev tX(b1 b2:Bool)(h:Heap)(l1 l2:Addr):Heap:=
 ((((h.push (zo b1 l1)).push (zo b2 l2)).push (zt (.ref h.objs.size) (.ref (h.push (zo b1 l1)).objs.size))).push (zt .none .none)).push
  (zz ((h.push (zo b1 l1)).push (zo b2 l2)).objs.size (((h.push (zo b1 l1)).push (zo b2 l2)).push (zt (.ref h.objs.size) (.ref (h.push (zo b1 l1)).objs.size))).objs.size)
section
variable {prog:Program}{w:World}{A:Around}{E:Value->Shared->Prop}{s:Shared}
theorem zk(b1 b2:Bool)(l1 l2:Addr)(xs ys:Array Value):Meets (Builtin.«zip.__new__» ⟨[.type "zip",.ref l1,.ref l2],[]⟩) (λ_ R s=>f7 b1 s.heap l1 xs/\f7 b2 s.heap l2 ys/\
  R (.ok (.ret (.ref ((((s.heap.push (zo b1 l1)).push (zo b2 l2)).push (zt (.ref s.heap.objs.size) (.ref (s.heap.push (zo b1 l1)).objs.size))).push (zt .none .none)).objs.size))) {s with heap:=tX b1 b2 s.heap l1 l2}):=by
 refine .of_wp λprog w A R s h=>?_;obtain⟨hp,g,d,tk,os⟩:=s;obtain⟨a1,a2,hR⟩:=h;have sz:=sub_zip;have q1:f7 b1 (Shared.heap ⟨hp,g,d,tk,os⟩) l1 xs:=a1;have q2:f7 b2 (Shared.heap ⟨hp.push (zo b1 l1),g,d,tk,os⟩) l2 ys:=a2.to λo e=>ae _ e;wp_walk using kM q1,kM q2;exact⟨_,rfl,hR⟩
theorem BU{b1 b2:Bool}{l1 l2:Addr}{xs ys:Array Value}{Q:Value->Shared->Prop}(hl1:f7 b1 s.heap l1 xs)(hl2:f7 b2 s.heap l2 ys)
  (h:∀h',IsZip h' (s.heap.objs.size+4) (s.heap.objs.size+2) (s.heap.objs.size+3) .none->IsPair h' (s.heap.objs.size+2) (.ref s.heap.objs.size) (.ref (s.heap.objs.size+1))->IsPair h' (s.heap.objs.size+3) .none .none->
   je b1 h' s.heap.objs.size l1 0->je b2 h' (s.heap.objs.size+1) l2 0->h'.objs.size=s.heap.objs.size+5->(∀c o,s.heap.get? c=some o->h'.get? c=some o)->Q (.ref (s.heap.objs.size+4)) {s with heap:=h'}) :
  wpAny (model prog w) A (call (.type "zip") [.ref l1,.ref l2]) Q E s:=by
 refine callType_new F.called_zip (by decide) (F.typeCall_zip_2 _ _) (F.newCall_zip_2 _ _) (λobj=>F.args_object_init_3 obj _ _) F.entry_zip_new (zk b1 b2 l1 l2 xs ys) ⟨hl1,hl2,?_⟩;generalize hn:s.heap.objs.size=n at *;have n1:(s.heap.push (zo b1 l1)).objs.size=n+1:=by rw[Heap.size_push,hn]
 have n2:((s.heap.push (zo b1 l1)).push (zo b2 l2)).objs.size=n+2:=by rw[Heap.size_push,n1]
 generalize hg2:(s.heap.push (zo b1 l1)).push (zo b2 l2)=g2 at *;have k2:∀c o,s.heap.get? c=some o->g2.get? c=some o:=λc o e=>by rw[<-hg2];exact ae _ (ae _ e)
 have t1:g2.get? n=some (zo b1 l1):=by rw[<-hg2,<-hn];exact ae _ (ar _ rfl)
 have t2:g2.get? (n+1)=some (zo b2 l2):=by rw[<-hg2,<-n1];exact ar _ rfl
 have n3:(g2.push (zt (.ref n) (.ref (n+1)))).objs.size=n+3:=by rw[Heap.size_push,n2]
 have n4:((g2.push (zt (.ref n) (.ref (n+1)))).push (zt .none .none)).objs.size=n+4:=by rw[Heap.size_push,n3]
 have eH:tX b1 b2 s.heap l1 l2=((g2.push (zt (.ref n) (.ref (n+1)))).push (zt .none .none)).push (zz (n+2) (n+3)):=by unfold tX;rw[hn,n1,hg2,n2,n3]
 rw[eH,n1,n4];have p3:(g2.push (zt (.ref n) (.ref (n+1)))).get? (n+2)=some (zt (.ref n) (.ref (n+1))):=by rw[<-n2];exact ar _ rfl
 have p4:((g2.push (zt (.ref n) (.ref (n+1)))).push (zt .none .none)).get? (n+3)=some (zt .none .none):=by rw[<-n3];exact ar _ rfl
 have p5:(((g2.push (zt (.ref n) (.ref (n+1)))).push (zt .none .none)).push (zz (n+2) (n+3))).get? (n+4)=some (zz (n+2) (n+3)):=by rw[<-n4];exact ar _ rfl
 have up:∀c o,g2.get? c=some o->(((g2.push (zt (.ref n) (.ref (n+1)))).push (zt .none .none)).push (zz (n+2) (n+3))).get? c=some o:=λc o e=>ae _ (ae _ (ae _ e));exact⟨⟨_,p5,rfl⟩,h _ p5 (ae _ (ae _ p3)) (ae _ p4) (.of ⟨_,up _ _ t1,rfl,rfl⟩) (.of ⟨_,up _ _ t2,rfl,rfl⟩) (by rw[Heap.size_push,n4]) λc o e=>up c o (k2 c o e)⟩
end
end L2
namespace L2
open PySem PySem.Spec PyProof.Rows
theorem eJ.turnedL{X:Cx}{dN:List (Addr×Obj)}{σ:St}{H:Hp}{s:Shared}{h':Heap}{t':Nat}{ch:List Addr}(I:eJ X dN σ H s)(k:∀b o,b∉ch->s.heap.get? b=some o->h'.get? b=some o)(hf:∀b∈ch,pI X dN H b) :
  eJ X dN σ H {s with heap:=h',toks:=t'}:=by
 have nit:∀b u,H b=some u->b∉ch:=λb u e z=>by rw[(hf b z).1] at e;cases e
 refine I.step (g':=s.gens) (d':=s.drawn) (ch:=ch) (λb hb=>let ⟨_,f1,_,f3,f4,f5⟩:=hf b hb;⟨f3,f1,f4,f5⟩) (λb o _ _ hc e _=>k b o hc e) (λb o _ _ hc e _=>⟨o.slots,k b o hc e⟩) (λ_ _ _ _ n=>n)
  (λb o hc e=>⟨o,k b o hc e⟩) (λ_ _ e=>e) (λ_ _ _ e=>e) (λb ps e=>⟨#[],by rw[e];simp⟩) (λm hm=>?_) (λb u e=>?_) I.bare
 ·obtain⟨o,es,ep,ho,r⟩:=hm;exact⟨o,es,ep,k _ o (λz=>(hf _ z).2.1 rfl) ho,r⟩
 ·refine (I.hok b u e).stay (λc v hc q=>k c v ?_ q) (λ_ q=>q) λ_ _ q=>q;rcases hc with z | z
  ·rw[z];exact nit b u e
  ·exact nit c _ z
def rk(K:W.Frag)(H:Hp)(b:Bool)(a:Addr)(xs:List V):Prop:=if b=true then jR K H a xs else jq K H a xs
theorem eJ.seqB{X:Cx}{dN:List (Addr×Obj)}{σ:St}{H:Hp}{s:Shared}{b:Bool}{a:Addr}{xs:List V}(I:eJ X dN σ H s)(h:rk X.K H b a xs):∃its:List Value,eU xs its/\f7 b s.heap a its.toArray/\xs.length<=sizeLine:=by
 cases b with
 | true=>obtain⟨its,r,p,z⟩:=I.tuple (show jR X.K H a xs from h);exact⟨its,r,p,z⟩
 | false=>obtain⟨its,r,p,z⟩:=I.list (show jq X.K H a xs from h);exact⟨its,r,p.isList,z⟩
theorem eJ.seqB_inj{X:Cx}{dN:List (Addr×Obj)}{σ:St}{H:Hp}{s:Shared}{b:Bool}{a:Addr}{xs ys:List V}(I:eJ X dN σ H s)(h:rk X.K H b a xs)(h':rk X.K H b a ys):xs=ys:=by
 cases b with
 | true=>exact I.tuple_inj h h'
 | false=>exact I.list_inj h h'
def Ja(K:W.Frag)(b1 b2:Bool)(l1 l2:Addr):It:=
  ⟨λi H=>∃xs ys x y,rk K H b1 l1 xs/\rk K H b2 l2 ys/\xs[i]? = some x/\ys[i]? = some y,
   λi H v H'=>∃p x y,v=.ref p/\H p=none/\H'=gL H p (.tup [x,y])/\(∀xs,rk K H b1 l1 xs->xs[i]? = some x)/\∀ys,rk K H b2 l2 ys->ys[i]? = some y,
   λi H=>∃xs ys,rk K H b1 l1 xs/\rk K H b2 l2 ys/\(xs.length<=i\/ys.length<=i)⟩
theorem B3{P:Program}{w:World}{K:W.Frag}{elts:List Expr}{x1}{pos:Pos}{b1 b2:Bool}{z TI TO i1 i2 l1 l2:Addr}(D:ZipApart z TI TO i1 i2 l1 l2) :
  wN P w K (.Tuple elts x1 pos) (Ja K b1 b2 l1 l2) [z,TI,TO,i1,i2] z (λi h=>IsZip h z TI TO .none/\IsPair h TI (.ref i1) (.ref i2)/\(∃a b,IsPair h TO a b)/\je b1 h i1 l1 i/\je b2 h i2 l2 i) where
 mem:=by simp
 obj:=λi h st b hb=>by
  obtain⟨hz,hTI,⟨a,c,hTO⟩,h1,h2⟩:=st;have mem:b=z\/b=TI\/b=TO\/b=i1\/b=i2:=by simpa using hb
  rcases mem with rfl | rfl | rfl | rfl | rfl
  ·exact⟨_,hz,λv q=>by cases q⟩
  ·exact⟨_,hTI,λv q=>by cases q⟩
  ·exact⟨_,hTO,λv q=>by cases q⟩
  ·obtain⟨o,e,_,d⟩:=h1.look;exact⟨o,e,λv q=>by rw[d] at q;cases q⟩
  ·obtain⟨o,e,_,d⟩:=h2.look;exact⟨o,e,λv q=>by rw[d] at q;cases q⟩
 keep:=λi h h' st k=>by obtain⟨hz,hTI,⟨a,c,hTO⟩,h1,h2⟩:=st;exact⟨k z (by simp) _ hz,k TI (by simp) _ hTI,⟨a,c,k TO (by simp) _ hTO⟩,h1.to λo e=>k i1 (by simp) o e,h2.to λo e=>k i2 (by simp) o e⟩
 item:=by
  intro X hP hw hK hc i dN s σ H E I hf st hg;subst hP hw hK;obtain⟨hz,hTI,⟨a,c,hTO⟩,h1,h2⟩:=st;obtain⟨xs,ys,x,y,q1,q2,e1,e2⟩:=hg;obtain⟨us,r1,p1,z1⟩:=I.seqB q1;obtain⟨vs,r2,p2,z2⟩:=I.seqB q2;obtain⟨u,gu,ru⟩:=r1.get e1;obtain⟨v,gv,rv⟩:=r2.get e2;have FT:=I.fpOk (b:=s.heap.objs.size) (aJ _) (I.hok.fresh (aJ _));refine ve D hz hTI hTO h1 h2 p1 p2 (λu' v' h' gu' gv' a1 a2 a3 a4 a5 a6 hk=>?_) λq=>?_
  ·have eu:u'=u:=by
    have:us[i]? = some u':=by simpa using gu'
    rw[gu] at this;cases this;rfl
   have ev:v'=v:=by
    have:vs[i]? = some v':=by simpa using gv'
    rw[gv] at this;cases this;rfl
   subst eu;subst ev;refine⟨_,rfl,wpAny_letOwnedTupleGo_zip a1 λh'' hz'' sb=>?_⟩;have zT:s.heap.objs.size≠z:=bu (aK hz);have I1:eJ X dN σ H {s with heap:=h''}:=I.turnedL (t':=s.toks) (ch:=[z,TO,i1,i2]) (λb o hb e=>sb.extBut _ _ (λq=>hb (by simp[q])) (hk b o (λq=>hb (by simp[q])) (λq=>hb (by simp[q])) (λq=>hb (by simp[q])) (λq=>hb (by simp[q])) e))
    (λb hb=>hf b (by
     have mem:b=z\/b=TO\/b=i1\/b=i2:=by simpa using hb
     rcases mem with rfl | rfl | rfl | rfl<;>simp))
   have gT:h''.get? s.heap.objs.size=some {cls:=.type "tuple",data:=.seq #[u',v']}:=sb.extBut _ _ zT a5;have I2:eJ X dN σ (gL H s.heap.objs.size (.tup [x,y])) {s with heap:=h''}:=I1.track FT.1 FT.2.2.2.1 FT.2.1 FT.2.2.2.2.1 FT.2.2.2.2.2
    ⟨by show 2<=sizeLine;decide,[u',v'],.cons ru (.cons rv .nil),⟨_,gT,rfl,_,rfl⟩⟩
   have lt:∀{b o},s.heap.get? b=some o->gL H s.heap.objs.size (.tup [x,y]) b=H b:=λ{b o} e=>eD (aL (aK e));refine⟨.ref s.heap.objs.size,_,I2,rfl,⟨_,x,y,rfl,FT.1,rfl,λxs' h=>by rw[I.seqB_inj h q1];exact e1,λys' h=>by rw[I.seqB_inj h q2];exact e2⟩,?_,λb hb=>?_⟩
   ·have k2:∀c o,c≠z->h'.get? c=some o->h''.get? c=some o:=λc o c1 e=>sb.extBut _ _ c1 e;exact⟨hz'',k2 _ _ D.TIz (hk _ _ D.TIz D.TITO D.TIi1 D.TIi2 hTI),⟨_,_,k2 _ _ D.TOz a2⟩,a3.to λo e=>k2 _ o D.i1z e,a4.to λo e=>k2 _ o D.i2z e⟩
   ·have mem:b=z\/b=TI\/b=TO\/b=i1\/b=i2:=by simpa using hb
    have hn:=(hf b hb).1;obtain⟨o1,g1,_⟩:=h1.look;obtain⟨o2,g2,_⟩:=h2.look;rcases mem with rfl | rfl | rfl | rfl | rfl
    ·rw[lt hz];exact hn
    ·rw[lt hTI];exact hn
    ·rw[lt hTO];exact hn
    ·rw[lt g1];exact hn
    ·rw[lt g2];exact hn
  ·exfalso;have m1:us.toArray[i]? = some u:=by simpa using gu
   have m2:vs.toArray[i]? = some v:=by simpa using gv
   rcases q with q | q
   ·rw[m1] at q;cases q
   ·rw[m2] at q;cases q
 done:=by
  intro X hP hw hK hc i dN s σ H E I hf st hg;subst hP hw hK;obtain⟨hz,hTI,⟨a,c,hTO⟩,h1,h2⟩:=st;obtain⟨xs,ys,q1,q2,hl⟩:=hg;obtain⟨us,r1,p1,z1⟩:=I.seqB q1;obtain⟨vs,r2,p2,z2⟩:=I.seqB q2;have n1:=r1.length;have n2:=r2.length;have fpc:∀b∈[z,TO,i1,i2],pI X dN H b:=λb hb=>hf b (by
   have mem:b=z\/b=TO\/b=i1\/b=i2:=by simpa using hb
   rcases mem with rfl | rfl | rfl | rfl<;>simp)
  refine ve D hz hTI hTO h1 h2 p1 p2 (λu' v' h' gu' gv' a1 a2 a3 a4 a5 a6 hk=>?_) λq=>⟨I.ok.hd hc,λh' hk=>⟨rfl,I.turnedL (t':=s.toks) (ch:=[z,TO,i1,i2]) (λb o hb e=>hk b o (λq=>hb (by simp[q])) (λq=>hb (by simp[q])) (λq=>hb (by simp[q])) (λq=>hb (by simp[q])) e) fpc⟩⟩;exfalso;have m1:i<us.length:=by
   have:us[i]? = some u':=by simpa using gu'
   exact (aa.mp this).1
  have m2:i<vs.length:=by
   have:vs[i]? = some v':=by simpa using gv'
   exact (aa.mp this).1
  omega
 self:=λ_ _ _ _ _ st h=>wpAny_pyIter_zip st.1 h
theorem F6:bootBuiltins "zip" = some (.type "zip"):=by decide +kernel
section
variable {X:Cx}
def F7(K:W.Frag)(b1 b2:Bool)(ta:TA):TI:=λσ H R=>ta σ H λvs H1=>∃l1 l2,vs=[.ref l1,.ref l2]/\(∃xs,rk K H1 b1 l1 xs)/\(∃ys,rk K H1 b2 l2 ys)/\R (Ja K b1 b2 l1 l2) H1
theorem Fg{b1 b2:Bool}{elts:List Expr}{x1}{tpos:Pos}{a b:Expr}{ta:TA}{p pos:Pos}(hg:Gl X "zip")(hm:X.mg "zip" = none)(ha:PA X [a,b] ta)(hs:starEach [a,b] X.env=[(false,eval a X.env),(false,eval b X.env)]:=by rfl)
  (hs2:starEach [b] X.env=[(false,eval b X.env)]:=by rfl):PI X (.Tuple elts x1 tpos) (.Call (.Name "zip" p) [a,b] [] pos) (F7 X.K b1 b2 ta):=by
 intro dN s σ H R I h;refine Call_ (ky I hg hm F6 (PyProof.Rows.callWith_type1 (g9 (ha pos dN s σ H _ I h) λus s1 ⟨vs,H1,I1,r1,q1⟩=>?_) (by rw[hs,hs2]) (by rw[hs2];rfl)));obtain⟨l1,l2,rfl,⟨xs,q1⟩,⟨ys,q2⟩,q⟩:=q1;obtain⟨u1,u2,rfl,e1,e2⟩:=HZ r1;cases e1;cases e2;obtain⟨us,rv1,p1,_⟩:=I1.seqB q1;obtain⟨ws,rv2,p2,_⟩:=I1.seqB q2;have lt1:l1<s1.heap.objs.size:=by obtain⟨o,n,e,_⟩:=p1.look;exact aK e
 have lt2:l2<s1.heap.objs.size:=by obtain⟨o,n,e,_⟩:=p2.look;exact aK e
 refine BU p1 p2 λh' hz hTI hTO i1 i2 hsz hk=>?_;refine wpAny_pyIter_zip hz ?_;refine⟨_,_,_,_,H1,rfl,I1.kept (t':=s1.toks) hk,B3 (zipApart_new lt1 lt2),⟨hz,hTI,⟨_,_,hTO⟩,i1,i2⟩,λb hb=>?_,q⟩;have mem:b=s1.heap.objs.size+4\/b=s1.heap.objs.size+2\/b=s1.heap.objs.size+3\/b=s1.heap.objs.size\/b=s1.heap.objs.size+1:=by simpa using hb
 have ge:s1.heap.objs.size<=b:=by rcases mem with rfl | rfl | rfl | rfl | rfl<;>omega
 exact I1.fpOk ge (I1.hok.fresh ge)
end
end L2
namespace L2
open PySem PySem.Spec PyProof.Rows
theorem oy{H:Hp}{p:Addr}{o:HO}(h:H p=none):eL H (gL H p o):=λb u e=>by rw[eD (eO e h)];exact e
theorem eL.seqT{K:W.Frag}{H H':Hp}{a:Addr}{xs:List V}(e:eL H H')(h:jR K H a xs):jR K H' a xs:=by
 rcases h with (h | ⟨o,h⟩) | h
 ·exact .inl (.inl (e _ _ h))
 ·exact .inl (.inr ⟨o,e _ _ h⟩)
 ·exact .inr h
def sX(N0:List Str)(sc0 scope:Scope)(N:List Str)(ix:List (Option Nat)):Bool:=
 scope.kind == .function&&scope.names.all (λy=>!(y.2 == NameKind.cell)||scope.names.lookup y.1 == some .cell)&&scope.names.all (λy=>!(y.2 == NameKind.local)||scope.names.lookup y.1 == some .local) &&
 scope.names.all (λy=>!(y.2 == NameKind.free)||sc0.names.lookup y.1 == some .cell)&&N.length == ix.length &&
 (List.range N.length).all (λi=>match ix[i]?,N[i]? with
  | some (some j),some x=>N0[j]? == some x&&scope.names.lookup x == some .free&&sc0.names.lookup x == some .cell
  | _,_=>true)
theorem Ht{X:Cx}{scope:Scope}{N:List Str}{ix:List (Option Nat)}(hX:∀x,X.env.scope.names.lookup x=some .cell->∃c,X.env.cells.lookup x=some c)(h:sX X.N X.env.scope scope N ix=true):vf X scope N ix:=by
 unfold sX at h;simp only[bO] at h;obtain⟨⟨⟨⟨⟨h1,h2⟩,h3⟩,h4⟩,h5⟩,h6⟩:=h;refine⟨by simpa using h1,λy hy e=>?_,λy hy e=>?_,λy hy e=>?_,by simpa using h5,λi j x e1 e2=>?_⟩
 ·have:=ck.mp h2 y hy;rw[e] at this;simpa using this
 ·have:=ck.mp h3 y hy;rw[e] at this;simpa using this
 ·have:=ck.mp h4 y hy;rw[e] at this;exact hX _ (by simpa using this)
 ·have hi:i<N.length:=(aa.mp e1).1;have:=ck.mp h6 i (aR.mpr hi);rw[e1,e2] at this;simp only[bO,beq_iff_eq] at this;obtain⟨⟨a,b⟩,c⟩:=this;exact⟨a,b,.inr (.inl c),λz=>by have z':X.env.scope.names.lookup x=some .local:=z;rw[c] at z';cases z'⟩
theorem A9{X:Cx}{scope:Scope}{N:List Str}{ix:List (Option Nat)}{C:Addr}{s₃:Shared}{H:Hp}{ex:List Addr}{pn:List (Addr×Obj)}(L:vf X scope N ix):∀x,(jW X N scope C s₃ H ex pn).env.scope.names.lookup x=some .cell->∃c,(jW X N scope C s₃ H ex pn).env.cells.lookup x=some c:=λx hx=>by
 refine bJ.mp (W.cellsFrom_some _ _ _ ?_);rcases nq (.inl hx) with hm | hm
 ·exact .inr (bJ.mpr (kQ hm (L.fre _ hm rfl)))
 ·exact .inl hm
theorem qZ{K:W.Frag}{ix:List (Option Nat)}{k l:Nat}(hk:ix[k]? = some none)(hl:ix[l]? = some none):lF ix (yJ K 2 (qq (ir k) (qq (ir l) y9))):=by
 rintro x σ1 H Q ⟨a,xs,e1,hq,hn,v,r,e2,v',r',e3,e4,q⟩;refine⟨a,xs,e1,hq,hn,v,r,e2,v',r',e3,e4,λi j e=>?_,q⟩;have n1:k≠i:=by rintro rfl;rw[hk] at e;cases e
 have n2:l≠i:=by rintro rfl;rw[hl] at e;cases e
 rw[aq n2,aq n1]
section
variable {ix:List (Option Nat)}{g:TG}{tt:TT}{te:TE}{σ:St}{Q:VK}{H1:Hp}{J:It}
end
section
variable {ix:List (Option Nat)}{g:TG}{te:TE}{σ:St}{Q:VK}{H1:Hp}{K:W.Frag}
end
end L2
namespace L2
open PySem PySem.Spec PyProof.Rows
section
variable {X:Cx}
end
end L2
namespace L2
open PySem PySem.Spec PyProof.Rows
section
variable {X:Cx}{K:W.Frag}
end
end L2
namespace L2
open PySem PySem.Spec PyProof.Rows
structure iH(K:W.Frag)(C:Addr)(m qual:Str)(st:Stmt):Prop where
 ex:∃f fd,B7 K m qual st f fd/\Eh K C m f
structure iG(P:Program)(w:World)(K:W.Frag)(mg:Str->Option Value)(base:Heap)(C:Addr)(m:Str)(k:Nat)(sp:Sp):Prop where
 cl:sJ K C
 ex:∃f fd ps,j6 P w K mg base qX k f fd ps sp/\Eh K C m f/\lW K fd ps []
theorem xY{P:Program}{w:World}{K:W.Frag}{mg:Str->Option Value}{base:Heap}{C:Addr}{m qual:Str}{st:Stmt}{N ps:List Str}{k:Nat}{sp:Sp}(cl:sJ K C)(D:iH K C m qual st)(S:gd N ps (dY st))
  (hb:∀(kV doc pm:Value) (an:Option Addr) (cdv ct:Value) (us:List Value),us.length=ps.length->bindArgs (W.fnOf m qual (gA st) (fu st) (dY st) .none kV doc pm an cdv ct) ⟨us,[]⟩=pure (ps.zip us))
  (len:∀vs H Q E,sp vs H Q E->vs.length=ps.length)
  (hbody:∀(f:Addr) (cdv:Value) (A:Around) (outer:List Env) (s:Shared) (H:Hp) (vs:List V) (Q:VK) (E:XK),gh k (A.deeper (envOfC qual (dY st) s.heap.objs.size f cdv))->sp vs H Q E->
   ∃t,uI (lV qX P w K mg base N qual (dY st) f cdv A outer s H E).nox (fu st) t/\t {nx:=λ_ H'=>Q .non H',rt:=Q} (ju N vs) H):iG P w K mg base C m (k+1) sp:=by
 obtain⟨f,fd,F,m⟩:=D.ex;exact⟨cl,f,fd,ps,F.ok S len (hbody f),m,F.binds hb⟩
structure zb(P:Program)(w:World)(K:W.Frag)(mg:Str->Option Value)(base:Heap)(x:Str)(C:Addr)(k:Nat)(sp:Sp):Prop where
 ex:∃f fd ps,j6 P w K mg base qX k f fd ps sp/\Mk K C f/\lW K fd ps []
 mgx:mg x=some (.ref C)
section
variable {X:Cx}{x m:Str}{C:Addr}{k:Nat}{sp:Sp}{e o:Expr}{es:List Expr}{t:TA}{ta:TE}{p pos apos:Pos}
theorem Hn(h:zb X.prog X.w X.K X.mg X.base x C k sp)(hr:gh (k+1) X.A)(ha:PA X (e::es) t)(hg:Gl X x:=by rfl)
  (hdb:(x == ("__debug__" : Str))=false:=by decide) (he:starEach (e::es) X.env=(false,eval e X.env)::starEach es X.env:=by rfl) (hpl:(backTo pos (starEach es X.env)).any (·.1)=false:=by rfl) :
  PE X (.Call (.Name x p) (e::es) [] pos) (xZ C sp [] E0 t):=by
 obtain⟨f,fd,ps,F,a,b⟩:=h.ex;exact CW a F hr hg h.mgx b .nil BC ha hdb he hpl
theorem AX{pl:Sem Bool}(h:iG X.prog X.w X.K X.mg X.base C m k sp)(hr:gh k X.A)(ho:PE X o ta)
  (ht:eval (.Call (.Attribute o m apos) [] [] pos) X.env=(do
   let ov <-eval o X.env
   standAt apos.atName
   let (f,first) <-holding [ov] (getMethod ov m pl)
   callWith pos f first (backTo pos (starEach [] X.env)) (backToKw pos (keywordEach [] X.env))):=by rfl) :
  PE X (.Call (.Attribute o m apos) [] [] pos) (sC C m sp [] E0 ta nQ):=by
 obtain⟨f,fd,ps,F,a,b⟩:=h.ex;exact A2 ho h.cl a F hr b .nil BC ht
end
end L2
namespace L2
end L2
namespace L2
end L2
namespace L2
end L2
namespace L2
open PySem PySem.Spec PyProof.Rows
theorem Al{X:Cx}{tg elt iter:Expr}{ifs:List Expr}{scope:Scope}{pos spos py:Pos}{N:List Str}{ix:List (Option Nat)}{wi:TI}{g:TG}{tt:TT}{te:TE}{i:Nat}{y:Str}(hN:X.N.Nodup)(hy:X.N[i]? = some y)(hx:zN X.env.scope y)
  (hc:X.calm=true) (hi:PI X tg iter wi) (L:vf X scope N ix) (hgk:lF ix g)
  (blk:∀C s₃ H ex pn,PG (jW X N scope C s₃ H ex pn) tg g/\zu (jW X N scope C s₃ H ex pn) ifs tt/\PE (jW X N scope C s₃ H ex pn) elt te)
  (hf:X.fn y=true\/X.env.scope.names.lookup y=some .local:=by first | exact .inl rfl | exact .inr rfl)
  (hsw:swapsWith (.ListComp elt [⟨tg,iter,ifs,0⟩] scope pos) (some (.Name y py)) spos.line X.env=pure true:=by rfl)
  (hs:∀x,foldedSetIterable iter X.env x=pure x:=by intro _;rfl):PS X (.Assign [.Name y py] (.ListComp elt [⟨tg,iter,ifs,0⟩] scope pos) spos) (mj (BH ix wi g tt te) (ir i)):=by
 intro dN s σ H D I h;rw[exec_Assign_Name_used _ _ _ _ hsw];refine ao (wpAny_standAt (ao ?_));rw[arm_evalThenUse_ListComp];refine ao (g9 (wpAny_comprehension_free (use:=some (assign (.Name y py) X.env)) (Q:=λ_ s'=>SP X dN D .next s') rfl hs (mH L.fre) L.kind L.names (g9 (hi dN s σ H _ I h) λv s1 h1=>g9 h1 λitv s2 h2=>?_)) λ_ s' q=>ak (ak q));obtain⟨it,fp,tn,J,H2,e,I2,T,st2,f2,W,⟨m0,w0⟩,turn⟩:=h2;subst e;refine x9 (Q:=λx H1=>ir i x σ H1 D.nx) (RR:=λacc C=>compPost (model X.prog X.w) X.A X.xe (some (assign (.Name y py) X.env)) (λ_ s'=>SP X dN D .next s') acc C) hc L hgk blk I2 T st2 f2 w0 turn λE0 C m H' s' hn f I' q=>?_;refine wpAny_assign_Name (sA (v:=.ref E0) I' hN hy hx rfl (λs3 I3 hch=>?_) hf);obtain⟨a,sb,ha⟩:=hch;have ne:C≠a:=by
  rcases ha with z | z
  ·rw[z];exact f.2.1
  ·exact λw=>f.2.2.2.2.1 y a z w.symm
 exact⟨m,hn.sameBut sb ne,λh' sb'=>⟨_,H',I3.turned (t':=s3.toks) (λb o hb e=>sb'.extBut b o hb e) f.1 f.2.1 f.2.2.2.1 f.2.2.2.2.1 f.2.2.2.2.2,q⟩⟩
end L2
namespace L2
open PySem PySem.Spec PyProof.Rows
section
variable {κ:Type}[DecidableEq κ]
end
section
variable {P:Program}{w:World}{H:Hp}{h:Heap}{a:Addr}
end
section
variable {X:Cx}{dN:List (Addr×Obj)}{σ:St}{H:Hp}{s:Shared}{a:Addr}{y v:V}{u r:Value}{o:Option V}{A:Around}{E:Value->Shared->Prop}
end
section
variable {X:Cx}{dN:List (Addr×Obj)}{σ:St}{H:Hp}{s:Shared}{a:Addr}{kvs:List (pV×V)}{k:pV}{u:Value}{A:Around}{E:Value->Shared->Prop}
end
section
variable {X:Cx}{o i e value:Expr}{pos pos' tpos:Pos}{td ty tv:TE}
end
section
variable {X:Cx}{pos:Pos}
end
section
variable {X:Cx}{dN:List (Addr×Obj)}{σ:St}{H:Hp}{s:Shared}{a:Addr}{y d:V}{u r:Value}{o:Option V}{A:Around}{E:Value->Shared->Prop}
end
section
variable {X:Cx}{o e f:Expr}{apos cpos:Pos}{td ty tx:TE}
end
section
variable {X:Cx}{dN:List (Addr×Obj)}{σ:St}{H:Hp}{s:Shared}{a:Addr}{kvs:List (pV×V)}{A:Around}{E:Value->Shared->Prop}
end
section
variable {X:Cx}{dN:List (Addr×Obj)}{σ:St}{H:Hp}{s:Shared}{a:Addr}{y:V}{u:Value}{A:Around}{E:Value->Shared->Prop}
end
end L2
namespace L2
open PySem PySem.Spec PyProof.Rows Builtin
section
variable {X:Cx}
def vH:V->Option Bool
 | .bl b=>some b
 | .int i=>some (i != 0)
 | _=>none
def jN:List V->Option (List Bool)
 | []=>some []
 | v::vs=>(vH v).bind λb=>(jN vs).bind λr=>some (b::r)
theorem r6:∀{vs:List V} {bs:List Bool} {us:List Value} {i:Nat} {u:Value},jN vs=some bs->eU vs us->us[i]? = some u->∃v,fM v u/\vH v=some (bs.getD i false)
 | [],_,_,_,_,_,.nil,e=>by simp at e
 | v::vs,bs,_,i,u,h,.cons r t,e=>by
  cases hv:vH v with
  | none=>simp[jN,hv] at h
  | some b=>
   cases hr:jN vs with
   | none=>simp[jN,hv,hr] at h
   | some r'=>
    simp[jN,hv,hr] at h;subst h;cases i with
    | zero=>simp at e;subst e;exact⟨v,r,by simpa using hv⟩
    | succ i=>obtain⟨v',a,b'⟩:=r6 (i:=i) hr t (by simpa using e);exact⟨v',a,by simpa using b'⟩
theorem r0:∀{vs:List V} {bs:List Bool},jN vs=some bs->vs.length=bs.length
 | [],_,h=>by cases h;rfl
 | v::vs,bs,h=>by
  cases hv:vH v with
  | none=>simp[jN,hv] at h
  | some b=>
   cases hr:jN vs with
   | none=>simp[jN,hv,hr] at h
   | some r'=>simp[jN,hv,hr] at h;subst h;simp[r0 hr]
theorem qg{prog:Program}{w:World}{A:Around}{vs:List V}{us:List Value}{bs:List Bool}(h:jN vs=some bs)(r:eU vs us):TruthOf prog w A (λi v=>us.toArray[i]? = some v) (λi=>bs.getD i false):=λi u s Q E hP hQ=>by
 obtain⟨v,rv,tv⟩:=r6 h r (by simpa using hP);dsimp only at hQ;cases v with
 | bl b=>
  cases rv;have:b=bs.getD i false:=by simpa[vH] using tv
  rw[<-this] at hQ;exact wpAny_truthy_bool hQ
 | int n=>
  obtain⟨t,rfl⟩:=rv;have:(n != 0)=bs.getD i false:=by simpa[vH] using tv
  rw[<-this] at hQ;exact PyProof.Rows.truthy_int hQ
 | _=>simp[vH] at tv
theorem yI(hc:X.calm=true):iW X (.builtin "any") (λxs H Q=>∃(p:Addr) (vs:List V) (bs:List Bool),xs=[.ref p]/\(jq X.K H p vs\/jR X.K H p vs)/\jN vs=some bs/\Q (.bl (bs.any id)) H):=by
 intro dN s σ H xs us Q I r h;obtain⟨p,vs,bs,rfl,hS,htr,q⟩:=h;obtain⟨u,rfl,rx⟩:=lJ r;cases rx;have hbl:=r0 htr;rcases hS with hS | hS
 ·obtain⟨its,rv,pl,hz⟩:=I.list hS;have hn:=rv.length;have hlt:p<s.heap.objs.size:=by obtain⟨_,e,_⟩:=pl.isList;exact aK e
  refine call_any_walk (wpAny_pyIter_list pl.isList ⟨s.heap.objs.size,_,_,_,_,_,λi=>bs.getD i false,rfl,Walks.list (A:=X.A.in1) (I.ok.hd hc) _ p (aL hlt) _,⟨⟨_,ar _ rfl,rfl,rfl⟩,pl.isList.push _⟩,qg htr rv,λh' tk hk=>?_⟩);refine⟨.bl _,H,I.kept (t':=tk) (λb o e=>hk b o (λhm=>?_) (ae _ e)),rfl,?_⟩
  ·have lt:=aK e;have z:b=s.heap.objs.size:=by simpa using hm
   rw[z] at lt;exact aZ _ lt
  ·rw[<-rX] at q;have:its.toArray.size=bs.length:=by rw[bC];omega
   rw[this];exact q
 ·obtain⟨its,rv,pl,hz⟩:=I.tuple hS;have hn:=rv.length;have hlt:p<s.heap.objs.size:=by obtain⟨_,e,_⟩:=pl;exact aK e
  have pt:s.heap.IsTuple p its.toArray:=pl;refine call_any_walk (wpAny_pyIter_tuple pt ⟨s.heap.objs.size,_,_,_,_,_,λi=>bs.getD i false,rfl,Walks.tuple (A:=X.A.in1) (I.ok.hd hc) _ p (aL hlt) _,⟨⟨_,ar _ rfl,rfl,rfl⟩,pt.push _⟩,qg htr rv,λh' tk hk=>?_⟩);refine⟨.bl _,H,I.kept (t':=tk) (λb o e=>hk b o (λhm=>?_) (ae _ e)),rfl,?_⟩
  ·have lt:=aK e;have z:b=s.heap.objs.size:=by simpa using hm
   rw[z] at lt;exact aZ _ lt
  ·rw[<-rX] at q;have:its.toArray.size=bs.length:=by rw[bC];omega
   rw[this];exact q
end
end L2
namespace L2
open PySem PySem.Spec PyProof.Rows
section
variable {prog:Program}{w:World}{A:Around}{E:Value->Shared->Prop}{s:Shared}
theorem zr{b:Bool}{e it l:Addr}{i:Nat}{xs:Array Value}{old:Value}{Q:Value->Shared->Prop}(he:IsEnum s.heap e it i old)(hi:je b s.heap it l i)(hl:f7 b s.heap l xs)(hne:e≠it)
  (yes:∀x h',xs[i]? = some x->IsEnumOut h' e it ((i:Int)+1) x s.heap.objs.size->je b h' it l (i+1)->h'.get? s.heap.objs.size=some {cls:=.type "tuple",data:=.seq #[.int i s.toks,x]}->h'.objs.size=s.heap.objs.size+1->
   (∀c o,c≠e->c≠it->s.heap.get? c=some o->h'.get? c=some o)->Q (.ref s.heap.objs.size) {s with heap:=h',toks:=s.toks+1})
  (no:xs[i]? = none->A.handled=none/\∀h' x,Heap.ExtBut it s.heap h'->(∃o,h'.get? x=some o/\o.cls=.type "StopIteration")->E (.ref x) {s with heap:=h'}) :
  wpAny (model prog w) A (Builtin.«enumerate.__next__» ⟨[.ref e],[]⟩) (λfin s'=>∃v,fin=.done (.ret v)/\Q v s') E s:=by
 obtain⟨hp,g,d,tk,os⟩:=s;show wpAny _ _ (field (.ref e) 2 >>= λ_=>_) _ _ _;refine ao (wpAny_field he rfl (x:=.ref it) rfl (ao (qH hi hl (λx g1 hx t1 k1=>?_) no)));have k1':Heap.SameBut it hp g1:=k1;have z1:IsEnum g1 e it i old:=(k1'.2 e hne).trans he;show wpAny _ _ (field (.ref e) 3 >>= λ_=>_) _ _ ⟨g1,g,d,tk,os⟩;refine ao (wpAny_field z1 rfl (x:=rawInt i) rfl ?_);show wpAny _ _ (field (.ref e) 4 >>= λ_=>_) _ _ ⟨g1,g,d,tk,os⟩;refine ao (wpAny_field z1 rfl (x:=.none) rfl ?_);show wpAny _ _ (mkInt i >>= λ_=>_) _ _ ⟨g1,g,d,tk,os⟩;refine ao (wpAny_mkInt (ao (wpAny_setField_rec z1 (by simp) λg2 y2 k2=>?_)));have z2:IsEnum g2 e it ((i:Int)+1) old:=y2;refine ao (wpAny_setField_rec z2 (by simp) λg3 y3 k3=>?_);have z3:IsEnum g3 e it ((i:Int)+1) old:=y3;refine ao (wpAny_newTuple ?_);have sz:g3.objs.size=hp.objs.size:=by have a:=k3.1;have c:=k2.1;have u:=k1'.1;dsimp only at a c u;omega
 have z4:IsEnum (g3.push {cls:=.type "tuple",data:=.seq #[.int i tk,x]}) e it ((i:Int)+1) old:=ae _ z3;have el:e<hp.objs.size:=aK he;have to3:∀c o,c≠e->c≠it->hp.get? c=some o->g3.get? c=some o:=λc o c1 c2 q=>k3.extBut c o c1 (k2.extBut c o c1 (k1'.extBut c o c2 q));show wpAny _ _ (Builtin.SmallTypes.ownedTupleIsFree (.ref e) >>= λ_=>_) _ _ _;unfold Builtin.SmallTypes.ownedTupleIsFree;refine ao (ao (wpAny_field z4 rfl (x:=.none) rfl (ak ?_)));simp only[if_true];refine ao (wpAny_rule (ao (wpAny_field z4 rfl (x:=old) rfl (ao (wpAny_setField_rec z4 (by simp) λg5 y5 k5=>?_)))));have z5:IsEnum g5 e it ((i:Int)+1) x:=y5;show wpAny _ _ (Builtin.SmallTypes.ownedTupleHandOut (.ref e) (.ref g3.objs.size) >>= λ_=>_) _ _ _;unfold Builtin.SmallTypes.ownedTupleHandOut;refine ao (ao (wpAny_setField_rec z5 (by simp) λg6 y6 k6=>?_));have z6:IsEnumOut g6 e it ((i:Int)+1) x g3.objs.size:=y6;refine wpAny_setField_rec z6 (by simp) λg7 y7 k7=>?_;have z7:IsEnumOut g7 e it ((i:Int)+1) x g3.objs.size:=y7;have up:∀c o,c≠e->(g3.push {cls:=.type "tuple",data:=.seq #[.int i tk,x]}).get? c=some o->g7.get? c=some o:=λc o c1 q=>k7.extBut c o c1 (k6.extBut c o c1 (k5.extBut c o c1 q));have up3:∀c o,c≠e->g3.get? c=some o->g7.get? c=some o:=λc o c1 q=>up c o c1 (ae _ q);have tp:g7.get? g3.objs.size=some {cls:=.type "tuple",data:=.seq #[.int i tk,x]}:=up _ _ (by rw[sz];exact bu el) (ar _ rfl);have s7:g7.objs.size=g3.objs.size+1:=by have a:=k7.1;have c:=k6.1;have u:=k5.1;dsimp only at a c u;rw[Heap.size_push] at u;omega
 refine ao (wpAny_letGo (ak ⟨_,rfl,?_⟩));show Q (.ref g3.objs.size) ⟨g7,g,d,tk+1,os⟩;rw[sz] at z7 tp s7 ⊢;exact yes x g7 hx z7 (t1.to λo q=>up3 it o (Ne.symm hne) (k3.extBut it o (Ne.symm hne) (k2.extBut it o (Ne.symm hne) q))) tp s7 λc o c1 c2 q=>up3 c o c1 (to3 c o c1 c2 q)
theorem sq{b:Bool}{e it l:Addr}{i:Nat}{xs:Array Value}{old:Value}{Q:Option Value->Shared->Prop}(he:IsEnum s.heap e it i old)(hi:je b s.heap it l i)(hl:f7 b s.heap l xs)(hne:e≠it)
  (yes:∀x h',xs[i]? = some x->IsEnumOut h' e it ((i:Int)+1) x s.heap.objs.size->je b h' it l (i+1)->h'.get? s.heap.objs.size=some {cls:=.type "tuple",data:=.seq #[.int i s.toks,x]}->h'.objs.size=s.heap.objs.size+1->
   (∀c o,c≠e->c≠it->s.heap.get? c=some o->h'.get? c=some o)->Q (some (.ref s.heap.objs.size)) {s with heap:=h',toks:=s.toks+1})
  (no:xs[i]? = none->A.handled=none/\∀h',Heap.ExtBut it s.heap h'->Q none {s with heap:=h'}):wpAny (model prog w) A (pyNext (.ref e)) Q E s:=by
 have ty:s.TypeIs (.ref e) "enumerate" :=⟨_,he,rfl⟩;unfold pyNext;refine ao (wpAny_attempt (wpAny_callSpecial?_slot (name:=Str.ofString "__next__") ty F.slot_enumerate_next (wpAny_call_entry F.slot_enumerate_next ty F.entry_enumerate_next
  (zr he hi hl hne (λx h' u1 u2 u3 u4 u5 u6=>ak (yes x h' u1 u2 u3 u4 u5 u6)) λq=>⟨(no q).1,λh' x hk ⟨o,ho,hc⟩=>?_⟩) (F.args_enumerate_next_1 _))))
 exact ao (wpAny_isInstance (T:= "StopIteration") (b:=true) ⟨o,ho,hc⟩ isSubtype_stop (ak ((no q).2 h' hk)))
abbrev eo(b:Bool)(l:Addr):Obj:={cls:=.type (qA b),data:=.fields #[.ref l,.int 0 0]}
abbrev en(p:Addr):Obj:={cls:=.type "enumerate",data:=.fields #[.none,.bool false,.ref p,rawInt 0,.none,.none]}
theorem xI(b:Bool)(l:Addr)(xs:Array Value):Meets (Builtin.«enumerate.__new__» ⟨[.type "enumerate",.ref l],[]⟩) (λ_ R s=>f7 b s.heap l xs/\
  R (.ok (.ret (.ref (s.heap.push (eo b l)).objs.size))) {s with heap:=(s.heap.push (eo b l)).push (en s.heap.objs.size)}):=by
 refine .of_wp λprog w A R s h=>?_;obtain⟨hp,g,d,tk,os⟩:=s;obtain⟨a1,hR⟩:=h;have hsub:=sub_enumerate;have q1:f7 b (Shared.heap ⟨hp,g,d,tk,os⟩) l xs:=a1;obtain⟨o,n,ho,hd⟩:=q1.look;wp_walk using kM q1;refine wpAny_stack_any λst=>ak ?_;split
 ·rename_i c _ _ _ _ _;cases (c == Value.type "enumerate")
  ·wp_walk using kM q1;exact⟨_,rfl,hR⟩
  ·wp_walk using kM q1;exact⟨_,rfl,hR⟩
 ·wp_walk using kM q1;exact⟨_,rfl,hR⟩
theorem yO{b:Bool}{l:Addr}{xs:Array Value}{Q:Value->Shared->Prop}(hl:f7 b s.heap l xs)
  (h:∀h',IsEnum h' (s.heap.objs.size+1) s.heap.objs.size 0 .none->je b h' s.heap.objs.size l 0->h'.objs.size=s.heap.objs.size+2->(∀c o,s.heap.get? c=some o->h'.get? c=some o)->Q (.ref (s.heap.objs.size+1)) {s with heap:=h'}) :
  wpAny (model prog w) A (call (.type "enumerate") [.ref l]) Q E s:=by
 refine callType_new F.called_enumerate (by decide) (F.typeCall_enumerate_1 _) (F.newCall_enumerate_1 _) (λobj=>F.args_object_init_2 obj _) F.entry_enumerate_new (xI b l xs) ⟨hl,?_⟩;have n1:(s.heap.push (eo b l)).objs.size=s.heap.objs.size+1:=Heap.size_push ..;have ge:=ar (s.heap.push (eo b l)) (o:=en s.heap.objs.size) rfl;rw[n1] at ge;show _/\_;rw[n1];exact⟨⟨_,ge,rfl⟩,h _ ge (.of ⟨_,ae _ (ar _ rfl),rfl,rfl⟩) (by rw[Heap.size_push,n1]) λc o q=>ae _ (ae _ q)⟩
end
def IS(K:W.Frag)(b:Bool)(l:Addr):It:=
  ⟨λi H=>∃xs x,rk K H b l xs/\xs[i]? = some x,
   λi H v H'=>∃p x,v=.ref p/\H p=none/\H'=gL H p (.tup [.int i,x])/\∀xs,rk K H b l xs->xs[i]? = some x,
   λi H=>∃xs,rk K H b l xs/\xs.length<=i⟩
theorem yK{P:Program}{w:World}{K:W.Frag}{elts:List Expr}{x1}{pos:Pos}{b:Bool}{e it l:Addr}(hne:e≠it) :
  wN P w K (.Tuple elts x1 pos) (IS K b l) [e,it] e (λi h=>(∃old,IsEnum h e it i old)/\je b h it l i) where
 mem:=by simp
 obj:=λi h st c hc=>by
  obtain⟨⟨old,he⟩,hi⟩:=st;have mem:c=e\/c=it:=by simpa using hc
  rcases mem with rfl | rfl
  ·exact⟨_,he,λv q=>by cases q⟩
  ·obtain⟨o,q,_,d⟩:=hi.look;exact⟨o,q,λv q'=>by rw[d] at q';cases q'⟩
 keep:=λi h h' st k=>by obtain⟨⟨old,he⟩,hi⟩:=st;exact⟨⟨old,k e (by simp) _ he⟩,hi.to λo q=>k it (by simp) o q⟩
 item:=by
  intro X hP hw hK hc i dN s σ H E I hf st hg;subst hP hw hK;obtain⟨⟨old,he⟩,hi⟩:=st;obtain⟨xs,x,q1,e1⟩:=hg;obtain⟨us,r1,p1,z1⟩:=I.seqB q1;obtain⟨u,gu,ru⟩:=r1.get e1;have FT:=I.fpOk (b:=s.heap.objs.size) (aJ _) (I.hok.fresh (aJ _));refine sq he hi p1 hne (λu' h' gu' a1 a2 a3 a4 hk=>?_) λq=>?_
  ·have eu:u'=u:=by
    have:us[i]? = some u':=by simpa using gu'
    rw[gu] at this;cases this;rfl
   subst eu;refine⟨_,rfl,wpAny_letOwnedTupleGo_enum a1 λh'' hz'' sb=>?_⟩;have sb':Heap.SameBut e h' h'':=sb;have zT:s.heap.objs.size≠e:=bu (aK he);have I1:eJ X dN σ H {s with heap:=h'',toks:=s.toks+1}:=I.turnedL (t':=s.toks+1) (ch:=[e,it]) (λb o hb q=>sb'.extBut _ _ (λz=>hb (by simp[z])) (hk b o (λz=>hb (by simp[z])) (λz=>hb (by simp[z])) q)) (λb hb=>hf b hb);have gT:h''.get? s.heap.objs.size=some {cls:=.type "tuple",data:=.seq #[.int i s.toks,u']}:=sb'.extBut _ _ zT a3;have I2:eJ X dN σ (gL H s.heap.objs.size (.tup [.int i,x])) {s with heap:=h'',toks:=s.toks+1}:=I1.track FT.1 FT.2.2.2.1 FT.2.1 FT.2.2.2.2.1 FT.2.2.2.2.2
    ⟨by show 2<=sizeLine;decide,[.int i s.toks,u'],.cons ⟨_,rfl⟩ (.cons ru .nil),⟨_,gT,rfl,_,rfl⟩⟩
   have lt:∀{b o},s.heap.get? b=some o->gL H s.heap.objs.size (.tup [.int i,x]) b=H b:=λ{b o} q=>eD (aL (aK q));refine⟨.ref s.heap.objs.size,_,I2,rfl,⟨_,x,rfl,FT.1,rfl,λxs' h=>by rw[I.seqB_inj h q1];exact e1⟩,?_,λb hb=>?_⟩
   ·exact⟨⟨_,hz''⟩,a2.to λo q=>sb'.extBut _ o (Ne.symm hne) q⟩
   ·have mem:b=e\/b=it:=by simpa using hb
    have hn:=(hf b hb).1;obtain⟨o1,g1,_⟩:=hi.look;rcases mem with rfl | rfl
    ·rw[lt he];exact hn
    ·rw[lt g1];exact hn
  ·exfalso;have m1:us.toArray[i]? = some u:=by simpa using gu
   rw[m1] at q;cases q
 done:=by
  intro X hP hw hK hc i dN s σ H E I hf st hg;subst hP hw hK;obtain⟨⟨old,he⟩,hi⟩:=st;obtain⟨xs,q1,hl⟩:=hg;obtain⟨us,r1,p1,z1⟩:=I.seqB q1;have n1:=r1.length;refine sq he hi p1 hne (λu' h' gu' a1 a2 a3 a4 hk=>?_) λq=>⟨I.ok.hd hc,λh' hk=>⟨rfl,I.turnedL (t':=s.toks) (ch:=[it]) (λb o hb q=>hk b o (λz=>hb (by simp[z])) q) λb hb=>hf b (by
   have:b=it:=by simpa using hb
   simp[this])⟩⟩
  exfalso;have m1:i<us.length:=by
   have:us[i]? = some u':=by simpa using gu'
   exact (aa.mp this).1
  omega
 self:=λ_ _ _ _ _ st h=>by obtain⟨⟨old,he⟩,_⟩:=st;exact wpAny_pyIter_enum he h
section
variable {X:Cx}
def AG(K:W.Frag)(b:Bool)(ta:TA):TI:=λσ H R=>ta σ H λvs H1=>∃l,vs=[.ref l]/\(∃xs,rk K H1 b l xs)/\R (IS K b l) H1
theorem BM{b:Bool}{elts:List Expr}{x1}{tpos:Pos}{a:Expr}{ta:TA}{p pos:Pos}(hg:Gl X "enumerate")(hm:X.mg "enumerate" = none)(ha:PA X [a] ta)(hs:starEach [a] X.env=[(false,eval a X.env)]:=by rfl) :
  PI X (.Tuple elts x1 tpos) (.Call (.Name "enumerate" p) [a] [] pos) (AG X.K b ta):=by
 intro dN s σ H R I h;refine Call_ (ky I hg hm boot_enumerate (PyProof.Rows.callWith_type1 (g9 (ha pos dN s σ H _ I h) λus s1 ⟨vs,H1,I1,r1,q1⟩=>?_) hs rfl));obtain⟨l,rfl,⟨xs,q1⟩,q⟩:=q1;obtain⟨u,rfl,rx⟩:=lJ r1;cases rx;obtain⟨us,rv1,p1,_⟩:=I1.seqB q1;refine yO p1 λh' he hi hsz hk=>?_;refine wpAny_pyIter_enum he ?_;refine⟨_,_,_,_,H1,rfl,I1.kept (t':=s1.toks) hk,yK (e:=s1.heap.objs.size+1) (it:=s1.heap.objs.size) (Nat.succ_ne_self _),⟨⟨_,he⟩,hi⟩,λb hb=>?_,q⟩;have mem:b=s1.heap.objs.size+1\/b=s1.heap.objs.size:=by simpa using hb
 have ge:s1.heap.objs.size<=b:=by rcases mem with rfl | rfl<;>omega
 exact I1.fpOk ge (I1.hok.fresh ge)
end
end L2
namespace L2
open PySem PySem.Spec PyProof.Rows
section
variable {X:Cx}
end
end L2
namespace HT
open PySem PySem.Spec PyProof.Rows
section
variable {prog:Program}{w:World}{A:Around}{E:Value->Shared->Prop}{s:Shared}
theorem getItem_tuple_all{t sl:Addr}{items:Array Value}{vl vu:Value}{lo hi:Option Int}{Q:Value->Shared->Prop}(ht:IsTup s.heap t items)(hs:s.heap.IsSliceOf sl vl vu .none)(pl:IsPart vl lo)(pu:IsPart vu hi)
  (hw:sIx items.size 0 lo=0/\sIx items.size items.size hi=items.size) (h:Q (.ref t) s):wpAny (model prog w) A (getItem (.ref t) (.ref sl)) Q E s:=by
 obtain⟨os,hos,hcs,hds⟩:=id hs;have hTs:s.TypeIs (.ref sl) "slice" :=⟨os,hos,hcs⟩;unfold getItem;try with_reducible refine wpAny_holding ?_;first | refine ao (ak ?_) | skip
 refine ao (wpAny_sequenceKey ht.typeIs (by decide) ?_);refine ao (wpAny_callSpecial?_slot (name:=Str.ofString "__getitem__") ht.typeIs PyProof.Rows.slot_tuple_getitem
  (wpAny_call_entry PyProof.Rows.slot_tuple_getitem ht.typeIs entry_tuple_getitem ?_ (args_tuple_getitem _ _)))
 show wpAny _ _ (Builtin.Tuple.tupleItemsOf (.ref t) >>= _) _ _ s;refine ao (tupleItemsOf_ ht ?_);refine ao (wpAny_typeOf hTs ?_);rw[aP (by decide)];refine ao (k9 hs pl pu ?_);have hyes:(((sIx items.size 0 lo:Nat):Int) == 0&&(1:Int) == 1&&(sIx items.size items.size hi - sIx items.size 0 lo) == items.size)=true:=by rw[hw.1,hw.2];simp
 show wpAny _ _ (if (((sIx items.size 0 lo:Nat):Int) == 0&&(1:Int) == 1&&(sIx items.size items.size hi - sIx items.size 0 lo) == items.size)=true then _ else _) _ _ s;rw[aP hyes];refine ao (ao (wpAny_typeOf ht.typeIs (ak ?_)));rw[aP (by decide)];refine ao (wpAny_rule ?_);exact ak ⟨_,rfl,ak h⟩
end
end HT
namespace L2
open PySem PySem.Spec PyProof.Rows
section
variable {X:Cx}
def HE(K:W.Frag):V->Option Int->Option Int->Hp->VK->Prop:=λx lo hi H Q=>∃a xs,x=.ref a/\jR K H a xs/\(HT.sIx xs.length 0 lo=0/\HT.sIx xs.length xs.length hi=xs.length)/\Q (.ref a) H
theorem DN:EM X (HE X.K):=by
 intro dN s σ H x v vl vu lo hi sl Q I rx hs pl pu h;obtain⟨a,xs,rfl,hx,hw,q⟩:=h;cases rx;obtain⟨its,r,ht,hz⟩:=I.tuple hx;have jm:its.toArray.size=xs.length:=by rw[bC];exact r.length.symm
 refine⟨"tuple",_,PyProof.Rows.slot_tuple_getitem.lookup,ht.typeIs,?_⟩;exact HT.getItem_tuple_all ht hs pl pu (by rw[jm];exact hw) ⟨.ref a,H,I,rfl,q⟩
end
end L2
namespace L2
open PySem PySem.Spec PyProof.Rows
section
variable {prog:Program}{w:World}{A:Around}{E:Value->Shared->Prop}{s:Shared}{d it:Addr}{es:Array DictEntry}{ep i:Nat}
end
theorem oP:∀{xs:List V} {us:List Value},xs.length=us.length->(∀(i:Nat) v,us[i]? = some v->∃x,xs[i]? = some x/\fM x v)->eU xs us
 | [],[],_,_=>.nil
 | x::xs,u::us,hl,h=>by obtain⟨x',e,r⟩:=h 0 u rfl;simp at e;subst e;exact .cons r (oP (by simpa using hl) λi v hv=>by simpa using h (i+1) v (by simpa using hv))
section
variable {X:Cx}
end
end L2
namespace L2
open PySem PySem.Spec PyProof.Rows
section
variable {X:Cx}{tg:Expr}
end
end L2
namespace L2
open PySem PySem.Spec PyProof.Rows
section
variable {prog:Program}{w:World}{A:Around}{E:Value->Shared->Prop}{s:Shared}
section
variable {R:Result->Shared->Prop}{us:List Value}{b:Bool}
end
end
end L2
namespace L2
open PySem PySem.Spec PyProof.Rows
section
variable {X:Cx}
end
end L2
namespace HT
open PySem PySem.Spec PyProof.Rows
section
variable {prog:Program}{w:World}{A:Around}{E:Value->Shared->Prop}{s:Shared}
end
end HT
namespace L2
open PySem PySem.Spec PyProof.Rows
section
variable {X:Cx}{e st:Expr}{te ts:TE}{p2 pos:Pos}
end
end L2
namespace L2
open PySem PySem.Spec PyProof.Rows PySem.W
section
variable {X:Cx}{dN:List (Addr×Obj)}{σ:St}{H:Hp}{s:Shared}
end
end L2
namespace L2
open PySem PySem.Spec PyProof.Rows
section
variable {X:Cx}
end
end L2
namespace L2
open PySem PySem.Spec PyProof.Rows
section
variable {X:Cx}
def G4(ns:LI):Nat:=(firstMet (λi=>ns.getD i 0) ns.length).length
def Je(K:W.Frag)(ta:TA):TE:=λσ H Q=>ta σ H λvs H1=>∃l ns,vs=[.ref l]/\jq K H1 l (ns.map V.int)/\ns.length<64/\Q (.int (G4 ns:Int)) H1
theorem CU{a:Expr}{ta:TA}{p1 p2 pos pos2:Pos}(hc:X.calm=true)(hg:Gl X "len")(hm:X.mg "len" = none)(hg2:Gl X "set")(hm2:X.mg "set" = none)(ha:PA X [a] ta)(hs:starEach [a] X.env=[(false,eval a X.env)]:=by rfl)
  (he:starEach [Expr.Call (.Name "set" p2) [a] [] pos2] X.env=[(false,eval (.Call (.Name "set" p2) [a] [] pos2) X.env)]:=by rfl) :
  PE X (.Call (.Name "len" p1) [.Call (.Name "set" p2) [a] [] pos2] [] pos) (Je X.K ta):=by
 intro dN s σ H Q I h;refine wpAny_Call_Name_kw (ky I hg hm (by decide +kernel:bootBuiltins "len" = some (.builtin "len")) ?_);refine PyProof.Rows.callWith_builtin1 ?_ he rfl;rw[he];show wpAny _ _ (spliced ((false,eval (.Call (.Name "set" p2) [a] [] pos2) X.env)::[])) _ _ s;refine Calls.spliced_cons (Call_ (ky I hg2 hm2 (by decide +kernel:bootBuiltins "set" = some (.type "set")) (PyProof.Rows.callWith_type1 (g9 (ha pos2 dN s σ H _ I h) λus s1 ⟨vs,H1,I1,r1,q1⟩=>?_) hs rfl)));obtain⟨l,ns,rfl,hS,hl,q⟩:=q1;obtain⟨u,rfl,rx⟩:=lJ r1;cases rx;obtain⟨its,rv,pl,hz⟩:=I1.list hS;have hi:=mY rv;have jm:its.length=ns.length:=by have:=rv.length;rw[aw] at this;omega
 have hb:its.toArray.size+1<scanBound:=by
  have:70<=scanBound:=by decide
  show its.length+1<scanBound;omega
 refine call_set_list (I1.ok.hd hc) pl.isList hi hb λh' tk hset hk=>Calls.spliced_nil ?_;obtain⟨o,es,ep,t,g1,g2,g3,_,_,g4,g5,g6⟩:=hset;have hu:es.size=G4 ns:=by rw[g6];unfold G4;rw[<-jm];rfl
 have kk:∀b o,s1.heap.get? b=some o->h'.get? b=some o:=λb o e=>hk b o (aK e) e;have h1:scanBound<2 ^ 63:=by decide
 have h2:es.size<2 ^ 63:=Nat.lt_trans g4 h1;refine call_len_set (s:={s1 with heap:=h',toks:=tk}) g1 g2 g3 g5 (by exact_mod_cast h2) ?_;exact⟨.int (es.size:Int),H1,I1.kept (t':=tk+1+1) kk,⟨_,rfl⟩,by rw[hu];exact q⟩
end
end L2
namespace L2
open PySem PySem.Spec PyProof.Rows
section
variable {X:Cx}
def IY(ta:TA):TE:=λσ H Q=>ta σ H λvs H1=>∃n:Nat,vs=[.int (n:Int)]/\n<=1000/\∀p,H1 p=none->Q (.ref p) (gL H1 p (.lst ((List.range n).map λ(i:Nat)=>V.int (i:Int))))
theorem AO{a:Expr}{ta:TA}{p1 p2 pos pos2:Pos}(hc:X.calm=true)(hg:Gl X "list")(hm:X.mg "list" = none)(hg2:Gl X "range")(hm2:X.mg "range" = none)(ha:PA X [a] ta)(hs:starEach [a] X.env=[(false,eval a X.env)]:=by rfl)
  (he:starEach [Expr.Call (.Name "range" p2) [a] [] pos2] X.env=[(false,eval (.Call (.Name "range" p2) [a] [] pos2) X.env)]:=by rfl) :
  PE X (.Call (.Name "list" p1) [.Call (.Name "range" p2) [a] [] pos2] [] pos) (IY ta):=by
 intro dN s σ H Q I h;refine wpAny_Call_Name_kw (ky I hg hm (by decide +kernel:bootBuiltins "list" = some (.type "list")) ?_);refine PyProof.Rows.callWith_type1 ?_ he rfl;rw[he];show wpAny _ _ (spliced ((false,eval (.Call (.Name "range" p2) [a] [] pos2) X.env)::[])) _ _ s;refine Calls.spliced_cons (Call_ (ky I hg2 hm2 boot_range (PyProof.Rows.callWith_type1 (g9 (ha pos2 dN s σ H _ I h) λus s1 ⟨vs,H1,I1,r1,q1⟩=>?_) hs rfl)));obtain⟨n,rfl,hn,q⟩:=q1;obtain⟨u,rfl,rx⟩:=lJ r1;obtain⟨t,rfl⟩:=rx;refine call_range_1 (Calls.spliced_nil ?_);refine call_list_range (n:=n) (I1.ok.hd hc) (IsRange.new ..) ?_ ?_ ?_ λh' tk acc' c' hk hl hit=>?_
 ·exact small_one (by omega) (by omega) (by omega) (by omega)
 ·show Builtin.Range.rangeSize 0 (n:Int) 1=(n:Int);unfold Builtin.Range.rangeSize;rw[aP (by decide)];by_cases h0:(0:Int)<(n:Int)
  ·rw[aP h0];omega
  ·rw[aQ h0];omega
 ·omega
 ·have va:eU ((List.range n).map λ(i:Nat)=>V.int (i:Int)) acc'.toList:=by
   refine oP (by rw[aw,cm,bp];exact hit.1.symm) λi v hv=>?_;have hv':acc'[i]? = some v:=by simpa using hv
   obtain⟨t',rfl⟩:=hit.2 i v hv';have hi:i<n:=by have:=(Array.getElem?_eq_some_iff.mp hv').1;rw[hit.1] at this;exact this
   refine⟨.int (i:Int),by rw[av,List.getElem?_range hi];rfl,t',?_⟩;rw[bz,Int.zero_add]
  have sz:(s1.heap.push {cls:=.type "range",data:=.fields #[.int 0 s1.toks,.int (n:Int) t,.int 1 (s1.toks+1)]}).objs.size=s1.heap.objs.size+1:=Heap.size_push _ _;dsimp only at hk hl ⊢;rw[sz] at hl ⊢;refine⟨.ref _,_,I1.laid (t':=tk) (a:=s1.heap.objs.size+1) (λb o e=>hk b o (ae _ e)) (bH _) (show ig X.prog X.w _ _ _ (.lst ((List.range n).map λ(i:Nat)=>V.int (i:Int))) from ⟨?_,acc'.toList,c',va,by simpa using hl⟩),rfl,q _ (I1.hok.fresh (bH _))⟩;rw[aw,cm];have:1000<=sizeLine:=by decide
  omega
end
end L2
namespace Cu
def G(a b:Int):Int:=(Int.gcd a b:Nat)
theorem B1(a b:Int):G b (Int.fmod a b)=G a b:=by
 unfold G;have e:Int.fmod a b=a - b*Int.fdiv a b:=Int.fmod_def a b;rw[e];congr 1;apply Nat.dvd_antisymm
 ·apply Int.dvd_gcd
  ·have h1:=cn b (a - b*Int.fdiv a b);have h2:=cq b (a - b*Int.fdiv a b);have h3:=Int.dvd_add h2 (cu (c:=Int.fdiv a b) h1);have h4:a - b*Int.fdiv a b+b*Int.fdiv a b=a:=by omega
   rw[h4] at h3;exact h3
  ·exact cn b _
 ·apply Int.dvd_gcd
  ·exact cq a b
  ·exact Int.dvd_sub (cn a b) (cu (cq a b))
theorem rW(a b:Int)(h:b≠0):(Int.fmod a b).natAbs<b.natAbs:=by
 rcases Int.lt_or_gt_of_ne h with h' | h'
 ·have h1:=cv (-a) (show 0 < -b by omega);have h2:=cw (-a) (show 0 < -b by omega);rw[Int.neg_fmod_neg] at h1 h2;omega
 ·have h1:=cv a h';have h2:=cw a h';omega
theorem HN(a b:Int):G (a.natAbs:Int) (b.natAbs:Int)=G a b:=by unfold G Int.gcd;rw[cx,cx]
theorem wB(a:Int):G a 0=(a.natAbs:Int):=by unfold G;rw[Int.gcd_zero_right]
theorem qx(a b:Int):0<=G a b:=Int.natCast_nonneg _
theorem yx(a b:Int)(h:b≠0):0<G a b:=by have:0<Int.gcd a b:=cy a h;unfold G;omega
theorem jw(a b:Int):G a b ∣ a:=cn a b
theorem i6(a b:Int):G a b ∣ b:=cq a b
theorem GA(a b:Int)(h:b≠0):G a b<=(b.natAbs:Int):=by have:=Int.natAbs_dvd_natAbs.mpr (i6 a b);have h2:=Nat.le_of_dvd (by omega) this;have:=qx a b;omega
structure Jx(t b p q:Int):Prop where
 pos:0<q
 one:G p q=1
 is:p*b=t*q
theorem qP{t b g p q:Int}(hb:b≠0)(hg:g≠0)(hG:g=G t b\/g = - G t b)(hs:0<q)(ht:t=g*p)(hb':b=g*q):Jx t b p q:=by
 refine⟨hs,?_,?_⟩
 ·have h1:Int.gcd t b=g.natAbs*Int.gcd p q:=by rw[ht,hb',Int.gcd_mul_left]
  have h2:g.natAbs=Int.gcd t b:=by unfold G at hG;omega
  rw[h2] at h1;have h3:0<Int.gcd t b:=cy t hb;have h4:Int.gcd p q=1:=by
   have:Int.gcd t b*1=Int.gcd t b*Int.gcd p q:=by rw[<-h1,Nat.mul_one]
   exact (Nat.eq_of_mul_eq_mul_left h3 this).symm
  unfold G;rw[h4];rfl
 ·have:p*(g*q)=g*p*q:=by rw[<-cz,cA p g]
  rw[<-hb',<-ht] at this;exact this
theorem kq(g p:Int)(hg:g≠0):Int.fdiv (g*p) g=p:=by exact cB p hg
theorem AV(t b:Int)(hb:b≠0):Jx t b (Int.fdiv t (if b<0 then - G t b else G t b)) (Int.fdiv b (if b<0 then - G t b else G t b)):=by
 have hG:=yx t b hb;obtain⟨p,hp⟩:=jw t b;obtain⟨q,hq⟩:=i6 t b;by_cases h:b<0
 ·rw[aP h];have ht:t=(-G t b)*(-p):=by rw[Int.neg_mul_neg];exact hp
  have hb':b=(-G t b)*(-q):=by rw[Int.neg_mul_neg];exact hq
  have e1:Int.fdiv t (-G t b) = -p:=by have:=kq (-G t b) (-p) (by omega);rw[<-ht] at this;exact this
  have e2:Int.fdiv b (-G t b) = -q:=by have:=kq (-G t b) (-q) (by omega);rw[<-hb'] at this;exact this
  rw[e1,e2];refine qP (g:=-G t b) hb (by omega) (Or.inr rfl) ?_ ht hb';by_cases hq':0 < -q
  ·exact hq'
  ·exfalso;have:0<=q:=by omega
   have:=Int.mul_nonneg (az hG) this;omega
 ·rw[aQ h];have e1:Int.fdiv t (G t b)=p:=by have:=kq (G t b) p (by omega);rw[<-hp] at this;exact this
  have e2:Int.fdiv b (G t b)=q:=by have:=kq (G t b) q (by omega);rw[<-hq] at this;exact this
  rw[e1,e2];refine qP (g:=G t b) hb (by omega) (Or.inl rfl) ?_ hp hq;by_cases hq':0<q
  ·exact hq'
  ·exfalso;have:0<=-q:=by omega
   have:=Int.mul_nonneg (az hG) this;rw[Int.mul_neg] at this;omega
end Cu
namespace Cu
open PySem PyProof.Rows
open PySem.Builtin.Int (intBits)
theorem noPy{x y:Int}{m:Nat}(h:intBits y<=m)(hm:m<=8000):PySem.Builtin.divisionGoesByPylong x y=false:=by
 refine PyProof.noPylong_of_log2 ?_;rcases Nat.eq_zero_or_pos y.natAbs with h0 | hp
 ·rw[h0];decide
 ·refine (Nat.log2_lt (bu hp)).mpr ?_;exact lt_pow_of_bits h (by omega)
end Cu
namespace L2
open PySem PySem.Spec PyProof.Rows
theorem zV{X:Cx}:iW X (.builtin "isinstance") (λxs H Q=>∃x T t b,xs=[x,.ty T]/\lY X.K H x t/\W.kitOne X.K t (.type T)=some b/\Q (.bl b) H):=by
 intro dN s σ H xs us Q I r h;obtain⟨x,T,t,b,rfl,ty,e,q⟩:=h;cases r with
 | cons r1 r2=>
  cases r2 with
  | cons r3 r4=>cases r4;cases (show _=Value.type T from r3);exact yL I r1 ty e λtk=>⟨.bl b,H,I.tok tk,rfl,q⟩
theorem E9:bootBuiltins "isinstance" = some (.builtin "isinstance"):=by decide +kernel
theorem ux:bootBuiltins "abs" = some (.builtin "abs"):=by decide +kernel
theorem tj:bootBuiltins "int" = some (.type "int"):=by decide +kernel
theorem yy:bootBuiltins "bool" = some (.type "bool"):=by decide +kernel
theorem gI:bootBuiltins "tuple" = some (.type "tuple"):=by decide +kernel
theorem gB:bootBuiltins "len" = some (.builtin "len"):=by decide +kernel
end L2
namespace L2
open PySem PySem.W PySem.Spec PyProof.Rows
theorem ze{l:W.OpenLaw}{n k:Nat}{q:Program}{loose:List Str}{XP:(Str->Option Value)->Heap->Prop}{YP:World->Heap->Prop}{d:DefRec}{K:Params->W.Frag}{CX:zB}{sp:W.Frag->Sp}{x:Str}
  (hn:l.most=some n) (hn2:n<=sizeLine) (hdf:d.params.defaults=[]) (hr:gh k callerA)
  (hY:∀(w:World) (h:Heap),YP w h->(K w.params).In h)
  (F:∀(w:World) (mg:Str->Option Value) (fa:Addr) (h:Heap),(K w.params).In h->h.Ns mainGlobals mg->mg d.name=some (.ref fa)->
   ∃fd:FuncData,(∀(s:Shared) (u:Value),BindsTo s fd ⟨[u],[]⟩ [(x,u)])/\
    ∀base:Heap,(K w.params).In base->base.Ns mainGlobals mg->j6 l.prog w (K w.params) mg base CX k fa fd [x] (sp (K w.params)))
  (hsp:∀(K:W.Frag) (H:Hp) (a:Addr) (ns:LI),ns.length<=n->(∀z∈ns,PySem.Builtin.Int.intBits z<=2 ^ 20)->ET H->jq K H a (ns.map V.int)->sp K [.ref a] H (λv _=>v=.bl true) λ_ _ _=>False)
  (hCX:∀(H:Hp) (s:Shared) (e:Value) (s':Shared),CX [] H s (λ_ _ _=>False) e s'->False) :
  W.WalkO q loose XP YP l.row.toRowW d [] (λf vs=>PySem.call f vs):=by
 intro w s₀ s₁ mg mb G Y fa o pm cd doc dV kV ho hd hcd hD hmg hg args vals as hpre hlay hrd hwl hlo;obtain rfl:dV=.none:=Dflts.none hD hdf;obtain rfl:kV=.none:=Dflts.noKw hD;obtain⟨a,vs,ns,rfl,rfl,hobj,hints,jm⟩:=Att.script_of hn hpre hwl;have hb:∀z∈ns,PySem.Builtin.Int.intBits z<=2 ^ 20:=λz hz=>by have h1:=(layW_cons hlay).1;have h2:=layableW_item h1 (WData.int z) (aC.mpr ⟨z,hz,rfl⟩);exact PyData.bits_of_layable (layable_int h2)
 have KX:=hY w _ Y;obtain⟨fd,hbd,hF⟩:=F w mg fa _ KX G.T.g hmg;refine enter_call (codeAny_mono (AQ KX G.T.g G.T.b G.T.builtins G.T.nolimit hg hobj hints (aM jm hn2) hr hF hbd (λH hO hS=>hsp _ H a ns jm hb hO hS) λH e s'=>hCX H s₁ e s') λr s' hq=>?_);obtain⟨rfl,h2,h3,h4⟩:=hq;exact⟨.inl ⟨.bool true,.bool true,[],rfl,λ_=>rfl,.bool true,Att.post_true l _,λ_=>⟨List.Pairwise.nil,λ_ hm=>(nomatch hm)⟩⟩,h2,h3,h4⟩
end L2
namespace Cu
open PySem PyProof.Rows
open PySem.Builtin.Int (intBits)
end Cu
namespace L2
end L2
namespace Cu
open PySem PyProof.Rows
open PySem.Builtin.Int (intBits)
end Cu
namespace L2
open PySem PySem.Spec PyProof.Rows
end L2
namespace C4
def Par(c e:LI):Prop:=∀i j,i<c.length->j<c.length->c.getD i 0*e.getD j 0=c.getD j 0*e.getD i 0
theorem par_of_place{c e:LI}{p:Nat}(hp:c.getD p 0≠0)(h:∀i,i<c.length->c.getD i 0*e.getD p 0=e.getD i 0*c.getD p 0):Par c e:=λi j hi hj=>by have h1:=h i hi;have h2:=h j hj;refine Int.eq_of_mul_eq_mul_right hp ?_;have a1:c.getD i 0*e.getD j 0*c.getD p 0=c.getD i 0*(e.getD j 0*c.getD p 0):=cz _ _ _;have a2:c.getD j 0*e.getD i 0*c.getD p 0=c.getD j 0*(e.getD i 0*c.getD p 0):=cz _ _ _;rw[a1,a2,<-h1,<-h2,<-cz,<-cz,cA (c.getD i 0) (c.getD j 0)]
end C4
namespace L3
open PySem L2
inductive T where
 | non | bl (b:Bool) | int (i:Int) | str (x:Str)
 | tup (ts:List T) | lst (ts:List T) | scr (ns:LI)
 | obj (C:Addr) (fs:List (Str×T)) | emp
inductive M(α:Type) where
 | bad | ok (a:α) | er (C:Addr) (n:Option Int)
namespace M
noncomputable def bind{α β:Type}(m:M α)(k:α->M β):M β:=match m with
 | .bad=>.bad
 | .ok a=>k a
 | .er C n=>.er C n
instance:Monad M where
 pure:=.ok
 bind:=M.bind
noncomputable def res{α:Type}(m:M α)(P:α->Prop)(E:Addr->Option Int->Prop):Prop:=match m with
 | .bad=>False
 | .ok a=>P a
 | .er C n=>E C n
theorem res.unb{α β:Type}{m:M α}{k:α->M β}{P:β->Prop}{E:Addr->Option Int->Prop}(h:res (m.bind k) P E):res m (λa=>res (k a) P E) E:=by cases m<;>exact h
theorem res.mono{α:Type}{m:M α}{P P':α->Prop}{E E':Addr->Option Int->Prop}(h:res m P E)(hP:∀a,P a->P' a)(hE:∀C n,E C n->E' C n):res m P' E':=by
 cases m with
 | bad=>exact h
 | ok a=>exact hP a h
 | er C n=>exact hE C n h
noncomputable def noEr{α:Type}(m:M α):M α:=match m with
 | .er _ _=>.bad
 | m=>m
theorem res.noEr{α:Type}{m:M α}{P:α->Prop}{E E':Addr->Option Int->Prop}(h:res m.noEr P E):res m P E':=by
 cases m with
 | bad=>exact h
 | ok a=>exact h
 | er C n=>exact h.elim
@[simp] theorem bind_ok{α β:Type}(a:α)(k:α->M β):M.bind (.ok a) k=k a:=rfl
@[simp] theorem HJ{α β:Type}(k:α->M β):M.bind (.bad:M α) k=.bad:=rfl
@[simp] theorem Iv{α β:Type}(C:Addr)(n:Option Int)(k:α->M β):M.bind (.er C n:M α) k=.er C n:=rfl
noncomputable def NoE{α:Type}(m:M α):Prop:=∀C n,m≠.er C n
theorem res.ne{α:Type}{m:M α}{P:α->Prop}{E E':Addr->Option Int->Prop}(h:res m P E)(ne:NoE m):res m P E':=by
 cases m with
 | bad=>exact h
 | ok a=>exact h
 | er C n=>exact absurd rfl (ne C n)
@[simp] theorem noEr_ok{α:Type}(a:α):noEr (.ok a)=.ok a:=rfl
end M
mutual
inductive jc(K:W.Frag)(F:Hp):V->T->Prop
 | non:jc K F .non .non
 | bl (b:Bool):jc K F (.bl b) (.bl b)
 | int (i:Int):jc K F (.int i) (.int i)
 | str (x:Str):jc K F (.str x) (.str x)
 | tup {a:Addr} {xs:List V} {ts:List T} (h:F a=some (.tup xs)) (r:eI K F xs ts):jc K F (.ref a) (.tup ts)
 | lst {a:Addr} {xs:List V} {ts:List T} (h:F a=some (.lst xs)) (r:eI K F xs ts):jc K F (.ref a) (.lst ts)
 | scr {a:Addr} {ns:LI} (h:jq K F a (ns.map V.int)):jc K F (.ref a) (.scr ns)
 | obj {a C dx:Addr} {fs:List (Str×V)} {ts:List (Str×T)} (h:F a=some (.ins C dx fs)) (r:kU K F fs ts):jc K F (.ref a) (.obj C ts)
 | emp {a:Addr} (h:F a=some (.dK [])):jc K F (.ref a) .emp
inductive eI(K:W.Frag)(F:Hp):List V->List T->Prop
 | nil:eI K F [] []
 | cons {v:V} {t:T} {vs:List V} {ts:List T} (h:jc K F v t) (r:eI K F vs ts):eI K F (v::vs) (t::ts)
inductive kU(K:W.Frag)(F:Hp):List (Str×V)->List (Str×T)->Prop
 | nil:kU K F [] []
 | cons {x:Str} {v:V} {t:T} {vs:List (Str×V)} {ts:List (Str×T)} (h:jc K F v t) (r:kU K F vs ts):kU K F ((x,v)::vs) ((x,t)::ts)
end
section
variable {K:W.Frag}{F F':Hp}
mutual
theorem jc.mono(s:eL F F'):∀{v:V} {t:T},jc K F v t->jc K F' v t
 | _,_,.non=>.non
 | _,_,.bl b=>.bl b
 | _,_,.int i=>.int i
 | _,_,.str x=>.str x
 | _,_,.tup h r=>.tup (s _ _ h) (eI.mono s r)
 | _,_,.lst h r=>.lst (s _ _ h) (eI.mono s r)
 | _,_,.scr h=>.scr (s.seq h)
 | _,_,.obj h r=>.obj (s _ _ h) (kU.mono s r)
 | _,_,.emp h=>.emp (s _ _ h)
theorem eI.mono(s:eL F F'):∀{vs:List V} {ts:List T},eI K F vs ts->eI K F' vs ts
 | _,_,.nil=>.nil
 | _,_,.cons h r=>.cons (jc.mono s h) (eI.mono s r)
theorem kU.mono(s:eL F F'):∀{vs:List (Str×V)} {ts:List (Str×T)},kU K F vs ts->kU K F' vs ts
 | _,_,.nil=>.nil
 | _,_,.cons h r=>.cons (jc.mono s h) (kU.mono s r)
end
theorem eI.length:∀{vs:List V} {ts:List T},eI K F vs ts->vs.length=ts.length
 | _,_,.nil=>rfl
 | _,_,.cons _ r=>by rw[ay,ay,eI.length r]
theorem eI.get:∀{vs:List V} {ts:List T} {i:Nat} {t:T},eI K F vs ts->ts[i]? = some t->∃v,vs[i]? = some v/\jc K F v t
 | _,_,_,_,.nil,e=>by simp at e
 | _,_,0,_,.cons h _,e=>by simp at e;subst e;exact⟨_,rfl,h⟩
 | _,_,i+1,_,.cons _ r,e=>by obtain⟨v,e',h⟩:=eI.get (i:=i) r (by simpa using e);exact⟨v,by simpa using e',h⟩
theorem eI.at_{vs:List V}{ts:List T}{i:Nat}{v:V}(r:eI K F vs ts)(e:vs[i]? = some v):∃t,ts[i]? = some t/\jc K F v t:=by
 have hi:i<ts.length:=by rw[<-r.length];exact (aa.mp e).1
 obtain⟨v',e',h⟩:=r.get (ag hi);rw[e] at e';cases e';exact⟨_,ag hi,h⟩
theorem eI.append:∀{vs us:List V} {ts ss:List T},eI K F vs ts->eI K F us ss->eI K F (vs++us) (ts++ss)
 | _,_,_,_,.nil,q=>q
 | _,_,_,_,.cons h r,q=>.cons h (eI.append r q)
theorem eI.set{v:V}{t:T}(q:jc K F v t):∀{vs:List V} {ts:List T} (i:Nat),eI K F vs ts->eI K F (vs.set i v) (ts.set i t)
 | _,_,_,.nil=>.nil
 | _,_,0,.cons _ r=>.cons q r
 | _,_,i+1,.cons h r=>.cons h (eI.set q i r)
theorem eI.take:∀{vs:List V} {ts:List T} (n:Nat),eI K F vs ts->eI K F (vs.take n) (ts.take n)
 | _,_,0,_=>.nil
 | _,_,_+1,.nil=>.nil
 | _,_,n+1,.cons h r=>.cons h (eI.take n r)
theorem eI.drop:∀{vs:List V} {ts:List T} (n:Nat),eI K F vs ts->eI K F (vs.drop n) (ts.drop n)
 | _,_,0,r=>r
 | _,_,_+1,.nil=>.nil
 | _,_,n+1,.cons _ r=>eI.drop n r
theorem eI.rep:∀{vs:List V} {ts:List T} (n:Nat),eI K F vs ts->eI K F (List.replicate n vs).flatten (List.replicate n ts).flatten
 | _,_,0,_=>.nil
 | _,_,n+1,r=>by rw[bS,bS,bT,bT];exact r.append (eI.rep n r)
theorem eI.ints:∀{vs:List V} {ns:LI},eI K F vs (ns.map T.int)->vs=ns.map V.int
 | _,[],.nil=>rfl
 | _,_::_,.cons h r=>by cases h;rw[eI.ints r];rfl
theorem eI.bls:∀{vs:List V} {ns:List Bool},eI K F vs (ns.map T.bl)->vs=ns.map V.bl
 | _,[],.nil=>rfl
 | _,_::_,.cons h r=>by cases h;rw[eI.bls r];rfl
theorem eI.of_ints:∀(ns:LI),eI K F (ns.map V.int) (ns.map T.int)
 | []=>.nil
 | n::ns=>.cons (.int n) (eI.of_ints ns)
theorem kU.look{f:Str}{t:T}:∀{fs:List (Str×V)} {ts:List (Str×T)},kU K F fs ts->ts.lookup f=some t->∃v,fs.lookup f=some v/\jc K F v t
 | _,_,.nil,e=>by cases e
 | _,_,.cons (x:=x) h r,e=>by
  by_cases hx:f=x
  ·subst hx;rw[cC] at e;cases e;exact⟨_,cC,h⟩
  ·have hb:(f == x)=false:=by simpa using hx
   rw[bZ,hb] at e;obtain⟨v,e',h'⟩:=kU.look r e;exact⟨v,by rw[bZ,hb];exact e',h'⟩
theorem kU.none_{f:Str}:∀{fs:List (Str×V)} {ts:List (Str×T)},kU K F fs ts->ts.lookup f=none->fs.lookup f=none
 | _,_,.nil,e=>rfl
 | _,_,.cons (x:=x) h r,e=>by
  by_cases hx:f=x
  ·subst hx;rw[cC] at e;cases e
  ·have hb:(f == x)=false:=by simpa using hx
   rw[bZ,hb] at e ⊢;exact kU.none_ r e
end
structure Gr(F H F' H':Hp):Prop where
 ff:eL F F'
 fh:eL F' H'
 hh:eL H H'
 nw:∀a,F' a≠none->F a≠none\/H a=none\/∃xs,H a=some (.tup xs)
theorem Gr.refl{F H:Hp}(h:eL F H):Gr F H F H:=⟨.refl _,h,.refl _,λ_ h=>.inl h⟩
theorem eE{H H':Hp}(h:eL H H'){a:Addr}(e:H' a=none):H a=none:=by
 cases q:H a with
 | none=>rfl
 | some o=>rw[h a o q] at e;cases e
theorem Gr.trans{F H F' H' F'' H'':Hp}(g:Gr F H F' H')(g':Gr F' H' F'' H''):Gr F H F'' H'':=
 ⟨g.ff.trans g'.ff,g'.fh,g.hh.trans g'.hh,λa ha=>by
  rcases g'.nw a ha with q | q | ⟨xs,q⟩
  ·exact g.nw a q
  ·exact .inr (.inl (eE g.hh q))
  ·cases z:H a with
   | none=>exact .inr (.inl rfl)
   | some o=>exact .inr (.inr ⟨xs,by rw[g.hh a o z] at q;exact q⟩)⟩
theorem Gr.new{F H:Hp}{p:Addr}{o:HO}(s:eL F H)(h:H p=none):Gr F H (gL F p o) (gL H p o):=by
 have hf:F p=none:=eE s h;refine⟨λb u e=>?_,λb u e=>?_,λb u e=>?_,λb hb=>?_⟩
 ·rw[eD (eO e hf)];exact e
 ·by_cases q:b=p
  ·subst q;rw[eC] at e ⊢;exact e
  ·rw[eD q] at e ⊢;exact s b u e
 ·rw[eD (eO e h)];exact e
 ·by_cases q:b=p
  ·subst q;exact .inr (.inl h)
  ·rw[eD q] at hb;exact .inl hb
theorem Gr.new'{F H:Hp}{p:Addr}{o:HO}(s:eL F H)(h:H p=none):Gr F H F (gL H p o):=by
 refine⟨.refl _,λb u e=>?_,λb u e=>?_,λb hb=>.inl hb⟩
 ·rw[eD (eO (s b u e) h)];exact s b u e
 ·rw[eD (eO e h)];exact e
theorem Gr.take{F0 H0 F H:Hp}{p:Addr}{o:HO}(g:Gr F0 H0 F H)(h:H p=some o)(hf:F p=none)(h0:H0 p=none):Gr F0 H0 (gL F p o) H:=by
 refine⟨λb u e=>?_,λb u e=>?_,g.hh,λb hb=>?_⟩
 ·rw[eD (eO (g.ff b u e) hf)];exact g.ff b u e
 ·by_cases q:b=p
  ·subst q;rw[eC] at e;rw[<-e];exact h
  ·rw[eD q] at e;exact g.fh b u e
 ·by_cases q:b=p
  ·subst q;exact .inr (.inl h0)
  ·rw[eD q] at hb;exact g.nw b hb
theorem kz{F:Hp}{p:Addr}{o:HO}(hf:F p=none):eL F (gL F p o):=λb u e=>by rw[eD (eO e hf)];exact e
abbrev Pe:=List (Option T)
section
variable (K:W.Frag)
def i9(F:Hp)(σ:St)(ρ:Pe):Prop:=∀(i:Nat) (t:T),ρ[i]? = some (some t)->∃v,σ[i]? = some (some v)/\jc K F v t
theorem i9.mono{K:W.Frag}{F F':Hp}{σ:St}{ρ:Pe}(h:i9 K F σ ρ)(s:eL F F'):i9 K F' σ ρ:=λi t e=>let ⟨v,a,b⟩:=h i t e;⟨v,a,b.mono s⟩
def Ke(E:XK)(C:Addr)(n:Option Int)(F H:Hp):Prop:=match n with
 | none=>E (.ref C) none H
 | some i=>∀dx,F dx=some (.xd [("at",.int i)])->E (.ref C) (some dx) H
def kE(E:XK)(F H:Hp)(C:Addr)(n:Option Int):Prop:=∀F' H',Gr F H F' H'->Ke E C n F' H'
theorem kE.go{E:XK}{F H F1 H1:Hp}{C:Addr}{n:Option Int}(h:kE E F H C n)(g:Gr F H F1 H1):kE E F1 H1 C n:=λF' H' g'=>h F' H' (g.trans g')
def kV(F H:Hp)(Q:VK)(t:T):Prop:=∀v F' H',Gr F H F' H'->jc K F' v t->Q v H'
def kB(F H:Hp)(Q:Bool->Hp->Prop)(b:Bool):Prop:=∀F' H',Gr F H F' H'->Q b H'
def kA(F H:Hp)(Q:List V->Hp->Prop)(ts:List T):Prop:=∀vs F' H',Gr F H F' H'->eI K F' vs ts->Q vs H'
def kF(F H:Hp)(Q:VK)(ts:List T):Prop:=∀l vs F' H',Gr F H F' H'->H l=none->F' l=none->H' l=some (.lst vs)->eI K F' vs ts->Q (.ref l) H'
noncomputable def ME(E:XK)(t:TE)(f:Pe->M T):Prop:=∀F H σ ρ Q,eL F H->i9 K F σ ρ->(f ρ).res (kV K F H Q) (kE E F H)->t σ H Q
noncomputable def MT(E:XK)(t:TT)(f:Pe->M Bool):Prop:=∀F H σ ρ Q,eL F H->i9 K F σ ρ->(f ρ).res (kB F H Q) (kE E F H)->t σ H Q
noncomputable def MA(E:XK)(t:TA)(f:Pe->M (List T)):Prop:=∀F H σ ρ Q,eL F H->i9 K F σ ρ->(f ρ).res (kA K F H Q) (kE E F H)->t σ H Q
noncomputable def MF(E:XK)(t:TE)(f:Pe->M (List T)):Prop:=∀F H σ ρ Q,eL F H->i9 K F σ ρ->(f ρ).res (kF K F H Q) (kE E F H)->t σ H Q
end
section
variable {K:W.Frag}{E:XK}{t u ta tb:TE}{f g fa fb:Pe->M T}
theorem kV.go{F H F1 H1:Hp}{Q:VK}{t:T}(h:kV K F H Q t)(g:Gr F H F1 H1):kV K F1 H1 Q t:=λv F' H' g' r=>h v F' H' (g.trans g') r
theorem kB.go{F H F1 H1:Hp}{Q:Bool->Hp->Prop}{t:Bool}(h:kB F H Q t)(g:Gr F H F1 H1):kB F1 H1 Q t:=λF' H' g'=>h F' H' (g.trans g')
theorem kF.go{F H F1 H1:Hp}{Q:VK}{t:List T}(h:kF K F H Q t)(g:Gr F H F1 H1):kF K F1 H1 Q t:=λl vs F' H' g' a b c d=>h l vs F' H' (g.trans g') (eE g.hh a) b c d
theorem kV.now{F H:Hp}{Q:VK}{t:T}{v:V}(h:kV K F H Q t)(s:eL F H)(r:jc K F v t):Q v H:=h v F H (.refl s) r
theorem kF.of{F H:Hp}{Q:VK}{ts:List T}(h:kV K F H Q (.lst ts)):kF K F H Q ts:=λl vs F' H' g hl hf hl' r=>h (.ref l) (gL F' l (.lst vs)) H' (g.take hl' hf hl) (.lst eC (r.mono (kz hf)))
theorem MF.me{f:Pe->M (List T)}(h:MF K E t f):ME K E t (λρ=>(f ρ).bind λts=>.ok (.lst ts)):=λF H σ ρ Q s V r=>h F H σ ρ Q s V ((M.res.unb r).mono (λts q=>kF.of q) λ_ _ z=>z)
theorem ME.run{F H:Hp}{σ:St}{ρ:Pe}{Q:VK}{α:Type}{k:T->M α}{P:α->Prop}(h:ME K E t f)(s:eL F H)(v:i9 K F σ ρ)(r:((f ρ).bind k).res P (kE E F H))
  (hk:∀x w F' H',Gr F H F' H'->jc K F' w x->(k x).res P (kE E F' H')->Q w H'):t σ H Q:=
 h F H σ ρ Q s v ((M.res.unb r).mono (λx q w F' H' g rp=>hk x w F' H' g rp (q.mono (λ_ z=>z) λ_ _ z=>z.go g)) λ_ _ z=>z)
theorem MT.run{t:TT}{f:Pe->M Bool}{F H:Hp}{σ:St}{ρ:Pe}{Q:Bool->Hp->Prop}{α:Type}{k:Bool->M α}{P:α->Prop}(h:MT K E t f)(s:eL F H)(v:i9 K F σ ρ)(r:((f ρ).bind k).res P (kE E F H))
  (hk:∀x F' H',Gr F H F' H'->(k x).res P (kE E F' H')->Q x H'):t σ H Q:=
 h F H σ ρ Q s v ((M.res.unb r).mono (λx q F' H' g=>hk x F' H' g (q.mono (λ_ z=>z) λ_ _ z=>z.go g)) λ_ _ z=>z)
theorem MA.run{t:TA}{f:Pe->M (List T)}{F H:Hp}{σ:St}{ρ:Pe}{Q:List V->Hp->Prop}{α:Type}{k:List T->M α}{P:α->Prop}(h:MA K E t f)(s:eL F H)(v:i9 K F σ ρ)(r:((f ρ).bind k).res P (kE E F H))
  (hk:∀x w F' H',Gr F H F' H'->eI K F' w x->(k x).res P (kE E F' H')->Q w H'):t σ H Q:=
 h F H σ ρ Q s v ((M.res.unb r).mono (λx q w F' H' g rp=>hk x w F' H' g rp (q.mono (λ_ z=>z) λ_ _ z=>z.go g)) λ_ _ z=>z)
@[simp] noncomputable def dJ(i:Nat):Pe->M T:=λρ=>match ρ[i]? with
 | some (some t)=>.ok t
 | _=>.bad
theorem EX{i:Nat}:ME K E (kW i) (dJ i):=λF H σ ρ Q s V r=>by
 unfold dJ at r;split at r
 ·rename_i t e;obtain⟨v,e',h⟩:=V i t e;exact⟨v,e',r.now s h⟩
 ·exact r.elim
@[simp] noncomputable def cM(t:T):Pe->M T:=λ_=>.ok t
theorem B9{v:V}{t:T}(h:∀F,jc K F v t):ME K E (tC v) (cM t):=λF H σ ρ Q s V r=>kV.now r s (h F)
@[simp] noncomputable def ed(o:T->T->M T)(fa fb:Pe->M T):Pe->M T:=λρ=>(fa ρ).bind λx=>(fb ρ).bind λy=>o x y
structure MR(K:W.Frag)(r:R2)(o:T->T->M T):Prop where
 ne:∀x y,M.NoE (o x y)
 ok:∀F H v w x y Q,eL F H->jc K F v x->jc K F w y->(o x y).res (kV K F H Q) (λ_ _=>False)->r v w H Q
theorem yw{r:R2}{o:T->T->M T}(hr:MR K r o)(ha:ME K E ta fa)(hb:ME K E tb fb):ME K E (rh r ta tb) (ed o fa fb):=λF H σ ρ Q s V q=>by refine ha.run s V q λx v F1 H1 g1 r1 q1=>?_;refine hb.run (P:=kV K F H Q) g1.fh (V.mono g1.ff) q1 λy w F2 H2 g2 r2 q2=>?_;exact hr.ok F2 H2 v w x y Q g2.fh (r1.mono g2.ff) r2 ((q2.ne (hr.ne x y)).mono (λ_ z=>z.go (g1.trans g2)) λ_ _ z=>z)
noncomputable def i5(C:Int->Int->Bool)(g:Int->Int->T):T->T->M T
 | .int i,.int j=>if C i j then .ok (g i j) else .bad
 | _,_=>.bad
theorem vM{C:Int->Int->Bool}{g:Int->Int->T}(x y:T):M.NoE (i5 C g x y):=λC' n=>by
 unfold i5;split
 ·split<;>exact λz=>nomatch z
 ·exact λz=>nomatch z
theorem tT{C:Int->Int->Prop}{Cb:Int->Int->Bool}{g:Int->Int->V}{gt:Int->Int->T}(hc:∀i j,Cb i j=true->C i j)(hg:∀F i j,jc K F (g i j) (gt i j)):MR K (rI C g) (i5 Cb gt):=⟨vM,λF H v w x y Q s a b q=>by
  cases a<;>cases b<;>first
    | exact q.elim
    | (rename_i i j
       unfold i5 at q
       by_cases h:Cb i j=true
       · simp only[h,if_true] at q
         exact⟨i,j,rfl,rfl,hc i j h,kV.now q s (hg F i j)⟩
       · simp only[h] at q
         exact q.elim)⟩
theorem nA{g:Int->Int->V}{gt:Int->Int->T}(hg:∀F i j,jc K F (g i j) (gt i j)):MR K (xu g) (i5 (λ_ _=>true) gt):=⟨vM,λF H v w x y Q s a b q=>by
 cases a<;>cases b<;>first
  | exact q.elim
  | exact⟨_,_,rfl,rfl,kV.now q s (hg F _ _)⟩⟩
@[simp] noncomputable def zH(o:Int->T)(fa:Pe->M T):Pe->M T:=λρ=>(fa ρ).bind λx=>match x with
 | .int i=>.ok (o i)
 | _=>.bad
theorem HL{g:Int->V}{gt:Int->T}(hg:∀F i,jc K F (g i) (gt i))(ha:ME K E ta fa):ME K E (Iw (rU g) ta) (zH gt fa):=λF H σ ρ Q s V q=>by
 refine ha.run s V q λx v F1 H1 g1 r1 q1=>?_;cases r1<;>first
  | exact q1.elim
  | exact⟨_,rfl,(q1:kV K F H Q _) _ F1 H1 g1 (hg F1 _)⟩
@[simp] noncomputable def fz(fa:Pe->M T):Pe->M Bool:=λρ=>(fa ρ).bind λx=>match x with
 | .bl b=>.ok b
 | _=>.bad
theorem Cy(ha:ME K E ta fa):MT K E (tB ta) (fz fa):=λF H σ ρ Q s V q=>by
 refine ha.run s V q λx v F1 H1 g1 r1 q1=>?_;cases r1<;>first
  | exact q1.elim
  | exact⟨_,rfl,(q1:kB F H Q _) F1 H1 g1⟩
theorem C3(ha:ME K E ta fa):MT K E (vN ta) (fz fa):=Cy ha
section
variable {c d:TT}{fc fd:Pe->M Bool}
@[simp] noncomputable def nv(fc fd:Pe->M Bool):Pe->M Bool:=λρ=>(fc ρ).bind λb=>if b then fd ρ else .ok false
@[simp] noncomputable def nj(fc fd:Pe->M Bool):Pe->M Bool:=λρ=>(fc ρ).bind λb=>if b then .ok true else fd ρ
@[simp] noncomputable def gK(fc:Pe->M Bool):Pe->M Bool:=λρ=>(fc ρ).bind λb=>.ok (!b)
theorem GR(hc:MT K E c fc)(hd:MT K E d fd):MT K E (Fv c d) (nv fc fd):=λF H σ ρ Q s V q=>by
 refine hc.run s V q λb F1 H1 g1 q1=>?_;cases b with
 | true=>rw[aP rfl];exact hd F1 H1 σ ρ Q g1.fh (V.mono g1.ff) (q1.mono (λ_ z=>z.go g1) λ_ _ z=>z)
 | false=>rw[aQ aG];exact (q1:kB F H Q false) F1 H1 g1
theorem Hw(hc:MT K E c fc)(hd:MT K E d fd):MT K E (IX c d) (nj fc fd):=λF H σ ρ Q s V q=>by
 refine hc.run s V q λb F1 H1 g1 q1=>?_;cases b with
 | true=>rw[aP rfl];exact (q1:kB F H Q true) F1 H1 g1
 | false=>rw[aQ aG];exact hd F1 H1 σ ρ Q g1.fh (V.mono g1.ff) (q1.mono (λ_ z=>z.go g1) λ_ _ z=>z)
theorem E4(hc:MT K E c fc):MT K E (Gy c) (gK fc):=λF H σ ρ Q s V q=>by refine hc.run s V q λb F1 H1 g1 q1=>?_;exact (q1:kB F H Q (!b)) F1 H1 g1
end
@[simp] noncomputable def ng(fa fb:Pe->M T):Pe->M T:=λρ=>(fz fa ρ).bind λb=>if b then fb ρ else .ok (.bl false)
@[simp] noncomputable def zj(fa:Pe->M T):Pe->M T:=λρ=>(fz fa ρ).bind λb=>.ok (.bl (!b))
theorem CZ(ha:ME K E ta fa)(hb:ME K E tb fb):ME K E (A3 ta tb) (ng fa fb):=λF H σ ρ Q s V q=>by
 refine (Cy ha).run (Q:=λc H1=>if c=true then tb σ H1 Q else Q (.bl false) H1) s V q λb F1 H1 g1 q1=>?_;cases b with
 | true=>rw[aP rfl];exact hb F1 H1 σ ρ Q g1.fh (V.mono g1.ff) (q1.mono (λ_ z=>z.go g1) λ_ _ z=>z)
 | false=>rw[aQ aG];exact (q1:kV K F H Q _) _ F1 H1 g1 (.bl _)
theorem Dp(ha:ME K E ta fa):ME K E (Ac ta) (zj fa):=λF H σ ρ Q s V q=>by refine (Cy ha).run (Q:=λc H1=>Q (.bl (!c)) H1) s V q λb F1 H1 g1 q1=>?_;exact (q1:kV K F H Q _) _ F1 H1 g1 (.bl _)
@[simp] noncomputable def dI(fa:Pe->M T)(fr:Pe->M (List T)):Pe->M (List T):=λρ=>(fa ρ).bind λx=>(fr ρ).bind λxs=>.ok (x::xs)
@[simp] noncomputable def dQ:Pe->M (List T):=λ_=>.ok []
theorem xm:MA K E nQ dQ:=λF H σ ρ Q s V q=>(q:kA K F H Q []) [] F H (.refl s) .nil
theorem C8{tr:TA}{fr:Pe->M (List T)}(ha:ME K E ta fa)(hr:MA K E tr fr):MA K E (km ta tr) (dI fa fr):=λF H σ ρ Q s V q=>by refine ha.run s V q λx v F1 H1 g1 r1 q1=>?_;refine hr.run (P:=kA K F H Q) g1.fh (V.mono g1.ff) q1 λxs ws F2 H2 g2 r2 q2=>?_;exact (q2:kA K F H Q (x::xs)) (v::ws) F2 H2 (g1.trans g2) (.cons (r1.mono g2.ff) r2)
@[simp] noncomputable def xo(ts:List T):M (List T):=if ts.length<=sizeLine then .ok ts else .bad
@[simp] noncomputable def mB(fr:Pe->M (List T)):Pe->M T:=λρ=>(fr ρ).bind λts=>(xo ts).bind λts=>.ok (.tup ts)
@[simp] noncomputable def lstM(fr:Pe->M (List T)):Pe->M (List T):=λρ=>(fr ρ).bind xo
theorem FG{tr:TA}{fr:Pe->M (List T)}(hr:MA K E tr fr):ME K E (Ar tr) (mB fr):=λF H σ ρ Q s V q=>by
 refine hr.run s V q λxs ws F1 H1 g1 r1 q1=>?_;unfold xo at q1;by_cases h:xs.length<=sizeLine
 ·rw[aP h] at q1;refine⟨by rw[r1.length];exact h,λp hp=>?_⟩;exact (q1:kV K F H Q (.tup xs)) (.ref p) _ _ (g1.trans (.new g1.fh hp)) (.tup eC (r1.mono (Gr.new g1.fh hp).ff))
 ·rw[aQ h] at q1;exact q1.elim
theorem FB{tr:TA}{fr:Pe->M (List T)}(hr:MA K E tr fr):MF K E (Gp tr) (lstM fr):=λF H σ ρ Q s V q=>by
 refine hr.run s V q λxs ws F1 H1 g1 r1 q1=>?_;unfold xo at q1;by_cases h:xs.length<=sizeLine
 ·rw[aP h] at q1;refine⟨by rw[r1.length];exact h,λp hp=>?_⟩;exact (q1:kF K F H Q xs) p ws F1 _ (g1.trans (.new' g1.fh hp)) (eE g1.hh hp) (eE g1.fh hp) eC r1
 ·rw[aQ h] at q1;exact q1.elim
end
end L3
namespace L3
open PySem L2
inductive W where
 | p (t:T) | o (ts:List T) | d (kvs:List (LI×T))
abbrev En:=List (Option W)
@[simp] def Jm:Option W->Option T
 | some (.p t)=>some t
 | _=>none
@[simp] def Ju:Option W->Option T
 | some (.p t)=>some t
 | some (.o ts)=>some (.lst ts)
 | _=>none
@[simp] def lK(ρ:En):Pe:=ρ.map Jm
@[simp] def vw(ρ:En):Pe:=ρ.map Ju
mutual
@[simp] def lf:T->Bool
 | .lst _=>false
 | .scr _=>false
 | .tup ts=>B6 ts
 | .obj _ fs=>IG fs
 | _=>true
@[simp] def B6:List T->Bool
 | []=>true
 | t::ts=>lf t&&B6 ts
def IG:List (Str×T)->Bool
 | []=>true
 | t::ts=>lf t.2&&IG ts
end
structure Fz where
 hp:Hp
 lt:List (Nat×Addr×List V)
instance:Coe Fz Hp:=⟨Fz.hp⟩
structure Lv(H0 F H:Hp)(σ:St)(ρ:En)(e:Nat×Addr×List V):Prop where
 h:H e.2.1=some (.lst e.2.2)
 f:F e.2.1=none
 z:H0 e.2.1=none
 d:∀(i:Nat) (ts:List T),ρ[i]? = some (some (.o ts))->σ[i]?≠some (some (.ref e.2.1))
def DR(K:W.Frag)(F:Hp)(xs:List (List pV×V))(kvs:List (LI×T)):Prop:=Paired (λ(p:List pV×V) (q:LI×T)=>p.1=q.1.map Sum.inl/\jc K F p.2 q.2) xs kvs
theorem DR.mono{K:W.Frag}{F F':Hp}(s:eL F F'){xs:List (List pV×V)}{kvs:List (LI×T)}(h:DR K F xs kvs):DR K F' xs kvs:=Paired.imp' (λ_ _ q=>⟨q.1,q.2.mono s⟩) h
structure Dv(K:W.Frag)(H0 F H:Hp)(σ:St)(ρ:En):Prop where
 at_:∀(i:Nat) kvs,ρ[i]? = some (some (.d kvs))->∃a,σ[i]? = some (some (.ref a))/\F a=none/\H0 a=none/\∃xs,H a=some (.dT xs)/\DR K F xs kvs
 dj:∀(i j:Nat) kvs kvs',ρ[i]? = some (some (.d kvs))->ρ[j]? = some (some (.d kvs'))->i≠j->σ[i]?≠σ[j]?
theorem zc{α:Type}{l:List α}{i:Nat}{x y:α}(h:(l.set i x)[i]? = some y):y=x:=by
 rw[List.getElem?_set] at h;simp only[if_true] at h;split at h
 ·exact (Option.some.inj h).symm
 ·cases h
theorem yN{α:Type}{l:List α}{i j:Nat}{x y:α}(h:(l.set i x)[j]? = some y):(j=i/\y=x)\/(j≠i/\l[j]? = some y):=by
 by_cases e:j=i
 ·subst e;exact .inl ⟨rfl,zc h⟩
 ·rw[aq (λz=>e z.symm)] at h;exact .inr ⟨e,h⟩
theorem Dv.heap{K:W.Frag}{H0 F H F' H':Hp}{σ:St}{ρ:En}(d:Dv K H0 F H σ ρ)(s:eL F F')(h:∀a xs,H a=some (.dT xs)->F a=none->F' a=none/\H' a=some (.dT xs)):Dv K H0 F' H' σ ρ:=⟨λi kvs e=>let ⟨a,e1,e2,e3,xs,e4,e5⟩:=d.at_ i kvs e;let ⟨h1,h2⟩:=h a xs e4 e2;⟨a,e1,h1,e3,xs,h2,e5.mono s⟩,d.dj⟩
theorem Dv.set{K:W.Frag}{H0 F H:Hp}{σ:St}{ρ:En}(d:Dv K H0 F H σ ρ){i:Nat}{v:Option V}{w:Option W}(hw:∀kvs,w≠some (.d kvs)):Dv K H0 F H (σ.set i v) (ρ.set i w):=by
 refine⟨λj kvs e=>?_,λj k kvs kvs' e e' hjk=>?_⟩
 ·rcases yN e with⟨rfl,q⟩ | ⟨hj,q⟩
  ·exact absurd q.symm (hw kvs)
  ·obtain⟨a,e1,r⟩:=d.at_ j kvs q;exact⟨a,by rw[aq (λz=>hj z.symm)];exact e1,r⟩
 ·rcases yN e with⟨rfl,q⟩ | ⟨hj,q⟩
  ·exact absurd q.symm (hw kvs)
  ·rcases yN e' with⟨rfl,q'⟩ | ⟨hk,q'⟩
   ·exact absurd q'.symm (hw kvs')
   ·rw[aq (λz=>hj z.symm),aq (λz=>hk z.symm)];exact d.dj j k kvs kvs' q q' hjk
theorem Dv.setR{K:W.Frag}{H0 F H:Hp}{σ:St}{ρ:En}(d:Dv K H0 F H σ ρ){i:Nat}{w:Option W}(hw:∀kvs,w≠some (.d kvs)):Dv K H0 F H σ (ρ.set i w):=by
 refine⟨λj kvs e=>?_,λj k kvs kvs' e e' hjk=>?_⟩
 ·rcases yN e with⟨rfl,q⟩ | ⟨hj,q⟩
  ·exact absurd q.symm (hw kvs)
  ·exact d.at_ j kvs q
 ·rcases yN e with⟨rfl,q⟩ | ⟨hj,q⟩
  ·exact absurd q.symm (hw kvs)
  ·rcases yN e' with⟨rfl,q'⟩ | ⟨hk,q'⟩
   ·exact absurd q'.symm (hw kvs')
   ·exact d.dj j k kvs kvs' q q' hjk
structure Sr(K:W.Frag)(F0:Fz)(H0 F H:Hp)(σ:St)(ρ:En):Prop where
 gr:Gr F0.hp H0 F H
 len:σ.length=ρ.length
 pv:∀(i:Nat) (t:T),ρ[i]? = some (some (.p t))->∃v,σ[i]? = some (some v)/\jc K F v t
 ov:∃ad:Nat->Addr,(∀(i:Nat) (ts:List T),ρ[i]? = some (some (.o ts))->σ[i]? = some (some (.ref (ad i)))/\F (ad i)=none/\H0 (ad i)=none/\∃vs,H (ad i)=some (.lst vs)/\eI K F vs ts)/\
  ∀(i j:Nat) (ts us:List T),ρ[i]? = some (some (.o ts))->ρ[j]? = some (some (.o us))->i≠j->ad i≠ad j
 lv:∀e∈F0.lt,Lv H0 F H σ ρ e
 sl:∀(j:Nat) (l:Addr) (vs:List V),F0.lt.lookup j=some (l,vs)->ρ[j]? = some none->σ[j]? = some (some (.ref l))
 dv:Dv K H0 F H σ ρ
section
variable {K:W.Frag}{F0:Fz}{H0 F H F' H':Hp}{σ:St}{ρ:En}
theorem Sr.vars(r:Sr K F0 H0 F H σ ρ):i9 K F σ (lK ρ):=λi t e=>by
 unfold lK at e;rw[av] at e;cases q:ρ[i]? with
 | none=>rw[q] at e;cases e
 | some w=>
  rw[q] at e;cases w with
  | none=>cases e
  | some w=>
   cases w with
   | p t'=>cases e;exact r.pv i _ q
   | o ts=>cases e
   | d kvs=>cases e
theorem Sr.grow(r:Sr K F0 H0 F H σ ρ)(g:Gr F H F' H'):Sr K F0 H0 F' H' σ ρ:=by
 obtain⟨ad,h1,h2⟩:=r.ov;refine⟨r.gr.trans g,r.len,λi t e=>?_,⟨ad,λi ts e=>?_,h2⟩,λe he=>?_,r.sl,r.dv.heap g.ff λa xs ha fa=>⟨?_,g.hh _ _ ha⟩⟩
 ·obtain⟨v,a,b⟩:=r.pv i t e;exact⟨v,a,b.mono g.ff⟩
 ·obtain⟨a,b,c,vs,d,q⟩:=h1 i ts e;refine⟨a,?_,c,vs,g.hh _ _ d,q.mono g.ff⟩;cases z:F' (ad i) with
  | none=>rfl
  | some u=>
   rcases g.nw (ad i) (by rw[z];exact λw=>nomatch w) with y | y | ⟨_,y⟩
   ·exact absurd b y
   ·rw[d] at y;cases y
   ·rw[d] at y;cases y
 ·have L:=r.lv e he;refine⟨g.hh _ _ L.h,?_,L.z,L.d⟩;cases z:F' e.2.1 with
  | none=>rfl
  | some u=>
   rcases g.nw e.2.1 (by rw[z];exact λw=>nomatch w) with y | y | ⟨_,y⟩
   ·exact absurd L.f y
   ·rw[L.h] at y;cases y
   ·rw[L.h] at y;cases y
 ·cases z:F' a with
  | none=>rfl
  | some u=>
   rcases g.nw a (by rw[z];exact λw=>nomatch w) with y | y | ⟨_,y⟩
   ·exact absurd fa y
   ·rw[ha] at y;cases y
   ·rw[ha] at y;cases y
theorem Sr.lend(r:Sr K F0 H0 F H σ ρ):∃Fl,eL F Fl/\Gr F0.hp H0 Fl H/\i9 K Fl σ (vw ρ)/\
  (∀F' H',Gr Fl H F' H'->∃Fb,Gr F H Fb H'/\eL F Fb/\eL Fb F'/\(∀a,F' a≠none->Fb a=none->∃xs,F' a=some (.lst xs))/\(∀a,F' a≠none->Fb a=none->H a≠none)):=by
 classical
 obtain⟨ad,h1,h2⟩:=r.ov;let isOwn:Addr->Prop:=λa=>∃i ts,ρ[i]? = some (some (.o ts))/\ad i=a;let Fl:Hp:=λa=>if isOwn a then H a else F a
 have hs:eL F Fl:=λa o e=>by
  have:¬isOwn a:=by rintro⟨i,ts,q,rfl⟩;obtain⟨_,b,_⟩:=h1 i ts q;rw[b] at e;cases e
  show (if isOwn a then H a else F a)=some o;rw[aQ this];exact e
 have hl:eL Fl H:=λa o e=>by
  by_cases q:isOwn a
  ·have e':(if isOwn a then H a else F a)=some o:=e;rw[aP q] at e';exact e'
  ·have e':(if isOwn a then H a else F a)=some o:=e;rw[aQ q] at e';exact r.gr.fh a o e'
 have ow:∀a,isOwn a->Fl a=H a:=λa q=>aP q;have nw:∀a,¬isOwn a->Fl a=F a:=λa q=>aQ q;refine⟨Fl,hs,⟨r.gr.ff.trans hs,hl,r.gr.hh,λa ha=>?_⟩,λi t e=>?_,λF' H' g=>?_⟩
 ·by_cases q:isOwn a
  ·obtain⟨i,ts,e,rfl⟩:=q;exact .inr (.inl (h1 i ts e).2.2.1)
  ·rw[nw a q] at ha;exact r.gr.nw a ha
 ·unfold vw at e;rw[av] at e;cases q:ρ[i]? with
  | none=>rw[q] at e;cases e
  | some w=>
   rw[q] at e;cases w with
   | none=>cases e
   | some w=>
    cases w with
    | p t'=>cases e;obtain⟨v,a,b⟩:=r.pv i _ q;exact⟨v,a,b.mono hs⟩
    | o ts=>cases e;obtain⟨a,b,c,vs,d,z⟩:=h1 i ts q;exact⟨_,a,.lst (by rw[ow _ ⟨i,ts,q,rfl⟩];exact d) (z.mono hs)⟩
    | d kvs=>cases e
 ·let Fb:Hp:=λa=>if isOwn a then none else F' a
  have fb:∀a,¬isOwn a->Fb a=F' a:=λa q=>aQ q;have fo:∀a,isOwn a->Fb a=none:=λa q=>aP q;have s1:eL F Fb:=λa o e=>by
   have:¬isOwn a:=by rintro⟨i,ts,q,rfl⟩;obtain⟨_,b,_⟩:=h1 i ts q;rw[b] at e;cases e
   rw[fb a this];exact g.ff _ _ (hs _ _ e)
  have s2:eL Fb F':=λa o e=>by
   by_cases q:isOwn a
   ·rw[fo a q] at e;cases e
   ·rw[fb a q] at e;exact e
  refine⟨Fb,⟨s1,s2.trans g.fh,g.hh,λa ha=>?_⟩,s1,s2,λa ha hb=>?_,λa ha hb=>?_⟩
  ·by_cases q:isOwn a
   ·exact absurd (fo a q) ha
   ·rw[fb a q] at ha;rcases g.nw a ha with z | z
    ·rw[nw a q] at z;exact .inl z
    ·exact .inr z
  ·by_cases q:isOwn a
   ·obtain⟨i,ts,e,rfl⟩:=id q;obtain⟨_,_,_,vs,d,_⟩:=h1 i ts e;exact⟨vs,g.ff _ _ (by rw[ow _ q];exact d)⟩
   ·rw[fb a q] at hb;exact absurd hb ha
  ·by_cases q:isOwn a
   ·obtain⟨i,ts,e,rfl⟩:=id q;obtain⟨_,_,_,vs,d,_⟩:=h1 i ts e;rw[d];exact λz=>nomatch z
   ·rw[fb a q] at hb;exact absurd hb ha
mutual
theorem jc.less{Fb:Hp}(sb:eL Fb F)(h:∀a,F a≠none->Fb a=none->∃xs,F a=some (.lst xs)):∀{v:V} {t:T},jc K F v t->lf t=true->jc K Fb v t
 | _,_,.non,_=>.non
 | _,_,.bl b,_=>.bl b
 | _,_,.int i,_=>.int i
 | _,_,.str x,_=>.str x
 | _,_,.tup (a:=a) e r,l=>by
  refine .tup ?_ (eI.less sb h r (by simpa[lf] using l));cases q:Fb a with
  | none=>obtain⟨xs,z⟩:=h a (by rw[e];exact λz=>nomatch z) q;rw[e] at z;cases z
  | some u=>rw[<-e];exact (sb a u q).symm
 | _,_,.lst _ _,l=>by simp[lf] at l
 | _,_,.scr _,l=>by simp[lf] at l
 | _,_,.obj (a:=a) (dx:=dx) e r,l=>by
  refine .obj (dx:=dx) ?_ (kU.less sb h r (by simpa[lf] using l));cases q:Fb a with
  | none=>obtain⟨xs,z⟩:=h a (by rw[e];exact λz=>nomatch z) q;rw[e] at z;cases z
  | some u=>rw[<-e];exact (sb a u q).symm
 | _,_,.emp (a:=a) e,l=>by
  refine .emp ?_;cases q:Fb a with
  | none=>obtain⟨xs,z⟩:=h a (by rw[e];exact λz=>nomatch z) q;rw[e] at z;cases z
  | some u=>rw[<-e];exact (sb a u q).symm
theorem eI.less{Fb:Hp}(sb:eL Fb F)(h:∀a,F a≠none->Fb a=none->∃xs,F a=some (.lst xs)):∀{vs:List V} {ts:List T},eI K F vs ts->B6 ts=true->eI K Fb vs ts
 | _,_,.nil,_=>.nil
 | _,_,.cons q r,l=>by rw[B6,bO] at l;exact .cons (jc.less sb h q l.1) (eI.less sb h r l.2)
theorem kU.less{Fb:Hp}(sb:eL Fb F)(h:∀a,F a≠none->Fb a=none->∃xs,F a=some (.lst xs)):∀{vs:List (Str×V)} {ts:List (Str×T)},kU K F vs ts->IG ts=true->kU K Fb vs ts
 | _,_,.nil,_=>.nil
 | _,_,.cons q r,l=>by rw[IG,bO] at l;exact .cons (jc.less sb h q l.1) (kU.less sb h r l.2)
end
end
end L3
namespace L3
open PySem L2
def kT(K:W.Frag)(F H:Hp)(Q:VK)(ts us:List T):Prop:=∀p l ws vs F' H',Gr F H F' H'->H l=none->F' l=none->H p=none->F' p=none->p≠l->H' l=some (.lst vs)->H' p=some (.tup (ws++[.ref l]))->eI K F' ws ts->eI K F' vs us->Q (.ref p) H'
theorem kT.of{K:W.Frag}{F H:Hp}{Q:VK}{ts us:List T}(h:kV K F H Q (.tup (ts++[.lst us]))):kT K F H Q ts us:=λp l ws vs F' H' g a b c d e f i r r'=>by
 have g1:=g.take f b a;have d1:gL F' l (.lst vs) p=none:=by rw[eD e];exact d
 have s1:eL F' (gL F' l (.lst vs)):=kz b;have s2:eL (gL F' l (.lst vs)) (gL (gL F' l (.lst vs)) p (.tup (ws++[.ref l]))):=kz d1;exact h (.ref p) _ H' (g1.take i d1 c) (.tup eC ((r.mono (s1.trans s2)).append (.cons (.lst (s2 _ _ eC) (r'.mono (s1.trans s2))) .nil)))
inductive O where
 | bad | nx (ρ:En) | rt (t:T) | rf (ts:List T) | rn (ts us:List T) | bk (ρ:En) | ct (ρ:En) | er (C:Addr) (n:Option Int)
section
variable (K:W.Frag)(E:XK)
def kN(F0:Fz)(H0 F:Hp)(D:St->Hp->Prop)(ρ:En):Prop:=∀F' H' σ',eL F F'->Sr K F0 H0 F' H' σ' ρ->D σ' H'
noncomputable def O.res(o:O)(F0:Fz)(H0 F:Hp)(D:rF):Prop:=match o with
 | .bad=>False
 | .nx ρ=>kN K F0 H0 F D.nx ρ
 | .rt t=>kV K F0.hp H0 D.rt t
 | .rf ts=>kF K F0.hp H0 D.rt ts
 | .rn ts us=>kT K F0.hp H0 D.rt ts us
 | .bk ρ=>kN K F0 H0 F D.bk ρ
 | .ct ρ=>kN K F0 H0 F D.ct ρ
 | .er C n=>kE E F0.hp H0 C n
noncomputable def MS(t:TS)(g:En->O):Prop:=∀F0 H0 F H σ ρ D,Sr K F0 H0 F H σ ρ->(g ρ).res K E F0 H0 F D->t D σ H
end
section
variable {K:W.Frag}{E:XK}{t u ta tb:TE}{f fa fb:Pe->M T}{F0:Fz}{H0 F H F1 H1:Hp}{σ:St}{ρ:En}{D:rF}
theorem kN.go{N:St->Hp->Prop}(h:kN K F0 H0 F N ρ)(s:eL F F1):kN K F0 H0 F1 N ρ:=λF' H' σ' s' r=>h F' H' σ' (s.trans s') r
theorem O.res.go{o:O}(h:o.res K E F0 H0 F D)(s:eL F F1):o.res K E F0 H0 F1 D:=by
 cases o with
 | bad=>exact h
 | nx ρ=>exact kN.go h s
 | rt t=>exact h
 | rf ts=>exact h
 | rn ts us=>exact h
 | bk ρ=>exact kN.go h s
 | ct ρ=>exact kN.go h s
 | er C n=>exact h
noncomputable def O.of{α:Type}(m:M α)(k:α->O):O:=match m with
 | .bad=>.bad
 | .ok a=>k a
 | .er C n=>.er C n
@[simp] theorem O.of_ok{α:Type}(a:α)(k:α->O):O.of (.ok a) k=k a:=rfl
@[simp] theorem O.of_bad{α:Type}(k:α->O):O.of (.bad:M α) k=.bad:=rfl
@[simp] theorem O.of_er{α:Type}(C:Addr)(n:Option Int)(k:α->O):O.of (.er C n:M α) k=.er C n:=rfl
theorem O.res_of{α:Type}{m:M α}{k:α->O}(h:(O.of m k).res K E F0 H0 F D):m.res (λa=>(k a).res K E F0 H0 F D) (kE E F0.hp H0):=by cases m<;>exact h
@[simp] noncomputable def eh(a b:En->O):En->O:=λρ=>match a ρ with
 | .nx ρ'=>b ρ'
 | o=>o
theorem GQ{t u:TS}{a b:En->O}(h1:MS K E t a)(h2:MS K E u b):MS K E (DO t u) (eh a b):=λF0 H0 F H σ ρ D r q=>by
 refine h1 F0 H0 F H σ ρ _ r ?_;unfold eh at q;cases e:a ρ with
 | nx ρ'=>rw[e] at q;intro F' H' σ' s r';exact h2 F0 H0 F' H' σ' ρ' D r' (q.go s)
 | bad=>rw[e] at q;exact q
 | rt t=>rw[e] at q;exact q
 | rf ts=>rw[e] at q;exact q
 | rn ts us=>rw[e] at q;exact q
 | bk ρ=>rw[e] at q;exact q
 | ct ρ=>rw[e] at q;exact q
 | er C n=>rw[e] at q;exact q
@[simp] noncomputable def eZ:En->O:=λρ=>.nx ρ
theorem DG:MS K E zX eZ:=λF0 H0 F H σ ρ D r q=>(q:kN K F0 H0 F D.nx ρ) F H σ (.refl _) r
theorem BE:MS K E xq (λ_=>.bad):=λ_ _ _ _ _ _ _ _ q=>q
theorem MT.inS{c:TT}{fc:Pe->M Bool}{Q:Bool->Hp->Prop}{k:Bool->O}(hc:MT K E c fc)(r:Sr K F0 H0 F H σ ρ)(q:(O.of (fc (vw ρ)) k).res K E F0 H0 F D)
  (hk:∀b F' H',eL F F'->Sr K F0 H0 F' H' σ ρ->(k b).res K E F0 H0 F' D->Q b H'):c σ H Q:=by
 obtain⟨Fl,s0,g0,V,back⟩:=r.lend;refine hc Fl H σ (vw ρ) Q g0.fh V ((O.res_of q).mono (λb z F' H' g=>?_) λC n z=>z.go g0);obtain⟨Fb,gb,sb,_⟩:=back F' H' g;exact hk b Fb H' sb (r.grow gb) (z.go sb)
@[simp] noncomputable def jF(fc:Pe->M Bool)(a b:En->O):En->O:=λρ=>.of (fc (vw ρ)) λc=>if c then a ρ else b ρ
theorem Hm{c:TT}{fc:Pe->M Bool}{t u:TS}{a b:En->O}(hc:MT K E c fc)(h1:MS K E t a)(h2:MS K E u b):MS K E (Ga c t u) (jF fc a b):=λF0 H0 F H σ ρ D r q=>by
 refine hc.inS r q λc F' H' s r' q'=>?_;cases c with
 | true=>rw[aP rfl];exact h1 _ _ _ _ _ _ _ r' q'
 | false=>rw[aQ aG];exact h2 _ _ _ _ _ _ _ r' q'
@[simp] noncomputable def eY(f:Pe->M T):En->O:=λρ=>.of (f (vw ρ)) λt=>.rt t
theorem F9(h:ME K E t f):MS K E (t6 t) (eY f):=λF0 H0 F H σ ρ D r q=>by obtain⟨Fl,s0,g0,V,back⟩:=r.lend;exact h Fl H σ (vw ρ) _ g0.fh V ((O.res_of q).mono (λb z=>kV.go z g0) λC n z=>z.go g0)
@[simp] noncomputable def oY(f:Pe->M (List T)):En->O:=λρ=>.of (f (vw ρ)) λt=>.rf t
theorem Ei{f:Pe->M (List T)}(h:MF K E t f):MS K E (t6 t) (oY f):=λF0 H0 F H σ ρ D r q=>by obtain⟨Fl,s0,g0,V,back⟩:=r.lend;exact h Fl H σ (vw ρ) _ g0.fh V ((O.res_of q).mono (λb z=>kF.go z g0) λC n z=>z.go g0)
@[simp] noncomputable def lA(i:Nat):En->O:=λρ=>match ρ[i]? with
 | some (some (.o ts))=>.rf ts
 | _=>.bad
theorem yX{i:Nat}:MS K E (t6 (kW i)) (lA i):=λF0 H0 F H σ ρ D r q=>by
 unfold lA at q;split at q
 ·rename_i ts e;obtain⟨ad,h1,h2⟩:=r.ov;obtain⟨a,b,c,vs,d,z⟩:=h1 i ts e;exact⟨_,a,(q:kF K F0 H0 D.rt ts) (ad i) vs F H r.gr c b d z⟩
 ·exact q.elim
theorem nZ{α:Type}{l:List α}{i:Nat}{x y:α}(h:(l.set i x)[i]? = some y):y=x:=by
 rw[List.getElem?_set] at h;simp only[if_true] at h;split at h
 ·exact (Option.some.inj h).symm
 ·cases h
theorem fN{α:Type}{l:List α}{i j:Nat}{x y:α}(h:(l.set i x)[j]? = some y):(j=i/\y=x)\/(j≠i/\l[j]? = some y):=by
 by_cases e:j=i
 ·subst e;exact .inl ⟨rfl,nZ h⟩
 ·rw[aq (λz=>e z.symm)] at h;exact .inr ⟨e,h⟩
theorem tE{α:Type}{l:List α}{i:Nat}{x:α}(h:i<l.length):(l.set i x)[i]? = some x:=by rw[List.getElem?_set_self h]
theorem Sr.setP{i:Nat}{v:V}{x:T}(r:Sr K F0 H0 F H σ ρ)(h:jc K F v x):Sr K F0 H0 F H (σ.set i (some v)) (ρ.set i (some (.p x))):=by
 obtain⟨ad,h1,h2⟩:=r.ov;refine⟨r.gr,by simp[r.len],λj t e=>?_,⟨ad,λj ts e=>?_,λj k ts us e e'=>?_⟩,λe he=>?_,λj l vs hlt q=>?_,r.dv.set λ_ z=>nomatch z⟩
 ·have hl:j<ρ.length:=by simpa using (aa.mp e).1
  rcases fN e with⟨rfl,q⟩ | ⟨hj,q⟩
  ·cases q;exact⟨v,tE (by rw[r.len];exact hl),h⟩
  ·obtain⟨w,a,b⟩:=r.pv j t q;exact⟨w,by rw[aq (λz=>hj z.symm)];exact a,b⟩
 ·rcases fN e with⟨rfl,q⟩ | ⟨hj,q⟩
  ·cases q
  ·obtain⟨a,b⟩:=h1 j ts q;exact⟨by rw[aq (λz=>hj z.symm)];exact a,b⟩
 ·rcases fN e with⟨rfl,q⟩ | ⟨hj,q⟩
  ·cases q
  ·rcases fN e' with⟨rfl,q'⟩ | ⟨hk,q'⟩
   ·cases q'
   ·exact h2 j k ts us q q'
 ·have L:=r.lv e he;refine⟨L.h,L.f,L.z,λj ts q=>?_⟩;rcases fN q with⟨rfl,q1⟩ | ⟨hj,q1⟩
  ·cases q1
  ·rw[aq (λz=>hj z.symm)];exact L.d j ts q1
 ·rcases fN q with⟨rfl,q1⟩ | ⟨hj,q1⟩
  ·cases q1
  ·rw[aq (λz=>hj z.symm)];exact r.sl j l vs hlt q1
theorem Sr.setO{i:Nat}{l:Addr}{vs:List V}{ts:List T}(r:Sr K F0 H0 F H σ ρ)(g:Gr F H F1 H1)(hl:H l=none)(hf:F1 l=none)(hv:H1 l=some (.lst vs))(hr:eI K F1 vs ts) :
  Sr K F0 H0 F1 H1 (σ.set i (some (.ref l))) (ρ.set i (some (.o ts))):=by
 have r1:=r.grow g;obtain⟨ad0,h10,_⟩:=r.ov;obtain⟨ad,h1,h2⟩:=r1.ov;have nl:∀j us,ρ[j]? = some (some (.o us))->ad j≠l:=λj us e z=>by
  obtain⟨a,_⟩:=h1 j us e;obtain⟨a0,_,_,vs0,d0,_⟩:=h10 j us e;rw[a] at a0;have:ad j=ad0 j:=by simpa using a0
  rw[<-this,z,hl] at d0;cases d0
 refine⟨r1.gr,by simp[r.len],λj t e=>?_,⟨λj=>if j=i then l else ad j,λj us e=>?_,λj k us ws e e' hjk=>?_⟩,λe he=>?_,λj l' vs' hlt q=>?_,r1.dv.set λ_ z=>nomatch z⟩
 ·rcases fN e with⟨rfl,q⟩ | ⟨hj,q⟩
  ·cases q
  ·obtain⟨w,a,b⟩:=r1.pv j t q;exact⟨w,by rw[aq (λz=>hj z.symm)];exact a,b⟩
 ·have hln:j<ρ.length:=by simpa using (aa.mp e).1
  rcases fN e with⟨rfl,q⟩ | ⟨hj,q⟩
  ·cases q;dsimp only;rw[aP rfl];exact⟨tE (by rw[r.len];exact hln),hf,eE r.gr.hh hl,vs,hv,hr⟩
  ·dsimp only;rw[aQ hj];obtain⟨a,b⟩:=h1 j us q;exact⟨by rw[aq (λz=>hj z.symm)];exact a,b⟩
 ·rcases fN e with⟨rfl,q⟩ | ⟨hj,q⟩
  ·rcases fN e' with⟨rfl,q'⟩ | ⟨hk,q'⟩
   ·exact absurd rfl hjk
   ·dsimp only;rw[aP rfl,aQ hk];exact λz=>nl k ws q' z.symm
  ·rcases fN e' with⟨rfl,q'⟩ | ⟨hk,q'⟩
   ·dsimp only;rw[aQ hj,aP rfl];exact nl j us q
   ·dsimp only;rw[aQ hj,aQ hk];exact h2 j k us ws q q' hjk
 ·have L:=r1.lv e he;have L0:=r.lv e he;refine⟨L.h,L.f,L.z,λj ts q=>?_⟩;rcases fN q with⟨rfl,q1⟩ | ⟨hj,q1⟩
  ·intro z;have z':=nZ z;have:e.2.1=l:=by simpa using z'
   rw[<-this,L0.h] at hl;cases hl
  ·rw[aq (λz=>hj z.symm)];exact L.d j ts q1
 ·rcases fN q with⟨rfl,q1⟩ | ⟨hj,q1⟩
  ·cases q1
  ·rw[aq (λz=>hj z.symm)];exact r.sl j l' vs' hlt q1
@[simp] noncomputable def gN(f:Pe->M T)(ρ:En):M T:=f (lK ρ)
@[simp] noncomputable def kJ(f:Pe->M T)(ρ:En):M T:=(f (vw ρ)).bind λt=>if lf t then .ok t else .bad
theorem ME.inH{Q:VK}{k:T->O}(h:ME K E t f)(r:Sr K F0 H0 F H σ ρ)(q:(O.of (gN f ρ) k).res K E F0 H0 F D)
  (hk:∀x v F' H',Gr F H F' H'->jc K F' v x->Sr K F0 H0 F' H' σ ρ->(k x).res K E F0 H0 F' D->Q v H'):t σ H Q:=
 h F H σ (lK ρ) Q r.gr.fh r.vars ((O.res_of q).mono (λx z v F' H' g rp=>hk x v F' H' g rp (r.grow g) (z.go g.ff)) λC n z=>z.go r.gr)
theorem ME.inB{Q:VK}{k:T->O}(h:ME K E t f)(r:Sr K F0 H0 F H σ ρ)(q:(O.of (kJ f ρ) k).res K E F0 H0 F D)
  (hk:∀x v F' H',Gr F H F' H'->jc K F' v x->Sr K F0 H0 F' H' σ ρ->(k x).res K E F0 H0 F' D->Q v H'):t σ H Q:=by
 obtain⟨Fl,s0,g0,V,back⟩:=r.lend;refine h Fl H σ (vw ρ) Q g0.fh V ((M.res.unb (O.res_of q)).mono (λx z v F' H' g rp=>?_) λC n z=>z.go g0);obtain⟨Fb,gb,sb,sb',hlst,_⟩:=back F' H' g;by_cases hl:lf x=true
 ·rw[aP hl] at z;exact hk x v Fb H' gb (rp.less sb' hlst hl) (r.grow gb) (O.res.go z sb)
 ·rw[aQ hl] at z;exact z.elim
@[simp] noncomputable def setO(i:Nat)(f:En->M T):En->O:=λρ=>.of (f ρ) λt=>.nx (ρ.set i (some (.p t)))
theorem xX{i:Nat}(h:ME K E t f):MS K E (mj t (ir i)) (setO i (gN f)):=λF0 H0 F H σ ρ D r q=>h.inH r q λx v F' H' g rp r' q'=>(q':kN K F0 H0 F' D.nx _) F' H' _ (.refl _) (r'.setP rp)
theorem Ct{i:Nat}(h:ME K E t f):MS K E (mj t (ir i)) (setO i (kJ f)):=λF0 H0 F H σ ρ D r q=>h.inB r q λx v F' H' g rp r' q'=>(q':kN K F0 H0 F' D.nx _) F' H' _ (.refl _) (r'.setP rp)
@[simp] noncomputable def lb(f:Pe->M (List T))(ρ:En):M (List T):=f (lK ρ)
@[simp] noncomputable def yM(f:Pe->M (List T))(ρ:En):M (List T):=(f (vw ρ)).bind λts=>if B6 ts then .ok ts else .bad
theorem MF.inH{f:Pe->M (List T)}{Q:VK}{k:List T->O}(h:MF K E t f)(r:Sr K F0 H0 F H σ ρ)(q:(O.of (lb f ρ) k).res K E F0 H0 F D)
  (hk:∀ts l vs F' H',Gr F H F' H'->H l=none->F' l=none->H' l=some (.lst vs)->eI K F' vs ts->(k ts).res K E F0 H0 F' D->Q (.ref l) H'):t σ H Q:=
 h F H σ (lK ρ) Q r.gr.fh r.vars ((O.res_of q).mono (λts z l vs F' H' g a b c d=>hk ts l vs F' H' g a b c d (z.go g.ff)) λC n z=>z.go r.gr)
theorem MF.inB{f:Pe->M (List T)}{Q:VK}{k:List T->O}(h:MF K E t f)(r:Sr K F0 H0 F H σ ρ)(q:(O.of (yM f ρ) k).res K E F0 H0 F D)
  (hk:∀ts l vs F' H',Gr F H F' H'->H l=none->F' l=none->H' l=some (.lst vs)->eI K F' vs ts->(k ts).res K E F0 H0 F' D->Q (.ref l) H'):t σ H Q:=by
 obtain⟨Fl,s0,g0,V,back⟩:=r.lend;refine h Fl H σ (vw ρ) Q g0.fh V ((M.res.unb (O.res_of q)).mono (λts z l vs F' H' g a b c d=>?_) λC n z=>z.go g0);obtain⟨Fb,gb,sb,sb',hlst,_⟩:=back F' H' g;by_cases hl:B6 ts=true
 ·rw[aP hl] at z;exact hk ts l vs Fb H' gb a (eE sb' b) c (d.less sb' hlst hl) (O.res.go z sb)
 ·rw[aQ hl] at z;exact z.elim
@[simp] noncomputable def jV(i:Nat)(f:En->M (List T)):En->O:=λρ=>.of (f ρ) λts=>.nx (ρ.set i (some (.o ts)))
theorem xP{i:Nat}{f:Pe->M (List T)}(h:MF K E t f):MS K E (mj t (ir i)) (jV i (lb f)):=λF0 H0 F H σ ρ D r q=>h.inH r q λts l vs F' H' g a b c d q'=>(q':kN K F0 H0 F' D.nx _) F' H' _ (.refl _) (r.setO g a b c d)
theorem Do{i:Nat}{f:Pe->M (List T)}(h:MF K E t f):MS K E (mj t (ir i)) (jV i (yM f)):=λF0 H0 F H σ ρ D r q=>h.inB r q λts l vs F' H' g a b c d q'=>(q':kN K F0 H0 F' D.nx _) F' H' _ (.refl _) (r.setO g a b c d)
theorem Sr.change{i:Nat}{ts us:List T}{ws:List V}(r:Sr K F0 H0 F H σ ρ)(e:ρ[i]? = some (some (.o ts)))(hw:eI K F ws us) :
  ∃l vs,σ[i]? = some (some (.ref l))/\H l=some (.lst vs)/\eI K F vs ts/\Sr K F0 H0 F (gL H l (.lst ws)) σ (ρ.set i (some (.o us))):=by
 obtain⟨ad,h1,h2⟩:=r.ov;obtain⟨a,b,c,vs,d,z⟩:=h1 i ts e;have jm:i<ρ.length:=(aa.mp e).1;refine⟨ad i,vs,a,d,z,⟨r.gr.ff,λp u q=>?_,λp u q=>?_,r.gr.nw⟩,by simp[r.len],λj t q=>?_,⟨ad,λj ss q=>?_,λj k ss ss' q q' hjk=>?_⟩,λe' he=>?_,λj l' vs' hlt q=>?_,(r.dv.heap (.refl _) λp xs hp _=>⟨by assumption,by rw[eD (λz=>by rw[z,d] at hp;cases hp)];exact hp⟩).setR λ_ z=>nomatch z⟩
 ·rw[eD (eO q b)];exact r.gr.fh p u q
 ·rw[eD (eO q c)];exact r.gr.hh p u q
 ·rcases fN q with⟨rfl,q1⟩ | ⟨hj,q1⟩
  ·cases q1
  ·exact r.pv j t q1
 ·rcases fN q with⟨rfl,q1⟩ | ⟨hj,q1⟩
  ·cases q1;exact⟨a,b,c,ws,eC,hw⟩
  ·obtain⟨a',b',c',vs',d',z'⟩:=h1 j ss q1;exact⟨a',b',c',vs',by rw[eD (h2 j i ss ts q1 e hj)];exact d',z'⟩
 ·rcases fN q with⟨rfl,q1⟩ | ⟨hj,q1⟩
  ·rcases fN q' with⟨rfl,q2⟩ | ⟨hk,q2⟩
   ·exact absurd rfl hjk
   ·exact h2 j k ts ss' e q2 hjk
  ·rcases fN q' with⟨rfl,q2⟩ | ⟨hk,q2⟩
   ·exact h2 j k ss ts q1 e hjk
   ·exact h2 j k ss ss' q1 q2 hjk
 ·have L:=r.lv e' he;have hne:e'.2.1≠ad i:=λw=>L.d i ts e (by rw[w];exact a);refine⟨by rw[eD hne];exact L.h,L.f,L.z,λj ss q=>?_⟩;rcases fN q with⟨rfl,q1⟩ | ⟨hj,q1⟩
  ·exact L.d _ ts e
  ·exact L.d j ss q1
 ·rcases fN q with⟨rfl,q1⟩ | ⟨hj,q1⟩
  ·cases q1
  ·exact r.sl j l' vs' hlt q1
@[simp] noncomputable def i8(ρ:En)(i:Nat):M (List T):=match ρ[i]? with
 | some (some (.o ts))=>.ok ts
 | _=>.bad
theorem lR{ρ:En}{i:Nat}{ts:List T}(h:i8 ρ i=.ok ts):ρ[i]? = some (some (.o ts)):=by
 unfold i8 at h;split at h
 ·rename_i ts' e;cases h;exact e
 ·cases h
@[simp] noncomputable def mz(i:Nat)(f:En->M T):En->O:=λρ=>.of (i8 ρ i) λts=>.of (f ρ) λt=>if ts.length<sizeLine then .nx (ρ.set i (some (.o (ts++[t])))) else .bad
theorem rd{i:Nat}{ts:List T}{x:T}{v:V}(r:Sr K F0 H0 F H σ ρ)(e:ρ[i]? = some (some (.o ts)))(rp:jc K F v x)
  (q:(if ts.length<sizeLine then O.nx (ρ.set i (some (.o (ts++[x])))) else .bad).res K E F0 H0 F D):∃l,σ[i]? = some (some (.ref l))/\pQ (.ref l) [v] H λ_ H1=>D.nx σ H1:=by
 by_cases hl:ts.length<sizeLine
 ·rw[aP hl] at q;obtain⟨ad,h1,_⟩:=r.ov;obtain⟨_,_,_,vs,d,z⟩:=h1 i ts e;obtain⟨l,vs',a',d',z',r'⟩:=r.change e (us:=ts++[x]) (ws:=vs++[v]) (z.append (.cons rp .nil));have:vs'=vs:=by
   have a:=(h1 i ts e).1;rw[a'] at a;have:l=ad i:=by simpa using a
   rw[this,d] at d';cases d';rfl
  subst this;exact⟨l,a',l,vs',v,rfl,rfl,d',by rw[z.length];exact hl,(q:kN K F0 H0 F D.nx _) F _ _ (.refl _) r'⟩
 ·rw[aQ hl] at q;exact q.elim
def Bc(K:W.Frag)(i:Nat)(te:TE):TE:=Ir K "list" pQ (kW i) (km te nQ)
theorem C6{i:Nat}(ht:∀l xs H,H l=some (.lst xs)->Gz K "list" (.ref l) H)(h:ME K E t f):MS K E (n5 (Bc K i t)) (mz i (gN f)):=λF0 H0 F H σ ρ D r q=>by
 unfold mz at q;cases e:i8 ρ i with
 | bad=>rw[e] at q;exact q.elim
 | er C n=>unfold i8 at e;split at e<;>cases e
 | ok ts=>rw[e] at q;have e':=lR e;obtain⟨ad,h1,_⟩:=r.ov;obtain⟨a,_,_,vs,d,_⟩:=h1 i ts e';refine⟨_,a,ht _ _ _ d,?_⟩;refine h.inH r q λx v F' H' g rp r' q'=>?_;obtain⟨l,a',q''⟩:=rd r' e' rp q';rw[a] at a';cases a';exact q''
theorem Dk{i:Nat}(ht:∀l xs H,H l=some (.lst xs)->Gz K "list" (.ref l) H)(h:ME K E t f):MS K E (n5 (Bc K i t)) (mz i (kJ f)):=λF0 H0 F H σ ρ D r q=>by
 unfold mz at q;cases e:i8 ρ i with
 | bad=>rw[e] at q;exact q.elim
 | er C n=>unfold i8 at e;split at e<;>cases e
 | ok ts=>rw[e] at q;have e':=lR e;obtain⟨ad,h1,_⟩:=r.ov;obtain⟨a,_,_,vs,d,_⟩:=h1 i ts e';refine⟨_,a,ht _ _ _ d,?_⟩;refine h.inB r q λx v F' H' g rp r' q'=>?_;obtain⟨l,a',q''⟩:=rd r' e' rp q';rw[a] at a';cases a';exact q''
@[simp] noncomputable def pE(i:Nat)(fk:En->M T)(f:En->M T):En->O:=λρ=>.of (i8 ρ i) λts=>.of (f ρ) λt=>.of (fk ρ) λk=>match k with
 | .int k=>match rm ts.length k with
  | some j=>.nx (ρ.set i (some (.o (ts.set j t))))
  | none=>.bad
 | _=>.bad
theorem AK{i:Nat}{ts:List T}{x y:T}{v w:V}{l:Addr}(r2:Sr K F0 H0 F H σ ρ)(e':ρ[i]? = some (some (.o ts)))(hl:σ[i]? = some (some (.ref l)))(rp:jc K F v x)(rw_:jc K F w y)
  (q2:(match y with
   | .int k=>match rm ts.length k with
    | some j=>O.nx (ρ.set i (some (.o (ts.set j x))))
    | none=>.bad
   | _=>.bad).res K E F0 H0 F D):ym (.ref l) w v H λH3=>D.nx σ H3:=by
 cases rw_ with
 | int k=>
  dsimp only at q2;cases hx:rm ts.length k with
  | none=>rw[hx] at q2;exact q2.elim
  | some j=>
   rw[hx] at q2;obtain⟨ad,h1,_⟩:=r2.ov;obtain⟨_,_,_,vs,d,z⟩:=h1 i ts e';obtain⟨l',vs',a',d',z',r3⟩:=r2.change e' (us:=ts.set j x) (ws:=vs.set j v) (z.set rp j);rw[hl] at a';cases a';have:vs'=vs:=by
    have a:=(h1 i ts e').1;rw[hl] at a;have:l=ad i:=by simpa using a
    rw[this,d] at d';cases d';rfl
   subst this;exact⟨l,vs',k,j,rfl,rfl,d',by rw[z.length];exact hx,(q2:kN K F0 H0 F D.nx _) F _ _ (.refl _) r3⟩
 | _=>exact q2.elim
theorem Gd{i:Nat}{tk:TE}{fk:Pe->M T}(h:ME K E t f)(hk:ME K E tk fk):MS K E (mj t (Gf (kW i) tk ym)) (pE i (kJ fk) (kJ f)):=λF0 H0 F H σ ρ D r q=>by
 unfold pE at q;cases e:i8 ρ i with
 | bad=>rw[e] at q;exact q.elim
 | er C n=>unfold i8 at e;split at e<;>cases e
 | ok ts=>rw[e] at q;have e':=lR e;obtain⟨ad,h1,_⟩:=r.ov;have a:=(h1 i ts e').1;refine h.inB r q λx v F' H' g rp r' q'=>⟨_,a,?_⟩;exact hk.inB r' q' λy w F2 H2 g2 rw_ r2 q2=>AK r2 e' a (rp.mono g2.ff) rw_ q2
end
end L3
namespace L3
open PySem L2
section
variable {K:W.Frag}{E:XK}{t u ta tb:TE}{f fa fb:Pe->M T}{F0:Fz}{H0 F H F1 H1:Hp}{σ:St}{ρ:En}{D:rF}
structure sV(K:W.Frag)(J:It)(its:List T)(F1:Hp):Prop where
 go:∀i H,eL F1 H->i<its.length->J.go i H
 stop:∀H,eL F1 H->J.stop its.length H
 yld:∀(i:Nat) t F H x H',eL F1 F->eL F H->its[i]? = some t->J.yld i H x H'->∃F',Gr F H F' H'/\jc K F' x t
def kI(K:W.Frag)(F H:Hp)(R:It->Hp->Prop)(its:List T):Prop:=∀J F' H',Gr F H F' H'->sV K J its F'->R J H'
noncomputable def MI(K:W.Frag)(E:XK)(w:TI)(f:Pe->M (List T)):Prop:=∀F H σ ρ R,eL F H->i9 K F σ ρ->(f ρ).res (kI K F H R) (kE E F H)->w σ H R
def Jo(K:W.Frag)(F H:Hp)(R:It->Hp->Prop)(its:List T):Prop:=∀J F' H',Gr F H F' H'->(∀F1,sV K J its F1)->R J H'
noncomputable def HM(K:W.Frag)(E:XK)(w:TI)(f:Pe->M (List T)):Prop:=∀F H σ ρ R,eL F H->i9 K F σ ρ->(f ρ).res (Jo K F H R) (kE E F H)->w σ H R
theorem HM.mi{w:TI}{f:Pe->M (List T)}(h:HM K E w f):MI K E w f:=λF H σ ρ R s V q=>h F H σ ρ R s V (q.mono (λits z J F' H' g i=>z J F' H' g (i F')) λ_ _ z=>z)
@[simp] noncomputable def Iq(fa:Pe->M T):Pe->M (List T):=λρ=>(fa ρ).bind λx=>match x with
 | .lst ts=>.ok ts
 | .scr ns=>.ok (ns.map T.int)
 | _=>.bad
@[simp] noncomputable def Jy(fa:Pe->M T):Pe->M (List T):=λρ=>(fa ρ).bind λx=>match x with
 | .tup ts=>.ok ts
 | _=>.bad
theorem yc{a:Addr}{xs:List V}{ts:List T}(hs:jq K F a xs)(r:eI K F xs ts):sV K (Jh K a) ts F where
 go:=λi H s hi=>by have e:xs[i]? = some (xs[i]'(by rw[r.length];exact hi)):=ag _;exact⟨xs,_,s.seq hs,e⟩
 stop:=λH s=>⟨xs,s.seq hs,by rw[r.length];exact aJ _⟩
 yld:=λi t F' H x H' s1 s2 e y=>by obtain⟨rfl,hx⟩:=y;have e':=hx xs ((s1.trans s2).seq hs);obtain⟨t',e'',rp⟩:=r.at_ e';rw[e] at e'';cases e'';exact⟨F',.refl s2,rp.mono s1⟩
theorem oE{F H:Hp}{a:Addr}{xs:List V}(s:eL F H)(h:F a=some (.tup xs)):jR K H a xs:=jR.of (s _ _ h)
theorem GG{a:Addr}{xs:List V}{ts:List T}(hs:F a=some (.tup xs))(r:eI K F xs ts):sV K (IW K a) ts F where
 go:=λi H s hi=>by have e:xs[i]? = some (xs[i]'(by rw[r.length];exact hi)):=ag _;exact⟨xs,_,oE s hs,e⟩
 stop:=λH s=>⟨xs,oE s hs,by rw[r.length];exact aJ _⟩
 yld:=λi t F' H x H' s1 s2 e y=>by obtain⟨rfl,hx⟩:=y;have e':=hx xs (oE (s1.trans s2) hs);obtain⟨t',e'',rp⟩:=r.at_ e';rw[e] at e'';cases e'';exact⟨F',.refl s2,rp.mono s1⟩
theorem t5(ha:ME K E ta fa):MI K E (Bv K ta) (Iq fa):=λF H σ ρ R s V q=>by
  refine ha.run s V q λx v F1 H1 g1 r1 q1=>?_;cases r1<;>first
    | exact q1.elim
    | (rename_i h r
       exact⟨_,rfl,⟨_,jq.of (g1.fh _ _ h)⟩,(q1:kI K F H R _) _ F1 H1 g1 (yc (jq.of h) r)⟩)
    | (rename_i h
       exact⟨_,rfl,⟨_,g1.fh.seq h⟩,(q1:kI K F H R _) _ F1 H1 g1 (yc h (eI.of_ints _))⟩)
theorem E7(ha:ME K E ta fa):MI K E (GW K ta) (Jy fa):=λF H σ ρ R s V q=>by
  refine ha.run s V q λx v F1 H1 g1 r1 q1=>?_;cases r1<;>first
    | exact q1.elim
    | (rename_i h r
       exact⟨_,rfl,⟨_,jR.of (g1.fh _ _ h)⟩,(q1:kI K F H R _) _ F1 H1 g1 (GG h r)⟩)
theorem IJ:(2:Int) ^ 62=4611686018427387904:=by decide +kernel
theorem JB:(2:Int) ^ 63=9223372036854775808:=by decide +kernel
def zM(j:Int):Bool:=decide (j.natAbs<4611686018427387904)
theorem pR{j:Int}(h:zM j=true):-(2 ^ 62)<=j/\j<2 ^ 62:=by rw[IJ];have:=of_decide_eq_true h;omega
theorem jZ{j:Int}(h:j.natAbs<=1000000):zM j=true:=aB (by omega)
def pK(lo:Int)(n:Nat):List T:=(List.range n).map λ(i:Nat)=>T.int (lo+(i:Int))
theorem Fx{lo:Int}{n:Nat}(F:Hp):sV K (HW lo n) (pK lo n) F where
 go:=λi H s hi=>by show i<n;simpa[pK] using hi
 stop:=λH s=>by simp[pK,HW]
 yld:=λi t F' H x H' s1 s2 e y=>by
  obtain⟨rfl,rfl⟩:=y;have hi:i<n:=by simpa[pK] using (aa.mp e).1
  have:t=.int (lo+i):=by unfold pK at e;rw[av,List.getElem?_range hi] at e;cases e;rfl
  rw[this];exact⟨F',.refl s2,.int _⟩
@[simp] noncomputable def iM(fa:Pe->M (List T)):Pe->M (List T):=λρ=>(fa ρ).bind λxs=>match xs with
 | [.int j]=>if zM j then .ok (pK 0 j.toNat) else .bad
 | _=>.bad
theorem DT{ta:TA}{fa:Pe->M (List T)}(ha:MA K E ta fa):HM K E (Bk ta) (iM fa):=λF H σ ρ R s V q=>by
 refine ha.run s V q λxs vs F1 H1 g1 r1 q1=>?_;split at q1
 ·rename_i j;split at q1
  ·rename_i hj;cases r1 with
   | cons a b=>cases a;cases b;exact⟨j,rfl,(pR hj).1,(pR hj).2,(q1:Jo K F H R _) _ F1 H1 g1 Fx⟩
  ·exact q1.elim
 ·exact q1.elim
noncomputable def seqB(b:Bool):T->M (List T)
 | .tup ts=>if b then .ok ts else .bad
 | .lst ts=>if b then .bad else .ok ts
 | .scr ns=>if b then .bad else .ok (ns.map T.int)
 | _=>.bad
theorem ue{b:Bool}{x:T}{v:V}{ts:List T}(r:jc K F v x)(e:seqB b x=.ok ts):∃a xs,v=.ref a/\(∀H,eL F H->rk K H b a xs)/\eI K F xs ts:=by
 cases r<;>try (cases e)
 ·rename_i a xs ss h r;cases b with
  | true=>cases e;exact⟨a,xs,rfl,λH s=>by unfold rk;rw[aP rfl];exact jR.of (s _ _ h),r⟩
  | false=>cases e
 ·rename_i a xs ss h r;cases b with
  | true=>cases e
  | false=>cases e;exact⟨a,xs,rfl,λH s=>by unfold rk;rw[aQ aG];exact jq.of (s _ _ h),r⟩
 ·rename_i a ns h;cases b with
  | true=>cases e
  | false=>cases e;exact⟨a,_,rfl,λH s=>by unfold rk;rw[aQ aG];exact s.seq h,eI.of_ints ns⟩
def tF(xs ys:List T):List T:=(xs.zip ys).map λp=>T.tup [p.1,p.2]
theorem FE{b1 b2:Bool}{l1 l2:Addr}{xs ys:List V}{ts us:List T}(h1:∀H,eL F H->rk K H b1 l1 xs)(r1:eI K F xs ts)(h2:∀H,eL F H->rk K H b2 l2 ys)(r2:eI K F ys us):sV K (Ja K b1 b2 l1 l2) (tF ts us) F where
 go:=λi H s hi=>by
  have hi':i<ts.length/\i<us.length:=by simp[tF] at hi;omega
  have e1:xs[i]? = some (xs[i]'(by rw[r1.length];exact hi'.1)):=ag _;have e2:ys[i]? = some (ys[i]'(by rw[r2.length];exact hi'.2)):=ag _;exact⟨xs,ys,_,_,h1 H s,h2 H s,e1,e2⟩
 stop:=λH s=>⟨xs,ys,h1 H s,h2 H s,by simp[tF,r1.length,r2.length];omega⟩
 yld:=λi t F' H x H' s1 s2 e y=>by
  obtain⟨p,x1,x2,rfl,hp,rfl,e1,e2⟩:=y;obtain⟨t1,f1,q1⟩:=r1.at_ (e1 xs (h1 H (s1.trans s2)));obtain⟨t2,f2,q2⟩:=r2.at_ (e2 ys (h2 H (s1.trans s2)));have:t=.tup [t1,t2]:=by unfold tF at e;rw[av,(List.getElem?_zip_eq_some (z:=(t1,t2))).mpr ⟨f1,f2⟩] at e;cases e;rfl
  rw[this];have g:=Gr.new (o:=.tup [x1,x2]) s2 hp;exact⟨_,g,.tup eC (.cons ((q1.mono s1).mono g.ff) (.cons ((q2.mono s1).mono g.ff) .nil))⟩
noncomputable def GK(b1 b2:Bool)(fa:Pe->M (List T)):Pe->M (List T):=λρ=>(fa ρ).bind λxs=>match xs with
 | [x,y]=>(seqB b1 x).bind λts=>(seqB b2 y).bind λus=>.ok (tF ts us)
 | _=>.bad
theorem ui{b:Bool}{x:T}{C:Addr}{n:Option Int}:seqB b x≠.er C n:=by cases x<;>cases b<;>exact λz=>nomatch z
theorem BY{b1 b2:Bool}{ta:TA}{fa:Pe->M (List T)}(ha:MA K E ta fa):MI K E (F7 K b1 b2 ta) (GK b1 b2 fa):=λF H σ ρ R s V q=>by
 refine ha.run s V q λxs vs F1 H1 g1 r1 q1=>?_;split at q1
 ·rename_i x y;cases r1 with
  | cons a b=>
   cases b with
   | cons b c=>
    cases c;cases e1:seqB b1 x with
    | bad=>rw[e1] at q1;exact q1.elim
    | er C n=>exact absurd e1 ui
    | ok ts=>
     rw[e1] at q1;cases e2:seqB b2 y with
     | bad=>simp only[e2,M.bind_ok] at q1;exact q1.elim
     | er C n=>exact absurd e2 ui
     | ok us=>simp only[e2,M.bind_ok] at q1;obtain⟨a1,x1,rfl,s1,t1⟩:=ue a e1;obtain⟨a2,x2,rfl,s2,t2⟩:=ue b e2;exact⟨a1,a2,rfl,⟨x1,s1 _ g1.fh⟩,⟨x2,s2 _ g1.fh⟩,(q1:kI K F H R _) _ F1 H1 g1 (FE s1 t1 s2 t2)⟩
 ·exact q1.elim
def MG(K:W.Frag)(g:TG)(m:T->Pe->Option Pe):Prop:=∀F H σ (ρ:Pe) x t ρ' Q,eL F H->σ.length=ρ.length->i9 K F σ ρ->jc K F x t->m t ρ=some ρ'->(∀σ',σ'.length=ρ'.length->i9 K F σ' ρ'->Q σ' H)->g x σ H Q
def Hf(K:W.Frag)(g:vR)(m:List T->Pe->Option Pe):Prop:=∀F H σ (ρ:Pe) xs ts ρ' Q,eL F H->σ.length=ρ.length->i9 K F σ ρ->eI K F xs ts->m ts ρ=some ρ'->(∀σ',σ'.length=ρ'.length->i9 K F σ' ρ'->Q σ' H)->g xs σ H Q
@[simp] def gM(i:Nat):T->Pe->Option Pe:=λt ρ=>some (ρ.set i (some t))
theorem i9.set{σ:St}{ρ:Pe}{i:Nat}{v:V}{x:T}(V:i9 K F σ ρ)(hl:σ.length=ρ.length)(h:jc K F v x):i9 K F (σ.set i (some v)) (ρ.set i (some x)):=λj t e=>by
 have hj:j<ρ.length:=by simpa using (aa.mp e).1
 rcases fN e with⟨rfl,q⟩ | ⟨hj,q⟩
 ·cases q;exact⟨v,tE (by rw[hl];exact hj),h⟩
 ·obtain⟨w,a,b⟩:=V j t q;exact⟨w,by rw[aq (λz=>hj z.symm)];exact a,b⟩
theorem Dn{i:Nat}:MG K (ir i) (gM i):=λF H σ ρ x t ρ' Q s hl V r e k=>by cases e;exact k _ (by simp[hl]) (V.set hl r)
@[simp] def mZ:List T->Pe->Option Pe
 | [],ρ=>some ρ
 | _::_,_=>none
@[simp] def gz(m:T->Pe->Option Pe)(n:List T->Pe->Option Pe):List T->Pe->Option Pe
 | [],_=>none
 | t::ts,ρ=>(m t ρ).bind (n ts)
theorem Cq:Hf K y9 mZ:=λF H σ ρ xs ts ρ' Q s hl V r e k=>by
 cases r with
 | nil=>cases e;exact⟨rfl,k σ hl V⟩
 | cons a b=>cases e
theorem Bx{g:TG}{gs:vR}{m:T->Pe->Option Pe}{n:List T->Pe->Option Pe}(h1:MG K g m)(h2:Hf K gs n):Hf K (qq g gs) (gz m n):=λF H σ ρ xs ts ρ' Q s hl V r e k=>by
 cases r with
 | nil=>cases e
 | cons a b=>
  rename_i v t vs ts';have e:(m t ρ).bind (n ts')=some ρ':=e;cases q:m t ρ with
  | none=>rw[q] at e;cases e
  | some ρ1=>rw[q] at e;refine⟨v,vs,rfl,h1 F H σ ρ v t ρ1 _ s hl V a q λσ' hl' V'=>?_⟩;exact h2 F H σ' ρ1 vs ts' ρ' Q s hl' V' b e k
@[simp] def nh(k:Nat)(m:List T->Pe->Option Pe):T->Pe->Option Pe
 | .tup ts,ρ=>if ts.length=k then m ts ρ else none
 | _,_=>none
theorem FR{k:Nat}{g:vR}{m:List T->Pe->Option Pe}(h:Hf K g m):MG K (yJ K k g) (nh k m):=λF H σ ρ x t ρ' Q s hl V r e q=>by
 cases r with
 | tup hx rs=>
  rename_i a xs ts;have e:(if ts.length=k then m ts ρ else none)=some ρ':=e;by_cases hk:ts.length=k
  ·rw[aP hk] at e;exact⟨_,_,rfl,jR.of (s _ _ hx),by rw[rs.length];exact hk,h F H σ ρ _ _ ρ' Q s hl V rs e q⟩
  ·rw[aQ hk] at e;cases e
 | _=>cases e
noncomputable def EK(K:W.Frag)(g:TG)(m:T->En->Option En):Prop:=∀F0 H0 F H σ ρ x t ρ' Q,Sr K F0 H0 F H σ ρ->jc K F x t->m t ρ=some ρ'->(∀σ',Sr K F0 H0 F H σ' ρ'->Q σ' H)->g x σ H Q
noncomputable def Ay(K:W.Frag)(g:vR)(m:List T->En->Option En):Prop:=∀F0 H0 F H σ ρ xs ts ρ' Q,Sr K F0 H0 F H σ ρ->eI K F xs ts->m ts ρ=some ρ'->(∀σ',Sr K F0 H0 F H σ' ρ'->Q σ' H)->g xs σ H Q
@[simp] noncomputable def iV(i:Nat):T->En->Option En:=λt ρ=>some (ρ.set i (some (.p t)))
theorem Aq{i:Nat}:EK K (ir i) (iV i):=λF0 H0 F H σ ρ x t ρ' Q s r e k=>by cases e;exact k _ (s.setP r)
@[simp] noncomputable def jt:List T->En->Option En
 | [],ρ=>some ρ
 | _::_,_=>none
@[simp] noncomputable def fj(m:T->En->Option En)(n:List T->En->Option En):List T->En->Option En
 | [],_=>none
 | t::ts,ρ=>(m t ρ).bind (n ts)
theorem Bd:Ay K y9 jt:=λF0 H0 F H σ ρ xs ts ρ' Q s r e k=>by
 cases r with
 | nil=>cases e;exact⟨rfl,k σ s⟩
 | cons a b=>cases e
theorem yP{g:TG}{gs:vR}{m:T->En->Option En}{n:List T->En->Option En}(h1:EK K g m)(h2:Ay K gs n):Ay K (qq g gs) (fj m n):=λF0 H0 F H σ ρ xs ts ρ' Q s r e k=>by
 cases r with
 | nil=>cases e
 | cons a b=>
  rename_i v t vs ts';have e:(m t ρ).bind (n ts')=some ρ':=e;cases q:m t ρ with
  | none=>rw[q] at e;cases e
  | some ρ1=>rw[q] at e;refine⟨v,vs,rfl,h1 F0 H0 F H σ ρ v t ρ1 _ s a q λσ' s'=>?_⟩;exact h2 F0 H0 F H σ' ρ1 vs ts' ρ' Q s' b e k
@[simp] noncomputable def jr(k:Nat)(m:List T->En->Option En):T->En->Option En
 | .tup ts,ρ=>if ts.length=k then m ts ρ else none
 | _,_=>none
theorem Dt{k:Nat}{g:vR}{m:List T->En->Option En}(h:Ay K g m):EK K (yJ K k g) (jr k m):=λF0 H0 F H σ ρ x t ρ' Q s r e q=>by
 cases r with
 | tup hx rs=>
  rename_i a xs ts;have e:(if ts.length=k then m ts ρ else none)=some ρ':=e;by_cases hk:ts.length=k
  ·rw[aP hk] at e;exact⟨_,_,rfl,jR.of (s.gr.fh _ _ hx),by rw[rs.length];exact hk,h F0 H0 F H σ ρ _ _ ρ' Q s rs e q⟩
  ·rw[aQ hk] at e;cases e
 | _=>cases e
noncomputable def fY(m:T->En->Option En)(g:En->O):List T->En->O
 | [],ρ=>.nx ρ
 | t::ts,ρ=>match m t ρ with
  | none=>.bad
  | some ρ1=>match g ρ1 with
   | .nx ρ2=>fY m g ts ρ2
   | .ct ρ2=>fY m g ts ρ2
   | .bk ρ2=>.nx ρ2
   | o=>o
theorem we{g:TG}{tb:TS}{m:T->En->Option En}{gb:En->O}{J:It}{its:List T}(hg:EK K g m)(hb:MS K E tb gb){G:Hp->Hp->Prop}(igo:∀i F H,G F H->i<its.length->J.go i H)(isp:∀F H,G F H->J.stop its.length H)(iyl:∀(i:Nat) t F H x H',G F H->its[i]? = some t->J.yld i H x H'->∃F',Gr F H F' H'/\jc K F' x t)
  (hG:∀F' H' σ' ρ',eL F1 F'->Sr K F0 H0 F' H' σ' ρ'->G F' H') (r:Sr K F0 H0 F H σ ρ) (s1:eL F1 F)
  (q:(fY m gb its ρ).res K E F0 H0 F D):∃W:Nat->Nat->St->Hp->Prop,(∃m,W 0 m σ H)/\∀i m σ H,W i m σ H->
 (J.stop i H/\D.nx σ H)\/(J.go i H/\∃N:St->Hp->Prop,(∀σ' H',N σ' H'->∃m',m'<m/\W (i+1) m' σ' H')/\∀x H',J.yld i H x H'->g x σ H' λσ2 H2=>tb {D with nx:=N,ct:=N,bk:=D.nx} σ2 H2):=by
 refine⟨λi k σ' H'=>i<=its.length/\k=its.length - i/\∃F' ρ',eL F1 F'/\Sr K F0 H0 F' H' σ' ρ'/\(fY m gb (its.drop i) ρ').res K E F0 H0 F' D,⟨_,bF _,rfl,F,ρ,s1,r,by simpa using q⟩,?_⟩
 rintro i k σ1 Hh ⟨hi,rfl,F2,ρ2,s2,r2,q2⟩
 by_cases hlt:i<its.length
 ·right;refine⟨igo i F2 Hh (hG _ _ _ _ s2 r2) hlt,λσ' H'=>∃F' ρ',eL F1 F'/\Sr K F0 H0 F' H' σ' ρ'/\(fY m gb (its.drop (i+1)) ρ').res K E F0 H0 F' D,λσ' H' z=>⟨its.length - (i+1),by omega,hlt,rfl,z⟩,λx H' y=>?_⟩;have et:its[i]? = some its[i]:=ag hlt;obtain⟨F3,g3,rp⟩:=iyl i _ F2 Hh x H' (hG _ _ _ _ s2 r2) et y;rw[cD hlt] at q2;unfold fY at q2;cases em:m its[i] ρ2 with
  | none=>rw[em] at q2;exact q2.elim
  | some ρ3=>
   rw[em] at q2;refine hg F0 H0 F3 H' σ1 ρ2 x _ ρ3 _ (r2.grow g3) rp em λσ' r'=>?_;refine hb F0 H0 F3 H' σ' ρ3 _ r' ?_;dsimp only at q2;cases eb:gb ρ3 with
   | bad=>rw[eb] at q2;exact q2.elim
   | nx ρ4=>rw[eb] at q2;exact λF' H'' σ'' s r''=>⟨F',ρ4,(s2.trans g3.ff).trans s,r'',O.res.go q2 (g3.ff.trans s)⟩
   | ct ρ4=>rw[eb] at q2;exact λF' H'' σ'' s r''=>⟨F',ρ4,(s2.trans g3.ff).trans s,r'',O.res.go q2 (g3.ff.trans s)⟩
   | bk ρ4=>rw[eb] at q2;exact kN.go q2 g3.ff
   | rt t=>rw[eb] at q2;exact q2
   | rf ts=>rw[eb] at q2;exact q2
   | rn ts us=>rw[eb] at q2;exact q2
   | er C n=>rw[eb] at q2;exact q2
 ·left;have e:i=its.length:=by omega
  subst e;refine⟨isp F2 Hh (hG _ _ _ _ s2 r2),?_⟩;rw[List.drop_length] at q2;exact (q2:kN K F0 H0 F2 D.nx ρ2) F2 Hh σ1 (.refl _) r2
theorem rV{g:TG}{tb:TS}{m:T->En->Option En}{gb:En->O}{J:It}{its:List T}(hg:EK K g m)(hb:MS K E tb gb)(iok:sV K J its F1)(r:Sr K F0 H0 F H σ ρ)(s1:eL F1 F)
  (q:(fY m gb its ρ).res K E F0 H0 F D):∃W:Nat->Nat->St->Hp->Prop,(∃m,W 0 m σ H)/\∀i m σ H,W i m σ H->
 (J.stop i H/\D.nx σ H)\/(J.go i H/\∃N:St->Hp->Prop,(∀σ' H',N σ' H'->∃m',m'<m/\W (i+1) m' σ' H')/\∀x H',J.yld i H x H'->g x σ H' λσ2 H2=>tb {D with nx:=N,ct:=N,bk:=D.nx} σ2 H2):=
 we (G:=λF H=>eL F1 F/\eL F H) hg hb (λi F H q hi=>iok.go i H (q.1.trans q.2) hi) (λF H q=>iok.stop H (q.1.trans q.2)) (λi t F H x H' q e y=>iok.yld i t F H x H' q.1 q.2 e y) (λ_ _ _ _ s r=>⟨s,r.gr.fh⟩) r s1 q
@[simp] noncomputable def lO(fi:Pe->M (List T))(m:T->En->Option En)(g:En->O):En->O:=λρ=>.of (fi (lK ρ)) λits=>fY m g its ρ
theorem FJ{w:TI}{fi:Pe->M (List T)}{g:TG}{tb:TS}{m:T->En->Option En}{gb:En->O}(hi:MI K E w fi)(hg:EK K g m)(hb:MS K E tb gb):MS K E (z9 w g tb) (lO fi m gb):=λF0 H0 F H σ ρ D r q=>hi F H σ (lK ρ) _ r.gr.fh r.vars ((O.res_of q).mono (λits z J F' H' gr iok=>rV hg hb iok (r.grow gr) (.refl _) (z.go gr.ff)) λC n z=>z.go r.gr)
@[simp] noncomputable def lS(fi:Pe->M (List T))(m:T->En->Option En)(g:En->O):En->O:=λρ=>.of (fi (vw ρ)) λits=>fY m g its ρ
theorem Cm{w:TI}{fi:Pe->M (List T)}{g:TG}{tb:TS}{m:T->En->Option En}{gb:En->O}(hi:HM K E w fi)(hg:EK K g m)(hb:MS K E tb gb):MS K E (z9 w g tb) (lS fi m gb):=λF0 H0 F H σ ρ D r q=>by obtain⟨Fl,s0,g0,V,back⟩:=r.lend;refine hi Fl H σ (vw ρ) _ g0.fh V ((O.res_of q).mono (λits z J F' H' gr iok=>?_) λC n z=>z.go g0);obtain⟨Fb,gb',sb,_⟩:=back F' H' gr;exact rV hg hb (iok Fb) (r.grow gb') (.refl _) (z.go sb)
noncomputable def jz(c:Pe->M Bool)(g:En->O):Nat->En->O
 | 0,_=>.bad
 | n+1,ρ=>.of (c (vw ρ)) λb=>if b then (match g ρ with
   | .nx ρ2=>jz c g n ρ2
   | .ct ρ2=>jz c g n ρ2
   | .bk ρ2=>.nx ρ2
   | o=>o) else .nx ρ
theorem Bb{c:TT}{fc:Pe->M Bool}{tb:TS}{gb:En->O}(fuel:En->Nat)(hc:MT K E c fc)(hb:MS K E tb gb):MS K E (xa c tb) (λρ=>jz fc gb (fuel ρ) ρ):=λF0 H0 F H σ ρ D r q=>by
 refine⟨λn σ' H'=>∃F' ρ',eL F F'/\Sr K F0 H0 F' H' σ' ρ'/\(jz fc gb n ρ').res K E F0 H0 F' D,⟨fuel ρ,F,ρ,.refl _,r,q⟩,?_⟩;rintro n σ1 Hh ⟨F2,ρ2,s2,r2,q2⟩;cases n with
 | zero=>exact q2.elim
 | succ n=>
  unfold jz at q2;refine hc.inS r2 q2 λb F3 H3 s3 r3 q3=>?_;cases b with
  | true=>
   rw[aP rfl] at q3 ⊢;refine⟨λσ' H'=>∃F' ρ',eL F F'/\Sr K F0 H0 F' H' σ' ρ'/\(jz fc gb n ρ').res K E F0 H0 F' D,λσ' H' z=>⟨n,bE n,z⟩,?_⟩;refine hb F0 H0 F3 H3 σ1 ρ2 _ r3 ?_;cases eb:gb ρ2 with
   | bad=>rw[eb] at q3;exact q3.elim
   | nx ρ4=>rw[eb] at q3;exact λF' H'' σ'' s r''=>⟨F',ρ4,(s2.trans s3).trans s,r'',O.res.go q3 s⟩
   | ct ρ4=>rw[eb] at q3;exact λF' H'' σ'' s r''=>⟨F',ρ4,(s2.trans s3).trans s,r'',O.res.go q3 s⟩
   | bk ρ4=>rw[eb] at q3;exact q3
   | rt t=>rw[eb] at q3;exact q3
   | rf ts=>rw[eb] at q3;exact q3
   | rn ts us=>rw[eb] at q3;exact q3
   | er C n=>rw[eb] at q3;exact q3
  | false=>rw[aQ aG] at q3 ⊢;exact (q3:kN K F0 H0 F3 D.nx ρ2) F3 H3 σ1 (.refl _) r3
@[simp] def jU(ix:List (Option Nat))(ρ:Pe):Pe:=ix.map fun
 | none=>none
 | some j=>(ρ[j]?).getD none
theorem i9.pull{σ:St}{ρ:Pe}(V:i9 K F σ ρ)(ix:List (Option Nat)):i9 K F (L2.pull ix σ) (jU ix ρ):=λi t e=>by
 unfold jU at e;rw[av] at e;cases q:ix[i]? with
 | none=>rw[q] at e;cases e
 | some w=>
  rw[q] at e;cases w with
  | none=>cases e
  | some j=>
   have e':(ρ[j]?).getD none=some t:=by simpa using e
   cases z:ρ[j]? with
   | none=>rw[z] at e';cases e'
   | some y=>rw[z] at e';have:y=some t:=e';rw[this] at z;obtain⟨v,a,b⟩:=V j t z;refine⟨v,?_,b⟩;show (L2.pull ix σ)[i]? = _;unfold L2.pull;rw[av,q];simp[a]
@[simp] noncomputable def mN(m:T->Pe->Option Pe)(tt:Pe->M Bool)(te:Pe->M T)(ρ:Pe)(t:T):M (Option T):=match m t ρ with
 | none=>.bad
 | some ρ1=>(tt ρ1).bind λb=>if b then (te ρ1).bind λx=>.ok (some x) else .ok none
noncomputable def lL(k:T->M (Option T)):List T->M (List T)
 | []=>.ok []
 | t::ts=>(k t).bind λo=>(lL k ts).bind λr=>.ok (match o with
  | some x=>x::r
  | none=>r)
def B4:XK:=λ_ _ _=>False
theorem Gj:MT K E FM (λ_=>.ok true):=λF H σ ρ Q s V q=>(q:kB F H Q true) F H (.refl s)
theorem BV{ix:List (Option Nat)}{g:TG}{tt:TT}{te:TE}{m:T->Pe->Option Pe}{ft:Pe->M Bool}{fe:Pe->M T}{J:It}{its:List T}{ρ:Pe}{Q:VK}(hg:MG K g m)(ht:MT K B4 tt ft)(he:ME K B4 te fe)(V:i9 K F1 σ ρ)
  (iok:sV K J its F1) (s:eL F1 H1) (hl:its.length<sizeLine) (q:(lL (mN m ft fe (jU ix ρ)) its).res (kF K F1 H1 Q) (λ_ _=>False)):Jq J ix g tt te σ H1 Q:=by
 refine⟨λi k ys H=>i<=its.length/\k=its.length - i/\∃F' ts,Gr F1 H1 F' H/\eI K F' ys ts/\ts.length<=i/\(lL (mN m ft fe (jU ix ρ)) (its.drop i)).res (λus=>kF K F1 H1 Q (ts++us)) (λ_ _=>False),
  ⟨_,bF _,rfl,F1,[],.refl s,.nil,bF _,by simpa using q⟩,?_⟩
 rintro i k ys Hh ⟨hi,rfl,F2,ts,g2,r2,tl,q2⟩;by_cases hlt:i<its.length
 ·right;refine⟨iok.go i Hh (g2.ff.trans g2.fh) hlt,by rw[r2.length];omega,λx H' y=>?_⟩;have et:its[i]? = some its[i]:=ag hlt;obtain⟨F3,g3,rp⟩:=iok.yld i _ F2 Hh x H' g2.ff g2.fh et y;rw[cD hlt] at q2;unfold lL at q2;have q3:=M.res.unb q2;unfold mN at q3;cases em:m its[i] (jU ix ρ) with
  | none=>rw[em] at q3;exact q3.elim
  | some ρ3=>
   rw[em] at q3;have g23:=g2.trans g3;have V3:i9 K F3 (L2.pull ix σ) (jU ix ρ):=(V.mono g23.ff).pull ix;refine hg F3 H' _ _ x _ ρ3 _ g3.fh (by simp[L2.pull,jU]) V3 rp em λσ' hl' V'=>?_;have q4:=M.res.unb q3;refine ht F3 H' σ' ρ3 _ g3.fh V' (q4.mono (λb z F4 H4 g4=>?_) λ_ _ z=>z.elim);cases b with
   | true=>rw[aP rfl] at z ⊢;have q5:=M.res.unb z;refine he F4 H4 σ' ρ3 _ g4.fh (V'.mono g4.ff) (q5.mono (λx' z' v F5 H5 g5 rp'=>?_) λ_ _ z=>z.elim);refine⟨its.length - (i+1),by omega,hlt,rfl,F5,ts++[x'],(g23.trans g4).trans g5,(r2.mono (g3.ff.trans (g4.ff.trans g5.ff))).append (.cons rp' .nil),by simp;omega,?_⟩;have z'':(lL (mN m ft fe (jU ix ρ)) (its.drop (i+1))).res (λus=>kF K F1 H1 Q (ts++(x'::us))) (λ_ _=>False):=M.res.unb z';exact z''.mono (λus w=>by rw[bU];exact w) λ_ _ w=>w
   | false=>rw[aQ aG] at z ⊢;refine⟨its.length - (i+1),by omega,hlt,rfl,F4,ts,g23.trans g4,r2.mono (g3.ff.trans g4.ff),by omega,?_⟩;exact M.res.unb z
 ·left;have e:i=its.length:=by omega
  subst e;rw[List.drop_length] at q2;refine⟨iok.stop Hh (g2.ff.trans g2.fh),λD hD=>?_⟩;have q3:kF K F1 H1 Q ts:=by simpa[lL,M.res] using q2
  exact q3 D ys F2 _ (g2.trans (.new' g2.fh hD)) (eE g2.hh hD) (eE g2.fh hD) eC r2
theorem EC{ix:List (Option Nat)}{w:TI}{g:TG}{tt:TT}{te:TE}{fi:Pe->M (List T)}{m:T->Pe->Option Pe}{ft:Pe->M Bool}{fe:Pe->M T}(hi:MI K E w fi)(hg:MG K g m)(ht:MT K B4 tt ft)(he:ME K B4 te fe) :
  MF K E (BH ix w g tt te) (λρ=>(fi ρ).bind λits=>(if its.length<sizeLine then lL (mN m ft fe (jU ix ρ)) its else .bad).noEr):=λF H σ ρ Q s V q=>by
 refine hi F H σ ρ _ s V ((M.res.unb q).mono (λits z J F' H' gr iok=>?_) λ_ _ z=>z);split at z
 ·rename_i hl;exact BV hg ht he (V.mono gr.ff) iok gr.fh hl (z.noEr.mono (λ_ w=>w.go gr) λ_ _ w=>w)
 ·exact z.elim
end
end L3
namespace L3
open PySem L2
section
variable {K:W.Frag}{E:XK}{t u ta tb:TE}{f fa fb:Pe->M T}{F0:Fz}{H0 F H F1 H1:Hp}{σ:St}{ρ:En}{D:rF}
noncomputable def rj(K:W.Frag)(F:List T->M T):Sp:=λvs H Q E=>∃ts F0,eL F0 H/\eI K F0 vs ts/\(F ts).res (kV K F0 H Q) (kE E F0 H)
noncomputable def vT(K:W.Frag)(F:List T->M (List T)):Sp:=λvs H Q E=>∃ts F0,eL F0 H/\eI K F0 vs ts/\(F ts).res (kF K F0 H Q) (kE E F0 H)
@[simp] noncomputable def dX(fa:Pe->M (List T))(F:List T->M T):Pe->M T:=λρ=>(fa ρ).bind λts=>(F ts).noEr
@[simp] noncomputable def ip(fa:Pe->M (List T))(F:List T->M (List T)):Pe->M (List T):=λρ=>(fa ρ).bind λts=>(F ts).noEr
section
variable {tr:TA}{fr:Pe->M (List T)}{Fn:List T->M T}{Ff:List T->M (List T)}{E':XK}
theorem Bj(ha:MA K E tr fr):ME K E (qY (rj K Fn) [] E' tr) (dX fr Fn):=λF H σ ρ Q s V q=>by refine ha.run s V q λts vs F1 H1 g1 r1 q1=>?_;exact⟨ts,F1,g1.fh,by rw[bG];exact r1,(q1.mono (λ_ z=>kV.go z g1) λ_ _ z=>z).noEr⟩
theorem AF(ha:MA K E tr fr):MF K E (qY (vT K Ff) [] E' tr) (ip fr Ff):=λF H σ ρ Q s V q=>by refine ha.run s V q λts vs F1 H1 g1 r1 q1=>?_;exact⟨ts,F1,g1.fh,by rw[bG];exact r1,(q1.mono (λ_ z=>kF.go z g1) λ_ _ z=>z).noEr⟩
@[simp] def oI(C:Addr)(m:Str)(x:T):M Unit:=match x with
 | .obj C' fs=>if C'=C/\fs.lookup m=none then .ok () else .bad
 | _=>.bad
@[simp] noncomputable def oU(C:Addr)(m:Str)(fo:Pe->M T)(fr:Pe->M (List T))(F:List T->M T):Pe->M T:=λρ=>(fo ρ).bind λx=>(oI C m x).bind λ_=>(fr ρ).bind λxs=>(F (x::xs)).noEr
@[simp] noncomputable def qF(C:Addr)(m:Str)(fo:Pe->M T)(fr:Pe->M (List T))(F:List T->M (List T)):Pe->M (List T):=λρ=>(fo ρ).bind λx=>(oI C m x).bind λ_=>(fr ρ).bind λxs=>(F (x::xs)).noEr
theorem xN{C:Addr}{m:Str}{x:T}{v:V}(r:jc K F v x)(e:oI C m x=.ok ()):∃a dx fs,v=.ref a/\F a=some (.ins C dx fs)/\fs.lookup m=none:=by
 cases r with
 | obj h rs=>
  rename_i a C' dx fs ts;have e:(if C'=C/\List.lookup m ts=none then M.ok () else M.bad)=.ok ():=e;by_cases hc:C'=C/\List.lookup m ts=none
  ·obtain⟨rfl,hl⟩:=hc;exact⟨a,dx,fs,rfl,h,rs.none_ hl⟩
  ·rw[aQ hc] at e;cases e
 | _=>cases e
theorem yd{C C':Addr}{m:Str}{x:T}{n:Option Int}:oI C m x≠.er C' n:=by
 unfold oI;split
 ·split<;>exact λz=>nomatch z
 ·exact λz=>nomatch z
theorem A6{C:Addr}{m:Str}(ho:ME K E ta fa)(hr:MA K E tr fr):ME K E (sC C m (rj K Fn) [] E' ta tr) (oU C m fa fr Fn):=λF H σ ρ Q s V q=>by
 refine ho.run s V q λx v F1 H1 g1 r1 q1=>?_;cases e:oI C m x with
 | bad=>rw[e] at q1;exact q1.elim
 | er C n=>exact absurd e yd
 | ok u=>rw[e] at q1;obtain⟨a,dx,fs,rfl,h,hl⟩:=xN r1 e;refine⟨a,dx,fs,rfl,g1.fh _ _ h,hl,?_⟩;refine hr.run (P:=kV K F _ Q) g1.fh (V.mono g1.ff) q1 λts vs F2 H2 g2 r2 q2=>?_;exact⟨x::ts,F2,g2.fh,by rw[bG];exact .cons (r1.mono g2.ff) r2,(q2.mono (λ_ z=>kV.go z (g1.trans g2)) λ_ _ z=>z).noEr⟩
theorem zU{C:Addr}{m:Str}(ho:ME K E ta fa)(hr:MA K E tr fr):MF K E (sC C m (vT K Ff) [] E' ta tr) (qF C m fa fr Ff):=λF H σ ρ Q s V q=>by
 refine ho.run s V q λx v F1 H1 g1 r1 q1=>?_;cases e:oI C m x with
 | bad=>rw[e] at q1;exact q1.elim
 | er C n=>exact absurd e yd
 | ok u=>rw[e] at q1;obtain⟨a,dx,fs,rfl,h,hl⟩:=xN r1 e;refine⟨a,dx,fs,rfl,g1.fh _ _ h,hl,?_⟩;refine hr.run (P:=kF K F _ Q) g1.fh (V.mono g1.ff) q1 λts vs F2 H2 g2 r2 q2=>?_;exact⟨x::ts,F2,g2.fh,by rw[bG];exact .cons (r1.mono g2.ff) r2,(q2.mono (λ_ z=>kF.go z (g1.trans g2)) λ_ _ z=>z).noEr⟩
end
@[simp] noncomputable def Jl:O->M T
 | .nx _=>.ok .non
 | .rt t=>.ok t
 | .rf ts=>.ok (.lst ts)
 | .rn ts us=>.ok (.tup (ts++[.lst us]))
 | .er C n=>.er C n
 | _=>.bad
@[simp] noncomputable def Ji:O->M (List T)
 | .rf ts=>.ok ts
 | .er C n=>.er C n
 | _=>.bad
@[simp] def eN(n:Nat)(ts:List T):En:=ts.map (λt=>some (W.p t))++List.replicate (n - ts.length) none
@[simp] noncomputable def jv(k n:Nat)(g:En->O):List T->M T:=λts=>if ts.length=k then Jl (g (eN n ts)) else .bad
@[simp] noncomputable def uA(k n:Nat)(g:En->O):List T->M (List T):=λts=>if ts.length=k then Ji (g (eN n ts)) else .bad
theorem sd{n i:Nat}{ts:List T}{kvs:List (LI×T)}(e:(eN n ts)[i]? = some (some (.d kvs))):False:=by
 unfold eN at e;rw[List.getElem?_append] at e;split at e
 ·rw[av] at e;cases q:ts[i]? with
  | none=>rw[q] at e;cases e
  | some x=>rw[q] at e;cases e
 ·rw[List.getElem?_replicate] at e;split at e<;>cases e
theorem qT{N:List Str}{vs:List V}{ts:List T}(s:eL F H)(r:eI K F vs ts):Sr K ⟨F,[]⟩ H F H (ju N vs) (eN N.length ts):=by
 refine⟨.refl s,?_,λi t e=>?_,⟨λ_=>0,λi us e=>?_,λi j us ws e=>?_⟩,λ_ he=>(nomatch he),λ_ _ _ h=>(by cases h),⟨λi kvs e=>(sd e).elim,λi j kvs kvs' e=>(sd e).elim⟩⟩
 ·simp[L2.ju,eN,r.length]
 ·unfold eN at e;rw[List.getElem?_append] at e;split at e
  ·rename_i hi;rw[av] at e;cases q:ts[i]? with
   | none=>rw[q] at e;cases e
   | some x=>rw[q] at e;cases e;obtain⟨v,a,b⟩:=r.get q;refine⟨v,?_,b⟩;unfold L2.ju;rw[List.getElem?_append_left (by simpa[r.length] using hi),av,a];rfl
  ·rw[List.getElem?_replicate] at e;split at e<;>cases e
 ·exfalso;unfold eN at e;rw[List.getElem?_append] at e;split at e
  ·rw[av] at e;cases q:ts[i]? with
   | none=>rw[q] at e;cases e
   | some x=>rw[q] at e;cases e
  ·rw[List.getElem?_replicate] at e;split at e<;>cases e
 ·exfalso;unfold eN at e;rw[List.getElem?_append] at e;split at e
  ·rw[av] at e;cases q:ts[i]? with
   | none=>rw[q] at e;cases e
   | some x=>rw[q] at e;cases e
  ·rw[List.getElem?_replicate] at e;split at e<;>cases e
theorem xh{k n:Nat}{g:En->O}{vs:List V}{Q:VK}(h:rj K (jv k n g) vs H Q E):vs.length=k:=by
 obtain⟨ts,F0,s,r,q⟩:=h;unfold jv at q;by_cases hk:ts.length=k
 ·rw[r.length];exact hk
 ·rw[aQ hk] at q;exact q.elim
theorem sU{k:Nat}{N:List Str}{g:En->O}{t:TS}{vs:List V}{Q:VK}(hm:MS K E t g)(h:rj K (jv k N.length g) vs H Q E):t {nx:=λ_ H'=>Q .non H',rt:=Q} (ju N vs) H:=by
 obtain⟨ts,F0,s,r,q⟩:=h;unfold jv at q;by_cases hk:ts.length=k
 ·rw[aP hk] at q;refine hm ⟨F0,[]⟩ H F0 H _ _ _ (qT s r) ?_;cases e:g (eN N.length ts) with
  | bad=>rw[e] at q;exact q
  | nx ρ=>rw[e] at q;exact λF' H' σ' _ r'=>(q:kV K F0 H Q .non) .non F' H' r'.gr .non
  | rt t=>rw[e] at q;exact q
  | rf ts=>rw[e] at q;exact kF.of q
  | rn ts us=>rw[e] at q;exact kT.of q
  | bk ρ=>rw[e] at q;exact q.elim
  | ct ρ=>rw[e] at q;exact q.elim
  | er C n=>rw[e] at q;exact q
 ·rw[aQ hk] at q;exact q.elim
theorem yz{k n:Nat}{g:En->O}{vs:List V}{Q:VK}(h:vT K (uA k n g) vs H Q E):vs.length=k:=by
 obtain⟨ts,F0,s,r,q⟩:=h;unfold uA at q;by_cases hk:ts.length=k
 ·rw[r.length];exact hk
 ·rw[aQ hk] at q;exact q.elim
theorem uO{k:Nat}{N:List Str}{g:En->O}{t:TS}{vs:List V}{Q:VK}(hm:MS K E t g)(h:vT K (uA k N.length g) vs H Q E):t {nx:=λ_ H'=>Q .non H',rt:=Q} (ju N vs) H:=by
 obtain⟨ts,F0,s,r,q⟩:=h;unfold uA at q;by_cases hk:ts.length=k
 ·rw[aP hk] at q;refine hm ⟨F0,[]⟩ H F0 H _ _ _ (qT s r) ?_;cases e:g (eN N.length ts) with
  | bad=>rw[e] at q;exact q
  | nx ρ=>rw[e] at q;exact q.elim
  | rt t=>rw[e] at q;exact q.elim
  | rf ts=>rw[e] at q;exact q
  | rn ts us=>rw[e] at q;exact q.elim
  | bk ρ=>rw[e] at q;exact q.elim
  | ct ρ=>rw[e] at q;exact q.elim
  | er C n=>rw[e] at q;exact q
 ·rw[aQ hk] at q;exact q.elim
@[simp] noncomputable def uZ(C:Addr)(x:Str)(fa:Pe->M T):Pe->M T:=λρ=>(fa ρ).bind λo=>match o with
 | .obj C' fs=>if C'=C then (match fs.lookup x with
  | some t=>.ok t
  | none=>.bad) else .bad
 | _=>.bad
theorem E5{C:Addr}{x:Str}(cl:sJ K C)(na:jg K C x)(ha:ME K E ta fa):ME K E (FW K ta x) (uZ C x fa):=λF H σ ρ Q s V q=>by
 refine ha.run s V q λo v F1 H1 g1 r1 q1=>?_;cases r1 with
 | obj h rs=>
  rename_i a C' dx fs ts;dsimp only at q1;by_cases hc:C'=C
  ·subst hc;rw[aP rfl] at q1;cases e:List.lookup x ts with
   | none=>rw[e] at q1;exact q1.elim
   | some y=>rw[e] at q1;obtain⟨w,e',r'⟩:=rs.look e;exact⟨a,C',dx,fs,w,rfl,g1.fh _ _ h,cl,na,e',(q1:kV K F _ Q y) w F1 H1 g1 r'⟩
  ·rw[aQ hc] at q1;exact q1.elim
 | _=>exact q1.elim
end
end L3
namespace L3
open PySem L2 PySem.Spec PyProof.Rows
structure Pm(K:W.Frag)(E:XK)(X:Cx)(e:Expr)(t:TE)(f:Pe->M T):Prop where
 pe:PE X e t
 me:ME K E t f
structure y0(K:W.Frag)(E:XK)(X:Cx)(e:Expr)(t:TE)(f:Pe->M (List T)):Prop where
 pe:PE X e t
 mf:MF K E t f
structure yD(K:W.Frag)(E:XK)(X:Cx)(e:Expr)(t:TT)(f:Pe->M Bool):Prop where
 pt:PT X e t
 mt:MT K E t f
structure FV(K:W.Frag)(E:XK)(X:Cx)(e:Expr)(t:TT)(f:Pe->M Bool):Prop where
 pw:PW X e t
 mt:MT K E t f
structure uB(K:W.Frag)(E:XK)(X:Cx)(es:List Expr)(t:TA)(f:Pe->M (List T)):Prop where
 pa:PA X es t
 ma:MA K E t f
structure DX(K:W.Frag)(E:XK)(X:Cx)(tg it:Expr)(w:TI)(f:Pe->M (List T)):Prop where
 pi:PI X tg it w
 mi:MI K E w f
structure rC(K:W.Frag)(E:XK)(X:Cx)(tg it:Expr)(w:TI)(f:Pe->M (List T)):Prop where
 pi:PI X tg it w
 mi:HM K E w f
structure G2(K:W.Frag)(X:Cx)(tg:Expr)(g:TG)(m:T->Pe->Option Pe):Prop where
 pg:PG X tg g
 mg:MG K g m
structure CK(K:W.Frag)(X:Cx)(tg:List Expr)(g:vR)(m:List T->Pe->Option Pe):Prop where
 pg:G6 X tg g
 mg:Hf K g m
structure Hg(K:W.Frag)(X:Cx)(tg:Expr)(g:TG)(m:T->En->Option En):Prop where
 pg:PG X tg g
 mg:EK K g m
structure Ds(K:W.Frag)(X:Cx)(tg:List Expr)(g:vR)(m:List T->En->Option En):Prop where
 pg:G6 X tg g
 mg:Ay K g m
structure rg(K:W.Frag)(E:XK)(X:Cx)(st:Stmt)(t:TS)(g:En->O):Prop where
 ps:PS X st t
 ms:MS K E t g
structure mO(K:W.Frag)(E:XK)(X:Cx)(sts:List Stmt)(t:TS)(g:En->O):Prop where
 ps:uI X sts t
 ms:MS K E t g
noncomputable def MO(K:W.Frag)(E:XK)(t:TO)(f:Pe->M (Option Int)):Prop:=∀F H σ ρ Q,eL F H->i9 K F σ ρ->(f ρ).res (λo=>∀F' H',Gr F H F' H'->Q o H') (kE E F H)->t σ H Q
structure IC(K:W.Frag)(E:XK)(X:Cx)(e:Option Expr)(t:TO)(f:Pe->M (Option Int)):Prop where
 po:PO X e t
 mo:MO K E t f
structure zY(K:W.Frag)(E:XK)(X:Cx)(es:List Expr)(t:TT)(f:Pe->M Bool):Prop where
 pf:zu X es t
 mt:MT K E t f
section
variable {K:W.Frag}{E:XK}{X:Cx}{a b c e o:Expr}{es:List Expr}{ta tb tc te to:TE}{fa fb fc fe fo:Pe->M T}{tr:TA}{fr:Pe->M (List T)}{pos p p2 apos:Pos}
theorem dG(i:Nat){x:Str}{pos:Pos}(hN:X.N[i]? = some x:=by rfl)(hv:Hr X.env.scope x:=by first | exact Or.inl rfl | exact Or.inr (Or.inl rfl) | exact Or.inr (Or.inr rfl))(hd:(x == ("__debug__" : Str))=false:=by decide)
  (hcd:(x == ("__classdict__" : Str))=false:=by decide):Pm K E X (.Name x pos) (kW i) (dJ i):=⟨pv i hN hv hd hcd,EX⟩
theorem dR{i:Int}{j pos}:Pm K E X (.Constant (.int i) j pos) (tC (.int i)) (cM (.int i)):=⟨wd,B9 λ_=>.int i⟩
theorem ji{b:Bool}{j pos}:Pm K E X (.Constant (.bool b) j pos) (tC (.bl b)) (cM (.bl b)):=⟨Hv,B9 λ_=>.bl b⟩
theorem oo{x:Str}{j pos}:Pm K E X (.Constant (.str x) j pos) (tC (.str x)) (cM (.str x)):=⟨EZ,B9 λ_=>.str x⟩
theorem uX(i:Int){x:Str}(hm:∃t,X.mg x=some (.int i t))(hg:Gl X x:=by rfl)(hd:(x == ("__debug__" : Str))=false:=by decide):Pm K E X (.Name x pos) (tC (.int i)) (cM (.int i)):=let ⟨t,h⟩:=hm;⟨Cp hg h ⟨t,rfl⟩ hd,B9 λ_=>.int i⟩
theorem eM{f:Pe->M (List T)}(h:y0 K E X e te f):Pm K E X e te (λρ=>(f ρ).bind λts=>.ok (.lst ts)):=⟨h.pe,h.mf.me⟩
theorem sN{op:Operator}{r:R2}{m:T->T->M T}(ho:mM X (binaryOp op) r)(hr:MR K r m)(ha:Pm K E X a ta fa)(hb:Pm K E X b tb fb):Pm K E X (.BinOp a op b pos) (rh r ta tb) (ed m fa fb):=⟨zQ ho ha.pe hb.pe,yw hr ha.me hb.me⟩
def Bo(K:W.Frag):R2:=λx y H Q=>(xu λi j=>.int (i+j)) x y H Q\/(∃i j,x=.str i/\y=.str j/\i.length+j.length<=sizeLine/\Q (.str (i++j)) H)\/Gv x y H Q\/
 ∃a b xs ys,x=.ref a/\y=.ref b/\H a=some (.tup xs)/\H b=some (.tup ys)/\xs.length+ys.length<=sizeLine/\(xs=[]->Q (.ref b) H)/\(xs≠[]->ys=[]->Q (.ref a) H)/\(xs≠[]->ys≠[]->∀p,H p=none->Q (.ref p) (gL H p (.tup (xs++ys))))
theorem CB(hK:X.K=K:=by rfl):mM X (binaryOp .Add) (Bo K):=by
 subst hK;intro dN s σ H x y v u Q I rx ry h;rcases h with h | h | h | h
 ·exact Gb dN s σ H x y v u Q I rx ry h
 ·exact wY dN s σ H x y v u Q I rx ry h
 ·exact BI dN s σ H x y v u Q I rx ry h
 ·obtain⟨a,b,xs,ys,rfl,rfl,ha,hb,hz,q1,q2,q3⟩:=h;by_cases hx:xs=[]
  ·subst hx;cases rx;cases ry;obtain⟨its,r1,p1,_⟩:=I.tuple (jR.of ha);obtain⟨its2,r2,p2,_⟩:=I.tuple (jR.of hb);cases r1;obtain⟨⟨c1,d1,e1,s1⟩,g1,k1,n1,q1'⟩:=id p1;obtain⟨⟨c2,d2,e2,s2⟩,g2,k2,n2,q2'⟩:=id p2;dsimp only at k1 q1' k2 q2';subst k1 q1' k2 q2';exact concat_meets ⟨_,g1,rfl⟩ ⟨_,g2,rfl⟩ noFill_tuple_add seq_tuple_add PySem.F.slot_tuple_add PySem.F.entry_tuple_add (PySem.F.args_tuple_add_2 _ _) (tuple_addW0 a b _ _ n1 n2 d1 d2 s1 s2 (by simp)) ⟨g1,g2,⟨.ref b,H,I,rfl,q1 rfl⟩⟩
  ·exact Dc dN s σ H _ _ v u Q I rx ry ⟨a,b,xs,ys,rfl,rfl,jR.of ha,jR.of hb,hx,hz,λe=>q2 hx e,λe p hp=>q3 hx e p hp⟩
noncomputable def gR:T->T->M T
 | .int i,.int j=>.ok (.int (i+j))
 | .str i,.str j=>if i.length+j.length<=sizeLine then .ok (.str (i++j)) else .bad
 | .lst a,.lst b=>if a.length+b.length<=sizeLine then .ok (.lst (a++b)) else .bad
 | .tup a,.tup b=>if a.length+b.length<=sizeLine then .ok (.tup (a++b)) else .bad
 | _,_=>.bad
theorem Dx(x y:T):M.NoE (gR x y):=λC n=>by unfold gR;split<;>first | (intro z;cases z;done) | (split<;>intro z<;>cases z)
theorem CS:MR K (Bo K) gR:=⟨Dx,λF H v w x y Q s ra rb q=>by
 cases ra with
 | int i=>
  cases rb with
  | int j=>exact .inl ⟨i,j,rfl,rfl,kV.now q s (.int _)⟩
  | _=>exact q.elim
 | str i=>
  cases rb with
  | str j=>
   have q':(if i.length+j.length<=sizeLine then M.ok (T.str (i++j)) else M.bad).res (kV K F H Q) (λ_ _=>False):=q;by_cases h:i.length+j.length<=sizeLine
   ·rw[aP h] at q';exact .inr (.inl ⟨i,j,rfl,rfl,h,kV.now q' s (.str _)⟩)
   ·rw[aQ h] at q';exact q'.elim
  | _=>exact q.elim
 | lst h1 r1=>
  cases rb with
  | lst h2 r2=>
   rename_i a xs ts b ys us;have q':(if ts.length+us.length<=sizeLine then M.ok (T.lst (ts++us)) else M.bad).res (kV K F H Q) (λ_ _=>False):=q;by_cases h:ts.length+us.length<=sizeLine
   ·rw[aP h] at q';refine .inr (.inr (.inl ⟨a,b,xs,ys,rfl,rfl,s _ _ h1,s _ _ h2,by rw[r1.length,r2.length];exact h,λp hp=>?_⟩));exact (q':kV K F H Q _) (.ref p) _ _ (.new s hp) (.lst eC ((r1.append r2).mono (Gr.new s hp).ff))
   ·rw[aQ h] at q';exact q'.elim
  | _=>exact q.elim
 | tup h1 r1=>
  cases rb with
  | tup h2 r2=>
   rename_i a xs ts b ys us;have q':(if ts.length+us.length<=sizeLine then M.ok (T.tup (ts++us)) else M.bad).res (kV K F H Q) (λ_ _=>False):=q;by_cases h:ts.length+us.length<=sizeLine
   ·rw[aP h] at q';refine .inr (.inr (.inr ⟨a,b,xs,ys,rfl,rfl,s _ _ h1,s _ _ h2,by rw[r1.length,r2.length];exact h,λe=>?_,λ_ e=>?_,λ_ _ p hp=>?_⟩))
    ·subst e;cases r1;exact kV.now q' s (.tup h2 r2)
    ·subst e;cases r2;exact kV.now q' s (.tup h1 (by rw[bG];exact r1))
    ·exact (q':kV K F H Q _) (.ref p) _ _ (.new s hp) (.tup eC ((r1.append r2).mono (Gr.new s hp).ff))
   ·rw[aQ h] at q';exact q'.elim
  | _=>exact q.elim
 | _=>exact q.elim⟩
theorem gx(ha:Pm K E X a ta fa)(hb:Pm K E X b tb fb)(hK:X.K=K:=by rfl):Pm K E X (.BinOp a .Add b pos) (rh (Bo K) ta tb) (ed gR fa fb):=sN (CB hK) CS ha hb
@[simp] noncomputable def ox(fa fb:Pe->M T):Pe->M (List T):=λρ=>(fa ρ).bind λx=>(fb ρ).bind λy=>match x,y with
 | .lst a,.lst b=>if a.length+b.length<=sizeLine then .ok (a++b) else .bad
 | _,_=>.bad
theorem tq(ha:Pm K E X a ta fa)(hb:Pm K E X b tb fb):y0 K E X (.BinOp a .Add b pos) (rh Gv ta tb) (ox fa fb):=by
 refine⟨zQ BI ha.pe hb.pe,λF H σ ρ Q s V q=>?_⟩;refine ha.me.run s V q λx v F1 H1 g1 r1 q1=>?_;refine hb.me.run (P:=kF K F H Q) g1.fh (V.mono g1.ff) q1 λy w F2 H2 g2 r2 q2=>?_;cases r1 with
 | lst h1 t1=>
  cases r2 with
  | lst h2 t2=>
   rename_i a xs ts b ys us;have q':(if ts.length+us.length<=sizeLine then M.ok (ts++us) else M.bad).res (kF K F H Q) (kE E F2 H2):=q2;by_cases h:ts.length+us.length<=sizeLine
   ·rw[aP h] at q';refine⟨a,b,xs,ys,rfl,rfl,g2.fh _ _ (g2.ff _ _ h1),g2.fh _ _ h2,by rw[t1.length,t2.length];exact h,λp hp=>?_⟩;have g12:=g1.trans g2;exact (q':kF K F H Q _) p _ F2 _ (g12.trans (.new' g2.fh hp)) (eE g12.hh hp) (eE g2.fh hp) eC ((t1.mono g2.ff).append t2)
   ·rw[aQ h] at q';exact q'.elim
  | _=>exact q2.elim
 | _=>exact q2.elim
noncomputable def qb:T->T->M T:=i5 (λ_ _=>true) λi j=>.int (i - j)
theorem og(ha:Pm K E X a ta fa)(hb:Pm K E X b tb fb):Pm K E X (.BinOp a .Sub b pos) (rh (xu λi j=>.int (i - j)) ta tb) (ed qb fa fb):=sN Gw (nA λ_ _ _=>.int _) ha hb
instance {i j:Int}:Decidable (PySem.IntMulOk i j):=inferInstanceAs (Decidable (¬_))
noncomputable def fT:T->T->M T:=i5 (λi j=>decide (PySem.IntMulOk i j)) λi j=>.int (i*j)
theorem fv(ha:Pm K E X a ta fa)(hb:Pm K E X b tb fb):Pm K E X (.BinOp a .Mult b pos) (rh (rI (λi j=>PySem.IntMulOk i j) λi j=>.int (i*j)) ta tb) (ed fT fa fb):=sN CI (tT (λi j h=>of_decide_eq_true h) λ_ _ _=>.int _) ha hb
noncomputable def lI:T->T->M T:=i5 (λi j=>decide (j≠0)&&!Builtin.divisionGoesByPylong i j) λi j=>.int (i.fdiv j)
theorem lz(ha:Pm K E X a ta fa)(hb:Pm K E X b tb fb):Pm K E X (.BinOp a .FloorDiv b pos) (rh (rI (λi j=>j≠0/\Builtin.divisionGoesByPylong i j=false) λi j=>.int (i.fdiv j)) ta tb) (ed lI fa fb):=sN Bi (tT (λi j h=>by simpa using h) λ_ _ _=>.int _) ha hb
noncomputable def oN:T->T->M T:=i5 (λ_ j=>decide (j≠0)) λi j=>.int (i.fmod j)
theorem lX(ha:Pm K E X a ta fa)(hb:Pm K E X b tb fb):Pm K E X (.BinOp a .Mod b pos) (rh (rI (λ_ j=>j≠0) λi j=>.int (i.fmod j)) ta tb) (ed oN fa fb):=sN Ek (tT (λi j h=>by simpa using h) λ_ _ _=>.int _) ha hb
noncomputable def nR:T->T->M T:=i5 (λi j=>decide (0<=j)&&decide (j<=1000000)&&decide (i.natAbs<18446744073709551616)) λi j=>.int (i ^ j.toNat)
theorem xA(ha:Pm K E X a ta fa)(hb:Pm K E X b tb fb):Pm K E X (.BinOp a .Pow b pos) (rh (rI Hq λi j=>.int (i ^ j.toNat)) ta tb) (ed nR fa fb):=sN GD (tT (λi j h=>by simp only[bO,decide_eq_true_eq] at h;exact⟨h.1.1,h.1.2,h.2⟩) λ_ _ _=>.int _) ha hb
theorem mW(ha:Pm K E X a ta fa):Pm K E X (.UnaryOp .USub a pos) (Iw (rU λi=>.int (-i)) ta) (zH (λi=>.int (-i)) fa):=⟨EE Ad ha.pe,HL (λ_ _=>.int _) ha.me⟩
@[simp] noncomputable def pJ(fa fb:Pe->M T):Pe->M (List T):=λρ=>(fa ρ).bind λx=>(fb ρ).bind λy=>match x,y with
 | .lst a,.int k=>if zM k=true/\a.length*k.toNat<=sizeLine then .ok (List.replicate k.toNat a).flatten else .bad
 | _,_=>.bad
theorem oF(ha:Pm K E X a ta fa)(hb:Pm K E X b tb fb):y0 K E X (.BinOp a .Mult b pos) (rh Hd ta tb) (pJ fa fb):=by
 refine⟨zQ GH ha.pe hb.pe,λF H σ ρ Q s V q=>?_⟩;refine ha.me.run s V q λx v F1 H1 g1 r1 q1=>?_;refine hb.me.run (P:=kF K F H Q) g1.fh (V.mono g1.ff) q1 λy w F2 H2 g2 r2 q2=>?_;cases r1 with
 | lst h1 t1=>
  cases r2 with
  | int k=>
   rename_i a xs ts;have q':(if zM k=true/\ts.length*k.toNat<=sizeLine then M.ok (List.replicate k.toNat ts).flatten else M.bad).res (kF K F H Q) (kE E F2 H2):=q2;by_cases h:zM k=true/\ts.length*k.toNat<=sizeLine
   ·rw[aP h] at q';refine⟨a,k,xs,rfl,rfl,g2.fh _ _ (g2.ff _ _ h1),by have:=pR h.1;rw[IJ] at this;rw[JB];omega,by have:=pR h.1;rw[IJ] at this;rw[JB];omega,by rw[t1.length];exact h.2,λp hp=>?_⟩;have g12:=g1.trans g2;exact (q':kF K F H Q _) p _ F2 _ (g12.trans (.new' g2.fh hp)) (eE g12.hh hp) (eE g2.fh hp) eC ((t1.mono g2.ff).rep k.toNat)
   ·rw[aQ h] at q';exact q'.elim
  | _=>exact q2.elim
 | _=>exact q2.elim
theorem hZ(h:Pm K E X e te fe)(he:∀whole,isTrue e X.env whole=(do let v <-whole;standAt e.pos;holding [v] (truthy v)):=by intro _;rfl):yD K E X e (tB te) (fz fe):=⟨GE h.pe he,Cy h.me⟩
section
variable {tA tD:TT}{fA fD:Pe->M Bool}{kG:List Expr}
theorem fJ(h:yD K E X a tA fA):yD K E X (.UnaryOp .Not a pos) (Gy tA) (gK fA):=⟨FH h.pt,E4 h.mt⟩
theorem pH(h:FV K E X a tA fA):yD K E X a tA fA:=⟨PW.pt h.pw,h.mt⟩
theorem uH(h:yD K E X a tA fA):FV K E X (.BoolOp .And [a] pos) tA fA:=⟨Dy h.pt,h.mt⟩
theorem jG(h:yD K E X a tA fA):FV K E X (.BoolOp .Or [a] pos) tA fA:=⟨GS h.pt,h.mt⟩
theorem yh(h:yD K E X a tA fA)(h':FV K E X (.BoolOp .And (b::kG) pos) tD fD):FV K E X (.BoolOp .And (a::b::kG) pos) (Fv tA tD) (nv fA fD):=⟨Gc h.pt h'.pw,GR h.mt h'.mt⟩
theorem jS(h:yD K E X a tA fA)(h':FV K E X (.BoolOp .Or (b::kG) pos) tD fD):FV K E X (.BoolOp .Or (a::b::kG) pos) (IX tA tD) (nj fA fD):=⟨Hz h.pt h'.pw,Hw h.mt h'.mt⟩
theorem md{op}(h:Pm K E X a ta fa):Pm K E X (.BoolOp op [a] pos) ta fa:=⟨EY h.pe,h.me⟩
theorem lC(h:Pm K E X a ta fa)(h':Pm K E X (.BoolOp .And (b::kG) pos) tb fb):Pm K E X (.BoolOp .And (a::b::kG) pos) (A3 ta tb) (ng fa fb):=⟨FP h.pe h'.pe,CZ h.me h'.me⟩
theorem wF(h:Pm K E X a ta fa):Pm K E X (.UnaryOp .Not a pos) (Ac ta) (zj fa):=⟨Fs h.pe,Dp h.me⟩
end
theorem p6{op:CmpOp}{r:R2}{m:T->T->M T}(ho:mM X (compareOp op) r)(hr:MR K r m)(ha:Pm K E X a ta fa)(hb:Pm K E X b tb fb)(hm:behindInMarks op b=false:=by exact oz _):Pm K E X (.Compare a [op] [b] pos) (rh r ta tb) (ed m fa fb):=⟨Ci ho ha.pe hb.pe hm,yw hr ha.me hb.me⟩
theorem jI{op:CmpOp}{r:R2}{m:T->T->M T}(ho:mM X (compareOp op) r)(hr:MR K r m)(ha:Pm K E X a ta fa)(hb:Pm K E X b tb fb)(hm:behindInMarks op b=false:=by exact oz _):yD K E X (.Compare a [op] [b] pos) (vN (rh r ta tb)) (fz (ed m fa fb)):=⟨CT ho ha.pe hb.pe hm,C3 (yw hr ha.me hb.me)⟩
noncomputable def Ey:T->T->M T:=i5 (λ_ _=>true) λi j=>.bl (decide (i<j))
noncomputable def HB:T->T->M T:=i5 (λ_ _=>true) λi j=>.bl (decide (i<=j))
noncomputable def Dq:T->T->M T:=i5 (λ_ _=>true) λi j=>.bl (decide (j<i))
noncomputable def Hk:T->T->M T:=i5 (λ_ _=>true) λi j=>.bl (decide (j<=i))
theorem uS:MR K (xu λi j=>.bl (decide (i<j))) Ey:=nA λ_ _ _=>.bl _
theorem AW:MR K (xu λi j=>.bl (decide (i<=j))) HB:=nA λ_ _ _=>.bl _
theorem yg:MR K (xu λi j=>.bl (decide (j<i))) Dq:=nA λ_ _ _=>.bl _
theorem EA:MR K (xu λi j=>.bl (decide (j<=i))) Hk:=nA λ_ _ _=>.bl _
@[simp] noncomputable def IH(m m':T->T->M T)(fa fb fc:Pe->M T):Pe->M T:=λρ=>(fa ρ).bind λx=>(fb ρ).bind λy=>(m x y).bind λz=>match z with
 | .bl true=>(fc ρ).bind λw=>m' y w
 | .bl false=>.ok (.bl false)
 | _=>.bad
theorem B0{r r':R2}{m m':T->T->M T}(hr:MR K r m)(hr':MR K r' m')(ha:ME K E ta fa)(hb:ME K E tb fb)(hc:ME K E tc fc):ME K E (wm r r' ta tb tc) (IH m m' fa fb fc):=λF H σ ρ Q s V q=>by
 refine ha.run s V q λx v F1 H1 g1 r1 q1=>?_;refine hb.run (P:=kV K F H Q) g1.fh (V.mono g1.ff) q1 λy w F2 H2 g2 r2 q2=>?_;refine hr.ok F2 H2 v w x y _ g2.fh (r1.mono g2.ff) r2 (((M.res.unb q2).ne (hr.ne x y)).mono (λz qz v3 F3 H3 g3 r3=>?_) λ_ _ z=>z);have g123:=(g1.trans g2).trans g3;cases r3 with
 | bl k=>
  refine⟨k,rfl,?_⟩;cases k with
  | true=>rw[aP rfl];have qz':((fc ρ).bind λw=>m' y w).res (kV K F H Q) (kE E F3 H3):=qz.mono (λ_ z=>z) λ_ _ z=>z.go g3;refine hc.run (P:=kV K F H Q) g3.fh (V.mono g123.ff) qz' λx4 w4 F4 H4 g4 r4 q4=>?_;exact hr'.ok F4 H4 w w4 y x4 Q g4.fh (r2.mono (g3.ff.trans g4.ff)) r4 ((q4.ne (hr'.ne y x4)).mono (λ_ z=>z.go (g123.trans g4)) λ_ _ z=>z)
  | false=>rw[aQ aG];exact (qz:kV K F H Q _) _ F3 H3 g123 (.bl _)
 | _=>exact qz.elim
theorem u0{op op':CmpOp}{r r':R2}{m m':T->T->M T}(ho:mM X (compareOp op) r)(hr:MR K r m)(ho':mM X (compareOp op') r')(hr':MR K r' m')(ha:Pm K E X a ta fa)(hb:Pm K E X b tb fb)(hc:Pm K E X c tc fc)
  (hm:lastMarks [op,op'] [b,c]=false:=by with_unfolding_all rfl):Pm K E X (.Compare a [op,op'] [b,c] pos) (wm r r' ta tb tc) (IH m m' fa fb fc):=⟨Au ho ho' ha.pe hb.pe hc.pe hm,B0 hr hr' ha.me hb.me hc.me⟩
mutual
def mC:T->T->Bool
 | .non,.non=>true
 | .bl a,.bl b=>a == b
 | .bl a,.int j=>(if a then 1 else 0) == j
 | .int i,.bl b=>i == (if b then 1 else 0)
 | .int i,.int j=>i == j
 | .str x,.str y=>x == y
 | .lst xs,.lst ys=>mT xs ys
 | .tup xs,.tup ys=>mT xs ys
 | _,_=>false
def mT:List T->List T->Bool
 | [],[]=>true
 | x::xs,y::ys=>mC x y&&mT xs ys
 | _,_=>false
end
mutual
def j9:T->Bool
 | .str x=>PyData.canLay0 (.str x)
 | .lst ts=>lN ts
 | .tup ts=>lN ts
 | .scr _=>false
 | .obj _ _=>false
 | .emp=>false
 | _=>true
def lN:List T->Bool
 | []=>true
 | t::ts=>j9 t&&lN ts
end
mutual
def vU:T->Nat
 | .lst ts=>nV ts+1
 | .tup ts=>nV ts+1
 | _=>0
def nV:List T->Nat
 | []=>0
 | t::ts=>max (vU t) (nV ts)
end
mutual
def mS:T->PyData
 | .non=>.none
 | .bl b=>.bool b
 | .int i=>.int i
 | .str x=>.str x
 | .lst ts=>.list (nE ts)
 | .tup ts=>.tuple (nE ts)
 | .scr _=>.none
 | .obj _ _=>.none
 | .emp=>.none
def nE:List T->List PyData
 | []=>[]
 | t::ts=>mS t::nE ts
end
mutual
theorem BD{F:Hp}:∀{v:V} {t:T},jc K F v t->j9 t=true->DV K F v (mS t)
 | _,_,.non,_=>.non
 | _,_,.bl b,_=>.bl b
 | _,_,.int i,_=>.int i
 | _,_,.str x,_=>.str x
 | _,_,.lst h r,l=>.lst (jq.of h) (vW r (by simpa[j9] using l))
 | _,_,.tup h r,l=>.tup (jR.of h) (vW r (by simpa[j9] using l))
 | _,_,.scr _,l=>by simp[j9] at l
 | _,_,.obj _ _,l=>by simp[j9] at l
 | _,_,.emp _,l=>by simp[j9] at l
theorem vW{F:Hp}:∀{vs:List V} {ts:List T},eI K F vs ts->lN ts=true->vv K F vs (nE ts)
 | _,_,.nil,_=>.nil
 | _,_,.cons h r,l=>by rw[lN,bO] at l;exact .cons (BD h l.1) (vW r l.2)
end
mutual
theorem uh:∀(t:T),j9 t=true->(mS t).canLay0=true
 | .non,_=>rfl
 | .bl b,_=>rfl
 | .int i,_=>rfl
 | .str x,h=>by simpa[j9,mS] using h
 | .lst ts,h=>by rw[mS,PyData.canLay0];exact qc ts (by simpa[j9] using h)
 | .tup ts,h=>by rw[mS,PyData.canLay0];exact qc ts (by simpa[j9] using h)
 | .scr _,h=>by simp[j9] at h
 | .obj _ _,h=>by simp[j9] at h
 | .emp,h=>by simp[j9] at h
theorem qc:∀(ts:List T),lN ts=true->PyData.canLayAll0 (nE ts)=true
 | [],_=>rfl
 | t::ts,h=>by rw[lN,bO] at h;rw[nE,PyData.canLayAll0,uh t h.1,qc ts h.2];rfl
end
mutual
theorem ED:∀(t:T),(mS t).depth=vU t
 | .non=>rfl
 | .bl b=>rfl
 | .int i=>rfl
 | .str x=>rfl
 | .lst ts=>by rw[mS,PyData.depth,vU,xc ts]
 | .tup ts=>by rw[mS,PyData.depth,vU,xc ts]
 | .scr _=>rfl
 | .obj _ _=>rfl
 | .emp=>rfl
theorem xc:∀(ts:List T),PyData.depthAll (nE ts)=nV ts
 | []=>rfl
 | t::ts=>by rw[nE,PyData.depthAll,nV,ED t,xc ts]
end
mutual
theorem Es:∀(x y:T),j9 x=true->j9 y=true->PyData.eqv (mS x) (mS y)=mC x y
 | .lst xs,.lst ys,a,b=>by rw[mS,mS,PyData.eqv,mC];exact wA xs ys (by simpa[j9] using a) (by simpa[j9] using b)
 | .tup xs,.tup ys,a,b=>by rw[mS,mS,PyData.eqv,mC];exact wA xs ys (by simpa[j9] using a) (by simpa[j9] using b)
 | .scr _,_,a,_=>by simp[j9] at a
 | .obj _ _,_,a,_=>by simp[j9] at a
 | .emp,_,a,_=>by simp[j9] at a
 | .non,y,_,b=>by cases y<;>first | (exfalso;simp[j9] at b;done) | simp[mS,PyData.eqv,mC]
 | .bl _,y,_,b=>by cases y<;>first | (exfalso;simp[j9] at b;done) | simp[mS,PyData.eqv,mC]
 | .int _,y,_,b=>by cases y<;>first | (exfalso;simp[j9] at b;done) | simp[mS,PyData.eqv,mC]
 | .str _,y,_,b=>by cases y<;>first | (exfalso;simp[j9] at b;done) | simp[mS,PyData.eqv,mC]
 | .lst _,.tup _,_,_=>by simp[mS,PyData.eqv,mC]
 | .lst _,.non,_,_=>by simp[mS,PyData.eqv,mC]
 | .lst _,.bl _,_,_=>by simp[mS,PyData.eqv,mC]
 | .lst _,.int _,_,_=>by simp[mS,PyData.eqv,mC]
 | .lst _,.str _,_,_=>by simp[mS,PyData.eqv,mC]
 | .lst _,.scr _,_,b=>by simp[j9] at b
 | .lst _,.obj _ _,_,b=>by simp[j9] at b
 | .lst _,.emp,_,b=>by simp[j9] at b
 | .tup _,.lst _,_,_=>by simp[mS,PyData.eqv,mC]
 | .tup _,.non,_,_=>by simp[mS,PyData.eqv,mC]
 | .tup _,.bl _,_,_=>by simp[mS,PyData.eqv,mC]
 | .tup _,.int _,_,_=>by simp[mS,PyData.eqv,mC]
 | .tup _,.str _,_,_=>by simp[mS,PyData.eqv,mC]
 | .tup _,.scr _,_,b=>by simp[j9] at b
 | .tup _,.obj _ _,_,b=>by simp[j9] at b
 | .tup _,.emp,_,b=>by simp[j9] at b
theorem wA:∀(xs ys:List T),lN xs=true->lN ys=true->PyData.eqvAll (nE xs) (nE ys)=mT xs ys
 | [],[],_,_=>rfl
 | [],_::_,_,_=>by simp[nE,PyData.eqvAll,mT]
 | _::_,[],_,_=>by simp[nE,PyData.eqvAll,mT]
 | x::xs,y::ys,a,b=>by rw[lN,bO] at a b;rw[nE,nE,PyData.eqvAll,mT,Es x y a.1 b.1,wA xs ys a.2 b.2]
end
noncomputable def eG(neg:Bool):T->T->M T:=λx y=>if j9 x&&j9 y&&decide (vU x<=100) then .ok (.bl (if neg then !mC x y else mC x y)) else .bad
mutual
theorem DV.same{F H:Hp}(s:eL F H):∀{v:V} {d:PyData},DV K F v d->DV K H v d
 | _,_,.non=>.non
 | _,_,.bl b=>.bl b
 | _,_,.int i=>.int i
 | _,_,.str x=>.str x
 | _,_,.lst h r=>.lst (s.seq h) (vv.same s r)
 | _,_,.tup h r=>.tup (s.seqT h) (vv.same s r)
theorem vv.same{F H:Hp}(s:eL F H):∀{v:List V} {d:List PyData},vv K F v d->vv K H v d
 | _,_,.nil=>.nil
 | _,_,.cons h r=>.cons (DV.same s h) (vv.same s r)
end
theorem CY{neg:Bool}(x y:T):M.NoE (eG neg x y):=λC n=>by unfold eG;split<;>exact λz=>nomatch z
theorem xO(neg:Bool):MR K (v9 K neg) (eG neg):=⟨CY,λF H v w x y Q s ra rb q=>by
 unfold eG at q;by_cases h:(j9 x&&j9 y&&decide (vU x<=100))=true
 ·rw[aP h] at q;simp only[bO,decide_eq_true_eq] at h;refine⟨mS x,mS y,DV.same s (BD ra h.1.1),DV.same s (BD rb h.1.2),⟨uh x h.1.1,uh y h.1.2,by rw[ED];exact h.2⟩,?_⟩;rw[Es x y h.1.1 h.1.2];exact kV.now q s (.bl _)
 ·rw[aQ h] at q;exact q.elim⟩
theorem pA{k:Nat}(hr:gh k X.A)(ha:Pm K E X a ta fa)(hb:Pm K E X b tb fb)(hK:X.K=K:=by rfl)(hm:behindInMarks .Eq b=false:=by exact oz _):Pm K E X (.Compare a [.Eq] [b] pos) (rh (v9 K false) ta tb) (ed (eG false) fa fb):=p6 (hK▸zW (IB hr)) (xO false) ha hb hm
theorem Ew{k:Nat}(hr:gh k X.A)(ha:Pm K E X a ta fa)(hb:Pm K E X b tb fb)(hK:X.K=K:=by rfl)(hm:behindInMarks .NotEq b=false:=by exact oz _):Pm K E X (.Compare a [.NotEq] [b] pos) (rh (v9 K true) ta tb) (ed (eG true) fa fb):=p6 (hK▸Af (IB hr)) (xO true) ha hb hm
theorem iS{k:Nat}(hr:gh k X.A)(ha:Pm K E X a ta fa)(hb:Pm K E X b tb fb)(hK:X.K=K:=by rfl)(hm:behindInMarks .Eq b=false:=by exact oz _):yD K E X (.Compare a [.Eq] [b] pos) (vN (rh (v9 K false) ta tb)) (fz (ed (eG false) fa fb)):=jI (hK▸zW (IB hr)) (xO false) ha hb hm
theorem gZ{k:Nat}(hr:gh k X.A)(ha:Pm K E X a ta fa)(hb:Pm K E X b tb fb)(hK:X.K=K:=by rfl)(hm:behindInMarks .NotEq b=false:=by exact oz _):yD K E X (.Compare a [.NotEq] [b] pos) (vN (rh (v9 K true) ta tb)) (fz (ed (eG true) fa fb)):=jI (hK▸Af (IB hr)) (xO true) ha hb hm
def hW:T->Bool
 | .non=>true
 | .bl _=>true
 | .int _=>true
 | .str _=>true
 | _=>false
def pF(x:T)(ts:List T):Bool:=ts.any λy=>mC y x
theorem jc.flat{F:Hp}{v:V}{x:T}(r:jc K F v x)(h:hW x=true):mI v=true:=by cases r<;>first | rfl | (simp[hW] at h;done)
theorem eI.flat{F:Hp}:∀{vs:List V} {xs:List T},eI K F vs xs->xs.all hW=true->vs.all mI=true
 | _,_,.nil,_=>rfl
 | _,_,.cons h r,q=>by rw[bQ,bO] at q ⊢;exact⟨h.flat q.1,eI.flat r q.2⟩
theorem Ig{F:Hp}{v w:V}{x y:T}(r:jc K F v x)(r':jc K F w y)(h:hW x=true)(h':hW y=true):B5 v w=mC x y:=by cases r<;>first | (exfalso;simp[hW] at h;done) | (cases r'<;>first | (exfalso;simp[hW] at h';done) | rfl | simp[B5,mC])
theorem BZ{F:Hp}{v:V}{x:T}(r:jc K F v x)(h:hW x=true):∀{vs:List V} {xs:List T},eI K F vs xs->xs.all hW=true->IE v vs=pF x xs
 | _,_,.nil,_=>rfl
 | _,_,.cons q rs,l=>by rw[bQ,bO] at l;have ih:=BZ r h rs l.2;unfold IE pF at ih ⊢;rw[bR,bR,ih,Ig q r l.1 h]
noncomputable def BO(neg:Bool):T->T->M T:=λx y=>match y with
 | .lst ts=>if hW x&&ts.all hW then .ok (.bl (if neg then !pF x ts else pF x ts)) else .bad
 | .tup ts=>if hW x&&ts.all hW then .ok (.bl (if neg then !pF x ts else pF x ts)) else .bad
 | _=>.bad
theorem DA{neg:Bool}(x y:T):M.NoE (BO neg x y):=λC n=>by unfold BO;split<;>first | (intro z;cases z;done) | (split<;>intro z<;>cases z)
theorem HU(neg:Bool):MR K (I0 K neg) (BO neg):=⟨DA,λF H v w x y Q s ra rb q=>by
 cases rb with
 | lst h r=>
  rename_i a xs ts;have q':(if hW x&&ts.all hW then M.ok (T.bl (if neg then !pF x ts else pF x ts)) else M.bad).res (kV K F H Q) (λ_ _=>False):=q;by_cases hc:(hW x&&ts.all hW)=true
  ·rw[aP hc] at q';rw[bO] at hc;exact⟨a,xs,rfl,.inl (jq.of (s _ _ h)),ra.flat hc.1,r.flat hc.2,by rw[BZ ra hc.1 r hc.2];exact kV.now q' s (.bl _)⟩
  ·rw[aQ hc] at q';exact q'.elim
 | tup h r=>
  rename_i a xs ts;have q':(if hW x&&ts.all hW then M.ok (T.bl (if neg then !pF x ts else pF x ts)) else M.bad).res (kV K F H Q) (λ_ _=>False):=q;by_cases hc:(hW x&&ts.all hW)=true
  ·rw[aP hc] at q';rw[bO] at hc;exact⟨a,xs,rfl,.inr (jR.of (s _ _ h)),ra.flat hc.1,r.flat hc.2,by rw[BZ ra hc.1 r hc.2];exact kV.now q' s (.bl _)⟩
  ·rw[aQ hc] at q';exact q'.elim
 | _=>exact q.elim⟩
end
end L3
namespace L3
open PySem L2 PySem.Spec PyProof.Rows
section
variable {K:W.Frag}{E:XK}{X:Cx}{a b c e o tg it:Expr}{es:List Expr}{ta tb tc te to:TE}{fa fb fc fe fo:Pe->M T}{tr:TA}{fr:Pe->M (List T)}{pos p p2 apos:Pos}
theorem dM:uB K E X [] nQ dQ:=⟨lU,xm⟩
theorem dH(ha:Pm K E X e te fe)(hr:uB K E X es tr fr)(hs:starEach (e::es) X.env=(false,eval e X.env)::starEach es X.env:=by rfl):uB K E X (e::es) (km te tr) (dI fe fr):=⟨jE ha.pe hr.pa hs,C8 ha.me hr.ma⟩
theorem kg{x1}(h:uB K E X es tr fr):Pm K E X (.Tuple es x1 pos) (Ar tr) (mB fr):=⟨Aj h.pa,FG h.ma⟩
theorem fV(h:uB K E X es tr fr):y0 K E X (.List es pos) (Gp tr) (lstM fr):=⟨GI h.pa,FB h.ma⟩
structure MC(K:W.Frag)(r:List V->Hp->VK->Prop)(o:List T->M T):Prop where
 ne:∀xs,M.NoE (o xs)
 ok:∀F H vs xs Q,eL F H->eI K F vs xs->(o xs).res (kV K F H Q) (λ_ _=>False)->r vs H Q
structure Jj(K:W.Frag)(r:List V->Hp->VK->Prop)(o:List T->M (List T)):Prop where
 ne:∀xs,M.NoE (o xs)
 ok:∀F H vs xs Q,eL F H->eI K F vs xs->(o xs).res (kF K F H Q) (λ_ _=>False)->r vs H Q
@[simp] noncomputable def h8(o:List T->M T)(fr:Pe->M (List T)):Pe->M T:=λρ=>(fr ρ).bind o
@[simp] noncomputable def vS(o:List T->M (List T))(fr:Pe->M (List T)):Pe->M (List T):=λρ=>(fr ρ).bind o
theorem EN{r:List V->Hp->VK->Prop}{o:List T->M T}(hc:MC K r o)(ha:MA K E tr fr):ME K E (Cv r tr) (h8 o fr):=λF H σ ρ Q s V q=>by refine ha.run s V q λxs vs F1 H1 g1 r1 q1=>?_;exact hc.ok F1 H1 vs xs Q g1.fh r1 ((q1.ne (hc.ne xs)).mono (λ_ z=>z.go g1) λ_ _ z=>z)
theorem HD{r:List V->Hp->VK->Prop}{o:List T->M (List T)}(hc:Jj K r o)(ha:MA K E tr fr):MF K E (Cv r tr) (vS o fr):=λF H σ ρ Q s V q=>by refine ha.run s V q λxs vs F1 H1 g1 r1 q1=>?_;exact hc.ok F1 H1 vs xs Q g1.fh r1 ((q1.ne (hc.ne xs)).mono (λ_ z=>z.go g1) λ_ _ z=>z)
section
variable {x:Str}{id T':String}{r:List V->Hp->VK->Prop}{m:List T->M T}{mf:List T->M (List T)}
theorem eF(hc:iW X (.builtin id) r)(hm':MC K r m)(hg:Gl X x)(hm:X.mg x=none)(hv:bootBuiltins x=some (.builtin id))(ha:uB K E X (e::es) tr fr)(hn:x≠ "__name__" :=by decide)(hdb:(x == ("__debug__" : Str))=false:=by decide)
  (he:starEach (e::es) X.env=(false,eval e X.env)::starEach es X.env:=by rfl) (hpl:(backTo pos (starEach es X.env)).any (·.1)=false:=by rfl):Pm K E X (.Call (.Name x p) (e::es) [] pos) (Cv r tr) (h8 m fr):=⟨vF hc hg hm hv ha.pa hn hdb he hpl,EN hm' ha.ma⟩
theorem gU(hc:iW X (.type T') r)(hm':MC K r m)(hg:Gl X x)(hm:X.mg x=none)(hv:bootBuiltins x=some (.type T'))(ha:uB K E X (e::es) tr fr)(hn:x≠ "__name__" :=by decide)(hdb:(x == ("__debug__" : Str))=false:=by decide)
  (he:starEach (e::es) X.env=(false,eval e X.env)::starEach es X.env:=by rfl) (hpl:(backTo pos (starEach es X.env)).any (·.1)=false:=by rfl):Pm K E X (.Call (.Name x p) (e::es) [] pos) (Cv r tr) (h8 m fr):=⟨sf hc hg hm hv ha.pa hn hdb he hpl,EN hm' ha.ma⟩
theorem i7(hc:iW X (.type T') r)(hm':Jj K r mf)(hg:Gl X x)(hm:X.mg x=none)(hv:bootBuiltins x=some (.type T'))(ha:uB K E X (e::es) tr fr)(hn:x≠ "__name__" :=by decide)(hdb:(x == ("__debug__" : Str))=false:=by decide)
  (he:starEach (e::es) X.env=(false,eval e X.env)::starEach es X.env:=by rfl) (hpl:(backTo pos (starEach es X.env)).any (·.1)=false:=by rfl):y0 K E X (.Call (.Name x p) (e::es) [] pos) (Cv r tr) (vS mf fr):=⟨sf hc hg hm hv ha.pa hn hdb he hpl,HD hm' ha.ma⟩
end
@[simp] noncomputable def gP:List T->M T
 | [.lst ts]=>.ok (.int ts.length)
 | [.tup ts]=>.ok (.int ts.length)
 | [.scr ns]=>.ok (.int ns.length)
 | [.str z]=>if z.length<=sizeLine then .ok (.int z.length) else .bad
 | _=>.bad
theorem DU(xs:List T):M.NoE (gP xs):=λC n=>by unfold gP;split<;>first | (intro z;cases z;done) | (split<;>first | (intro z;cases z;done) | (split<;>intro z<;>cases z))
theorem gJ:MC K (λxs H Q=>∃x n,xs=[x]/\E1 K x H n/\Q (.int n) H) gP:=⟨DU,λF H vs xs Q s r q=>by
 cases r with
 | nil=>exact q.elim
 | cons h t=>
  cases t with
  | cons _ _=>cases h<;>exact q.elim
  | nil=>
   cases h with
   | lst h r=>exact⟨_,_,rfl,.inl ⟨_,jq.of (s _ _ h),rfl⟩,by rw[r.length];exact kV.now q s (.int _)⟩
   | tup h r=>exact⟨_,_,rfl,.inr ⟨_,jR.of (s _ _ h),rfl⟩,by rw[r.length];exact kV.now q s (.int _)⟩
   | scr h=>exact⟨_,_,rfl,.inl ⟨_,s.seq h,rfl⟩,by rw[aw];exact kV.now q s (.int _)⟩
   | str z=>
    have q':(if z.length<=sizeLine then M.ok (T.int z.length) else M.bad).res (kV K F H Q) (λ_ _=>False):=q;by_cases hz:z.length<=sizeLine
    ·rw[aP hz] at q';exact⟨_,z.length,rfl,⟨hz,rfl⟩,kV.now q' s (.int _)⟩
    ·rw[aQ hz] at q';exact q'.elim
   | _=>exact q.elim⟩
@[simp] noncomputable def uJ:List T->M T
 | [.int i]=>.ok (.int (if i<0 then -i else i))
 | _=>.bad
theorem DW(xs:List T):M.NoE (uJ xs):=λC n=>by unfold uJ;split<;>first | (intro z;cases z;done) | (split<;>first | (intro z;cases z;done) | (split<;>intro z<;>cases z))
theorem uw:MC K (λxs H Q=>∃i,xs=[.int i]/\Q (.int (if i<0 then -i else i)) H) uJ:=⟨DW,λF H vs xs Q s r q=>by
 cases r with
 | nil=>exact q.elim
 | cons h t=>
  cases t with
  | cons _ _=>cases h<;>exact q.elim
  | nil=>
   cases h with
   | int i=>exact⟨i,rfl,kV.now q s (.int _)⟩
   | _=>exact q.elim⟩
@[simp] noncomputable def qt:List T->M T
 | [.int i]=>.ok (.int i)
 | [.bl k]=>.ok (.int (if k then 1 else 0))
 | _=>.bad
theorem Av(xs:List T):M.NoE (qt xs):=λC n=>by unfold qt;split<;>first | (intro z;cases z;done) | (split<;>first | (intro z;cases z;done) | (split<;>intro z<;>cases z))
theorem ya:MC K (λxs H Q=>(∃i,xs=[.int i]/\Q (.int i) H)\/∃k,xs=[.bl k]/\Q (.int (if k then 1 else 0)) H) qt:=⟨Av,λF H vs xs Q s r q=>by
 cases r with
 | nil=>exact q.elim
 | cons h t=>
  cases t with
  | cons _ _=>cases h<;>exact q.elim
  | nil=>
   cases h with
   | int i=>exact .inl ⟨i,rfl,kV.now q s (.int _)⟩
   | bl k=>exact .inr ⟨k,rfl,kV.now q s (.int _)⟩
   | _=>exact q.elim⟩
@[simp] noncomputable def iA:List T->M T
 | [.lst ts]=>.ok (.tup ts)
 | [.tup ts]=>.ok (.tup ts)
 | [.scr ns]=>.ok (.tup (ns.map T.int))
 | _=>.bad
theorem vX(xs:List T):M.NoE (iA xs):=λC n=>by unfold iA;split<;>first | (intro z;cases z;done) | (split<;>first | (intro z;cases z;done) | (split<;>intro z<;>cases z))
theorem iX:MC K (λxs H Q=>∃p ys,xs=[.ref p]/\((jq K H p ys/\∀l,H l=none->Q (.ref l) (gL H l (.tup ys)))\/(jR K H p ys/\Q (.ref p) H))) iA:=⟨vX,λF H vs xs Q s r q=>by
 cases r with
 | nil=>exact q.elim
 | cons h t=>
  cases t with
  | cons _ _=>cases h<;>exact q.elim
  | nil=>
   cases h with
   | lst h r=>exact⟨_,_,rfl,.inl ⟨jq.of (s _ _ h),λl hl=>(q:kV K F H Q _) (.ref l) _ _ (.new s hl) (.tup eC (r.mono (Gr.new s hl).ff))⟩⟩
   | scr h=>exact⟨_,_,rfl,.inl ⟨s.seq h,λl hl=>(q:kV K F H Q _) (.ref l) _ _ (.new s hl) (.tup eC (eI.of_ints _))⟩⟩
   | tup h r=>exact⟨_,_,rfl,.inr ⟨jR.of (s _ _ h),kV.now q s (.tup h r)⟩⟩
   | _=>exact q.elim⟩
@[simp] noncomputable def jh:List T->M (List T)
 | [.lst ts]=>.ok ts
 | [.tup ts]=>.ok ts
 | [.scr ns]=>.ok (ns.map T.int)
 | _=>.bad
theorem yQ(xs:List T):M.NoE (jh xs):=λC n=>by unfold jh;split<;>first | (intro z;cases z;done) | (split<;>first | (intro z;cases z;done) | (split<;>intro z<;>cases z))
theorem jQ:Jj K (λxs H Q=>∃p ys,xs=[.ref p]/\(jq K H p ys\/jR K H p ys)/\∀l,H l=none->Q (.ref l) (gL H l (.lst ys))) jh:=⟨yQ,λF H vs xs Q s r q=>by
 cases r with
 | nil=>exact q.elim
 | cons h t=>
  cases t with
  | cons _ _=>cases h<;>exact q.elim
  | nil=>
   cases h with
   | lst h r=>exact⟨_,_,rfl,.inl (jq.of (s _ _ h)),λl hl=>(q:kF K F H Q _) l _ F _ (.new' s hl) hl (eE s hl) eC r⟩
   | scr h=>exact⟨_,_,rfl,.inl (s.seq h),λl hl=>(q:kF K F H Q _) l _ F _ (.new' s hl) hl (eE s hl) eC (eI.of_ints _)⟩
   | tup h r=>exact⟨_,_,rfl,.inr (jR.of (s _ _ h)),λl hl=>(q:kF K F H Q _) l _ F _ (.new' s hl) hl (eE s hl) eC r⟩
   | _=>exact q.elim⟩
def iK:List T->Option (LI)
 | []=>some []
 | .int i::ts=>(iK ts).bind λr=>some (i::r)
 | _::_=>none
theorem mQ:∀{ts:List T} {ns:LI},iK ts=some ns->ts=ns.map T.int
 | [],_,e=>by cases e;rfl
 | t::ts,ns,e=>by
  cases t with
  | int i=>
   cases q:iK ts with
   | none=>simp[iK,q] at e
   | some r=>simp[iK,q] at e;subst e;rw[mQ q];rfl
  | _=>cases e
@[simp] theorem zw(ns:LI):iK (ns.map T.int)=some ns:=by
 induction ns with
 | nil=>rfl
 | cons n ns ih=>simp[iK,ih]
def mK:List T->Option (List Bool)
 | []=>some []
 | .bl i::ts=>(mK ts).bind λr=>some (i::r)
 | _::_=>none
theorem sM:∀{ts:List T} {ns:List Bool},mK ts=some ns->ts=ns.map T.bl
 | [],_,e=>by cases e;rfl
 | t::ts,ns,e=>by
  cases t with
  | bl i=>
   cases q:mK ts with
   | none=>simp[mK,q] at e
   | some r=>simp[mK,q] at e;subst e;rw[sM q];rfl
  | _=>cases e
@[simp] theorem Ha(ns:List Bool):mK (ns.map T.bl)=some ns:=by
 induction ns with
 | nil=>rfl
 | cons n ns ih=>simp[mK,ih]
@[simp] noncomputable def ur:List T->M T
 | [.lst ts]=>match iK ts with
  | some ns=>.ok (.int ns.sum)
  | none=>.bad
 | _=>.bad
theorem DZ(xs:List T):M.NoE (ur xs):=λC n=>by unfold ur;split<;>first | (intro z;cases z;done) | (split<;>first | (intro z;cases z;done) | (split<;>intro z<;>cases z))
theorem wJ:MC K (λxs H Q=>∃(p:Addr) (ns:LI),xs=[.ref p]/\jq K H p (ns.map V.int)/\Q (.int ns.sum) H) ur:=⟨DZ,λF H vs xs Q s r q=>by
 cases r with
 | nil=>exact q.elim
 | cons h t=>
  cases t with
  | cons _ _=>cases h<;>exact q.elim
  | nil=>
   cases h with
   | lst h r=>
    rename_i a xs ts;have q':(match iK ts with | some ns=>M.ok (T.int ns.sum) | none=>M.bad).res (kV K F H Q) (λ_ _=>False):=q;cases e:iK ts with
    | none=>rw[e] at q';exact q'.elim
    | some ns=>rw[e] at q';rw[mQ e] at r;have:=r.ints;subst this;exact⟨a,ns,rfl,jq.of (s _ _ h),kV.now q' s (.int _)⟩
   | _=>exact q.elim⟩
@[simp] noncomputable def uo:List T->M T
 | [.lst ts]=>match mK ts with
  | some ns=>.ok (.bl (ns.all id))
  | none=>.bad
 | _=>.bad
theorem Cr(xs:List T):M.NoE (uo xs):=λC n=>by unfold uo;split<;>first | (intro z;cases z;done) | (split<;>first | (intro z;cases z;done) | (split<;>intro z<;>cases z))
theorem qo:MC K (λxs H Q=>∃(p:Addr) (bs:List Bool),xs=[.ref p]/\jq K H p (bs.map V.bl)/\Q (.bl (bs.all id)) H) uo:=⟨Cr,λF H vs xs Q s r q=>by
 cases r with
 | nil=>exact q.elim
 | cons h t=>
  cases t with
  | cons _ _=>cases h<;>exact q.elim
  | nil=>
   cases h with
   | lst h r=>
    rename_i a xs ts;have q':(match mK ts with | some ns=>M.ok (T.bl (ns.all id)) | none=>M.bad).res (kV K F H Q) (λ_ _=>False):=q;cases e:mK ts with
    | none=>rw[e] at q';exact q'.elim
    | some ns=>rw[e] at q';rw[sM e] at r;have:=r.bls;subst this;exact⟨a,ns,rfl,jq.of (s _ _ h),kV.now q' s (.bl _)⟩
   | _=>exact q.elim⟩
@[simp] def G3:T->String
 | .non=> "NoneType"
 | .bl _=> "bool"
 | .int _=> "int"
 | .str _=> "str"
 | .tup _=> "tuple"
 | .lst _=> "list"
 | .scr _=> "script"
 | .obj _ _=> "object"
 | .emp=> "dict"
@[simp] noncomputable def AI(n:String)(x:T):M T:=match x with
 | .scr _=>.bad
 | .obj _ _=>.bad
 | x=>.ok (.bl (G3 x == n||(n == "int" && G3 x == "bool")))
theorem Hy{F H:Hp}{v:V}{x:T}(r:jc K F v x)(s:eL F H)(h1:∀ns,x≠.scr ns)(h2:∀C fs,x≠.obj C fs):lY K H v (.type (G3 x)):=by
 cases r with
 | non=>exact .non
 | bl b=>exact .bl b
 | int i=>exact .int i
 | str x=>exact .str x
 | tup h r=>exact .tup (s _ _ h)
 | lst h r=>exact .lst (s _ _ h)
 | scr h=>exact absurd rfl (h1 _)
 | obj h r=>exact absurd rfl (h2 _ _)
 | emp h=>exact .dK (s _ _ h)
@[simp] noncomputable def j4(n:String)(fe:Pe->M T):Pe->M T:=λρ=>(fe ρ).bind λx=>AI n x
theorem Fw{n:String}(hk:∀t∈["NoneType", "bool", "int", "str", "tuple", "list", "dict"],W.kitOne K (.type t) (.type n)=some (t == n||(n == "int" && t == "bool")))(ha:ME K E te fe) :
  ME K E (Cv (λxs H Q=>∃x T t b,xs=[x,.ty T]/\lY K H x t/\W.kitOne K t (.type T)=some b/\Q (.bl b) H) (km te (km (tC (.ty n)) nQ))) (j4 n fe):=λF H σ ρ Q s V q=>by
 refine ha.run s V q λx v F1 H1 g1 r1 q1=>?_;have key:∀b,AI n x=.ok (.bl b)->(∀ns,x≠.scr ns)->(∀C fs,x≠.obj C fs)->b=(G3 x == n||(n == "int" && G3 x == "bool"))->∃x_1 T t b,[v,L2.V.ty n]=[x_1,.ty T]/\lY K H1 x_1 t/\W.kitOne K t (.type T)=some b/\Q (.bl b) H1:=by
  intro b e h1 h2 hb;rw[e] at q1;refine⟨v,n,_,b,rfl,Hy r1 g1.fh h1 h2,?_,(q1:kV K F H Q _) _ F1 H1 g1 (.bl _)⟩;rw[hb];refine hk _ ?_;cases x with
  | scr ns=>exact absurd rfl (h1 ns)
  | obj C fs=>exact absurd rfl (h2 C fs)
  | _=>simp[G3]
 cases x with
 | scr ns=>exact q1.elim
 | obj C fs=>exact q1.elim
 | non=>exact key _ rfl (λ_ z=>nomatch z) (λ_ _ z=>nomatch z) rfl
 | bl _=>exact key _ rfl (λ_ z=>nomatch z) (λ_ _ z=>nomatch z) rfl
 | int _=>exact key _ rfl (λ_ z=>nomatch z) (λ_ _ z=>nomatch z) rfl
 | str _=>exact key _ rfl (λ_ z=>nomatch z) (λ_ _ z=>nomatch z) rfl
 | tup _=>exact key _ rfl (λ_ z=>nomatch z) (λ_ _ z=>nomatch z) rfl
 | lst _=>exact key _ rfl (λ_ z=>nomatch z) (λ_ _ z=>nomatch z) rfl
 | emp=>exact key _ rfl (λ_ z=>nomatch z) (λ_ _ z=>nomatch z) rfl
theorem C1(K:W.Frag):∀n∈["int", "bool", "str", "tuple", "list"],∀t∈["NoneType", "bool", "int", "str", "tuple", "list", "dict"],W.kitOne K (.type t) (.type n)=some (t == n||(n == "int" && t == "bool")):=by intro n hn t ht;simp only[aE,List.mem_nil_iff,or_false] at hn ht;rcases hn with rfl | rfl | rfl | rfl | rfl<;>rcases ht with rfl | rfl | rfl | rfl | rfl | rfl | rfl<;>rfl
theorem jy(n:String){x:Str}{p3:Pos}(hn':n∈["int", "bool", "str", "tuple", "list"])(hmi:X.mg "isinstance" = none)(hmx:X.mg x=none)(hvx:bootBuiltins x=some (.type n))(ha:Pm K E X e te fe)(hK:X.K=K:=by rfl)(hgi:Gl X "isinstance" :=by rfl)(hgx:Gl X x:=by rfl)
  (hxn:x≠ "__name__" :=by decide) (hxd:(x == ("__debug__" : Str))=false:=by decide)
  (he:starEach [e,.Name x p3] X.env=(false,eval e X.env)::starEach [.Name x p3] X.env:=by rfl) (he2:starEach [.Name x p3] X.env=(false,eval (.Name x p3) X.env)::starEach [] X.env:=by rfl) (hpl:(backTo pos (starEach [.Name x p3] X.env)).any (·.1)=false:=by rfl) :
  Pm K E X (.Call (.Name "isinstance" p) [e,.Name x p3] [] pos) (Cv (λxs H Q=>∃x T t b,xs=[x,.ty T]/\lY K H x t/\W.kitOne K t (.type T)=some b/\Q (.bl b) H) (km te (km (tC (.ty n)) nQ))) (j4 n fe):=by
 subst hK;exact⟨vF zV hgi hmi E9 (jE ha.pe (jE (Ce (v:=.ty n) hgx hmx hvx rfl hxn hxd) lU he2) he) (by decide) (by decide) he hpl,Fw (C1 X.K n hn') ha.me⟩
@[simp] noncomputable def fF:T->T->M T
 | .lst ts,.int i=>match lP ts i with
  | some t=>.ok t
  | none=>.bad
 | .tup ts,.int i=>match lP ts i with
  | some t=>.ok t
  | none=>.bad
 | .scr ns,.int i=>match lP ns i with
  | some t=>.ok (.int t)
  | none=>.bad
 | .str z,.int i=>if z.length<=sizeLine then (match lP z.cps.toList i with
  | some c=>.ok (.str ⟨#[c]⟩)
  | none=>.bad) else .bad
 | _,_=>.bad
theorem xT{F:Hp}{vs:List V}{ts:List T}{i:Int}{t:T}(r:eI K F vs ts)(h:lP ts i=some t):∃v,lP vs i=some v/\jc K F v t:=by
 unfold lP at h ⊢;rw[r.length];cases e:rm ts.length i with
 | none=>rw[e] at h;cases h
 | some j=>rw[e] at h;exact r.get h
theorem nX{α β:Type}(f:α->β)(l:List α)(i:Int):lP (l.map f) i=(lP l i).map f:=by
 unfold lP;rw[aw];cases rm l.length i with
 | none=>rfl
 | some j=>simp
theorem Gn(x y:T):M.NoE (fF x y):=λC n=>by unfold fF;split<;>first | (intro z;cases z;done) | (split<;>first | (intro z;cases z;done) | (split<;>intro z<;>cases z))
theorem Ik:MR K (Iz K) fF:=⟨Gn,λF H v w x y Q s ra rb q=>by
 cases rb with
 | int i=>
  cases ra with
  | lst h r=>
   rename_i a xs ts;have q':(match lP ts i with | some t=>M.ok t | none=>M.bad).res (kV K F H Q) (λ_ _=>False):=q;cases e:lP ts i with
   | none=>rw[e] at q';exact q'.elim
   | some t=>rw[e] at q';obtain⟨v,e',rv⟩:=xT r e;exact .inl ⟨a,xs,i,v,rfl,rfl,jq.of (s _ _ h),e',kV.now q' s rv⟩
  | tup h r=>
   rename_i a xs ts;have q':(match lP ts i with | some t=>M.ok t | none=>M.bad).res (kV K F H Q) (λ_ _=>False):=q;cases e:lP ts i with
   | none=>rw[e] at q';exact q'.elim
   | some t=>rw[e] at q';obtain⟨v,e',rv⟩:=xT r e;exact .inr (.inl ⟨a,xs,i,v,rfl,rfl,jR.of (s _ _ h),e',kV.now q' s rv⟩)
  | scr h=>
   rename_i a ns;have q':(match lP ns i with | some t=>M.ok (T.int t) | none=>M.bad).res (kV K F H Q) (λ_ _=>False):=q;cases e:lP ns i with
   | none=>rw[e] at q';exact q'.elim
   | some t=>rw[e] at q';exact .inl ⟨a,_,i,.int t,rfl,rfl,s.seq h,by rw[nX,e];rfl,kV.now q' s (.int _)⟩
  | str z=>
   have q':(if z.length<=sizeLine then (match lP z.cps.toList i with | some c=>M.ok (T.str ⟨#[c]⟩) | none=>M.bad) else M.bad).res (kV K F H Q) (λ_ _=>False):=q;by_cases hz:z.length<=sizeLine
   ·rw[aP hz] at q';cases e:lP z.cps.toList i with
    | none=>rw[e] at q';exact q'.elim
    | some c=>rw[e] at q';exact .inr (.inr ⟨z,i,c,rfl,rfl,hz,e,kV.now q' s (.str _)⟩)
   ·rw[aQ hz] at q';exact q'.elim
  | _=>exact q.elim
 | _=>cases ra<;>exact q.elim⟩
theorem eB(ha:Pm K E X a ta fa)(hb:Pm K E X b tb fb)(hs:tm b:=by intro _ _;rfl)(hK:X.K=K:=by rfl):Pm K E X (.Subscript a b pos) (rh (Iz K) ta tb) (ed fF fa fb):=⟨Eu (hK▸Ax) ha.pe hb.pe hs,yw Ik ha.me hb.me⟩
theorem mX:IC K E X none xU (λ_=>.ok none):=⟨Dd,λF H σ ρ Q s V q=>q F H (.refl s)⟩
@[simp] noncomputable def jd(fe:Pe->M T):Pe->M (Option Int):=λρ=>(fe ρ).bind λx=>match x with
 | .int i=>.ok (some i)
 | _=>.bad
theorem mU(h:Pm K E X e te fe):IC K E X (some e) (Et te) (jd fe):=⟨DP h.pe,λF H σ ρ Q s V q=>by
 refine h.me.run s V q λx v F1 H1 g1 r1 q1=>?_;cases r1 with
 | int i=>exact⟨i,rfl,q1 F1 H1 g1⟩
 | _=>exact q1.elim⟩
def ml{α:Type}(xs:List α)(lo hi:Option Int):List α:=(xs.drop (HT.sIx xs.length 0 lo)).take (HT.sIx xs.length xs.length hi - HT.sIx xs.length 0 lo)
theorem GZ(xs:List V)(lo hi:Option Int):vZ xs lo hi=ml xs lo hi:=rfl
theorem eI.cut{F:Hp}{vs:List V}{ts:List T}(r:eI K F vs ts)(lo hi:Option Int):eI K F (ml vs lo hi) (ml ts lo hi):=by unfold ml;rw[r.length];exact (r.drop _).take _
theorem Ap{α β:Type}(f:α->β)(l:List α)(lo hi:Option Int):ml (l.map f) lo hi=(ml l lo hi).map f:=by unfold ml;rw[aw,cE,List.map_drop]
section
variable {lo hi:Option Expr}{tl th:TO}{fl fh:Pe->M (Option Int)}
theorem MO.run{t:TO}{f:Pe->M (Option Int)}{F H:Hp}{σ:L2.St}{ρ:Pe}{Q:Option Int->Hp->Prop}{α:Type}{k:Option Int->M α}{P:α->Prop}(h:MO K E t f)(s:eL F H)(v:i9 K F σ ρ)(r:((f ρ).bind k).res P (kE E F H))
  (hk:∀x F' H',Gr F H F' H'->(k x).res P (kE E F' H')->Q x H'):t σ H Q:=
 h F H σ ρ Q s v ((M.res.unb r).mono (λx q F' H' g=>hk x F' H' g (q.mono (λ_ z=>z) λ_ _ z=>z.go g)) λ_ _ z=>z)
@[simp] noncomputable def lj(fe:Pe->M T)(fl fh:Pe->M (Option Int)):Pe->M T:=λρ=>(fe ρ).bind λx=>(fl ρ).bind λl=>(fh ρ).bind λh=>match x with
 | .tup ts=>.ok (.tup (ml ts l h))
 | .lst ts=>.ok (.lst (ml ts l h))
 | .scr ns=>.ok (.lst ((ml ns l h).map T.int))
 | _=>.bad
theorem j1(he:Pm K E X e te fe)(hl:IC K E X lo tl fl)(hh:IC K E X hi th fh)(hK:X.K=K:=by rfl):Pm K E X (.Subscript e (.Slice lo hi none p2) pos) (Jw (λx lo hi H Q=>He K x lo hi H Q\/(Hl K x lo hi H Q\/HE K x lo hi H Q)) te tl th) (lj fe fl fh):=by
 subst hK;refine⟨BX (Cg.or (FN.or DN)) he.pe hl.po hh.po,λF H σ ρ Q s V q=>?_⟩;refine he.me.run s V q λx v F1 H1 g1 r1 q1=>?_;refine hl.mo.run (P:=kV X.K F H Q) g1.fh (V.mono g1.ff) q1 λl F2 H2 g2 q2=>?_;refine hh.mo.run (P:=kV X.K F H Q) g2.fh ((V.mono g1.ff).mono g2.ff) q2 λu F3 H3 g3 q3=>?_;have g:=(g1.trans g2).trans g3;have r3:=r1.mono (g2.ff.trans g3.ff);cases r3 with
 | lst h r=>exact .inl ⟨_,_,rfl,jq.of (g3.fh _ _ h),λp hp=>(q3:kV X.K F H Q _) (.ref p) _ _ (g.trans (.new g3.fh hp)) (.lst eC ((r.cut l u).mono (Gr.new g3.fh hp).ff))⟩
 | scr h=>exact .inl ⟨_,_,rfl,g3.fh.seq h,λp hp=>(q3:kV X.K F H Q _) (.ref p) _ _ (g.trans (.new g3.fh hp)) (.lst eC (by rw[GZ,Ap];exact eI.of_ints _))⟩
 | tup h r=>
  rename_i a xs ts;have q':(M.ok (T.tup (ml ts l u))).res (kV X.K F H Q) (kE E F3 H3):=q3;by_cases hw:HT.sIx ts.length 0 l=0/\HT.sIx ts.length ts.length u=ts.length
  ·have ec:ml ts l u=ts:=by unfold ml;rw[hw.1,hw.2];simp
   rw[ec] at q';exact .inr (.inr ⟨_,_,rfl,jR.of (g3.fh _ _ h),by rw[r.length];exact hw,(q':kV X.K F H Q _) _ F3 H3 g (.tup h r)⟩)
  ·exact .inr (.inl ⟨_,_,rfl,jR.of (g3.fh _ _ h),by rw[r.length];exact hw,λp hp=>(q':kV X.K F H Q _) (.ref p) _ _ (g.trans (.new g3.fh hp)) (.tup eC ((r.cut l u).mono (Gr.new g3.fh hp).ff))⟩)
 | _=>exact q3.elim
end
section
variable {x:Str}{k:Nat}{Fn:List T->M T}{Ff:List T->M (List T)}
theorem dW{j:Nat}(h:iJ X.prog X.w X.K X.mg X.base x j (rj K Fn))(hr:gh k X.A)(ha:uB K E X (e::es) tr fr)(hk:j<=k:=by decide)(hg:Gl X x:=by rfl)
  (hdb:(x == ("__debug__" : Str))=false:=by decide) (he:starEach (e::es) X.env=(false,eval e X.env)::starEach es X.env:=by rfl) (hpl:(backTo pos (starEach es X.env)).any (·.1)=false:=by rfl) :
  Pm K E X (.Call (.Name x p) (e::es) [] pos) (qY (rj K Fn) [] E0 tr) (dX fr Fn):=⟨qJ (h.mono hk) hr ha.pa hg hdb he hpl,Bj ha.ma⟩
theorem ku{j:Nat}(h:iJ X.prog X.w X.K X.mg X.base x j (vT K Ff))(hr:gh k X.A)(ha:uB K E X (e::es) tr fr)(hk:j<=k:=by decide)(hg:Gl X x:=by rfl)
  (hdb:(x == ("__debug__" : Str))=false:=by decide) (he:starEach (e::es) X.env=(false,eval e X.env)::starEach es X.env:=by rfl) (hpl:(backTo pos (starEach es X.env)).any (·.1)=false:=by rfl) :
  y0 K E X (.Call (.Name x p) (e::es) [] pos) (qY (vT K Ff) [] E0 tr) (ip fr Ff):=⟨qJ (h.mono hk) hr ha.pa hg hdb he hpl,AF ha.ma⟩
end
def HH(K:W.Frag)(t:TE):TI:=λσ H R=>Bv K t σ H R\/GW K t σ H R
@[simp] noncomputable def fB(fa:Pe->M T):Pe->M (List T):=λρ=>(fa ρ).bind λx=>match x with
 | .lst ts=>.ok ts
 | .scr ns=>.ok (ns.map T.int)
 | .tup ts=>.ok ts
 | _=>.bad
theorem FA(ha:ME K E ta fa):MI K E (HH K ta) (fB fa):=λF H σ ρ R s V q=>by
 unfold fB at q;cases e:fa ρ with
 | bad=>rw[e] at q;exact q.elim
 | er C n=>rw[e] at q;exact .inl (t5 ha F H σ ρ R s V (by unfold Iq;rw[e];exact q))
 | ok x=>
  rw[e] at q;cases x with
  | lst ts=>exact .inl (t5 ha F H σ ρ R s V (by unfold Iq;rw[e];exact q))
  | scr ns=>exact .inl (t5 ha F H σ ρ R s V (by unfold Iq;rw[e];exact q))
  | tup ts=>exact .inr (E7 ha F H σ ρ R s V (by unfold Jy;rw[e];exact q))
  | _=>exact q.elim
theorem eP(ha:Pm K E X a ta fa)(hK:X.K=K:=by rfl):DX K E X tg a (HH K ta) (fB fa):=by
 subst hK;refine⟨λdN s σ H R I h=>?_,FA ha.me⟩;rcases h with h | h
 ·exact CO ha.pe dN s σ H R I h
 ·exact GV ha.pe dN s σ H R I h
def EH(K:W.Frag)(ta:TA):TI:=λσ H R=>∃b1 b2,F7 K b1 b2 ta σ H R
@[simp] noncomputable def seqT:T->M (List T)
 | .lst ts=>.ok ts
 | .scr ns=>.ok (ns.map T.int)
 | .tup ts=>.ok ts
 | _=>.bad
@[simp] noncomputable def mn(fa:Pe->M (List T)):Pe->M (List T):=λρ=>(fa ρ).bind λxs=>match xs with
 | [x,y]=>(seqT x).bind λts=>(seqT y).bind λus=>.ok (tF ts us)
 | _=>.bad
def nB:T->Bool
 | .tup _=>true
 | _=>false
theorem xi(x:T):seqT x=seqB (nB x) x:=by cases x<;>rfl
theorem Eo(ha:MA K E tr fr):MI K E (EH K tr) (mn fr):=λF H σ ρ R s V q=>by
 unfold mn at q;cases e:fr ρ with
 | bad=>rw[e] at q;exact q.elim
 | er C n=>rw[e] at q;exact⟨true,true,BY ha F H σ ρ R s V (by unfold GK;rw[e];exact q)⟩
 | ok xs=>
  rw[e] at q;match xs,e,q with
  | [],_,q=>exact q.elim
  | [_],_,q=>exact q.elim
  | [x,y],e,q=>refine⟨nB x,nB y,BY ha F H σ ρ R s V ?_⟩;unfold GK;rw[e];have q':((seqT x).bind λts=>(seqT y).bind λus=>M.ok (tF ts us)).res (kI K F H R) (kE E F H):=q;rw[xi x,xi y] at q';exact q'
  | _::_::_::_,_,q=>exact q.elim
theorem lh{elts:List Expr}{x1}{tpos:Pos}(hm:X.mg "zip" = none)(ha:uB K E X [a,b] tr fr)(hK:X.K=K:=by rfl)(hg:Gl X "zip" :=by rfl)(hs:starEach [a,b] X.env=[(false,eval a X.env),(false,eval b X.env)]:=by rfl)
  (hs2:starEach [b] X.env=[(false,eval b X.env)]:=by rfl):DX K E X (.Tuple elts x1 tpos) (.Call (.Name "zip" p) [a,b] [] pos) (EH K tr) (mn fr):=by
 subst hK;refine⟨λdN s σ H R I h=>?_,Eo ha.ma⟩;obtain⟨b1,b2,h⟩:=h;exact Fg hg hm ha.pa hs hs2 dN s σ H R I h
theorem iR(hm:X.mg "range" = none)(ha:uB K E X [a] tr fr)(hg:Gl X "range" :=by rfl)(hs:starEach [a] X.env=[(false,eval a X.env)]:=by rfl):rC K E X tg (.Call (.Name "range" p) [a] [] pos) (Bk tr) (iM fr):=⟨zK hg hm ha.pa hs,DT ha.ma⟩
theorem rC.pim{w:TI}{f:Pe->M (List T)}(h:rC K E X tg it w f):DX K E X tg it w f:=⟨h.pi,h.mi.mi⟩
section
variable {x:Str}{g:TG}{gs:vR}{m:T->Pe->Option Pe}{ms:List T->Pe->Option Pe}{mo:T->En->Option En}{mos:List T->En->Option En}{n:Nat}
theorem fG(i:Nat)(hN:X.N.Nodup)(hx:zN X.env.scope x:=by first | exact Or.inl rfl | exact Or.inr rfl)(hi:X.N[i]? = some x:=by rfl)(hf:X.fn x=true\/X.env.scope.names.lookup x=some .local:=by first | exact .inl rfl | exact .inr rfl | assumption):G2 K X (.Name x pos) (ir i) (gM i):=⟨ye hN hi hx hf,Dn⟩
theorem fQ(i:Nat)(hN:X.N.Nodup)(hx:zN X.env.scope x:=by first | exact Or.inl rfl | exact Or.inr rfl)(hi:X.N[i]? = some x:=by rfl)(hf:X.fn x=true\/X.env.scope.names.lookup x=some .local:=by first | exact .inl rfl | exact .inr rfl | assumption):Hg K X (.Name x pos) (ir i) (iV i):=⟨ye hN hi hx hf,Aq⟩
theorem j7:CK K X [] y9 mZ:=⟨xQ,Cq⟩
theorem kR:Ds K X [] y9 jt:=⟨xQ,Bd⟩
theorem fS(h1:G2 K X e g m)(h2:CK K X es gs ms)(hs:(assignEach (e::es) X.env).map (·.2)=assign e X.env::(assignEach es X.env).map (·.2):=by rfl):CK K X (e::es) (qq g gs) (gz m ms):=⟨vB h1.pg h2.pg hs,Bx h1.mg h2.mg⟩
theorem gj(h1:Hg K X e g mo)(h2:Ds K X es gs mos)(hs:(assignEach (e::es) X.env).map (·.2)=assign e X.env::(assignEach es X.env).map (·.2):=by rfl):Ds K X (e::es) (qq g gs) (fj mo mos):=⟨vB h1.pg h2.pg hs,yP h1.mg h2.mg⟩
theorem m8{k:Nat}(n:Nat)(hc:X.calm=true)(h:CK K X es gs ms)(hK:X.K=K:=by rfl)(hn:(assignEach es X.env).length=n:=by rfl)(hst:(assignEach es X.env).findIdx? (·.1)=none:=by rfl):G2 K X (.Tuple es k pos) (yJ K n gs) (nh n ms):=by subst hK;exact⟨Bf hc h.pg hn hst,FR h.mg⟩
theorem oH{k:Nat}(n:Nat)(hc:X.calm=true)(h:Ds K X es gs mos)(hK:X.K=K:=by rfl)(hn:(assignEach es X.env).length=n:=by rfl)(hst:(assignEach es X.env).findIdx? (·.1)=none:=by rfl):Hg K X (.Tuple es k pos) (yJ K n gs) (jr n mos):=by subst hK;exact⟨Bf hc h.pg hn hst,Dt h.mg⟩
end
section
variable {elt iter:Expr}{ifs:List Expr}{scope:Scope}{N:List Str}{ix:List (Option Nat)}{wi:TI}{g:TG}{tt:TT}{fi:Pe->M (List T)}{m:T->Pe->Option Pe}{ft:Pe->M Bool}
theorem eR:zY K E X [] FM (λ_=>.ok true):=⟨Dr,Gj⟩
theorem kc{t:TT}{f:Pe->M Bool}(h:yD K E X c t f):zY K E X [c] t f:=⟨DY h.pt,h.mt⟩
@[simp] noncomputable def gS(ix:List (Option Nat))(fi:Pe->M (List T))(m:T->Pe->Option Pe)(ft:Pe->M Bool)(fe:Pe->M T):Pe->M (List T):=λρ=>(fi ρ).bind λits=>(if its.length<sizeLine then lL (mN m ft fe (jU ix ρ)) its else .bad).noEr
theorem HQ(hc:X.calm=true)(hi:DX K E X tg iter wi fi)(L:vf X scope N ix)(hgk:lF ix g)
  (blk:∀C s₃ H ex pn,G2 K (jW X N scope C s₃ H ex pn) tg g m/\zY K B4 (jW X N scope C s₃ H ex pn) ifs tt ft/\Pm K B4 (jW X N scope C s₃ H ex pn) elt te fe)
  (hs:∀x,foldedSetIterable iter X.env x=pure x:=by intro _;rfl):y0 K E X (.ListComp elt [⟨tg,iter,ifs,0⟩] scope pos) (BH ix wi g tt te) (gS ix fi m ft fe):=by
 obtain⟨b1,b2,b3⟩:=blk 0 X.s₀ X.H₀ [] [];exact⟨Ho hc hi.pi L hgk (λC s₃ H ex pn=>⟨(blk C s₃ H ex pn).1.pg,(blk C s₃ H ex pn).2.1.pf,(blk C s₃ H ex pn).2.2.pe⟩) hs,EC hi.mi b1.mg b2.mt b3.me⟩
end
end
end L3
namespace L3
open PySem L2 PySem.Spec PyProof.Rows
section
variable {K:W.Frag}{E:XK}{X:Cx}{a b c e o tg it:Expr}{es:List Expr}{ta tb tc te to:TE}{fa fb fc fe fo:Pe->M T}{tr:TA}{fr:Pe->M (List T)}{pos pos' p p2 apos:Pos}{st:Stmt}{kG:List Stmt}{t u:TS}{g g':En->O}{ff:Pe->M (List T)}{x:Str}
theorem ei:mO K E X [] zX eZ:=⟨Cj,DG⟩
theorem dP(h:rg K E X st t g):mO K E X [st] t g:=⟨xV h.ps,h.ms⟩
theorem dO(h:rg K E X st t g)(h':mO K E X kG u g'):mO K E X (st::kG) (DO t u) (eh g g'):=⟨vh h.ps h'.ps,GQ h.ms h'.ms⟩
theorem mx:rg K E X st xq (λ_=>.bad):=⟨BN,BE⟩
theorem dZ(h:Pm K E X e te fe):rg K E X (.Return (some e) pos) (t6 te) (eY fe):=⟨tM h.pe,F9 h.me⟩
theorem nr(h:y0 K E X e te ff):rg K E X (.Return (some e) pos) (t6 te) (oY ff):=⟨tM h.pe,Ei h.mf⟩
theorem pX(i:Nat){x:Str}(h:PE X (.Name x p) (kW i)):rg K E X (.Return (some (.Name x p)) pos) (t6 (kW i)) (lA i):=⟨tM h,yX⟩
theorem eQ{tc:TT}{fc:Pe->M Bool}{A B:List Stmt}(hc:yD K E X c tc fc)(h:mO K E X A t g)(h':mO K E X B u g'):rg K E X (.If c A B pos) (Ga tc t u) (jF fc g g'):=⟨Ih hc.pt h.ps h'.ps,Hm hc.mt h.ms h'.ms⟩
theorem xf{tc:TT}{fc:Pe->M Bool}{A:List Stmt}(fuel:En->Nat)(hp:PassesOwn (model X.prog X.w) X.A X.env X.xe)(hc:yD K E X c tc fc)(h:mO K E X A t g):rg K E X (.While c A [] pos) (xa tc t) (λρ=>jz fc g (fuel ρ) ρ):=⟨AD hp hc.pt h.ps,Bb fuel hc.mt h.ms⟩
section
variable {w:TI}{fi:Pe->M (List T)}{gt:TG}{m:T->En->Option En}{A:List Stmt}
theorem h7(hp:PassesOwn (model X.prog X.w) X.A X.env X.xe)(hc:X.calm=true)(hi:DX K E X tg it w fi)(hg:Hg K X tg gt m)(hb:mO K E X A t g)(hs:∀x,foldedSetIterable it X.env x=pure x:=by intro _;rfl):rg K E X (.For tg it A [] pos) (z9 w gt t) (lO fi m g):=⟨B2 hp hc hi.pi hg.pg hb.ps hs,FJ hi.mi hg.mg hb.ms⟩
theorem kZ(hp:PassesOwn (model X.prog X.w) X.A X.env X.xe)(hc:X.calm=true)(hi:rC K E X tg it w fi)(hg:Hg K X tg gt m)(hb:mO K E X A t g)(hs:∀x,foldedSetIterable it X.env x=pure x:=by intro _;rfl):rg K E X (.For tg it A [] pos) (z9 w gt t) (lS fi m g):=⟨B2 hp hc hi.pi hg.pg hb.ps hs,Cm hi.mi hg.mg hb.ms⟩
end
theorem FX{gm:En->O}{elt iter:Expr}{ifs:List Expr}{scope:Scope}{N:List Str}{ix:List (Option Nat)}{wi:TI}{gt:TG}{tt:TT}{fi:Pe->M (List T)}{m:T->Pe->Option Pe}{ft:Pe->M Bool}{spos py:Pos}(i:Nat)(hN:X.N.Nodup)(hx:zN X.env.scope x)
  (hc:X.calm=true) (hi:DX K E X tg iter wi fi) (L:vf X scope N ix) (hgk:lF ix gt)
  (blk:∀C s₃ H ex pn,G2 K (jW X N scope C s₃ H ex pn) tg gt m/\zY K B4 (jW X N scope C s₃ H ex pn) ifs tt ft/\Pm K B4 (jW X N scope C s₃ H ex pn) elt te fe)
  (hm:MF K E (BH ix wi gt tt te) (gS ix fi m ft fe)->MS K E (mj (BH ix wi gt tt te) (ir i)) gm)
  (hy:X.N[i]? = some x:=by rfl) (hf:X.fn x=true\/X.env.scope.names.lookup x=some .local:=by first | exact .inl rfl | exact .inr rfl)
  (hsw:swapsWith (.ListComp elt [⟨tg,iter,ifs,0⟩] scope pos) (some (.Name x py)) spos.line X.env=pure true:=by rfl)
  (hs:∀x,foldedSetIterable iter X.env x=pure x:=by intro _;rfl):rg K E X (.Assign [.Name x py] (.ListComp elt [⟨tg,iter,ifs,0⟩] scope pos) spos) (mj (BH ix wi gt tt te) (ir i)) gm:=by
 obtain⟨b1,b2,b3⟩:=blk 0 X.s₀ X.H₀ [] [];exact⟨Al hN hy hx hc hi.pi L hgk (λC s₃ H ex pn=>⟨(blk C s₃ H ex pn).1.pg,(blk C s₃ H ex pn).2.1.pf,(blk C s₃ H ex pn).2.2.pe⟩) hf hsw hs,hm (EC hi.mi b1.mg b2.mt b3.me)⟩
theorem d8(i:Nat)(hN:X.N.Nodup)(h:Pm K E X e te fe)(hx:zN X.env.scope x:=by first | exact Or.inl rfl | exact Or.inr rfl)(hi:X.N[i]? = some x:=by rfl)(hs:swapsWith e (some (.Name x pos')) pos.line X.env=pure false:=by rfl)(hf:X.fn x=true\/X.env.scope.names.lookup x=some .local:=by first | exact .inl rfl | exact .inr rfl | assumption) :
  rg K E X (.Assign [.Name x pos'] e pos) (mj te (ir i)) (setO i (gN fe)):=⟨w6 hN hi hx h.pe hs hf,xX h.me⟩
theorem uP(i:Nat)(hN:X.N.Nodup)(h:Pm K E X e te fe)(hx:zN X.env.scope x:=by first | exact Or.inl rfl | exact Or.inr rfl)(hi:X.N[i]? = some x:=by rfl)(hs:swapsWith e (some (.Name x pos')) pos.line X.env=pure false:=by rfl)(hf:X.fn x=true\/X.env.scope.names.lookup x=some .local:=by first | exact .inl rfl | exact .inr rfl | assumption) :
  rg K E X (.Assign [.Name x pos'] e pos) (mj te (ir i)) (setO i (kJ fe)):=⟨w6 hN hi hx h.pe hs hf,Ct h.me⟩
theorem iO(i:Nat)(hN:X.N.Nodup)(h:y0 K E X e te ff)(hx:zN X.env.scope x:=by first | exact Or.inl rfl | exact Or.inr rfl)(hi:X.N[i]? = some x:=by rfl)(hs:swapsWith e (some (.Name x pos')) pos.line X.env=pure false:=by rfl)(hf:X.fn x=true\/X.env.scope.names.lookup x=some .local:=by first | exact .inl rfl | exact .inr rfl | assumption) :
  rg K E X (.Assign [.Name x pos'] e pos) (mj te (ir i)) (jV i (lb ff)):=⟨w6 hN hi hx h.pe hs hf,xP h.mf⟩
theorem jP{i:Nat}(h:MF K E te ff):MS K E (mj te (ir i)) (setO i (gN λρ=>(ff ρ).bind λts=>.ok (.lst ts))):=xX h.me
@[simp] noncomputable def Ej(i j:Nat)(fr:Pe->M (List T)):En->O:=λρ=>.of (fr (lK ρ)) λxs=>match xs with
 | [x,y]=>.nx ((ρ.set i (some (.p x))).set j (some (.p y)))
 | _=>.bad
theorem Ge{i j:Nat}(h:MA K E tr fr):MS K E (EV i j tr) (Ej i j fr):=λF0 H0 F H σ ρ D r q=>by
 refine h F H σ (lK ρ) _ r.gr.fh r.vars ((O.res_of q).mono (λxs z vs F' H' gr rs=>?_) λC n z=>z.go r.gr);have r':=r.grow gr;cases rs with
 | nil=>exact z.elim
 | cons h1 rs=>
  cases rs with
  | nil=>exact z.elim
  | cons h2 rs=>
   cases rs with
   | nil=>exact⟨_,_,rfl,(z:kN K F0 H0 F D.nx _) F' H' _ gr.ff ((r'.setP h1).setP h2)⟩
   | cons h3 rs=>exact z.elim
theorem C2{i j:Nat}{x y:Str}{px py pt:Pos}{kt k2 pt2}(hc:X.calm=true)(hN:X.N.Nodup)(hi:X.N[i]? = some x)(hj:X.N[j]? = some y)(hij:i≠j)
  (hx:X.env.scope.names.lookup x=some .local) (hy:X.env.scope.names.lookup y=some .local) (ha:uB K E X [a,b] tr fr)
  (hw:swappedStores [.Tuple [.Name x px,.Name y py] kt pt] (.Tuple [a,b] k2 pt2) X.env=pure (some [x,y]))
  (hs:swapsWithSole [.Tuple [.Name x px,.Name y py] kt pt] (.Tuple [a,b] k2 pt2) pos.line X.env=pure false:=by rfl) :
  rg K E X (.Assign [.Tuple [.Name x px,.Name y py] kt pt] (.Tuple [a,b] k2 pt2) pos) (EV i j tr) (Ej i j fr):=⟨Gk hc hN hi hj hij hx hy ha.pa hw hs,Ge ha.ma⟩
theorem uy{l:Addr}{xs:List V}{H:Hp}(h:H l=some (.lst xs)):Gz K "list" (.ref l) H:=.inl ⟨rfl,_,jq.of h⟩
theorem qQ(i:Nat){x:Str}(hv:PE X (.Name x p) (kW i))(ha:Pm K E X e te fe)(hs:starEach [e] X.env=(false,eval e X.env)::starEach [] X.env:=by rfl)(hK:X.K=K:=by rfl)
  (hbase:attributeBase (.Name x p) "append" X.env (eval (.Name x p) X.env)=eval (.Name x p) X.env:=by rfl)
  (hfew:((backTo pos (starEach [e] X.env)).all (λx=>!x.1)&&(backToKw pos (keywordEach [] X.env)).all (λx=>x.1.isSome)&&decide (([e]:List Expr).length+([]:List Keyword).length+(if ([]:List Keyword).isEmpty then 0 else 1)<30))=true:=by rfl)
  (hline:(apos.endLine == pos.line)=true:=by rfl) (hplain:(backTo pos (starEach [] X.env)).any (·.1)=false:=by rfl) (hsw:swapsWith (.Call (.Attribute (.Name x p) "append" apos) [e] [] pos) none pos'.line X.env=pure false:=by rfl) :
  rg K E X (.Expr (.Call (.Attribute (.Name x p) "append" apos) [e] [] pos) pos') (n5 (Bc K i te)) (mz i (gN fe)):=by
 subst hK;exact⟨pM (uC PySem.F.plainAttrs_list PySem.F.slot_list_append PySem.F.type_list_append mv hv (jE ha.pe lU hs) hbase hfew hline hs hplain) hsw,C6 (λl xs H h=>uy h) ha.me⟩
theorem Ai(i:Nat){x:Str}(hv:PE X (.Name x p) (kW i))(ha:Pm K E X e te fe)(hs:starEach [e] X.env=(false,eval e X.env)::starEach [] X.env:=by rfl)(hK:X.K=K:=by rfl)
  (hbase:attributeBase (.Name x p) "append" X.env (eval (.Name x p) X.env)=eval (.Name x p) X.env:=by rfl)
  (hfew:((backTo pos (starEach [e] X.env)).all (λx=>!x.1)&&(backToKw pos (keywordEach [] X.env)).all (λx=>x.1.isSome)&&decide (([e]:List Expr).length+([]:List Keyword).length+(if ([]:List Keyword).isEmpty then 0 else 1)<30))=true:=by rfl)
  (hline:(apos.endLine == pos.line)=true:=by rfl) (hplain:(backTo pos (starEach [] X.env)).any (·.1)=false:=by rfl) (hsw:swapsWith (.Call (.Attribute (.Name x p) "append" apos) [e] [] pos) none pos'.line X.env=pure false:=by rfl) :
  rg K E X (.Expr (.Call (.Attribute (.Name x p) "append" apos) [e] [] pos) pos') (n5 (Bc K i te)) (mz i (kJ fe)):=by
 subst hK;exact⟨pM (uC PySem.F.plainAttrs_list PySem.F.slot_list_append PySem.F.type_list_append mv hv (jE ha.pe lU hs) hbase hfew hline hs hplain) hsw,Dk (λl xs H h=>uy h) ha.me⟩
theorem nY(i:Nat){x:Str}(hv:PE X (.Name x p) (kW i))(hk:Pm K E X b tb fb)(h:Pm K E X e te fe)
  (ha:∀v,assign (.Subscript (.Name x p) b p2) X.env v=(do
   let ov <-holding [v] (eval (.Name x p) X.env)
   let iv <-holding [v,ov] (eval b X.env)
   standAt p2
   holding [v,ov,iv] (setItem ov iv v)
   release [v,ov,iv] []):=by intro _;rfl)
  (hs:swapsWithSole [.Subscript (.Name x p) b p2] e pos.line X.env=pure false:=by rfl) (hw:swappedStores [.Subscript (.Name x p) b p2] e X.env=pure none:=by rfl)
  (h1:(assignEach [.Subscript (.Name x p) b p2] X.env).map (·.2)=[assign (.Subscript (.Name x p) b p2) X.env]:=by rfl) :
  rg K E X (.Assign [.Subscript (.Name x p) b p2] e pos) (mj te (Gf (kW i) tb ym)) (pE i (kJ fb) (kJ fe)):=⟨Fe h.pe (GM hv hk.pe Am ha) hs hw h1,Gd h.me hk.me⟩
end
section
variable {P:Program}{w:World}{K:W.Frag}{mg:Str->Option Value}{base:Heap}{x:Str}{st:Stmt}{N ps:List Str}{k:Nat}{g:En->O}
theorem Jk(D:ee K mg x st)(S:gd N ps (dY st))
  (hb:∀(kV doc pm:Value) (an:Option Addr) (cdv ct:Value) (us:List Value),us.length=ps.length->bindArgs (W.fnOf x x (gA st) (fu st) (dY st) .none kV doc pm an cdv ct) ⟨us,[]⟩=pure (ps.zip us))
  (hT:∀(f:Addr) (cdv:Value) (A:Around) (outer:List Env) (s:Shared) (H:Hp) (E:XK),gh k (A.deeper (envOfC x (dY st) s.heap.objs.size f cdv))->∃t,mO K E (lV qX P w K mg base N x (dY st) f cdv A outer s H E).nox (fu st) t g) :
  iJ P w K mg base x (k+1) (rj K (jv ps.length N.length g)):=
 uj D S hb (λvs H Q E h=>xh h) λf cdv A outer s H vs Q E hr h=>let ⟨t,hp⟩:=hT f cdv A outer s H E hr;⟨t,hp.ps,sU hp.ms h⟩
theorem Jc(D:ee K mg x st)(S:gd N ps (dY st))
  (hb:∀(kV doc pm:Value) (an:Option Addr) (cdv ct:Value) (us:List Value),us.length=ps.length->bindArgs (W.fnOf x x (gA st) (fu st) (dY st) .none kV doc pm an cdv ct) ⟨us,[]⟩=pure (ps.zip us))
  (hT:∀(f:Addr) (cdv:Value) (A:Around) (outer:List Env) (s:Shared) (H:Hp) (E:XK),gh k (A.deeper (envOfC x (dY st) s.heap.objs.size f cdv))->∃t,mO K E (lV qX P w K mg base N x (dY st) f cdv A outer s H E).nox (fu st) t g) :
  iJ P w K mg base x (k+1) (vT K (uA ps.length N.length g)):=
 uj D S hb (λvs H Q E h=>yz h) λf cdv A outer s H vs Q E hr h=>let ⟨t,hp⟩:=hT f cdv A outer s H E hr;⟨t,hp.ps,uO hp.ms h⟩
end
end L3
namespace L3
open PySem L2 PySem.Spec PyProof.Rows
section
variable {K:W.Frag}{E:XK}{X:Cx}{a b c e o tg it:Expr}{es:List Expr}{ta tb tc te to:TE}{fa fb fc fe fo:Pe->M T}{tr:TA}{fr:Pe->M (List T)}{pos p p2 apos:Pos}
@[simp] noncomputable def fK(f:Pe->M (List T)):Pe->M T:=λρ=>(f ρ).bind λts=>.ok (.lst ts)
theorem eX(hK:X.K=K:=by rfl):iW X (.builtin "len") (λxs H Q=>∃x n,xs=[x]/\E1 K x H n/\Q (.int n) H):=hK▸BP
theorem oh(hc:X.calm=true)(hK:X.K=K:=by rfl):iW X (.builtin "sum") (λxs H Q=>∃(p:Addr) (ns:LI),xs=[.ref p]/\jq K H p (ns.map V.int)/\Q (.int ns.sum) H):=hK▸BG hc
theorem kK(hc:X.calm=true)(hK:X.K=K:=by rfl):iW X (.builtin "all") (λxs H Q=>∃(p:Addr) (bs:List Bool),xs=[.ref p]/\jq K H p (bs.map V.bl)/\Q (.bl (bs.all id)) H):=hK▸BA hc
theorem sy(hc:X.calm=true)(hK:X.K=K:=by rfl):iW X (.builtin "any") (λxs H Q=>∃(p:Addr) (vs:List V) (bs:List Bool),xs=[.ref p]/\(jq K H p vs\/jR K H p vs)/\jN vs=some bs/\Q (.bl (bs.any id)) H):=hK▸yI hc
theorem gO(hK:X.K=K:=by rfl):iW X (.type "tuple") (λxs H Q=>∃p ys,xs=[.ref p]/\((jq K H p ys/\∀l,H l=none->Q (.ref l) (gL H l (.tup ys)))\/(jR K H p ys/\Q (.ref p) H))):=hK▸rK
theorem ie(hK:X.K=K:=by rfl):iW X (.type "list") (λxs H Q=>∃p ys,xs=[.ref p]/\(jq K H p ys\/jR K H p ys)/\∀l,H l=none->Q (.ref l) (gL H l (.lst ys))):=hK▸tU
theorem zm(hK:X.K=K:=by rfl):mM X (compareOp .NotIn) (I0 K true):=hK▸um
def Fd:T->Option Bool
 | .bl b=>some b
 | .int i=>some (i != 0)
 | _=>none
def oV:List T->Option (List Bool)
 | []=>some []
 | v::vs=>(Fd v).bind λb=>(oV vs).bind λr=>some (b::r)
theorem tu{F:Hp}:∀{vs:List V} {ts:List T},eI K F vs ts->jN vs=oV ts
 | _,_,.nil=>rfl
 | v::vs,t::ts,.cons h r=>by
  have e:vH v=Fd t:=by cases h<;>rfl
  rw[jN,oV,tu r,e]
@[simp] theorem G8(ns:List Bool):oV (ns.map T.bl)=some ns:=by
 induction ns with
 | nil=>rfl
 | cons n ns ih=>simp[oV,Fd,ih]
@[simp] noncomputable def oZ(ts:List T):M T:=match oV ts with
 | some bs=>.ok (.bl (bs.any id))
 | none=>.bad
@[simp] noncomputable def wC:List T->M T
 | [.lst ts]=>oZ ts
 | [.tup ts]=>oZ ts
 | _=>.bad
theorem A5(ts:List T):M.NoE (oZ ts):=λC n=>by unfold oZ;split<;>intro z<;>cases z
theorem DF(xs:List T):M.NoE (wC xs):=λC n=>by unfold wC;split<;>first | exact A5 _ C n | (intro z;cases z)
theorem Bz:MC K (λxs H Q=>∃(p:Addr) (vs:List V) (bs:List Bool),xs=[.ref p]/\(jq K H p vs\/jR K H p vs)/\jN vs=some bs/\Q (.bl (bs.any id)) H) wC:=⟨DF,λF H vs xs Q s r q=>by
 cases r with
 | nil=>exact q.elim
 | cons h t=>
  cases t with
  | cons _ _=>cases h<;>exact q.elim
  | nil=>
   cases h with
   | lst h r=>
    rename_i a xs ts;have q':(oZ ts).res (kV K F H Q) (λ_ _=>False):=q;unfold oZ at q';cases e:oV ts with
    | none=>rw[e] at q';exact q'.elim
    | some bs=>rw[e] at q';exact⟨a,xs,bs,rfl,.inl (jq.of (s _ _ h)),by rw[tu r];exact e,kV.now q' s (.bl _)⟩
   | tup h r=>
    rename_i a xs ts;have q':(oZ ts).res (kV K F H Q) (λ_ _=>False):=q;unfold oZ at q';cases e:oV ts with
    | none=>rw[e] at q';exact q'.elim
    | some bs=>rw[e] at q';exact⟨a,xs,bs,rfl,.inr (jR.of (s _ _ h)),by rw[tu r];exact e,kV.now q' s (.bl _)⟩
   | _=>exact q.elim⟩
def nJ(xs:List T):List T:=(xs.zipIdx).map λp=>T.tup [.int (p.2:Int),p.1]
def Bw(K:W.Frag)(ta:TA):TI:=λσ H R=>∃b,AG K b ta σ H R
@[simp] noncomputable def yB(fa:Pe->M (List T)):Pe->M (List T):=λρ=>(fa ρ).bind λxs=>match xs with
 | [x]=>(seqT x).bind λts=>.ok (nJ ts)
 | _=>.bad
theorem CJ{F:Hp}{b:Bool}{l:Addr}{xs:List V}{ts:List T}(h1:∀H,eL F H->rk K H b l xs)(r1:eI K F xs ts):sV K (IS K b l) (nJ ts) F where
 go:=λi H s hi=>by
  have hi':i<ts.length:=by simpa[nJ] using hi
  have e1:xs[i]? = some (xs[i]'(by rw[r1.length];exact hi')):=ag _;exact⟨xs,_,h1 H s,e1⟩
 stop:=λH s=>⟨xs,h1 H s,by simp[nJ,r1.length]⟩
 yld:=λi t F' H x H' s1 s2 e y=>by
  obtain⟨p,x1,rfl,hp,rfl,e1⟩:=y;obtain⟨t1,f1,q1⟩:=r1.at_ (e1 xs (h1 H (s1.trans s2)));have:t=.tup [.int (i:Int),t1]:=by unfold nJ at e;rw[av,List.getElem?_zipIdx,f1] at e;simp at e;exact e.symm
  rw[this];have g:=Gr.new (o:=.tup [.int i,x1]) s2 hp;exact⟨_,g,.tup eC (.cons (.int _) (.cons ((q1.mono s1).mono g.ff) .nil))⟩
noncomputable def wD(b:Bool)(fa:Pe->M (List T)):Pe->M (List T):=λρ=>(fa ρ).bind λxs=>match xs with
 | [x]=>(seqB b x).bind λts=>.ok (nJ ts)
 | _=>.bad
theorem vO{b:Bool}(ha:MA K E tr fr):MI K E (AG K b tr) (wD b fr):=λF H σ ρ R s V q=>by
 refine ha.run s V q λxs vs F1 H1 g1 r1 q1=>?_;split at q1
 ·rename_i x;cases r1 with
  | cons a c=>
   cases c;cases e1:seqB b x with
   | bad=>rw[e1] at q1;exact q1.elim
   | er C n=>exact absurd e1 ui
   | ok ts=>rw[e1] at q1;obtain⟨a1,x1,rfl,s1,t1⟩:=ue a e1;exact⟨a1,rfl,⟨x1,s1 _ g1.fh⟩,(q1:kI K F H R _) _ F1 H1 g1 (CJ s1 t1)⟩
 ·exact q1.elim
theorem CD(ha:MA K E tr fr):MI K E (Bw K tr) (yB fr):=λF H σ ρ R s V q=>by
 unfold yB at q;cases e:fr ρ with
 | bad=>rw[e] at q;exact q.elim
 | er C n=>rw[e] at q;exact⟨true,vO ha F H σ ρ R s V (by unfold wD;rw[e];exact q)⟩
 | ok xs=>
  rw[e] at q;match xs,e,q with
  | [],_,q=>exact q.elim
  | [x],e,q=>refine⟨nB x,vO ha F H σ ρ R s V ?_⟩;unfold wD;rw[e];have q':((seqT x).bind λts=>M.ok (nJ ts)).res (kI K F H R) (kE E F H):=q;rw[xi x] at q';exact q'
  | _::_::_,_,q=>exact q.elim
theorem Ee{elts:List Expr}{x1}{tpos:Pos}(hm:X.mg "enumerate" = none)(ha:uB K E X [a] tr fr)(hK:X.K=K:=by rfl)(hg:Gl X "enumerate" :=by rfl)(hs:starEach [a] X.env=[(false,eval a X.env)]:=by rfl) :
  DX K E X (.Tuple elts x1 tpos) (.Call (.Name "enumerate" p) [a] [] pos) (Bw K tr) (yB fr):=by
 subst hK;refine⟨λdN s σ H R I h=>?_,CD ha.ma⟩;obtain⟨b,h⟩:=h;exact BM hg hm ha.pa hs dN s σ H R I h
end
structure Bs(mg:Str->Option Value):Prop where
 abs:mg "abs" = none
 isinstance:mg "isinstance" = none
 int:mg "int" = none
 bool:mg "bool" = none
 len:mg "len" = none
 range:mg "range" = none
 tuple:mg "tuple" = none
 list:mg "list" = none
 str:mg "str" = none
 all:mg "all" = none
 any:mg "any" = none
 sum:mg "sum" = none
 zip:mg "zip" = none
 max:mg "max" = none
 min:mg "min" = none
 enumerate:mg "enumerate" = none
 reversed:mg "reversed" = none
 set:mg "set" = none
 dict:mg "dict" = none
 sorted:mg "sorted" = none
theorem iQ:bootBuiltins "list" = some (.type "list"):=by decide +kernel
end L3
namespace L3
open PySem L2
section
variable {α:Type}
theorem sP{k:T->M (Option T)}(enc f:α->T):∀(l:List α),(∀a∈l,k (enc a)=.ok (some (f a)))->lL k (l.map enc)=.ok (l.map f)
 | [],_=>rfl
 | a::l,h=>by rw[bD,lL,h a (by simp),M.bind_ok,sP enc f l λb hb=>h b (by simp[hb])];rfl
theorem nW{k:T->M (Option T)}(enc f:α->T)(p:α->Bool):∀(l:List α),(∀a∈l,k (enc a)=.ok (if p a then some (f a) else none))->lL k (l.map enc)=.ok ((l.filter p).map f)
 | [],_=>rfl
 | a::l,h=>by
  rw[bD,lL,h a (by simp),M.bind_ok,nW enc f p l λb hb=>h b (by simp[hb])];by_cases hp:p a=true
  ·simp[hp]
  ·simp[hp]
theorem gG{m:T->En->Option En}{g:En->O}(enc:α->T)(P:Nat->En->Prop):∀(l:List α) (k:Nat) (ρ:En),P k ρ->
  (∀i a ρ,l[i]? = some a->P (k+i) ρ->∃ρ1 ρ2,m (enc a) ρ=some ρ1/\(g ρ1=.nx ρ2\/g ρ1=.ct ρ2)/\P (k+i+1) ρ2)->∃ρ',fY m g (l.map enc) ρ=.nx ρ'/\P (k+l.length) ρ'
 | [],k,ρ,h,_=>⟨ρ,rfl,h⟩
 | a::l,k,ρ,h,st=>by
  obtain⟨ρ1,ρ2,e1,e2,h2⟩:=st 0 a ρ rfl h;obtain⟨ρ',e,h'⟩:=gG enc P l (k+1) ρ2 h2 λi b ρ hb hP=>by have:=st (i+1) b ρ (by simpa using hb) (by rw[show k+(i+1)=k+1+i by omega];exact hP);rw[show k+1+i+1=k+(i+1)+1 by omega];exact this
  refine⟨ρ',?_,by rw[ay,show k+(l.length+1)=k+1+l.length by omega];exact h'⟩;rw[bD,fY,e1];rcases e2 with e2 | e2<;>(dsimp only;rw[e2];exact e)
theorem oq{m:T->En->Option En}{g:En->O}(enc:α->T)(P:En->Prop):∀(l:List α) (ρ:En),P ρ->
  (∀a∈l,∀ρ,P ρ->∃ρ1 ρ2,m (enc a) ρ=some ρ1/\(g ρ1=.nx ρ2\/g ρ1=.ct ρ2)/\P ρ2)->∃ρ',fY m g (l.map enc) ρ=.nx ρ'/\P ρ'
 | [],ρ,h,_=>⟨ρ,rfl,h⟩
 | a::l,ρ,h,st=>by obtain⟨ρ1,ρ2,e1,e2,h2⟩:=st a (by simp) ρ h;obtain⟨ρ',e,h'⟩:=oq enc P l ρ2 h2 λb hb ρ hP=>st b (by simp[hb]) ρ hP;refine⟨ρ',?_,h'⟩;rw[bD,fY,e1];rcases e2 with e2 | e2<;>(dsimp only;rw[e2];exact e)
theorem lp{c:Pe->M Bool}{g:En->O}(P:En->Prop)(μ:En->Nat)(R:En->Prop)(st:∀ρ,P ρ->(c (vw ρ)=.ok false/\R ρ)\/(c (vw ρ)=.ok true/\∃ρ2,(g ρ=.nx ρ2\/g ρ=.ct ρ2)/\P ρ2/\μ ρ2<μ ρ)) :
  ∀(n:Nat) (ρ:En),P ρ->μ ρ<n->∃ρ',jz c g n ρ=.nx ρ'/\R ρ'
 | 0,ρ,_,h=>absurd h (cF _)
 | n+1,ρ,hP,hn=>by
  rcases st ρ hP with⟨e,r⟩ | ⟨e,ρ2,e2,hP2,hm⟩
  ·exact⟨ρ,by rw[jz,e];rfl,r⟩
  ·obtain⟨ρ',e',r⟩:=lp P μ R st n ρ2 hP2 (by omega);refine⟨ρ',?_,r⟩;rw[jz,e,O.of_ok,aP rfl];rcases e2 with e2 | e2<;>(rw[e2];exact e')
end
theorem uq{α:Type}{ix:List (Option Nat)}{fi:Pe->M (List T)}{m:T->Pe->Option Pe}{ft:Pe->M Bool}{fe:Pe->M T}{ρ:Pe}(l:List α)(enc f:α->T)(hi:fi ρ=.ok (l.map enc))(hl:l.length<sizeLine)
  (ht:∀a∈l,∃ρ1,m (enc a) (jU ix ρ)=some ρ1/\ft ρ1=.ok true/\fe ρ1=.ok (f a)):gS ix fi m ft fe ρ=.ok (l.map f):=by
 have h:=sP (k:=mN m ft fe (jU ix ρ)) enc f l λa ha=>by obtain⟨ρ1,e1,e2,e3⟩:=ht a ha;unfold mN;rw[e1];dsimp only;rw[e2,M.bind_ok,aP rfl,e3];rfl
 unfold gS;rw[hi,M.bind_ok,aw,aP hl,h];rfl
theorem wR{α:Type}{ix:List (Option Nat)}{fi:Pe->M (List T)}{m:T->Pe->Option Pe}{ft:Pe->M Bool}{fe:Pe->M T}{ρ:Pe}(l:List α)(enc f:α->T)(p:α->Bool)(hi:fi ρ=.ok (l.map enc))(hl:l.length<sizeLine)
  (ht:∀a∈l,∃ρ1,m (enc a) (jU ix ρ)=some ρ1/\ft ρ1=.ok (p a)/\(p a=true->fe ρ1=.ok (f a))):gS ix fi m ft fe ρ=.ok ((l.filter p).map f):=by
 have h:=nW (k:=mN m ft fe (jU ix ρ)) enc f p l λa ha=>by
  obtain⟨ρ1,e1,e2,e3⟩:=ht a ha;unfold mN;rw[e1];dsimp only;rw[e2,M.bind_ok];cases hp:p a with
  | true=>rw[aP rfl,aP rfl,e3 hp];rfl
  | false=>rw[aQ aG,aQ aG]
 unfold gS;rw[hi,M.bind_ok,aw,aP hl,h];rfl
theorem fX{α:Type}{ix:List (Option Nat)}{fi:Pe->M (List T)}{m:T->Pe->Option Pe}{ft:Pe->M Bool}{fe:Pe->M T}{ρ:Pe}{ts:List T}(l:List α)(enc f:α->T)(hi:fi ρ=.ok (l.map enc))(hl:l.length<sizeLine)
  (ht:∀a∈l,∃ρ1,m (enc a) (jU ix ρ)=some ρ1/\ft ρ1=.ok true/\fe ρ1=.ok (f a)) (hr:l.map f=ts):gS ix fi m ft fe ρ=.ok ts:=by rw[<-hr];exact uq l enc f hi hl ht
theorem mV{α:Type}{ix:List (Option Nat)}{fi:Pe->M (List T)}{m:T->Pe->Option Pe}{ft:Pe->M Bool}{fe:Pe->M T}{ρ:Pe}{ts:List T}(l:List α)(enc f:α->T)(p:α->Bool)(hi:fi ρ=.ok (l.map enc))(hl:l.length<sizeLine)
  (ht:∀a∈l,∃ρ1,m (enc a) (jU ix ρ)=some ρ1/\ft ρ1=.ok (p a)/\(p a=true->fe ρ1=.ok (f a))) (hr:(l.filter p).map f=ts):gS ix fi m ft fe ρ=.ok ts:=by rw[<-hr];exact wR l enc f p hi hl ht
theorem qe(lo:Int)(n:Nat):pK lo n=(List.range n).map λ(i:Nat)=>T.int (lo+(i:Int)):=rfl
def tI(ns:LI):T:=.tup (ns.map T.int)
def tL(ns:LI):T:=.lst (ns.map T.int)
def fr(p:Int×Int):T:=.tup [.int p.1,.int p.2]
def tS(s:List (Int×Int)):T:=.tup (s.map fr)
theorem xn{α:Type}(l:List α)(i:Int)(h0:0<=i)(h1:i<l.length):∃a,lP l i=some a/\a∈l:=by
 unfold lP rm;rw[aP h0,aP h1];have hn:i.toNat<l.length:=by omega
 exact⟨l[i.toNat],by simp[hn],aU _⟩
theorem fE{i j:Int}(h:PySem.IntMulOk i j):fT (.int i) (.int j)=.ok (.int (i*j)):=by simp[fT,i5,h]
theorem j2{i j:Int}(h:j≠0)(h2:Builtin.divisionGoesByPylong i j=false):lI (.int i) (.int j)=.ok (.int (i.fdiv j)):=by simp[lI,i5,h,h2]
theorem mr{i j:Int}(h:j≠0):oN (.int i) (.int j)=.ok (.int (i.fmod j)):=by simp[oN,i5,h]
@[simp] theorem gH(i j:Int):gR (.int i) (.int j)=.ok (.int (i+j)):=rfl
@[simp] theorem lZ(i j:Int):qb (.int i) (.int j)=.ok (.int (i - j)):=rfl
@[simp] theorem yj(i j:Int):Ey (.int i) (.int j)=.ok (.bl (decide (i<j))):=rfl
@[simp] theorem IA(i j:Int):HB (.int i) (.int j)=.ok (.bl (decide (i<=j))):=rfl
@[simp] theorem Di(i j:Int):Dq (.int i) (.int j)=.ok (.bl (decide (j<i))):=rfl
@[simp] theorem Cz(i j:Int):Hk (.int i) (.int j)=.ok (.bl (decide (j<=i))):=rfl
@[simp] theorem fH(i j:Int):eG false (.int i) (.int j)=.ok (.bl (i == j)):=by simp[eG,j9,vU,mC]
@[simp] theorem jL(i j:Int):eG true (.int i) (.int j)=.ok (.bl (!(i == j))):=by simp[eG,j9,vU,mC]
theorem rT{i j:Int}(h:i.natAbs<2 ^ 64):PySem.IntMulOk i j:=IntMulOk.of_left (PyProof.Rows.intBits_le h)
theorem wV{i j:Int}(h:j.natAbs<2 ^ 64):PySem.IntMulOk i j:=PySem.IntMulOk.of_right (PyProof.Rows.intBits_le h)
def Bn(n:Nat)(x:Int):Prop:=x.natAbs<2 ^ n
theorem Bn.mono{m n:Nat}{x:Int}(h:Bn m x)(hm:m<=n):Bn n x:=aD h (Nat.pow_le_pow_right (by decide) hm)
theorem Bn.mul{m n:Nat}{x y:Int}(h:Bn m x)(h':Bn n y):Bn (m+n) (x*y):=by unfold Bn at *;rw[aX,Nat.pow_add];exact Nat.mul_lt_mul'' h h'
theorem Bn.add{m n:Nat}{x y:Int}(h:Bn m x)(h':Bn n y):Bn (max m n+1) (x+y):=by have a:Bn (max m n) x:=h.mono (cG _ _);have b:Bn (max m n) y:=h'.mono (cH _ _);unfold Bn at *;rw[Nat.pow_succ];have:=cI x y;omega
theorem Bn.neg{m:Nat}{x:Int}(h:Bn m x):Bn m (-x):=by unfold Bn at *;rw[cJ];exact h
theorem Bn.sub{m n:Nat}{x y:Int}(h:Bn m x)(h':Bn n y):Bn (max m n+1) (x - y):=by rw[Int.sub_eq_add_neg];exact h.add h'.neg
theorem Bn.ok{m n:Nat}{x y:Int}(h:Bn m x)(h':Bn n y)(hm:m<=2 ^ 20)(hn:n<=2 ^ 20):PySem.IntMulOk x y:=IntMulOk.of_bits (aM (PyProof.Rows.intBits_le h) hm) (aM (PyProof.Rows.intBits_le h') hn)
theorem Bn.noPy{n:Nat}{x y:Int}(h:Bn n y)(hn:n<=8000):Builtin.divisionGoesByPylong x y=false:=Cu.noPy (PyProof.Rows.intBits_le h) hn
section
variable {a b g:En->O}{ρ ρ':En}{r:O}{fc:Pe->M Bool}{f:Pe->M T}{ff:Pe->M (List T)}{t:T}{ts:List T}{k n i:Nat}
theorem dS(h1:a ρ=.nx ρ')(h2:b ρ'=r):eh a b ρ=r:=by unfold eh;rw[h1];exact h2
theorem j3(h1:a ρ=.rt t)(hr:.rt t=r):eh a b ρ=r:=by unfold eh;rw[h1];exact hr
theorem gC(h:fc (vw ρ)=.ok true)(h2:a ρ=r):jF fc a b ρ=r:=by unfold jF;rw[h];exact h2
theorem fg(h:fc (vw ρ)=.ok false)(h2:b ρ=r):jF fc a b ρ=r:=by unfold jF;rw[h];exact h2
theorem ek(h:f (lK ρ)=.ok t)(hr:ρ'=ρ.set i (some (.p t))):setO i (gN f) ρ=.nx ρ':=by unfold setO gN;rw[h,hr];rfl
theorem yr(h:f (vw ρ)=.ok t)(hl:lf t=true)(hr:ρ'=ρ.set i (some (.p t))):setO i (kJ f) ρ=.nx ρ':=by unfold setO kJ;rw[h,hr];simp[hl]
theorem kb(h:ff (lK ρ)=.ok ts)(hr:ρ'=ρ.set i (some (.o ts))):jV i (lb ff) ρ=.nx ρ':=by unfold jV lb;rw[h,hr];rfl
theorem DK(h:ff (vw ρ)=.ok ts)(hl:B6 ts=true)(hr:ρ'=ρ.set i (some (.o ts))):jV i (yM ff) ρ=.nx ρ':=by unfold jV yM;rw[h,hr];simp[hl]
theorem xG{us:List T}(ho:ρ[i]? = some (some (.o us)))(h:f (lK ρ)=.ok t)(hz:us.length<sizeLine)(hr:ρ'=ρ.set i (some (.o (us++[t])))):mz i (gN f) ρ=.nx ρ':=by unfold mz gN i8;rw[ho,h,hr];simp[hz]
theorem Dh{us:List T}(ho:ρ[i]? = some (some (.o us)))(h:f (vw ρ)=.ok t)(hl:lf t=true)(hz:us.length<sizeLine)(hr:ρ'=ρ.set i (some (.o (us++[t])))):mz i (kJ f) ρ=.nx ρ':=by unfold mz kJ i8;rw[ho,h,hr];simp[hz,hl]
theorem p7{us:List T}{fk:Pe->M T}{j:Int}{m:Nat}(ho:ρ[i]? = some (some (.o us)))(h:f (vw ρ)=.ok t)(hl:lf t=true)(hk:fk (vw ρ)=.ok (.int j))(hj:rm us.length j=some m)(hr:ρ'=ρ.set i (some (.o (us.set m t)))):pE i (kJ fk) (kJ f) ρ=.nx ρ':=by unfold pE kJ i8;rw[ho,h,hk,hr];simp[hl,hj]
theorem eK(h:f (vw ρ)=.ok t):eY f ρ=.rt t:=by unfold eY;rw[h];rfl
theorem pN(h:ff (vw ρ)=.ok ts):oY ff ρ=.rf ts:=by unfold oY;rw[h];rfl
theorem iI{fi:Pe->M (List T)}{m:T->En->Option En}{its:List T}(h:fi (lK ρ)=.ok its)(h2:fY m g its ρ=r):lO fi m g ρ=r:=by unfold lO;rw[h];exact h2
theorem kj{fi:Pe->M (List T)}{m:T->En->Option En}{its:List T}(h:fi (vw ρ)=.ok its)(h2:fY m g its ρ=r):lS fi m g ρ=r:=by unfold lS;rw[h];exact h2
theorem eV(hk:ts.length=k)(h:g (eN n ts)=.rt t):jv k n g ts=.ok t:=by unfold jv;rw[aP hk,h];rfl
theorem mR{us:List T}(hk:ts.length=k)(h:g (eN n ts)=.rf us):uA k n g ts=.ok us:=by unfold uA;rw[aP hk,h];rfl
end
theorem CA(n:Nat):pK 0 n=(List.range n).map λ(i:Nat)=>T.int (i:Int):=by simp[pK]
theorem lQ{α:Type}(f:α->T):∀(l:List α),(∀a∈l,j9 (f a)=true)->lN (l.map f)=true
 | [],_=>rfl
 | a::l,h=>by rw[bD,lN,h a (by simp),lQ f l λb hb=>h b (by simp[hb])];rfl
theorem mh{α:Type}(f:α->T)(n:Nat):∀(l:List α),(∀a∈l,vU (f a)<=n)->nV (l.map f)<=n
 | [],_=>bF _
 | a::l,h=>by rw[bD,nV];have h1:=h a (by simp);have h2:=mh f n l λb hb=>h b (by simp[hb]);omega
@[simp] theorem yZ(ns:LI):lN (ns.map T.int)=true:=lQ _ _ λ_ _=>rfl
theorem oj(ns:LI):nV (ns.map T.int)<=0:=mh _ _ _ λ_ _=>aJ _
@[simp] theorem EW(ns:LI):j9 (tI ns)=true:=by simp[tI,j9]
theorem Gq(ns:LI):vU (tI ns)<=1:=by unfold tI;rw[vU];have:=oj ns;omega
@[simp] theorem HA(l:LL):lN (l.map tI)=true:=lQ _ _ λ_ _=>EW _
theorem vI(l:LL):nV (l.map tI)<=1:=mh _ _ _ λ_ _=>Gq _
@[simp] theorem Ao(l:List T):mT l []=l.isEmpty:=by cases l<;>rfl
theorem vG{α:Type}(f:α->T)(he:∀a b,mC (f a) (f b)=true↔a=b):∀(l m:List α),mT (l.map f) (m.map f)=true↔l=m
 | [],[]=>by simp[mT]
 | [],b::m=>by simp[mT]
 | a::l,[]=>by simp[mT]
 | a::l,b::m=>by rw[bD,bD,mT,bO,he a b,vG f he l m];simp
theorem zF(l m:LI):mT (l.map T.int) (m.map T.int)=decide (l=m):=by
 have h:=vG T.int (λa b=>by simp[mC]) l m;by_cases e:l=m
 ·rw[aB e];exact h.mpr e
 ·rw[aA e];cases hb:mT (l.map T.int) (m.map T.int) with
  | false=>rfl
  | true=>exact absurd (h.mp hb) e
theorem tw(neg:Bool)(l m:LI):eG neg (.lst (l.map T.int)) (.lst (m.map T.int))=.ok (.bl (if neg then !decide (l=m) else decide (l=m))):=by have h:=oj l;unfold eG;rw[aP (by simp[j9,vU];omega),mC,zF]
theorem sY(neg:Bool)(ts:List T)(h:lN ts=true)(hd:nV ts<=90):eG neg (.lst ts) (.lst [])=.ok (.bl (if neg then !ts.isEmpty else ts.isEmpty)):=by unfold eG;rw[aP (by simp[j9,vU,h,lN];omega),mC,Ao]
theorem yV{α:Type}(f:α->T)(l:List α):nJ (l.map f)=l.zipIdx.map λp=>T.tup [.int (p.2:Int),f p.1]:=by unfold nJ;rw[List.zipIdx_map,aH];rfl
theorem AM{α β:Type}(f:α->T)(g:β->T)(l:List α)(m:List β):tF (l.map f) (m.map g)=(l.zip m).map λp=>T.tup [f p.1,g p.2]:=by unfold tF;rw[List.zip_map,aH];rfl
theorem yl{α:Type}(f:α->T):∀(l:List α),(∀a∈l,lf (f a)=true)->B6 (l.map f)=true
 | [],_=>rfl
 | a::l,h=>by rw[bD,B6,h a (by simp),yl f l λb hb=>h b (by simp[hb])];rfl
@[simp] theorem BR(ns:LI):B6 (ns.map T.int)=true:=yl _ _ λ_ _=>rfl
@[simp] theorem HF(ns:LI):lf (tI ns)=true:=by simp[tI]
section
variable {α:Type}{fe fd fl:Pe->M T}{ρ:Pe}{ts:List T}{d k:Nat}
theorem sL(l:List α)(d:Nat):ml l none (some (d:Int))=l.take d:=by
 unfold ml;rw[HT.sIx_none,HT.sIx_nat,List.drop_zero,Nat.sub_zero];by_cases h:d<=l.length
 ·rw[Nat.min_eq_left h]
 ·rw[Nat.min_eq_right (by omega),cj (aJ _),cj (by omega)]
theorem zA(l:List α)(d:Nat):ml l (some (d:Int)) none=l.drop d:=by
 unfold ml;rw[HT.sIx_none,HT.sIx_nat];by_cases h:d<=l.length
 ·rw[Nat.min_eq_left h,cj (by simp)]
 ·rw[Nat.min_eq_right (by omega),cK (aJ _),cK (by omega),List.take_nil]
theorem qK(h:fe ρ=.ok (.tup ts))(hd:fd ρ=.ok (.int (d:Int)))(hl:d<=ts.length):lj fe (λ_=>.ok none) (jd fd) ρ=.ok (.tup (ts.take d)):=by simp only[lj,jd,h,hd,M.bind_ok,sL]
theorem rY(h:fe ρ=.ok (.lst ts))(hd:fd ρ=.ok (.int (d:Int))):lj fe (λ_=>.ok none) (jd fd) ρ=.ok (.lst (ts.take d)):=by simp only[lj,jd,h,hd,M.bind_ok,sL]
theorem l5{o:List T->M T}{lc:Pe->M (List T)}{r:M T}(h:lc ρ=.ok ts)(hr:o [.lst ts]=r):h8 o (dI (fK lc) dQ) ρ=r:=by simp only[h8,dI,dQ,fK,h,M.bind_ok];exact hr
theorem ki{o:List T->M T}{f:Pe->M T}{t:T}{r:M T}(h:f ρ=.ok t)(hr:o [t]=r):h8 o (dI f dQ) ρ=r:=by simp only[h8,dI,dQ,h,M.bind_ok];exact hr
theorem fI{lc:Pe->M (List T)}(h:lc ρ=.ok ts):fK lc ρ=.ok (.lst ts):=by simp only[fK,h,M.bind_ok]
theorem AY(h:fe ρ=.ok (.tup ts)):fB fe ρ=.ok ts:=by simp only[fB,h,M.bind_ok]
theorem vm(h:fe ρ=.ok (.lst ts)):fB fe ρ=.ok ts:=by simp only[fB,h,M.bind_ok]
theorem eT{b:Bool}(h:fe ρ=.ok (.bl b)):fz fe ρ=.ok b:=by simp only[fz,h,M.bind_ok]
theorem jB{fc:Pe->M Bool}{b r:Bool}(h:fc ρ=.ok b)(hr:(!b)=r):L3.gK fc ρ=.ok r:=by simp only[L3.gK,h,M.bind_ok,hr]
theorem dU{o:T->T->M T}{fa fb:Pe->M T}{x y:T}{r:M T}(ha:fa ρ=.ok x)(hb:fb ρ=.ok y)(hr:o x y=r):ed o fa fb ρ=r:=by simp only[ed,ha,hb,M.bind_ok];exact hr
theorem pD{F:List T->M T}{f:Pe->M T}{x t:T}(h:f ρ=.ok x)(hr:F [x]=.ok t):dX (dI f dQ) F ρ=.ok t:=by simp only[dX,dI,dQ,h,hr,M.bind_ok];rfl
theorem fU{F:List T->M T}{f g:Pe->M T}{x y t:T}(h:f ρ=.ok x)(h2:g ρ=.ok y)(hr:F [x,y]=.ok t):dX (dI f (dI g dQ)) F ρ=.ok t:=by simp only[dX,dI,dQ,h,h2,hr,M.bind_ok];rfl
theorem iU{F:List T->M T}{f g k:Pe->M T}{x y z t:T}(h:f ρ=.ok x)(h2:g ρ=.ok y)(h3:k ρ=.ok z)(hr:F [x,y,z]=.ok t):dX (dI f (dI g (dI k dQ))) F ρ=.ok t:=by simp only[dX,dI,dQ,h,h2,h3,hr,M.bind_ok];rfl
theorem HP{F:List T->M T}{f g k l:Pe->M T}{x y z u t:T}(h:f ρ=.ok x)(h2:g ρ=.ok y)(h3:k ρ=.ok z)(h4:l ρ=.ok u)(hr:F [x,y,z,u]=.ok t):dX (dI f (dI g (dI k (dI l dQ)))) F ρ=.ok t:=by simp only[dX,dI,dQ,h,h2,h3,h4,hr,M.bind_ok];rfl
end
section
variable {ρ:Pe}{ts:List T}{F:List T->M (List T)}{f g k l:Pe->M T}{x y z u:T}
theorem GY(h:f ρ=.ok x)(hr:F [x]=.ok ts):ip (dI f dQ) F ρ=.ok ts:=by simp only[ip,dI,dQ,h,hr,M.bind_ok];rfl
theorem w5(h:f ρ=.ok x)(h2:g ρ=.ok y)(hr:F [x,y]=.ok ts):ip (dI f (dI g dQ)) F ρ=.ok ts:=by simp only[ip,dI,dQ,h,h2,hr,M.bind_ok];rfl
theorem FF(h:f ρ=.ok x)(h2:g ρ=.ok y)(h3:k ρ=.ok z)(hr:F [x,y,z]=.ok ts):ip (dI f (dI g (dI k dQ))) F ρ=.ok ts:=by simp only[ip,dI,dQ,h,h2,h3,hr,M.bind_ok];rfl
theorem FI(h:f ρ=.ok x)(h2:g ρ=.ok y)(h3:k ρ=.ok z)(h4:l ρ=.ok u)(hr:F [x,y,z,u]=.ok ts):ip (dI f (dI g (dI k (dI l dQ)))) F ρ=.ok ts:=by simp only[ip,dI,dQ,h,h2,h3,h4,hr,M.bind_ok];rfl
end
theorem m6{α β:Type}{fa fb:Pe->M T}{ρ:Pe}{x y:T}{l:List α}{m:List β}{f:α->T}{g:β->T}(ha:fa ρ=.ok x)(hx:seqT x=.ok (l.map f))(hb:fb ρ=.ok y)(hy:seqT y=.ok (m.map g)) :
  mn (dI fa (dI fb dQ)) ρ=.ok ((l.zip m).map λp=>T.tup [f p.1,g p.2]):=by
 rw[<-AM];simp only[mn,dI,dQ,ha,hb,M.bind_ok,hx,hy]
end L3
namespace L3
open PySem L2 PySem.Spec PyProof.Rows
section
variable {K:W.Frag}{E:XK}{X:Cx}{a b c e o tg it:Expr}{es:List Expr}{ta tb tc te to:TE}{fa fb fc fe fo:Pe->M T}{tr:TA}{fr:Pe->M (List T)}{pos p p2 apos:Pos}
end
section
variable {K:W.Frag}{E:XK}{X:Cx}{F0:Fz}{H0 F H:Hp}{σ:L2.St}{ρ:En}
end
def yu(K:W.Frag):Sp:=λvs H Q _=>∃(a:Addr) (ns:LI),vs=[.ref a]/\jq K H a (ns.map V.int)/\ns.length<=63/\(∀z∈ns,Builtin.Int.intBits z<=2 ^ 20)/\∀H',Q (.bl true) H'
theorem AN{K:W.Frag}{F:List T->M T}(h:∀ns:LI,ns.length<=63->(∀z∈ns,Builtin.Int.intBits z<=2 ^ 20)->F [.scr ns]=.ok (.bl true))(vs:List V)(H:Hp)(Q:VK)(E:XK)(z:yu K vs H Q E):rj K F vs H Q E:=by obtain⟨a,ns,rfl,hS,hl,hb,hq⟩:=z;refine⟨[.scr ns],H,λ_ _ x=>x,.cons (.scr hS) .nil,?_⟩;rw[h ns hl hb];intro v F' H' g r;cases r;exact hq _
theorem IL{P:Program}{w:World}{K:W.Frag}{mg:Str->Option Value}{base:Heap}{x:Str}{st:Stmt}{N ps:List Str}{k:Nat}{g:En->O}{f:Addr}{fd:FuncData}(F:B7 K x x st f fd)(S:gd N ps (dY st))
  (hT:∀(f:Addr) (cdv:Value) (A:Around) (outer:List Env) (s:Shared) (H:Hp) (E:XK),gh k (A.deeper (envOfC x (dY st) s.heap.objs.size f cdv))->∃t,mO K E (lV qX P w K mg base N x (dY st) f cdv A outer s H E).nox (fu st) t g) :
  j6 P w K mg base qX (k+1) f fd ps (rj K (jv ps.length N.length g)):=
 F.ok S (λvs H Q E h=>xh h) λcdv A outer s H vs Q E hr h=>let ⟨t,hp⟩:=hT f cdv A outer s H E hr;⟨t,hp.ps,sU hp.ms h⟩
theorem H9{l:W.OpenLaw}{q:Program}{k:Nat}{x:Str}{loose:List Str}{XP:(Str->Option Value)->Heap->Prop}{YP:World->Heap->Prop}{d:DefRec}{K:Params->W.Frag}(hn:l.most=some 63)(hr:gh k callerA)(hdf:d.params.defaults=[])
  (hY:∀(w:World) (h:Heap),YP w h->(K w.params).In h)
  (F:∀(w:World) (mg:Str->Option Value) (fa:Addr) (h:Heap),(K w.params).In h->h.Ns mainGlobals mg->mg d.name=some (.ref fa)->
   ∃fd:FuncData,(∀(s:Shared) (u:Value),BindsTo s fd ⟨[u],[]⟩ [(x,u)])/\∀base:Heap,(K w.params).In base->base.Ns mainGlobals mg->j6 l.prog w (K w.params) mg base qX k fa fd [x] (yu (K w.params))) :
  W.WalkO q loose XP YP l.row.toRowW d [] (λf vs=>PySem.call f vs):=
 L2.ze (n:=63) (k:=k) (x:=x) (CX:=qX) (sp:=yu) hn (by decide) hdf hr hY F (λ_ _ a ns hl hb _ hS=>⟨a,ns,rfl,hS,hl,hb,λ_=>rfl⟩) λ_ _ _ _ z=>z
end L3
namespace L3
open PySem L2 PySem.Spec PyProof.Rows
section
variable {K:W.Frag}{E:XK}{t:TE}{f:Pe->M T}
def kO(K:W.Frag)(F H:Hp)(x:Addr)(Q:VK)(t:T):Prop:=∀F' H',eL F F'->eL F' H'->(∀a o,a≠x->H a=some o->H' a=some o)->(∀a,F' a≠none->F a≠none\/H a=none\/a=x\/∃xs,H a=some (.tup xs))->jc K F' (.ref x) t->Q .non H'
noncomputable def wX(K:W.Frag)(C:Addr)(Fn:List T->M T):Sp:=λvs H Q _=>∃x dx us ts F0,vs=.ref x::us/\H x=some (.ins C dx [])/\F0 x=none/\eL F0 H/\eI K F0 us ts/\(Fn ts).noEr.res (kO K F0 H x Q) (λ_ _=>False)
theorem Ak{C:Addr}{tr:TA}{fr:Pe->M (List T)}{Fn:List T->M T}{E':XK}(ha:MA K E tr fr):ME K E (xZ C (wX K C Fn) [] E' tr) (dX fr Fn):=λF H σ ρ Q s V q=>by
 refine ha.run s V q λts vs F1 H1 g1 r1 q1=>?_;intro x dx hx hdx hne;have hx':gL H1 dx (.own x) x=none:=by rw[eD (λz=>hne z.symm)];exact hx
 have s0:eL H1 (gL (gL H1 dx (.own x)) x (.ins C dx [])):=(oy hdx).trans (oy hx');refine⟨x,dx,vs,ts,F1,by rw[bG],eC,eE g1.fh hx,g1.fh.trans s0,r1,?_⟩;cases e:Fn ts with
 | bad=>rw[e] at q1;exact q1.elim
 | er C n=>rw[e] at q1;exact q1.elim
 | ok t=>
  rw[e] at q1;intro F' H' a b c d r;refine⟨rfl,(q1:kV K F H Q t) (.ref x) F' H' ⟨g1.ff.trans a,b,λp o h=>?_,λp hp=>?_⟩ r⟩
  ·have h1:=g1.hh p o h;have hpx:p≠x:=λz=>by rw[z,hx] at h1;cases h1
   exact c p o hpx (s0 p o h1)
  ·rcases d p hp with z | z | z | ⟨xs,z⟩
   ·exact g1.nw p z
   ·exact .inr (.inl (eE g1.hh (eE s0 z)))
   ·rw[z];exact .inr (.inl (eE g1.hh hx))
   ·cases y:H p with
    | none=>exact .inr (.inl rfl)
    | some o=>exact .inr (.inr ⟨xs,by rw[s0 p o (g1.hh p o y)] at z;exact z⟩)
noncomputable def r9(C:Addr)(n:Nat)(f1 f2:Str)(g1 g2:Pe->M T):List T->M T:=λts=>if ts.length=n then (g1 (none::ts.map some)).bind λa=>(g2 (none::ts.map some)).bind λb=>.ok (.obj C [(f1,a),(f2,b)]) else .bad
structure IU(K:W.Frag)(E:XK)(X:Cx)(body:List Stmt)(f1 f2:Str)(g1 g2:Pe->M T):Prop where
 ex:∃(t1 t2:TE),uI X body (DO (E8 K (kW 0) t1 f1) (E8 K (kW 0) t2 f2))/\ME K E t1 g1/\ME K E t2 g2
theorem IV{X:Cx}{o1 o2 a1 a2:Expr}{t1 t2:TE}{g1 g2:Pe->M T}{f1 f2:Str}{p1 p2 q1 q2:Pos}(hK:X.K=K)(o1v:PE X o1 (kW 0))(h1:Pm K E X a1 t1 g1)(o2v:PE X o2 (kW 0))(h2:Pm K E X a2 t2 g2)
  (hs1:swapsWith a1 (some (.Attribute o1 f1 p1)) q1.line X.env=pure false:=by rfl) (hs2:swapsWith a2 (some (.Attribute o2 f2 p2)) q2.line X.env=pure false:=by rfl) :
  IU K E X [.Assign [.Attribute o1 f1 p1] a1 q1,.Assign [.Attribute o2 f2 p2] a2 q2] f1 f2 g1 g2:=by
 subst hK;exact⟨t1,t2,vh (AE o1v h1.pe hs1) (xV (AE o2v h2.pe hs2)),h1.me,h2.me⟩
theorem GN{P:Program}{w:World}{mg:Str->Option Value}{base:Heap}{x qual:Str}{C:Addr}{st:Stmt}{N:List Str}{k n:Nat}{f1 f2:Str}{g1 g2:Pe->M T}(cl:sJ K C)(n1:jg K C f1)(n2:jg K C f2)(ne:f1≠f2)(D:iH K C "__init__" qual st)(S:gd N N (dY st))
  (mk:W.makesIn K C=true) (kp:W.keepIn K (.ref C)=true) (hm:mg x=some (.ref C)) (hN:N.length=n+1)
  (hb:∀(kV doc pm:Value) (an:Option Addr) (cdv ct:Value) (us:List Value),us.length=N.length->bindArgs (W.fnOf "__init__" qual (gA st) (fu st) (dY st) .none kV doc pm an cdv ct) ⟨us,[]⟩=pure (N.zip us))
  (hT:∀(f:Addr) (cdv:Value) (A:Around) (outer:List Env) (s:Shared) (H:Hp) (E:XK),gh k (A.deeper (envOfC qual (dY st) s.heap.objs.size f cdv))->IU K E (lV qX P w K mg base N qual (dY st) f cdv A outer s H E).nox (fu st) f1 f2 g1 g2) :
  zb P w K mg base x C (k+1) (wX K C (r9 C n f1 f2 g1 g2)):=by
 obtain⟨fi,fd,F,Mm⟩:=D.ex;refine⟨⟨fi,fd,N,F.ok S (λvs H Q E h=>?_) (λcdv A outer s H vs Q E hr h=>?_),⟨mk,Mm.at_,Mm.fn,kp⟩,F.binds hb⟩,hm⟩
 ·obtain⟨x,dx,us,ts,F0,rfl,hx,fx,s,r,q⟩:=h;unfold r9 at q;by_cases hl:ts.length=n
  ·rw[ay,r.length,hl,hN]
  ·rw[aQ hl] at q;exact q.elim
 ·obtain⟨x,dx,us,ts,F0,rfl,hx,fx,s0,r,q⟩:=h;obtain⟨t1,t2,ps,m1,m2⟩:=(hT fi cdv A outer s H E hr).ex;refine⟨_,ps,?_⟩;unfold r9 at q;by_cases hl:ts.length=n
  ·rw[aP hl] at q;have V:i9 K F0 (ju N (.ref x::us)) (none::ts.map some):=λi t e=>by
    cases i with
    | zero=>cases e
    | succ i=>
     rw[List.getElem?_cons_succ,av] at e;cases hq:ts[i]? with
     | none=>rw[hq] at e;cases e
     | some y=>rw[hq] at e;cases e;obtain⟨v,a,b⟩:=r.get hq;refine⟨v,?_,b⟩;unfold L2.ju;rw[List.getElem?_append_left (by rw[aw,ay];exact Nat.succ_lt_succ (aa.mp a).1),av,List.getElem?_cons_succ,a];rfl
   cases e1:g1 (none::ts.map some) with
   | bad=>rw[e1] at q;exact q.elim
   | er C n=>rw[e1] at q;exact q.elim
   | ok a=>
    rw[e1,L3.M.bind_ok] at q;cases e2:g2 (none::ts.map some) with
    | bad=>rw[e2] at q;exact q.elim
    | er C n=>rw[e2] at q;exact q.elim
    | ok b=>
     rw[e2,L3.M.bind_ok] at q;refine m1 F0 H _ _ _ s0 V ?_;rw[e1];intro v F1 H1 gr1 r1;have hx1:=gr1.hh _ _ hx;have fx1:F1 x=none:=by
      cases z:F1 x with
      | none=>rfl
      | some o=>
       rcases gr1.nw x (by rw[z];exact λy=>nomatch y) with y | y | ⟨_,y⟩
       ·exact absurd fx y
       ·rw[hx] at y;cases y
       ·rw[hx] at y;cases y
     refine⟨.ref x,rfl,x,C,dx,[],rfl,hx1,cl,n1,by show 0<1000;decide,?_⟩;have s1:eL F1 (gL H1 x (.ins C dx (lg f1 v []))):=λp o h=>by
      have hp:p≠x:=λz=>by rw[z,fx1] at h;cases h
      rw[eD hp];exact gr1.fh p o h
     refine m2 F1 _ _ _ _ s1 (V.mono gr1.ff) ?_;rw[e2];intro v2 F2 H3 gr2 r2;have hx3:=gr2.hh x _ eC;have fx2:F2 x=none:=by
      cases z:F2 x with
      | none=>rfl
      | some o=>
       rcases gr2.nw x (by rw[z];exact λy=>nomatch y) with y | y | ⟨_,y⟩
       ·exact absurd fx1 y
       ·rw[eC] at y;cases y
       ·rw[eC] at y;cases y
     refine⟨.ref x,rfl,x,C,dx,_,rfl,hx3,cl,n2,by show 1<1000;decide,?_⟩;have ep:lg f2 v2 (lg f1 v [])=[(f1,v),(f2,v2)]:=by show (if f1=f2 then _ else _)=_;rw[aQ ne];rfl
     have sF:eL F2 (gL F2 x (.ins C dx [(f1,v),(f2,v2)])):=oy fx2;refine (q:kO K F0 H x Q _) (gL F2 x (.ins C dx [(f1,v),(f2,v2)])) _ ((gr1.ff.trans gr2.ff).trans sF) (λp o h=>?_) (λp o hp h=>?_) (λp hp=>?_) (.obj eC (.cons (r1.mono (gr2.ff.trans sF)) (.cons (r2.mono sF) .nil)))
     ·by_cases hp:p=x
      ·subst hp;rw[eC] at h;rw[eC,ep];exact h
      ·rw[eD hp] at h ⊢;exact gr2.fh p o h
     ·rw[eD hp];exact gr2.hh p o (by rw[eD hp];exact gr1.hh p o h)
     ·by_cases hpx:p=x
      ·exact .inr (.inr (.inl hpx))
      ·rw[eD hpx] at hp;rcases gr2.nw p hp with z | z | ⟨xs,z⟩
       ·rcases gr1.nw p z with y | y | y
        ·exact .inl y
        ·exact .inr (.inl y)
        ·exact .inr (.inr (.inr y))
       ·rw[eD hpx] at z;exact .inr (.inl (eE gr1.hh z))
       ·rw[eD hpx] at z;cases y:H p with
        | none=>exact .inr (.inl rfl)
        | some o=>exact .inr (.inr (.inr ⟨xs,by rw[gr1.hh p o y] at z;exact z⟩))
  ·rw[aQ hl] at q;exact q.elim
end
section
variable {X:Cx}{K:W.Frag}{E:XK}{x m:Str}{C:Addr}{k:Nat}{Fn:List T->M T}{Ff:List T->M (List T)}{e o:Expr}{es:List Expr}{tr:TA}{fr:Pe->M (List T)}{ta:TE}{fa:Pe->M T}{p pos apos:Pos}
theorem Ib{j:Nat}(h:zb X.prog X.w X.K X.mg X.base x C j (wX K C Fn))(hr:gh k X.A)(ha:uB K E X (e::es) tr fr)(hk:j+1<=k:=by decide)(hg:Gl X x:=by rfl)
  (hdb:(x == ("__debug__" : Str))=false:=by decide) (he:starEach (e::es) X.env=(false,eval e X.env)::starEach es X.env:=by rfl) (hpl:(backTo pos (starEach es X.env)).any (·.1)=false:=by rfl) :
  Pm K E X (.Call (.Name x p) (e::es) [] pos) (xZ C (wX K C Fn) [] E0 tr) (dX fr Fn):=⟨Hn h (hr.mono hk) ha.pa hg hdb he hpl,Ak ha.ma⟩
theorem wO{pl:Sem Bool}{j:Nat}(h:iG X.prog X.w X.K X.mg X.base C m j (rj K Fn))(hr:gh k X.A)(ho:Pm K E X o ta fa)(hk:j<=k:=by decide)
  (ht:eval (.Call (.Attribute o m apos) [] [] pos) X.env=(do
   let ov <-eval o X.env
   standAt apos.atName
   let (f,first) <-holding [ov] (getMethod ov m pl)
   callWith pos f first (backTo pos (starEach [] X.env)) (backToKw pos (keywordEach [] X.env))):=by rfl) :
  Pm K E X (.Call (.Attribute o m apos) [] [] pos) (sC C m (rj K Fn) [] E0 ta nQ) (oU C m fa dQ Fn):=⟨AX h (hr.mono hk) ho.pe ht,A6 ho.me xm⟩
theorem AU{pl:Sem Bool}{j:Nat}(h:iG X.prog X.w X.K X.mg X.base C m j (vT K Ff))(hr:gh k X.A)(ho:Pm K E X o ta fa)(hk:j<=k:=by decide)
  (ht:eval (.Call (.Attribute o m apos) [] [] pos) X.env=(do
   let ov <-eval o X.env
   standAt apos.atName
   let (f,first) <-holding [ov] (getMethod ov m pl)
   callWith pos f first (backTo pos (starEach [] X.env)) (backToKw pos (keywordEach [] X.env))):=by rfl) :
  y0 K E X (.Call (.Attribute o m apos) [] [] pos) (sC C m (vT K Ff) [] E0 ta nQ) (qF C m fa dQ Ff):=⟨AX h (hr.mono hk) ho.pe ht,zU ho.me xm⟩
theorem wx{f:Str}(hK:X.K=K)(cl:sJ K C)(na:jg K C f)(h:Pm K E X e ta fa)(hb:attributeBase e f X.env (eval e X.env)=eval e X.env:=by rfl):Pm K E X (.Attribute e f pos) (FW X.K ta f) (uZ C f fa):=by subst hK;exact⟨Gm h.pe hb,E5 cl na h.me⟩
end
section
variable {P:Program}{w:World}{K:W.Frag}{mg:Str->Option Value}{base:Heap}{C:Addr}{m qual:Str}{st:Stmt}{N ps:List Str}{k:Nat}{g:En->O}
theorem HS(cl:sJ K C)(D:iH K C m qual st)(S:gd N ps (dY st))
  (hb:∀(kV doc pm:Value) (an:Option Addr) (cdv ct:Value) (us:List Value),us.length=ps.length->bindArgs (W.fnOf m qual (gA st) (fu st) (dY st) .none kV doc pm an cdv ct) ⟨us,[]⟩=pure (ps.zip us))
  (hT:∀(f:Addr) (cdv:Value) (A:Around) (outer:List Env) (s:Shared) (H:Hp) (E:XK),gh k (A.deeper (envOfC qual (dY st) s.heap.objs.size f cdv))->∃t,mO K E (lV qX P w K mg base N qual (dY st) f cdv A outer s H E).nox (fu st) t g) :
  iG P w K mg base C m (k+1) (rj K (jv ps.length N.length g)):=
 xY cl D S hb (λvs H Q E h=>xh h) λf cdv A outer s H vs Q E hr h=>let ⟨t,hp⟩:=hT f cdv A outer s H E hr;⟨t,hp.ps,sU hp.ms h⟩
theorem HR(cl:sJ K C)(D:iH K C m qual st)(S:gd N ps (dY st))
  (hb:∀(kV doc pm:Value) (an:Option Addr) (cdv ct:Value) (us:List Value),us.length=ps.length->bindArgs (W.fnOf m qual (gA st) (fu st) (dY st) .none kV doc pm an cdv ct) ⟨us,[]⟩=pure (ps.zip us))
  (hT:∀(f:Addr) (cdv:Value) (A:Around) (outer:List Env) (s:Shared) (H:Hp) (E:XK),gh k (A.deeper (envOfC qual (dY st) s.heap.objs.size f cdv))->∃t,mO K E (lV qX P w K mg base N qual (dY st) f cdv A outer s H E).nox (fu st) t g) :
  iG P w K mg base C m (k+1) (vT K (uA ps.length N.length g)):=
 xY cl D S hb (λvs H Q E h=>yz h) λf cdv A outer s H vs Q E hr h=>let ⟨t,hp⟩:=hT f cdv A outer s H E hr;⟨t,hp.ps,uO hp.ms h⟩
end
end L3
namespace L3
open PySem L2 PySem.Spec PyProof.Rows
section
variable {K:W.Frag}{E:XK}{X:Cx}{a tg:Expr}{tr:TA}{fr:Pe->M (List T)}{p p2 pos pos2:Pos}{F:Hp}
end
section
variable {K:W.Frag}{E:XK}{X:Cx}{F0:Fz}{H0 F H:Hp}{σ:L2.St}{ρ:En}{x:Str}{e:Expr}{pos pos' p pd:Pos}
end
section
variable {K:W.Frag}{E:XK}{X:Cx}{t:TE}
variable {e:Expr}{te:TE}{ff:Pe->M (List T)}{p apos pos pos':Pos}
end
end L3
namespace L3
open PySem L2 PySem.Spec PyProof.Rows
section
variable {K:W.Frag}{E:XK}{X:Cx}{e st:Expr}{te ts:TE}{fe fs:Pe->M T}{p2 pos:Pos}
end
end L3
namespace L3
open PySem L2 PySem.Spec PyProof.Rows
section
variable {K:W.Frag}{E:XK}{X:Cx}{a b:Expr}{ta tb:TE}{fa fb:Pe->M T}{pos:Pos}
end
end L3
namespace L3
open PySem L2 PySem.Spec PyProof.Rows
section
variable {K:W.Frag}{E:XK}{X:Cx}{e:Expr}{es:List Expr}{tr:TA}{fr:Pe->M (List T)}{pos p apos:Pos}{pos':Pos}
end
end L3
namespace L3
open PySem L2 PySem.Spec PyProof.Rows
def GJ:Nat->(List Value->Prop)->Prop
 | 0,P=>P []
 | k+1,P=>∀v,GJ k λus=>P (v::us)
theorem lq:∀{k:Nat} {P:List Value->Prop},GJ k P->∀us:List Value,us.length=k->P us
 | 0,_,h,[],_=>h
 | k+1,_,h,v::us,e=>lq (h v) us (by simpa using e)
def Iu(X:Cx):Prop:=∀x,X.env.scope.names.lookup x=some .cell->∃c,X.env.cells.lookup x=some c
structure Zx(P:Program)(w:World)(K:W.Frag)(mg:Str->Option Value)(base:Heap):Prop where
 here:True
section
variable {P:Program}{w:World}{K:W.Frag}{mg:Str->Option Value}{base:Heap}
noncomputable abbrev CP(_:Zx P w K mg base)(x:Str)(k:Nat)(F:List T->M T):Prop:=iJ P w K mg base x k (rj K F)
noncomputable abbrev CF(_:Zx P w K mg base)(x:Str)(k:Nat)(F:List T->M (List T)):Prop:=iJ P w K mg base x k (vT K F)
end
section
variable {P:Program}{w:World}{K:W.Frag}{mg:Str->Option Value}{base:Heap}{x m qual:Str}{C:Addr}{st:Stmt}{g:En->O}
noncomputable abbrev G0(P:Program)(w:World)(K:W.Frag)(mg:Str->Option Value)(base:Heap)(k:Nat)(qual:Str)(st:Stmt)(N:List Str)(g:En->O):Prop:=∀{f:Addr} {cdv:Value} {A:Around} {outer:List Env} {s:Shared} {H:Hp} {E:XK},N.Nodup->Iu (lV qX P w K mg base N qual (dY st) f cdv A outer s H E).nox->gh k (A.deeper (envOfC qual (dY st) s.heap.objs.size f cdv))->∃t,mO K E (lV qX P w K mg base N qual (dY st) f cdv A outer s H E).nox (fu st) t g
abbrev G7(x qual:Str)(st:Stmt)(ps:List Str):Prop:=∀(kV doc pm:Value) (an:Option Addr) (cdv ct:Value),GJ ps.length λus=>bindArgs (W.fnOf x qual (gA st) (fu st) (dY st) .none kV doc pm an cdv ct) ⟨us,[]⟩=pure (ps.zip us)
theorem gQ(_:Zx P w K mg base)(k:Nat)(F:List T->M T)(N ps:List Str)(e:F=jv ps.length N.length g)(D:ee K mg x st)(hT:G0 P w K mg base k x st N g)(S:gd N ps (dY st):=by constructor<;>first | rfl | decide +kernel)
  (hb:G7 x x st ps:=by first | exact λ_ _ _ _ _ _ _ _=>rfl | exact λ_ _ _ _ _ _ _=>rfl | exact λ_ _ _ _ _ _ _ _ _=>rfl | exact λ_ _ _ _ _ _ _ _ _ _=>rfl | exact λ_ _ _ _ _ _ _ _ _ _ _=>rfl | exact λ_ _ _ _ _ _=>rfl) :
  iJ P w K mg base x (k+1) (rj K F):=e▸Jk D S (λa b c d e f us hl=>lq (hb a b c d e f) us hl) λ_ _ _ _ _ _ _ r=>hT S.nd (λ_ h=>jJ h) r
theorem sQ(_:Zx P w K mg base)(k:Nat)(F:List T->M (List T))(N ps:List Str)(e:F=uA ps.length N.length g)(D:ee K mg x st)(hT:G0 P w K mg base k x st N g)(S:gd N ps (dY st):=by constructor<;>first | rfl | decide +kernel)
  (hb:G7 x x st ps:=by first | exact λ_ _ _ _ _ _ _ _=>rfl | exact λ_ _ _ _ _ _ _=>rfl | exact λ_ _ _ _ _ _ _ _ _=>rfl | exact λ_ _ _ _ _ _ _ _ _ _=>rfl | exact λ_ _ _ _ _ _ _ _ _ _ _=>rfl | exact λ_ _ _ _ _ _=>rfl) :
  iJ P w K mg base x (k+1) (vT K F):=e▸Jc D S (λa b c d e f us hl=>lq (hb a b c d e f) us hl) λ_ _ _ _ _ _ _ r=>hT S.nd (λ_ h=>jJ h) r
theorem EF(_:Zx P w K mg base)(k:Nat)(F:List T->M T)(N ps:List Str)(e:F=jv ps.length N.length g)(cl:sJ K C)(D:iH K C m qual st)(hT:G0 P w K mg base k qual st N g)(S:gd N ps (dY st):=by constructor<;>first | rfl | decide +kernel)
  (hb:G7 m qual st ps:=by first | exact λ_ _ _ _ _ _ _=>rfl | exact λ_ _ _ _ _ _ _ _=>rfl | exact λ_ _ _ _ _ _ _ _ _=>rfl) :
  iG P w K mg base C m (k+1) (rj K F):=e▸HS cl D S (λa b c d e f us hl=>lq (hb a b c d e f) us hl) λ_ _ _ _ _ _ _ r=>hT S.nd (λ_ h=>jJ h) r
theorem GT(_:Zx P w K mg base)(k:Nat)(F:List T->M (List T))(N ps:List Str)(e:F=uA ps.length N.length g)(cl:sJ K C)(D:iH K C m qual st)(hT:G0 P w K mg base k qual st N g)(S:gd N ps (dY st):=by constructor<;>first | rfl | decide +kernel)
  (hb:G7 m qual st ps:=by first | exact λ_ _ _ _ _ _ _=>rfl | exact λ_ _ _ _ _ _ _ _=>rfl | exact λ_ _ _ _ _ _ _ _ _=>rfl) :
  iG P w K mg base C m (k+1) (vT K F):=e▸HR cl D S (λa b c d e f us hl=>lq (hb a b c d e f) us hl) λ_ _ _ _ _ _ _ r=>hT S.nd (λ_ h=>jJ h) r
theorem HI(_:Zx P w K mg base)(k:Nat)(F:List T->M T)(N ps:List Str)(e:F=jv ps.length N.length g){f:Addr}{fd:FuncData}(D:B7 K x x st f fd)(hT:G0 P w K mg base k x st N g)(S:gd N ps (dY st):=by constructor<;>first | rfl | decide +kernel) :
  j6 P w K mg base qX (k+1) f fd ps (rj K F):=e▸IL D S λ_ _ _ _ _ _ _ r=>hT S.nd (λ_ h=>jJ h) r
theorem Jd(_:Zx P w K mg base)(k:Nat)(F:List T->M T)(N:List Str){n:Nat}{f1 f2:Str}{g1 g2:Pe->M T}(e:F=r9 C n f1 f2 g1 g2)(cl:sJ K C)(n1:jg K C f1)(n2:jg K C f2)(mk:W.makesIn K C=true)(kp:W.keepIn K (.ref C)=true)(hm:mg x=some (.ref C))(D:iH K C "__init__" qual st)
  (hT:∀{f:Addr} {cdv:Value} {A:Around} {outer:List Env} {s:Shared} {H:Hp} {E:XK},gh k (A.deeper (envOfC qual (dY st) s.heap.objs.size f cdv))->IU K E (lV qX P w K mg base N qual (dY st) f cdv A outer s H E).nox (fu st) f1 f2 g1 g2)
  (S:gd N N (dY st):=by constructor<;>first | rfl | decide +kernel) (hb:G7 "__init__" qual st N:=by exact λ_ _ _ _ _ _ _ _ _=>rfl) (ne:f1≠f2:=by decide) (hN:N.length=n+1:=by rfl) :
  zb P w K mg base x C (k+1) (wX K C F):=e▸GN cl n1 n2 ne D S mk kp hm hN (λa b c d e f us hl=>lq (hb a b c d e f) us hl) λ_ _ _ _ _ _ _ r=>hT r
end
section
variable {K:W.Frag}{E:XK}{X:Cx}{tg elt iter:Expr}{ifs:List Expr}{scope:Scope}{wi:TI}{g:TG}{tt:TT}{te:TE}{fe:Pe->M T}{fi:Pe->M (List T)}{m:T->Pe->Option Pe}{ft:Pe->M Bool}{pos:Pos}{x:Str}
noncomputable abbrev Jn(K:W.Frag)(X:Cx)(scope:Scope)(N:List Str)(tg elt:Expr)(ifs:List Expr)(g:TG)(tt:TT)(te:TE)(m:T->Pe->Option Pe)(ft:Pe->M Bool)(fe:Pe->M T):Prop:=∀{C s₃ H ex pn},N.Nodup->Iu (jW X N scope C s₃ H ex pn)->G2 K (jW X N scope C s₃ H ex pn) tg g m/\zY K B4 (jW X N scope C s₃ H ex pn) ifs tt ft/\Pm K B4 (jW X N scope C s₃ H ex pn) elt te fe
theorem fW(N:List Str)(ix:List (Option Nat))(hX:Iu X)(hi:DX K E X tg iter wi fi)(blk:Jn K X scope N tg elt ifs g tt te m ft fe)(hl:sX X.N X.env.scope scope N ix=true:=by rfl)(hgk:lF ix g:=by first | exact qy rfl | exact qZ rfl rfl)(nd:N.Nodup:=by decide)(hc:X.calm=true:=by rfl)
  (hs:∀x,foldedSetIterable iter X.env x=pure x:=by intro _;rfl):y0 K E X (.ListComp elt [⟨tg,iter,ifs,0⟩] scope pos) (BH ix wi g tt te) (gS ix fi m ft fe):=
 let L:=Ht hX hl
 HQ hc hi L hgk (λ_ _ _ _ _=>blk nd (A9 L)) hs
theorem kC{gm:En->O}{spos py:Pos}(N:List Str)(ix:List (Option Nat))(i:Nat)(hN:X.N.Nodup)(hX:Iu X)(hi:DX K E X tg iter wi fi)(blk:Jn K X scope N tg elt ifs g tt te m ft fe)
  (hm:MF K E (BH ix wi g tt te) (gS ix fi m ft fe)->MS K E (mj (BH ix wi g tt te) (ir i)) gm) (hl:sX X.N X.env.scope scope N ix=true:=by rfl) (hgk:lF ix g:=by first | exact qy rfl | exact qZ rfl rfl) (nd:N.Nodup:=by decide) (hx:zN X.env.scope x:=by first | exact Or.inl rfl | exact Or.inr rfl) (hc:X.calm=true:=by rfl)
  (hy:X.N[i]? = some x:=by rfl) (hf:X.fn x=true\/X.env.scope.names.lookup x=some .local:=by first | exact .inl rfl | exact .inr rfl)
  (hsw:swapsWith (.ListComp elt [⟨tg,iter,ifs,0⟩] scope pos) (some (.Name x py)) spos.line X.env=pure true:=by rfl)
  (hs:∀x,foldedSetIterable iter X.env x=pure x:=by intro _;rfl):rg K E X (.Assign [.Name x py] (.ListComp elt [⟨tg,iter,ifs,0⟩] scope pos) spos) (mj (BH ix wi g tt te) (ir i)) gm:=
 let L:=Ht hX hl
 FX i hN hx hc hi L hgk (λ_ _ _ _ _=>blk nd (A9 L)) hm hy hf hsw hs
end
end L3
namespace L3
open PySem L2 PySem.Spec PyProof.Rows
section
variable {K:W.Frag}{E:XK}{X:Cx}{a e:Expr}{es:List Expr}{tr:TA}{fr:Pe->M (List T)}{pos p p2 pos2:Pos}
noncomputable def FU:List T->M T
 | [.lst ts]=>match iK ts with
  | some ns=>if ns.length<64 then .ok (.int (G4 ns:Int)) else .bad
  | none=>.bad
 | _=>.bad
@[simp] noncomputable def A7(fr:Pe->M (List T)):Pe->M T:=λρ=>(fr ρ).bind FU
theorem Ie(ha:MA K E tr fr):ME K E (Je K tr) (A7 fr):=λF H σ ρ Q s va q=>by
 refine ha.run s va q λxs ws F1 H1 g1 r1 q1=>?_;cases r1 with
 | nil=>exact q1.elim
 | cons h t=>
  cases t with
  | cons _ _=>cases h<;>exact q1.elim
  | nil=>
   cases h with
   | lst h r=>
    rename_i a xs ts;have q':(match iK ts with | some ns=>if ns.length<64 then M.ok (T.int (G4 ns:Int)) else .bad | none=>.bad).res (kV K F H Q) (kE E F1 H1):=q1;cases hi:iK ts with
    | none=>rw[hi] at q';exact q'.elim
    | some ns=>
     rw[hi] at q';dsimp only at q';by_cases hl:ns.length<64
     ·rw[aP hl] at q';have e:=mQ hi;subst e;have e2:=r.ints;subst e2;exact⟨a,ns,rfl,jq.of (g1.fh _ _ h),hl,(q':kV K F H Q _) _ F1 H1 g1 (.int _)⟩
     ·rw[aQ hl] at q';exact q'.elim
   | _=>exact q1.elim
theorem HK(hc:X.calm=true)(hm:X.mg "len" = none)(hm2:X.mg "set" = none)(ha:uB K E X [a] tr fr)(hK:X.K=K:=by rfl)(hg:Gl X "len" :=by rfl)(hg2:Gl X "set" :=by rfl)(hs:starEach [a] X.env=[(false,eval a X.env)]:=by rfl)
  (he:starEach [Expr.Call (.Name "set" p2) [a] [] pos2] X.env=[(false,eval (.Call (.Name "set" p2) [a] [] pos2) X.env)]:=by rfl) :
  Pm K E X (.Call (.Name "len" p) [.Call (.Name "set" p2) [a] [] pos2] [] pos) (Je K tr) (A7 fr):=by
 subst hK;exact⟨CU hc hg hm hg2 hm2 ha.pa hs he,Ie ha.ma⟩
theorem zd{ns:LI}(h:ns.Nodup):G4 ns=ns.length:=by
 have go:∀i,i<=ns.length->(firstMet (λi=>ns.getD i 0) i).length=i:=λi=>by
  induction i with
  | zero=>intro _;rfl
  | succ i ih=>
   intro hi;rw[firstMet_succ,step_length,ih (by omega),aQ];rw[firstMet_any];intro z;rw[List.any_eq_true] at z;obtain⟨x,hx,e⟩:=z;obtain⟨j,hj,rfl⟩:=aC.mp hx;have hj:=aR.mp hj;have e:ns.getD j 0=ns.getD i 0:=by simpa using e
   rw[af,af,ag (by omega:j<ns.length),ag (by omega:i<ns.length)] at e;have:=(List.getElem_inj h).mp (show ns[j]'(by omega)=ns[i]'(by omega) from e);omega
 exact go _ (aJ _)
end
end L3
namespace L3
open PySem L2 PySem.Spec PyProof.Rows
section
variable {K:W.Frag}{E:XK}{t ta:TE}{f fa:Pe->M T}{tr:TA}{F0:Fz}{H0 F H:Hp}{σ:L2.St}{ρ:En}{D:rF}
noncomputable def Ic(K:W.Frag)(E:XK)(t:TA)(f:Pe->M (List T×List T)):Prop:=∀F H σ ρ Q,eL F H->i9 K F σ ρ->(f ρ).res (λa=>∀ws l vs F' H',Gr F H F' H'->H l=none->F' l=none->H' l=some (.lst vs)->eI K F' ws a.1->eI K F' vs a.2->Q (ws++[.ref l]) H') (kE E F H)->t σ H Q
@[simp] noncomputable def zI(f:Pe->M (List T)):Pe->M (List T×List T):=λρ=>(f ρ).bind λus=>.ok ([],us)
@[simp] noncomputable def pZ(fa:Pe->M T)(fr:Pe->M (List T×List T)):Pe->M (List T×List T):=λρ=>(fa ρ).bind λx=>(fr ρ).bind λa=>.ok (x::a.1,a.2)
theorem Df{f:Pe->M (List T)}(h:MF K E t f):Ic K E (km t nQ) (zI f):=λF H σ ρ Q s V q=>h F H σ ρ _ s V ((M.res.unb q).mono (λus z l vs F' H' g a b c r=>z [] l vs F' H' g a b c .nil r) λ_ _ z=>z)
theorem BB{fr:Pe->M (List T×List T)}(ha:ME K E ta fa)(hr:Ic K E tr fr):Ic K E (km ta tr) (pZ fa fr):=λF H σ ρ Q s V q=>by refine ha.run s V q λx v F1 H1 g1 r1 q1=>?_;refine hr F1 H1 σ ρ _ g1.fh (V.mono g1.ff) ((M.res.unb q1).mono (λa z ws l vs F' H' g h1 h2 h3 r r'=>?_) λ_ _ z=>z);exact z (v::ws) l vs F' H' (g1.trans g) (eE g1.hh h1) h2 h3 (.cons (r1.mono g.ff) r) r'
@[simp] noncomputable def sE(f:Pe->M (List T×List T)):En->O:=λρ=>.of (f (vw ρ)) λa=>if a.1.length+1<=sizeLine then .rn a.1 a.2 else .bad
theorem Cw{f:Pe->M (List T×List T)}(h:Ic K E tr f):MS K E (t6 (Ar tr)) (sE f):=λF0 H0 F H σ ρ D r q=>by
 obtain⟨Fl,s0,g0,V,back⟩:=r.lend;refine h Fl H σ (vw ρ) _ g0.fh V ((O.res_of q).mono (λa z ws l vs F' H' g h1 h2 h3 rw_ rv=>?_) λC n z=>z.go g0);by_cases hz:a.1.length+1<=sizeLine
 ·rw[aP hz] at z;refine⟨by rw[aS,rw_.length];exact hz,λp hp=>?_⟩;have ne:p≠l:=λe=>by rw[e,h3] at hp;cases hp
  have g2:Gr F0.hp H0 F' (gL H' p (.tup (ws++[.ref l]))):=(g0.trans g).trans (.new' g.fh hp);exact (z:kT K F0.hp H0 D.rt a.1 a.2) p l ws vs F' _ g2 (eE g0.hh h1) h2 (eE (g0.trans g).hh hp) (eE g.fh hp) ne (by rw[eD (Ne.symm ne)];exact h3) eC rw_ rv
 ·rw[aQ hz] at z;exact z.elim
noncomputable def G5(K:W.Frag)(F:List T->M (List T×List T)):Sp:=λvs H Q E=>∃ts F0,eL F0 H/\eI K F0 vs ts/\(F ts).res (λa=>kT K F0 H Q a.1 a.2) (kE E F0 H)
@[simp] noncomputable def IR:O->M (List T×List T)
 | .rn ts us=>.ok (ts,us)
 | .er C n=>.er C n
 | _=>.bad
@[simp] noncomputable def Ez(k n:Nat)(g:En->O):List T->M (List T×List T):=λts=>if ts.length=k then IR (g (eN n ts)) else .bad
theorem Du{k n:Nat}{g:En->O}{vs:List V}{Q:VK}(h:G5 K (Ez k n g) vs H Q E):vs.length=k:=by
 obtain⟨ts,F0,s,r,q⟩:=h;unfold Ez at q;by_cases hk:ts.length=k
 ·rw[r.length];exact hk
 ·rw[aQ hk] at q;exact q.elim
theorem AJ{k:Nat}{N:List Str}{g:En->O}{t:TS}{vs:List V}{Q:VK}(hm:MS K E t g)(h:G5 K (Ez k N.length g) vs H Q E):t {nx:=λ_ H'=>Q .non H',rt:=Q} (ju N vs) H:=by
 obtain⟨ts,F0,s,r,q⟩:=h;unfold Ez at q;by_cases hk:ts.length=k
 ·rw[aP hk] at q;refine hm ⟨F0,[]⟩ H F0 H _ _ _ (qT s r) ?_;cases e:g (eN N.length ts) with
  | rn ts us=>rw[e] at q;exact q
  | er C n=>rw[e] at q;exact q
  | _=>rw[e] at q;exact q.elim
 ·rw[aQ hk] at q;exact q.elim
@[simp] noncomputable def xH(fr:Pe->M (List T))(Fn:List T->M (List T×List T)):En->O:=λρ=>.of (fr (lK ρ)) λxs=>.of (Fn xs).noEr λa=>if a.2.length<sizeLine then .nx ρ else .bad
end
section
variable {P:Program}{w:World}{K:W.Frag}{mg:Str->Option Value}{base:Heap}{x:Str}{st:Stmt}{g:En->O}
theorem HY(_:Zx P w K mg base)(k:Nat)(F:List T->M (List T×List T))(N ps:List Str)(e:F=Ez ps.length N.length g)(D:ee K mg x st)(hT:G0 P w K mg base k x st N g)(S:gd N ps (dY st):=by constructor<;>first | rfl | decide +kernel)
  (hb:G7 x x st ps:=by first | exact λ_ _ _ _ _ _ _ _=>rfl | exact λ_ _ _ _ _ _ _=>rfl | exact λ_ _ _ _ _ _ _ _ _=>rfl) :
  iJ P w K mg base x (k+1) (G5 K F):=e▸uj D S (λa b c d e f us hl=>lq (hb a b c d e f) us hl) (λvs H Q E h=>Du h) λf cdv A outer s H vs Q E hr h=>let ⟨t,hp⟩:=hT (E:=E) S.nd (λ_ h=>jJ h) hr;⟨t,hp.ps,AJ hp.ms h⟩
noncomputable abbrev CN(_:Zx P w K mg base)(x:Str)(k:Nat)(F:List T->M (List T×List T)):Prop:=iJ P w K mg base x k (G5 K F)
end
section
variable {K:W.Frag}{E:XK}{X:Cx}{e:Expr}{es:List Expr}{te:TE}{fe:Pe->M T}{ff:Pe->M (List T)}{tr:TA}{fr:Pe->M (List T×List T)}{pos pos' p p2 p3 p4 p5 pc apos pos2:Pos}{x y:Str}
structure CG(K:W.Frag)(E:XK)(X:Cx)(es:List Expr)(t:TA)(f:Pe->M (List T×List T)):Prop where
 pa:PA X es t
 man:Ic K E t f
theorem pS(h:y0 K E X e te ff)(hs:starEach [e] X.env=(false,eval e X.env)::starEach [] X.env:=by rfl):CG K E X [e] (km te nQ) (zI ff):=⟨jE h.pe lU hs,Df h.mf⟩
theorem kX(ha:Pm K E X e te fe)(hr:CG K E X es tr fr)(hs:starEach (e::es) X.env=(false,eval e X.env)::starEach es X.env:=by rfl):CG K E X (e::es) (km te tr) (pZ fe fr):=⟨jE ha.pe hr.pa hs,BB ha.me hr.man⟩
theorem nN{x1}(h:CG K E X es tr fr):rg K E X (.Return (some (.Tuple es x1 pos)) pos') (t6 (Ar tr)) (sE fr):=⟨tM (Aj h.pa),Cw h.man⟩
@[simp] noncomputable def E6(fr:Pe->M (List T)):Pe->M (List T):=λρ=>(fr ρ).bind λxs=>match xs with
 | [.int j]=>if 0<=j/\j<=1000 then .ok (pK 0 j.toNat) else .bad
 | _=>.bad
theorem Hx{fr:Pe->M (List T)}(ha:MA K E tr fr):MF K E (IY tr) (E6 fr):=λF H σ ρ Q s va q=>by
 refine ha.run s va q λxs ws F1 H1 g1 r1 q1=>?_;split at q1
 ·rename_i j;split at q1
  ·rename_i hj;cases r1 with
   | cons a b=>
    cases a;cases b;refine⟨j.toNat,by rw[cL hj.1],by omega,λp hp=>?_⟩;refine (q1:kF K F H Q _) p _ F1 _ (g1.trans (.new' g1.fh hp)) (eE g1.hh hp) (eE g1.fh hp) eC ?_;have e1:pK 0 j.toNat=((List.range j.toNat).map λ(i:Nat)=>(i:Int)).map T.int:=by rw[qe,aH];exact List.map_congr_left λi _=>by simp
    have e2:((List.range j.toNat).map λ(i:Nat)=>V.int (i:Int))=((List.range j.toNat).map λ(i:Nat)=>(i:Int)).map V.int:=by rw[aH];rfl
    rw[e1,e2];exact eI.of_ints _
  ·exact q1.elim
 ·exact q1.elim
theorem EB{fr:Pe->M (List T)}(hc:X.calm=true)(hm:X.mg "list" = none)(hm2:X.mg "range" = none)(ha:uB K E X [e] tr fr)(hg:Gl X "list" :=by rfl)(hg2:Gl X "range" :=by rfl)(hs:starEach [e] X.env=[(false,eval e X.env)]:=by rfl)
  (he:starEach [Expr.Call (.Name "range" p2) [e] [] pos2] X.env=[(false,eval (.Call (.Name "range" p2) [e] [] pos2) X.env)]:=by rfl) :
  y0 K E X (.Call (.Name "list" p) [.Call (.Name "range" p2) [e] [] pos2] [] pos) (IY tr) (E6 fr):=⟨AO hc hg hm hg2 hm2 ha.pa hs he,Hx ha.ma⟩
@[simp] noncomputable def sD(i j:Nat)(fk:En->M T):En->O:=λρ=>.of (i8 ρ i) λts=>.of (i8 ρ j) λus=>.of (fk ρ) λk=>match k with
 | .int k=>if 0<=k/\k<1000/\i≠j/\ts.length<sizeLine then (match us[k.toNat]? with
  | some y=>.nx ((ρ.set j (some (.o (us.eraseIdx k.toNat)))).set i (some (.o (ts++[y]))))
  | none=>.bad) else .bad
 | _=>.bad
theorem eI.eraseIdx{F:Hp}:∀{vs:List V} {ts:List T} (n:Nat),eI K F vs ts->eI K F (vs.eraseIdx n) (ts.eraseIdx n)
 | _,_,_,.nil=>.nil
 | _,_,0,.cons _ r=>r
 | _,_,n+1,.cons h r=>.cons h (eI.eraseIdx n r)
def EL(K:W.Frag)(i j:Nat)(te:TE):TE:=Bc K i (Ir K "list" Bu (kW j) (km te nQ))
theorem Ca{i j:Nat}(ht:∀l xs H,H l=some (.lst xs)->Gz K "list" (.ref l) H)(h:ME K E te fe):MS K E (n5 (EL K i j te)) (sD i j (kJ fe)):=λF0 H0 F H σ ρ D r q=>by
 unfold sD at q;cases e:i8 ρ i with
 | bad=>rw[e] at q;exact q.elim
 | er C n=>unfold i8 at e;split at e<;>cases e
 | ok ts=>
  cases e2:i8 ρ j with
  | bad=>rw[e,e2] at q;exact q.elim
  | er C n=>unfold i8 at e2;split at e2<;>cases e2
  | ok us=>
   rw[e,e2] at q;have e':=lR e;have e2':=lR e2;obtain⟨ad,h1,h2⟩:=r.ov;obtain⟨a,_,_,vs,d,_⟩:=h1 i ts e';obtain⟨a2,_,_,vs2,d2,_⟩:=h1 j us e2';refine⟨_,a,ht _ _ _ d,_,a2,ht _ _ _ d2,?_⟩;refine h.inB r q λx v F' H' g rp r' q'=>?_;cases rp with
   | int k=>
    dsimp only at q';split at q'
    ·rename_i hc;obtain⟨k0,k1,ij,tl⟩:=hc;cases ey:us[k.toNat]? with
     | none=>rw[ey] at q';exact q'.elim
     | some y=>
      rw[ey] at q';obtain⟨ad',h1',h2'⟩:=r'.ov;obtain⟨b2,_,_,ws,d3,z3⟩:=h1' j us e2';obtain⟨w,ew,rw_⟩:=z3.get ey;obtain⟨l,vs',c1,c2,c3,r2⟩:=r'.change e2' (us:=us.eraseIdx k.toNat) (ws:=ws.eraseIdx k.toNat) (z3.eraseIdx _);rw[a2] at c1;cases c1;rw[a2] at b2;have eab:ad j=ad' j:=by simpa using b2
      rw[<-eab] at d3;rw[d3] at c2;cases c2;have kl:k.toNat<ws.length:=(aa.mp ew).1;have si:seqIndex? k ws.length=some k.toNat:=by
       unfold seqIndex?;have n0:¬k<0:=by omega
       have hk2:k<(ws.length:Int):=by omega
       simp only[n0,if_false];simp[k0,hk2]
      have b63:(1000:Int)<2 ^ 63:=by decide
      have b64:-(2 ^ 63:Int)<=0:=by decide
      refine⟨ad j,ws,k,k.toNat,w,rfl,rfl,d3,Int.le_trans b64 k0,Int.lt_trans k1 b63,si,ew,?_⟩;have e3:(ρ.set j (some (.o (us.eraseIdx k.toNat))))[i]? = some (some (.o ts)):=by rw[aq (Ne.symm ij)];exact e'
      obtain⟨l2,a4,q4⟩:=rd (D:=D) (E:=E) r2 e3 (x:=y) (v:=w) rw_ (by rw[aP tl];exact q');rw[a] at a4;cases a4;exact q4
    ·exact q'.elim
   | _=>exact q'.elim
theorem A4(i j:Nat)(hv:PE X (.Name x p) (kW i))(hw:PE X (.Name y p2) (kW j))(ha:Pm K E X e te fe)(hK:X.K=K:=by rfl)
  (hs:starEach [e] X.env=(false,eval e X.env)::starEach [] X.env:=by rfl)
  (hs2:starEach [Expr.Call (.Attribute (.Name y p2) "pop" p3) [e] [] p4] X.env=(false,eval (.Call (.Attribute (.Name y p2) "pop" p3) [e] [] p4) X.env)::starEach [] X.env:=by rfl)
  (hb1:attributeBase (.Name x p) "append" X.env (eval (.Name x p) X.env)=eval (.Name x p) X.env:=by rfl)
  (hb2:attributeBase (.Name y p2) "pop" X.env (eval (.Name y p2) X.env)=eval (.Name y p2) X.env:=by rfl)
  (hf1:((backTo pos (starEach [Expr.Call (.Attribute (.Name y p2) "pop" p3) [e] [] p4] X.env)).all (λx=>!x.1)&&(backToKw pos (keywordEach [] X.env)).all (λx=>x.1.isSome)&&decide (([Expr.Call (.Attribute (.Name y p2) "pop" p3) [e] [] p4]:List Expr).length+([]:List Keyword).length+(if ([]:List Keyword).isEmpty then 0 else 1)<30))=true:=by rfl)
  (hf2:((backTo p4 (starEach [e] X.env)).all (λx=>!x.1)&&(backToKw p4 (keywordEach [] X.env)).all (λx=>x.1.isSome)&&decide (([e]:List Expr).length+([]:List Keyword).length+(if ([]:List Keyword).isEmpty then 0 else 1)<30))=true:=by rfl)
  (hl1:(apos.endLine == pos.line)=true:=by rfl) (hl2:(p3.endLine == p4.line)=true:=by rfl) (hp1:(backTo pos (starEach [] X.env)).any (·.1)=false:=by rfl) (hp2:(backTo p4 (starEach [] X.env)).any (·.1)=false:=by rfl)
  (hsw:swapsWith (.Call (.Attribute (.Name x p) "append" apos) [.Call (.Attribute (.Name y p2) "pop" p3) [e] [] p4] [] pos) none pos'.line X.env=pure false:=by rfl) :
  rg K E X (.Expr (.Call (.Attribute (.Name x p) "append" apos) [.Call (.Attribute (.Name y p2) "pop" p3) [e] [] p4] [] pos) pos') (n5 (EL K i j te)) (sD i j (kJ fe)):=by
 subst hK;have hpop:=uC PySem.F.plainAttrs_list PySem.F.slot_list_pop PySem.F.type_list_pop BK hw (jE ha.pe lU hs) hb2 hf2 hl2 hs hp2;exact⟨pM (uC PySem.F.plainAttrs_list PySem.F.slot_list_append PySem.F.type_list_append mv hv (jE hpop lU hs2) hb1 hf1 hl1 hs2 hp1) hsw,Ca (λl xs H h=>uy h) ha.me⟩
noncomputable def HV(K:W.Frag)(Fn:List T->M (List T×List T))(E0:XK)(tr:TA):TE:=Ir K "list" pQ (rh (Iz K) (qY (G5 K Fn) [] E0 tr) (Iw (rU λi=>.int (-i)) (tC (.int 1)))) (km (tC (.int 0)) nQ)
theorem E3{ga:Pe->M (List T)}{Fn:List T->M (List T×List T)}{E0:XK}(ht:∀l xs H,H l=some (.lst xs)->Gz K "list" (.ref l) H)(h:MA K E tr ga):MS K E (n5 (HV K Fn E0 tr)) (xH ga Fn):=λF0 H0 F H σ ρ D r q=>by
 unfold xH at q;refine h F H σ (lK ρ) _ r.gr.fh r.vars ((O.res_of q).mono (λxs z vs F1 H1 g1 r1=>?_) λC n z=>z.go r.gr);refine⟨xs,F1,g1.fh,by rw[bG];exact r1,?_⟩;cases ef:Fn xs with
 | bad=>rw[ef] at z;exact z.elim
 | er C n=>rw[ef] at z;exact z.elim
 | ok a=>
  rw[ef] at z;intro pp l ws us F' H' g hl fl hp fp ne el ep rw_ ru;have z':(if a.2.length<sizeLine then O.nx ρ else .bad).res K E F0 H0 F D:=z;by_cases hz:a.2.length<sizeLine
  ·rw[aP hz] at z';have at_:lP (ws++[V.ref l]) (-1)=some (.ref l):=by rw[L2.vE]
   refine⟨1,rfl,.inr (.inl ⟨pp,ws++[.ref l],-1,.ref l,rfl,rfl,jR.of ep,at_,ht _ _ _ el,l,us,.int 0,rfl,rfl,el,by rw[ru.length];exact hz,?_⟩)⟩;have gg:=g1.trans g;have fl0:F l=none:=eE gg.ff fl;have hl0:H l=none:=eE g1.hh hl;have g':Gr F H F (gL H' l (.lst (us++[.int 0]))):=⟨.refl _,λb u eb=>by rw[eD (eO eb fl0)];exact gg.fh b u (gg.ff b u eb),λb u eb=>by rw[eD (eO eb hl0)];exact gg.hh b u eb,λb hb=>.inl hb⟩;exact (z':kN K F0 H0 F D.nx ρ) F _ σ (.refl _) (r.grow g')
  ·rw[aQ hz] at z';exact z'.elim
theorem Eg{ga:Pe->M (List T)}{Fn:List T->M (List T×List T)}{a:Expr}{k j:Nat}{jj j0:Nat}(h:iJ X.prog X.w X.K X.mg X.base x j (G5 K Fn))(hr:gh k X.A)(ha:uB K E X (a::es) tr ga)(hk:j<=k:=by decide)(hg:Gl X x:=by rfl)
  (hdb:(x == ("__debug__" : Str))=false:=by decide) (he:starEach (a::es) X.env=(false,eval a X.env)::starEach es X.env:=by rfl) (hpl:(backTo pc (starEach es X.env)).any (·.1)=false:=by rfl) (hK:X.K=K:=by rfl)
  (hix:tm (.UnaryOp .USub (.Constant (.int 1) jj p2) p3):=by intro _ _;rfl)
  (hs2:starEach [Expr.Constant (.int 0) j0 p5] X.env=(false,eval (.Constant (.int 0) j0 p5) X.env)::starEach [] X.env:=by rfl)
  (hb1:attributeBase (.Subscript (.Call (.Name x p) (a::es) [] pc) (.UnaryOp .USub (.Constant (.int 1) jj p2) p3) p4) "append" X.env (eval (.Subscript (.Call (.Name x p) (a::es) [] pc) (.UnaryOp .USub (.Constant (.int 1) jj p2) p3) p4) X.env)=eval (.Subscript (.Call (.Name x p) (a::es) [] pc) (.UnaryOp .USub (.Constant (.int 1) jj p2) p3) p4) X.env:=by rfl)
  (hf1:((backTo pos (starEach [Expr.Constant (.int 0) j0 p5] X.env)).all (λx=>!x.1)&&(backToKw pos (keywordEach [] X.env)).all (λx=>x.1.isSome)&&decide (([Expr.Constant (.int 0) j0 p5]:List Expr).length+([]:List Keyword).length+(if ([]:List Keyword).isEmpty then 0 else 1)<30))=true:=by rfl)
  (hl1:(apos.endLine == pos.line)=true:=by rfl) (hp1:(backTo pos (starEach [] X.env)).any (·.1)=false:=by rfl)
  (hsw:swapsWith (.Call (.Attribute (.Subscript (.Call (.Name x p) (a::es) [] pc) (.UnaryOp .USub (.Constant (.int 1) jj p2) p3) p4) "append" apos) [.Constant (.int 0) j0 p5] [] pos) none pos'.line X.env=pure false:=by rfl) :
  rg K E X (.Expr (.Call (.Attribute (.Subscript (.Call (.Name x p) (a::es) [] pc) (.UnaryOp .USub (.Constant (.int 1) jj p2) p3) p4) "append" apos) [.Constant (.int 0) j0 p5] [] pos) pos') (n5 (HV K Fn E0 tr)) (xH ga Fn):=by
 subst hK;exact⟨pM (uC PySem.F.plainAttrs_list PySem.F.slot_list_append PySem.F.type_list_append mv (Eu Ax (qJ (h.mono hk) hr ha.pa hg hdb he hpl) (EE Ad wd) hix) (jE wd lU hs2) hb1 hf1 hl1 hs2 hp1) hsw,E3 (λl xs H h=>uy h) ha.ma⟩
end
end L3
namespace CL
open PySem L2 L3
structure Cs where
 Cutting:Addr
 Desk:Addr
 CutError:Addr
 NoCutting:Addr
 NoTable:Addr
 NoFraction:Addr
 NoSpot:Addr
 NoSigns:Addr
 NoLand:Addr
 NoFace:Addr
 NoNumber:Addr
 NoText:Addr
 NoDeed:Addr
def nG(c:Cs):En->O:=(eh (setO 2 (gN (ed oN (dJ 0) (dJ 1))))
  (eh (setO 0 (gN (dJ 1)))
  (setO 1 (gN (dJ 2)))))
def oJ(c:Cs):En->O:=(eh (λρ=>jz (fz (ed (eG true) (dJ 1) (cM (.int 0)))) (nG c) ((λρ=>match ρ with | _::some (.p (.int j))::_=>j.natAbs+1 | _=>0) ρ) ρ)
  (eY (h8 uJ (dI (dJ 0) dQ))))
def eW(c:Cs):List T->M T:=jv 2 3 (oJ c)
def Fc(c:Cs):En->O:=(eh (jF (fz (ed (eG false) (dJ 1) (cM (.int 0)))) (λ_=>.bad) eZ)
  (eh (setO 2 (gN (dX (dI (dJ 0) (dI (dJ 1) dQ)) (eW c))))
  (eh (jF (fz (ed Ey (dJ 1) (cM (.int 0)))) (setO 2 (gN (zH (λi=>.int (-i)) (dJ 2)))) eZ)
  (eY (mB (dI (ed lI (dJ 0) (dJ 2)) (dI (ed lI (dJ 1) (dJ 2)) dQ)))))))
def ke(c:Cs):List T->M T:=jv 2 3 (Fc c)
def FZ(c:Cs):En->O:=(eh (jF (fz (ed (eG false) (ed fF (dJ 1) (cM (.int 0))) (cM (.int 0)))) (λ_=>.bad) eZ)
  (eY (dX (dI (ed fT (ed fF (dJ 0) (cM (.int 0))) (ed fF (dJ 1) (cM (.int 1)))) (dI (ed fT (ed fF (dJ 0) (cM (.int 1))) (ed fF (dJ 1) (cM (.int 0)))) dQ)) (ke c))))
def qd(c:Cs):List T->M T:=jv 2 2 (FZ c)
def kx(c:Cs):En->O:=(eh (jF (fz (ed Ey (dJ 1) (h8 gP (dI (dJ 0) dQ)))) (eY (ed fF (dJ 0) (dJ 1))) eZ)
  (eY (cM (.int 0))))
def eS(c:Cs):List T->M T:=jv 2 2 (kx c)
def vi(c:Cs):En->O:=(eY (ng (j4 "int" (dJ 0)) (zj (j4 "bool" (dJ 0)))))
def fR(c:Cs):List T->M T:=jv 1 1 (vi c)
def rO(c:Cs):En->O:=(Ej 0 1 (dI (dJ 1) (dI (ed oN (dJ 0) (dJ 1)) dQ)))
def tH(c:Cs):En->O:=(eh (setO 0 (gN (h8 uJ (dI (dJ 0) dQ))))
  (eh (setO 1 (gN (h8 uJ (dI (dJ 1) dQ))))
  (eh (λρ=>jz (fz (ed Dq (dJ 1) (cM (.int 0)))) (rO c) ((λρ=>match ρ with | _::some (.p (.int j))::_=>j.natAbs+1 | _=>0) ρ) ρ)
  (eY (dJ 0)))))
def iz(c:Cs):List T->M T:=jv 2 2 (tH c)
def nO(c:Cs):En->O:=(eh (jF (nj (gK (fz (j4 "tuple" (dJ 0)))) (nj (fz (ed (eG true) (h8 gP (dI (dJ 0) dQ)) (cM (.int 2)))) (nj (gK (fz (dX (dI (ed fF (dJ 0) (cM (.int 0))) dQ) (fR c)))) (gK (fz (dX (dI (ed fF (dJ 0) (cM (.int 1))) dQ) (fR c))))))) (eY (cM (.bl false))) eZ)
  (eY (ng (ed Dq (ed fF (dJ 0) (cM (.int 1))) (cM (.int 0))) (ed (eG false) (dX (dI (ed fF (dJ 0) (cM (.int 0))) (dI (ed fF (dJ 0) (cM (.int 1))) dQ)) (iz c)) (cM (.int 1))))))
def gp(c:Cs):List T->M T:=jv 1 1 (nO c)
def Dl(c:Cs):En->O:=(eY (dX (dI (ed qb (ed fT (ed fF (dJ 0) (cM (.int 0))) (ed fF (dJ 1) (cM (.int 1)))) (ed fT (ed fF (dJ 1) (cM (.int 0))) (ed fF (dJ 0) (cM (.int 1))))) (dI (ed fT (ed fF (dJ 0) (cM (.int 1))) (ed fF (dJ 1) (cM (.int 1)))) dQ)) (ke c)))
def nU(c:Cs):List T->M T:=jv 2 2 (Dl c)
def C9(c:Cs):En->O:=(eY (dX (dI (ed fT (ed fF (dJ 0) (cM (.int 0))) (ed fF (dJ 1) (cM (.int 0)))) (dI (ed fT (ed fF (dJ 0) (cM (.int 1))) (ed fF (dJ 1) (cM (.int 1)))) dQ)) (ke c)))
def nz(c:Cs):List T->M T:=jv 2 2 (C9 c)
def wz(c:Cs):En->O:=(eY (ng (j4 "int" (dJ 0)) (zj (j4 "bool" (dJ 0)))))
def f9(c:Cs):List T->M T:=jv 1 1 (wz c)
def qO(c:Cs):En->O:=(eY (ng (dX (dI (dJ 0) dQ) (f9 c)) (IH HB Ey (cM (.int 0)) (dJ 0) (dJ 1))))
def ib(c:Cs):List T->M T:=jv 2 2 (qO c)
def yY(c:Cs):En->O:=(eh (jF (fz (ed Dq (dJ 0) (cM (.int 0)))) (eY (cM (.int 1))) eZ)
  (eh (jF (fz (ed Ey (dJ 0) (cM (.int 0)))) (eY (zH (λi=>.int (-i)) (cM (.int 1)))) eZ)
  (eY (cM (.int 0)))))
def kP(c:Cs):List T->M T:=jv 1 1 (yY c)
def yH(c:Cs):En->O:=(eY (ng (dX (dI (dJ 0) dQ) (f9 c)) (IH HB HB (cM (.int 1)) (dJ 0) (cM (.int 3)))))
def jX(c:Cs):List T->M T:=jv 1 1 (yH c)
def ou(c:Cs):Pe->M T:=(dX (dI (dJ 0) dQ) (f9 c))
def oB(c:Cs):Pe->M T:=(ed (eG true) (dJ 0) (cM (.int 0)))
def AR(c:Cs):En->O:=(eh (jF (nj (gK (fz (j4 "tuple" (dJ 1)))) (fz (ed (eG true) (h8 gP (dI (dJ 1) dQ)) (ed gR (dJ 0) (cM (.int 1)))))) (eY (cM (.bl false))) eZ)
  (eh (jF (gK (fz (h8 uo (dI (fK (gS [none] (fB (dJ 1)) (gM 0) (λ_=>.ok true) (ou c))) dQ)))) (eY (cM (.bl false))) eZ)
  (eY (h8 wC (dI (fK (gS [none] (fB (lj (dJ 1) (λ_=>.ok none) (jd (dJ 0)))) (gM 0) (λ_=>.ok true) (oB c))) dQ)))))
def kL(c:Cs):List T->M T:=jv 2 2 (AR c)
def mq(c:Cs):En->O:=(setO 1 (gN (ed gR (dJ 1) (cM (.int 1)))))
def rP(c:Cs):En->O:=(eh (setO 1 (gN (cM (.int 0))))
  (eh (λρ=>jz (fz (ed (eG false) (ed fF (dJ 0) (dJ 1)) (cM (.int 0)))) (mq c) ((λρ=>match ρ with | some (.p (.tup ts))::_=>ts.length+1 | _=>0) ρ) ρ)
  (eY (dJ 1))))
def iP(c:Cs):List T->M T:=jv 1 2 (rP c)
def mG(c:Cs):Pe->M T:=(ed (eG false) (ed fT (dJ 0) (ed fF (dJ 2) (dJ 3))) (ed fT (dJ 1) (ed fF (dJ 4) (dJ 3))))
def tG(c:Cs):En->O:=(eh (setO 2 (gN (dX (dI (dJ 0) dQ) (iP c))))
  (eY (h8 uo (dI (fK (gS [none,none,some 1,some 2,some 0] (mn (dI (dJ 0) (dI (dJ 1) dQ))) (nh 2 (gz (gM 0) (gz (gM 1) mZ))) (λ_=>.ok true) (mG c))) dQ))))
def jk(c:Cs):List T->M T:=jv 2 3 (tG c)
def lD(c:Cs):Pe->M T:=(dX (dI (dJ 0) (dI (dJ 1) dQ)) (jk c))
def uW(c:Cs):En->O:=(eh (jF (nj (fz (ed Hk (h8 gP (dI (dJ 1) dQ)) (cM (.int 7)))) (gK (fz (dX (dI (dJ 0) (dI (dJ 2) dQ)) (kL c))))) (eY (cM (.bl false))) eZ)
  (eY (zj (h8 wC (dI (fK (gS [none,some 2] (fB (dJ 1)) (gM 0) (λ_=>.ok true) (lD c))) dQ)))))
def iY(c:Cs):List T->M T:=jv 3 3 (uW c)
def lH(c:Cs):En->O:=(eh (jF (gK (fz (dX (dI (dJ 0) (dI (dJ 2) (dI (dJ 3) dQ))) (iY c)))) (λ_=>.bad) eZ)
  (mz 2 (gN (h8 iA (dI (dJ 3) dQ)))))
def pW(c:Cs):En->O:=(eh (jF (nj (gK (fz (dX (dI (dJ 0) dQ) (jX c)))) (gK (fz (j4 "list" (dJ 1))))) (λ_=>.bad) eZ)
  (eh (jV 2 (lb (lstM dQ)))
  (eh (lO (fB (dJ 1)) (iV 3) (lH c))
  (eY (h8 iA (dI (dJ 2) dQ))))))
def gF(c:Cs):List T->M T:=jv 2 4 (pW c)
def gE(c:Cs):List T->M T:=r9 c.Cutting 2 "own_cuts" "own_dims" (dX (dI (dJ 1) (dI (dJ 2) dQ)) (gF c)) (dJ 1)
def p9(c:Cs):En->O:=(eY (uZ c.Cutting "own_dims" (dJ 0)))
def f6(c:Cs):List T->M T:=jv 1 1 (p9 c)
def qf(c:Cs):En->O:=(oY (vS jh (dI (uZ c.Cutting "own_cuts" (dJ 0)) dQ)))
def fZ(c:Cs):List T->M (List T):=uA 1 1 (qf c)
def qE(c:Cs):En->O:=(eY (h8 gP (dI (uZ c.Cutting "own_cuts" (dJ 0)) dQ)))
def gD(c:Cs):List T->M T:=jv 1 1 (qE c)
def uE(c:Cs):En->O:=(setO 3 (gN (ed lI (dJ 3) (dJ 2))))
def xv(c:Cs):En->O:=(eh (jF (fz (ed Hk (dJ 0) (ed nR (cM (.int 10)) (cM (.int 18))))) (eh (setO 3 (gN (dJ 0)))
  (eh (lS (iM (dI (dJ 1) dQ)) (iV 4) (uE c))
  (eY (ed oN (dJ 3) (dJ 2))))) eZ)
  (eh (setO 5 (gN (ed oN (ed fT (ed gR (ed gR (ed oN (dJ 0) (cM (.int 1000000007))) (ed fT (cM (.int 1009)) (dJ 1))) (cM (.int 17))) (cM (.int 69621))) (cM (.int 2147483647)))))
  (eh (setO 5 (gN (ed oN (ed gR (ed gR (ed fT (dJ 5) (dJ 5)) (ed fT (cM (.int 40503)) (dJ 1))) (cM (.int 5))) (cM (.int 2147483629)))))
  (eY (ed oN (ed lI (ed oN (ed fT (dJ 5) (cM (.int 48271))) (cM (.int 2147483647))) (cM (.int 32))) (dJ 2))))))
def eg(c:Cs):List T->M T:=jv 3 6 (xv c)
def pC(c:Cs):En->O:=(jF (fz (ed (eG true) (ed fT (ed fF (dJ 0) (dJ 2)) (ed fF (dJ 1) (dJ 3))) (ed fT (ed fF (dJ 0) (dJ 3)) (ed fF (dJ 1) (dJ 2))))) (eY (cM (.bl false))) eZ)
def oX(c:Cs):En->O:=(lS (iM (dI (dJ 2) dQ)) (iV 3) (pC c))
def wI(c:Cs):En->O:=(eh (lS (iM (dI (h8 gP (dI (dJ 0) dQ)) dQ)) (iV 2) (oX c))
  (eY (cM (.bl true))))
def iq(c:Cs):List T->M T:=jv 2 4 (wI c)
def qC(c:Cs):Pe->M T:=(ed qb (dX (dI (dJ 1) (dI (dJ 0) (dI (cM (.int 7)) dQ))) (eg c)) (cM (.int 3)))
def qM(c:Cs):Pe->M T:=(ed fT (dJ 0) (dJ 1))
def qI(c:Cs):Pe->M T:=(ed fT (dJ 0) (dJ 1))
def sh(c:Cs):En->O:=(eh (jV 3 (lb (gS [none,some 0] (iM (dI (dJ 1) dQ)) (gM 0) (λ_=>.ok true) (qC c))))
  (eh (jF (fz (ed (eG false) (dJ 3) (fK (pJ (fK (lstM (dI (cM (.int 0)) dQ))) (dJ 1))))) (pE 3 (kJ (dX (dI (dJ 0) (dI (cM (.int 4)) (dI (dJ 1) dQ))) (eg c))) (kJ (ed gR (cM (.int 1)) (dX (dI (dJ 0) (dI (cM (.int 5)) (dI (cM (.int 3)) dQ))) (eg c))))) eZ)
  (eh (setO 4 (gN (ed qb (dX (dI (dJ 0) (dI (cM (.int 6)) (dI (cM (.int 9)) dQ))) (eg c)) (cM (.int 4)))))
  (eh (setO 5 (gN (dX (dI (dJ 0) (dI (cM (.int 7)) (dI (cM (.int 7)) dQ))) (eg c))))
  (eh (jF (nv (fz (ed (eG false) (dJ 5) (cM (.int 1)))) (fz (ed (eG true) (dJ 2) (fK (lstM dQ))))) (jV 3 (lb (vS jh (dI (lj (ed fF (dJ 2) (dX (dI (dJ 0) (dI (cM (.int 8)) (dI (h8 gP (dI (dJ 2) dQ)) dQ))) (eg c))) (λ_=>.ok none) (jd (dJ 1))) dQ)))) eZ)
  (eh (jF (nj (fz (ed (eG false) (dJ 5) (cM (.int 2)))) (fz (ed (eG false) (dJ 5) (cM (.int 3))))) (setO 4 (kJ (h8 ur (dI (fK (gS [none,none] (mn (dI (dJ 3) (dI (fK (lstM (dI (cM (.int 1)) (dI (cM (.int 2)) (dI (zH (λi=>.int (-i)) (cM (.int 1))) dQ))))) dQ))) (nh 2 (gz (gM 0) (gz (gM 1) mZ))) (λ_=>.ok true) (qM c))) dQ)))) eZ)
  (eh (jF (fz (ed (eG false) (dJ 5) (cM (.int 4)))) (eh (setO 6 (gN (ed fT (ed gR (cM (.int 1)) (dX (dI (dJ 0) (dI (cM (.int 9)) (dI (ed nR (cM (.int 10)) (cM (.int 6))) dQ))) (eg c))) (ed fF (fK (lstM (dI (cM (.int 1)) (dI (cM (.int 1)) (dI (ed nR (cM (.int 10)) (cM (.int 18))) dQ))))) (dX (dI (dJ 0) (dI (cM (.int 11)) (dI (cM (.int 3)) dQ))) (eg c))))))
  (eh (jV 3 (yM (gS [none,some 6] (fB (dJ 3)) (gM 0) (λ_=>.ok true) (qI c))))
  (setO 4 (gN (ed gR (ed fT (dJ 4) (dJ 6)) (dX (dI (dJ 0) (dI (cM (.int 10)) (dI (cM (.int 7)) dQ))) (eg c))))))) eZ)
  (eY (h8 iA (dI (fK (ox (dJ 3) (fK (lstM (dI (dJ 4) dQ))))) dQ))))))))))
def oO(c:Cs):List T->M T:=jv 3 7 (sh c)
def l9(c:Cs):Pe->M T:=(dJ 0)
def pz(c:Cs):En->O:=(eh (setO 6 (kJ (dX (dI (dX (dI (dJ 0) (dI (ed gR (dJ 1) (dJ 5)) dQ)) (eS c)) (dI (dJ 2) (dI (dJ 4) dQ))) (oO c))))
  (jF (fz (ed (eG false) (fK (gS [none,some 6] (fB (dJ 4)) (gM 0) (fz (dX (dI (dJ 1) (dI (dJ 0) dQ)) (iq c))) (l9 c))) (fK (lstM dQ)))) (mz 4 (gN (dJ 6))) eZ))
def wj(c:Cs):En->O:=(eh (jV 4 (lb (lstM dQ)))
  (eh (lS (iM (dI (dJ 3) dQ)) (iV 5) (pz c))
  (lA 4)))
def qi(c:Cs):List T->M (List T):=uA 4 7 (wj c)
def se(c:Cs):En->O:=(eh (setO 1 (gN (dX (dI (dJ 1) (dI (dJ 2) dQ)) (eW c))))
  (jF (fz (ed (eG false) (dJ 1) (cM (.int 1)))) (eY (dJ 0)) eZ))
def zh(c:Cs):Pe->M T:=(ed lI (dJ 0) (dJ 1))
def Ag(c:Cs):En->O:=(eh (setO 1 (gN (cM (.int 0))))
  (eh (lO (fB (dJ 0)) (iV 2) (se c))
  (eh (jF (fz (ed (eG false) (dJ 1) (cM (.int 0)))) (eY (dJ 0)) eZ)
  (eY (h8 iA (dI (fK (gS [none,some 1] (fB (dJ 0)) (gM 0) (λ_=>.ok true) (zh c))) dQ))))))
def kh(c:Cs):List T->M T:=jv 1 3 (Ag c)
def wo(c:Cs):Pe->M T:=(ed gR (ed fT (dJ 2) (dJ 0)) (ed fT (dJ 3) (dJ 1)))
def zp(c:Cs):En->O:=(eh (jF (fz (ed (eG false) (ed fF (dJ 0) (dJ 2)) (cM (.int 0)))) (eY (dJ 0)) eZ)
  (eh (setO 3 (gN (h8 uJ (dI (ed fF (dJ 1) (dJ 2)) dQ))))
  (eh (setO 4 (gN (ed fT (zH (λi=>.int (-i)) (ed fF (dJ 0) (dJ 2))) (dX (dI (ed fF (dJ 1) (dJ 2)) dQ) (kP c)))))
  (eY (dX (dI (h8 iA (dI (fK (gS [none,none,some 3,some 4] (mn (dI (dJ 0) (dI (dJ 1) dQ))) (nh 2 (gz (gM 0) (gz (gM 1) mZ))) (λ_=>.ok true) (wo c))) dQ)) dQ) (kh c))))))
def iB(c:Cs):List T->M T:=jv 3 5 (zp c)
def oS(c:Cs):En->O:=(eh (jV 4 (lb (pJ (fK (lstM (dI (cM (.int 0)) dQ))) (h8 gP (dI (dJ 0) dQ)))))
  (eh (pE 4 (kJ (dJ 2)) (kJ (cM (.int 1))))
  (mz 1 (kJ (ed gR (dJ 3) (h8 iA (dI (dJ 4) dQ)))))))
def wG(c:Cs):En->O:=(eh (jV 1 (lb (lstM dQ)))
  (eh (lO (yB (dI (dJ 0) dQ)) (jr 2 (fj (iV 2) (fj (iV 3) jt))) (oS c))
  (lA 1)))
def jC(c:Cs):List T->M (List T):=uA 1 5 (wG c)
def m5(c:Cs):En->O:=(setO 0 (gN (dX (dI (dJ 0) (dI (dJ 3) (dI (dJ 2) dQ))) (iB c))))
def yT(c:Cs):En->O:=(eh (lO (fB (dJ 1)) (jr 2 (fj (iV 2) (fj (iV 3) jt))) (m5 c))
  (eY (dJ 0)))
def kS(c:Cs):List T->M T:=jv 2 4 (yT c)
def mL(c:Cs):Pe->M T:=(mB (dI (dJ 0) (dI (dX (dI (dJ 1) (dI (dJ 2) (dI (dJ 3) dQ))) (iB c)) dQ)))
def sT(c:Cs):En->O:=(oY (ox (fK (gS [none,none,some 1,some 2] (fB (dJ 0)) (nh 2 (gz (gM 0) (gz (gM 1) mZ))) (λ_=>.ok true) (mL c))) (fK (lstM (dI (mB (dI (dJ 2) (dI (dJ 1) dQ))) dQ)))))
def iw(c:Cs):List T->M (List T):=uA 3 3 (sT c)
def jT(c:Cs):Pe->M T:=(dJ 0)
def iF(c:Cs):En->O:=(eh (setO 5 (gN (dX (dI (dJ 4) (dI (dJ 2) dQ)) (kS c))))
  (eh (setO 6 (gN (fK (gS [none,some 5] (iM (dI (dJ 1) dQ)) (gM 0) (fz (ed (eG true) (ed fF (dJ 1) (dJ 0)) (cM (.int 0)))) (jT c)))))
  (jF (fz (ed (eG false) (dJ 6) (fK (lstM dQ)))) (mz 3 (gN (dJ 5))) (setO 2 (gN (fK (ip (dI (dJ 2) (dI (dJ 5) (dI (ed fF (dJ 6) (cM (.int 0))) dQ))) (iw c))))))))
def m7(c:Cs):En->O:=(eh (setO 2 (gN (fK (lstM dQ))))
  (eh (jV 3 (lb (lstM dQ)))
  (eh (lO (fB (dJ 0)) (iV 4) (iF c))
  (eY (mB (dI (dJ 2) (dI (dJ 3) dQ)))))))
def fL(c:Cs):List T->M T:=jv 2 7 (m7 c)
def qm(c:Cs):Pe->M T:=(dJ 0)
def qR(c:Cs):Pe->M T:=(dJ 0)
def rA(c:Cs):En->O:=(eh (setO 2 (gN (fK (gS [none,none] (fB (dJ 0)) (nh 2 (gz (gM 0) (gz (gM 1) mZ))) (λ_=>.ok true) (qm c)))))
  (oY (gS [none,some 2] (iM (dI (dJ 1) dQ)) (gM 0) (fz (ed (BO true) (dJ 0) (dJ 1))) (qR c))))
def iN(c:Cs):List T->M (List T):=uA 2 3 (rA c)
def lT(c:Cs):En->O:=(setO 2 (gN (dX (dI (dJ 2) (dI (dX (dI (mB (dI (dJ 3) (dI (cM (.int 1)) dQ))) (dI (dJ 4) dQ)) (nz c)) dQ)) (nU c))))
def xw(c:Cs):En->O:=(eh (setO 2 (gN (mB (dI (ed fF (dJ 0) (h8 gP (dI (dJ 1) dQ))) (dI (cM (.int 1)) dQ)))))
  (eh (lO (mn (dI (dJ 0) (dI (dJ 1) dQ))) (jr 2 (fj (iV 3) (fj (iV 4) jt))) (lT c))
  (eY (dJ 2))))
def ka(c:Cs):List T->M T:=jv 2 5 (xw c)
def ot(c:Cs):En->O:=(pE 2 (kJ (dJ 3)) (kJ (dX (dI (dX (dI (dJ 4) (dI (dJ 1) dQ)) (ka c)) (dI (mB (dI (ed fF (dJ 4) (dJ 3)) (dI (cM (.int 1)) dQ))) dQ)) (qd c))))
def BL(c:Cs):En->O:=(eh (jV 2 (lb (vS jh (dI (dJ 1) dQ))))
  (eh (lO (fB (dJ 0)) (jr 2 (fj (iV 3) (fj (iV 4) jt))) (ot c))
  (eY (h8 iA (dI (dJ 2) dQ)))))
def kY(c:Cs):List T->M T:=jv 2 5 (BL c)
def nu(c:Cs):En->O:=(setO 1 (gN (ed lI (ed fT (dJ 1) (ed fF (dJ 2) (cM (.int 1)))) (dX (dI (dJ 1) (dI (ed fF (dJ 2) (cM (.int 1))) dQ)) (eW c)))))
def nC(c:Cs):Pe->M T:=(ed fT (ed fF (dJ 0) (cM (.int 0))) (ed lI (dJ 1) (ed fF (dJ 0) (cM (.int 1)))))
def vJ(c:Cs):En->O:=(eh (setO 1 (gN (cM (.int 1))))
  (eh (lO (fB (dJ 0)) (iV 2) (nu c))
  (eY (dX (dI (h8 iA (dI (fK (gS [none,some 1] (fB (dJ 0)) (gM 0) (λ_=>.ok true) (nC c))) dQ)) dQ) (kh c)))))
def jK(c:Cs):List T->M T:=jv 1 3 (vJ c)
def ls(c:Cs):En->O:=(pE 3 (kJ (dJ 4)) (kJ (dX (dI (zH (λi=>.int (-i)) (ed fF (dJ 5) (dJ 2))) (dI (ed fF (dJ 5) (dJ 4)) dQ)) (ke c))))
def vC(c:Cs):En->O:=(eh (jV 3 (lb (pJ (fK (lstM (dI (mB (dI (cM (.int 0)) (dI (cM (.int 1)) dQ))) dQ))) (dJ 1))))
  (eh (pE 3 (kJ (dJ 2)) (kJ (mB (dI (cM (.int 1)) (dI (cM (.int 1)) dQ)))))
  (eh (lO (fB (dJ 0)) (jr 2 (fj (iV 4) (fj (iV 5) jt))) (ls c))
  (eY (dX (dI (dJ 3) dQ) (jK c))))))
def iT(c:Cs):List T->M T:=jv 3 6 (vC c)
def rM(c:Cs):Pe->M T:=(dX (dI (dJ 1) (dI (dJ 2) (dI (dJ 0) dQ))) (iT c))
def ua(c:Cs):En->O:=(oY (gS [none,some 0,some 1] (fB (fK (ip (dI (dJ 0) (dI (dJ 1) dQ)) (iN c)))) (gM 0) (λ_=>.ok true) (rM c)))
def iu(c:Cs):List T->M (List T):=uA 2 2 (ua c)
def ja(c:Cs):Pe->M T:=(dX (dI (dJ 0) (dI (oU c.Cutting "many" (dJ 1) dQ (gD c)) dQ)) (ib c))
def lM(c:Cs):En->O:=(eh (jF (gK (fz (j4 "list" (dJ 1)))) (eY (cM (.bl false))) eZ)
  (eh (jF (gK (fz (h8 uo (dI (fK (gS [none,some 0] (fB (dJ 1)) (gM 0) (λ_=>.ok true) (ja c))) dQ)))) (eY (cM (.bl false))) eZ)
  (eY (ed (eG false) (A7 (dI (dJ 1) dQ)) (h8 gP (dI (dJ 1) dQ))))))
def fw(c:Cs):List T->M T:=jv 2 2 (lM c)
def yC(c:Cs):Pe->M T:=(ed fF (dJ 1) (dJ 0))
def t7(c:Cs):En->O:=(jF (fz (ed (eG true) (ed fF (dJ 5) (dJ 2)) (cM (.int 0)))) (sE (pZ (cM (.str "apart")) (zI (vS jh (dI (lj (dJ 5) (jd (ed gR (dJ 2) (cM (.int 1)))) (λ_=>.ok none)) dQ))))) eZ)
def wc(c:Cs):En->O:=(eh (jF (gK (fz (dX (dI (dJ 0) (dI (dJ 1) dQ)) (fw c)))) (λ_=>.bad) eZ)
  (eh (setO 2 (gN (oU c.Cutting "dims" (dJ 0) dQ (f6 c))))
  (eh (setO 3 (gN (fK (qF c.Cutting "cuts" (dJ 0) dQ (fZ c)))))
  (eh (setO 4 (gN (dX (dI (fK (ip (dI (fK (gS [none,some 3] (fB (dJ 1)) (gM 0) (λ_=>.ok true) (yC c))) dQ) (jC c))) (dI (dJ 2) dQ)) (fL c))))
  (eh (lO (fB (ed fF (dJ 4) (cM (.int 1)))) (iV 5) (t7 c))
  (eh (setO 6 (gN (ed fF (dJ 4) (cM (.int 0)))))
  (sE (pZ (cM (.str "met")) (pZ (dX (dI (dJ 6) (dI (fK (pJ (fK (lstM (dI (mB (dI (cM (.int 0)) (dI (cM (.int 1)) dQ))) dQ))) (dJ 2))) dQ)) (kY c)) (zI (ip (dI (dJ 6) (dI (dJ 2) dQ)) (iu c))))))))))))
def l7(c:Cs):List T->M T:=jv 2 7 (wc c)
def lx(c:Cs):List T->M (List T×List T):=Ez 2 7 (wc c)
def t9(c:Cs):Pe->M T:=(ed qb (dX (dI (dJ 1) (dI (dJ 0) (dI (cM (.int 7)) dQ))) (eg c)) (cM (.int 3)))
def tP(c:Cs):Pe->M T:=(ed fT (dJ 0) (dJ 1))
def tJ(c:Cs):Pe->M T:=(ed fT (dJ 0) (dJ 1))
def vD(c:Cs):En->O:=(eh (jV 3 (lb (gS [none,some 0] (iM (dI (dJ 1) dQ)) (gM 0) (λ_=>.ok true) (t9 c))))
  (eh (jF (fz (ed (eG false) (dJ 3) (fK (pJ (fK (lstM (dI (cM (.int 0)) dQ))) (dJ 1))))) (pE 3 (kJ (dX (dI (dJ 0) (dI (cM (.int 4)) (dI (dJ 1) dQ))) (eg c))) (kJ (ed gR (cM (.int 1)) (dX (dI (dJ 0) (dI (cM (.int 5)) (dI (cM (.int 3)) dQ))) (eg c))))) eZ)
  (eh (setO 4 (gN (ed qb (dX (dI (dJ 0) (dI (cM (.int 6)) (dI (cM (.int 9)) dQ))) (eg c)) (cM (.int 4)))))
  (eh (setO 5 (gN (dX (dI (dJ 0) (dI (cM (.int 7)) (dI (cM (.int 7)) dQ))) (eg c))))
  (eh (jF (nv (fz (ed (eG false) (dJ 5) (cM (.int 1)))) (fz (ed (eG true) (dJ 2) (fK (lstM dQ))))) (jV 3 (lb (vS jh (dI (lj (ed fF (dJ 2) (dX (dI (dJ 0) (dI (cM (.int 8)) (dI (h8 gP (dI (dJ 2) dQ)) dQ))) (eg c))) (λ_=>.ok none) (jd (dJ 1))) dQ)))) eZ)
  (eh (jF (nj (fz (ed (eG false) (dJ 5) (cM (.int 2)))) (fz (ed (eG false) (dJ 5) (cM (.int 3))))) (setO 4 (kJ (h8 ur (dI (fK (gS [none,none] (mn (dI (dJ 3) (dI (fK (lstM (dI (cM (.int 1)) (dI (cM (.int 2)) (dI (zH (λi=>.int (-i)) (cM (.int 1))) dQ))))) dQ))) (nh 2 (gz (gM 0) (gz (gM 1) mZ))) (λ_=>.ok true) (tP c))) dQ)))) eZ)
  (eh (jF (fz (ed (eG false) (dJ 5) (cM (.int 4)))) (eh (setO 6 (gN (ed fT (ed gR (cM (.int 1)) (dX (dI (dJ 0) (dI (cM (.int 9)) (dI (ed nR (cM (.int 10)) (cM (.int 6))) dQ))) (eg c))) (ed fF (fK (lstM (dI (cM (.int 1)) (dI (cM (.int 1)) (dI (ed nR (cM (.int 10)) (cM (.int 18))) dQ))))) (dX (dI (dJ 0) (dI (cM (.int 11)) (dI (cM (.int 3)) dQ))) (eg c))))))
  (eh (jV 3 (yM (gS [none,some 6] (fB (dJ 3)) (gM 0) (λ_=>.ok true) (tJ c))))
  (setO 4 (gN (ed gR (ed fT (dJ 4) (dJ 6)) (dX (dI (dJ 0) (dI (cM (.int 10)) (dI (cM (.int 7)) dQ))) (eg c))))))) eZ)
  (eY (h8 iA (dI (fK (ox (dJ 3) (fK (lstM (dI (dJ 4) dQ))))) dQ))))))))))
def kr(c:Cs):List T->M T:=jv 3 7 (vD c)
def rR(c:Cs):Pe->M T:=(dJ 0)
def rQ(c:Cs):En->O:=(eh (setO 6 (kJ (dX (dI (dX (dI (dJ 0) (dI (ed gR (dJ 1) (dJ 5)) dQ)) (eS c)) (dI (dJ 2) (dI (dJ 4) dQ))) (kr c))))
  (jF (fz (ed (eG false) (fK (gS [none,some 6] (fB (dJ 4)) (gM 0) (fz (dX (dI (dJ 1) (dI (dJ 0) dQ)) (iq c))) (rR c))) (fK (lstM dQ)))) (mz 4 (gN (dJ 6))) eZ))
def tO(c:Cs):En->O:=(eh (jV 4 (lb (lstM dQ)))
  (eh (lS (iM (dI (dJ 3) dQ)) (iV 5) (rQ c))
  (lA 4)))
def jb(c:Cs):List T->M (List T):=uA 4 7 (tO c)
def gW(c:Cs):En->O:=(eh (setO 2 (gN (ed gR (ed fT (dJ 2) (ed fF (dJ 5) (cM (.int 1)))) (ed fT (ed fT (dJ 4) (ed fF (dJ 5) (cM (.int 0)))) (dJ 3)))))
  (setO 3 (gN (ed fT (dJ 3) (ed fF (dJ 5) (cM (.int 1)))))))
def ug(c:Cs):En->O:=(eh (setO 2 (gN (zH (λi=>.int (-i)) (ed fF (dJ 0) (zH (λi=>.int (-i)) (cM (.int 1)))))))
  (eh (setO 3 (gN (cM (.int 1))))
  (eh (lO (mn (dI (dJ 0) (dI (dJ 1) dQ))) (jr 2 (fj (iV 4) (fj (iV 5) jt))) (gW c))
  (eY (ed qb (h8 qt (dI (ed Dq (dJ 2) (cM (.int 0))) dQ)) (h8 qt (dI (ed Ey (dJ 2) (cM (.int 0))) dQ)))))))
def iC(c:Cs):List T->M T:=jv 2 6 (ug c)
def mm(c:Cs):Pe->M T:=(dX (dI (dJ 0) dQ) (gp c))
def rB(c:Cs):En->O:=(eh (jF (nj (gK (fz (j4 "tuple" (dJ 0)))) (fz (ed (eG true) (h8 gP (dI (dJ 0) dQ)) (dJ 1)))) (eY (cM (.bl false))) eZ)
  (eY (h8 uo (dI (fK (gS [none] (fB (dJ 0)) (gM 0) (λ_=>.ok true) (mm c))) dQ))))
def gX(c:Cs):List T->M T:=jv 2 2 (rB c)
def l8(c:Cs):Pe->M T:=(dX (dI (dJ 0) dQ) (fR c))
def rG(c:Cs):En->O:=(eh (jF (nj (gK (fz (j4 "list" (dJ 0)))) (fz (ed (eG true) (h8 gP (dI (dJ 0) dQ)) (dJ 1)))) (eY (cM (.bl false))) eZ)
  (eY (h8 uo (dI (fK (gS [none] (fB (dJ 0)) (gM 0) (λ_=>.ok true) (l8 c))) dQ))))
def fO(c:Cs):List T->M T:=jv 2 2 (rG c)
def pj(c:Cs):Pe->M T:=(fK (vS jh (dI (dJ 0) dQ)))
def pB(c:Cs):Pe->M T:=(dJ 0)
def oW(c:Cs):Pe->M T:=(dJ 0)
def uL(c:Cs):Pe->M T:=(ed qb (ed fT (ed fF (dJ 1) (dJ 2)) (ed fF (dJ 3) (dJ 0))) (ed fT (ed fF (dJ 3) (dJ 2)) (ed fF (dJ 1) (dJ 0))))
def oT(c:Cs):Pe->M T:=(fK (gS [none,some 2,some 3,some 0] (iM (dI (dJ 1) dQ)) (gM 0) (λ_=>.ok true) (uL c)))
def oQ(c:Cs):En->O:=(eh (setO 4 (gN (fK (gS [none,some 3] (fB (dJ 0)) (gM 0) (fz (ed (eG true) (ed fF (dJ 0) (dJ 1)) (cM (.int 0)))) (pB c)))))
  (jF (fz (ed (eG true) (dJ 4) (fK (lstM dQ)))) (eh (setO 5 (gN (ed fF (dJ 4) (cM (.int 0)))))
  (eh (setO 2 (gN (ed gR (dJ 2) (cM (.int 1)))))
  (eh (setO 6 (gN (fK (gS [none,some 5] (fB (dJ 0)) (gM 0) (fz (ed (eG true) (dJ 0) (dJ 1))) (oW c)))))
  (setO 0 (gN (fK (gS [none,some 1,some 5,some 3] (fB (dJ 6)) (gM 0) (λ_=>.ok true) (oT c)))))))) eZ))
def wK(c:Cs):En->O:=(eh (setO 0 (gN (fK (gS [none] (fB (dJ 0)) (gM 0) (λ_=>.ok true) (pj c)))))
  (eh (setO 2 (gN (cM (.int 0))))
  (eh (lS (iM (dI (dJ 1) dQ)) (iV 3) (oQ c))
  (eY (dJ 2)))))
def jD(c:Cs):List T->M T:=jv 2 7 (wK c)
def mD(c:Cs):En->O:=(sD 3 2 (kJ (dX (dI (dJ 0) (dI (ed gR (cM (.int 1)) (dJ 4)) (dI (h8 gP (dI (dJ 2) dQ)) dQ))) (eg c))))
def tY(c:Cs):En->O:=(eh (jV 2 (lb (E6 (dI (dJ 1) dQ))))
  (eh (jV 3 (lb (lstM dQ)))
  (eh (lS (iM (dI (dX (dI (dJ 0) (dI (cM (.int 0)) (dI (ed gR (dJ 1) (cM (.int 1))) dQ))) (eg c)) dQ)) (iV 4) (mD c))
  (lA 3))))
def iD(c:Cs):List T->M (List T):=uA 2 5 (tY c)
def q8(c:Cs):Pe->M T:=(dJ 0)
def qh(c:Cs):Pe->M T:=(ed fT (dJ 0) (dJ 1))
def qr(c:Cs):Pe->M T:=(dJ 0)
def qG(c:Cs):En->O:=(eh (jF (nj (gK (fz (j4 "tuple" (dJ 3)))) (gK (fz (dX (dI (fK (vS jh (dI (dJ 3) dQ))) (dI (dJ 2) dQ)) (fO c))))) (eY (cM (.bl false))) eZ)
  (jF (fz (ed (eG true) (fK (gS [none,some 3] (fB (dJ 1)) (gM 0) (fz (ed (eG true) (h8 ur (dI (fK (gS [none,none] (mn (dI (dJ 0) (dI (dJ 1) dQ))) (nh 2 (gz (gM 0) (gz (gM 1) mZ))) (λ_=>.ok true) (qh c))) dQ)) (cM (.int 0)))) (qr c))) (fK (lstM dQ)))) (eY (cM (.bl false))) eZ))
def qw(c:Cs):Pe->M T:=(lj (dJ 0) (λ_=>.ok none) (jd (dJ 1)))
def zi(c:Cs):En->O:=(eh (jF (nj (gK (fz (dX (dI (ed fF (dJ 0) (cM (.int 1))) (dI (dJ 2) dQ)) (gX c)))) (gK (fz (j4 "list" (ed fF (dJ 0) (cM (.int 2))))))) (eY (cM (.bl false))) eZ)
  (eh (jF (fz (ed (eG true) (fK (gS [none,some 0] (fB (dJ 1)) (gM 0) (fz (ed (eG true) (dX (dI (dJ 0) (dI (ed fF (dJ 1) (cM (.int 1))) dQ)) (iC c)) (cM (.int 0)))) (q8 c))) (fK (lstM dQ)))) (eY (cM (.bl false))) eZ)
  (eh (lO (fB (ed fF (dJ 0) (cM (.int 2)))) (iV 3) (qG c))
  (eh (setO 4 (gN (dX (dI (fK (gS [none,some 2] (fB (dJ 1)) (gM 0) (λ_=>.ok true) (qw c))) (dI (dJ 2) dQ)) (jD c))))
  (eY (ng (ed (eG false) (h8 gP (dI (ed fF (dJ 0) (cM (.int 2))) dQ)) (ed qb (dJ 2) (dJ 4))) (ed (eG false) (dX (dI (ed fF (dJ 0) (cM (.int 2))) (dI (dJ 2) dQ)) (jD c)) (h8 gP (dI (ed fF (dJ 0) (cM (.int 2))) dQ)))))))))
def kH(c:Cs):List T->M T:=jv 3 5 (zi c)
def nt(c:Cs):Pe->M T:=(ed fT (dJ 0) (ed fF (dJ 1) (dJ 2)))
def ny(c:Cs):Pe->M T:=(h8 ur (dI (fK (gS [none,none,some 0] (mn (dI (ed fF (dJ 2) (cM (.int 1))) (dI (dJ 1) dQ))) (nh 2 (gz (gM 0) (gz (gM 1) mZ))) (λ_=>.ok true) (nt c))) dQ))
def vj(c:Cs):En->O:=(eh (jF (gK (fz (dX (dI (ed fF (dJ 0) (cM (.int 1))) (dI (h8 gP (dI (dJ 1) dQ)) dQ)) (fO c)))) (eY (cM (.bl false))) eZ)
  (eh (setO 3 (gN (fK (gS [none,some 1,some 0] (iM (dI (ed gR (dJ 2) (cM (.int 1))) dQ)) (gM 0) (λ_=>.ok true) (ny c)))))
  (eY (ng (ed (eG false) (lj (dJ 3) (λ_=>.ok none) (jd (dJ 2))) (fK (pJ (fK (lstM (dI (cM (.int 0)) dQ))) (dJ 2)))) (ed (eG true) (ed fF (dJ 3) (dJ 2)) (cM (.int 0)))))))
def jM(c:Cs):List T->M T:=jv 3 4 (vj c)
def nP(c:Cs):Pe->M T:=(ed fF (dJ 1) (dJ 0))
def oR(c:Cs):En->O:=(eh (setO 4 (gN (fK (vS jh (dI (dJ 3) dQ)))))
  (eh (setO 5 (gN (dX (dI (dJ 0) (dI (dJ 4) dQ)) (l7 c))))
  (eh (setO 6 (gN (fK (gS [none,some 1] (fB (dJ 3)) (gM 0) (λ_=>.ok true) (nP c)))))
  (eh (jF (nj (fz (ed (eG true) (dJ 4) (dJ 3))) (gK (fz (j4 "tuple" (dJ 5))))) (eY (cM (.bl false))) eZ)
  (eh (jF (nv (fz (ed (eG false) (h8 gP (dI (dJ 5) dQ)) (cM (.int 3)))) (fz (ed (eG false) (ed fF (dJ 5) (cM (.int 0))) (cM (.str "met"))))) (eY (dX (dI (dJ 5) (dI (dJ 6) (dI (dJ 2) dQ))) (kH c))) eZ)
  (eY (ng (ed (eG false) (h8 gP (dI (dJ 5) dQ)) (cM (.int 2))) (ng (ed (eG false) (ed fF (dJ 5) (cM (.int 0))) (cM (.str "apart"))) (dX (dI (dJ 5) (dI (dJ 6) (dI (dJ 2) dQ))) (jM c))))))))))
def ia(c:Cs):List T->M T:=jv 4 7 (oR c)
def vg(c:Cs):Pe->M T:=(fK (ip (dI (dX (dI (dJ 1) (dI (ed gR (cM (.int 8)) (dJ 0)) dQ)) (eS c)) (dI (h8 gP (dI (dJ 2) dQ)) dQ)) (iD c)))
def vk(c:Cs):En->O:=(eh (jF (gK (fz (dX (dI (dJ 3) (dI (dJ 2) (dI (dJ 1) (dI (dJ 5) dQ)))) (ia c)))) (eY (cM (.bl false))) eZ)
  (eh (xH (dI (dJ 3) (dI (dJ 5) dQ)) (lx c))
  (jF (gK (fz (dX (dI (dJ 3) (dI (dJ 2) (dI (dJ 1) (dI (dJ 5) dQ)))) (ia c)))) (eY (cM (.bl false))) eZ)))
def Ec(c:Cs):En->O:=(eh (setO 1 (gN (ed gR (cM (.int 1)) (dX (dI (dX (dI (dJ 0) (dI (cM (.int 0)) dQ)) (eS c)) (dI (cM (.int 0)) (dI (cM (.int 3)) dQ))) (eg c)))))
  (eh (setO 2 (gN (fK (ip (dI (dJ 0) (dI (cM (.int 1)) (dI (dJ 1) (dI (dX (dI (dX (dI (dJ 0) (dI (cM (.int 0)) dQ)) (eS c)) (dI (cM (.int 1)) (dI (cM (.int 8)) dQ))) (eg c)) dQ)))) (jb c)))))
  (eh (setO 3 (gN (dX (dI (dJ 1) (dI (dJ 2) dQ)) (gE c))))
  (eh (setO 4 (gN (fK (gS [none,some 0,some 2] (iM (dI (cM (.int 5)) dQ)) (gM 0) (λ_=>.ok true) (vg c)))))
  (eh (lO (fB (fK (ox (fK (ox (dJ 4) (fK (lstM (dI (fK (lstM dQ)) (dI (fK (E6 (dI (h8 gP (dI (dJ 2) dQ)) dQ))) dQ)))))) (lj (dJ 4) (λ_=>.ok none) (jd (cM (.int 1))))))) (iV 5) (vk c))
  (eY (cM (.bl true))))))))
def pL(c:Cs):List T->M T:=jv 1 6 (Ec c)
variable {c:Cs}
theorem m9(ns:LI)(k:Nat):∃v,eS c [.scr ns,.int k]=.ok (.int v)/\(v=0\/v∈ns):=by
 by_cases h:(k:Int)<ns.length
 ·obtain⟨a,e,hm⟩:=xn ns k (by omega) h;exact⟨a,by simp[eS,kx,h,e],.inr hm⟩
 ·exact⟨0,by simp[eS,kx,h],.inl rfl⟩
theorem iE{i j:Int}(h:i.natAbs<2 ^ 64):fT (.int i) (.int j)=.ok (.int (i*j)):=fE (rT h)
theorem Ed(cell:Int)(k:Nat)(b:Int)(hb:0<b)(hb2:b<2 ^ 62)(hk:k<=1000000):∃d,eg c [.int cell,.int (k:Int),.int b]=.ok (.int d)/\0<=d/\d<b:=by
 have hbn:b≠0:=by omega
 have fm:∀x:Int,0<=x.fmod b/\x.fmod b<b:=λx=>⟨cv x hb,cw x hb⟩;have e18:nR (.int 10) (.int 18)=.ok (.int 1000000000000000000):=by simp[nR,i5]
 by_cases h:(1000000000000000000:Int)<=cell
 ·obtain⟨ρ,e,v,w,rfl⟩:=gG (m:=iV 4) (g:=setO 3 (gN (ed lI (dJ 3) (dJ 2)))) (λ(i:Nat)=>T.int (i:Int)) (λ_ ρ=>∃v w,ρ=[some (.p (.int cell)),some (.p (.int k)),some (.p (.int b)),some (.p (.int v)),w,none])
   (List.range k) 0 [some (.p (.int cell)),some (.p (.int k)),some (.p (.int b)),some (.p (.int cell)),none,none] ⟨_,_,rfl⟩ (by rintro i a ρ ha ⟨v,w,rfl⟩;have hd:Builtin.divisionGoesByPylong v b=false:=Bn.noPy (n:=62) (by unfold Bn;omega) (by decide);exact⟨_,_,rfl,.inl (ek (by simp[j2 hbn hd];rfl) rfl),_,_,rfl⟩)
  refine⟨v.fmod b,eV rfl ?_,fm v⟩;have hr':zM (k:Int)=true:=jZ (by omega);refine j3 (gC (by simp[e18,h]) (dS (ek (by simp) rfl) (dS (kj (by simp[hr',CA]) e) (eK (by simp[mr hbn]))))) rfl
 ·have m1:∀x y:Int,0<y->0<=x.fmod y/\x.fmod y<y:=λx y hy=>⟨cv x hy,cw x hy⟩;have a1:=m1 cell 1000000007 (by decide);have a2:=m1 ((cell.fmod 1000000007+1009*k+17)*69621) 2147483647 (by decide);generalize hs1:((cell.fmod 1000000007+1009*k+17)*69621).fmod 2147483647=s1 at a2;have a3:=m1 (s1*s1+40503*k+5) 2147483629 (by decide);generalize hs2:(s1*s1+40503*k+5).fmod 2147483629=s2 at a3;have hp:Builtin.divisionGoesByPylong ((s2*48271).fmod 2147483647) 32=false:=Bn.noPy (n:=62) (by unfold Bn;decide) (by decide);refine⟨(((s2*48271).fmod 2147483647).fdiv 32).fmod b,eV rfl ?_,fm _⟩;refine dS (fg (by simp[e18,h]) rfl) (dS (ek (t:=.int s1) ?_ rfl) (dS (ek (t:=.int s2) ?_ rfl) (eK ?_)))
  ·rw[<-hs1];simp[mr,iE (i:=1009) (j:=k) (by decide),iE (i:=cell.fmod 1000000007+1009*k+17) (j:=69621) (by omega)]
  ·rw[<-hs2];simp[mr,iE (i:=40503) (j:=k) (by decide),iE (i:=s1) (j:=s1) (by omega)]
  ·simp[mr,hbn,j2 (j:=32) (by decide) hp,iE (i:=s2) (j:=48271) (by omega)]
def dr(c:Cs)(cell k b:Int):Int:=match eg c [.int cell,.int k,.int b] with
 | .ok (.int d)=>d
 | _=>0
theorem hC(cell k b:Int)(hb:0<b)(hb2:b<2 ^ 62)(h0:0<=k)(hk:k<=1000000):eg c [.int cell,.int k,.int b]=.ok (.int (dr c cell k b))/\0<=dr c cell k b/\dr c cell k b<b:=by
 obtain⟨d,e,h1,h2⟩:=Ed (c:=c) cell k.toNat b hb hb2 (by omega);rw[cL h0] at e;have:dr c cell k b=d:=by unfold dr;rw[e]
 rw[this];exact⟨e,h1,h2⟩
theorem CH(l:LI)(i:Int)(h0:0<=i)(h1:i<l.length):∃w,fF (.lst (l.map T.int)) (.int i)=.ok (.int w)/\w∈l:=by obtain⟨a,e,hm⟩:=xn l i h0 h1;exact⟨a,by simp[nX,e],hm⟩
theorem C0(i:Int):(if i<0 then -i else i)=(i.natAbs:Int):=by split<;>omega
theorem jf(a b:Int):eW c [.int a,.int b]=.ok (.int (Cu.G a b)):=by
 obtain⟨ρ,e,x,w,rfl,hx⟩:=lp (c:=fz (ed (eG true) (dJ 1) (cM (.int 0)))) (g:=eh (setO 2 (gN (ed oN (dJ 0) (dJ 1)))) (eh (setO 0 (gN (dJ 1))) (setO 1 (gN (dJ 2)))))
  (λρ=>∃x y w,ρ=[some (.p (.int x)),some (.p (.int y)),w]/\Cu.G x y=Cu.G a b) (λρ=>match ρ with | _::some (.p (.int j))::_=>j.natAbs | _=>0)
  (λρ=>∃x w,ρ=[some (.p (.int x)),some (.p (.int 0)),w]/\Cu.G x 0=Cu.G a b) (by
   rintro ρ ⟨x,y,w,rfl,h⟩;by_cases hy:y=0
   ·subst hy;exact .inl ⟨by simp,_,_,rfl,h⟩
   ·refine .inr ⟨by simp[hy],_,.inl (dS (ek (t:=.int (x.fmod y)) (by simp[mr hy]) rfl) (dS (ek (t:=.int y) (by simp) rfl) (ek (t:=.int (x.fmod y)) (by simp) rfl))),⟨y,x.fmod y,_,rfl,?_⟩,?_⟩
    ·rw[<-h];exact Cu.B1 x y
    ·exact Cu.rW x y hy)
  (b.natAbs+1) [some (.p (.int a)),some (.p (.int b)),none] ⟨a,b,none,rfl,rfl⟩ (bE _)
 refine eV rfl (dS (ρ':=[some (.p (.int x)),some (.p (.int 0)),w]) e (eK ?_));rw[Cu.wB] at hx;simp[C0,hx]
theorem rN(a b:Int):iz c [.int a,.int b]=.ok (.int (Cu.G a b)):=by
 obtain⟨ρ,e,x,rfl,hx0,hx⟩:=lp (c:=fz (ed Dq (dJ 1) (cM (.int 0)))) (g:=Ej 0 1 (dI (dJ 1) (dI (ed oN (dJ 0) (dJ 1)) dQ)))
  (λρ=>∃x y:Int,ρ=[some (.p (.int x)),some (.p (.int y))]/\0<=x/\0<=y/\Cu.G x y=Cu.G a b) (λρ=>match ρ with | _::some (.p (.int j))::_=>j.natAbs | _=>0)
  (λρ=>∃x:Int,ρ=[some (.p (.int x)),some (.p (.int 0))]/\0<=x/\Cu.G x 0=Cu.G a b) (by
   rintro ρ ⟨x,y,rfl,hx0,hy0,h⟩;by_cases hy:y=0
   ·subst hy;exact .inl ⟨by simp,_,rfl,hx0,h⟩
   ·have hp:0<y:=by omega
    refine .inr ⟨by simp[hp],_,.inl (by simp[mr hy]),⟨y,x.fmod y,rfl,hy0,cv x hp,?_⟩,?_⟩
    ·rw[<-h];exact Cu.B1 x y
    ·exact Cu.rW x y hy)
  ((b.natAbs:Int).natAbs+1) [some (.p (.int (a.natAbs:Int))),some (.p (.int (b.natAbs:Int)))] ⟨_,_,rfl,by omega,by omega,Cu.HN a b⟩ (bE _)
 refine eV rfl (dS (ek (t:=.int (a.natAbs:Int)) (by simp[C0]) rfl) (dS (ek (t:=.int (b.natAbs:Int)) (by simp[C0]) rfl) (dS (ρ':=[some (.p (.int x)),some (.p (.int 0))]) e (eK ?_))));rw[Cu.wB] at hx;have:x=Cu.G a b:=by omega
 simp[this]
theorem nH{t g:Int}(hg:g ∣ t)(h0:g≠0):(t.fdiv g).natAbs<=t.natAbs:=by obtain⟨k,rfl⟩:=hg;rw[cB k h0,aX];exact Nat.le_mul_of_pos_left _ (by omega)
def G1:T->Bool
 | .scr _=>false
 | .obj _ _=>false
 | _=>true
def isInt:T->Bool
 | .int _=>true
 | _=>false
theorem vp(x:T)(h:G1 x=true):f9 c [x]=.ok (.bl (isInt x)):=by cases x<;>first | (simp[G1] at h;done) | rfl
theorem Dz(x:T)(h:G1 x=true):AI "tuple" x=.ok (.bl (nB x)):=by cases x<;>first | (simp[G1] at h;done) | rfl
def vz(x:Int):Int:=if 0<x then 1 else if x<0 then -1 else 0
theorem zy(x:Int):-1<=vz x/\vz x<=1:=by unfold vz;split<;>(try split)<;>omega
theorem xj(x:Int):kP c [.int x]=.ok (.int (vz x)):=by
 unfold vz;by_cases h:0<x
 ·rw[aP h];exact eV rfl (j3 (gC (by simp[h]) (eK (by simp))) rfl)
 ·rw[aQ h];by_cases h2:x<0
  ·rw[aP h2];exact eV rfl (dS (fg (by simp[h]) rfl) (j3 (gC (by simp[h2]) (eK (by simp))) rfl))
  ·rw[aQ h2];exact eV rfl (dS (fg (by simp[h]) rfl) (dS (fg (by simp[h2]) rfl) (eK (by simp))))
theorem my(bs:List Bool):uo [.lst (bs.map T.bl)]=.ok (.bl (bs.all id)):=by simp
theorem yf(bs:List Bool):wC [.lst (bs.map T.bl)]=.ok (.bl (bs.any id)):=by simp
def mF(d:Nat):T->Bool
 | .tup ts=>decide (ts.length=d+1)&&ts.all isInt&&(match iK ts with | some ns=>(ns.take d).any (· != 0) | none=>false)
 | _=>false
theorem uF:∀(ts:List T),ts.all isInt=true->∃ns:LI,ts=ns.map T.int
 | [],_=>⟨[],rfl⟩
 | t::ts,h=>by
  rw[bQ,bO] at h;obtain⟨ns,e⟩:=uF ts h.2;cases t with
  | int i=>exact⟨i::ns,by rw[e];rfl⟩
  | _=>simp[isInt] at h
theorem zE(d:Nat)(hd:d<=10)(x:T)(hx:G1 x=true)(hs:∀ts,x=.tup ts->ts.length<1000/\∀t∈ts,G1 t=true):kL c [.int d,x]=.ok (.bl (mF d x)):=by
 have sz:1000<sizeLine:=by decide
 by_cases ht:nB x=true
 ·cases x with
  | tup ts=>
   obtain⟨hl,hk⟩:=hs ts rfl;by_cases hn:ts.length=d+1
   ·have e1:gS [none] (fB (dJ 1)) (gM 0) (λ_=>.ok true) (ou c) (vw (eN 2 [.int d,.tup ts]))=.ok ((ts.map isInt).map T.bl):=by rw[uq ts id (λt=>T.bl (isInt t)) (by simp) (by omega) λt ht=>⟨_,rfl,rfl,by simp[ou,vp t (hk t ht)]⟩];simp
    have e0:(L3.nj (L3.gK (fz (j4 "tuple" (dJ 1)))) (fz (ed (eG true) (h8 gP (dI (dJ 1) dQ)) (ed gR (dJ 0) (cM (.int 1)))))) (vw (eN 2 [.int d,.tup ts]))=.ok false:=by simp[hn]
    by_cases ha:ts.all isInt=true
    ·obtain⟨ns,rfl⟩:=uF ts ha;have hns:ns.length=d+1:=by simpa using hn
     have hb:mF d (.tup (ns.map T.int))=(ns.take d).any (· != 0):=by simp[mF,hns,ha]
     rw[hb];have e2:gS [none] (fB (lj (dJ 1) (λ_=>.ok none) (jd (dJ 0)))) (gM 0) (λ_=>.ok true) (oB c) (vw (eN 2 [.int d,.tup (ns.map T.int)]))=.ok (((ns.take d).map λn=>n != 0).map T.bl):=by rw[uq (ns.take d) T.int (λn=>T.bl (n != 0)) (AY (by rw[cE];exact qK rfl rfl (by simp;omega))) (by simp;omega) λn hn=>⟨_,rfl,rfl,by simp[oB,bne]⟩];rw[aH];rfl
     refine eV rfl (dS (fg e0 rfl) (dS (fg (jB (eT (l5 e1 (my _))) ?_) rfl) (eK (l5 e2 ?_))))
     ·rw[cf];simpa using ha
     ·rw[yf,cg];rfl
    ·have hb:mF d (.tup ts)=false:=by simp[mF,ha]
     rw[hb];refine eV rfl (dS (fg e0 rfl) (j3 (gC (jB (eT (l5 e1 (my _))) ?_) (eK rfl)) rfl));rw[cf];simpa using ha
   ·have hb:mF d (.tup ts)=false:=by simp[mF,hn]
    rw[hb];refine eV rfl (j3 (gC ?_ (eK rfl)) rfl);have:¬((ts.length:Int)=(d:Int)+1):=by omega
    simp[this]
  | _=>simp[nB] at ht
 ·have hb:mF d x=false:=by cases x<;>first | rfl | (simp[nB] at ht;done)
  rw[hb];refine eV rfl (j3 (gC ?_ (eK rfl)) rfl);have hf:nB x=false:=by simpa using ht
  have:=Dz x hx;rw[hf] at this;simp only[L3.nj,L3.gK,fz,j4,dJ,vw,eN,bD,List.map_nil,List.cons_append,List.nil_append,List.getElem?_cons_succ,List.getElem?_cons_zero,Ju,M.bind_ok,this];rfl
theorem Fu{α:Type}(l:List α)(h:l≠[]):lP l (-1)=l.getLast?:=by obtain⟨m,a,rfl⟩:∃m a,l=m++[a]:=⟨l.dropLast,l.getLast h,(List.dropLast_concat_getLast h).symm⟩;rw[L2.vE];simp
theorem v5(d:Nat)(h:1<=d/\d<=3):jX c [.int d]=.ok (.bl true):=by
 have w:f9 c [.int d]=.ok (.bl true):=rfl;have h1:(1:Int)<=d:=by omega
 have h2:(d:Int)<=3:=by omega
 exact eV rfl (eK (by simp[w,h1,h2]))
theorem Jf(n:Nat):(List.replicate n [T.int 0]).flatten=(List.replicate n (0:Int)).map T.int:=by
 induction n with
 | zero=>rfl
 | succ n ih=>rw[bS,bT,ih,bS];rfl
theorem BJ(n:Nat)(hn:n<=1000){f:Pe->M T}{ρ:Pe}(h:f ρ=.ok (.int (n:Int))):fK (pJ (fK (lstM (dI (cM (.int 0)) dQ))) f) ρ=.ok (.lst ((List.replicate n (0:Int)).map T.int)):=by
 have sz:1000<sizeLine:=by decide
 have hr:zM (n:Int)=true:=jZ (by omega);have h1:1<=sizeLine:=by decide
 have h2:n<=sizeLine:=by omega
 simp[h,hr,h1,h2,Jf]
end CL
namespace L3
open PySem L2
theorem nc{α:Type}{m:T->En->Option En}{g:En->O}(enc:α->T)(P:En->Prop)(p:α->Bool)(t:T):∀(l:List α) (ρ:En),P ρ->
  (∀a∈l,∀ρ,P ρ->∃ρ1,m (enc a) ρ=some ρ1/\(p a=true->∃ρ2,g ρ1=.nx ρ2/\P ρ2)/\(p a=false->g ρ1=.rt t))->
  (l.all p=true->∃ρ',fY m g (l.map enc) ρ=.nx ρ'/\P ρ')/\(l.all p=false->fY m g (l.map enc) ρ=.rt t)
 | [],ρ,h,_=>⟨λ_=>⟨ρ,rfl,h⟩,λh=>by simp at h⟩
 | a::l,ρ,h,st=>by
  obtain⟨ρ1,e1,h1,h2⟩:=st a (by simp) ρ h;rw[bD,fY,e1];dsimp only;cases hp:p a with
  | true=>obtain⟨ρ2,e2,q2⟩:=h1 hp;rw[e2];have ih:=nc enc P p t l ρ2 q2 λb hb ρ hP=>st b (by simp[hb]) ρ hP;rw[bQ,hp,Bool.true_and];exact ih
  | false=>rw[h2 hp,bQ,hp,Bool.false_and];exact⟨λz=>(by cases z),λ_=>rfl⟩
end L3
namespace CL
open PySem L2 L3
variable {c:Cs}
theorem F8{n:Nat}:Bn (n+1) 1:=by unfold Bn;rw[Nat.pow_succ];have:=Nat.two_pow_pos n;show 1<_;omega
theorem J2(a b:Int):fF (fr (a,b)) (.int 0)=.ok (.int a):=rfl
theorem IQ(a b:Int):fF (fr (a,b)) (.int 1)=.ok (.int b):=rfl
theorem vt(ns:LI):iK (ns.map T.int)=some ns:=by simp
theorem xB(ws:LI):ur [.lst (ws.map T.int)]=.ok (.int ws.sum):=by simp
end CL
namespace L3
open PySem L2
theorem uG{α:Type}{m:T->En->Option En}{g:En->O}(enc:α->T)(P:Nat->En->Prop)(R:T->Prop):∀(l:List α) (k:Nat) (ρ:En),P k ρ->
  (∀i a ρ,l[i]? = some a->P (k+i) ρ->∃ρ1,m (enc a) ρ=some ρ1/\((∃ρ2,g ρ1=.nx ρ2/\P (k+i+1) ρ2)\/∃t,g ρ1=.rt t/\R t))->
  (∃ρ',fY m g (l.map enc) ρ=.nx ρ'/\P (k+l.length) ρ')\/∃t,fY m g (l.map enc) ρ=.rt t/\R t
 | [],k,ρ,h,_=>.inl ⟨ρ,rfl,h⟩
 | a::l,k,ρ,h,st=>by
  obtain⟨ρ1,e1,h1⟩:=st 0 a ρ rfl h;rw[bD,fY,e1];dsimp only;rcases h1 with⟨ρ2,e2,h2⟩ | ⟨t,e2,h2⟩
  ·rw[e2];rw[ay,show k+(l.length+1)=k+1+l.length by omega];exact uG enc P R l (k+1) ρ2 h2 λi b ρ hb hP=>by have:=st (i+1) b ρ (by simpa using hb) (by rw[show k+(i+1)=k+1+i by omega];exact hP);rw[show k+1+i+1=k+(i+1)+1 by omega];exact this
  ·rw[e2];exact .inr ⟨t,rfl,h2⟩
end L3
namespace CL
open PySem L2 L3
variable {c:Cs}
theorem BS(S b:Int)(hS:0<S)(hb:0<b):0<(S*b).fdiv (Cu.G S b)/\S ∣ (S*b).fdiv (Cu.G S b)/\b ∣ (S*b).fdiv (Cu.G S b)/\((S*b).fdiv (Cu.G S b)).natAbs<=(S*b).natAbs:=by
 have hG:=Cu.yx S b (by omega);have h0:Cu.G S b≠0:=by omega
 obtain⟨u,hu⟩:=Cu.jw S b;obtain⟨v,hv⟩:=Cu.i6 S b;have e1:(S*b).fdiv (Cu.G S b)=u*b:=by
  conv=>lhs;arg 1;rw[hu]
  rw[cz];exact cB _ h0
 have e2:u*b=S*v:=by
  conv=>lhs;rw[hv]
  conv=>rhs;rw[hu]
  ac_rfl
 have hu0:0<u:=by
  refine aN λhc=>?_;have hu1:u<=0:=by omega
  have:=cN hu1 (az hG);rw[<-hu,cO] at this;omega
 refine⟨?_,?_,?_,nH ?_ h0⟩
 ·rw[e1];exact aW hu0 hb
 ·rw[e1,e2];exact⟨v,rfl⟩
 ·rw[e1];exact⟨u,cA _ _⟩
 ·exact cP (Cu.jw S b) ⟨b,rfl⟩
theorem wZ{α:Type}(l:List α)(k:Nat)(h:k<l.length):lP l (k:Int)=some l[k]:=by unfold lP rm;rw[aP (by omega),aP (by omega)];simp[h]
theorem xS(l:LI)(k:Nat)(h:k<l.length):lP l (k:Int)=some (l.getD k 0):=by rw[wZ l k h,af,ag h];rfl
theorem getD_mem(l:LI)(k:Nat)(h:k<l.length):l.getD k 0∈l:=by rw[af,ag h];exact aU h
theorem pU(l:LI)(k:Nat)(h:k<l.length):fF (.lst (l.map T.int)) (.int (k:Int))=.ok (.int (l.getD k 0)):=by simp[nX,xS l k h]
theorem gY(l:LI)(k:Nat)(h:k<l.length):fF (tI l) (.int (k:Int))=.ok (.int (l.getD k 0)):=by simp[tI,nX,xS l k h]
theorem ES(x:T)(xs:List T):fF (.lst (x::xs)) (.int 0)=.ok x:=by have h:=wZ (x::xs) 0 (by simp);have h':lP (x::xs) (0:Int)=some x:=h;show (match lP (x::xs) (0:Int) with | some t=>M.ok t | none=>.bad)=_;rw[h']
theorem AC{ρ:Pe}{fa fb:Pe->M T}{a b:List T}(ha:fa ρ=.ok (.lst a))(hb:fb ρ=.ok (.lst b))(hz:a.length+b.length<=sizeLine):fK (ox fa fb) ρ=.ok (.lst (a++b)):=by simp only[fK,ox,ha,hb,M.bind_ok];rw[aP hz];rfl
theorem Jr(n:Nat)(x:T):(List.replicate n [x]).flatten=List.replicate n x:=by
 induction n with
 | zero=>rfl
 | succ n ih=>rw[bS,bT,ih,bS];rfl
end CL
namespace CL
abbrev Vc:=Nat->Int
inductive Qs(P:Vc->Prop):Vc->Prop
 | of {x:Vc}:P x->Qs P x
 | zero:Qs P λ_=>0
 | lin {x y z:Vc} {s a b:Int}:Qs P x->Qs P y->s≠0->(∀i,s*z i=a*x i+b*y i)->Qs P z
theorem Qs.sub{P P':Vc->Prop}(h:∀x,P x->Qs P' x){z:Vc}(q:Qs P z):Qs P' z:=by
 induction q with
 | of p=>exact h _ p
 | zero=>exact .zero
 | lin _ _ s e i1 i2=>exact .lin i1 i2 s e
theorem Qs.mono{P P':Vc->Prop}(h:∀x,P x->P' x){z:Vc}(q:Qs P z):Qs P' z:=q.sub λx p=>.of (h x p)
theorem Qs.comb{P:Vc->Prop}{x y:Vc}(a b:Int)(hx:Qs P x)(hy:Qs P y):Qs P λi=>a*x i+b*y i:=.lin (s:=1) hx hy (by decide) λi=>by rw[cQ]
end CL
namespace CL
open PySem L2 L3
variable {c:Cs}
def vc(l:LI):Vc:=λi=>l.getD i 0
theorem oK(l:LI)(i:Nat)(h:l.length<=i):vc l i=0:=by unfold vc;rw[af,List.getElem?_eq_none h];rfl
theorem nT(l:LI)(i:Nat)(h:i<l.length):vc l i=l[i]:=by unfold vc;rw[af,ag h];rfl
def Jb(ah:List (Nat×LI)):Vc->Prop:=λx=>∃p∈ah,x=vc p.2
theorem iZ{α:Type}(l:List α)(k:Nat)(v:α)(h:l[k]? = some v):l.take (k+1)=l.take k++[v]:=by rw[List.take_succ,h];rfl
theorem yF{α:Type}(l:List α)(k:Nat)(v w:α)(h:l[k]? = some v):l.getD k w=v:=by rw[af,h];rfl
theorem tR{f:Pe->M T}{ρ:Pe}{i:Int}(h:f ρ=.ok (.int i)):zH (λi=>.int (-i)) f ρ=.ok (.int (-i)):=by simp only[zH,h,M.bind_ok]
theorem pO{n:Nat}:Bn n 0:=by unfold Bn;exact Nat.two_pow_pos _
theorem sG(N:Nat)(hN:N<=8000)(row:LI)(hl:row.length<1000)(hb:∀x∈row,Bn N x):∃(g:Int) (ys:LI),0<g/\kh c [tI row]=.ok (tI ys)/\ys.length=row.length/\(∀i,vc row i=g*vc ys i)/\∀y∈ys,Bn N y:=by
 have sz:1000<sizeLine:=by decide
 have main:=uG (m:=iV 2) (g:=se c) T.int
  (λk ρ=>∃(dv:Int) (x2:Option W),ρ=[some (.p (tI row)),some (.p (.int dv)),x2]/\0<=dv/\Bn N dv/\∀x∈row.take k,dv ∣ x)
  (λt=>t=tI row) row 0 _ ⟨0,none,rfl,by decide,pO,λx hx=>by simp at hx⟩ (by
   rintro i x ρ hi ⟨dv,x2,rfl,h1,h2,h3⟩;rw[aF] at h3 ⊢;have hxm:=au hi;refine⟨_,rfl,?_⟩;have e1:setO 1 (gN (dX (dI (dJ 1) (dI (dJ 2) dQ)) (eW c))) [some (.p (tI row)),some (.p (.int dv)),some (.p (.int x))]=.nx [some (.p (tI row)),some (.p (.int (Cu.G dv x))),some (.p (.int x))]:=ek (fU rfl rfl (jf dv x)) rfl;by_cases h:Cu.G dv x=1
   ·right;exact⟨_,dS e1 (gC (eT (dU rfl rfl (by rw[fH,h];rfl))) (eK rfl)),rfl⟩
   ·left;refine⟨_,dS e1 (fg (eT (dU rfl rfl (by rw[fH];simp[h]))) rfl),_,_,rfl,Cu.qx _ _,?_,λz hz=>?_⟩
    ·by_cases hx0:x=0
     ·rw[hx0,Cu.wB];exact cR (by omega) h2
     ·have q1:=Cu.GA dv x hx0;have q2:=Cu.qx dv x;exact cR (by omega) (hb x hxm)
    ·rw[iZ row i x hi] at hz;rcases ai.mp hz with q | q
     ·exact cP (Cu.jw dv x) (h3 z q)
     ·rw[aj.mp q];exact Cu.i6 dv x)
 rcases main with⟨ρ',e,dv,x2,rfl,h1,h2,h3⟩ | ⟨t,e,rfl⟩
 ·rw[aF,cS] at h3;by_cases h0:dv=0
  ·exact⟨1,row,by decide,eV rfl (dS (ek (t:=.int 0) rfl rfl) (dS (iI rfl e) (j3 (gC (eT (dU rfl rfl (by rw[fH,h0];rfl))) (eK rfl)) rfl))),rfl,λi=>by rw[cQ],hb⟩
  ·refine⟨dv,row.map (λx=>x.fdiv dv),by omega,eV rfl (dS (ek (t:=.int 0) rfl rfl) (dS (iI rfl e) (dS (fg (eT (dU rfl rfl (by rw[fH];simp[h0]))) rfl) (eK ?_)))),by simp,λi=>?_,λy hy=>?_⟩
   ·exact ki (t:=.lst ((row.map (λx=>x.fdiv dv)).map T.int)) (fI (fX row T.int (λx=>T.int (x.fdiv dv)) rfl (by omega) (λx hx=>⟨_,rfl,rfl,dU rfl rfl (j2 h0 (h2.noPy hN))⟩) (by rw[aH];rfl))) rfl
   ·by_cases hi:i<row.length
    ·rw[nT row i hi,nT _ i (by simpa using hi),cT];obtain⟨q,hq⟩:=h3 _ (aU hi);rw[hq,cB q h0]
    ·rw[oK row i (by omega),oK _ i (by simp;omega),cO]
   ·obtain⟨x,hx,rfl⟩:=aC.mp hy;exact cR (nH (h3 x hx) h0) (hb x hx)
 ·exact⟨1,row,by decide,eV rfl (dS (ek (t:=.int 0) rfl rfl) (j3 (iI rfl e) rfl)),rfl,λi=>by rw[cQ],hb⟩
theorem mP{g x:Int}(hg:g≠0)(h:g*x=0):x=0:=by
 rcases Int.mul_eq_zero.mp h with z | z
 ·exact absurd z hg
 ·exact z
theorem DS(o:Int):vz o*o=(o.natAbs:Int):=by
 unfold vz;split
 ·rw[cQ];omega
 ·split
  ·rw[cU,cQ];omega
  ·rw[cV];omega
def jA(p:Nat×LI):T:=.tup [.int (p.1:Int),tI p.2]
def sm:Nat->(Nat->Int)->Int
 | 0,_=>0
 | n+1,f=>f 0+sm n λi=>f (i+1)
theorem fP:∀(n:Nat) (f g:Nat->Int),(∀i,i<n->f i=g i)->sm n f=sm n g
 | 0,_,_,_=>rfl
 | n+1,f,g,h=>by rw[sm,sm,h 0 (by omega),fP n _ _ λi hi=>h (i+1) (by omega)]
theorem tW(a b:Int):∀(n:Nat) (f g:Nat->Int),sm n (λi=>a*f i+b*g i)=a*sm n f+b*sm n g
 | 0,_,_=>by simp[sm]
 | n+1,f,g=>by rw[sm,sm,sm,tW a b n (λi=>f (i+1)) λi=>g (i+1),cW,cW];omega
theorem v7(a:Int):∀(n:Nat) (f:Nat->Int),sm n (λi=>a*f i)=a*sm n f
 | 0,_=>by simp[sm]
 | n+1,f=>by rw[sm,sm,v7 a n λi=>f (i+1),cW]
theorem lu:∀n:Nat,sm n (λ_=>0)=0
 | 0=>rfl
 | n+1=>by rw[sm,lu n];rfl
theorem wH:∀(n k:Nat) (f:Nat->Int),k<n->sm n (λi=>(if i=k then 1 else 0)*f i)=f k
 | 0,k,f,h=>absurd h (cF _)
 | n+1,0,f,h=>by rw[sm,aP rfl,cQ,fP n _ (λ_=>0) (λi _=>by rw[aQ (by omega),cV]),lu,Int.add_zero]
 | n+1,k+1,f,h=>by rw[sm,aQ (by omega),cV,Int.zero_add,fP n _ (λi=>(if i=k then 1 else 0)*f (i+1)) (λi _=>by simp),wH n k (λi=>f (i+1)) (by omega)]
theorem Qs.at0{P:Vc->Prop}{k:Nat}(h:∀x,P x->x k=0){z:Vc}(q:Qs P z):z k=0:=by
 induction q with
 | of p=>exact h _ p
 | zero=>rfl
 | lin _ _ hs e i1 i2=>exact mP hs (by rw[e k,i1,i2,cO,cO];rfl)
theorem q9:∀(m:Nat) (l:List Nat),l.Nodup->(∀x∈l,x<m)->l.length<=m
 | 0,[],_,_=>aJ _
 | 0,x::l,_,h=>absurd (h x (bh ..)) (cF _)
 | m+1,l,hn,h=>by
  have h1:=q9 m (l.erase m) (hn.erase m) λx hx=>by have q:=(hn.mem_erase_iff).mp hx;have:=h x q.2;have:=q.1;omega
  by_cases hm:m∈l
  ·rw[cX hm] at h1;omega
  ·rw[List.erase_of_not_mem hm] at h1;omega
theorem x8{ρ:Pe}{fa fb:Pe->M T}{a b:List T}(ha:fa ρ=.ok (.lst a))(hb:fb ρ=.ok (.lst b))(hz:a.length+b.length<=sizeLine):ox fa fb ρ=.ok (a++b):=by simp only[ox,ha,hb,M.bind_ok];rw[aP hz]
theorem FK{ρ:Pe}{f:Pe->M T}{a:T}(h:f ρ=.ok a):fK (lstM (dI f dQ)) ρ=.ok (.lst [a]):=by
 have hz:1<=sizeLine:=by decide
 simp only[fK,lstM,dI,dQ,h,M.bind_ok,xo,ay,cY,hz,if_true]
theorem t8{ρ:Pe}{f g:Pe->M T}{a b:T}(h:f ρ=.ok a)(h2:g ρ=.ok b):mB (dI f (dI g dQ)) ρ=.ok (.tup [a,b]):=by
 have hz:2<=sizeLine:=by decide
 simp only[mB,dI,dQ,h,h2,M.bind_ok,xo,ay,cY,hz,if_true]
theorem xD{ρ:Pe}{f:Pe->M (List T)}{ts:List T}(h:fK f ρ=.ok (.lst ts)):f ρ=.ok ts:=by
 unfold fK at h;cases hf:f ρ with
 | ok us=>rw[hf] at h;cases h;rfl
 | bad=>rw[hf] at h;cases h
 | er a b=>rw[hf] at h;cases h
theorem Dw(a b:List T)(h:a.length+b.length<=sizeLine):gR (.tup a) (.tup b)=.ok (.tup (a++b)):=by unfold gR;exact aP h
theorem EU(a b:LI)(h:a.length+b.length<=1000):gR (tI a) (tI b)=.ok (tI (a++b)):=by
 have sz:1000<sizeLine:=by decide
 unfold tI;rw[Dw _ _ (by simp;omega),aY]
theorem rJ(pv:List (Nat×LI))(left:LI)(a:Nat)(f:Nat×LI->LI)(hl:pv.length<=100)(hf:∀p∈pv,iB c [tI p.2,tI left,.int (a:Int)]=.ok (tI (f p))) :
  iw c [.lst (pv.map jA),tI left,.int (a:Int)]=.ok ((pv.map (λp=>(p.1,f p))++[(a,left)]).map jA):=by
 have sz:1000<sizeLine:=by decide
 have e1:gS [none,none,some 1,some 2] (fB (dJ 0)) (nh 2 (gz (gM 0) (gz (gM 1) mZ))) (λ_=>.ok true) (mL c) (vw (eN 3 [.lst (pv.map jA),tI left,.int (a:Int)]))=.ok ((pv.map (λp=>(p.1,f p))).map jA):=fX pv jA (λp=>jA (p.1,f p)) rfl (by omega) (λp hp=>⟨_,rfl,rfl,t8 rfl (iU rfl rfl rfl (hf p hp))⟩) (by rw[aH];rfl)
 refine mR rfl (pN ?_);rw[aY];exact x8 (fI e1) (FK (t8 rfl rfl)) (by simp;omega)
theorem om{α β:Type}[Inhabited β]{P:α->β->Prop}(l:List α)(h:∀a∈l,∃b,P a b):∃f:α->β,∀a∈l,P a (f a):=⟨λa=>Classical.epsilon λb=>P a b,λa ha=>Classical.epsilon_spec (h a ha)⟩
theorem uU(rows:LL)(hn:rows.length<=8)(hl:∀r∈rows,r.length<=100):jC c [.lst (rows.map tI)]=.ok ((rows.zipIdx.map λp=>p.1++(List.replicate rows.length (0:Int)).set p.2 1).map tI):=by
 have sz:1000<sizeLine:=by decide
 obtain⟨ρ,e,x2,x3,x4,rfl⟩:=gG (m:=jr 2 (fj (iV 2) (fj (iV 3) jt))) (g:=oS c) (λ(p:LI×Nat)=>T.tup [.int (p.2:Int),tI p.1])
  (λk ρ=>∃x2 x3 x4:Option W,ρ=[some (.p (.lst (rows.map tI))),some (.o (((rows.zipIdx.take k).map λp=>p.1++(List.replicate rows.length (0:Int)).set p.2 1).map tI)),x2,x3,x4])
  rows.zipIdx 0 _ ⟨none,none,none,rfl⟩ (by
   rintro i ⟨r,k⟩ ρ hi ⟨x2,x3,x4,rfl⟩;rw[aF];have hmem:=au hi;have hj2:=List.mem_zipIdx hmem;have hkl:k<rows.length:=by omega
   have hrl:r.length<=100:=hl r (by rw[hj2.2.2];exact aU _);have hil:i<rows.length:=by have:=(aa.mp hi).1;simpa using this
   have hix:rm ((List.replicate rows.length (0:Int)).map T.int).length (k:Int)=some k:=by unfold rm;rw[aP (by omega),aP (by rw[aw,bL];omega)];simp
   refine⟨_,_,rfl,.inl (dS (kb (ts:=(List.replicate rows.length (0:Int)).map T.int) (xD (BJ rows.length (by omega) (ki rfl (by simp)))) rfl) (dS (p7 (us:=(List.replicate rows.length (0:Int)).map T.int) (t:=.int 1) (j:=(k:Int)) (m:=k) rfl rfl rfl rfl hix rfl) (Dh (t:=tI (r++(List.replicate rows.length (0:Int)).set k 1)) rfl ?_ (by simp) (by simp;omega) rfl))),some (.p (.int (k:Int))),some (.p (tI r)),some (.o (((List.replicate rows.length (0:Int)).map T.int).set k (.int 1))),?_⟩
   ·refine dU (x:=tI r) (y:=tI ((List.replicate rows.length (0:Int)).set k 1)) rfl (ki (t:=.lst (((List.replicate rows.length (0:Int)).set k 1).map T.int)) ?_ rfl) (EU _ _ (by simp;omega));show (M.ok (T.lst (((List.replicate rows.length (0:Int)).map T.int).set k (.int 1))))=_;rw[<-cZ]
   ·rw[iZ _ i (r,k) hi,aY,aY];rfl)
 rw[aF,cS] at e;refine mR rfl (dS (kb (ts:=[]) (by simp) rfl) (dS (iI ?_ e) rfl));rw[<-yV];rfl
end CL
namespace CL
theorem Fi:∀(n:Nat) (f g:Nat->Int),sm n (λi=>f i+g i)=sm n f+sm n g:=λn f g=>by have:=tW 1 1 n f g;simpa using this
def jn(m:Nat)(A u:Vc):Int:=sm m λi=>A i*u i
theorem pP{m:Nat}{A x y z:Vc}{s a b:Int}(h:∀i,s*z i=a*x i+b*y i):s*jn m A z=a*jn m A x+b*jn m A y:=by
 unfold jn;rw[<-v7,<-tW];refine fP m _ _ λi _=>?_;have:=h i;calc s*(A i*z i)=A i*(s*z i):=by rw[Int.mul_left_comm]
  _=A i*(a*x i+b*y i):=by rw[this]
  _=a*(A i*x i)+b*(A i*y i):=by grind
theorem nk(m:Nat):∀(As:List Vc) (T:List Nat),T.Nodup->(∀t∈T,t<m)->As.length<T.length->∃v:Vc,(∃i,v i≠0)/\(∀i,i∉T->v i=0)/\∀A∈As,jn m A v=0
 | [],T,nd,ht,hl=>by
  cases T with
  | nil=>cases hl
  | cons t T=>refine⟨λi=>if i=t then 1 else 0,⟨t,by simp⟩,λi hi=>?_,λA hA=>nomatch hA⟩;have:i≠t:=λz=>hi (by simp[z]);simp[this]
 | A::As,T,nd,ht,hl=>by
  cases T with
  | nil=>cases hl
  | cons t T=>
   obtain⟨nd1,nd2⟩:=bI.mp nd;have hl':As.length<T.length:=by simp at hl;exact hl
   obtain⟨v1,⟨j,hj⟩,o1,e1⟩:=nk m As T nd2 (λx hx=>ht x (by simp[hx])) hl';have hjT:j∈T:=aN λz=>hj (o1 j z);have lt2:As.length<((t::T).erase j).length:=by have hm:j∈t::T:=bj _ hjT;rw[cX hm,ay];exact hl'
   obtain⟨v2,⟨k,hk⟩,o2,e2⟩:=nk m As ((t::T).erase j) (nd.erase j) (λx hx=>ht x (c5 hx)) lt2;have v2j:v2 j=0:=o2 j (λz=>by rw[List.Nodup.mem_erase_iff nd] at z;exact z.1 rfl);by_cases hA:jn m A v2=0
   ·exact⟨v2,⟨k,hk⟩,λi hi=>o2 i (λz=>hi (c5 z)),λB hB=>by
     rcases aE.mp hB with rfl | hB
     ·exact hA
     ·exact e2 B hB⟩
   ·refine⟨λi=>jn m A v2*v1 i - jn m A v1*v2 i,⟨j,?_⟩,λi hi=>?_,λB hB=>?_⟩
    ·dsimp only;rw[v2j];simp[hA,hj]
    ·show jn m A v2*v1 i - jn m A v1*v2 i=0;rw[o1 i (λz=>hi (by simp[z])),o2 i (λz=>hi (c5 z))];simp
    ·have:=pP (m:=m) (A:=B) (x:=v1) (y:=v2) (z:=λi=>jn m A v2*v1 i - jn m A v1*v2 i) (s:=1) (a:=jn m A v2) (b:=-jn m A v1) (λi=>by grind);rcases aE.mp hB with rfl | hB
     ·rw[cQ] at this;rw[this];grind
     ·rw[e1 B hB,e2 B hB] at this;simpa using this
end CL
namespace CL
open PySem L2 L3
variable {c:Cs}
def qv(p:Int×Int):Rat:=(p.1:Rat) / (p.2:Rat)
structure GF(A B:Nat)(p:Int×Int):Prop where
 pos:0<p.2
 one:Cu.G p.1 p.2=1
 b1:Bn A p.1
 b2:Bn B p.2
theorem GF.mono{A B A' B':Nat}{p:Int×Int}(h:GF A B p)(h1:A<=A')(h2:B<=B'):GF A' B' p:=⟨h.pos,h.one,h.b1.mono h1,h.b2.mono h2⟩
theorem G9{i:Int}(h:0<i):(0:Rat)<(i:Rat):=by have:=(Rat.intCast_lt_intCast (a:=0) (b:=i)).mpr h;simpa using this
theorem DD{i:Int}(h:i≠0):(i:Rat)≠0:=λz=>by
 have e:(i:Rat)=((0:Int):Rat):=by simpa using z
 exact h (Rat.intCast_inj.mp e)
theorem Im(a:Int):Cu.G a 1=1:=by simp[Cu.G]
@[simp] theorem n6(p:Int×Int):fF (fr p) (.int 0)=.ok (.int p.1):=rfl
@[simp] theorem lG(p:Int×Int):fF (fr p) (.int 1)=.ok (.int p.2):=rfl
theorem nK(A B:Nat)(t b:Int)(hb:b≠0)(h1:Bn A t)(h2:Bn B b)(hB:B<=8000):∃p,ke c [.int t,.int b]=.ok (fr p)/\GF A B p/\qv p=(t:Rat) / (b:Rat):=by
 have hG:=Cu.yx t b hb;have hle:=Cu.GA t b hb;have hsm:∀x:Int,Builtin.divisionGoesByPylong x (if b<0 then -Cu.G t b else Cu.G t b)=false:=λx=>by refine Bn.noPy (n:=B) ?_ hB;unfold Bn at *;refine cR ?_ h2;split<;>omega
 have hn:(if b<0 then -Cu.G t b else Cu.G t b)≠0:=by split<;>omega
 have hd1:(if b<0 then -Cu.G t b else Cu.G t b) ∣ t:=by split<;>first | exact Int.neg_dvd.mpr (Cu.jw t b) | exact Cu.jw t b
 have hd2:(if b<0 then -Cu.G t b else Cu.G t b) ∣ b:=by split<;>first | exact Int.neg_dvd.mpr (Cu.i6 t b) | exact Cu.i6 t b
 have hl:=Cu.AV t b hb;refine⟨(t.fdiv (if b<0 then -Cu.G t b else Cu.G t b),b.fdiv (if b<0 then -Cu.G t b else Cu.G t b)),eV rfl (dS (fg (eT (dU rfl rfl (by rw[fH];simp[hb]))) rfl) (dS (ek (fU rfl rfl (jf t b)) rfl) (dS (ρ':=[some (.p (.int t)),some (.p (.int b)),some (.p (.int (if b<0 then -Cu.G t b else Cu.G t b)))]) ?_ (eK (t8 (dU rfl rfl (j2 hn (hsm t))) (dU rfl rfl (j2 hn (hsm b)))))))),⟨hl.pos,hl.one,cR (nH hd1 hn) h1,cR (nH hd2 hn) h2⟩,?_⟩
 ·by_cases h:b<0
  ·exact gC (eT (dU rfl rfl (by rw[yj];simp[h]))) (ek (t:=.int (-Cu.G t b)) (tR rfl) (by simp[h]))
  ·exact fg (eT (dU rfl rfl (by rw[yj];simp[h]))) (by simp[h])
 ·have e:=hl.is;generalize t.fdiv (if b<0 then -Cu.G t b else Cu.G t b)=x at *;generalize hy:b.fdiv (if b<0 then -Cu.G t b else Cu.G t b)=y at *;have hp:0<y:=hl.pos;have e':(x:Rat)*(b:Rat)=(t:Rat)*(y:Rat):=by rw[<-c6,<-c6,e]
  have n1:=DD hb;have n2:(y:Rat)≠0:=DD (by omega);show (x:Rat) / (y:Rat)=_;grind
theorem zg{A B A' B':Nat}{p r:Int×Int}(hp:GF A B p)(hr:GF A' B' r)(hB:B+B'<=8000)(hA:A<=20000)(hA':A'<=20000):∃s,nU c [fr p,fr r]=.ok (fr s)/\GF (max (A+B') (A'+B)+1) (B+B') s/\qv s=qv p - qv r:=by have hpp:=hp.pos;have hrp:=hr.pos;obtain⟨s,e,g,q⟩:=nK (c:=c) (max (A+B') (A'+B)+1) (B+B') (p.1*r.2 - r.1*p.2) (p.2*r.2) (c7 (by omega) (by omega)) ((hp.b1.mul hr.b2).sub (hr.b1.mul hp.b2)) (hp.b2.mul hr.b2) hB;refine⟨s,eV rfl (eK (fU (dU (dU (dU rfl rfl (n6 p)) (dU rfl rfl (lG r)) (fE (hp.b1.ok hr.b2 (by omega) (by omega)))) (dU (dU rfl rfl (n6 r)) (dU rfl rfl (lG p)) (fE (hr.b1.ok hp.b2 (by omega) (by omega)))) (lZ _ _)) (dU (dU rfl rfl (lG p)) (dU rfl rfl (lG r)) (fE (hp.b2.ok hr.b2 (by omega) (by omega)))) e)),g,?_⟩;rw[q];have n1:(p.2:Rat)≠0:=DD (by omega);have n2:(r.2:Rat)≠0:=DD (by omega);unfold qv;simp only[Rat.intCast_sub,c6];grind
theorem xb{N A B:Nat}{k:Int}{r:Int×Int}(hk:Bn N k)(hr:GF A B r)(hB:B<=8000)(hN:N<=20000)(hA:A<=20000):∃s,nz c [fr (k,1),fr r]=.ok (fr s)/\GF (N+A) B s/\qv s=(k:Rat)*qv r:=by have hrp:=hr.pos;obtain⟨s,e,g,q⟩:=nK (c:=c) (N+A) B (k*r.1) (1*r.2) (by omega) (hk.mul hr.b1) (by rw[cQ];exact hr.b2) hB;refine⟨s,eV rfl (eK (fU (dU (dU rfl rfl (n6 (k,1))) (dU rfl rfl (n6 r)) (fE (hk.ok hr.b1 (by omega) (by omega)))) (dU (dU rfl rfl (lG (k,1))) (dU rfl rfl (lG r)) (fE (rT (show (1:Int).natAbs<2 ^ 64 by decide)))) e)),g,?_⟩;rw[q,cQ];have n2:(r.2:Rat)≠0:=DD (by omega);unfold qv;simp only[c6];grind
theorem zC{N A B:Nat}{k:Int}{r:Int×Int}(h0:k≠0)(hk:Bn N k)(hr:GF A B r)(hB:B+N<=8000)(hA:A<=20000):∃s,qd c [fr r,fr (k,1)]=.ok (fr s)/\GF A (B+N) s/\qv s=qv r / (k:Rat):=by have hrp:=hr.pos;obtain⟨s,e,g,q⟩:=nK (c:=c) A (B+N) (r.1*1) (r.2*k) (c7 (by omega) h0) (by rw[bz];exact hr.b1) (hr.b2.mul hk) hB;refine⟨s,eV rfl (dS (fg (eT (dU (dU rfl rfl (n6 (k,1))) rfl (by rw[fH];simp[h0]))) rfl) (eK (fU (dU (dU rfl rfl (n6 r)) (dU rfl rfl (lG (k,1))) (fE (wV (show (1:Int).natAbs<2 ^ 64 by decide)))) (dU (dU rfl rfl (lG r)) (dU rfl rfl (n6 (k,1))) (fE (hr.b2.ok hk (by omega) (by omega)))) e))),g,?_⟩;rw[q,bz];have n1:=DD h0;have n2:(r.2:Rat)≠0:=DD (by omega);unfold qv;simp only[c6];grind
def nb(x:Int):Nat:=x.natAbs.log2+1
theorem yt(x:Int):Bn (nb x) x:=Nat.lt_log2_self
theorem EO{E:Nat}{x:Int}(h:Bn E x)(hE:1<=E):nb x<=E:=by
 unfold nb Bn at *;by_cases h0:x.natAbs=0
 ·rw[h0];simp;exact hE
 ·have:=(Nat.log2_lt h0).mpr h;omega
def wt(p:Int×Int):Nat:=max (nb p.1) (nb p.2)
def wts(s:List (Int×Int)):Nat:=(s.map wt).sum
structure Fq(p:Int×Int):Prop where
 pos:0<p.2
 one:Cu.G p.1 p.2=1
theorem Fq.gf{p:Int×Int}(h:Fq p):GF (wt p) (wt p) p:=⟨h.pos,h.one,(yt _).mono (cG _ _),(yt _).mono (cH _ _)⟩
theorem GF.fq{A B:Nat}{p:Int×Int}(h:GF A B p):Fq p:=⟨h.pos,h.one⟩
theorem GF.wt{A B E:Nat}{p:Int×Int}(h:GF A B p)(h1:A<=E)(h2:B<=E)(h3:1<=E):wt p<=E:=Nat.max_le.mpr ⟨EO (h.b1.mono h1) h3,EO (h.b2.mono h2) h3⟩
def AL(p:Int×(Int×Int)):T:=.tup [.int p.1,fr p.2]
theorem su(x0 x1:Option W)(N:Nat)(hN:N<=8000):∀(ps:List (Int×(Int×Int))) (left:Int×Int) (B j:Nat) (x3 x4:Option W),j+ps.length<=100->(∀p∈ps,Bn N p.1/\Fq p.2)->B+wts (ps.map Prod.snd)<=8000->GF (N+B+j) B left->
  ∃(s:Int×Int) (y3 y4:Option W),fY (jr 2 (fj (iV 3) (fj (iV 4) jt))) (lT c) (ps.map AL) [x0,x1,some (.p (fr left)),x3,x4]=.nx [x0,x1,some (.p (fr s)),y3,y4]/\GF (N+(B+wts (ps.map Prod.snd))+(j+ps.length)) (B+wts (ps.map Prod.snd)) s/\
   qv s=qv left - (ps.map λp=>(p.1:Rat)*qv p.2).sum
 | [],left,B,j,x3,x4,_,_,_,hg=>⟨left,x3,x4,rfl,by simpa[wts] using hg,by simp;grind⟩
 | p::ps,left,B,j,x3,x4,hj,hp,hB,hg=>by
  obtain⟨h1,h2⟩:=hp p (by simp);have hB':B+wt p.2+wts (ps.map Prod.snd)<=8000:=by simp[wts] at hB ⊢;omega
  obtain⟨t,e1,g1,q1⟩:=xb (c:=c) h1 h2.gf (by omega) (by omega) (by omega);simp at hj;obtain⟨l2,e2,g2,q2⟩:=zg (c:=c) hg g1 (by omega) (by omega) (by omega);have g3:GF (N+(B+wt p.2)+(j+1)) (B+wt p.2) l2:=g2.mono (by omega) (by omega);obtain⟨s,y3,y4,e,g,q⟩:=su x0 x1 N hN ps l2 (B+wt p.2) (j+1) (some (.p (.int p.1))) (some (.p (fr p.2))) (by omega) (λr hr=>hp r (by simp[hr])) hB' g3;refine⟨s,y3,y4,?_,?_,?_⟩
  ·rw[bD,fY];have s1:(jr 2 (fj (iV 3) (fj (iV 4) jt))) (AL p) [x0,x1,some (.p (fr left)),x3,x4]=some [x0,x1,some (.p (fr left)),some (.p (.int p.1)),some (.p (fr p.2))]:=rfl;rw[s1];have s2:lT c [x0,x1,some (.p (fr left)),some (.p (.int p.1)),some (.p (fr p.2))]=.nx [x0,x1,some (.p (fr l2)),some (.p (.int p.1)),some (.p (fr p.2))]:=ek (fU (x:=fr left) (y:=fr t) rfl (fU (x:=fr (p.1,1)) (y:=fr p.2) (t8 rfl rfl) rfl e1) e2) rfl;dsimp only;rw[s2];exact e
  ·have e1:B+wt p.2+wts (ps.map Prod.snd)=B+wts ((p::ps).map Prod.snd):=by simp[wts];omega
   rw[e1] at g;exact g.mono (by simp;omega) (aJ _)
  ·rw[q,q2,q1];simp only[bD,c8];grind
def zD(row:LI)(s:List (Int×Int)):Rat:=((row.zip s).map λp=>(p.1:Rat)*qv p.2).sum
theorem uV(N:Nat)(hN:N<=8000)(h1:1<=N)(row:LI)(s:List (Int×Int))(hl:s.length<row.length)(hs:s.length<=10)(hb:∀x∈row,Bn N x)(hq:∀p∈s,Fq p)(hB:1+wts s<=8000) :
  ∃r,ka c [tI row,.lst (s.map fr)]=.ok (fr r)/\GF (N+wts s+20) (1+wts s) r/\qv r=(vc row s.length:Rat) - zD row s:=by
 have sz:1000<sizeLine:=by decide
 have ix:fF (tI row) (.int (s.length:Int))=.ok (.int (vc row s.length)):=gY row s.length hl;have em:(row.zip s).map Prod.snd=s:=by rw[List.map_snd_zip];omega
 have hc:Bn N (vc row s.length):=hb _ (getD_mem row s.length hl);obtain⟨r,y3,y4,e,g,q⟩:=su (c:=c) (some (.p (tI row))) (some (.p (.lst (s.map fr)))) N hN (row.zip s) (vc row s.length,1) 1 0 none none (by simp;omega) (λp hp=>⟨hb _ (aV hp).1,hq _ (aV hp).2⟩) (by rw[em];exact hB) ⟨show (0:Int)<1 by decide,Im _,hc.mono (by omega),show Bn 1 1 by unfold Bn;decide⟩;rw[em] at g;refine⟨r,eV rfl (dS (ek (t:=fr (vc row s.length,1)) (t8 (dU rfl (ki (t:=.lst (s.map fr)) (r:=.ok (.int (s.length:Int))) rfl (by simp)) ?_) rfl) rfl) (dS (iI (m6 (f:=T.int) (g:=fr) rfl rfl rfl rfl) e) (eK rfl))),g.mono (by simp;omega) (aJ _),?_⟩
 ·exact ix
 ·rw[q];unfold zD;have:qv (vc row s.length,1)=(vc row s.length:Rat):=by unfold qv;simp;grind
  rw[this]
theorem FL{ρ:Pe}{fc fd:Pe->M Bool}(h:fc ρ=.ok false):nv fc fd ρ=.ok false:=by simp only[L3.nv,h,M.bind_ok];rfl
theorem Gg{ρ:Pe}{fc fd:Pe->M Bool}{b:Bool}(h:fc ρ=.ok true)(h2:fd ρ=.ok b):nv fc fd ρ=.ok b:=by simp only[L3.nv,h,h2,M.bind_ok];rfl
theorem vP(N M:Nat)(row other:LI)(a:Nat)(ha:a<row.length)(hl:other.length=row.length)(hs:row.length<1000)(hN:N+M+1<=8000)(hb:∀x∈row,Bn N x)(ho:∀x∈other,Bn M x)(hne:vc other a≠0) :
  ∃r,iB c [tI row,tI other,.int (a:Int)]=.ok (tI r)/\r.length=row.length/\(∀x∈r,Bn (N+M+1) x)/\vc r a=0/\∃g s b:Int,0<g/\0<s/\(∀i,g*vc r i=s*vc row i+b*vc other i)/\(vc row a≠0->s=((vc other a).natAbs:Int)/\b = -vc row a*vz (vc other a)):=by
 have sz:1000<sizeLine:=by decide
 have i1:fF (tI row) (.int (a:Int))=.ok (.int (vc row a)):=gY row a ha;have i2:fF (tI other) (.int (a:Int))=.ok (.int (vc other a)):=gY other a (by omega);have b1:Bn N (vc row a):=hb _ (getD_mem row a ha);have b2:Bn M (vc other a):=ho _ (getD_mem other a (by omega));by_cases h0:vc row a=0
 ·exact⟨row,eV rfl (j3 (gC (eT (dU (dU rfl rfl i1) rfl (by rw[fH,h0];rfl))) (eK rfl)) rfl),rfl,λx hx=>(hb x hx).mono (by omega),h0,1,1,0,by decide,by decide,λi=>by omega,λz=>absurd h0 z⟩
 ·generalize hO:vc other a=o at *;generalize hX:vc row a=x0 at *;have ab:uJ [.int o]=.ok (.int (o.natAbs:Int)):=by simp[C0]
  let w:Int:=-x0*vz o;have hsg:=zy o;have bw:Bn N w:=by
   refine cR ?_ b1;show (-x0*vz o).natAbs<=_;rw[aX,cJ];have:(vz o).natAbs<=1:=by omega
   exact aM (c9 _ this) (by omega)
  have bo:Bn M (o.natAbs:Int):=cR (by omega) b2;let ys:LI:=(row.zip other).map λp=>(o.natAbs:Int)*p.1+w*p.2;have hyl:ys.length=row.length:=by simp[ys,hl]
  have hyb:∀y∈ys,Bn (N+M+1) y:=λy hy=>by obtain⟨p,hp,rfl⟩:=aC.mp hy;exact ((bo.mul (hb _ (aV hp).1)).add (bw.mul (ho _ (aV hp).2))).mono (by omega)
  have hyv:∀i,vc ys i=(o.natAbs:Int)*vc row i+w*vc other i:=λi=>by
   by_cases hi:i<row.length
   ·rw[nT ys i (by omega),nT row i hi,nT other i (by omega)];simp[ys]
   ·rw[oK ys i (by omega),oK row i (by omega),oK other i (by omega),cO,cO];rfl
  obtain⟨g,r,hg,er,hrl,hrv,hrb⟩:=sG (c:=c) (N+M+1) hN ys (by omega) hyb;refine⟨r,eV rfl (dS (fg (eT (dU (dU rfl rfl i1) rfl (by rw[fH];simp[h0]))) rfl) (dS (ek (t:=.int (o.natAbs:Int)) (ki (dU rfl rfl i2) ab) rfl) (dS (ek (t:=.int w) ?_ rfl) (eK (pD (x:=tI ys) ?_ er))))),by omega,hrb,?_,g,(o.natAbs:Int),w,hg,by omega,λi=>by rw[<-hrv i,hyv i],λ_=>⟨rfl,rfl⟩⟩
  ·refine dU (x:=.int (-x0)) (y:=.int (vz o)) ?_ (pD (dU rfl rfl i2) (xj o)) (fE ((b1.neg).ok (n:=2) ?_ (by omega) (by decide)))
   ·exact tR (dU rfl rfl i1)
   ·unfold Bn;show _<4;omega
  ·refine ki (t:=.lst (ys.map T.int)) (fI (fX (row.zip other) (λp=>T.tup [.int p.1,.int p.2]) (λp=>T.int ((o.natAbs:Int)*p.1+w*p.2)) (m6 rfl rfl rfl rfl) (by simp;omega) (λp hp=>⟨_,rfl,rfl,?_⟩) (by rw[aH];rfl))) rfl;exact dU (dU rfl rfl (fE (bo.ok (hb _ (aV hp).1) (by omega) (by omega)))) (dU rfl rfl (fE (bw.ok (ho _ (aV hp).2) (by omega) (by omega)))) (gH _ _)
  ·refine mP (g:=g) (by omega) ?_;rw[<-hrv a,hyv a,hO,hX];show _ + -x0*vz o*o=_;rw[cz,DS,cU,cA x0];omega
theorem mE(P:Vc->Prop)(x1:Option W)(L M:Nat)(hL:L<1000):∀(pv:List (Nat×LI)) (row:LI) (N:Nat) (x2 x3:Option W),N+pv.length*(M+1)<=8000->row.length=L->(∀x∈row,Bn N x)->(∀p∈pv,p.1<L/\p.2.length=L/\vc p.2 p.1≠0/\(∀x∈p.2,Bn M x)/\P (vc p.2))->pv.Pairwise (λp q=>vc q.2 p.1=0)->
  ∃(r:LI) (y2 y3:Option W),fY (jr 2 (fj (iV 2) (fj (iV 3) jt))) (m5 c) (pv.map jA) [some (.p (tI row)),x1,x2,x3]=.nx [some (.p (tI r)),x1,y2,y3]/\r.length=L/\(∀x∈r,Bn (N+pv.length*(M+1)) x)/\
   (∃(g s:Int) (y:Vc),0<g/\0<s/\Qs P y/\∀i,g*vc r i=s*vc row i+1*y i)/\(∀k,vc row k=0->(∀p∈pv,vc p.2 k=0)->vc r k=0)/\∀p∈pv,vc r p.1=0
 | [],row,N,x2,x3,_,hl,hb,_,_=>⟨row,x2,x3,rfl,hl,λx hx=>(hb x hx).mono (by omega),⟨1,1,λ_=>0,by decide,by decide,.zero,λi=>by show 1*vc row i=1*vc row i+1*0;omega⟩,λk hk _=>hk,λp hp=>nomatch hp⟩
 | (a,prow)::pv,row,N,x2,x3,hN,hl,hb,hA,hw=>by
  obtain⟨h1,h2,h3,h4,h5⟩:=hA (a,prow) (bh ..);dsimp only at h1 h2 h3 h4 h5;obtain⟨w1,w2⟩:=List.pairwise_cons.mp hw;rw[ay,bW] at hN;obtain⟨r1,e1,c1,b1,z0,g1,s1,q1,hg1,hs1,v1,_⟩:=vP (c:=c) N M row prow a (by omega) (by omega) (by omega) (by omega) hb h4 h3;obtain⟨r,y2,y3,e,hrl,hrb,⟨g2,s2,y,hg2,hs2,hy,v2⟩,z1,z2⟩:=mE P x1 L M hL pv r1 (N+M+1) (some (.p (.int (a:Int)))) (some (.p (tI prow))) (by omega) (by rw[c1,hl]) b1 (λp hp=>hA p (bj _ hp)) w2;refine⟨r,y2,y3,?_,hrl,λx hx=>(hrb x hx).mono (by rw[ay,bW];omega),⟨g1*g2,s2*s1,_,aW hg1 hg2,aW hs2 hs1,Qs.comb (s2*q1) g1 (.of h5) hy,λi=>?_⟩,λk hk hp=>?_,λp hp=>?_⟩
  ·rw[bD,fY];have s1:(jr 2 (fj (iV 2) (fj (iV 3) jt))) (jA (a,prow)) [some (.p (tI row)),x1,x2,x3]=some [some (.p (tI row)),x1,some (.p (.int (a:Int))),some (.p (tI prow))]:=rfl;rw[s1];have s2:m5 c [some (.p (tI row)),x1,some (.p (.int (a:Int))),some (.p (tI prow))]=.nx [some (.p (tI r1)),x1,some (.p (.int (a:Int))),some (.p (tI prow))]:=ek (iU rfl rfl rfl e1) rfl;dsimp only;rw[s2];exact e
  ·calc g1*g2*vc r i=g1*(g2*vc r i):=by ac_rfl
    _=s2*(g1*vc r1 i)+g1*y i:=by rw[v2 i,cQ,cW];congr 1;ac_rfl
    _=_:=by rw[v1 i,cW];simp only[cQ,cz,Int.add_assoc]
  ·refine z1 k (mP (g:=g1) (by omega) ?_) λp hp'=>hp p (bj _ hp');have:=hp (a,prow) (bh ..);dsimp only at this;rw[v1 k,hk,this,cO,cO];rfl
  ·rcases aE.mp hp with rfl | hp
   ·exact z1 _ z0 λq hq=>w1 q hq
   ·exact z2 p hp
theorem A0(P:Vc->Prop)(L M N:Nat)(hL:L<1000)(pv:List (Nat×LI))(row:LI)(hN:N+pv.length*(M+1)<=8000)(hl:row.length=L)(hb:∀x∈row,Bn N x)(hp:∀p∈pv,p.1<L/\p.2.length=L/\vc p.2 p.1≠0/\(∀x∈p.2,Bn M x)/\P (vc p.2))(hw:pv.Pairwise (λp q=>vc q.2 p.1=0)) :
  ∃r:LI,kS c [tI row,.lst (pv.map jA)]=.ok (tI r)/\r.length=L/\(∀x∈r,Bn (N+pv.length*(M+1)) x)/\
   (∃(g s:Int) (y:Vc),0<g/\0<s/\Qs P y/\∀i,g*vc r i=s*vc row i+1*y i)/\∀p∈pv,vc r p.1=0:=by
 obtain⟨r,y2,y3,e,h1,h2,h3,-,h4⟩:=mE (c:=c) P (some (.p (.lst (pv.map jA)))) L M hL pv row N none none hN hl hb hp hw;exact⟨r,eV rfl (dS (iI rfl e) (eK rfl)),h1,h2,h3,h4⟩
def lB(us:LL)(d:Nat)(x:Vc):Prop:=∀k,k<=d->x k=sm us.length λi=>x (d+1+i)*vc (us.getD i []) k
theorem lB.comb{us:LL}{d:Nat}{x y z:Vc}{g a b:Int}(hg:g≠0)(hx:lB us d x)(hy:lB us d y)(e:∀i,g*z i=a*x i+b*y i):lB us d z:=λk hk=>by refine dc hg ?_;rw[e k,hx k hk,hy k hk,<-tW,<-v7];refine fP _ _ _ λi _=>?_;have:=e (d+1+i);rw[<-cz g,this];grind
theorem lB.zero{us:LL}{d:Nat}:lB us d λ_=>0:=λk _=>by
 have:(λi=>(0:Int)*vc (us.getD i []) k)=λ_=>0:=by funext i;simp
 rw[this,lu]
theorem lB.qs{us:LL}{d:Nat}{P:Vc->Prop}(h:∀x,P x->lB us d x){z:Vc}(q:Qs P z):lB us d z:=by
 induction q with
 | zero=>exact .zero
 | of p=>exact h _ p
 | lin _ _ hs e i1 i2=>exact i1.comb hs i2 e
def wr(us:LL)(k:Nat):LI:=us.getD k []++(List.replicate us.length (0:Int)).set k 1
theorem uT(us:LL)(d k:Nat)(hk:k<us.length)(hl:∀u∈us,u.length=d+1)(i:Nat):vc (wr us k) i=if i<d+1 then vc (us.getD k []) i else if i - (d+1)=k then 1 else 0:=by
 have hm:us.getD k []∈us:=by rw[af,ag hk];exact aU hk
 have jm:=hl _ hm;unfold wr;generalize us.getD k []=u at *;unfold vc;rw[af,List.getElem?_append,jm];split
 ·rw[af]
 ·rw[List.getElem?_set];split
  ·rename_i h;rw[aP h.symm];rw[bL];rw[aP (by omega)];rfl
  ·rename_i h;rw[aQ (λz=>h z.symm),List.getElem?_replicate];split<;>rfl
theorem Gi(us:LL)(d k:Nat)(hk:k<us.length)(hl:∀u∈us,u.length=d+1):(wr us k).length=d+1+us.length:=by
 have hm:us.getD k []∈us:=by rw[af,ag hk];exact aU hk
 have jm:=hl _ hm;unfold wr;generalize us.getD k []=u at *;simp[jm]
theorem Ia{B:Nat}(hB:1<=B)(us:LL)(k:Nat)(hk:k<us.length)(hb:∀u∈us,∀x∈u,Bn B x):∀x∈wr us k,Bn B x:=λx hx=>by
 have hm:us.getD k []∈us:=by rw[af,ag hk];exact aU hk
 rcases ai.mp hx with h | h
 ·exact hb _ hm x h
 ·rcases de h with h | h
  ·rw[a9 h];exact pO
  ·rw[h];have:Bn 1 1:=by unfold Bn;decide
   exact this.mono hB
theorem Ft(us:LL)(d k:Nat)(hk:k<us.length)(hl:∀u∈us,u.length=d+1):lB us d (vc (wr us k)):=λp hp=>by
 rw[uT us d k hk hl p,aP (by omega)];have:(λi=>vc (wr us k) (d+1+i)*vc (us.getD i []) p)=λi=>(if i=k then 1 else 0)*vc (us.getD i []) p:=by funext i;rw[uT us d k hk hl (d+1+i),aQ (by omega),show d+1+i - (d+1)=i by omega]
 rw[this,wH _ k _ hk]
def Pq(B:Nat):Nat->Nat
 | 0=>0
 | k+1=>Pq B k+(B+k*(Pq B k+1))+1
theorem Ck(B:Nat)(k:Nat):Pq B k<=Pq B (k+1):=by show _<=Pq B k+(B+k*(Pq B k+1))+1;omega
structure PV(us:LL)(d B:Nat)(dn:List Nat)(pv:List (Nat×LI))(rs:LL)(ix:List Nat):Prop where
 len:pv.length=ix.length
 pl:∀p∈pv,p.1<d/\p.2.length=d+1+us.length/\vc p.2 p.1≠0/\(∀x∈p.2,Bn (Pq B pv.length) x)/\lB us d (vc p.2)/\∀i,i∉ix->vc p.2 (d+1+i)=0
 pw:pv.Pairwise λp q=>p.1≠q.1/\vc q.2 p.1=0/\vc p.2 q.1=0
 rr:∀r∈rs,r.length=d+1+us.length/\(∀k,k<d->vc r k=0)/\lB us d (vc r)/\(∀i,i∉dn->vc r (d+1+i)=0)/\∀x∈r,Bn (B+d*(Pq B d+1)) x
 sub:∀i∈ix,i∈dn
 sp:∀z∈dn,Qs (λx=>(∃p∈pv,x=vc p.2)\/∃r∈rs,x=vc r) (vc (wr us z))
theorem PV.short{us:LL}{d B:Nat}{dn:List Nat}{pv:List (Nat×LI)}{rs:LL}{ix:List Nat}(h:PV us d B dn pv rs ix):pv.length<=d:=by
 have nd:(pv.map Prod.fst).Nodup:=df.mpr (h.pw.imp λq=>q.1);have:=q9 d (pv.map Prod.fst) nd λx hx=>by obtain⟨p,hp,rfl⟩:=aC.mp hx;exact (h.pl p hp).1
 simpa using this
theorem uY{B k d:Nat}(h:k<=d):Pq B k<=Pq B d:=by
 induction h with
 | refl=>exact aJ _
 | step _ ih=>exact aM ih (Ck B _)
theorem Qs.at_zero{P:Vc->Prop}{k:Nat}(h:∀x,P x->x k=0){z:Vc}(q:Qs P z):z k=0:=Qs.at0 h q
theorem DI{us:LL}{d B:Nat}{dn:List Nat}{pv:List (Nat×LI)}{rs:LL}{ix:List Nat}(h:PV us d B dn pv rs ix){z:Nat}{left:LI}(hz:lB us d (vc (wr us z)))(hw:∀i,i≠z->vc (wr us z) (d+1+i)=0){g s:Int}{y:Vc}(hg:0<g)(hs:0<s)(hy:Qs (Jb pv) y)(e:∀i,g*vc left i=s*vc (wr us z) i+1*y i)
  (hl:left.length=d+1+us.length) (h0:∀k,k<d->vc left k=0) (hb:∀x∈left,Bn (B+d*(Pq B d+1)) x):PV us d B (dn++[z]) pv (rs++[left]) ix:=by
 have ly:lB us d y:=lB.qs (λx ⟨p,hp,ex⟩=>by rw[ex];exact (h.pl p hp).2.2.2.2.1) hy;refine⟨h.len,h.pl,h.pw,λr hr=>?_,λi hi=>ax _ (h.sub i hi),λz' hz'=>?_⟩
 ·rcases ai.mp hr with hr | hr
  ·obtain⟨a1,a2,a3,a4,a5⟩:=h.rr r hr;exact⟨a1,a2,a3,λi hi=>a4 i (λq=>hi (ax _ q)),a5⟩
  ·rw[aj.mp hr];refine⟨hl,h0,hz.comb (by omega) ly e,λi hi=>?_,hb⟩;refine mP (g:=g) (by omega) ?_;rw[e,hw i (λq=>hi (by simp[q]))];have:y (d+1+i)=0:=Qs.at_zero (λx ⟨p,hp,ex⟩=>by rw[ex];exact (h.pl p hp).2.2.2.2.2 i (λq=>hi (ax _ (h.sub i q)))) hy;rw[this];simp
 ·rcases ai.mp hz' with q | q
  ·exact (h.sp z' q).mono λx hx=>by
    rcases hx with⟨p,hp,ex⟩ | ⟨r,hr,ex⟩
    ·exact .inl ⟨p,hp,ex⟩
    ·exact .inr ⟨r,ax _ hr,ex⟩
  ·rw[aj.mp q];exact .lin (s:=s) (a:=g) (b:=-1) (.of (.inr ⟨left,by simp,rfl⟩)) (hy.mono λx ⟨p,hp,ex⟩=>.inl ⟨p,hp,ex⟩) (by omega) λi=>by have:=e i;omega
theorem Be{us:LL}{d B:Nat}{dn:List Nat}{pv:List (Nat×LI)}{rs:LL}{ix:List Nat}(h:PV us d B dn pv rs ix){z:Nat}{left:LI}(hz:lB us d (vc (wr us z)))(hw:∀i,i≠z->vc (wr us z) (d+1+i)=0){g s:Int}{y:Vc}(hg:0<g)(hs:0<s)(hy:Qs (Jb pv) y)(e:∀i,g*vc left i=s*vc (wr us z) i+1*y i)
  (hl:left.length=d+1+us.length) (hp0:∀p∈pv,vc left p.1=0) (hb:∀x∈left,Bn (B+pv.length*(Pq B pv.length+1)) x) {a:Nat} (ha:a<d) (hna:vc left a≠0) (f:Nat×LI->LI)
  (hf:∀p∈pv,(f p).length=p.2.length/\(∀x∈f p,Bn (Pq B (pv.length+1)) x)/\vc (f p) a=0/\∃g s b:Int,0<g/\0<s/\∀i,g*vc (f p) i=s*vc p.2 i+b*vc left i) :
  PV us d B (dn++[z]) (pv.map (λp=>(p.1,f p))++[(a,left)]) rs (ix++[z]):=by
 have ly:lB us d y:=lB.qs (λx ⟨p,hp,ex⟩=>by rw[ex];exact (h.pl p hp).2.2.2.2.1) hy;have ll:lB us d (vc left):=hz.comb (by omega) ly e;have wl:∀i,i∉ix++[z]->vc left (d+1+i)=0:=λi hi=>by refine mP (g:=g) (by omega) ?_;rw[e,hw i (λq=>hi (by simp[q]))];have:y (d+1+i)=0:=Qs.at_zero (λx ⟨p,hp,ex⟩=>by rw[ex];exact (h.pl p hp).2.2.2.2.2 i (λq=>hi (ax _ q))) hy;rw[this];simp
 have ne:∀p∈pv,p.1≠a:=λp hp q=>hna (q▸hp0 p hp);refine⟨by simp[h.len],λp hp=>?_,?_,λr hr=>?_,λi hi=>?_,λz' hz'=>?_⟩
 ·simp only[aS,aw,bV];rcases ai.mp hp with hp | hp
  ·obtain⟨p',hp',rfl⟩:=aC.mp hp;obtain⟨a1,a2,a3,a4,a5,a6⟩:=h.pl p' hp';obtain⟨f1,f2,f3,g1,s1,b1,hg1,hs1,v1⟩:=hf p' hp';refine⟨a1,by rw[f1,a2],λq=>a3 ?_,f2,a5.comb (by omega) ll v1,λi hi=>?_⟩
   ·have:=v1 p'.1;rw[q,hp0 p' hp',cO,cO,Int.add_zero] at this;exact mP (g:=s1) (by omega) this.symm
   ·refine mP (g:=g1) (by omega) ?_;rw[v1,a6 i (λq=>hi (ax _ q)),wl i hi];simp
  ·rw[aj.mp hp];exact⟨ha,hl,hna,λx hx=>(hb x hx).mono (by show _<=Pq B pv.length+(B+pv.length*(Pq B pv.length+1))+1;omega),ll,wl⟩
 ·refine dg.mpr ⟨df.mpr (h.pw.imp_of_mem λ{p q} hp hq r=>?_),dh _ _,λp hp q hq=>?_⟩
  ·obtain⟨r1,r2,r3⟩:=r;obtain⟨_,_,_,g1,s1,b1,hg1,hs1,v1⟩:=hf p hp;obtain⟨_,_,_,g2,s2,b2,hg2,hs2,v2⟩:=hf q hq;refine⟨r1,mP (g:=g2) (by omega) ?_,mP (g:=g1) (by omega) ?_⟩
   ·rw[v2,r2,hp0 p hp];simp
   ·rw[v1,r3,hp0 q hq];simp
  ·obtain⟨p',hp',rfl⟩:=aC.mp hp;rw[aj.mp hq];exact⟨ne p' hp',hp0 p' hp',(hf p' hp').2.2.1⟩
 ·obtain⟨a1,a2,a3,a4,a5⟩:=h.rr r hr;exact⟨a1,a2,a3,λi hi=>a4 i (λq=>hi (ax _ q)),a5⟩
 ·rcases ai.mp hi with hi | hi
  ·exact ax _ (h.sub i hi)
  ·exact bB _ hi
 ·let Pn:Vc->Prop:=λx=>(∃p∈pv.map (λp=>(p.1,f p))++[(a,left)],x=vc p.2)\/∃r∈rs,x=vc r;have ql:Qs Pn (vc left):=.of (.inl ⟨(a,left),by simp,rfl⟩);have qp:∀p∈pv,Qs Pn (vc p.2):=λp hp=>by obtain⟨_,_,_,g1,s1,b1,hg1,hs1,v1⟩:=hf p hp;exact .lin (s:=s1) (a:=g1) (b:=-b1) (.of (.inl ⟨(p.1,f p),ax _ (aC.mpr ⟨p,hp,rfl⟩),rfl⟩)) ql (by omega) λi=>by have:=v1 i;have e2:-b1*vc left i = -(b1*vc left i):=cU _ _;dsimp only at this ⊢;omega
  rcases ai.mp hz' with q | q
  ·exact (h.sp z' q).sub λx hx=>by
    rcases hx with⟨p,hp,ex⟩ | ⟨r,hr,ex⟩
    ·rw[ex];exact qp p hp
    ·exact .of (.inr ⟨r,hr,ex⟩)
  ·rw[aj.mp q];exact .lin (s:=s) (a:=g) (b:=-1) ql (hy.sub λx ⟨p,hp,ex⟩=>by rw[ex];exact qp p hp) (by omega) λi=>by have:=e i;omega
structure Js(d B:Nat):Prop where
 b1:1<=B
 le:∀k,k<=d->B+k*(Pq B k+1)<=8000
 pq:Pq B d<=8000
theorem IZ(us:LL)(d k:Nat)(hk:k<us.length)(hl:∀u∈us,u.length=d+1):∀i,i≠k->vc (wr us k) (d+1+i)=0:=λi hi=>by rw[uT us d k hk hl,aQ (by omega),aQ (by omega)]
theorem xy(us:LL)(d B:Nat)(hd:d<=4)(hn:us.length<=8)(hl:∀u∈us,u.length=d+1)(hb:∀u∈us,∀x∈u,Bn B x)(hB:Js d B)(zs:List Nat)(hz:∀z∈zs,z<us.length)(hzl:zs.length<=8) :
  ∃pv rs ix,fL c [.lst ((zs.map (wr us)).map tI),.int (d:Int)]=.ok (.tup [.lst (pv.map jA),.lst (rs.map tI)])/\PV us d B zs pv rs ix/\rs.length<=8:=by
 have sz:1000<sizeLine:=by decide
 have hrm:zM (d:Int)=true:=jZ (by omega);obtain⟨ρ,e,pv,rs,ix,x4,x5,x6,rfl,hI,hrs⟩:=gG (m:=iV 4) (g:=iF c) (λz=>tI (wr us z))
  (λk ρ=>∃(pv:List (Nat×LI)) (rs:LL) (ix:List Nat) (x4 x5 x6:Option W),ρ=[some (.p (.lst ((zs.map (wr us)).map tI))),some (.p (.int (d:Int))),some (.p (.lst (pv.map jA))),some (.o (rs.map tI)),x4,x5,x6]/\PV us d B (zs.take k) pv rs ix/\rs.length<=k)
  zs 0 _ ⟨[],[],[],none,none,none,rfl,⟨rfl,(λp hp=>nomatch hp),List.Pairwise.nil,(λp hp=>nomatch hp),(λp hp=>nomatch hp),(λz hz=>by simp at hz)⟩,aJ _⟩ (by
   rintro k z ρ hi ⟨pv,rs,ix,x4,x5,x6,rfl,hI,hrs⟩;rw[aF] at hI hrs ⊢;have hzk:=hz z (au hi);have hkl:k<zs.length:=(aa.mp hi).1;have hpl:=hI.short;have hlin:=Ft us d z hzk hl;have hww:=IZ us d z hzk hl;have hbb:=hB.le pv.length hpl;obtain⟨left,el,hll,hlb,⟨g,s,y,hg,hs,hy,ey⟩,h0⟩:=A0 (c:=c) (Jb pv) (d+1+us.length) (Pq B pv.length) B (by omega) pv (wr us z) hbb (Gi us d z hzk hl) (Ia hB.b1 us z hzk hb) (λp hp=>by obtain⟨q1,q2,q3,q4,_⟩:=hI.pl p hp;exact⟨by omega,q2,q3,q4,p,hp,rfl⟩) (hI.pw.imp λh=>h.2.1)
   let pl:List Nat:=(List.range d).filter λj=>left.getD j 0 != 0;let R:En:=[some (.p (.lst ((zs.map (wr us)).map tI))),some (.p (.int (d:Int))),some (.p (.lst (pv.map jA))),some (.o (rs.map tI)),some (.p (tI (wr us z))),some (.p (tI left)),some (.p (.lst (pl.map λ(j:Nat)=>T.int (j:Int))))];have e4:gS [none,some 5] (iM (dI (dJ 1) dQ)) (gM 0) (fz (ed (eG true) (ed fF (dJ 1) (dJ 0)) (cM (.int 0)))) (jT c) (lK [some (.p (.lst ((zs.map (wr us)).map tI))),some (.p (.int (d:Int))),some (.p (.lst (pv.map jA))),some (.o (rs.map tI)),some (.p (tI (wr us z))),some (.p (tI left)),x6])=.ok (pl.map λ(j:Nat)=>T.int (j:Int)):=mV (List.range d) (λ(j:Nat)=>T.int (j:Int)) (λ(j:Nat)=>T.int (j:Int)) (λj=>left.getD j 0 != 0) (by simp[hrm,CA]) (by simp;omega) (λj hj=>⟨_,rfl,eT (dU (dU rfl rfl (gY left j (by have:=aR.mp hj;omega))) rfl (jL _ _)),λ_=>rfl⟩) rfl
   have hlays:lN (pl.map λ(j:Nat)=>T.int (j:Int))=true:=lQ _ _ λ_ _=>rfl;have hdeps:nV (pl.map λ(j:Nat)=>T.int (j:Int))<=90:=aM (mh _ 0 _ λ_ _=>aJ _) (by decide);have hcond:fz (ed (eG false) (dJ 6) (fK (lstM dQ))) (vw R)=.ok pl.isEmpty:=by refine eT (dU (x:=.lst (pl.map λ(j:Nat)=>T.int (j:Int))) (y:=.lst []) rfl (by simp) ?_);rw[sY false _ hlays hdeps];simp
   have pre:∀r,(jF (fz (ed (eG false) (dJ 6) (fK (lstM dQ)))) (mz 3 (gN (dJ 5))) (setO 2 (gN (fK (ip (dI (dJ 2) (dI (dJ 5) (dI (ed fF (dJ 6) (cM (.int 0))) dQ))) (iw c)))))) R=r->
     iF c [some (.p (.lst ((zs.map (wr us)).map tI))),some (.p (.int (d:Int))),some (.p (.lst (pv.map jA))),some (.o (rs.map tI)),some (.p (tI (wr us z))),x5,x6]=r:=λr hr=>
    dS (ek (t:=tI left) (fU rfl rfl el) rfl) (dS (ek (t:=.lst (pl.map λ(j:Nat)=>T.int (j:Int))) (fI e4) rfl) hr)
   have mono:B+pv.length*(Pq B pv.length+1)<=B+d*(Pq B d+1):=Nat.add_le_add_left (dk hpl (Nat.add_le_add_right (uY hpl) 1)) _;have tk:zs.take (k+1)=zs.take k++[z]:=iZ zs k z hi;cases hle:pl with
   | nil=>refine⟨_,_,rfl,.inl (pre _ (gC (by rw[hcond,hle];rfl) (xG (t:=tI left) rfl rfl (by simp;omega) rfl))),pv,rs++[left],ix,_,_,_,by rw[aY];rfl,?_,by simp;omega⟩;rw[tk];refine DI hI hlin hww hg hs hy ey hll (λi him=>?_) (λx hx=>(hlb x hx).mono mono);refine aN λhc=>?_;have:i∈pl:=aT.mpr ⟨aR.mpr him,by simpa[vc] using hc⟩;rw[hle] at this;exact nomatch this
   | cons j0 js=>
    have hj0:j0∈pl:=by rw[hle];exact bh ..
    have hj0m:j0<d:=aR.mp (aT.mp hj0).1;have hj0n:vc left j0≠0:=by have:=(aT.mp hj0).2;simpa[vc] using this
    have hroom:pv.length+1<=d:=by
     have nd:(j0::pv.map Prod.fst).Nodup:=bI.mpr ⟨λhm=>by obtain⟨p,hp,ep⟩:=aC.mp hm;exact hj0n (ep▸h0 p hp),df.mpr (hI.pw.imp λq=>q.1)⟩
     have:=q9 d _ nd λx hx=>by
      rcases aE.mp hx with rfl | hx
      ·exact hj0m
      ·obtain⟨p,hp,rfl⟩:=aC.mp hx;exact (hI.pl p hp).1
     simpa using this
    have hP:Pq B (pv.length+1)<=8000:=aM (uY hroom) hB.pq;obtain⟨f,hf⟩:=om (P:=λ(p:Nat×LI) (r:LI)=>iB c [tI p.2,tI left,.int (j0:Int)]=.ok (tI r)/\r.length=p.2.length/\(∀x∈r,Bn (Pq B (pv.length+1)) x)/\vc r j0=0/\∃g s b:Int,0<g/\0<s/\∀i,g*vc r i=s*vc p.2 i+b*vc left i) pv λp hp=>by obtain⟨q1,q2,q3,q4,_⟩:=hI.pl p hp;obtain⟨r,a1,a2,a3,a4,g,s,b,a5,a6,a7,_⟩:=vP (c:=c) (Pq B pv.length) (B+pv.length*(Pq B pv.length+1)) p.2 left j0 (by omega) (by omega) (by omega) hP q4 hlb hj0n;exact⟨r,a1,a2,a3,a4,g,s,b,a5,a6,a7⟩
    have i0:ed fF (dJ 6) (cM (.int 0)) (lK R)=.ok (.int (j0:Int)):=dU (x:=.lst (pl.map λ(j:Nat)=>T.int (j:Int))) rfl rfl (by rw[hle];exact ES _ _);have e5:=rJ (c:=c) pv left j0 f (by omega) λp hp=>(hf p hp).1;refine⟨_,_,rfl,.inl (pre _ (fg (by rw[hcond,hle];rfl) (ek (fI (FF rfl rfl i0 e5)) rfl))),_,rs,ix++[z],_,_,_,rfl,?_,by omega⟩;rw[tk];exact Be hI hlin hww hg hs hy ey hll h0 hlb hj0m hj0n f λp hp=>(hf p hp).2)
 rw[aF,cS] at hI;rw[aF] at hrs;refine⟨pv,rs,ix,eV rfl (dS (ek (t:=.lst []) (by simp) rfl) (dS (kb (ts:=[]) (by simp) rfl) (dS (iI (by rw[aH];rfl) e) (eK (t8 rfl rfl))))),hI,by omega⟩
def gy(pv:List (Nat×LI))(d:Nat):List Nat:=(List.range d).filter λk=>!(pv.map Prod.fst).contains k
theorem Az(neg:Bool)(k:Nat)(l:List Nat):BO neg (.int (k:Int)) (.lst (l.map λ(j:Nat)=>T.int (j:Int)))=.ok (.bl (if neg then !l.contains k else l.contains k)):=by
 have h1:(l.map λ(j:Nat)=>T.int (j:Int)).all hW=true:=ck.mpr λx hx=>by obtain⟨y,-,rfl⟩:=aC.mp hx;rfl
 have h2:pF (.int (k:Int)) (l.map λ(j:Nat)=>T.int (j:Int))=l.contains k:=by
  unfold pF;rw[cg,List.contains_eq_any_beq];congr 1;funext a;show mC (T.int (a:Int)) (T.int (k:Int))=(k == a);rw[mC];by_cases h:k=a
  ·subst h;simp
  ·have h':¬((a:Int)=(k:Int)):=by omega
   rw[beq_eq_false_iff_ne.mpr h',beq_eq_false_iff_ne.mpr h]
 show (if hW (T.int (k:Int))&&(l.map λ(j:Nat)=>T.int (j:Int)).all hW then _ else _)=_;rw[h1,h2];rfl
theorem qB(pv:List (Nat×LI))(d:Nat)(hd:d<=10)(hp:pv.length<=100):iN c [.lst (pv.map jA),.int (d:Int)]=.ok ((gy pv d).map λ(j:Nat)=>T.int (j:Int)):=by
 have sz:1000<sizeLine:=by decide
 have hrm:zM (d:Int)=true:=jZ (by omega);refine mR rfl (dS (ek (t:=.lst ((pv.map Prod.fst).map λ(j:Nat)=>T.int (j:Int))) (fI (fX pv jA (λp=>T.int (p.1:Int)) rfl (by omega) (λp hp=>⟨_,rfl,rfl,rfl⟩) (by rw[aH];rfl))) rfl) (pN ?_));exact mV (List.range d) (λ(j:Nat)=>T.int (j:Int)) (λ(j:Nat)=>T.int (j:Int)) (λk=>!(pv.map Prod.fst).contains k) (by simp[hrm,CA]) (by simp;omega) (λj hj=>⟨_,rfl,eT (dU rfl rfl (Az true j _)),λ_=>rfl⟩) rfl
theorem xg(r:LI)(d:Nat){f:Pe->M T}{ρ:Pe}(h:f ρ=.ok (tI r)){fd:Pe->M T}(hd:fd ρ=.ok (.int (d:Int))):lj f (jd (ed gR fd (cM (.int 1)))) (λ_=>.ok none) ρ=.ok (tI (r.drop (d+1))):=by
 have e1:jd (ed gR fd (cM (.int 1))) ρ=.ok (some ((d+1:Nat):Int)):=by simp_all
 simp only[lj,h,e1,M.bind_ok,tI];rw[zA,List.map_drop]
end CL
namespace CL
def Lt(m:Nat)(g:Nat->Vc)(t:Vc):Vc:=λq=>sm m λj=>t j*g j q
theorem xK{α:Type}[DecidableEq α]:∀{l m:List α},l.Nodup->(∀x∈l,x∈m)->l.length<=m.length
 | [],_,_,_=>bF _
 | a::l,m,nd,h=>by
  obtain⟨n1,n2⟩:=bI.mp nd;have hm:a∈m:=h a (by simp);have:=xK (m:=m.erase a) n2 λx hx=>by have ne:x≠a:=λz=>n1 (z▸hx);exact (List.mem_erase_of_ne ne).mpr (h x (by simp[hx]))
  rw[cX hm] at this;have:0<m.length:=List.length_pos_of_mem hm;simp only[ay];omega
end CL
namespace CL
open PySem L2 L3
variable {c:Cs}
def n9:Nat->(Nat->Rat)->Rat
 | 0,_=>0
 | n+1,f=>f 0+n9 n λi=>f (i+1)
theorem jY:∀(n:Nat) (f g:Nat->Rat),(∀i,i<n->f i=g i)->n9 n f=n9 n g
 | 0,_,_,_=>rfl
 | n+1,f,g,h=>by unfold n9;rw[h 0 (by omega),jY n _ _ λi hi=>h (i+1) (by omega)]
theorem tV(a b:Rat):∀(n:Nat) (f g:Nat->Rat),n9 n (λi=>a*f i+b*g i)=a*n9 n f+b*n9 n g
 | 0,_,_=>by unfold n9;grind
 | n+1,f,g=>by unfold n9;rw[tV a b n (λi=>f (i+1)) λi=>g (i+1)];grind
theorem vn:∀n:Nat,n9 n (λ_=>0)=0
 | 0=>rfl
 | n+1=>by unfold n9;rw[vn n];grind
theorem Eb(x X:Nat->Rat)(v:Rat):∀(n a:Nat),a<n->n9 n (λi=>x i*(if i=a then v else X i))=n9 n (λi=>x i*X i)+x a*(v - X a):=by
 intro n;induction n generalizing x X with
 | zero=>intro a h;cases h
 | succ n ih=>
  intro a ha;unfold n9;cases a with
  | zero=>
   have:n9 n (λi=>x (i+1)*(if i+1=0 then v else X (i+1)))=n9 n (λi=>x (i+1)*X (i+1)):=jY n _ _ λi _=>by simp
   rw[this];simp;grind
  | succ a=>
   have:=ih (λi=>x (i+1)) (λi=>X (i+1)) a (by omega);have e:n9 n (λi=>x (i+1)*(if i+1=a+1 then v else X (i+1)))=n9 n (λi=>x (i+1)*(if i=a then v else X (i+1))):=jY n _ _ λi _=>by simp
   rw[e,this];simp;grind
def ni(d:Nat)(X:Nat->Rat)(x:Vc):Rat:=n9 d (λp=>(x p:Rat)*X p) - (x d:Rat)
theorem Cn{d:Nat}{X:Nat->Rat}(x y z:Vc)(s a b:Int)(h:∀i,s*z i=a*x i+b*y i):(s:Rat)*ni d X z=(a:Rat)*ni d X x+(b:Rat)*ni d X y:=by
 have hq:∀i,(s:Rat)*(z i:Rat)=(a:Rat)*(x i:Rat)+(b:Rat)*(y i:Rat):=λi=>by
  have:=h i;have e:((s*z i:Int):Rat)=((a*x i+b*y i:Int):Rat):=by rw[this]
  simpa using e
 unfold ni;have e1:(s:Rat)*n9 d (λp=>(z p:Rat)*X p)=(a:Rat)*n9 d (λp=>(x p:Rat)*X p)+(b:Rat)*n9 d (λp=>(y p:Rat)*X p):=by
  have:=tV (s:Rat) 0 d (λp=>(z p:Rat)*X p) (λ_=>0);have t2:=tV (a:Rat) (b:Rat) d (λp=>(x p:Rat)*X p) (λp=>(y p:Rat)*X p);have t3:n9 d (λi=>(s:Rat)*((z i:Rat)*X i)+0*0)=n9 d (λi=>(a:Rat)*((x i:Rat)*X i)+(b:Rat)*((y i:Rat)*X i)):=jY d _ _ λi _=>by have:=hq i;grind
  rw[t3,t2] at this;grind
 have:=hq d;grind
theorem DJ{d a:Nat}(ha:a<d)(X:Nat->Rat)(v:Rat)(x:Vc):ni d (λq=>if q=a then v else X q) x=ni d X x+(x a:Rat)*(v - X a):=by unfold ni;have:=Eb (λi=>(x i:Rat)) X v d a ha;rw[this];grind
theorem vy{d:Nat}{X:Nat->Rat}{x:Vc}(h:∀p,p<d->x p=0):ni d X x = -(x d:Rat):=by
 unfold ni;have e:n9 d (λp=>(x p:Rat)*X p)=0:=by rw[jY d _ (λ_=>0) λp hp=>by rw[h p hp];simp];exact vn d
 rw[e];grind
def Xs(s:List (Int×Int)):Nat->Rat:=λq=>qv (s.getD q (0,1))
theorem Fm(s:List (Int×Int))(a:Nat)(f:Int×Int)(ha:a<s.length):Xs (s.set a f)=λq=>if q=a then qv f else Xs s q:=by
 funext q;unfold Xs;rw[af,List.getElem?_set];by_cases h:q=a
 ·subst h;simp[ha]
 ·rw[aQ (λz=>h z.symm),aQ h,af]
theorem JH:qv (0,1)=0:=by unfold qv;simp;grind
theorem vq(d:Nat):∀(s:List (Int×Int)) (row:LI),s.length=d->d<=row.length->zD row s=n9 d (λp=>(vc row p:Rat)*Xs s p):=by
 induction d with
 | zero=>intro s row h1 _;have:s=[]:=dm.mp h1;subst this;simp[zD,n9]
 | succ d ih=>
  intro s row h1 h2;cases s with
  | nil=>cases h1
  | cons p s=>
   cases row with
   | nil=>simp at h2
   | cons x row=>have:=ih s row (by simpa using h1) (by simpa using h2);unfold zD at this ⊢;rw[List.zip_cons_cons,bD,c8,this];rfl
theorem Ba{ρ:Pe}{fc fd:Pe->M Bool}{b:Bool}(h:fc ρ=.ok false)(h2:fd ρ=.ok b):L3.nj fc fd ρ=.ok b:=by simp only[L3.nj,h,h2,M.bind_ok];rfl
theorem Da(s:List (Int×Int))(a:Nat)(f:Int×Int):wts (s.set a f)<=wts s+wt f:=by
 induction s generalizing a with
 | nil=>simp[wts]
 | cons p s ih=>
  cases a with
  | zero=>simp[wts];omega
  | succ a=>
   have:=ih a;have e1:wts ((p::s).set (a+1) f)=wt p+wts (s.set a f):=by rw[List.set_cons_succ];simp[wts]
   have e2:wts (p::s)=wt p+wts s:=by simp[wts]
   omega
theorem qV(n k:Nat)(h:k<n):rm n (k:Int)=some k:=by unfold rm;rw[aP (by omega),aP (by omega)];simp
theorem zx(d M L:Nat)(hdL:d<L)(hd:d<=10)(hM:1<=M)(pv:List (Nat×LI))(s:List (Int×Int))(hs:s.length=d)(V:Nat)(hq:∀p∈s,Fq p/\Bn V p.2)(hp:∀p∈pv,p.1<d/\p.2.length=L/\vc p.2 p.1≠0/\∀x∈p.2,Bn M x)(hw:pv.Pairwise λp q=>p.1≠q.1/\vc q.2 p.1=0/\vc p.2 q.1=0)(h0:∀p∈pv,s.getD p.1 (0,1)=(0,1))(hE:pv≠[]->M+wts s+20<=8000)(hV:pv≠[]->M+wts s+1<=V) :
  ∃s',kY c [.lst (pv.map jA),.lst (s.map fr)]=.ok (tS s')/\s'.length=d/\(∀p∈s',Fq p/\Bn V p.2)/\wts s'<=wts s+pv.length*(M+wts s+20)/\(∀p∈pv,ni d (Xs s') (vc p.2)=0)/\∀r:Vc,(∀p∈pv,r p.1=0)->ni d (Xs s') r=ni d (Xs s) r:=by
 have sz:1000<sizeLine:=by decide
 let R (s':List (Int×Int)) (x3 x4:Option W):En:=[some (.p (.lst (pv.map jA))),some (.p (.lst (s.map fr))),some (.o (s'.map fr)),x3,x4];obtain⟨ρ,e,s',x3,x4,rfl,k1,k2,k3,k4,k5,k6⟩:=gG (m:=jr 2 (fj (iV 3) (fj (iV 4) jt))) (g:=ot c) jA
  (λi ρ=>∃(s':List (Int×Int)) (x3 x4:Option W),ρ=R s' x3 x4/\s'.length=d/\(∀p∈s',Fq p/\Bn V p.2)/\wts s'<=wts s+i*(M+wts s+20)/\(∀p∈pv.take i,ni d (Xs s') (vc p.2)=0)/\(∀r:Vc,(∀p∈pv.take i,r p.1=0)->ni d (Xs s') r=ni d (Xs s) r)/\∀q,(∀p∈pv.take i,p.1≠q)->s'.getD q (0,1)=s.getD q (0,1))
  pv 0 (R s none none) ⟨s,none,none,rfl,hs,hq,by omega,λp hp=>by simp at hp,λr _=>rfl,λq _=>rfl⟩ (by
   rintro i ⟨a,pr⟩ ρ hi ⟨s',x3,x4,rfl,k1,k2,k3,k4,k5,k6⟩;rw[aF] at k3 k4 k5 k6 ⊢;have hm:=au hi;have hV:=hV (λz=>by rw[z] at hm;cases hm);have hE:=hE (λz=>by rw[z] at hm;cases hm);obtain⟨ha,hl,hne,hb⟩:=hp _ hm;simp only at ha hl hne hb;have il:=(aa.mp hi).1;have hpre:∀p∈pv.take i,p.1≠a/\vc pr p.1=0/\vc p.2 a=0:=λp hp'=>by
    obtain⟨j,hj⟩:=dt.mp hp';rw[List.getElem?_take] at hj;split at hj
    ·rename_i jl;have h1:=aa.mp hj;have h2:=aa.mp hi;have:=du.mp hw j i h1.1 h2.1 jl;rw[h1.2,h2.2] at this;exact this
    ·cases hj
   obtain⟨r,e1,g1,v1⟩:=uV (c:=c) M (by omega) hM pr s (by omega) (by omega) hb (λp hp=>(hq p hp).1) (by omega);obtain⟨o,e2,g2,v2⟩:=zC (c:=c) (k:=vc pr a) hne (hb _ (by unfold vc;rw[af,ag (show a<pr.length by omega)];exact aU _)) g1 (by omega) (by omega)
   have st:ot c (R s' (some (.p (.int (a:Int)))) (some (.p (tI pr))))=.nx (R (s'.set a o) (some (.p (.int (a:Int)))) (some (.p (tI pr)))):=by
    refine p7 (us:=s'.map fr) rfl (fU (x:=fr r) (y:=fr (vc pr a,1)) (fU rfl rfl e1) (t8 (dU rfl rfl (gY pr a (by omega))) rfl) e2) rfl (j:=(a:Int)) (m:=a) rfl ?_ ?_
    ·rw[aw];exact qV _ _ (by omega)
    ·simp[R,cZ]
   have Xa:Xs s' a=0:=by have h1:=k6 a λp hp'=>(hpre p hp').1;have h2:=h0 _ hm;simp only at h2;unfold Xs;rw[h1,h2,JH]
   have ev:∀r:Vc,ni d (Xs (s'.set a o)) r=ni d (Xs s') r+(r a:Rat)*qv o:=λr=>by rw[Fm s' a o (by omega),DJ ha,Xa];grind
   have tk:=iZ _ i (a,pr) hi;refine⟨_,_,rfl,.inl st,s'.set a o,_,_,rfl,by rw[bP,k1],λp hp'=>?_,?_,?_,?_,?_⟩
   ·rcases de hp' with q | q
    ·exact k2 p q
    ·rw[q];exact⟨g2.fq,g2.b2.mono (by omega)⟩
   ·have w1:=Da s' a o;have w2:wt o<=M+wts s+20:=g2.wt (by omega) (by omega) (by omega);rw[Nat.add_mul];omega
   ·intro p hp';rw[tk] at hp';rw[ev];rcases ai.mp hp' with q | q
    ·rw[k4 p q,(hpre p q).2.2];simp;grind
    ·have:p=(a,pr):=by simpa using q
     subst this;simp only;rw[k5 (vc pr) λp hp'=>(hpre p hp').2.1,v2,v1];have dq:=vq d s pr hs (by omega);rw[dq,hs];unfold ni;have ne:(vc pr a:Rat)≠0:=by intro z;exact hne (by exact_mod_cast z)
     generalize n9 d (λp=>(vc pr p:Rat)*Xs s p)=A;generalize (vc pr a:Rat)=v at *;grind
   ·intro r hr;rw[ev,hr (a,pr) (by rw[tk];simp),k5 r λp hp'=>hr p (by rw[tk];simp[hp'])];simp;grind
   ·intro q hq';have qa:a≠q:=hq' (a,pr) (by rw[tk];simp);rw[af,aq qa,<-af];exact k6 q λp hp'=>hq' p (by rw[tk];simp[hp']))
 rw[aF,cS] at k4 k5;rw[aF] at k3;exact⟨s',eV rfl (dS (kb (ts:=s.map fr) rfl rfl) (dS (iI rfl e) (eK rfl))),k1,k2,k3,k4,k5⟩
theorem sZ{f:Pe->M T}{ρ:Pe}{ys:LI}(h:f ρ=.ok (tI ys)):fK (vS jh (dI f dQ)) ρ=.ok (tL ys):=by simp only[fK,vS,dI,dQ,h,M.bind_ok];rfl
theorem DQ(us:LL):(us.zipIdx.map λp=>p.1++(List.replicate us.length (0:Int)).set p.2 1)=(List.range us.length).map (wr us):=by
 apply List.ext_getElem
 ·simp
 ·intro i h1 h2;simp only[aw,List.length_zipIdx] at h1;simp[wr,List.getElem_zipIdx,h1]
theorem yW{d:Nat}{X:Nat->Rat}{x y:Vc}(h:∀i,i<=d->x i=y i):ni d X x=ni d X y:=by unfold ni;rw[jY d _ (λp=>(y p:Rat)*X p) λp hp=>by rw[h p (by omega)],h d (aJ _)]
theorem Qs.evl0{d:Nat}{X:Nat->Rat}{P:Vc->Prop}(h:∀x,P x->ni d X x=0){z:Vc}(q:Qs P z):ni d X z=0:=by
 induction q with
 | of p=>exact h _ p
 | zero=>rw[vy λ_ _=>rfl];simp
 | lin hx hy hs e i1 i2=>
  rename_i x y z s a b;have:=Cn (d:=d) (X:=X) x y z s a b e;rw[i1,i2] at this;have s0:(s:Rat)≠0:=by intro z;exact hs (by exact_mod_cast z)
  grind
theorem Dj(r:LI)(k i:Nat):vc (r.drop k) i=vc r (k+i):=by unfold vc;rw[af,af,List.getElem?_drop]
theorem iy{pv:List (Nat×LI)}{d k:Nat}:k∈gy pv d↔k<d/\∀p∈pv,p.1≠k:=by
 unfold gy;rw[aT,aR];simp;intro _;constructor
 ·intro h a b hm z;subst z;exact h b hm
 ·intro h x hm;exact h k x hm rfl
theorem uN(pv:List (Nat×LI))(d:Nat):(gy pv d).Nodup:=(dw).sublist List.filter_sublist
theorem zf{us:LL}{d B:Nat}{dn:List Nat}{pv:List (Nat×LI)}{rs:LL}{ix:List Nat}(h:PV us d B dn pv rs ix):pv.length+(gy pv d).length<=d:=by
 have nd:(pv.map Prod.fst++gy pv d).Nodup:=by rw[dy];refine⟨df.mpr (h.pw.imp λq=>q.1),uN pv d,λa ha b hb z=>?_⟩;obtain⟨p,hp,rfl⟩:=aC.mp ha;exact (iy.mp hb).2 p hp z
 have:=xK (m:=List.range d) nd λx hx=>by
  rcases ai.mp hx with q | q
  ·obtain⟨p,hp,rfl⟩:=aC.mp q;exact aR.mpr (h.pl p hp).1
  ·exact aR.mpr (iy.mp q).1
 simpa using this
theorem EJ(n:Nat)(hn:n<=1000){f:Pe->M T}{ρ:Pe}(h:f ρ=.ok (.int (n:Int))):fK (pJ (fK (lstM (dI (mB (dI (cM (.int 0)) (dI (cM (.int 1)) dQ))) dQ))) f) ρ=.ok (.lst ((List.replicate n ((0,1):Int×Int)).map fr)):=by
 have sz:1000<sizeLine:=by decide
 have hr:zM (n:Int)=true:=jZ (by omega);have h1:1<=sizeLine:=by decide
 have h3:2<=sizeLine:=by decide
 have h2:n<=sizeLine:=by omega
 have e:(List.replicate n [T.tup [T.int 0,T.int 1]]).flatten=(List.replicate n ((0,1):Int×Int)).map fr:=by
  clear h hr h2 hn;induction n with
  | zero=>rfl
  | succ n ih=>rw[bS,bT,ih,bS];rfl
 have e0:fK (lstM (dI (mB (dI (cM (.int 0)) (dI (cM (.int 1)) dQ))) dQ)) ρ=.ok (.lst [T.tup [T.int 0,T.int 1]]):=FK (t8 rfl rfl);refine fI ?_;unfold pJ;rw[e0,h];simp[hr,h2];exact .inr rfl
theorem zS{S b:Int}(h:b ∣ S)(h0:b≠0):S.fdiv b*b=S:=by obtain⟨k,rfl⟩:=h;rw[cB k h0,cA]
theorem FQ{α:Type}(l:List α)(f:α->Int)(k:Nat)(a:α)(h:l[k]? = some a):vc (l.map f) k=f a:=by unfold vc;rw[af,av,h];rfl
def GL(d B:Nat)(ns:LI):Prop:=ns.length=d+1/\∀x∈ns,Bn B x
structure GC(d B:Nat)(ns:LI):Prop where
 gl:GL d B ns
 re:∃p,p<d/\vc ns p≠0
theorem GL.mono{d B B':Nat}{ns:LI}(h:GL d B ns)(hB:B<=B'):GL d B' ns:=⟨h.1,λx hx=>(h.2 x hx).mono hB⟩
theorem Fp(ns:LI)(k:Nat)(v:Int)(i:Nat)(hk:k<ns.length):vc (ns.set k v) i=if k=i then v else vc ns i:=by
 unfold vc;rw[af,List.getElem?_set];by_cases h:k=i
 ·subst h;rw[aP rfl,aP rfl,aP hk];rfl
 ·rw[aQ h,aQ h,<-af]
theorem CQ(n k:Nat)(h:k<n):rm n (k:Int)=some k:=by unfold rm;rw[aP (by omega),aP (by omega)];simp
theorem lr(n:Nat)(h:n<=1000){f:Pe->M T}{ρ:Pe}(hf:f ρ=.ok (.int (n:Int))):iM (dI f dQ) ρ=.ok ((List.range n).map λ(i:Nat)=>T.int (i:Int)):=by have hr:zM (n:Int)=true:=jZ (by omega);rw[<-CA];simp[hf,hr]
def iL(a b:LI):Bool:=(List.range a.length).all λk=>(List.range k).all λj=>vc a k*vc b j == vc a j*vc b k
theorem uR(n B:Nat)(a b:LI)(ha:a.length=n)(hb:b.length=n)(hn:n<=10)(hB:B<=1000)(ba:∀x∈a,Bn B x)(bb:∀x∈b,Bn B x):iq c [tI a,tI b]=.ok (.bl (iL a b)):=by
 have sz:1000<sizeLine:=by decide
 have hout:=nc (m:=iV 2) (g:=oX c) (λ(k:Nat)=>T.int (k:Int)) (λρ=>∃x2 x3,ρ=[some (.p (tI a)),some (.p (tI b)),x2,x3]) (λk=>(List.range k).all λj=>vc a k*vc b j == vc a j*vc b k) (.bl false) (List.range n) [some (.p (tI a)),some (.p (tI b)),none,none] ⟨none,none,rfl⟩ (by
  rintro k hk ρ ⟨x2,x3,rfl⟩;have hkn:=aR.mp hk;refine⟨_,rfl,?_⟩;have hin:=nc (m:=iV 3) (g:=pC c) (λ(j:Nat)=>T.int (j:Int)) (λρ=>∃x3,ρ=[some (.p (tI a)),some (.p (tI b)),some (.p (.int (k:Int))),x3]) (λj=>vc a k*vc b j == vc a j*vc b k) (.bl false) (List.range k) [some (.p (tI a)),some (.p (tI b)),some (.p (.int (k:Int))),x3] ⟨x3,rfl⟩ (by
   rintro j hj ρ ⟨x3,rfl⟩;have hjk:=aR.mp hj;have i1:fF (tI a) (.int (k:Int))=.ok (.int (vc a k)):=gY a k (by omega);have i2:fF (tI b) (.int (j:Int))=.ok (.int (vc b j)):=gY b j (by omega);have i3:fF (tI a) (.int (j:Int))=.ok (.int (vc a j)):=gY a j (by omega);have i4:fF (tI b) (.int (k:Int))=.ok (.int (vc b k)):=gY b k (by omega);have m1:fT (.int (vc a k)) (.int (vc b j))=.ok (.int (vc a k*vc b j)):=fE ((ba _ (getD_mem a k (by omega))).ok (bb _ (getD_mem b j (by omega))) (by omega) (by omega));have m2:fT (.int (vc a j)) (.int (vc b k))=.ok (.int (vc a j*vc b k)):=fE ((ba _ (getD_mem a j (by omega))).ok (bb _ (getD_mem b k (by omega))) (by omega) (by omega));have hc:fz (ed (eG true) (ed fT (ed fF (dJ 0) (dJ 2)) (ed fF (dJ 1) (dJ 3))) (ed fT (ed fF (dJ 0) (dJ 3)) (ed fF (dJ 1) (dJ 2)))) (vw [some (.p (tI a)),some (.p (tI b)),some (.p (.int (k:Int))),some (.p (.int (j:Int)))])=.ok (!(vc a k*vc b j == vc a j*vc b k)):=eT (dU (dU (dU rfl rfl i1) (dU rfl rfl i2) m1) (dU (dU rfl rfl i3) (dU rfl rfl i4) m2) (jL _ _))
   refine⟨_,rfl,λh=>⟨_,fg (hc.trans (by rw[h];rfl)) rfl,_,rfl⟩,λh=>gC (hc.trans (by rw[h];rfl)) (eK rfl)⟩)
  have hr:=lr (f:=dJ 2) (ρ:=vw [some (.p (tI a)),some (.p (tI b)),some (.p (.int (k:Int))),x3]) k (by omega) rfl;refine⟨λh=>?_,λh=>kj hr (hin.2 h)⟩;obtain⟨ρ',e,x3',rfl⟩:=hin.1 h;exact⟨_,kj hr e,_,_,rfl⟩)
 have hr:=lr (f:=h8 gP (dI (dJ 0) dQ)) (ρ:=vw (eN 4 [tI a,tI b])) n (by omega) (ki (t:=tI a) rfl (by simp[tI,ha]));have hs:iL a b=((List.range n).all λk=>(List.range k).all λj=>vc a k*vc b j == vc a j*vc b k):=by unfold iL;rw[ha]
 cases h:iL a b with
 | true=>obtain⟨ρ',e,x2,x3,rfl⟩:=hout.1 (by rw[<-hs];exact h);exact eV rfl (dS (kj hr e) (eK rfl))
 | false=>exact eV rfl (j3 (kj hr (hout.2 (by rw[<-hs];exact h))) rfl)
theorem GC.mono{d B B':Nat}{ns:LI}(h:GC d B ns)(hB:B<=B'):GC d B' ns:=⟨h.gl.mono hB,h.re⟩
theorem qN(a:LI)(hl:a.length<=100)(h:∃p,p<a.length/\vc a p≠0):∃p:Nat,iP c [tI a]=.ok (.int (p:Int))/\p<a.length/\vc a p≠0:=by
 obtain⟨q,hq,hq0⟩:=h;obtain⟨ρ,e,p,rfl,hp1,hp2⟩:=lp (c:=fz (ed (eG false) (ed fF (dJ 0) (dJ 1)) (cM (.int 0)))) (g:=mq c)
  (λρ=>∃k:Nat,ρ=[some (.p (tI a)),some (.p (.int (k:Int)))]/\k<=q) (λρ=>match ρ with | _::some (.p (.int j))::_=>q - j.toNat | _=>0)
  (λρ=>∃k:Nat,ρ=[some (.p (tI a)),some (.p (.int (k:Int)))]/\k<a.length/\vc a k≠0) (by
   rintro ρ ⟨k,rfl,hk⟩;have i1:fF (tI a) (.int (k:Int))=.ok (.int (vc a k)):=gY a k (by omega);by_cases h0:vc a k=0
   ·have hne:k≠q:=λz=>hq0 (by rw[<-z];exact h0);refine .inr ⟨eT (dU (dU rfl rfl i1) rfl (by rw[fH,h0];rfl)),_,.inl (ek (t:=.int ((k+1:Nat):Int)) (dU rfl rfl (by rw[gH];simp)) rfl),⟨k+1,rfl,by omega⟩,?_⟩;show q - (((k+1:Nat):Int)).toNat<q - ((k:Int)).toNat;omega
   ·exact .inl ⟨eT (dU (dU rfl rfl i1) rfl (by rw[fH];simp[h0])),k,rfl,by omega,h0⟩)
  ((a.map T.int).length+1) [some (.p (tI a)),some (.p (.int ((0:Nat):Int)))] ⟨0,rfl,by omega⟩ (by show q - _<_;rw[aw];omega)
 exact⟨p,eV rfl (dS (ek (t:=.int 0) rfl rfl) (dS e (eK rfl))),hp1,hp2⟩
theorem rL(d B:Nat)(a b:LI)(hd:d<=3)(hB:B<=1000)(ga:GC d B a)(gb:GL d B b)(h:iL a b=false):jk c [tI a,tI b]=.ok (.bl false):=by
 have sz:1000<sizeLine:=by decide
 have hal:=ga.gl.1;have hbl:=gb.1;obtain⟨q,hq,hq0⟩:=ga.re;obtain⟨p,ep,hp,hp0⟩:=qN (c:=c) a (by omega) ⟨q,by omega,hq0⟩;have i1:fF (tI b) (.int (p:Int))=.ok (.int (vc b p)):=gY b p (by omega);have i2:fF (tI a) (.int (p:Int))=.ok (.int (vc a p)):=gY a p hp;have e1:gS [none,none,some 1,some 2,some 0] (mn (dI (dJ 0) (dI (dJ 1) dQ))) (nh 2 (gz (gM 0) (gz (gM 1) mZ))) (λ_=>.ok true) (mG c) (vw [some (.p (tI a)),some (.p (tI b)),some (.p (.int (p:Int)))])=.ok (((a.zip b).map λx=>x.1*vc b p == x.2*vc a p).map T.bl):=fX (a.zip b) (λx=>T.tup [.int x.1,.int x.2]) (λx=>T.bl (x.1*vc b p == x.2*vc a p)) (m6 rfl rfl rfl rfl) (by rw[dz];omega) (λx hx=>⟨_,rfl,rfl,by have h1:=ga.gl.2 _ (aV hx).1;have h2:=gb.2 _ (aV hx).2;have h3:=gb.2 _ (getD_mem b p (by omega));have h4:=ga.gl.2 _ (getD_mem a p hp);exact dU (dU rfl (dU rfl rfl i1) (fE (h1.ok h3 (by omega) (by omega)))) (dU rfl (dU rfl rfl i2) (fE (h2.ok h4 (by omega) (by omega)))) (fH _ _)⟩) (by rw[aH];rfl)
 refine eV rfl (dS (ek (t:=.int (p:Int)) (pD rfl ep) rfl) (eK (l5 e1 ?_)));rw[my];congr 2;cases Ep:((a.zip b).map λx=>x.1*vc b p == x.2*vc a p).all id with
 | false=>rfl
 | true=>
  exfalso;rw[ck] at Ep;have hpar:C4.Par a b:=C4.par_of_place hp0 λi hi=>by
   have hz:(a.zip b)[i]? = some (a[i],b[i]'(by omega)):=by rw[List.getElem?_zip_eq_some];exact⟨ag hi,ag (by omega)⟩
   have:=Ep _ (aC.mpr ⟨_,au hz,rfl⟩);have h':a[i]*vc b p=(b[i]'(by omega))*vc a p:=by simpa using this
   show vc a i*vc b p=vc b i*vc a p;rw[nT a i hi,nT b i (by omega)];exact h'
  have:iL a b=true:=by unfold iL;refine ck.mpr λk hk=>ck.mpr λj hj=>?_;have hk':=aR.mp hk;have hj':=aR.mp hj;have:=hpar k j hk' (by omega);simpa[vc] using this
  rw[h] at this;cases this
structure DE(d B:Nat)(cs:LL):Prop where
 gc:∀f∈cs,GC d B f
 few:cs.length<=7
 pw:cs.Pairwise λa b=>iL a b=false
theorem Aa{d B:Nat}{ns:LI}(h:GC d B ns):mF d (tI ns)=true:=by
 obtain⟨p,hp,hp0⟩:=h.re;have hl:=h.gl.1;unfold tI mF;have h1:(ns.map T.int).length=d+1:=by simp[hl]
 have h2:(ns.map T.int).all isInt=true:=ck.mpr λx hx=>by obtain⟨y,-,rfl⟩:=aC.mp hx;rfl
 show (decide ((ns.map T.int).length=d+1)&&(ns.map T.int).all isInt&&(match iK (ns.map T.int) with | some ns=>(ns.take d).any (· != 0) | none=>false))=true;rw[aB h1,h2,vt];show (ns.take d).any (· != 0)=true;refine List.any_eq_true.mpr ⟨vc ns p,?_,by simpa using hp0⟩;rw[nT ns p (by omega)];refine au (i:=p) ?_;rw[List.getElem?_take,aP hp,ag (by omega)]
theorem uu(d B:Nat)(ah:LL)(ns:LI)(hd:1<=d/\d<=3)(hB:B<=1000)(hl:ah.length<7)(ha:∀f∈ah,GC d B f)(hn:GC d B ns)(hs:∀f∈ah,iL f ns=false):iY c [.int d,.lst (ah.map tI),tI ns]=.ok (.bl true):=by
 have sz:1000<sizeLine:=by decide
 have ic:=zE (c:=c) d (by omega) (tI ns) rfl λts e=>by cases e;refine⟨by rw[aw,hn.gl.1];omega,λt ht=>by obtain⟨y,-,rfl⟩:=aC.mp ht;rfl⟩
 rw[Aa hn] at ic;have e1:gS [none,some 2] (fB (dJ 1)) (gM 0) (λ_=>.ok true) (lD c) (vw (eN 3 [.int d,.lst (ah.map tI),tI ns]))=.ok ((ah.map λ_=>false).map T.bl):=fX ah tI (λ_=>T.bl false) rfl (by omega) (λf hf=>⟨_,rfl,rfl,fU rfl rfl (rL (c:=c) d B f ns hd.2 hB (ha f hf) hn.gl (hs f hf))⟩) (by rw[aH];rfl)
 have q1:fz (ed Hk (h8 gP (dI (dJ 1) dQ)) (cM (.int 7))) (vw (eN 3 [.int d,.lst (ah.map tI),tI ns]))=.ok false:=eT (dU (x:=.int (ah.length:Int)) (ki (t:=.lst (ah.map tI)) rfl (by simp)) rfl (by rw[Cz];congr 2;exact aA (by omega)))
 have q2:fz (dX (dI (dJ 0) (dI (dJ 2) dQ)) (kL c)) (vw (eN 3 [.int d,.lst (ah.map tI),tI ns]))=.ok true:=eT (fU rfl rfl ic);refine eV rfl (dS (fg ?_ rfl) (eK ?_))
 ·simp only[L3.nj,L3.gK,q1,q2,M.bind_ok];rfl
 ·have q3:h8 wC (dI (fK (gS [none,some 2] (fB (dJ 1)) (gM 0) (λ_=>.ok true) (lD c))) dQ) (vw (eN 3 [.int d,.lst (ah.map tI),tI ns]))=.ok (.bl false):=by
   refine l5 e1 ?_;rw[yf];congr 2;induction ah with
   | nil=>rfl
   | cons a l ih=>simp
  have q4:=eT q3;simp only[zj,q4,M.bind_ok];rfl
theorem xk(d B:Nat)(cs:LL)(hd:1<=d/\d<=3)(hB:B<=1000)(h:DE d B cs):gF c [.int d,.lst (cs.map tI)]=.ok (.tup (cs.map tI)):=by
 have sz:1000<sizeLine:=by decide
 have hf:=h.few;obtain⟨ρ,e,x3,rfl⟩:=gG (m:=iV 3) (g:=lH c) tI
  (λk ρ=>∃x3:Option W,ρ=[some (.p (.int d)),some (.p (.lst (cs.map tI))),some (.o ((cs.take k).map tI)),x3])
  cs 0 _ ⟨none,rfl⟩ (by
   rintro k ns ρ hi ⟨x3,rfl⟩;rw[aF];have hkl:k<cs.length:=(aa.mp hi).1;have hst:=uu (c:=c) d B (cs.take k) ns hd hB (by rw[bK];omega) (λf hf=>h.gc f (dA hf)) (h.gc ns (au hi)) λf hf=>by have hp:=h.pw;rw[<-List.take_append_drop k cs,dg] at hp;refine hp.2.2 f hf ns ?_;refine au (i:=0) ?_;rw[List.getElem?_drop,Nat.add_zero];exact hi
   have q:fz (dX (dI (dJ 0) (dI (dJ 2) (dI (dJ 3) dQ))) (iY c)) (vw [some (.p (.int d)),some (.p (.lst (cs.map tI))),some (.o ((cs.take k).map tI)),some (.p (tI ns))])=.ok true:=eT (iU (y:=.lst ((cs.take k).map tI)) (z:=tI ns) rfl rfl rfl hst);refine⟨_,_,rfl,.inl (dS (fg (jB q rfl) rfl) (xG (us:=(cs.take k).map tI) (t:=tI ns) rfl (ki (t:=tI ns) rfl rfl) (by rw[aw,bK];omega) rfl)),some (.p (tI ns)),?_⟩;rw[iZ cs k ns hi,aY];rfl)
 rw[aF,cS] at e;have q1:fz (dX (dI (dJ 0) dQ) (jX c)) (vw (eN 4 [.int d,.lst (cs.map tI)]))=.ok true:=eT (pD rfl (v5 d hd));have q2:fz (j4 "list" (dJ 1)) (vw (eN 4 [.int d,.lst (cs.map tI)]))=.ok true:=rfl;refine eV rfl (dS (fg ?_ rfl) (dS (kb (ts:=[]) (by simp) rfl) (dS (iI rfl e) (eK rfl))));simp only[L3.nj,L3.gK,q1,q2,M.bind_ok];rfl
def jo(c:Cs)(d:Nat)(cs:LL):T:=.obj c.Cutting [("own_cuts",.tup (cs.map tI)),("own_dims",.int d)]
theorem Em(d B:Nat)(cs:LL)(hd:1<=d/\d<=3)(hB:B<=1000)(h:DE d B cs):gE c [.int d,.lst (cs.map tI)]=.ok (jo c d cs):=by have e:=xk (c:=c) d B cs hd hB h;have q:dX (dI (dJ 1) (dI (dJ 2) dQ)) (gF c) (none::[T.int d,.lst (cs.map tI)].map some)=.ok (.tup (cs.map tI)):=fU rfl rfl e;unfold gE r9;rw[aP (show [T.int (d:Int),T.lst (cs.map tI)].length=2 from rfl),q];rfl
theorem wU{C:Addr}{x:Str}{fs:List (Str×T)}{t:T}{f:Pe->M T}{ρ:Pe}(h:f ρ=.ok (.obj C fs))(hl:fs.lookup x=some t):uZ C x f ρ=.ok t:=by unfold uZ;rw[h,M.bind_ok];show (if C=C then (match fs.lookup x with | some t=>M.ok t | none=>.bad) else .bad)=_;rw[aP rfl,hl]
theorem El(d:Nat)(cs:LL){f:Pe->M T}{ρ:Pe}(hf:f ρ=.ok (jo c d cs)):oU c.Cutting "dims" f dQ (f6 c) ρ=.ok (.int d):=by
 have h1:oI c.Cutting "dims" (jo c d cs)=.ok ():=by unfold oI jo;exact aP ⟨rfl,rfl⟩
 have h2:f6 c [jo c d cs]=.ok (.int d):=eV rfl (eK (wU (C:=c.Cutting) (x:= "own_dims") (fs:=[("own_cuts",.tup (cs.map tI)),("own_dims",.int d)]) rfl rfl));simp only[oU,hf,M.bind_ok,h1,dQ,h2,M.noEr_ok]
theorem CC(d:Nat)(cs:LL){f:Pe->M T}{ρ:Pe}(hf:f ρ=.ok (jo c d cs)):qF c.Cutting "cuts" f dQ (fZ c) ρ=.ok (cs.map tI):=by
 have h1:oI c.Cutting "cuts" (jo c d cs)=.ok ():=by unfold oI jo;exact aP ⟨rfl,rfl⟩
 have h2:fZ c [jo c d cs]=.ok (cs.map tI):=mR rfl (pN (by have:uZ c.Cutting "own_cuts" (dJ 0) (vw (eN 1 [jo c d cs]))=.ok (.tup (cs.map tI)):=wU (C:=c.Cutting) (x:= "own_cuts") (fs:=[("own_cuts",.tup (cs.map tI)),("own_dims",.int d)]) rfl rfl;simp only[vS,dI,dQ,this,M.bind_ok];rfl))
 simp only[qF,hf,M.bind_ok,h1,dQ,h2,M.noEr_ok]
theorem Fk(w:Int){f:Pe->M T}{ρ:Pe}(h:f ρ=.ok (.int w)):ed qb (h8 qt (dI (ed Dq f (cM (.int 0))) dQ)) (h8 qt (dI (ed Ey f (cM (.int 0))) dQ)) ρ=.ok (.int (vz w)):=by
 unfold vz;by_cases h1:0<w
 ·have h2:¬w<0:=by omega
  simp[h,h1,h2]
 ·by_cases h2:w<0
  ·simp[h,h1,h2]
  ·simp[h,h1,h2]
theorem IK{ρ:Pe}{f1 f2:Pe->M T}{a1 a2:T}(h1:f1 ρ=.ok a1)(h2:f2 ρ=.ok a2):fK (lstM (dI f1 (dI f2 dQ))) ρ=.ok (.lst [a1,a2]):=by
 have hz:2<=sizeLine:=by decide
 simp only[fK,lstM,dI,dQ,h1,h2,M.bind_ok,xo,ay,cY,hz,if_true]
theorem tN{d:Nat}{ns:LI}{v:Int}(hl:ns.length=d)(hb:∀x∈ns,Bn 84 x)(hv:Bn 84 v)(hr:∃p,p<d/\vc ns p≠0):GC d 84 (ns++[v]):=by
 refine⟨⟨by simp[hl],λx hx=>?_⟩,?_⟩
 ·rcases ai.mp hx with q | q
  ·exact hb x q
  ·rw[aj.mp q];exact hv
 ·obtain⟨p,hp,h⟩:=hr;refine⟨p,hp,?_⟩;unfold vc at *;rw[af,List.getElem?_append_left (by omega),<-af];exact h
theorem DH{d:Nat}{ns:LI}(hl:ns.length=d)(h:ns≠List.replicate d 0):∃p,p<d/\vc ns p≠0:=by
 refine aN λhc=>h (List.eq_replicate_iff.mpr ⟨hl,λb hb=>?_⟩);obtain⟨i,hi⟩:=List.getElem?_of_mem hb;have hil:i<d:=by have:=(aa.mp hi).1;omega
 refine aN λhb0=>hc ⟨i,hil,?_⟩;unfold vc;rw[af,hi];exact hb0
theorem Fo(ns:LI)(hb:∀x∈ns,x.natAbs<=3):(((ns.zip [1,2,(-1:Int)]).map λ(p:Int×Int)=>p.1*p.2).sum).natAbs<=1000:=by
 match ns,hb with
 | [],_=>simp
 | [a],b1=>have:=b1 a (by simp);show ((a*1+0).natAbs)<=1000;omega
 | [a,b],b1=>have h1:=b1 a (by simp);have h2:=b1 b (by simp);show ((a*1+(b*2+0)).natAbs)<=1000;omega
 | a::b::e::l,b1=>
  have h1:=b1 a (by simp);have h2:=b1 b (by simp);have h3:=b1 e (by simp);have:((a::b::e::l).zip [1,2,(-1:Int)])=[(a,1),(b,2),(e,-1)]:=by cases l<;>rfl
  rw[this];show ((a*1+(b*2+(e * -1+0))).natAbs)<=1000;omega
theorem wg(cell:Int)(d:Nat)(fs:LL)(hd:1<=d/\d<=3)(hf:∀f∈fs,GC d 84 f)(hfl:fs.length<=10) :
  ∃ns,oO c [.int cell,.int d,.lst (fs.map tI)]=.ok (tI ns)/\GC d 84 ns:=by
 have sz:1000<sizeLine:=by decide
 let ns0:LI:=(List.range d).map λ(j:Nat)=>dr c cell j 7 - 3;have l0:ns0.length=d:=by simp[ns0]
 have b0:∀x∈ns0,x.natAbs<=3:=λx hx=>by obtain⟨j,hj,rfl⟩:=aC.mp hx;have hj':=aR.mp hj;obtain⟨_,a1,a2⟩:=hC (c:=c) cell j 7 (by omega) (by omega) (by omega) (by omega);omega
 obtain⟨d6,d6a,d6b⟩:=hC (c:=c) cell 6 9 (by decide) (by decide) (by omega) (by omega);obtain⟨d7,d7a,d7b⟩:=hC (c:=c) cell 7 7 (by decide) (by decide) (by omega) (by omega);generalize dr c cell 6 9=c0 at d6 d6a d6b;generalize dr c cell 7 7=way at d7 d7a d7b;let St:LI->Option W->Option W->Option W->En:=λns x4 x5 x6=>[some (.p (.int cell)),some (.p (.int d)),some (.p (.lst (fs.map tI))),some (.o (ns.map T.int)),x4,x5,x6];have e0:gS [none,some 0] (iM (dI (dJ 1) dQ)) (gM 0) (λ_=>.ok true) (qC c) (lK [some (.p (.int cell)),some (.p (.int d)),some (.p (.lst (fs.map tI))),none,none,none,none])=.ok (ns0.map T.int):=by refine fX (List.range d) (λ(j:Nat)=>T.int (j:Int)) (λ(j:Nat)=>T.int (dr c cell j 7 - 3)) (lr d (by omega) rfl) (by simp;omega) (λj hj=>⟨_,rfl,rfl,?_⟩) (by rw[aH];rfl);have hj':=aR.mp hj;obtain⟨e,_,_⟩:=hC (c:=c) cell j 7 (by omega) (by omega) (by omega) (by omega);exact dU (iU rfl rfl rfl e) rfl (lZ _ _)
 obtain⟨ns1,e1,l1,b1,r1⟩:∃ns1,(jF (fz (ed (eG false) (dJ 3) (fK (pJ (fK (lstM (dI (cM (.int 0)) dQ))) (dJ 1))))) (pE 3 (kJ (dX (dI (dJ 0) (dI (cM (.int 4)) (dI (dJ 1) dQ))) (eg c))) (kJ (ed gR (cM (.int 1)) (dX (dI (dJ 0) (dI (cM (.int 5)) (dI (cM (.int 3)) dQ))) (eg c))))) eZ) (St ns0 none none none)=.nx (St ns1 none none none)/\ns1.length=d/\(∀x∈ns1,x.natAbs<=3)/\∃p,p<d/\vc ns1 p≠0:=by
  have ec:fz (ed (eG false) (dJ 3) (fK (pJ (fK (lstM (dI (cM (.int 0)) dQ))) (dJ 1)))) (vw (St ns0 none none none))=.ok (decide (ns0=List.replicate d 0)):=eT (dU (x:=.lst (ns0.map T.int)) (y:=.lst ((List.replicate d (0:Int)).map T.int)) rfl (BJ d (by omega) rfl) (by rw[tw];rfl))
  by_cases hz:ns0=List.replicate d 0
  ·obtain⟨d4,d4a,d4b⟩:=hC (c:=c) cell 4 d (by omega) (by omega) (by omega) (by omega);obtain⟨d5,d5a,d5b⟩:=hC (c:=c) cell 5 3 (by omega) (by omega) (by omega) (by omega);obtain⟨p,hp⟩:∃p:Nat,dr c cell 4 d=(p:Int):=⟨(dr c cell 4 d).toNat,by omega⟩;rw[hp] at d4 d4b;refine⟨ns0.set p (1+dr c cell 5 3),gC (by rw[ec,aB hz]) (p7 (us:=ns0.map T.int) (t:=.int (1+dr c cell 5 3)) (j:=(p:Int)) (m:=p) rfl (dU rfl (iU rfl rfl rfl d5) (gH _ _)) rfl (iU rfl rfl rfl d4) (CQ _ _ (by rw[aw];omega)) ?_),by rw[bP];exact l0,λx hx=>?_,p,by omega,?_⟩
   ·simp only[St,cZ];rfl
   ·rcases de hx with q | q
    ·exact b0 x q
    ·rw[q];omega
   ·rw[Fp _ _ _ _ (by omega),aP rfl];omega
  ·exact⟨ns0,fg (by rw[ec,aA hz]) rfl,l0,b0,DH l0 hz⟩
 have sm84:∀x:Int,x.natAbs<=1000->Bn 84 x:=λx hx=>Bn.mono (m:=10) (by unfold Bn;omega) (by decide);have hfe:∀neg,eG neg (.lst (fs.map tI)) (.lst [])=.ok (.bl (if neg then !fs.isEmpty else fs.isEmpty)):=λneg=>by rw[sY neg (fs.map tI) (by simp) (aM (vI fs) (by decide))];simp
 let x4:Int->Option W:=λv=>some (.p (.int v));let x5:Option W:=some (.p (.int way));have rS:∀{o:O},(eh (jF (nv (fz (ed (eG false) (dJ 5) (cM (.int 1)))) (fz (ed (eG true) (dJ 2) (fK (lstM dQ))))) (jV 3 (lb (vS jh (dI (lj (ed fF (dJ 2) (dX (dI (dJ 0) (dI (cM (.int 8)) (dI (h8 gP (dI (dJ 2) dQ)) dQ))) (eg c))) (λ_=>.ok none) (jd (dJ 1))) dQ)))) eZ) _) (St ns1 (x4 (c0 - 4)) x5 none)=o->sh c (eN 7 [.int cell,.int d,.lst (fs.map tI)])=o:=λ{o} h=>dS (ρ':=St ns0 none none none) (kb e0 rfl) (dS (ρ':=St ns1 none none none) e1 (dS (ρ':=St ns1 (x4 (c0 - 4)) none none) (ek (dU (iU rfl rfl rfl d6) rfl (lZ _ _)) rfl) (dS (ρ':=St ns1 (x4 (c0 - 4)) x5 none) (ek (iU rfl rfl rfl d7) rfl) h)))
 have q1:fz (ed (eG false) (dJ 5) (cM (.int 1))) (vw (St ns1 (x4 (c0 - 4)) x5 none))=.ok (way == 1):=eT (dU (x:=.int way) rfl rfl (fH _ _));have q2:fz (ed (eG true) (dJ 2) (fK (lstM dQ))) (vw (St ns1 (x4 (c0 - 4)) x5 none))=.ok (!fs.isEmpty):=eT (dU (x:=.lst (fs.map tI)) (y:=.lst []) rfl (by simp) (by rw[hfe];rfl));have wq:∀(ns:LI) (v k:Int) x6,fz (ed (eG false) (dJ 5) (cM (.int k))) (vw (St ns (x4 v) x5 x6))=.ok (way == k):=λns v k x6=>eT (dU (x:=.int way) rfl rfl (fH _ _));have retq:∀(ns:LI) (v:Int) x6,ns.length=d->eY (h8 iA (dI (fK (ox (dJ 3) (fK (lstM (dI (dJ 4) dQ))))) dQ)) (St ns (x4 v) x5 x6)=.rt (tI (ns++[v])):=λns v x6 hl=>eK (ki (t:=.lst (ns.map T.int++[.int v])) (fI (x8 (a:=ns.map T.int) (b:=[.int v]) rfl (FK rfl) (by simp;omega))) (by simp[tI]))
 have or23:∀(ns:LI) (v:Int) x6,(L3.nj (fz (ed (eG false) (dJ 5) (cM (.int 2)))) (fz (ed (eG false) (dJ 5) (cM (.int 3))))) (vw (St ns (x4 v) x5 x6))=.ok (way == 2||way == 3):=λns v x6=>by simp only[L3.nj,wq,M.bind_ok];cases way == 2<;>rfl
 have noA:¬(way=1/\fs≠[])->(L3.nv (fz (ed (eG false) (dJ 5) (cM (.int 1)))) (fz (ed (eG true) (dJ 2) (fK (lstM dQ))))) (vw (St ns1 (x4 (c0 - 4)) x5 none))=.ok false:=λhc=>by
  simp only[L3.nv,q1,q2,M.bind_ok];by_cases h1:way=1
  ·have hn:fs=[]:=by
    by_cases hn:fs=[]
    ·exact hn
    ·exact absurd ⟨h1,hn⟩ hc
   rw[h1,hn];rfl
  ·have:(way == 1)=false:=by simpa using h1
   rw[this];rfl
 by_cases hA:way=1/\fs≠[]
 ·obtain⟨h1,hne⟩:=hA;have hlp:0<fs.length:=List.length_pos_iff.mpr hne;obtain⟨d3,d3a,d3b⟩:=hC (c:=c) cell 8 fs.length (by omega) (by omega) (by omega) (by omega);obtain⟨f,ef,hfm⟩:=xn fs (dr c cell 8 fs.length) d3a d3b;have gf:=hf f hfm;have tl:(f.take d).length=d:=by rw[bK,gf.gl.1];omega
  have nd:∀k:Int,k≠1->(way == k)=false:=λk hk=>by simp[h1];omega
  refine⟨f.take d++[c0 - 4],eV rfl (rS (dS (ρ':=St (f.take d) (x4 (c0 - 4)) x5 none) (gC ?_ (kb (ts:=(f.take d).map T.int) ?_ rfl)) (dS (fg (by rw[or23,nd 2 (by decide),nd 3 (by decide)];rfl) rfl) (dS (fg (by rw[wq,nd 4 (by decide)]) rfl) (retq _ _ _ tl))))),tN tl (λx hx=>gf.gl.2 x (dA hx)) (sm84 _ (by omega)) ?_⟩
  ·simp only[L3.nv,q1,q2,M.bind_ok];rw[h1];simp[hne]
  ·have:=qK (fe:=ed fF (dJ 2) (dX (dI (dJ 0) (dI (cM (.int 8)) (dI (h8 gP (dI (dJ 2) dQ)) dQ))) (eg c))) (fd:=dJ 1) (d:=d) (ts:=f.map T.int) (ρ:=lK (St ns1 (x4 (c0 - 4)) x5 none)) (dU (x:=.lst (fs.map tI)) (y:=.int (dr c cell 8 fs.length)) rfl (iU (z:=.int (fs.length:Int)) rfl rfl (ki rfl (by simp)) d3) (by simp[nX,ef,tI])) rfl (by rw[aw,gf.gl.1];omega);simp only[vS,dI,dQ,this,M.bind_ok];rw[cE];rfl
  ·obtain⟨p,hp,h⟩:=gf.re;refine⟨p,hp,?_⟩;unfold vc at *;rw[af,List.getElem?_take,aP hp,<-af];exact h
 ·have b84:∀x∈ns1,Bn 84 x:=λx hx=>sm84 x (by have:=b1 x hx;omega);by_cases h23:way=2\/way=3
  ·have t23:(way == 2||way == 3)=true:=by rcases h23 with h | h<;>rw[h]<;>rfl
   have n4:(way == 4)=false:=by rcases h23 with h | h<;>rw[h]<;>rfl
   let v:Int:=((ns1.zip [1,2,-1]).map λp=>p.1*p.2).sum;have ez:gS [none,none] (mn (dI (dJ 3) (dI (fK (lstM (dI (cM (.int 1)) (dI (cM (.int 2)) (dI (zH (λi=>.int (-i)) (cM (.int 1))) dQ))))) dQ))) (nh 2 (gz (gM 0) (gz (gM 1) mZ))) (λ_=>.ok true) (qM c) (vw (St ns1 (x4 (c0 - 4)) x5 none))=.ok (((ns1.zip [1,2,-1]).map λp=>p.1*p.2).map T.int):=fX (ns1.zip [1,2,-1]) (λp=>T.tup [.int p.1,.int p.2]) (λp=>T.int (p.1*p.2)) (m6 (x:=.lst (ns1.map T.int)) (y:=.lst ([1,2,-1].map T.int)) rfl rfl (fI rfl) rfl) (by rw[dz];omega) (λp hp=>⟨_,rfl,rfl,dU rfl rfl (iE (by have:=b1 _ (aV hp).1;omega))⟩) (by rw[aH];rfl)
   have vb:v.natAbs<=1000:=Fo ns1 b1;exact⟨ns1++[v],eV rfl (rS (dS (fg (noA hA) rfl) (dS (ρ':=St ns1 (x4 v) x5 none) (gC (by rw[or23,t23]) (yr (l5 ez (xB _)) rfl rfl)) (dS (fg (by rw[wq,n4]) rfl) (retq _ _ _ l1))))),tN l1 b84 (sm84 _ vb) r1⟩
  ·have f23:(way == 2||way == 3)=false:=by have h2:¬way=2:=λz=>h23 (.inl z);have h3:¬way=3:=λz=>h23 (.inr z);simp[h2,h3]
   by_cases h4:way=4
   ·obtain⟨d9,d9a,d9b⟩:=hC (c:=c) cell 9 1000000 (by decide) (by decide) (by omega) (by omega);obtain⟨d11,d11a,d11b⟩:=hC (c:=c) cell 11 3 (by decide) (by decide) (by omega) (by omega);obtain⟨d10,d10a,d10b⟩:=hC (c:=c) cell 10 7 (by decide) (by decide) (by omega) (by omega);obtain⟨w,ew,hw⟩:=CH [1,1,1000000000000000000] (dr c cell 11 3) d11a (by simpa using d11b);have e18:nR (.int 10) (.int 18)=.ok (.int 1000000000000000000):=by simp[nR,i5]
    have e6:nR (.int 10) (.int 6)=.ok (.int 1000000):=by simp[nR,i5]
    generalize dr c cell 9 1000000=f0 at d9 d9a d9b;generalize dr c cell 10 7=g0 at d10 d10a d10b;let far:Int:=(1+f0)*w;have hw':1<=w/\w<=1000000000000000000:=by simp only[aE,List.mem_nil_iff,or_false] at hw;omega
    have hfar:far.natAbs<=1000000*1000000000000000000:=by show ((1+f0)*w).natAbs<=_;rw[aX];exact dk (by omega) (by omega)
    have hfar1:1<=far:=by have:0<(1+f0)*w:=aW (by omega) (by omega);show 1<=(1+f0)*w;omega
    have hl3:fK (lstM (dI (cM (.int 1)) (dI (cM (.int 1)) (dI (ed nR (cM (.int 10)) (cM (.int 18))) dQ)))) (lK (St ns1 (x4 (c0 - 4)) x5 none))=.ok (.lst ([1,1,1000000000000000000].map T.int)):=by
     have o:ed nR (cM (.int 10)) (cM (.int 18)) (lK (St ns1 (x4 (c0 - 4)) x5 none))=.ok (.int 1000000000000000000):=dU rfl rfl e18;have h3:3<=sizeLine:=by decide
     simp only[fK,lstM,dI,dQ,cM,o,M.bind_ok];rfl
    let ns2:LI:=ns1.map λx=>x*far;have es:gS [none,some 6] (fB (dJ 3)) (gM 0) (λ_=>.ok true) (qI c) (vw (St ns1 (x4 (c0 - 4)) x5 (some (.p (.int far)))))=.ok (ns2.map T.int):=fX ns1 T.int (λx=>T.int (x*far)) rfl (by omega) (λx hx=>⟨_,rfl,rfl,dU rfl rfl (iE (by have:=b1 x hx;omega))⟩) (by rw[aH];rfl)
    refine⟨ns2++[(c0 - 4)*far+g0],eV rfl (rS (dS (fg (noA hA) rfl) (dS (fg (by rw[or23,f23]) rfl) (dS (ρ':=St ns2 (x4 ((c0 - 4)*far+g0)) x5 (some (.p (.int far)))) (gC (by rw[wq,h4];rfl) (dS (ρ':=St ns1 (x4 (c0 - 4)) x5 (some (.p (.int far)))) (ek (dU (dU rfl (iU (z:=.int 1000000) rfl rfl (dU rfl rfl e6) d9) (gH _ _)) (dU (x:=.lst ([1,1,1000000000000000000].map T.int)) (y:=.int (dr c cell 11 3)) hl3 (iU rfl rfl rfl d11) ew) (iE (by omega))) rfl) (dS (ρ':=St ns2 (x4 (c0 - 4)) x5 (some (.p (.int far)))) (DK es (BR _) rfl) (ek (dU (dU rfl rfl (iE (by omega))) (iU rfl rfl rfl d10) (gH _ _)) rfl)))) (retq _ _ _ (by simp[ns2,l1])))))),tN (by simp[ns2,l1]) (λx hx=>?_) ?_ ?_⟩
    ·obtain⟨y,hy,rfl⟩:=aC.mp hx;have:=b1 y hy;unfold Bn;rw[aX];refine cR (dk this hfar) (by decide)
    ·unfold Bn;have h1:((c0 - 4)*far).natAbs<=5*(1000000*1000000000000000000):=by rw[aX];exact dk (by omega) hfar
     have h2:=cI ((c0 - 4)*far) g0;refine cR (aM h2 (Nat.add_le_add h1 (show g0.natAbs<=7 by omega))) (by decide)
    ·obtain⟨p,hp,h⟩:=r1;refine⟨p,hp,?_⟩;have:vc ns2 p=vc ns1 p*far:=by unfold vc;rw[af,af,av];cases ns1[p]?<;>simp
     rw[this];exact c7 h (by omega)
   ·exact⟨ns1++[c0 - 4],eV rfl (rS (dS (fg (noA hA) rfl) (dS (fg (by rw[or23,f23]) rfl) (dS (fg (by rw[wq];simp[h4]) rfl) (retq _ _ _ l1))))),tN l1 b84 (sm84 _ (by omega)) r1⟩
theorem w9{a b:LI}(h:a.length=b.length):iL a b=iL b a:=by
 unfold iL;rw[h];congr 1;funext k;congr 1;funext j;rw[cA (vc a k),cA (vc a j)];by_cases q:vc b j*vc a k=vc b k*vc a j
 ·rw[beq_iff_eq.mpr q,beq_iff_eq.mpr q.symm]
 ·rw[beq_eq_false_iff_ne.mpr q,beq_eq_false_iff_ne.mpr λz=>q z.symm]
theorem vA(ns:LI)(k0 d many:Nat)(hd:1<=d/\d<=3)(hm:many<=7):∃cs:LL,qi c [.scr ns,.int k0,.int d,.int many]=.ok (cs.map tI)/\DE d 84 cs/\cs.length<=many:=by
 have sz:1000<sizeLine:=by decide
 obtain⟨ρ,e,cs,x5,x6,rfl,hl,hg,hp⟩:=gG (m:=iV 5) (g:=pz c) (λ(i:Nat)=>T.int (i:Int))
  (λk ρ=>∃(cs:LL) (x5 x6:Option W),ρ=[some (.p (.scr ns)),some (.p (.int k0)),some (.p (.int d)),some (.p (.int many)),some (.o (cs.map tI)),x5,x6]/\cs.length<=k/\(∀f∈cs,GC d 84 f)/\cs.Pairwise λa b=>iL a b=false)
  (List.range many) 0 _ ⟨[],none,none,rfl,aJ _,(λf hf=>nomatch hf),List.Pairwise.nil⟩ (by
   rintro i k ρ hi ⟨cs,x5,x6,rfl,hl,hg,hp⟩;rw[aF] at hl ⊢;have hin:i<many:=by simpa using (aa.mp hi).1
   have hki:k=i:=by rw[List.getElem?_range hin] at hi;cases hi;rfl
   subst hki;obtain⟨v,ev,-⟩:=m9 (c:=c) ns (k0+k);obtain⟨nx,en,gn⟩:=wg (c:=c) v d cs hd hg (by omega);let R:En:=[some (.p (.scr ns)),some (.p (.int k0)),some (.p (.int d)),some (.p (.int many)),some (.o (cs.map tI)),some (.p (.int (k:Int))),some (.p (tI nx))];have e1:gS [none,some 6] (fB (dJ 4)) (gM 0) (fz (dX (dI (dJ 1) (dI (dJ 0) dQ)) (iq c))) (l9 c) (vw R)=.ok ((cs.filter λf=>iL nx f).map tI):=mV cs tI tI (λf=>iL nx f) rfl (by omega) (λf hf=>⟨_,rfl,eT (fU rfl rfl (uR (c:=c) (d+1) 84 nx f gn.gl.1 (hg f hf).gl.1 (by omega) (by omega) gn.gl.2 (hg f hf).gl.2)),λ_=>rfl⟩) rfl
   have hc:fz (ed (eG false) (fK (gS [none,some 6] (fB (dJ 4)) (gM 0) (fz (dX (dI (dJ 1) (dI (dJ 0) dQ)) (iq c))) (l9 c))) (fK (lstM dQ))) (vw R)=.ok (cs.filter λf=>iL nx f).isEmpty:=by refine eT (dU (x:=.lst ((cs.filter λf=>iL nx f).map tI)) (y:=.lst []) (fI e1) (by simp) ?_);rw[sY false _ (by simp) (aM (vI _) (by decide))];simp
   have s1:setO 6 (kJ (dX (dI (dX (dI (dJ 0) (dI (ed gR (dJ 1) (dJ 5)) dQ)) (eS c)) (dI (dJ 2) (dI (dJ 4) dQ))) (oO c))) [some (.p (.scr ns)),some (.p (.int k0)),some (.p (.int d)),some (.p (.int many)),some (.o (cs.map tI)),some (.p (.int (k:Int))),x6]=.nx R:=yr (t:=tI nx) (iU (fU (x:=.scr ns) (y:=.int ((k0+k:Nat):Int)) rfl (dU rfl rfl (by rw[gH];simp)) ev) rfl rfl en) (HF nx) rfl
   by_cases he:(cs.filter λf=>iL nx f)=[]
   ·refine⟨_,_,rfl,.inl (dS s1 (gC (hc.trans (by rw[he];rfl)) (xG (us:=cs.map tI) (t:=tI nx) rfl rfl (by simp;omega) rfl))),cs++[nx],_,_,by rw[aY];rfl,by simp;omega,λf hf=>?_,dg.mpr ⟨hp,dh _ _,λf hf g hg'=>?_⟩⟩
    ·rcases ai.mp hf with q | q
     ·exact hg f q
     ·rw[aj.mp q];exact gn
    ·rw[aj.mp hg',w9 (by rw[(hg f hf).gl.1,gn.gl.1])];cases hs:iL nx f with
     | false=>rfl
     | true=>have:f∈cs.filter λf=>iL nx f:=aT.mpr ⟨hf,hs⟩;rw[he] at this;exact nomatch this
   ·refine⟨_,_,rfl,.inl (dS s1 (fg (hc.trans (by
     cases hq:(cs.filter λf=>iL nx f) with
     | nil=>exact absurd hq he
     | cons a l=>rfl)) rfl)),cs,_,_,rfl,by omega,hg,hp⟩)
 rw[aF,cm] at hl;exact⟨cs,mR rfl (dS (kb (ts:=[]) (by simp) rfl) (dS (kj (lr many (by omega) rfl) e) rfl)),⟨hg,by omega,hp⟩,hl⟩
theorem Ea(d:Nat)(us:LL){f:Pe->M T}{ρ:Pe}(hf:f ρ=.ok (jo c d us)):oU c.Cutting "many" f dQ (gD c) ρ=.ok (.int us.length):=by
 have h1:oI c.Cutting "many" (jo c d us)=.ok ():=by unfold oI jo;exact aP ⟨rfl,rfl⟩
 have h2:gD c [jo c d us]=.ok (.int us.length):=eV rfl (eK (ki (wU (C:=c.Cutting) (x:= "own_cuts") (fs:=[("own_cuts",.tup (us.map tI)),("own_dims",.int d)]) rfl rfl) (by simp)));simp only[oU,hf,M.bind_ok,h1,dQ,h2,M.noEr_ok]
def B8(us:LL)(ws:LI)(k:Nat):Int:=((ws.zip us).map λp=>p.1*vc p.2 k).sum
theorem C7(us:LL)(ws:LI)(d:Nat):fF (.lst (((List.range (d+1)).map (B8 us ws)).map T.int)) (.int (d:Int))=.ok (.int (B8 us ws d)):=by rw[pU _ d (by simp)];congr 2;rw[af,av,List.getElem?_range (by omega)];rfl
theorem Jv(a b:Str)(ha:(PyData.str a).canLay0=true)(hb:(PyData.str b).canLay0=true):eG false (.str a) (.str b)=.ok (.bl (a == b)):=by simp[eG,j9,vU,mC,ha,hb]
theorem sj(x0 x1:Option W)(N:Nat)(hN:N<=1000):∀(ps:List (Int×(Int×Int))) (fC bot:Int) (A B:Nat) (v:Rat) (x4 x5:Option W),(∀p∈ps,Bn N p.1/\Fq p.2)->ps.length<=10->A+B+2*ps.length+2*wts (ps.map Prod.snd)<=500000->N+B<=A->Bn A fC->Bn B bot->0<bot->(fC:Rat)=(bot:Rat)*v->
  ∃(top' bot':Int) (y4 y5:Option W),fY (jr 2 (fj (iV 4) (fj (iV 5) jt))) (gW c) (ps.map AL) [x0,x1,some (.p (.int fC)),some (.p (.int bot)),x4,x5]=.nx [x0,x1,some (.p (.int top')),some (.p (.int bot')),y4,y5]/\0<bot'/\(top':Rat)=(bot':Rat)*(v+(ps.map λp=>(p.1:Rat)*qv p.2).sum)
 | [],fC,bot,A,B,v,x4,x5,_,_,_,_,_,_,hb,e=>⟨fC,bot,x4,x5,rfl,hb,by rw[e];simp;grind⟩
 | (n,p)::ps,fC,bot,A,B,v,x4,x5,hp,hl,hA,hAB,b1,b2,hb,e=>by
  obtain⟨hn,hq⟩:=hp (n,p) (by simp);simp only at hn hq;have hw:wts (((n,p)::ps).map Prod.snd)=wt p+wts (ps.map Prod.snd):=by simp[wts]
  rw[hw] at hA;rw[ay] at hA hl;have p1:Bn (wt p) p.1:=(yt _).mono (cG _ _);have p2:Bn (wt p) p.2:=(yt _).mono (cH _ _);have m1:fT (.int fC) (.int p.2)=.ok (.int (fC*p.2)):=fE (b1.ok p2 (by omega) (by omega));have m2:fT (.int n) (.int p.1)=.ok (.int (n*p.1)):=fE (hn.ok p1 (by omega) (by omega));have m3:fT (.int (n*p.1)) (.int bot)=.ok (.int (n*p.1*bot)):=fE ((hn.mul p1).ok b2 (by omega) (by omega));have m4:fT (.int bot) (.int p.2)=.ok (.int (bot*p.2)):=fE (b2.ok p2 (by omega) (by omega));have bt:Bn (A+wt p+1) (fC*p.2+n*p.1*bot):=((b1.mul p2).add ((hn.mul p1).mul b2)).mono (by omega);have bb:Bn (B+wt p) (bot*p.2):=b2.mul p2;have pp:=hq.pos;have p0:(p.2:Rat)≠0:=by
   intro z;have:p.2=0:=by exact_mod_cast z
   omega
  have e':((fC*p.2+n*p.1*bot:Int):Rat)=((bot*p.2:Int):Rat)*(v+(n:Rat)*qv p):=by
   have c1:((fC*p.2+n*p.1*bot:Int):Rat)=(fC:Rat)*(p.2:Rat)+(n:Rat)*(p.1:Rat)*(bot:Rat):=by simp
   have c2:((bot*p.2:Int):Rat)=(bot:Rat)*(p.2:Rat):=by simp
   rw[c1,c2,e];unfold qv;grind
  obtain⟨top',bot',y4,y5,el,hb',ev⟩:=sj x0 x1 N hN ps (fC*p.2+n*p.1*bot) (bot*p.2) (A+wt p+1) (B+wt p) (v+(n:Rat)*qv p) (some (.p (.int n))) (some (.p (fr p))) (λq hq=>hp q (by simp[hq])) (by omega) (by omega) (by omega) bt bb (aW hb pp) e';refine⟨top',bot',y4,y5,?_,hb',?_⟩
  ·rw[bD,fY];have s1:gW c [x0,x1,some (.p (.int fC)),some (.p (.int bot)),some (.p (.int n)),some (.p (fr p))]=.nx [x0,x1,some (.p (.int (fC*p.2+n*p.1*bot))),some (.p (.int (bot*p.2))),some (.p (.int n)),some (.p (fr p))]:=
    dS (ek (dU (dU rfl (dU rfl rfl (lG p)) m1) (dU (dU rfl (dU rfl rfl (n6 p)) m2) rfl m3) (gH _ _)) rfl) (ek (dU rfl (dU rfl rfl (lG p)) m4) rfl)
   show (match gW c [x0,x1,some (.p (.int fC)),some (.p (.int bot)),some (.p (.int n)),some (.p (fr p))] with | .nx ρ2=>fY (jr 2 (fj (iV 4) (fj (iV 5) jt))) (gW c) (ps.map AL) ρ2 | .ct ρ2=>fY (jr 2 (fj (iV 4) (fj (iV 5) jt))) (gW c) (ps.map AL) ρ2 | .bk ρ2=>.nx ρ2 | o=>o)=_;rw[s1];exact el
  ·rw[ev,bD,c8];grind
def IF(x:Rat):Int:=if 0<x then 1 else if x<0 then -1 else 0
theorem FY{fC bot:Int}{v:Rat}(hb:0<bot)(e:(fC:Rat)=(bot:Rat)*v):vz fC=IF v:=by
 have bq:=G9 hb;unfold vz IF;rcases Int.lt_trichotomy fC 0 with h | h | h
 ·have t0:(fC:Rat)<0:=by exact_mod_cast h
  have v0:v<0:=by refine dB (c:=(bot:Rat)) ?_ (Rat.le_of_lt bq);grind
  rw[aQ (by omega),aP h,aQ (by grind),aP v0]
 ·have t0:(fC:Rat)=0:=by rw[h];rfl
  have v0:v=0:=by grind
  rw[aQ (by omega),aQ (by omega),aQ (by grind),aQ (by grind)]
 ·have t0:(0:Rat)<(fC:Rat):=G9 h;have v0:0<v:=by refine dB (c:=(bot:Rat)) ?_ (Rat.le_of_lt bq);grind
  rw[aP h,aP v0]
theorem A1{B:Nat}(hB:B<=900)(d:Nat)(u:LI)(hu:GL d B u)(hd:d<=3)(s:List (Int×Int))(hs:s.length=d)(hq:∀p∈s,Fq p)(hw:wts s<=200000):iC c [tI u,tS s]=.ok (.int (IF (ni d (Xs s) (vc u)))):=by
 have sz:1000<sizeLine:=by decide
 have hl:=hu.1;have Io:fF (tI u) (.int (-1))=.ok (.int (vc u d)):=by
  have hne:u≠[]:=λz=>by rw[z] at hl;simp at hl
  have:lP (u.map T.int) (-1)=some (.int (vc u d)):=by
   rw[Fu _ (by simpa using hne),List.getLast?_map,List.getLast?_eq_getElem?];have e:u.length - 1=d:=by omega
   rw[e,ag (by omega)];unfold vc;rw[af,ag (by omega)];rfl
  simp[tI,this]
 have bc:Bn B (vc u d):=by refine hu.2 _ ?_;unfold vc;rw[af,ag (by omega)];exact aU _
 have em:(u.zip s).map Prod.snd=s:=by rw[List.map_snd_zip];omega
 obtain⟨fC,bot,y4,y5,e,hb,ev⟩:=sj (c:=c) (some (.p (tI u))) (some (.p (tS s))) B (by omega) (u.zip s) (-(vc u d)) 1 (B+1) 1 (-(vc u d:Rat)) none none (λp hp=>⟨hu.2 _ (aV hp).1,hq _ (aV hp).2⟩) (by rw[dz];omega) (by rw[em,dz];omega) (by omega) (bc.neg.mono (by omega)) F8 (by decide) (by
  have c1:((-(vc u d):Int):Rat) = -(vc u d:Rat):=by simp
  have c2:((1:Int):Rat)=1:=rfl;rw[c1,c2];grind)
 have evv:-(vc u d:Rat)+((u.zip s).map λp=>(p.1:Rat)*qv p.2).sum=ni d (Xs s) (vc u):=by have:=vq d s u hs (by omega);unfold zD at this;rw[this];unfold ni;grind
 rw[evv] at ev;have sg:=FY hb ev;rw[<-sg];exact eV rfl (dS (ek (t:=.int (-(vc u d))) (tR (dU rfl rfl Io)) rfl) (dS (ek (t:=.int 1) rfl rfl) (dS (iI (m6 (l:=u) (m:=s) (f:=T.int) (g:=fr) rfl rfl rfl rfl) e) (eK (Fk fC rfl)))))
theorem wM(p:Int×Int)(h:Fq p):gp c [fr p]=.ok (.bl true):=by have w:∀i:Int,fR c [.int i]=.ok (.bl true):=λi=>rfl;have h1:(L3.nj (L3.gK (fz (j4 "tuple" (dJ 0)))) (L3.nj (fz (ed (eG true) (h8 gP (dI (dJ 0) dQ)) (cM (.int 2)))) (L3.nj (L3.gK (fz (dX (dI (ed fF (dJ 0) (cM (.int 0))) dQ) (fR c)))) (L3.gK (fz (dX (dI (ed fF (dJ 0) (cM (.int 1))) dQ) (fR c))))))) (vw (eN 1 [fr p]))=.ok false:=rfl;refine eV rfl (dS (fg h1 rfl) (eK ?_));have g1:ed Dq (ed fF (dJ 0) (cM (.int 1))) (cM (.int 0)) (vw (eN 1 [fr p]))=.ok (.bl true):=dU (dU rfl rfl (lG p)) rfl (by rw[Di];simp[h.pos]);have g2:ed (eG false) (dX (dI (ed fF (dJ 0) (cM (.int 0))) (dI (ed fF (dJ 0) (cM (.int 1))) dQ)) (iz c)) (cM (.int 1)) (vw (eN 1 [fr p]))=.ok (.bl true):=dU (fU (dU rfl rfl (n6 p)) (dU rfl rfl (lG p)) (rN p.1 p.2)) rfl (by rw[fH,h.one];rfl);show ng _ _ (vw (eN 1 [fr p]))=_;have g1':=eT g1;simp only[ng,g1',g2,M.bind_ok];rfl
theorem za(d:Nat)(s:List (Int×Int))(hl:s.length=d)(hd:d<=3)(hq:∀p∈s,Fq p):gX c [tS s,.int d]=.ok (.bl true):=by
 have sz:1000<sizeLine:=by decide
 have e1:gS [none] (fB (dJ 0)) (gM 0) (λ_=>.ok true) (mm c) (vw (eN 2 [tS s,.int d]))=.ok ((s.map λ_=>true).map T.bl):=fX s fr (λ_=>T.bl true) rfl (by omega) (λp hp=>⟨_,rfl,rfl,pD rfl (wM p (hq p hp))⟩) (by simp)
 have e0:(L3.nj (L3.gK (fz (j4 "tuple" (dJ 0)))) (fz (ed (eG true) (h8 gP (dI (dJ 0) dQ)) (dJ 1)))) (vw (eN 2 [tS s,.int d]))=.ok false:=by simp[tS,hl]
 exact eV rfl (dS (fg e0 rfl) (eK (l5 e1 (by rw[my];simp))))
theorem qU(n:Nat)(ws:LI)(hl:ws.length=n)(hn:n<=8):fO c [tL ws,.int n]=.ok (.bl true):=by
 have sz:1000<sizeLine:=by decide
 have w:∀i:Int,fR c [.int i]=.ok (.bl true):=λi=>rfl;have e1:gS [none] (fB (dJ 0)) (gM 0) (λ_=>.ok true) (l8 c) (vw (eN 2 [tL ws,.int n]))=.ok ((ws.map λ_=>true).map T.bl):=fX ws T.int (λ_=>T.bl true) rfl (by omega) (λp hp=>⟨_,rfl,rfl,pD rfl (w p)⟩) (by simp)
 have e0:(L3.nj (L3.gK (fz (j4 "list" (dJ 0)))) (fz (ed (eG true) (h8 gP (dI (dJ 0) dQ)) (dJ 1)))) (vw (eN 2 [tL ws,.int n]))=.ok false:=by simp[tL,hl]
 exact eV rfl (dS (fg e0 rfl) (eK (l5 e1 (by rw[my];simp))))
theorem AH(k:Nat):∀(ws:LI) (us:LL),ws.length=us.length->B8 us ws k=sm us.length (λi=>vc ws i*vc (us.getD i []) k)
 | [],[],_=>rfl
 | w::ws,u::us,h=>by have:=AH k ws us (by simpa using h);show w*vc u k+B8 us ws k=vc (w::ws) 0*vc ((u::us).getD 0 []) k+sm us.length (λi=>vc (w::ws) (i+1)*vc ((u::us).getD (i+1) []) k);rw[this];rfl
theorem DE.mono{d B B':Nat}{us:LL}(h:DE d B us)(hB:B<=B'):DE d B' us:=⟨λf hf=>(h.gc f hf).mono hB,h.few,h.pw⟩
theorem GP{p:Int×Int}{t b:Int}(hp:0<p.2)(hb:b≠0)(h:qv p=(t:Rat) / (b:Rat)):p.1*b=t*p.2:=by
 have h1:=DD hb;have h2:=DD (show p.2≠0 by omega);unfold qv at h;have h3:(p.1:Rat)*(b:Rat)=(t:Rat)*(p.2:Rat):=by grind
 exact_mod_cast h3
theorem xC(M:Nat)(hM:4*M+1<=8000)(h1M:1<=M)(s:List (Int×Int))(hl:s.length<=3)(hs:∀p∈s,0<p.2/\Bn M p.1/\Bn M p.2):∃(u:LI) (g S:Int),jK c [.lst (s.map fr)]=.ok (tI u)/\u.length=s.length/\(∀x∈u,Bn (4*M+1) x)/\0<g/\0<S/\∀k p,s[k]? = some p->g*vc u k*p.2=S*p.1:=by
 have sz:1000<sizeLine:=by decide
 obtain⟨ρ,e,S,y2,rfl,h1,h2,h3⟩:=gG (m:=iV 2) (g:=nu c) fr
  (λk ρ=>∃(S:Int) (y2:Option W),ρ=[some (.p (.lst (s.map fr))),some (.p (.int S)),y2]/\0<S/\S.natAbs<=2 ^ (M*k)/\∀p∈s.take k,p.2 ∣ S)
  s 0 _ ⟨1,none,rfl,by decide,by simp,λp hp=>by simp at hp⟩ (by
   rintro i ⟨a,b⟩ ρ hi ⟨S,y2,rfl,h1,h2,h3⟩;rw[aF] at h2 h3 ⊢;have hG:=hs _ (au hi);have il:=(aa.mp hi).1;have hb0:=hG.1;have hb:=hG.2.2;dsimp only at hb0 hb;have hS:Bn (3*M+1) S:=by unfold Bn;have:M*i<=M*3:=c9 _ (by omega);exact cR h2 (dC (by decide) (by omega))
   have m1:fT (.int S) (.int b)=.ok (.int (S*b)):=fE (hS.ok hb (by omega) (by omega));have hGp:=Cu.yx S b (by omega);have hGl:=Cu.GA S b (by omega);have f1:lI (.int (S*b)) (.int (Cu.G S b))=.ok (.int ((S*b).fdiv (Cu.G S b))):=j2 (by omega) (by refine Bn.noPy (n:=M) ?_ (by omega);unfold Bn at *;omega)
   obtain⟨q1,q2,q3,q4⟩:=BS S b h1 hb0;refine⟨_,_,rfl,.inl (ek (t:=.int ((S*b).fdiv (Cu.G S b))) (dU (dU rfl (dU rfl rfl (IQ a b)) m1) (fU rfl (dU rfl rfl (IQ a b)) (jf S b)) f1) rfl),_,_,rfl,q1,?_,λp hp=>?_⟩
   ·refine aM q4 ?_;rw[aX,Nat.mul_add,Nat.pow_add,Nat.mul_one];exact dk h2 (bf hb)
   ·rw[iZ _ i _ hi] at hp;rcases ai.mp hp with q | q
    ·exact cP (h3 p q) q2
    ·rw[aj.mp q];exact q3)
 rw[aF,cS] at h3;rw[aF] at h2;have hS:Bn (3*M+1) S:=by unfold Bn;have:M*s.length<=M*3:=c9 _ hl;exact cR h2 (dC (by decide) (by omega))
 let ws:LI:=s.map λ(p:Int×Int)=>p.1*S.fdiv p.2;have hq:∀p∈s,Bn (3*M+1) (S.fdiv p.2):=λp hp=>cR (nH (h3 p hp) (by have:=(hs p hp).1;omega)) hS;have hwb:∀x∈ws,Bn (4*M+1) x:=λx hx=>by obtain⟨p,hp,rfl⟩:=aC.mp hx;exact ((hs p hp).2.1.mul (hq p hp)).mono (by omega)
 have hwl:ws.length=s.length:=by simp[ws]
 obtain⟨g,u,hg0,eu,hul,huv,hub⟩:=sG (c:=c) (4*M+1) hM ws (by omega) hwb;have e1:gS [none,some 1] (fB (dJ 0)) (gM 0) (λ_=>.ok true) (nC c) (vw [some (.p (.lst (s.map fr))),some (.p (.int S)),y2])=.ok (ws.map T.int):=fX s fr (λp=>T.int (p.1*S.fdiv p.2)) rfl (by omega) (λp hp=>⟨_,rfl,rfl,by obtain⟨a,b⟩:=p;have hG:=hs _ hp;have hb0:=hG.1;have hb:=hG.2.2;have ha:=hG.2.1;have hq1:=hq _ hp;dsimp only at hb0 hb ha hq1;exact dU (dU rfl rfl (J2 a b)) (dU rfl (dU rfl rfl (IQ a b)) (j2 (by omega) (hb.noPy (by omega)))) (fE (ha.ok hq1 (by omega) (by omega)))⟩) (by rw[aH];rfl)
 refine⟨u,g,S,eV rfl (dS (ek (t:=.int 1) rfl rfl) (dS (iI rfl e) (eK (pD (x:=tI ws) (ki (t:=.lst (ws.map T.int)) (fI e1) rfl) eu)))),by omega,hub,hg0,h1,λk p hk=>?_⟩;have hm:=au hk;have wk:vc ws k=p.1*S.fdiv p.2:=FQ s (λ(p:Int×Int)=>p.1*S.fdiv p.2) k _ hk;rw[<-huv k,wk,cz,zS (h3 _ hm) (by have:=(hs _ hm).1;omega),cA]
structure Wy(d:Nat)(pv:List (Nat×LI))(f:Nat)(u:LI):Prop where
 len:u.length=d
 pos:0<vc u f
 oth:∀k,k<d->k≠f->(∀p∈pv,p.1≠k)->vc u k=0
 piv:∀p∈pv,vc p.2 p.1*vc u p.1 = -(vc p.2 f*vc u f)
theorem mJ{α:Type}(l:List α)(k:Nat)(v w:α)(h:k<l.length):(l.set k v).getD k w=v:=by rw[af,List.getElem?_set_self h];rfl
theorem kn{α:Type}(l:List α){k j:Nat}(v w:α)(h:k≠j):(l.set k v).getD j w=l.getD j w:=by rw[af,aq h,<-af]
theorem uv(d M L:Nat)(hd:d<=3)(hM:4*M+1<=8000)(h1M:1<=M)(hdL:d<L)(pv:List (Nat×LI))(hp:∀p∈pv,p.1<d/\p.2.length=L/\vc p.2 p.1≠0/\∀x∈p.2,Bn M x)(hw:pv.Pairwise λp q=>p.1≠q.1/\vc q.2 p.1=0/\vc p.2 q.1=0)(f:Nat)(hf:f<d)(hff:∀p∈pv,p.1≠f) :
  ∃u,iT c [.lst (pv.map jA),.int (d:Int),.int (f:Int)]=.ok (tI u)/\Wy d pv f u/\∀x∈u,Bn (4*M+1) x:=by
 have sz:1000<sizeLine:=by decide
 have b1:Bn M (1:Int):=by unfold Bn;exact Nat.one_lt_two_pow (by omega)
 let s0:List (Int×Int):=(List.replicate d ((0,1):Int×Int)).set f (1,1);have l0:s0.length=d:=by simp[s0]
 let R (s':List (Int×Int)) (x3 x4:Option W):En:=[some (.p (.lst (pv.map jA))),some (.p (.int (d:Int))),some (.p (.int (f:Int))),some (.o (s'.map fr)),x3,x4];have z0:∀k,k≠f->s0.getD k (0,1)=(0,1):=λk hk=>by show ((List.replicate d ((0,1):Int×Int)).set f (1,1)).getD k (0,1)=(0,1);rw[kn _ _ _ (Ne.symm hk),af,List.getElem?_replicate];split<;>rfl
 obtain⟨ρ,e,s',x3,x4,rfl,k1,k2,k3,k4,k5⟩:=gG (m:=jr 2 (fj (iV 4) (fj (iV 5) jt))) (g:=ls c) jA
  (λi ρ=>∃(s':List (Int×Int)) (x3 x4:Option W),ρ=R s' x3 x4/\s'.length=d/\(∀p∈s',0<p.2/\Bn M p.1/\Bn M p.2)/\s'.getD f (0,1)=(1,1)/\(∀k,k≠f->(∀p∈pv.take i,p.1≠k)->s'.getD k (0,1)=(0,1))/\∀p∈pv.take i,(s'.getD p.1 (0,1)).1*vc p.2 p.1 = -(vc p.2 f)*(s'.getD p.1 (0,1)).2)
  pv 0 (R s0 none none) ⟨s0,none,none,rfl,l0,(λp hp=>by
   rcases de hp with q | q
   ·rw[a9 q];exact⟨by decide,pO,b1⟩
   ·rw[q];exact⟨by decide,b1,b1⟩),mJ _ _ _ _ (by simpa using hf),λk hk _=>z0 k hk,λp hp=>by simp at hp⟩ (by
   rintro i ⟨a,pr⟩ ρ hi ⟨s',x3,x4,rfl,k1,k2,k3,k4,k5⟩;rw[aF] at k4 k5 ⊢;have hm:=au hi;obtain⟨ha,hl,hne,hb⟩:=hp _ hm;have haf:=hff _ hm;simp only at ha hl hne hb haf;have hpre:∀p∈pv.take i,p.1≠a:=λp hp'=>by
    obtain⟨j,hj⟩:=dt.mp hp';rw[List.getElem?_take] at hj;split at hj
    ·rename_i jl;have h1:=aa.mp hj;have h2:=aa.mp hi;have:=du.mp hw j i h1.1 h2.1 jl;rw[h1.2,h2.2] at this;exact this.1
    ·cases hj
   have bx:∀k,k<L->Bn M (vc pr k):=λk hk=>hb _ (by unfold vc;rw[af,ag (show k<pr.length by omega)];exact aU _)
   obtain⟨o,e2,g2,v2⟩:=nK (c:=c) M M (-(vc pr f)) (vc pr a) hne (by unfold Bn;rw[cJ];exact bx f (by omega)) (bx a (by omega)) (by omega);have cr:=GP g2.pos hne v2;have st:ls c (R s' (some (.p (.int (a:Int)))) (some (.p (tI pr))))=.nx (R (s'.set a o) (some (.p (.int (a:Int)))) (some (.p (tI pr)))):=by
    refine p7 (us:=s'.map fr) rfl (fU (x:=.int (-(vc pr f))) (y:=.int (vc pr a)) (tR (dU rfl rfl (gY pr f (by omega)))) (dU rfl rfl (gY pr a (by omega))) e2) rfl (j:=(a:Int)) (m:=a) rfl ?_ ?_
    ·rw[aw];exact qV _ _ (by omega)
    ·simp[R,cZ]
   have tk:=iZ _ i (a,pr) hi;refine⟨_,_,rfl,.inl st,s'.set a o,_,_,rfl,by rw[bP,k1],λp hp'=>?_,?_,?_,?_⟩
   ·rcases de hp' with q | q
    ·exact k2 p q
    ·rw[q];exact⟨g2.pos,g2.b1,g2.b2⟩
   ·rw[kn _ _ _ haf];exact k3
   ·intro k hk hk';have qa:a≠k:=hk' (a,pr) (by rw[tk];simp);rw[kn _ _ _ qa];exact k4 k hk λp hp'=>hk' p (by rw[tk];simp[hp'])
   ·intro p hp';rw[tk] at hp';rcases ai.mp hp' with q | q
    ·rw[kn _ _ _ (Ne.symm (hpre p q))];exact k5 p q
    ·have:p=(a,pr):=by simpa using q
     subst this;simp only;rw[mJ _ _ _ _ (by omega)];exact cr)
 rw[aF,cS] at k4 k5;obtain⟨u,g,S,e3,ul,ub,hg,hS,hu⟩:=xC (c:=c) M hM h1M s' (by omega) k2;have hu':∀k,k<d->g*vc u k*(s'.getD k (0,1)).2=S*(s'.getD k (0,1)).1:=λk hk=>hu k _ (by rw[af,ag (by omega)];rfl);have uf:g*vc u f=S:=by have:=hu' f hf;rw[k3] at this;simpa using this
 refine⟨u,eV rfl (dS (ρ':=R (List.replicate d (0,1)) none none) (kb (xD (EJ d (by omega) rfl)) rfl) (dS (ρ':=R s0 none none) (p7 (us:=(List.replicate d ((0,1):Int×Int)).map fr) (t:=fr (1,1)) rfl (t8 rfl rfl) rfl (j:=(f:Int)) (m:=f) rfl (by rw[aw,bL];exact qV _ _ hf) (by simp[R,s0,cZ])) (dS (iI rfl e) (eK (pD rfl e3))))),⟨by omega,?_,λk hk hkf hkp=>?_,λp hp'=>?_⟩,ub⟩
 ·refine aN λhc=>?_;have:g*vc u f<=g*0:=cN (by omega) (by omega);rw[uf,cO] at this;omega
 ·have:=hu' k hk;rw[k4 k hkf hkp] at this;have z:g*vc u k=0:=by simpa using this
  exact mP (by omega) z
 ·have h1:=hu' p.1 (hp p hp').1;have h2:=k5 p hp';have hq:0<(s'.getD p.1 (0,1)).2:=(k2 _ (by rw[af,ag (show p.1<s'.length by have:=(hp p hp').1;omega)];exact aU _)).1
  generalize (s'.getD p.1 (0,1)).2=q2 at *;generalize (s'.getD p.1 (0,1)).1=q1 at *;have gq:g*q2≠0:=c7 (by omega) (by omega);refine dc gq ?_;calc g*q2*(vc p.2 p.1*vc u p.1)=(g*vc u p.1*q2)*vc p.2 p.1:=by ac_rfl
   _=S*(q1*vc p.2 p.1):=by rw[h1];ac_rfl
   _=(g*vc u f)*(-(vc p.2 f)*q2):=by rw[h2,uf]
   _=g*q2 * -(vc p.2 f*vc u f):=by grind
end CL
namespace L3
open PySem L2
theorem sv{α:Type}{m:T->En->Option En}{g:En->O}(enc:α->T)(P:Nat->En->Prop)(R:List T->List T->Prop):∀(l:List α) (k:Nat) (ρ:En),P k ρ->
  (∀i a ρ,l[i]? = some a->P (k+i) ρ->∃ρ1,m (enc a) ρ=some ρ1/\((∃ρ2,g ρ1=.nx ρ2/\P (k+i+1) ρ2)\/∃t u,g ρ1=.rn t u/\R t u))->
  (∃ρ',fY m g (l.map enc) ρ=.nx ρ'/\P (k+l.length) ρ')\/∃t u,fY m g (l.map enc) ρ=.rn t u/\R t u
 | [],k,ρ,h,_=>.inl ⟨ρ,rfl,h⟩
 | a::l,k,ρ,h,st=>by
  obtain⟨ρ1,e1,h1⟩:=st 0 a ρ rfl h;rw[bD,fY,e1];dsimp only;rcases h1 with⟨ρ2,e2,h2⟩ | ⟨t,u,e2,h2⟩
  ·rw[e2];rw[ay,show k+(l.length+1)=k+1+l.length by omega];exact sv enc P R l (k+1) ρ2 h2 λi b ρ hb hP=>by have:=st (i+1) b ρ (by simpa using hb) (by rw[show k+(i+1)=k+1+i by omega];exact hP);rw[show k+1+i+1=k+(i+1)+1 by omega];exact this
  ·rw[e2];exact .inr ⟨t,u,rfl,h2⟩
theorem FD{a b:En->O}{ρ:En}{t u:List T}{r:O}(h1:a ρ=.rn t u)(hr:.rn t u=r):eh a b ρ=r:=by unfold eh;rw[h1];exact hr
theorem yi{f:Pe->M (List T×List T)}{ρ:En}{t u:List T}(h:f (vw ρ)=.ok (t,u))(hz:t.length<10):sE f ρ=.rn t u:=by
 have:10<=sizeLine:=by decide
 unfold sE;rw[h];simp only[O.of_ok];rw[aP (by omega)]
theorem yk{f:Pe->M (List T)}{ρ:Pe}{u:List T}(h:f ρ=.ok u):zI f ρ=.ok ([],u):=by simp only[zI,h,M.bind_ok]
theorem qj{fa:Pe->M T}{f:Pe->M (List T×List T)}{ρ:Pe}{x:T}{t u:List T}(ha:fa ρ=.ok x)(h:f ρ=.ok (t,u)):pZ fa f ρ=.ok (x::t,u):=by simp only[pZ,ha,h,M.bind_ok]
theorem AS{k n:Nat}{g:En->O}{ts t u:List T}(hk:ts.length=k)(h:g (eN n ts)=.rn t u):jv k n g ts=.ok (.tup (t++[.lst u])):=by unfold jv;rw[aP hk,h];rfl
theorem zP{k n:Nat}{g:En->O}{ts t u:List T}(hk:ts.length=k)(h:g (eN n ts)=.rn t u):Ez k n g ts=.ok (t,u):=by unfold Ez;rw[aP hk,h];rfl
end L3
namespace CL
open PySem L2 L3
variable {c:Cs}
def nL(so:List Nat):T:=.lst (so.map λ(k:Nat)=>T.int (k:Int))
theorem EI(so:List Nat):nL so=tL (so.map λ(k:Nat)=>(k:Int)):=by unfold nL tL;rw[aH];rfl
theorem yA{α:Type}[Inhabited α](l:List α)(f:α->T)(k:Nat)(w:α)(h:k<l.length):fF (.lst (l.map f)) (.int (k:Int))=.ok (f (l.getD k w)):=by have e:=wZ (l.map f) k (by rw[aw];exact h);rw[cT] at e;show (match lP (l.map f) (k:Int) with | some t=>M.ok t | none=>.bad)=_;rw[e,af,ag h];rfl
theorem uc(k n:Nat)(h:k<n):ib c [.int (k:Int),.int (n:Int)]=.ok (.bl true):=by
 have w:∀i:Int,f9 c [.int i]=.ok (.bl true):=λi=>rfl;refine eV rfl (eK ?_);have h1:(0:Int)<=(k:Int):=by omega
 have h2:(k:Int)<(n:Int):=by omega
 simp[w,h1,h2]
theorem pY(d:Nat)(cs:LL)(so:List Nat)(hs:∀k∈so,k<cs.length)(nd:so.Nodup)(hl:so.length<64):fw c [jo c d cs,nL so]=.ok (.bl true):=by
 have sz:1000<sizeLine:=by decide
 have e1:gS [none,some 0] (fB (dJ 1)) (gM 0) (λ_=>.ok true) (ja c) (vw (eN 2 [jo c d cs,nL so]))=.ok ((so.map λ_=>true).map T.bl):=fX so (λ(k:Nat)=>T.int (k:Int)) (λ_=>T.bl true) rfl (by omega) (λk hk=>⟨_,rfl,rfl,fU rfl (Ea d cs rfl) (uc k _ (hs k hk))⟩) (by rw[aH];rfl)
 refine eV rfl (dS (fg (jB (eT (b:=true) rfl) rfl) rfl) (dS (fg (jB (eT (b:=true) (l5 e1 (by rw[my];simp))) rfl) rfl) (eK ?_)));have h1:A7 (dI (dJ 1) dQ) (vw (eN 2 [jo c d cs,nL so]))=.ok (.int (so.length:Int)):=by
  have:FU [tL (so.map λ(k:Nat)=>(k:Int))]=.ok (.int (so.length:Int)):=by unfold FU tL;simp only[zw];have nd':(so.map λ(k:Nat)=>(k:Int)).Nodup:=df.mpr (nd.imp λq z=>q (by omega));rw[aP (by rw[aw];exact hl),zd nd',aw]
  rw[<-EI] at this;simp only[A7,dI,dQ,M.bind_ok];exact this
 refine dU (y:=.int (so.length:Int)) h1 (ki (t:=nL so) rfl (by simp[nL])) ?_;rw[fH];simp
theorem Il(d:Nat)(hd:d<=3):Js d 92:=⟨by decide,λk hk=>by
 have:k=0\/k=1\/k=2\/k=3:=by omega
 rcases this with rfl | rfl | rfl | rfl<;>decide,aM (uY hd) (by decide)⟩
theorem oa{us:LL}{d B:Nat}{dn:List Nat}{pv:List (Nat×LI)}{rs:LL}{ix:List Nat}(h:PV us d B dn pv rs ix):pv.length+(gy pv d).length=d:=by
 refine dD (zf h) ?_;have:(List.range d).length<=(pv.map Prod.fst++gy pv d).length:=List.Nodup.length_le_of_subset dw λx hx=>by
  have hx:=aR.mp hx;by_cases q:∃p∈pv,p.1=x
  ·obtain⟨p,hp,rfl⟩:=q;exact ax _ (dE hp)
  ·exact bB _ (iy.mpr ⟨hx,λp hp e=>q ⟨p,hp,e⟩⟩)
 rw[cm,aS,aw] at this;exact this
structure Jz(us:LL)(d:Nat)(pv:List (Nat×LI))(rs:LL)(s:List (Int×Int))(W:LL):Prop where
 pvs:∃ix,PV us d 92 (List.range us.length) pv rs ix
 rz:∀r∈rs,vc r d=0
 len:s.length=d
 fq:∀p∈s,Fq p/\Bn 1000 p.2
 wts:wts s<=9000
 on:∀u∈us,ni d (Xs s) (vc u)=0
 ways:∃U:Nat->LI,W=(gy pv d).map U/\∀f∈gy pv d,Wy d pv f (U f)/\∀x∈U f,Bn 4000 x
structure Jp(us:LL)(d:Nat)(ws:LI):Prop where
 len:ws.length=us.length
 bn:∀x∈ws,Bn 8000 x
 zer:∀k,k<d->sm us.length (λi=>vc ws i*vc (us.getD i []) k)=0
 fin:sm us.length (λi=>vc ws i*vc (us.getD i []) d)≠0
def uz(cs:LL)(so:List Nat):LL:=so.map λk=>cs.getD k []
theorem yE(d:Nat)(cs:LL)(hd:1<=d/\d<=3)(h:DE d 92 cs)(so:List Nat)(hs:∀k∈so,k<cs.length)(nd:so.Nodup) :
  (∃ws,l7 c [jo c d cs,nL so]=.ok (.tup [.str "apart",tL ws])/\lx c [jo c d cs,nL so]=.ok ([.str "apart"],ws.map T.int)/\Jp (uz cs so) d ws)\/
  ∃pv rs s W,l7 c [jo c d cs,nL so]=.ok (.tup [.str "met",tS s,.lst (W.map tI)])/\lx c [jo c d cs,nL so]=.ok ([.str "met",tS s],W.map tI)/\Jz (uz cs so) d pv rs s W:=by
 have sz:1000<sizeLine:=by decide
 have sol:so.length<=7:=by have:so.length<=(List.range cs.length).length:=List.Nodup.length_le_of_subset nd λx hx=>aR.mpr (hs x hx);rw[cm] at this;have:=h.few;omega
 have gt:∀k∈so,cs.getD k []∈cs:=λk hk=>by rw[af,ag (hs k hk)];exact aU _
 have ul:(uz cs so).length=so.length:=by simp[uz]
 have hl:∀u∈uz cs so,u.length=d+1:=λu hu=>by obtain⟨k,hk,rfl⟩:=aC.mp hu;exact (h.gc _ (gt k hk)).gl.1
 have hb:∀u∈uz cs so,∀x∈u,Bn 92 x:=λu hu=>by obtain⟨k,hk,rfl⟩:=aC.mp hu;exact (h.gc _ (gt k hk)).gl.2
 generalize hus:uz cs so=us at *;have hn:us.length<=8:=by omega
 have hB:=Il d hd.2;obtain⟨pv,rs,ix,e4,hP,rsl⟩:=xy (c:=c) us d 92 (by omega) hn hl hb hB (List.range us.length) (λz hz=>aR.mp hz) (by rw[cm];exact hn);have ew:=uU (c:=c) us hn (λr hr=>by have:=hl r hr;omega);rw[DQ] at ew;let R (x4 x5 x6:Option W):En:=[some (.p (jo c d cs)),some (.p (nL so)),some (.p (.int (d:Int))),some (.p (.lst (cs.map tI))),x4,x5,x6];let fo:T:=.tup [.lst (pv.map jA),.lst (rs.map tI)];have lc1:gS [none,some 3] (fB (dJ 1)) (gM 0) (λ_=>.ok true) (yC c) (lK (R none none none))=.ok (us.map tI):=fX so (λ(k:Nat)=>T.int (k:Int)) (λk=>tI (cs.getD k [])) rfl (by omega) (λk hk=>⟨_,rfl,rfl,dU (x:=.lst (cs.map tI)) rfl rfl (yA cs tI k [] (hs k hk))⟩) (by rw[<-hus];unfold uz;rw[aH];rfl)
 have rS:∀{o:O},(eh (lO (fB (ed fF (dJ 4) (cM (.int 1)))) (iV 5) (t7 c)) _) (R (some (.p fo)) none none)=o->wc c (eN 7 [jo c d cs,nL so])=o:=λ{o} h=>dS (fg (jB (eT (fU rfl rfl (pY d cs so hs nd (by omega)))) rfl) rfl) (dS (ek (El d cs rfl) rfl) (dS (ρ':=R none none none) (ek (fI (CC d cs rfl)) rfl) (dS (ρ':=R (some (.p fo)) none none) (ek (fU (fI (GY (fI lc1) ew)) rfl e4) rfl) h)))
 have hlr:∀r∈rs,r.length=d+1+us.length:=λr hr=>(hP.rr r hr).1;have main:=sv (m:=iV 5) (g:=t7 c) tI
  (λk ρ=>∃(x5:Option W),ρ=R (some (.p fo)) x5 none/\∀r∈rs.take k,vc r d=0)
  (λt u=>∃r∈rs,vc r d≠0/\t=[.str "apart"]/\u=(r.drop (d+1)).map T.int) rs 0 _ ⟨none,rfl,λr h=>by simp at h⟩ (by
   rintro i r ρ hi ⟨x5,rfl,h⟩;rw[aF] at h ⊢;have hm:=au hi;have hix:fF (tI r) (.int (d:Int))=.ok (.int (vc r d)):=gY r d (by have:=hlr r hm;omega);refine⟨_,rfl,?_⟩;by_cases h0:vc r d=0
   ·left;refine⟨_,fg (eT (dU (dU rfl rfl hix) rfl (by rw[jL,h0];rfl))) rfl,_,rfl,λr' hr'=>?_⟩;rw[iZ _ i r hi] at hr';rcases ai.mp hr' with q | q
    ·exact h r' q
    ·rw[aj.mp q];exact h0
   ·right;exact⟨_,_,gC (eT (dU (dU rfl rfl hix) rfl (by rw[jL];simp[h0]))) (yi (qj rfl (yk (xD (sZ (xg _ d rfl rfl))))) (by simp)),r,hm,h0,rfl,rfl⟩)
 rcases main with⟨ρ,e,x5,rfl,hz⟩ | ⟨t,u,e,r,hm,h0,rfl,rfl⟩
 ·right;rw[aF,cS] at hz;have pq:Pq 92 pv.length<=935:=aM (uY hP.short) (aM (uY hd.2) (by decide));let s0:List (Int×Int):=List.replicate d (0,1);have w0:wts s0<=3:=by
   show wts (List.replicate d (0,1))<=3;have w1:wt (0,1)=1:=by decide
   simp[wts,w1];exact hd.2
  have z0:∀k,s0.getD k (0,1)=(0,1):=λk=>by show (List.replicate d ((0,1):Int×Int)).getD k (0,1)=(0,1);rw[af,List.getElem?_replicate];split<;>rfl
  have pl:∀p∈pv,p.1<d/\p.2.length=d+1+us.length/\vc p.2 p.1≠0/\∀x∈p.2,Bn 936 x:=λp hp=>by obtain⟨h1,h2,h3,h4,-⟩:=hP.pl p hp;exact⟨h1,h2,h3,λx hx=>(h4 x hx).mono (by omega)⟩
  obtain⟨s',q1,q2,q3,q4,q5,q6⟩:=zx (c:=c) d 936 (d+1+us.length) (by omega) (by omega) (by decide) pv s0 (by simp[s0]) 1000 (λp hp=>by rw[a9 hp];exact⟨⟨by decide,by decide⟩,(show Bn 1 (1:Int) by unfold Bn;decide).mono (by decide)⟩) pl hP.pw (λp hp=>z0 p.1) (λ_=>by omega) (λ_=>by omega)
  obtain⟨U,hU⟩:=om (P:=λ(f:Nat) (u:LI)=>iT c [.lst (pv.map jA),.int (d:Int),.int (f:Int)]=.ok (tI u)/\Wy d pv f u/\∀x∈u,Bn (4*936+1) x) (gy pv d) λf hf=>uv (c:=c) d 936 (d+1+us.length) hd.2 (by decide) (by decide) (by omega) pv pl hP.pw f (iy.mp hf).1 (iy.mp hf).2
  have e8:=qB (c:=c) pv d (by omega) (by have:=hP.short;omega);have fl:=oa hP;have e9:iu c [.lst (pv.map jA),.int (d:Int)]=.ok (((gy pv d).map U).map tI):=mR rfl (pN (fX (gy pv d) (λ(k:Nat)=>T.int (k:Int)) (λf=>tI (U f)) (vm (fI (w5 rfl rfl e8))) (by omega) (λf hf=>⟨_,rfl,rfl,iU rfl rfl rfl (hU f hf).1⟩) (by rw[aH];rfl)))
  have body:=rS (dS (iI rfl e) (dS (ρ':=R (some (.p fo)) x5 (some (.p (.lst (pv.map jA))))) (ek (dU rfl rfl rfl) rfl) (yi (t:=[.str "met",tS s']) (qj rfl (qj (fU rfl (EJ d (by omega) rfl) q1) (yk (w5 rfl rfl e9)))) (by simp))));refine⟨pv,rs,s',(gy pv d).map U,AS rfl body,zP rfl body,⟨⟨ix,hP⟩,hz,q2,q3,?_,λu hu=>?_,⟨U,rfl,λf hf=>⟨(hU f hf).2.1,λx hx=>((hU f hf).2.2 x hx).mono (by decide)⟩⟩⟩⟩
  ·have:pv.length*(936+wts s0+20)<=3*(936+3+20):=dk (by have:=hP.short;omega) (by omega);omega
  ·obtain⟨i,hi⟩:=dt.mp hu;have il:=(aa.mp hi).1;have ew':ni d (Xs s') (vc (wr us i))=ni d (Xs s') (vc u):=yW λk hk=>by rw[uT us d i il hl,aP (by omega),yF us i u [] hi]
   rw[<-ew'];refine Qs.evl0 (λx hx=>?_) (hP.sp i (aR.mpr il));rcases hx with⟨p,hp,rfl⟩ | ⟨r,hr,rfl⟩
   ·exact q5 p hp
   ·rw[vy (hP.rr r hr).2.1,hz r hr];simp
 ·left;obtain⟨rl,rz,lin,-,rb⟩:=hP.rr r hm;have vd:∀i,vc (r.drop (d+1)) i=vc r (d+1+i):=λi=>Dj _ _ _;have Ip:∀k,k<=d->sm us.length (λi=>vc (r.drop (d+1)) i*vc (us.getD i []) k)=vc r k:=λk hk=>by rw[lin k hk];exact fP _ _ _ λi _=>by rw[vd]
  have body:=rS (FD (iI rfl e) rfl);refine⟨_,AS rfl body,zP rfl body,by rw[bN];omega,λx hx=>(rb x (List.mem_of_mem_drop hx)).mono (hB.le d (aJ _)),λk hk=>by rw[Ip k (by omega)];exact rz k hk,by rw[Ip d (aJ _)];exact h0⟩
theorem j8(m:Nat)(A u:Vc):jn m A u=jn m u A:=by unfold jn;exact fP _ _ _ λi _=>cA _ _
theorem Qs.lfn0{d:Nat}{v:Vc}{P:Vc->Prop}(h:∀x,P x->jn d v x=0){z:Vc}(q:Qs P z):jn d v z=0:=by
 induction q with
 | of p=>exact h _ p
 | zero=>unfold jn;rw[fP d _ (λ_=>0) λi _=>cO _,lu]
 | lin hx hy hs e i1 i2=>have:=pP (m:=d) (A:=v) e;rw[i1,i2] at this;exact mP hs (by rw[this];simp)
theorem xM{d:Nat}{v:Vc}:∀(n:Nat) (g:Nat->Vc) (t:Vc),(∀i,i<n->jn d v (g i)=0)->jn d v (Lt n g t)=0
 | 0,g,t,_=>by show sm d (λi=>v i*0)=0;rw[fP d _ (λ_=>0) λi _=>cO _,lu]
 | n+1,g,t,h=>by
  have q:=xM n (λj=>g (j+1)) (λj=>t (j+1)) λi hi=>h (i+1) (by omega);have l:=pP (m:=d) (A:=v) (x:=g 0) (y:=Lt n (λj=>g (j+1)) (λj=>t (j+1))) (z:=Lt (n+1) g t) (s:=1) (a:=t 0) (b:=1) (λi=>by show 1*(t 0*g 0 i+sm n λj=>t (j+1)*g (j+1) i)=t 0*g 0 i+1*(sm n λj=>t (j+1)*g (j+1) i);omega)
  rw[q,h 0 (by omega)] at l;simpa using l
theorem qD(n k:Nat)(f:Nat->Int)(hk:k<n)(h:∀i,i<n->i≠k->f i=0):sm n f=f k:=by
 rw[<-wH n k f hk];exact fP _ _ _ λi hi=>by
  by_cases e:i=k
  ·rw[aP e];simp
  ·rw[aQ e,h i hi e];simp
section
variable {us us':LL}{d B B':Nat}{dn dn' ix ix':List Nat}{pv pv':List (Nat×LI)}{rs rs':LL}
theorem PV.off(h:PV us d B dn pv rs ix){p q:Nat×LI}(hp:p∈pv)(hq:q∈pv)(ne:p.1≠q.1):vc p.2 q.1=0:=by
 obtain⟨i,hi⟩:=dt.mp hp;obtain⟨j,hj⟩:=dt.mp hq;have hi':=aa.mp hi;have hj':=aa.mp hj;rcases Nat.lt_trichotomy i j with z | z | z
 ·have:=du.mp h.pw i j hi'.1 hj'.1 z;rw[hi'.2,hj'.2] at this;exact this.2.2
 ·subst z;rw[hi] at hj;cases hj;exact absurd rfl ne
 ·have:=du.mp h.pw j i hj'.1 hi'.1 z;rw[hi'.2,hj'.2] at this;exact this.2.1
theorem PV.null(hl:∀u∈us,u.length=d+1)(h:PV us d B (List.range us.length) pv rs ix){v:Vc}(hv:∀p∈pv,jn d (vc p.2) v=0):∀u∈us,jn d (vc u) v=0:=λu hu=>by
 obtain⟨i,hi⟩:=dt.mp hu;have il:=(aa.mp hi).1;have e:jn d (vc (wr us i)) v=jn d (vc u) v:=fP _ _ _ λk hk=>by rw[uT us d i il hl,aP (by omega),yF us i u [] hi]
 rw[<-e,j8];refine Qs.lfn0 (λx hx=>?_) (h.sp i (aR.mpr il));rcases hx with⟨p,hp,rfl⟩ | ⟨r,hr,rfl⟩
 ·rw[j8];exact hv p hp
 ·show sm d (λi=>v i*vc r i)=0;rw[fP d _ (λ_=>0) λi hi=>by rw[(h.rr r hr).2.1 i hi];exact cO _,lu]
theorem PV.null'(h:PV us d B dn pv rs ix){v:Vc}(hv:∀u∈us,jn d (vc u) v=0):∀p∈pv,jn d (vc p.2) v=0:=λp hp=>by
 have lin:=(h.pl p hp).2.2.2.2.1;have e:jn d (vc p.2) v=jn d (Lt us.length (λi=>vc (us.getD i [])) (λi=>vc p.2 (d+1+i))) v:=fP _ _ _ λk hk=>by rw[lin k (by omega)];rfl
 rw[e,j8];refine xM _ _ _ λi hi=>?_;rw[j8];refine hv _ ?_;rw[af,ag hi];exact aU _
end
theorem Bm:(PyData.str "apart").canLay0=true:=by decide +kernel
theorem Bh:(PyData.str "met").canLay0=true:=by decide +kernel
theorem FO:eG false (.str "apart") (.str "apart")=.ok (.bl true):=by rw[Jv _ _ Bm Bm];congr 2
theorem Bg:∀(st u:LI),st.length<=u.length->((u.zip st).map λp=>p.1*p.2).sum=sm st.length λi=>vc u i*vc st i
 | [],u,_=>by simp[sm]
 | s::st,x::u,h=>by have:=Bg st u (by simpa using h);show x*s+((u.zip st).map λp=>p.1*p.2).sum=vc (x::u) 0*vc (s::st) 0+sm st.length λi=>vc (x::u) (i+1)*vc (s::st) (i+1);rw[this];rfl
 | s::st,[],h=>by simp at h
theorem qk{B:Nat}{u:LI}(h:∀x∈u,Bn B x)(k:Nat):Bn B (vc u k):=by
 by_cases hk:k<u.length
 ·rw[nT u k hk];exact h _ (aU _)
 ·rw[oK u k (by omega)];exact pO
theorem Ab{α:Type}(n:Nat)(f:Nat->α)(k:Nat)(w:α)(h:k<n):((List.range n).map f).getD k w=f k:=by rw[af,av,List.getElem?_range h];rfl
section
variable {d:Nat}{cs:LL}{so:List Nat}
end
structure Rk(d:Nat)(rows:LL)(os:List (Nat×LI)):Prop where
 lt:∀p∈os,p.1<d/\vc p.2 p.1≠0
 pw:os.Pairwise λp q=>p.1<q.1/\vc q.2 p.1=0
 to:∀v:Vc,(∀r∈rows,jn d (vc r) v=0)->∀p∈os,jn d (vc p.2) v=0
 fro:∀v:Vc,(∀p∈os,jn d (vc p.2) v=0)->∀r∈rows,jn d (vc r) v=0
theorem zR{d:Nat}{v:Vc}:∀(os:List (Nat×LI)),(∀p∈os,p.1<d/\vc p.2 p.1≠0)->os.Pairwise (λp q=>p.1<q.1/\vc q.2 p.1=0)->(∀p∈os,jn d (vc p.2) v=0)->(∀i,i∉os.map Prod.fst->v i=0)->∀p∈os,v p.1=0:=λos=>by
 induction h:os.length generalizing os v with
 | zero=>have:os=[]:=dm.mp h;subst this;intro _ _ _ _ p hp;cases hp
 | succ n ih=>
  intro h1 h2 h3 h4;rcases List.eq_nil_or_concat os with e | ⟨l,x,e⟩
  ·subst e;cases h
  ·rw[List.concat_eq_append] at e;subst e;rw[dg] at h2;have hx:x∈l++[x]:=by simp
   have vx:v x.1=0:=by
    have e:=h3 x hx;unfold jn at e;rw[qD d x.1 _ (h1 x hx).1 λi hi ne=>by
     by_cases q:i∈(l++[x]).map Prod.fst
     ·rw[aY,ai] at q;rcases q with q | q
      ·obtain⟨p,hp,rfl⟩:=aC.mp q;rw[(h2.2.2 p hp x (by simp)).2];exact cV _
      ·simp at q;exact absurd q ne
     ·rw[h4 i q];exact cO _] at e
    exact mP (h1 x hx).2 e
   have kG:=ih (v:=v) l (by simpa using h) (λp hp=>h1 p (by simp[hp])) h2.1 (λp hp=>h3 p (by simp[hp])) (λi hi=>by
    by_cases q:i=x.1
    ·rw[q];exact vx
    ·refine h4 i λz=>?_;rw[aY,ai] at z;rcases z with z | z
     ·exact hi z
     ·simp at z;exact q z)
   intro p hp;rcases ai.mp hp with q | q
   ·exact kG p q
   ·rw[aj.mp q];exact vx
section
variable {d:Nat}{rows:LL}{os:List (Nat×LI)}
theorem Rk.most(h:Rk d rows os)(As:List Vc)(ha:∀v:Vc,(∀A∈As,jn d A v=0)->∀r∈rows,jn d (vc r) v=0):os.length<=As.length:=by
 refine bX λhlt=>?_;have nd:(os.map Prod.fst).Nodup:=df.mpr (h.pw.imp λq=>aL q.1);obtain⟨v,⟨j,hj⟩,out,eq⟩:=nk d As (os.map Prod.fst) nd (λt ht=>by obtain⟨p,hp,rfl⟩:=aC.mp ht;exact (h.lt p hp).1) (by rw[aw];exact hlt)
 have z:=zR os h.lt h.pw (h.to v (ha v eq)) out;have hjm:j∈os.map Prod.fst:=aN λz=>hj (out j z);obtain⟨p,hp,rfl⟩:=aC.mp hjm;exact hj (z p hp)
theorem Rk.least(h:Rk d rows os)(T:List Nat)(nd:T.Nodup)(ht:∀t∈T,t<d)(hz:∀v:Vc,(∀i,i∉T->v i=0)->(∀r∈rows,jn d (vc r) v=0)->∀i,v i=0):T.length<=os.length:=by refine bX λhlt=>?_;obtain⟨v,⟨j,hj⟩,out,eq⟩:=nk d (os.map λp=>vc p.2) T nd ht (by rw[aw];exact hlt);exact hj (hz v out (h.fro v λp hp=>eq _ (dE (f:=λp:Nat×LI=>vc p.2) hp)) j)
end
def s9(d k:Nat)(own row:LI):LI:=(List.range d).map λj=>vc own k*vc row j - vc row k*vc own j
theorem xR(d k:Nat)(own row:LI)(j:Nat)(hj:j<d):vc (s9 d k own row) j=vc own k*vc row j - vc row k*vc own j:=by unfold vc s9;rw[Ab _ _ _ _ hj];rfl
theorem uM(d k:Nat)(own row:LI)(v:Vc):jn d (vc (s9 d k own row)) v=vc own k*jn d (vc row) v - vc row k*jn d (vc own) v:=by
 have h:=pP (m:=d) (A:=v) (x:=vc row) (y:=vc own) (z:=λj=>vc own k*vc row j - vc row k*vc own j) (s:=1) (a:=vc own k) (b:=-vc row k) (λi=>by grind);have e:jn d (vc (s9 d k own row)) v=jn d v (λj=>vc own k*vc row j - vc row k*vc own j):=by rw[j8];exact fP _ _ _ λj hj=>by rw[xR d k own row j hj]
 rw[e,j8 d (vc row),j8 d (vc own)];grind
def Br:Nat->Nat->Nat
 | B,0=>B
 | B,k+1=>2*Br B k+1
theorem C5(B k:Nat):Br B k<=Br B (k+1):=by show _<=2*Br B k+1;omega
theorem Hs(B k:Nat)(hk:k<=3):Br B k<=8*B+7:=by
 have:k=0\/k=1\/k=2\/k=3:=by omega
 rcases this with rfl | rfl | rfl | rfl<;>simp[Br]<;>omega
theorem nS(d B:Nat)(hd:d<=3)(hB:B<=8000)(rows:LL)(hn:rows.length<=10)(hl:∀r∈rows,r.length=d/\∀x∈r,Bn B x):∃os,jD c [.lst (rows.map tI),.int (d:Int)]=.ok (.int (os.length:Int))/\Rk d rows os:=by
 have sz:1000<sizeLine:=by decide
 let R (rs:LL) (n:Nat) (x3 x4 x5 x6:Option W):En:=[some (.p (.lst (rs.map tL))),some (.p (.int (d:Int))),some (.p (.int (n:Int))),x3,x4,x5,x6];obtain⟨ρ,e,rs,os,x3,x4,x5,x6,rfl,k1,k2,k3,k4,k5,k6,k7⟩:=gG (m:=iV 3) (g:=oQ c) (λ(k:Nat)=>T.int (k:Int))
  (λk ρ=>∃(rs:LL) (os:List (Nat×LI)) (x3 x4 x5 x6:Option W),ρ=R rs os.length x3 x4 x5 x6/\(rs.length<=10/\∀r∈rs,r.length=d/\∀x∈r,Bn (Br B k) x)/\(∀p∈os,p.1<k)/\(∀p∈os,p.1<d/\vc p.2 p.1≠0)/\os.Pairwise (λp q=>p.1<q.1/\vc q.2 p.1=0)/\(∀r∈rs,∀i,i<k->vc r i=0)/\
   (∀v:Vc,(∀r∈rows,jn d (vc r) v=0)->(∀p∈os,jn d (vc p.2) v=0)/\∀r∈rs,jn d (vc r) v=0)/\∀v:Vc,(∀p∈os,jn d (vc p.2) v=0)->(∀r∈rs,jn d (vc r) v=0)->∀r∈rows,jn d (vc r) v=0)
  (List.range d) 0 (R rows 0 none none none none) ⟨rows,[],none,none,none,none,rfl,⟨hn,hl⟩,(λp hp=>nomatch hp),(λp hp=>nomatch hp),List.Pairwise.nil,(λr hr i hi=>absurd hi (cF _)),(λv h=>⟨(λp hp=>nomatch hp),h⟩),λv _ h=>h⟩ (by
   rintro k k' ρ hk ⟨rs,os,x3,x4,x5,x6,rfl,⟨k0,k1⟩,k2,k3,k4,k5,k6,k7⟩;rw[aF] at k1 k2 k5 ⊢;obtain⟨il,ik⟩:=aa.mp hk;rw[dF] at ik;subst ik;rw[cm] at il;let y3:Option W:=some (.p (.int (k:Int)));let sm:=rs.filter λr=>!(vc r k == 0);have ixr:∀r∈rs,∀j,j<d->fF (tL r) (.int (j:Int))=.ok (.int (vc r j)):=λr hr j hj=>pU r j (by rw[(k1 r hr).1];exact hj);have s4:gS [none,some 3] (fB (dJ 0)) (gM 0) (fz (ed (eG true) (ed fF (dJ 0) (dJ 1)) (cM (.int 0)))) (pB c) (lK (R rs os.length y3 x4 x5 x6))=.ok (sm.map tL):=mV rs tL tL (λr=>!(vc r k == 0)) rfl (by omega) (λr hr=>⟨_,rfl,eT (dU (dU rfl rfl (ixr r hr k il)) rfl (jL _ _)),λ_=>rfl⟩) rfl
   let y4:Option W:=some (.p (.lst (sm.map tL)));have bm:=C5 B k;have nnil:eG true (.lst (sm.map tL)) (.lst [])=.ok (.bl (!decide (sm=[]))):=by
    have lay1:lN (sm.map tL)=true:=lQ _ _ λa _=>yZ a;have dep1:nV (sm.map tL)<=1:=mh _ _ _ λa _=>by show nV (a.map T.int)+1<=1;have:=oj a;omega
    unfold eG;have h1:j9 (.lst (sm.map tL))=true:=lay1;have h2:j9 (.lst [])=true:=rfl;have h3:vU (.lst (sm.map tL))<=100:=by show nV _+1<=100;omega
    rw[h1,h2,aB h3];simp only[Bool.and_self,if_true];cases hsm:sm with
    | nil=>rfl
    | cons a l=>rfl
   by_cases hs:sm=[]
   ·refine⟨_,_,rfl,.inl (dS (ρ':=R rs os.length y3 y4 x5 x6) (ek (fI s4) rfl) (fg (eT (dU (x:=.lst (sm.map tL)) (y:=.lst []) rfl rfl (by rw[nnil,hs];rfl))) rfl)),rs,os,y3,y4,x5,x6,rfl,⟨k0,λr hr=>⟨(k1 r hr).1,λx hx=>((k1 r hr).2 x hx).mono bm⟩⟩,λp hp=>b5 (k2 p hp),k3,k4,λr hr i hi=>?_,k6,k7⟩;by_cases q:i<k
    ·exact k5 r hr i q
    ·have e:i=k:=by omega
     subst e;refine aN λz=>?_;have:r∈sm:=aT.mpr ⟨hr,by simp[z]⟩;rw[hs] at this;cases this
   ·obtain⟨own,l,hol⟩:∃own l,sm=own::l:=by
     cases hsm:sm with
     | nil=>exact absurd hsm hs
     | cons a l=>exact⟨a,l,rfl⟩
    have hom:own∈rs/\vc own k≠0:=by
     have:own∈sm:=by rw[hol];simp
     have:=aT.mp this;exact⟨this.1,by simpa using this.2⟩
    let re:=rs.filter λr=>!decide (r=own);let nw:=re.map (s9 d k own);let y5:Option W:=some (.p (tL own));let y6:Option W:=some (.p (.lst (re.map tL)));have s6:gS [none,some 5] (fB (dJ 0)) (gM 0) (fz (ed (eG true) (dJ 0) (dJ 1))) (oW c) (lK (R rs (os.length+1) y3 y4 y5 x6))=.ok (re.map tL):=mV rs tL tL (λr=>!decide (r=own)) rfl (by omega) (λr hr=>⟨_,rfl,eT (dU (x:=tL r) (y:=tL own) rfl rfl (by unfold tL;rw[tw];rfl)),λ_=>rfl⟩) rfl
    have rel:re.length<=10:=aM (List.length_filter_le _ _) k0;have ino:∀j,j<d->fF (tL own) (.int (j:Int))=.ok (.int (vc own j)):=ixr own hom.1;have b8:Br B k<=80000:=by have:=Hs B k (by omega);omega
    have s0:gS [none,some 1,some 5,some 3] (fB (dJ 6)) (gM 0) (λ_=>.ok true) (oT c) (lK (R rs (os.length+1) y3 y4 y5 y6))=.ok (nw.map tL):=by refine fX re tL (λr=>tL (s9 d k own r)) rfl (by omega) (λr hr=>⟨_,rfl,rfl,?_⟩) (by rw[aH];rfl);have hr':=(aT.mp hr).1;refine fI (fX (List.range d) (λ(j:Nat)=>T.int (j:Int)) (λj=>T.int (vc own k*vc r j - vc r k*vc own j)) (lr d (by omega) rfl) (by rw[cm];omega) (λj hj=>⟨_,rfl,rfl,?_⟩) (by unfold s9;rw[aH];rfl));have hj:=aR.mp hj;have bo:=λi=>qk (k1 own hom.1).2 i;have br:=λi=>qk (k1 r hr').2 i;exact dU (dU (dU rfl rfl (ino k il)) (dU rfl rfl (ixr r hr' j hj)) (fE ((bo k).ok (br j) (by omega) (by omega)))) (dU (dU rfl rfl (ixr r hr' k il)) (dU rfl rfl (ino j hj)) (fE ((br k).ok (bo j) (by omega) (by omega)))) (lZ _ _)
    refine⟨_,_,rfl,.inl (dS (ρ':=R rs os.length y3 y4 x5 x6) (ek (fI s4) rfl) (gC (eT (dU (x:=.lst (sm.map tL)) (y:=.lst []) rfl rfl (by rw[nnil];simp[hs]))) (dS (ρ':=R rs os.length y3 y4 y5 x6) (ek (dU (x:=.lst (sm.map tL)) rfl rfl (by rw[hol,bD];exact ES _ _)) rfl) (dS (ρ':=R rs (os.length+1) y3 y4 y5 x6) (ek (dU rfl rfl (gH _ _)) rfl) (dS (ρ':=R rs (os.length+1) y3 y4 y5 y6) (ek (fI s6) rfl) (ek (fI s0) ?_)))))),nw,os++[(k,own)],y3,y4,y5,y6,rfl,⟨by rw[aw];exact rel,λr hr=>?_⟩,λp hp=>?_,λp hp=>?_,?_,λr hr i hi=>?_,λv hv=>?_,λv hv hr r hr'=>?_⟩
    ·simp[R]
    ·obtain⟨r',hr',rfl⟩:=aC.mp hr;have hm:=(aT.mp hr').1;refine⟨by unfold s9;simp,λx hx=>?_⟩;obtain⟨j,hj,rfl⟩:=aC.mp hx;exact (((qk (k1 own hom.1).2 k).mul (qk (k1 r' hm).2 j)).sub ((qk (k1 r' hm).2 k).mul (qk (k1 own hom.1).2 j))).mono (by show _<=2*Br B k+1;omega)
    ·rcases ai.mp hp with q | q
     ·exact b5 (k2 p q)
     ·rw[aj.mp q];exact bE _
    ·rcases ai.mp hp with q | q
     ·exact k3 p q
     ·rw[aj.mp q];exact⟨il,hom.2⟩
    ·rw[dg];refine⟨k4,dh _ _,λp hp q hq=>?_⟩;rw[aj.mp hq];exact⟨k2 p hp,k5 own hom.1 p.1 (k2 p hp)⟩
    ·obtain⟨r',hr',rfl⟩:=aC.mp hr;have hm:=(aT.mp hr').1;rw[xR d k own r' i (by omega)];by_cases q:i<k
     ·rw[k5 r' hm i q,k5 own hom.1 i q];simp
     ·have e:i=k:=by omega
      subst e;rw[cA];omega
    ·obtain⟨a,b⟩:=k6 v hv;refine⟨λp hp=>?_,λr hr=>?_⟩
     ·rcases ai.mp hp with q | q
      ·exact a p q
      ·rw[aj.mp q];exact b own hom.1
     ·obtain⟨r',hr',rfl⟩:=aC.mp hr;rw[uM,b r' (aT.mp hr').1,b own hom.1];simp
    ·have vo:jn d (vc own) v=0:=hv (k,own) (by simp);refine k7 v (λp hp=>hv p (by simp[hp])) (λr2 hr2=>?_) r hr';by_cases q:r2=own
     ·rw[q];exact vo
     ·have:=hr _ (dE (f:=s9 d k own) (aT.mpr ⟨hr2,by simp[q]⟩:r2∈re));rw[uM,vo,cO,Int.sub_zero] at this;exact mP hom.2 this)
 rw[aF,cm] at k5;have l1:gS [none] (fB (dJ 0)) (gM 0) (λ_=>.ok true) (pj c) (lK (eN 7 [.lst (rows.map tI),.int (d:Int)]))=.ok (rows.map tL):=fX rows tI tL rfl (by omega) (λr hr=>⟨_,rfl,rfl,sZ rfl⟩) rfl
 refine⟨os,eV rfl (dS (ρ':=[some (.p (.lst (rows.map tL))),some (.p (.int (d:Int))),none,none,none,none,none]) (ek (fI l1) rfl) (dS (ρ':=R rows 0 none none none none) (ek rfl rfl) (dS (kj (lr d (by omega) rfl) e) (eK rfl)))),k3,k4,λv hv=>(k6 v hv).1,λv hv=>k7 v hv λr hr=>?_⟩;show sm d (λi=>vc r i*v i)=0;rw[fP d _ (λ_=>0) λi hi=>by rw[k5 r hr i hi];exact cV _,lu]
theorem nF{fa fb:Pe->M T}{ρ:Pe}{t:T}(h:fa ρ=.ok (.bl true))(h2:fb ρ=.ok t):ng fa fb ρ=.ok t:=by simp only[ng,fz,h,M.bind_ok,h2,if_true]
theorem Bq:jb c=qi c:=rfl
theorem E2(n a b:Nat)(f:Nat->Int)(ha:a<n)(hb:b<n)(hab:a≠b)(h:∀i,i<n->i≠a->i≠b->f i=0):sm n f=f a+f b:=by
 have e:=Fi n (λi=>if i=a then f i else 0) (λi=>if i=a then 0 else f i);have e0:sm n (λi=>(if i=a then f i else 0)+(if i=a then 0 else f i))=sm n f:=fP _ _ _ λi _=>by
  by_cases q:i=a
  ·rw[aP q,aP q];omega
  ·rw[aQ q,aQ q];omega
 have h1:sm n (λi=>if i=a then f i else 0)=f a:=(qD n a (λi=>if i=a then f i else 0) ha λi _ q=>aQ q).trans (aP rfl);have h2:sm n (λi=>if i=a then 0 else f i)=f b:=(qD n b (λi=>if i=a then 0 else f i) hb λi hi q=>by
  by_cases z:i=a
  ·exact aP z
  ·exact (aQ z).trans (h i hi z q)).trans (aQ (Ne.symm hab))
 rw[<-e0,e,h1,h2]
section
variable {us:LL}{d B:Nat}{dn ix:List Nat}{pv:List (Nat×LI)}{rs:LL}{f:Nat}{w:LI}
theorem Wy.along(h:PV us d B dn pv rs ix)(hf:f∈gy pv d)(hw:Wy d pv f w):∀p∈pv,jn d (vc p.2) (vc w)=0:=λp hp=>by
 obtain⟨fd,fp⟩:=iy.mp hf;unfold jn;rw[E2 d p.1 f _ (h.pl p hp).1 fd (fp p hp) λi hi n1 n2=>by
  by_cases q:∃q∈pv,q.1=i
  ·obtain⟨q,hq,rfl⟩:=q;rw[h.off hp hq (Ne.symm n1)];exact cV _
  ·rw[hw.oth i hi n2 λq' hq' e=>q ⟨q',hq',e⟩];exact cO _]
 have:=hw.piv p hp;omega
theorem Cf(h:PV us d B dn pv rs ix){v:Vc}(out:∀i,i∉pv.map Prod.fst->v i=0)(hv:∀p∈pv,jn d (vc p.2) v=0)(i:Nat):v i=0:=by
 by_cases q:i∈pv.map Prod.fst
 ·obtain⟨p,hp,rfl⟩:=aC.mp q;have e:=hv p hp;unfold jn at e;rw[qD d p.1 _ (h.pl p hp).1 λi hi ne=>by
   by_cases q:i∈pv.map Prod.fst
   ·obtain⟨q,hq,rfl⟩:=aC.mp q;rw[h.off hp hq (Ne.symm ne)];exact cV _
   ·rw[out i q];exact cO _] at e
  exact mP (h.pl p hp).2.2.1 e
 ·exact out i q
end
theorem uD(d:Nat)(u:LI)(v:Vc):jn d (vc (u.take d)) v=jn d (vc u) v:=fP _ _ _ λi hi=>by unfold vc;rw[af,List.getElem?_take_of_lt hi,<-af]
theorem vL{α:Type}{l:List α}{p:α->Bool}(h:∀a∈l,p a=false):l.filter p=[]:=List.filter_eq_nil_iff.mpr λa ha=>by rw[h a ha];decide
theorem yp:eG true (.lst []) (.lst [])=.ok (.bl false):=rfl
theorem wL(d:Nat)(hd:1<=d/\d<=3)(us:LL)(hu:us.length<=7)(hg:∀u∈us,GL d 92 u){pv:List (Nat×LI)}{rs:LL}{s:List (Int×Int)}{W:LL}(m:Jz us d pv rs s W) :
  kH c [.tup [.str "met",tS s,.lst (W.map tI)],.lst (us.map tI),.int (d:Int)]=.ok (.bl true):=by
 have sz:1000<sizeLine:=by decide
 obtain⟨ix,hP⟩:=m.pvs;obtain⟨U,rfl,hU⟩:=m.ways;have fl:=oa hP;have hul:∀u∈us,u.length=d+1:=λu hu=>(hg u hu).1;let R (x3 x4:Option W):En:=[some (.p (.tup [.str "met",tS s,.lst (((gy pv d).map U).map tI)])),some (.p (.lst (us.map tI))),some (.p (.int (d:Int))),x3,x4];have i1:∀x3 x4,ed fF (dJ 0) (cM (.int 1)) (vw (R x3 x4))=.ok (tS s):=λ_ _=>rfl;have c1:(L3.nj (L3.gK (fz (dX (dI (ed fF (dJ 0) (cM (.int 1))) (dI (dJ 2) dQ)) (gX c)))) (L3.gK (fz (j4 "list" (ed fF (dJ 0) (cM (.int 2))))))) (vw (R none none))=.ok false:=Ba (jB (eT (fU rfl rfl (za d s m.len hd.2 λp hp=>(m.fq p hp).1))) rfl) (jB (b:=true) (eT rfl) rfl)
 have l2:gS [none,some 0] (fB (dJ 1)) (gM 0) (fz (ed (eG true) (dX (dI (dJ 0) (dI (ed fF (dJ 1) (cM (.int 1))) dQ)) (iC c)) (cM (.int 0)))) (q8 c) (vw (R none none))=.ok []:=mV us tI tI (λu=>!(IF (ni d (Xs s) (vc u)) == 0)) rfl (by omega) (λu hu=>⟨_,rfl,eT (dU (fU (y:=tS s) rfl rfl (A1 (by decide:92<=900) d u (hg u hu) hd.2 s m.len (λp hp=>(m.fq p hp).1) (aM m.wts (by decide)))) rfl (jL _ _)),λ_=>rfl⟩) (by rw[vL λu hu=>by rw[m.on u hu];rfl];rfl)
 obtain⟨ρ,e,x3,rfl⟩:=oq (m:=iV 3) (g:=qG c) (λf=>tI (U f)) (λρ=>∃x3:Option W,ρ=R x3 none) (gy pv d) (R none none) ⟨none,rfl⟩ (by
  rintro f hf ρ ⟨x3,rfl⟩;obtain⟨wy,wb⟩:=hU f hf;let y3:Option W:=some (.p (tI (U f)));have al:=PV.null hul hP (wy.along hP hf);have c2:(L3.nj (L3.gK (fz (j4 "tuple" (dJ 3)))) (L3.gK (fz (dX (dI (fK (vS jh (dI (dJ 3) dQ))) (dI (dJ 2) dQ)) (fO c))))) (vw (R y3 none))=.ok false:=Ba (jB (b:=true) (eT rfl) rfl) (jB (eT (fU (sZ (ys:=U f) rfl) rfl (qU d (U f) wy.len (by omega)))) rfl)
  have l3:gS [none,some 3] (fB (dJ 1)) (gM 0) (fz (ed (eG true) (h8 ur (dI (fK (gS [none,none] (mn (dI (dJ 0) (dI (dJ 1) dQ))) (nh 2 (gz (gM 0) (gz (gM 1) mZ))) (λ_=>.ok true) (qh c))) dQ)) (cM (.int 0)))) (qr c) (vw (R y3 none))=.ok []:=mV us tI tI (λu=>!(((u.zip (U f)).map λp=>p.1*p.2).sum == 0)) rfl (by omega) (λu hu=>⟨_,rfl,eT (dU (l5 (fX (u.zip (U f)) (λp=>T.tup [.int p.1,.int p.2]) (λp=>T.int (p.1*p.2)) (m6 rfl rfl rfl rfl) (by rw[dz,hul u hu];omega) (λp hp=>⟨_,rfl,rfl,dU rfl rfl (fE (((hg u hu).2 _ (aV hp).1).ok (wb _ (aV hp).2) (by omega) (by omega)))⟩) (aH ..).symm) (xB _)) rfl (jL _ _)),λ_=>rfl⟩) (by rw[vL λu hu=>by rw[Bg (U f) u (by rw[wy.len,hul u hu];omega),wy.len];have:(sm d λi=>vc u i*vc (U f) i)=0:=al u hu;rw[this];rfl];rfl)
  exact⟨_,_,rfl,.inl (dS (fg c2 rfl) (fg (eT (dU (fI l3) rfl yp)) rfl)),y3,rfl⟩)
 obtain⟨o1,r1,K1⟩:=nS (c:=c) d 92 hd.2 (by decide) (us.map λu=>u.take d) (by rw[aw];omega) (λr hr=>by obtain⟨u,hu,rfl⟩:=aC.mp hr;exact⟨by rw[bK,hul u hu];omega,λx hx=>(hg u hu).2 x (dA hx)⟩)
 obtain⟨o2,r2,K2⟩:=nS (c:=c) d 4000 hd.2 (by decide) ((gy pv d).map U) (by rw[aw];omega) (λr hr=>by obtain⟨f,hf,rfl⟩:=aC.mp hr;exact⟨(hU f hf).1.len,(hU f hf).2⟩)
 have n1:o1.length=pv.length:=by
  refine dD ?_ ?_
  ·have:=K1.most (pv.map λp=>vc p.2) λv hv r hr=>by obtain⟨u,hu,rfl⟩:=aC.mp hr;rw[uD];exact PV.null hul hP (λp hp=>hv _ (dE (f:=λp:Nat×LI=>vc p.2) hp)) u hu
   rwa [aw] at this
  ·have:=K1.least (pv.map Prod.fst) (df.mpr (hP.pw.imp λq=>q.1)) (λt ht=>by obtain⟨p,hp,rfl⟩:=aC.mp ht;exact (hP.pl p hp).1) λv out hv=>Cf hP out (PV.null' hP λu hu=>by rw[<-uD];exact hv _ (dE (f:=λu:LI=>u.take d) hu))
   rwa [aw] at this
 have n2:o2.length=(gy pv d).length:=by
  refine dD ?_ ?_
  ·have:=K2.most (((gy pv d).map U).map vc) λv hv r hr=>hv _ (dE hr);rwa [aw,aw] at this
  ·refine K2.least (gy pv d) (uN pv d) (λt ht=>(iy.mp ht).1) λv out hv i=>?_;by_cases q:i∈gy pv d
   ·have e:=hv _ (dE (f:=U) q);unfold jn at e;rw[qD d i _ (iy.mp q).1 λj hj ne=>by
     by_cases z:j∈gy pv d
     ·rw[(hU i q).1.oth j hj ne (iy.mp z).2];exact cV _
     ·rw[out j z];exact cO _] at e
    have:=(hU i q).1.pos;exact mP (by omega) e
   ·exact out i q
 let y4:Option W:=some (.p (.int (o1.length:Int)));have l4:gS [none,some 2] (fB (dJ 1)) (gM 0) (λ_=>.ok true) (qw c) (lK (R x3 none))=.ok ((us.map λu=>u.take d).map tI):=fX us tI (λu=>tI (u.take d)) rfl (by omega) (λu hu=>⟨_,rfl,rfl,by refine Eq.trans (qK (ts:=u.map T.int) rfl rfl (by rw[aw,hul u hu];omega)) ?_;rw[<-cE];rfl⟩) (by rw[aH];rfl)
 have en:fB (ed fF (dJ 0) (cM (.int 2))) (lK (R none none))=.ok ((gy pv d).map λf=>tI (U f)):=by show M.ok (((gy pv d).map U).map tI)=_;rw[aH];rfl
 have lw:∀x4,h8 gP (dI (ed fF (dJ 0) (cM (.int 2))) dQ) (vw (R x3 x4))=.ok (.int ((gy pv d).length:Int)):=λx4=>ki (t:=.lst (((gy pv d).map U).map tI)) rfl (by simp);exact eV rfl (dS (fg c1 rfl) (dS (fg (eT (dU (fI l2) rfl yp)) rfl) (dS (iI en e) (dS (ρ':=R x3 y4) (ek (fU (fI l4) rfl r1) rfl) (eK (nF (dU (lw y4) (dU (x:=.int (d:Int)) (y:=.int (o1.length:Int)) rfl rfl (lZ _ _)) (by rw[fH,n1];simp;omega)) (dU (fU (x:=.lst (((gy pv d).map U).map tI)) rfl rfl r2) (lw y4) (by rw[fH,n2];simp))))))))
theorem uk(d:Nat)(hd:1<=d/\d<=3)(us:LL)(hu:us.length<=7)(hg:∀u∈us,GL d 92 u){ws:LI}(a:Jp us d ws) :
  jM c [.tup [.str "apart",tL ws],.lst (us.map tI),.int (d:Int)]=.ok (.bl true):=by
 have sz:1000<sizeLine:=by decide
 have wl:=a.len;let R (x3:Option W):En:=[some (.p (.tup [.str "apart",tL ws])),some (.p (.lst (us.map tI))),some (.p (.int (d:Int))),x3];let xt:Option W:=some (.p (.lst (((List.range (d+1)).map (B8 us ws)).map T.int)));have c1:L3.gK (fz (dX (dI (ed fF (dJ 0) (cM (.int 1))) (dI (h8 gP (dI (dJ 1) dQ)) dQ)) (fO c))) (vw (R none))=.ok false:=jB (eT (fU (x:=tL ws) (y:=.int (us.length:Int)) rfl (ki rfl (by simp)) (qU us.length ws wl (by omega)))) rfl
 have e6:gS [none,some 1,some 0] (iM (dI (ed gR (dJ 2) (cM (.int 1))) dQ)) (gM 0) (λ_=>.ok true) (ny c) (lK (R none))=.ok (((List.range (d+1)).map (B8 us ws)).map T.int):=by
  refine fX (List.range (d+1)) (λ(k:Nat)=>T.int (k:Int)) (λk=>T.int (B8 us ws k)) (lr (d+1) (by omega) (dU rfl rfl (by rw[gH];simp))) (by simp;omega) (λk hk=>⟨_,rfl,rfl,?_⟩) (by rw[aH];rfl);have hk':=aR.mp hk;have e7:gS [none,none,some 0] (mn (dI (ed fF (dJ 2) (cM (.int 1))) (dI (dJ 1) dQ))) (nh 2 (gz (gM 0) (gz (gM 1) mZ))) (λ_=>.ok true) (nt c) [some (.int (k:Int)),some (.lst (us.map tI)),some (.tup [.str "apart",tL ws])]=.ok (((ws.zip us).map λp=>p.1*vc p.2 k).map T.int):=fX (ws.zip us) (λp=>T.tup [.int p.1,tI p.2]) (λp=>T.int (p.1*vc p.2 k)) (m6 (x:=tL ws) rfl rfl rfl rfl) (by rw[dz];omega) (λp hp=>⟨_,rfl,rfl,dU rfl (dU rfl rfl (gY p.2 k (by rw[(hg _ (aV hp).2).1];omega))) (fE ((a.bn _ (aV hp).1).ok (qk (hg _ (aV hp).2).2 k) (by omega) (by decide)))⟩) (by rw[aH];rfl)
  exact l5 e7 (xB _)
 have tt:∀k,B8 us ws k=sm us.length (λi=>vc ws i*vc (us.getD i []) k):=λk=>AH k ws us wl;have tk:((List.range (d+1)).map (B8 us ws)).take d=List.replicate d 0:=by
  apply List.ext_getElem
  ·simp
  ·intro i h1 h2;simp at h1 h2;rw[List.getElem_take,cT,dF,List.getElem_replicate,tt i];exact a.zer i (by omega)
 have e8:lj (dJ 3) (λ_=>.ok none) (jd (dJ 2)) (vw (R xt))=.ok (.lst ((List.replicate d (0:Int)).map T.int)):=by refine Eq.trans (rY (ts:=((List.range (d+1)).map (B8 us ws)).map T.int) (d:=d) rfl rfl) ?_;rw[<-cE,tk]
 exact eV rfl (dS (fg c1 rfl) (dS (ρ':=R xt) (ek (fI e6) rfl) (eK (nF (dU e8 (BJ d (by omega) rfl) (by rw[tw];simp)) (dU (dU rfl rfl (C7 us ws d)) rfl (by have f:=a.fin;rw[jL,tt d];generalize (sm us.length λi=>vc ws i*vc (us.getD i []) d)=z at f ⊢;simp[f]))))))
theorem Co:eG false (.str "met") (.str "met")=.ok (.bl true):=by rw[Jv _ _ Bh Bh];congr 2
theorem tK(d:Nat)(cs:LL)(hd:1<=d/\d<=3)(h:DE d 92 cs)(so:List Nat)(hs:∀k∈so,k<cs.length)(nd:so.Nodup):ia c [jo c d cs,.lst (cs.map tI),.int (d:Int),nL so]=.ok (.bl true):=by
 have sz:1000<sizeLine:=by decide
 have sol:so.length<=7:=by have:so.length<=(List.range cs.length).length:=List.Nodup.length_le_of_subset nd λx hx=>aR.mpr (hs x hx);rw[cm] at this;have:=h.few;omega
 have hg:∀u∈uz cs so,GL d 92 u:=λu hu=>by obtain⟨k,hk,rfl⟩:=aC.mp hu;rw[af,ag (hs k hk)];exact (h.gc _ (aU _)).gl
 have ul:(uz cs so).length<=7:=by unfold uz;rw[aw];exact sol
 let R (x5 x6:Option W):En:=[some (.p (jo c d cs)),some (.p (.lst (cs.map tI))),some (.p (.int (d:Int))),some (.p (nL so)),some (.p (nL so)),x5,x6];let y6:Option W:=some (.p (.lst ((uz cs so).map tI)));have l6:∀x5,gS [none,some 1] (fB (dJ 3)) (gM 0) (λ_=>.ok true) (nP c) (lK (R x5 none))=.ok ((uz cs so).map tI):=λx5=>fX so (λ(k:Nat)=>T.int (k:Int)) (λk=>tI (cs.getD k [])) rfl (by omega) (λk hk=>⟨_,rfl,rfl,dU (x:=.lst (cs.map tI)) rfl rfl (yA cs tI k [] (hs k hk))⟩) (by unfold uz;rw[aH];rfl)
 have eqn:eG true (nL so) (nL so)=.ok (.bl false):=by rw[EI];unfold tL;rw[tw];simp
 have rS:∀(t:T) {o:O},l7 c [jo c d cs,nL so]=.ok t->AI "tuple" t=.ok (.bl true)->(eh (jF (L3.nv (fz (ed (eG false) (h8 gP (dI (dJ 5) dQ)) (cM (.int 3)))) (fz (ed (eG false) (ed fF (dJ 5) (cM (.int 0))) (cM (.str "met"))))) _ _) _) (R (some (.p t)) y6)=o->oR c (eN 7 [jo c d cs,.lst (cs.map tI),.int (d:Int),nL so])=o:=λt {o} em ht h=>dS (ρ':=R none none) (ek (t:=nL so) rfl rfl) (dS (ρ':=R (some (.p t)) none) (ek (fU rfl rfl em) rfl) (dS (ρ':=R (some (.p t)) y6) (ek (fI (l6 _)) rfl) (dS (fg (Ba (eT (dU (x:=nL so) (y:=nL so) rfl rfl eqn)) (jB (b:=true) (eT (by show AI "tuple" t=_;exact ht)) rfl)) rfl) h)))
 rcases yE (c:=c) d cs hd h so hs nd with⟨ws,e,-,a⟩ | ⟨pv,rs,s,W,e,-,m⟩
 ·refine eV rfl (rS _ e rfl (dS (fg (FL (eT (dU (x:=.int 2) (ki (t:=.tup [.str "apart",tL ws]) rfl rfl) rfl (by rw[fH];rfl)))) rfl) (eK (nF (dU (x:=.int 2) (ki (t:=.tup [.str "apart",tL ws]) rfl rfl) rfl (by rw[fH];rfl)) (nF (dU (dU rfl rfl rfl) rfl FO) (iU rfl rfl rfl (uk d hd (uz cs so) ul hg a)))))))
 ·refine eV rfl (rS _ e rfl (j3 (gC (Gg (eT (dU (x:=.int 3) (ki (t:=.tup [.str "met",tS s,.lst (W.map tI)]) rfl rfl) rfl (by rw[fH];rfl))) (eT (dU (dU rfl rfl rfl) rfl Co))) (eK (iU rfl rfl rfl (wL d hd (uz cs so) ul hg m)))) rfl))
theorem De{i j:Nat}{ρ ρ':En}{fk:Pe->M T}{ts us:List T}{k:Nat}{y:T}(h1:ρ[i]? = some (some (.o ts)))(h2:ρ[j]? = some (some (.o us)))(hk:fk (vw ρ)=.ok (.int (k:Int)))(hy:us[k]? = some y)(k1:k<1000)(ij:i≠j)(hz:ts.length<sizeLine)(hr:ρ'=(ρ.set j (some (.o (us.eraseIdx k)))).set i (some (.o (ts++[y])))):sD i j (kJ fk) ρ=.nx ρ':=by
 unfold sD i8 kJ;rw[h1,h2,hk];have k0:(0:Int)<=(k:Int):=by omega
 have k2:(k:Int)<1000:=by omega
 have tn:(k:Int).toNat=k:=by omega
 simp[k0,k2,ij,hz,hy,hr]
theorem An{α β:Type}(f:α->β):∀(l:List α) (k:Nat),(l.map f).eraseIdx k=(l.eraseIdx k).map f
 | [],_=>rfl
 | _::_,0=>rfl
 | a::l,k+1=>by show f a::(l.map f).eraseIdx k=f a::(l.eraseIdx k).map f;rw[An f l k]
theorem yb{α:Type}:∀(l:List α) (q:Nat) (h:q<l.length),(l[q]::l.eraseIdx q).Perm l
 | _::_,0,_=>List.Perm.refl _
 | a::l,q+1,h=>((List.Perm.swap a _ _).trans ((yb l q (by simpa using h)).cons a))
theorem rD(cell:Int)(n:Nat)(hn:n<=7):∃so:List Nat,iD c [.int cell,.int (n:Int)]=.ok (so.map λ(k:Nat)=>T.int (k:Int))/\so.Nodup/\∀k∈so,k<n:=by
 have sz:1000<sizeLine:=by decide
 obtain⟨d0,d0a,d0b⟩:=hC (c:=c) cell 0 ((n:Int)+1) (by omega) (by omega) (by decide) (by decide);obtain⟨m,hm⟩:∃m:Nat,dr c cell 0 ((n:Int)+1)=(m:Int):=⟨_,(cL d0a).symm⟩;let nI (k:Nat):T:=.int (k:Int);let R (la fo:List Nat) (x4:Option W):En:=[some (.p (.int cell)),some (.p (.int (n:Int))),some (.o (la.map nI)),some (.o (fo.map nI)),x4];obtain⟨ρ,e,la,fo,x4,rfl,hl,hp⟩:=gG (m:=iV 4) (g:=mD c) (λ(k:Nat)=>T.int (k:Int))
  (λi ρ=>∃(la fo:List Nat) (x4:Option W),ρ=R la fo x4/\la.length+i=n/\(fo++la).Perm (List.range n)) (List.range m) 0 (R (List.range n) [] none) ⟨List.range n,[],none,rfl,by simp,List.Perm.refl _⟩ (by
   rintro i k ρ hi ⟨la,fo,x4,rfl,hl,hp⟩;rw[aF] at hl ⊢;obtain⟨il,ik⟩:=aa.mp hi;rw[dF] at ik;subst ik;rw[cm] at il;obtain⟨e1,a,b⟩:=hC (c:=c) cell (1+(i:Int)) (la.length:Int) (by omega) (by omega) (by omega) (by omega);obtain⟨q,hq⟩:∃q:Nat,dr c cell (1+(i:Int)) (la.length:Int)=(q:Int):=⟨_,(cL a).symm⟩;rw[hq] at e1 b;have ql:q<la.length:=by omega
   have fl:fo.length+la.length=n:=by have:=hp.length_eq;rwa [aS,cm] at this
   refine⟨_,_,rfl,.inl (De (i:=3) (j:=2) (ts:=fo.map nI) (us:=la.map nI) (k:=q) (y:=nI la[q]) rfl rfl (iU rfl (dU rfl rfl (gH _ _)) (ki (t:=.lst (la.map nI)) rfl (by simp)) e1) (by rw[av,ag ql];rfl) (by omega) (by decide) (by rw[aw];omega) rfl),la.eraseIdx q,fo++[la[q]],some (.p (.int (i:Int))),?_,?_,?_⟩
   ·simp[R,nI,An]
   ·rw[List.length_eraseIdx_of_lt ql];omega
   ·rw[bU];exact ((yb la q ql).append_left fo).trans hp)
 have nd:(fo++la).Nodup:=hp.nodup_iff.mpr dw;refine⟨fo,mR rfl (dS (ρ':=[some (.p (.int cell)),some (.p (.int (n:Int))),some (.o ((List.range n).map nI)),none,none]) (kb (ts:=(List.range n).map nI) ?_ rfl) (dS (ρ':=R (List.range n) [] none) (kb rfl rfl) (dS (kj (lr m (by omega) (iU (z:=.int ((n:Int)+1)) rfl rfl (dU rfl rfl (gH _ _)) (by rw[d0,hm]))) e) rfl))),(dy.mp nd).1,λk hk=>aR.mp (hp.mem_iff.mp (ax _ hk))⟩;show (if 0<=(n:Int)/\(n:Int)<=1000 then M.ok (pK 0 ((n:Int)).toNat) else .bad)=_;rw[aP (by omega),qe];simp[nI]
theorem Bt{fr:Pe->M (List T)}{Fn:List T->M (List T×List T)}{ρ:En}{xs t u:List T}(h:fr (lK ρ)=.ok xs)(h2:Fn xs=.ok (t,u))(hz:u.length<sizeLine):xH fr Fn ρ=.nx ρ:=by unfold xH;rw[h];simp[h2,hz]
theorem AB(ns:LI):pL c [.scr ns]=.ok (.bl true):=by
 have sz:10000<sizeLine:=by decide
 obtain⟨cell,hcell⟩:∃cell:Nat->Int,∀k:Nat,eS c [.scr ns,.int (k:Int)]=.ok (.int (cell k)):=⟨λk=>Classical.choose (m9 (c:=c) ns k),λk=>(Classical.choose_spec (m9 (c:=c) ns k)).1⟩;obtain⟨d1,d1a,d1b⟩:=hC (c:=c) (cell 0) 0 3 (by decide) (by decide) (by decide) (by decide);obtain⟨d2,d2a,d2b⟩:=hC (c:=c) (cell 0) 1 8 (by decide) (by decide) (by decide) (by decide);obtain⟨d,hdd⟩:∃d:Nat,1+dr c (cell 0) 0 3=(d:Int):=⟨(1+dr c (cell 0) 0 3).toNat,by omega⟩;obtain⟨m,hmm⟩:∃d:Nat,dr c (cell 0) 1 8=(d:Int):=⟨(dr c (cell 0) 1 8).toNat,by omega⟩;rw[hmm] at d2 d2b;have hd:1<=d/\d<=3:=by omega
 obtain⟨cs,ec,gc,cl⟩:=vA (c:=c) ns 1 d m hd (by omega);rw[<-Bq] at ec;have g92:DE d 92 cs:=gc.mono (by decide);have i0:=Em (c:=c) d 84 cs hd (by decide) gc;have hn:=gc.few;obtain⟨P,hP⟩:=om (P:=λ(k:Nat) (so:List Nat)=>iD c [.int (cell (8+k)),.int (cs.length:Int)]=.ok (so.map λ(k:Nat)=>T.int (k:Int))/\so.Nodup/\∀k∈so,k<cs.length) (List.range 5) λk hk=>rD _ _ hn;let L:List (List Nat):=(List.range 5).map P;let R (x3 x4 x5:Option W):En:=[some (.p (.scr ns)),some (.p (.int (d:Int))),some (.p (.lst (cs.map tI))),x3,x4,x5];let y3:Option W:=some (.p (jo c d cs));let y4:Option W:=some (.p (.lst (L.map nL)));have l4:gS [none,some 0,some 2] (iM (dI (cM (.int 5)) dQ)) (gM 0) (λ_=>.ok true) (vg c) (lK (R y3 none none))=.ok (L.map nL):=fX (List.range 5) (λ(k:Nat)=>T.int (k:Int)) (λk=>nL (P k)) (lr 5 (by decide) rfl) (by rw[cm];omega) (λk hk=>⟨_,rfl,rfl,fI (w5 (y:=.int (cs.length:Int)) (fU rfl (dU rfl rfl (gH _ _)) (by have:=hcell (8+k);simpa using this)) (ki rfl (by simp)) (hP k hk).1)⟩) (by rw[aH];rfl)
 let A:List (List Nat):=L++[[],List.range cs.length]++L.take 1;have hA:∀so∈A,so.Nodup/\∀k∈so,k<cs.length:=λso hso=>by
  have hL:∀so∈L,so.Nodup/\∀k∈so,k<cs.length:=λso hso=>by obtain⟨k,hk,rfl⟩:=aC.mp hso;exact (hP k hk).2
  rcases ai.mp hso with q | q
  ·rcases ai.mp q with q | q
   ·exact hL so q
   ·simp at q;rcases q with rfl | rfl
    ·exact⟨List.nodup_nil,λk hk=>nomatch hk⟩
    ·exact⟨dw,λk hk=>aR.mp hk⟩
  ·exact hL so (dA q)
 have eA:fB (fK (ox (fK (ox (dJ 4) (fK (lstM (dI (fK (lstM dQ)) (dI (fK (E6 (dI (h8 gP (dI (dJ 2) dQ)) dQ))) dQ)))))) (lj (dJ 4) (λ_=>.ok none) (jd (cM (.int 1)))))) (lK (R y3 y4 none))=.ok (A.map nL):=by
  have ln:h8 gP (dI (dJ 2) dQ) (lK (R y3 y4 none))=.ok (.int (cs.length:Int)):=ki (t:=.lst (cs.map tI)) rfl (by simp);have e1:E6 (dI (h8 gP (dI (dJ 2) dQ)) dQ) (lK (R y3 y4 none))=.ok ((List.range cs.length).map λ(k:Nat)=>T.int (k:Int)):=by simp only[E6,dI,dQ,ln,M.bind_ok];rw[aP (by omega),qe];simp
  have e2:=AC (a:=L.map nL) (ρ:=lK (R y3 y4 none)) (fa:=dJ 4) rfl (IK (f1:=fK (lstM dQ)) (a1:=nL []) (a2:=nL (List.range cs.length)) rfl (fI e1)) (by simp[L];omega);have e3:lj (dJ 4) (λ_=>.ok none) (jd (cM (.int 1))) (lK (R y3 y4 none))=.ok (.lst ((L.take 1).map nL)):=by refine Eq.trans (rY (ts:=L.map nL) (d:=1) rfl rfl) ?_;rw[cE]
  refine vm (Eq.trans (AC e2 e3 (by simp[L];omega)) ?_);simp[A]
 obtain⟨ρ,e,x5,rfl⟩:=oq (m:=iV 5) (g:=vk c) nL (λρ=>∃x5:Option W,ρ=R y3 y4 x5) A (R y3 y4 none) ⟨none,rfl⟩ (by
  rintro so hso ρ ⟨x5,rfl⟩;obtain⟨nd,lt⟩:=hA so hso;have er:=tK (c:=c) d cs hd g92 so lt nd;let y5:Option W:=some (.p (nL so));have c1:L3.gK (fz (dX (dI (dJ 3) (dI (dJ 2) (dI (dJ 1) (dI (dJ 5) dQ)))) (ia c))) (vw (R y3 y4 y5))=.ok false:=jB (eT (HP rfl rfl rfl rfl er)) rfl;have ap:xH (dI (dJ 3) (dI (dJ 5) dQ)) (lx c) (R y3 y4 y5)=.nx (R y3 y4 y5):=by
   rcases yE (c:=c) d cs hd g92 so lt nd with⟨ws,-,e,a⟩ | ⟨pv,rs,s,W,-,e,m⟩
   ·refine Bt rfl e ?_;have:=a.len;have sl:(uz cs so).length<=cs.length:=by unfold uz;rw[aw];have:so.length<=(List.range cs.length).length:=List.Nodup.length_le_of_subset nd λx hx=>aR.mpr (lt x hx);rwa [cm] at this
    rw[aw];omega
   ·refine Bt rfl e ?_;obtain⟨U,rfl,-⟩:=m.ways;obtain⟨ix,hP⟩:=m.pvs;have:=oa hP;rw[aw,aw];omega
  exact⟨_,_,rfl,.inl (dS (fg c1 rfl) (dS ap (fg c1 rfl))),y5,rfl⟩)
 exact eV rfl (dS (ρ':=[some (.p (.scr ns)),some (.p (.int (d:Int))),none,none,none,none]) (ek (dU rfl (iU (fU rfl rfl (hcell 0)) rfl rfl d1) (by rw[gH,hdd])) rfl) (dS (ρ':=R none none none) (ek (fI (FI (u:=.int (m:Int)) rfl rfl rfl (iU (fU rfl rfl (hcell 0)) rfl rfl d2) ec)) rfl) (dS (ρ':=R y3 none none) (ek (fU rfl rfl i0) rfl) (dS (ρ':=R y3 y4 none) (ek (fI l4) rfl) (dS (iI eA e) (eK rfl))))))
end CL
namespace K07
open PySem L2 L3 CL
def fC(i:Nat):Stmt:=PySem.Challenge.pw_cutlands_k07_where_cuts_meet.main.body.getD i (.Pass ⟨0,0,0,0⟩)
structure Er(c:Cs)(K:W.Frag)(mg:Str->Option Value):Prop where
 here:True
 cl_Cutting:sJ K c.Cutting
 na_Cutting_own_cuts:jg K c.Cutting "own_cuts"
 na_Cutting_own_dims:jg K c.Cutting "own_dims"
 mk_Cutting:W.makesIn K c.Cutting=true
 kp_Cutting:W.keepIn K (.ref c.Cutting)=true
 mg_Cutting:mg "Cutting" = some (.ref c.Cutting)
 k_MOST_CUTS:∃t,mg "MOST_CUTS" = some (.int 7 t)
 k_MOST_DIMS:∃t,mg "MOST_DIMS" = some (.int 3 t)
theorem Ij{K:W.Frag}{h:Heap}{mg:Str->Option Value}{aCutting:Addr}{tMOST_CUTS tMOST_DIMS:_}(X:K.In h)(G:h.Ns mainGlobals mg)(e:W.nsIn K mainGlobals "Cutting" = some (some (.ref aCutting)))(pg:W.plainGet K aCutting Str.empty=true)(hd:W.hasDictIn K aCutting=true)(po:W.plainOver K aCutting=true)(sa:W.findIn K (.ref aCutting) "__setattr__" = some (some (.builtin "object.__setattr__")))(own_cuts:W.findIn K (.ref aCutting) "own_cuts" = some none)(own_dims:W.findIn K (.ref aCutting) "own_dims" = some none)(mk:W.makesIn K aCutting=true)(kp:W.keepIn K (.ref aCutting)=true)(uMOST_CUTS:W.nsIn K mainGlobals "MOST_CUTS" = some (some (.int 7 tMOST_CUTS)))(uMOST_DIMS:W.nsIn K mainGlobals "MOST_DIMS" = some (some (.int 3 tMOST_DIMS))):Er ⟨aCutting,0,0,0,0,0,0,0,0,0,0,0,0⟩ K mg:=⟨trivial,⟨pg,hd,po,sa⟩,own_cuts,own_dims,mk,kp,W.mg_of X G e,⟨_,W.mg_of X G uMOST_CUTS⟩,⟨_,W.mg_of X G uMOST_DIMS⟩⟩
theorem Ii{K:W.Frag}{a g:Addr}{m q:Str}{st:Stmt}{oc kV doc pm cdv ct:Value}{od an:Option Addr}{osl:Array (Option Value)}(gf:W.findIn K (.ref a) m=some (some (.ref g)))(gi:W.isFn K (.ref g)=true)(l:K.lookup g=some ⟨oc,od,.func (W.fnOf m q (gA st) (fu st) (dY st) .none kV doc pm an cdv ct),osl⟩)(gc:W.codeIn K cdv q=true)(gk:W.keepIn K (.ref g)=true):iH K a m q st:=⟨_,_,xF l gc gk,gf,gi,gk⟩
section
variable {P:Program}{w:World}{K:W.Frag}{mg:Str->Option Value}{base:Heap}{c:Cs}(Z:Zx P w K mg base)(B:Bs mg)(ER:Er c K mg)
include Z B ER
theorem o0(D:ee K mg "is_whole" (fC 7)):CP Z "is_whole" 1 (f9 c):=gQ Z 0 (f9 c) ["thing"] ["thing"] rfl D λnd hX hr=>⟨_,(dP (dZ (lC (jy "int" (by decide) B.isinstance B.int tj (dG 0)) (md (wF (jy "bool" (by decide) B.isinstance B.bool yy (dG 0)))))))⟩
theorem o1(D:ee K mg "sign_of" (fC 9)):CP Z "sign_of" 1 (kP c):=gQ Z 0 (kP c) ["number"] ["number"] rfl D λnd hX hr=>⟨_,(dO (eQ (jI yo yg (dG 0) dR) (dP (dZ dR)) ei)
  (dO (eQ (jI uK uS (dG 0) dR) (dP (dZ (mW dR))) ei)
  (dP (dZ dR))))⟩
theorem o2(D:ee K mg "common_divisor" (fC 10)):CP Z "common_divisor" 1 (eW c):=gQ Z 0 (eW c) ["one","other","rest"] ["one","other"] rfl D λnd hX hr=>⟨_,(dO (xf (λρ=>match ρ with | _::some (.p (.int j))::_=>j.natAbs+1 | _=>0) PassesOwn.never (gZ hr (dG 1) dR) (dO (d8 2 nd (lX (dG 0) (dG 1)))
  (dO (d8 0 nd (dG 1))
  (dP (d8 1 nd (dG 2))))))
  (dP (dZ (eF nM uw (by rfl) B.abs ux (dH (dG 0) dM)))))⟩
theorem o3(D:ee K mg "weighted" (fC 19)):CF Z "weighted" 1 (jC c):=sQ Z 0 (jC c) ["cuts","rows","k","cut","weights"] ["cuts"] rfl D λnd hX hr=>⟨_,(dO (iO 1 nd (fV dM))
  (dO (h7 PassesOwn.never rfl (Ee B.enumerate (dH (dG 0) dM)) (oH 2 rfl (gj (fQ 2 nd) (gj (fQ 3 nd) kR))) (dO (iO 4 nd (oF (eM (fV (dH dR dM))) (eF (eX (K:=K)) gJ (by rfl) B.len gB (dH (dG 0) dM))))
  (dO (nY 4 (pv 4) (dG 2) dR)
  (dP (Ai 1 (pv 1) (gx (dG 3) (gU (gO (K:=K)) iX (by rfl) B.tuple gI (dH (dG 4) dM))))))))
  (dP (pX 1 (pv 1)))))⟩
theorem o4(D:ee K mg "free_places" (fC 23)):CF Z "free_places" 1 (iN c):=sQ Z 0 (iN c) ["pivots","dims","taken"] ["pivots","dims"] rfl D λnd hX hr=>⟨_,(dO (d8 2 nd (eM (fW ["place","pivot"] [none,none] hX (eP (dG 0)) (λnd hX=>⟨(m8 2 rfl (fS (fG 0 nd) (fS (fG 1 nd) j7))),eR,(dG 0)⟩))))
  (dP (nr (fW ["place","taken"] [none,some 2] hX (rC.pim (iR B.range (dH (dG 1) dM))) (λnd hX=>⟨(fG 0 nd),(kc (jI (zm (K:=K)) (HU true) (dG 0) (dG 1) (by rfl))),(dG 0)⟩)))))⟩
theorem o5(D:ee K mg "first_place" (fC 36)):CP Z "first_place" 1 (iP c):=gQ Z 0 (iP c) ["cut","place"] ["cut"] rfl D λnd hX hr=>⟨_,(dO (d8 1 nd dR)
  (dO (xf (λρ=>match ρ with | some (.p (.tup ts))::_=>ts.length+1 | _=>0) PassesOwn.never (iS hr (eB (dG 0) (dG 1)) dR) (dP (d8 1 nd (gx (dG 1) dR))))
  (dP (dZ (dG 1)))))⟩
theorem o6(D:iH K c.Cutting "dims" "Cutting.dims" (ko (fC 40) 1)):iG P w K mg base c.Cutting "dims" 1 (rj K (f6 c)):=EF Z 0 (f6 c) ["self"] ["self"] rfl ER.cl_Cutting D λnd hX hr=>⟨_,(dP (dZ (wx rfl ER.cl_Cutting ER.na_Cutting_own_dims (dG 0))))⟩
theorem o7(D:iH K c.Cutting "cuts" "Cutting.cuts" (ko (fC 40) 2)):iG P w K mg base c.Cutting "cuts" 1 (vT K (fZ c)):=GT Z 0 (fZ c) ["self"] ["self"] rfl ER.cl_Cutting D λnd hX hr=>⟨_,(dP (nr (i7 (ie (K:=K)) jQ (by rfl) B.list iQ (dH (wx rfl ER.cl_Cutting ER.na_Cutting_own_cuts (dG 0)) dM))))⟩
theorem o8(D:iH K c.Cutting "many" "Cutting.many" (ko (fC 40) 3)):iG P w K mg base c.Cutting "many" 1 (rj K (gD c)):=EF Z 0 (gD c) ["self"] ["self"] rfl ER.cl_Cutting D λnd hX hr=>⟨_,(dP (dZ (eF (eX (K:=K)) gJ (by rfl) B.len gB (dH (wx rfl ER.cl_Cutting ER.na_Cutting_own_cuts (dG 0)) dM))))⟩
theorem o9(D:ee K mg "_law_cell_at" (fC 42)):CP Z "_law_cell_at" 1 (eS c):=gQ Z 0 (eS c) ["_law_script","_law_k"] ["_law_script","_law_k"] rfl D λnd hX hr=>⟨_,(dO (eQ (jI uK uS (dG 1) (eF (eX (K:=K)) gJ (by rfl) B.len gB (dH (dG 0) dM))) (dP (dZ (eB (dG 0) (dG 1)))) ei)
  (dP (dZ dR)))⟩
theorem JS(D:ee K mg "_law_draw" (fC 43)):CP Z "_law_draw" 1 (eg c):=gQ Z 0 (eg c) ["_law_cell","_law_k","_law_bound","_law_left","_law_j","_law_stir"] ["_law_cell","_law_k","_law_bound"] rfl D λnd hX hr=>⟨_,(dO (eQ (jI Ex EA (dG 0) (xA dR dR)) (dO (d8 3 nd (dG 0))
  (dO (kZ PassesOwn.never rfl (iR B.range (dH (dG 1) dM)) (fQ 4 nd) (dP (d8 3 nd (lz (dG 3) (dG 2)))))
  (dP (dZ (lX (dG 3) (dG 2)))))) ei)
  (dO (d8 5 nd (lX (fv (gx (gx (lX (dG 0) dR) (fv dR (dG 1))) dR) dR) dR))
  (dO (d8 5 nd (lX (gx (gx (fv (dG 5) (dG 5)) (fv dR (dG 1))) dR) dR))
  (dP (dZ (lX (lz (lX (fv (dG 5) dR) dR) dR) (dG 2)))))))⟩
theorem JP(D:ee K mg "_law_whole" (fC 44)):CP Z "_law_whole" 1 (fR c):=gQ Z 0 (fR c) ["_law_found"] ["_law_found"] rfl D λnd hX hr=>⟨_,(dP (dZ (lC (jy "int" (by decide) B.isinstance B.int tj (dG 0)) (md (wF (jy "bool" (by decide) B.isinstance B.bool yy (dG 0)))))))⟩
theorem JL(D:ee K mg "_law_common" (fC 45)):CP Z "_law_common" 1 (iz c):=gQ Z 0 (iz c) ["_law_one","_law_other"] ["_law_one","_law_other"] rfl D λnd hX hr=>⟨_,(dO (d8 0 nd (eF nM uw (by rfl) B.abs ux (dH (dG 0) dM)))
  (dO (d8 1 nd (eF nM uw (by rfl) B.abs ux (dH (dG 1) dM)))
  (dO (xf (λρ=>match ρ with | _::some (.p (.int j))::_=>j.natAbs+1 | _=>0) PassesOwn.never (jI yo yg (dG 1) dR) (dP (C2 (i:=0) (j:=1) rfl nd rfl rfl (by decide) rfl rfl (dH (dG 1) (dH (lX (dG 0) (dG 1)) dM)) (by rfl))))
  (dP (dZ (dG 0))))))⟩
theorem J8(D:ee K mg "_law_same" (fC 47)):CP Z "_law_same" 1 (iq c):=gQ Z 0 (iq c) ["_law_one","_law_other","_law_k","_law_j"] ["_law_one","_law_other"] rfl D λnd hX hr=>⟨_,(dO (kZ PassesOwn.never rfl (iR B.range (dH (eF (eX (K:=K)) gJ (by rfl) B.len gB (dH (dG 0) dM)) dM)) (fQ 2 nd) (dP (kZ PassesOwn.never rfl (iR B.range (dH (dG 2) dM)) (fQ 3 nd) (dP (eQ (gZ hr (fv (eB (dG 0) (dG 2)) (eB (dG 1) (dG 3))) (fv (eB (dG 0) (dG 3)) (eB (dG 1) (dG 2)))) (dP (dZ ji)) ei)))))
  (dP (dZ ji)))⟩
theorem Kj(D:ee K mg "_law_side" (fC 50)):CP Z "_law_side" 1 (iC c):=gQ Z 0 (iC c) ["_law_cut_here","_law_spot","_law_top","_law_bottom","_law_number","_law_part"] ["_law_cut_here","_law_spot"] rfl D λnd hX hr=>⟨_,(dO (d8 2 nd (mW (eB (dG 0) (mW dR))))
  (dO (d8 3 nd dR)
  (dO (h7 PassesOwn.never rfl (lh B.zip (dH (dG 0) (dH (dG 1) dM))) (oH 2 rfl (gj (fQ 4 nd) (gj (fQ 5 nd) kR))) (dO (d8 2 nd (gx (fv (dG 2) (eB (dG 5) dR)) (fv (fv (dG 4) (eB (dG 5) dR)) (dG 3))))
  (dP (d8 3 nd (fv (dG 3) (eB (dG 5) dR))))))
  (dP (dZ (og (gU sR ya (by rfl) B.int tj (dH (p6 yo yg (dG 2) dR) dM)) (gU sR ya (by rfl) B.int tj (dH (p6 uK uS (dG 2) dR) dM))))))))⟩
theorem JX(D:ee K mg "_law_rank" (fC 53)):CP Z "_law_rank" 1 (jD c):=gQ Z 0 (jD c) ["_law_rows","_law_dims","_law_found","_law_k","_law_some","_law_own","_law_rest"] ["_law_rows","_law_dims"] rfl D λnd hX hr=>⟨_,(dO (kC ["_law_row"] [none] 0 nd hX (eP (dG 0)) (λnd hX=>⟨(fG 0 nd),eR,(eM (i7 (ie (K:=K)) jQ (by rfl) B.list iQ (dH (dG 0) dM)))⟩) jP)
  (dO (d8 2 nd dR)
  (dO (kZ PassesOwn.never rfl (iR B.range (dH (dG 1) dM)) (fQ 3 nd) (dO (kC ["_law_row","_law_k"] [none,some 3] 4 nd hX (eP (dG 0)) (λnd hX=>⟨(fG 0 nd),(kc (gZ hr (eB (dG 0) (dG 1)) dR)),(dG 0)⟩) jP)
  (dP (eQ (gZ hr (dG 4) (eM (fV dM))) (dO (d8 5 nd (eB (dG 4) dR))
  (dO (d8 2 nd (gx (dG 2) dR))
  (dO (kC ["_law_row","_law_own"] [none,some 5] 6 nd hX (eP (dG 0)) (λnd hX=>⟨(fG 0 nd),(kc (gZ hr (dG 0) (dG 1))),(dG 0)⟩) jP)
  (dP (kC ["_law_row","_law_dims","_law_own","_law_k"] [none,some 1,some 5,some 3] 0 nd hX (eP (dG 6)) (λnd hX=>⟨(fG 0 nd),eR,(eM (fW ["_law_j","_law_own","_law_k","_law_row"] [none,some 2,some 3,some 0] hX (rC.pim (iR B.range (dH (dG 1) dM))) (λnd hX=>⟨(fG 0 nd),eR,(og (fv (eB (dG 1) (dG 2)) (eB (dG 3) (dG 0))) (fv (eB (dG 3) (dG 2)) (eB (dG 1) (dG 0))))⟩)))⟩) jP))))) ei))))
  (dP (dZ (dG 2))))))⟩
theorem JZ(D:ee K mg "is_number_of" (fC 8))(O0:CP Z "is_whole" 1 (f9 c)):CP Z "is_number_of" 2 (ib c):=gQ Z 1 (ib c) ["thing","many"] ["thing","many"] rfl D λnd hX hr=>⟨_,(dP (dZ (lC (dW O0 hr (dH (dG 0) dM)) (md (u0 By AW uK uS dR (dG 0) (dG 1))))))⟩
theorem J5(D:ee K mg "lowest" (fC 11))(O2:CP Z "common_divisor" 1 (eW c)):CP Z "lowest" 2 (kh c):=gQ Z 1 (kh c) ["row","divisor","number"] ["row"] rfl D λnd hX hr=>⟨_,(dO (d8 1 nd dR)
  (dO (h7 PassesOwn.never rfl (eP (dG 0)) (fQ 2 nd) (dO (d8 1 nd (dW O2 hr (dH (dG 1) (dH (dG 2) dM))))
  (dP (eQ (iS hr (dG 1) dR) (dP (dZ (dG 0))) ei))))
  (dO (eQ (iS hr (dG 1) dR) (dP (dZ (dG 0))) ei)
  (dP (dZ (gU (gO (K:=K)) iX (by rfl) B.tuple gI (dH (eM (fW ["number","divisor"] [none,some 1] hX (eP (dG 0)) (λnd hX=>⟨(fG 0 nd),eR,(lz (dG 0) (dG 1))⟩))) dM)))))))⟩
theorem JO(D:ee K mg "made" (fC 14))(O2:CP Z "common_divisor" 1 (eW c)):CP Z "made" 2 (ke c):=gQ Z 1 (ke c) ["top","bottom","divisor"] ["top","bottom"] rfl D λnd hX hr=>⟨_,(dO (eQ (iS hr (dG 1) dR) (dP mx) ei)
  (dO (d8 2 nd (dW O2 hr (dH (dG 0) (dH (dG 1) dM))))
  (dO (eQ (jI uK uS (dG 1) dR) (dP (d8 2 nd (mW (dG 2)))) ei)
  (dP (dZ (kg (dH (lz (dG 0) (dG 2)) (dH (lz (dG 1) (dG 2)) dM))))))))⟩
theorem Kg(D:ee K mg "is_dims" (fC 34))(O0:CP Z "is_whole" 1 (f9 c)):CP Z "is_dims" 2 (jX c):=gQ Z 1 (jX c) ["thing"] ["thing"] rfl D λnd hX hr=>⟨_,(dP (dZ (lC (dW O0 hr (dH (dG 0) dM)) (md (u0 By AW By AW dR (dG 0) (uX 3 ER.k_MOST_DIMS))))))⟩
theorem JW(D:ee K mg "is_cut" (fC 35))(O0:CP Z "is_whole" 1 (f9 c)):CP Z "is_cut" 2 (kL c):=gQ Z 1 (kL c) ["dims","thing"] ["dims","thing"] rfl D λnd hX hr=>⟨_,(dO (eQ (pH (jS (fJ (hZ (jy "tuple" (by decide) B.isinstance B.tuple gI (dG 1)))) (jG (gZ hr (eF (eX (K:=K)) gJ (by rfl) B.len gB (dH (dG 1) dM)) (gx (dG 0) dR))))) (dP (dZ ji)) ei)
  (dO (eQ (fJ (hZ (eF (kK (K:=K) rfl) qo (by rfl) B.all qS (dH (eM (fW ["number"] [none] hX (eP (dG 1)) (λnd hX=>⟨(fG 0 nd),eR,(dW O0 hr (dH (dG 0) dM))⟩))) dM)))) (dP (dZ ji)) ei)
  (dP (dZ (eF (sy (K:=K) rfl) Bz (by rfl) B.any zO (dH (eM (fW ["number"] [none] hX (eP (j1 (dG 1) mX (mU (dG 0)))) (λnd hX=>⟨(fG 0 nd),eR,(Ew hr (dG 0) dR)⟩))) dM))))))⟩
theorem Kc(D:ee K mg "same_spots" (fC 37))(O5:CP Z "first_place" 1 (iP c)):CP Z "same_spots" 2 (jk c):=gQ Z 1 (jk c) ["one","other","place"] ["one","other"] rfl D λnd hX hr=>⟨_,(dO (d8 2 nd (dW O5 hr (dH (dG 0) dM)))
  (dP (dZ (eF (kK (K:=K) rfl) qo (by rfl) B.all qS (dH (eM (fW ["mine","theirs","other","place","one"] [none,none,some 1,some 2,some 0] hX (lh B.zip (dH (dG 0) (dH (dG 1) dM))) (λnd hX=>⟨(m8 2 rfl (fS (fG 0 nd) (fS (fG 1 nd) j7))),eR,(pA hr (fv (dG 0) (eB (dG 2) (dG 3))) (fv (dG 1) (eB (dG 4) (dG 3))))⟩))) dM)))))⟩
theorem JQ(D:ee K mg "_law_is_fraction" (fC 46))(O11:CP Z "_law_whole" 1 (fR c))(O12:CP Z "_law_common" 1 (iz c)):CP Z "_law_is_fraction" 2 (gp c):=gQ Z 1 (gp c) ["_law_found"] ["_law_found"] rfl D λnd hX hr=>⟨_,(dO (eQ (pH (jS (fJ (hZ (jy "tuple" (by decide) B.isinstance B.tuple gI (dG 0)))) (jS (gZ hr (eF (eX (K:=K)) gJ (by rfl) B.len gB (dH (dG 0) dM)) dR) (jS (fJ (hZ (dW O11 hr (dH (eB (dG 0) dR) dM)))) (jG (fJ (hZ (dW O11 hr (dH (eB (dG 0) dR) dM))))))))) (dP (dZ ji)) ei)
  (dP (dZ (lC (p6 yo yg (eB (dG 0) dR) dR) (md (pA hr (dW O12 hr (dH (eB (dG 0) dR) (dH (eB (dG 0) dR) dM))) dR))))))⟩
theorem JI(D:ee K mg "_law_cut" (fC 48))(O10:CP Z "_law_draw" 1 (eg c)):CP Z "_law_cut" 2 (kr c):=gQ Z 1 (kr c) ["_law_cell","_law_dims","_law_ahead","_law_numbers_here","_law_c","_law_way","_law_far"] ["_law_cell","_law_dims","_law_ahead"] rfl D λnd hX hr=>⟨_,(dO (kC ["_law_j","_law_cell"] [none,some 0] 3 nd hX (rC.pim (iR B.range (dH (dG 1) dM))) (λnd hX=>⟨(fG 0 nd),eR,(og (dW O10 hr (dH (dG 1) (dH (dG 0) (dH dR dM)))) dR)⟩) xP)
  (dO (eQ (iS hr (dG 3) (eM (oF (eM (fV (dH dR dM))) (dG 1)))) (dP (nY 3 (pv 3) (dW O10 hr (dH (dG 0) (dH dR (dH (dG 1) dM)))) (gx dR (dW O10 hr (dH (dG 0) (dH dR (dH dR dM))))))) ei)
  (dO (d8 4 nd (og (dW O10 hr (dH (dG 0) (dH dR (dH dR dM)))) dR))
  (dO (d8 5 nd (dW O10 hr (dH (dG 0) (dH dR (dH dR dM)))))
  (dO (eQ (pH (yh (iS hr (dG 5) dR) (uH (gZ hr (dG 2) (eM (fV dM)))))) (dP (iO 3 nd (i7 (ie (K:=K)) jQ (by rfl) B.list iQ (dH (j1 (eB (dG 2) (dW O10 hr (dH (dG 0) (dH dR (dH (eF (eX (K:=K)) gJ (by rfl) B.len gB (dH (dG 2) dM)) dM))))) mX (mU (dG 1))) dM)))) ei)
  (dO (eQ (pH (jS (iS hr (dG 5) dR) (jG (iS hr (dG 5) dR)))) (dP (uP 4 nd (eF (oh (K:=K) rfl) wJ (by rfl) B.sum vY (dH (eM (fW ["_law_number","_law_part"] [none,none] hX (lh B.zip (dH (dG 3) (dH (eM (fV (dH dR (dH dR (dH (mW dR) dM))))) dM))) (λnd hX=>⟨(m8 2 rfl (fS (fG 0 nd) (fS (fG 1 nd) j7))),eR,(fv (dG 0) (dG 1))⟩))) dM)))) ei)
  (dO (eQ (iS hr (dG 5) dR) (dO (d8 6 nd (fv (gx dR (dW O10 hr (dH (dG 0) (dH dR (dH (xA dR dR) dM))))) (eB (eM (fV (dH dR (dH dR (dH (xA dR dR) dM))))) (dW O10 hr (dH (dG 0) (dH dR (dH dR dM)))))))
  (dO (kC ["_law_number","_law_far"] [none,some 6] 3 nd hX (eP (dG 3)) (λnd hX=>⟨(fG 0 nd),eR,(fv (dG 0) (dG 1))⟩) Do)
  (dP (d8 4 nd (gx (fv (dG 4) (dG 6)) (dW O10 hr (dH (dG 0) (dH dR (dH dR dM))))))))) ei)
  (dP (dZ (gU (gO (K:=K)) iX (by rfl) B.tuple gI (dH (eM (tq (dG 3) (eM (fV (dH (dG 4) dM))))) dM)))))))))))⟩
theorem Ka(D:ee K mg "_law_numbers" (fC 52))(O11:CP Z "_law_whole" 1 (fR c)):CP Z "_law_numbers" 2 (fO c):=gQ Z 1 (fO c) ["_law_found","_law_many"] ["_law_found","_law_many"] rfl D λnd hX hr=>⟨_,(dO (eQ (pH (jS (fJ (hZ (jy "list" (by decide) B.isinstance B.list iQ (dG 0)))) (jG (gZ hr (eF (eX (K:=K)) gJ (by rfl) B.len gB (dH (dG 0) dM)) (dG 1))))) (dP (dZ ji)) ei)
  (dP (dZ (eF (kK (K:=K) rfl) qo (by rfl) B.all qS (dH (eM (fW ["_law_one"] [none] hX (eP (dG 0)) (λnd hX=>⟨(fG 0 nd),eR,(dW O11 hr (dH (dG 0) dM))⟩))) dM)))))⟩
theorem JD(D:ee K mg "_law_picked" (fC 54))(O10:CP Z "_law_draw" 1 (eg c)):CF Z "_law_picked" 2 (iD c):=sQ Z 1 (iD c) ["_law_cell","_law_many","_law_left","_law_found","_law_k"] ["_law_cell","_law_many"] rfl D λnd hX hr=>⟨_,(dO (iO 2 nd (EB rfl B.list B.range (dH (dG 1) dM)))
  (dO (iO 3 nd (fV dM))
  (dO (kZ PassesOwn.never rfl (iR B.range (dH (dW O10 hr (dH (dG 0) (dH dR (dH (gx (dG 1) dR) dM)))) dM)) (fQ 4 nd) (dP (A4 3 2 (pv 3) (pv 2) (dW O10 hr (dH (dG 0) (dH (gx dR (dG 4)) (dH (eF (eX (K:=K)) gJ (by rfl) B.len gB (dH (dG 2) dM)) dM)))))))
  (dP (pX 3 (pv 3))))))⟩
theorem Kb(D:ee K mg "cleared" (fC 12))(O17:CP Z "lowest" 2 (kh c))(O1:CP Z "sign_of" 1 (kP c)):CP Z "cleared" 3 (iB c):=gQ Z 2 (iB c) ["row","other","place","often","other_often"] ["row","other","place"] rfl D λnd hX hr=>⟨_,(dO (eQ (iS hr (eB (dG 0) (dG 2)) dR) (dP (dZ (dG 0))) ei)
  (dO (d8 3 nd (eF nM uw (by rfl) B.abs ux (dH (eB (dG 1) (dG 2)) dM)))
  (dO (d8 4 nd (fv (mW (eB (dG 0) (dG 2))) (dW O1 hr (dH (eB (dG 1) (dG 2)) dM))))
  (dP (dZ (dW O17 hr (dH (gU (gO (K:=K)) iX (by rfl) B.tuple gI (dH (eM (fW ["mine","theirs","often","other_often"] [none,none,some 3,some 4] hX (lh B.zip (dH (dG 0) (dH (dG 1) dM))) (λnd hX=>⟨(m8 2 rfl (fS (fG 0 nd) (fS (fG 1 nd) j7))),eR,(gx (fv (dG 2) (dG 0)) (fv (dG 3) (dG 1)))⟩))) dM)) dM)))))))⟩
theorem J9(D:ee K mg "minus" (fC 15))(O18:CP Z "made" 2 (ke c)):CP Z "minus" 3 (nU c):=gQ Z 2 (nU c) ["one","other"] ["one","other"] rfl D λnd hX hr=>⟨_,(dP (dZ (dW O18 hr (dH (og (fv (eB (dG 0) dR) (eB (dG 1) dR)) (fv (eB (dG 1) dR) (eB (dG 0) dR))) (dH (fv (eB (dG 0) dR) (eB (dG 1) dR)) dM)))))⟩
theorem JR(D:ee K mg "times" (fC 16))(O18:CP Z "made" 2 (ke c)):CP Z "times" 3 (nz c):=gQ Z 2 (nz c) ["one","other"] ["one","other"] rfl D λnd hX hr=>⟨_,(dP (dZ (dW O18 hr (dH (fv (eB (dG 0) dR) (eB (dG 1) dR)) (dH (fv (eB (dG 0) dR) (eB (dG 1) dR)) dM)))))⟩
theorem Kh(D:ee K mg "over" (fC 17))(O18:CP Z "made" 2 (ke c)):CP Z "over" 3 (qd c):=gQ Z 2 (qd c) ["one","other"] ["one","other"] rfl D λnd hX hr=>⟨_,(dO (eQ (iS hr (eB (dG 1) dR) dR) (dP mx) ei)
  (dP (dZ (dW O18 hr (dH (fv (eB (dG 0) dR) (eB (dG 1) dR)) (dH (fv (eB (dG 0) dR) (eB (dG 1) dR)) dM))))))⟩
theorem JE(D:ee K mg "whole_way" (fC 26))(O17:CP Z "lowest" 2 (kh c))(O2:CP Z "common_divisor" 1 (eW c)):CP Z "whole_way" 3 (jK c):=gQ Z 2 (jK c) ["parts","bottoms","part"] ["parts"] rfl D λnd hX hr=>⟨_,(dO (d8 1 nd dR)
  (dO (h7 PassesOwn.never rfl (eP (dG 0)) (fQ 2 nd) (dP (d8 1 nd (lz (fv (dG 1) (eB (dG 2) dR)) (dW O2 hr (dH (dG 1) (dH (eB (dG 2) dR) dM)))))))
  (dP (dZ (dW O17 hr (dH (gU (gO (K:=K)) iX (by rfl) B.tuple gI (dH (eM (fW ["part","bottoms"] [none,some 1] hX (eP (dG 0)) (λnd hX=>⟨(fG 0 nd),eR,(fv (eB (dG 0) dR) (lz (dG 1) (eB (dG 0) dR)))⟩))) dM)) dM))))))⟩
theorem J4(D:ee K mg "are_numbers_of_cuts" (fC 29))(O16:CP Z "is_number_of" 2 (ib c))(O8:iG P w K mg base c.Cutting "many" 1 (rj K (gD c))):CP Z "are_numbers_of_cuts" 3 (fw c):=gQ Z 2 (fw c) ["cutting","thing"] ["cutting","thing"] rfl D λnd hX hr=>⟨_,(dO (eQ (fJ (hZ (jy "list" (by decide) B.isinstance B.list iQ (dG 1)))) (dP (dZ ji)) ei)
  (dO (eQ (fJ (hZ (eF (kK (K:=K) rfl) qo (by rfl) B.all qS (dH (eM (fW ["k","cutting"] [none,some 0] hX (eP (dG 1)) (λnd hX=>⟨(fG 0 nd),eR,(dW O16 hr (dH (dG 0) (dH (wO O8 hr (dG 1)) dM)))⟩))) dM)))) (dP (dZ ji)) ei)
  (dP (dZ (pA hr (HK rfl B.len B.set (dH (dG 1) dM)) (eF (eX (K:=K)) gJ (by rfl) B.len gB (dH (dG 1) dM)))))))⟩
theorem JV(D:ee K mg "can_stand" (fC 38))(O20:CP Z "is_cut" 2 (kL c))(O21:CP Z "same_spots" 2 (jk c)):CP Z "can_stand" 3 (iY c):=gQ Z 2 (iY c) ["dims","ahead","thing"] ["dims","ahead","thing"] rfl D λnd hX hr=>⟨_,(dO (eQ (pH (jS (jI Ex EA (eF (eX (K:=K)) gJ (by rfl) B.len gB (dH (dG 1) dM)) (uX 7 ER.k_MOST_CUTS)) (jG (fJ (hZ (dW O20 hr (dH (dG 0) (dH (dG 2) dM)))))))) (dP (dZ ji)) ei)
  (dP (dZ (wF (eF (sy (K:=K) rfl) Bz (by rfl) B.any zO (dH (eM (fW ["cut","thing"] [none,some 2] hX (eP (dG 1)) (λnd hX=>⟨(fG 0 nd),eR,(dW O21 hr (dH (dG 0) (dH (dG 1) dM)))⟩))) dM))))))⟩
theorem JM(D:ee K mg "_law_cuts" (fC 49))(O23:CP Z "_law_cut" 2 (kr c))(O9:CP Z "_law_cell_at" 1 (eS c))(O13:CP Z "_law_same" 1 (iq c)):CF Z "_law_cuts" 3 (jb c):=sQ Z 2 (jb c) ["_law_script","_law_at","_law_dims","_law_many","_law_found","_law_k","_law_cut_here"] ["_law_script","_law_at","_law_dims","_law_many"] rfl D λnd hX hr=>⟨_,(dO (iO 4 nd (fV dM))
  (dO (kZ PassesOwn.never rfl (iR B.range (dH (dG 3) dM)) (fQ 5 nd) (dO (uP 6 nd (dW O23 hr (dH (dW O9 hr (dH (dG 0) (dH (gx (dG 1) (dG 5)) dM))) (dH (dG 2) (dH (dG 4) dM)))))
  (dP (eQ (iS hr (eM (fW ["_law_other","_law_cut_here"] [none,some 6] hX (eP (dG 4)) (λnd hX=>⟨(fG 0 nd),(kc (hZ (dW O13 hr (dH (dG 1) (dH (dG 0) dM))))),(dG 0)⟩))) (eM (fV dM))) (dP (qQ 4 (pv 4) (dG 6))) ei))))
  (dP (pX 4 (pv 4)))))⟩
theorem Ki(D:ee K mg "_law_is_spot" (fC 51))(O22:CP Z "_law_is_fraction" 2 (gp c)):CP Z "_law_is_spot" 3 (gX c):=gQ Z 2 (gX c) ["_law_found","_law_dims"] ["_law_found","_law_dims"] rfl D λnd hX hr=>⟨_,(dO (eQ (pH (jS (fJ (hZ (jy "tuple" (by decide) B.isinstance B.tuple gI (dG 0)))) (jG (gZ hr (eF (eX (K:=K)) gJ (by rfl) B.len gB (dH (dG 0) dM)) (dG 1))))) (dP (dZ ji)) ei)
  (dP (dZ (eF (kK (K:=K) rfl) qo (by rfl) B.all qS (dH (eM (fW ["_law_part"] [none] hX (eP (dG 0)) (λnd hX=>⟨(fG 0 nd),eR,(dW O22 hr (dH (dG 0) dM))⟩))) dM)))))⟩
theorem J6(D:ee K mg "_law_apart" (fC 56))(O24:CP Z "_law_numbers" 2 (fO c)):CP Z "_law_apart" 3 (jM c):=gQ Z 2 (jM c) ["_law_told","_law_some","_law_dims","_law_totals"] ["_law_told","_law_some","_law_dims"] rfl D λnd hX hr=>⟨_,(dO (eQ (fJ (hZ (dW O24 hr (dH (eB (dG 0) dR) (dH (eF (eX (K:=K)) gJ (by rfl) B.len gB (dH (dG 1) dM)) dM))))) (dP (dZ ji)) ei)
  (dO (kC ["_law_k","_law_some","_law_told"] [none,some 1,some 0] 3 nd hX (rC.pim (iR B.range (dH (gx (dG 2) dR) dM))) (λnd hX=>⟨(fG 0 nd),eR,(eF (oh (K:=K) rfl) wJ (by rfl) B.sum vY (dH (eM (fW ["_law_weight","_law_cut_here","_law_k"] [none,none,some 0] hX (lh B.zip (dH (eB (dG 2) dR) (dH (dG 1) dM))) (λnd hX=>⟨(m8 2 rfl (fS (fG 0 nd) (fS (fG 1 nd) j7))),eR,(fv (dG 0) (eB (dG 1) (dG 2)))⟩))) dM))⟩) jP)
  (dP (dZ (lC (pA hr (j1 (dG 3) mX (mU (dG 2))) (eM (oF (eM (fV (dH dR dM))) (dG 2)))) (md (Ew hr (eB (dG 3) (dG 2)) dR)))))))⟩
theorem J1(D:ee K mg "settled" (fC 20))(O26:CP Z "cleared" 3 (iB c)):CP Z "settled" 4 (kS c):=gQ Z 3 (kS c) ["row","pivots","place","pivot"] ["row","pivots"] rfl D λnd hX hr=>⟨_,(dO (h7 PassesOwn.never rfl (eP (dG 1)) (oH 2 rfl (gj (fQ 2 nd) (gj (fQ 3 nd) kR))) (dP (d8 0 nd (dW O26 hr (dH (dG 0) (dH (dG 3) (dH (dG 2) dM)))))))
  (dP (dZ (dG 0))))⟩
theorem JF(D:ee K mg "with_pivot" (fC 21))(O26:CP Z "cleared" 3 (iB c)):CF Z "with_pivot" 4 (iw c):=sQ Z 3 (iw c) ["pivots","row","place"] ["pivots","row","place"] rfl D λnd hX hr=>⟨_,(dP (nr (tq (eM (fW ["other_place","pivot","row","place"] [none,none,some 1,some 2] hX (eP (dG 0)) (λnd hX=>⟨(m8 2 rfl (fS (fG 0 nd) (fS (fG 1 nd) j7))),eR,(kg (dH (dG 0) (dH (dW O26 hr (dH (dG 1) (dH (dG 2) (dH (dG 3) dM)))) dM)))⟩))) (eM (fV (dH (kg (dH (dG 2) (dH (dG 1) dM))) dM))))))⟩
theorem JU(D:ee K mg "left_for" (fC 24))(O27:CP Z "minus" 3 (nU c))(O28:CP Z "times" 3 (nz c)):CP Z "left_for" 4 (ka c):=gQ Z 3 (ka c) ["row","parts","left","number","part"] ["row","parts"] rfl D λnd hX hr=>⟨_,(dO (d8 2 nd (kg (dH (eB (dG 0) (eF (eX (K:=K)) gJ (by rfl) B.len gB (dH (dG 1) dM))) (dH dR dM))))
  (dO (h7 PassesOwn.never rfl (lh B.zip (dH (dG 0) (dH (dG 1) dM))) (oH 2 rfl (gj (fQ 3 nd) (gj (fQ 4 nd) kR))) (dP (d8 2 nd (dW O27 hr (dH (dG 2) (dH (dW O28 hr (dH (kg (dH (dG 3) (dH dR dM))) (dH (dG 4) dM))) dM))))))
  (dP (dZ (dG 2)))))⟩
theorem J0(D:ee K mg "way_along" (fC 27))(O30:CP Z "whole_way" 3 (jK c))(O18:CP Z "made" 2 (ke c)):CP Z "way_along" 4 (iT c):=gQ Z 3 (iT c) ["pivots","dims","free","parts","place","pivot"] ["pivots","dims","free"] rfl D λnd hX hr=>⟨_,(dO (iO 3 nd (oF (eM (fV (dH (kg (dH dR (dH dR dM))) dM))) (dG 1)))
  (dO (nY 3 (pv 3) (dG 2) (kg (dH dR (dH dR dM))))
  (dO (h7 PassesOwn.never rfl (eP (dG 0)) (oH 2 rfl (gj (fQ 4 nd) (gj (fQ 5 nd) kR))) (dP (nY 3 (pv 3) (dG 4) (dW O18 hr (dH (mW (eB (dG 5) (dG 2))) (dH (eB (dG 5) (dG 4)) dM))))))
  (dP (dZ (dW O30 hr (dH (dG 3) dM)))))))⟩
theorem JT(D:ee K mg "checked_cuts" (fC 39))(O19:CP Z "is_dims" 2 (jX c))(O32:CP Z "can_stand" 3 (iY c)):CP Z "checked_cuts" 4 (gF c):=gQ Z 3 (gF c) ["dims","things","ahead","thing"] ["dims","things"] rfl D λnd hX hr=>⟨_,(dO (eQ (pH (jS (fJ (hZ (dW O19 hr (dH (dG 0) dM)))) (jG (fJ (hZ (jy "list" (by decide) B.isinstance B.list iQ (dG 1))))))) (dP mx) ei)
  (dO (iO 2 nd (fV dM))
  (dO (h7 PassesOwn.never rfl (eP (dG 1)) (fQ 3 nd) (dO (eQ (fJ (hZ (dW O32 hr (dH (dG 0) (dH (dG 2) (dH (dG 3) dM)))))) (dP mx) ei)
  (dP (qQ 2 (pv 2) (gU (gO (K:=K)) iX (by rfl) B.tuple gI (dH (dG 3) dM))))))
  (dP (dZ (gU (gO (K:=K)) iX (by rfl) B.tuple gI (dH (dG 2) dM)))))))⟩
theorem JY(D:ee K mg "_law_met" (fC 55))(O15:CP Z "_law_rank" 1 (jD c))(O34:CP Z "_law_is_spot" 3 (gX c))(O24:CP Z "_law_numbers" 2 (fO c))(O14:CP Z "_law_side" 1 (iC c)):CP Z "_law_met" 4 (kH c):=gQ Z 3 (kH c) ["_law_told","_law_some","_law_dims","_law_way","_law_ranks"] ["_law_told","_law_some","_law_dims"] rfl D λnd hX hr=>⟨_,(dO (eQ (pH (jS (fJ (hZ (dW O34 hr (dH (eB (dG 0) dR) (dH (dG 2) dM))))) (jG (fJ (hZ (jy "list" (by decide) B.isinstance B.list iQ (eB (dG 0) dR))))))) (dP (dZ ji)) ei)
  (dO (eQ (gZ hr (eM (fW ["_law_cut_here","_law_told"] [none,some 0] hX (eP (dG 1)) (λnd hX=>⟨(fG 0 nd),(kc (gZ hr (dW O14 hr (dH (dG 0) (dH (eB (dG 1) dR) dM))) dR)),(dG 0)⟩))) (eM (fV dM))) (dP (dZ ji)) ei)
  (dO (h7 PassesOwn.never rfl (eP (eB (dG 0) dR)) (fQ 3 nd) (dO (eQ (pH (jS (fJ (hZ (jy "tuple" (by decide) B.isinstance B.tuple gI (dG 3)))) (jG (fJ (hZ (dW O24 hr (dH (eM (i7 (ie (K:=K)) jQ (by rfl) B.list iQ (dH (dG 3) dM))) (dH (dG 2) dM)))))))) (dP (dZ ji)) ei)
  (dP (eQ (gZ hr (eM (fW ["_law_cut_here","_law_way"] [none,some 3] hX (eP (dG 1)) (λnd hX=>⟨(fG 0 nd),(kc (gZ hr (eF (oh (K:=K) rfl) wJ (by rfl) B.sum vY (dH (eM (fW ["_law_number","_law_step"] [none,none] hX (lh B.zip (dH (dG 0) (dH (dG 1) dM))) (λnd hX=>⟨(m8 2 rfl (fS (fG 0 nd) (fS (fG 1 nd) j7))),eR,(fv (dG 0) (dG 1))⟩))) dM)) dR)),(dG 0)⟩))) (eM (fV dM))) (dP (dZ ji)) ei))))
  (dO (d8 4 nd (dW O15 hr (dH (eM (fW ["_law_cut_here","_law_dims"] [none,some 2] hX (eP (dG 1)) (λnd hX=>⟨(fG 0 nd),eR,(j1 (dG 0) mX (mU (dG 1)))⟩))) (dH (dG 2) dM))))
  (dP (dZ (lC (pA hr (eF (eX (K:=K)) gJ (by rfl) B.len gB (dH (eB (dG 0) dR) dM)) (og (dG 2) (dG 4))) (md (pA hr (dW O15 hr (dH (eB (dG 0) dR) (dH (dG 2) dM))) (eF (eX (K:=K)) gJ (by rfl) B.len gB (dH (eB (dG 0) dR) dM)))))))))))⟩
theorem J7(D:ee K mg "pivots_and_rests" (fC 22))(O36:CP Z "settled" 4 (kS c))(O37:CF Z "with_pivot" 4 (iw c)):CP Z "pivots_and_rests" 5 (fL c):=gQ Z 4 (fL c) ["rows","dims","pivots","rests","row","left","places"] ["rows","dims"] rfl D λnd hX hr=>⟨_,(dO (d8 2 nd (eM (fV dM)))
  (dO (iO 3 nd (fV dM))
  (dO (h7 PassesOwn.never rfl (eP (dG 0)) (fQ 4 nd) (dO (d8 5 nd (dW O36 hr (dH (dG 4) (dH (dG 2) dM))))
  (dO (kC ["place","left"] [none,some 5] 6 nd hX (rC.pim (iR B.range (dH (dG 1) dM))) (λnd hX=>⟨(fG 0 nd),(kc (gZ hr (eB (dG 1) (dG 0)) dR)),(dG 0)⟩) jP)
  (dP (eQ (iS hr (dG 6) (eM (fV dM))) (dP (qQ 3 (pv 3) (dG 5))) (dP (d8 2 nd (eM (ku O37 hr (dH (dG 2) (dH (dG 5) (dH (eB (dG 6) dR) dM))))))))))))
  (dP (dZ (kg (dH (dG 2) (dH (dG 3) dM))))))))⟩
theorem JK(D:ee K mg "filled" (fC 25))(O29:CP Z "over" 3 (qd c))(O38:CP Z "left_for" 4 (ka c)):CP Z "filled" 5 (kY c):=gQ Z 4 (kY c) ["pivots","parts","spot","place","pivot"] ["pivots","parts"] rfl D λnd hX hr=>⟨_,(dO (iO 2 nd (i7 (ie (K:=K)) jQ (by rfl) B.list iQ (dH (dG 1) dM)))
  (dO (h7 PassesOwn.never rfl (eP (dG 0)) (oH 2 rfl (gj (fQ 3 nd) (gj (fQ 4 nd) kR))) (dP (nY 2 (pv 2) (dG 3) (dW O29 hr (dH (dW O38 hr (dH (dG 4) (dH (dG 1) dM))) (dH (kg (dH (eB (dG 4) (dG 3)) (dH dR dM))) dM))))))
  (dP (dZ (gU (gO (K:=K)) iX (by rfl) B.tuple gI (dH (dG 2) dM))))))⟩
theorem JG(D:ee K mg "ways_along" (fC 28))(O39:CP Z "way_along" 4 (iT c))(O4:CF Z "free_places" 1 (iN c)):CF Z "ways_along" 5 (iu c):=sQ Z 4 (iu c) ["pivots","dims"] ["pivots","dims"] rfl D λnd hX hr=>⟨_,(dP (nr (fW ["free","pivots","dims"] [none,some 0,some 1] hX (eP (eM (ku O4 hr (dH (dG 0) (dH (dG 1) dM))))) (λnd hX=>⟨(fG 0 nd),eR,(dW O39 hr (dH (dG 1) (dH (dG 2) (dH (dG 0) dM))))⟩))))⟩
theorem JN(D:iH K c.Cutting "__init__" "Cutting.__init__" (ko (fC 40) 0))(O40:CP Z "checked_cuts" 4 (gF c)):zb P w K mg base "Cutting" c.Cutting 5 (wX K c.Cutting (gE c)):=Jd Z 4 (gE c) ["self","dims","cuts"] rfl ER.cl_Cutting ER.na_Cutting_own_cuts ER.na_Cutting_own_dims ER.mk_Cutting ER.kp_Cutting ER.mg_Cutting D λhr=>IV rfl (pv 0) (dW O40 hr (dH (dG 1) (dH (dG 2) dM))) (pv 0) (dG 1)
theorem JC(D:ee K mg "meet" (fC 30))(O6:iG P w K mg base c.Cutting "dims" 1 (rj K (f6 c)))(O7:iG P w K mg base c.Cutting "cuts" 1 (vT K (fZ c)))(O42:CP Z "pivots_and_rests" 5 (fL c))(O31:CP Z "are_numbers_of_cuts" 3 (fw c))(O3:CF Z "weighted" 1 (jC c))(O43:CP Z "filled" 5 (kY c))(O44:CF Z "ways_along" 5 (iu c)):CP Z "meet" 6 (l7 c):=gQ Z 5 (l7 c) ["cutting","some","dims","cuts","found","rest","pivots"] ["cutting","some"] rfl D λnd hX hr=>⟨_,(dO (eQ (fJ (hZ (dW O31 hr (dH (dG 0) (dH (dG 1) dM))))) (dP mx) ei)
  (dO (d8 2 nd (wO O6 hr (dG 0)))
  (dO (d8 3 nd (eM (AU O7 hr (dG 0))))
  (dO (d8 4 nd (dW O42 hr (dH (eM (ku O3 hr (dH (eM (fW ["k","cuts"] [none,some 3] hX (eP (dG 1)) (λnd hX=>⟨(fG 0 nd),eR,(eB (dG 1) (dG 0))⟩))) dM))) (dH (dG 2) dM))))
  (dO (h7 PassesOwn.never rfl (eP (eB (dG 4) dR)) (fQ 5 nd) (dP (eQ (gZ hr (eB (dG 5) (dG 2)) dR) (dP (nN (kX oo (pS (i7 (ie (K:=K)) jQ (by rfl) B.list iQ (dH (j1 (dG 5) (mU (gx (dG 2) dR)) mX) dM)))))) ei)))
  (dO (d8 6 nd (eB (dG 4) dR))
  (dP (nN (kX oo (kX (dW O43 hr (dH (dG 6) (dH (eM (oF (eM (fV (dH (kg (dH dR (dH dR dM))) dM))) (dG 2))) dM))) (pS (ku O44 hr (dH (dG 6) (dH (dG 2) dM))))))))))))))⟩
theorem Kf(D:ee K mg "meet" (fC 30))(O6:iG P w K mg base c.Cutting "dims" 1 (rj K (f6 c)))(O7:iG P w K mg base c.Cutting "cuts" 1 (vT K (fZ c)))(O42:CP Z "pivots_and_rests" 5 (fL c))(O31:CP Z "are_numbers_of_cuts" 3 (fw c))(O3:CF Z "weighted" 1 (jC c))(O43:CP Z "filled" 5 (kY c))(O44:CF Z "ways_along" 5 (iu c)):CN Z "meet" 6 (lx c):=HY Z 5 (lx c) ["cutting","some","dims","cuts","found","rest","pivots"] ["cutting","some"] rfl D λnd hX hr=>⟨_,(dO (eQ (fJ (hZ (dW O31 hr (dH (dG 0) (dH (dG 1) dM))))) (dP mx) ei)
  (dO (d8 2 nd (wO O6 hr (dG 0)))
  (dO (d8 3 nd (eM (AU O7 hr (dG 0))))
  (dO (d8 4 nd (dW O42 hr (dH (eM (ku O3 hr (dH (eM (fW ["k","cuts"] [none,some 3] hX (eP (dG 1)) (λnd hX=>⟨(fG 0 nd),eR,(eB (dG 1) (dG 0))⟩))) dM))) (dH (dG 2) dM))))
  (dO (h7 PassesOwn.never rfl (eP (eB (dG 4) dR)) (fQ 5 nd) (dP (eQ (gZ hr (eB (dG 5) (dG 2)) dR) (dP (nN (kX oo (pS (i7 (ie (K:=K)) jQ (by rfl) B.list iQ (dH (j1 (dG 5) (mU (gx (dG 2) dR)) mX) dM)))))) ei)))
  (dO (d8 6 nd (eB (dG 4) dR))
  (dP (nN (kX oo (kX (dW O43 hr (dH (dG 6) (dH (eM (oF (eM (fV (dH (kg (dH dR (dH dR dM))) dM))) (dG 2))) dM))) (pS (ku O44 hr (dH (dG 6) (dH (dG 2) dM))))))))))))))⟩
theorem JJ(D:ee K mg "_law_right" (fC 57))(O46:CP Z "meet" 6 (l7 c))(O41:CP Z "_law_met" 4 (kH c))(O35:CP Z "_law_apart" 3 (jM c)):CP Z "_law_right" 7 (ia c):=gQ Z 6 (ia c) ["_law_cutting","_law_cuts_here","_law_dims","_law_numbers_here","_law_handed","_law_told","_law_some"] ["_law_cutting","_law_cuts_here","_law_dims","_law_numbers_here"] rfl D λnd hX hr=>⟨_,(dO (d8 4 nd (eM (i7 (ie (K:=K)) jQ (by rfl) B.list iQ (dH (dG 3) dM))))
  (dO (d8 5 nd (dW O46 hr (dH (dG 0) (dH (dG 4) dM))))
  (dO (kC ["_law_k","_law_cuts_here"] [none,some 1] 6 nd hX (eP (dG 3)) (λnd hX=>⟨(fG 0 nd),eR,(eB (dG 1) (dG 0))⟩) jP)
  (dO (eQ (pH (jS (gZ hr (dG 4) (dG 3)) (jG (fJ (hZ (jy "tuple" (by decide) B.isinstance B.tuple gI (dG 5))))))) (dP (dZ ji)) ei)
  (dO (eQ (pH (yh (iS hr (eF (eX (K:=K)) gJ (by rfl) B.len gB (dH (dG 5) dM)) dR) (uH (iS hr (eB (dG 5) dR) oo)))) (dP (dZ (dW O41 hr (dH (dG 5) (dH (dG 6) (dH (dG 2) dM)))))) ei)
  (dP (dZ (lC (pA hr (eF (eX (K:=K)) gJ (by rfl) B.len gB (dH (dG 5) dM)) dR) (lC (pA hr (eB (dG 5) dR) oo) (md (dW O35 hr (dH (dG 5) (dH (dG 6) (dH (dG 2) dM))))))))))))))⟩
theorem oL{f0:Addr}{fd:FuncData}(D:B7 K "law" "law" (fC 58) f0 fd)(O33:CF Z "_law_cuts" 3 (jb c))(O45:zb P w K mg base "Cutting" c.Cutting 5 (wX K c.Cutting (gE c)))(O10:CP Z "_law_draw" 1 (eg c))(O25:CF Z "_law_picked" 2 (iD c))(O9:CP Z "_law_cell_at" 1 (eS c))(O47:CP Z "_law_right" 7 (ia c))(O46:CP Z "meet" 6 (l7 c))(N46:CN Z "meet" 6 (lx c)):j6 P w K mg base qX 8 f0 fd ["_law_script"] (rj K (pL c)):=HI Z 7 (pL c) ["_law_script","_law_dims","_law_cuts_here","_law_cutting","_law_lists","_law_numbers_here"] ["_law_script"] rfl D λnd hX hr=>⟨_,(dO (d8 1 nd (gx dR (dW O10 hr (dH (dW O9 hr (dH (dG 0) (dH dR dM))) (dH dR (dH dR dM))))))
  (dO (d8 2 nd (eM (ku O33 hr (dH (dG 0) (dH dR (dH (dG 1) (dH (dW O10 hr (dH (dW O9 hr (dH (dG 0) (dH dR dM))) (dH dR (dH dR dM)))) dM)))))))
  (dO (d8 3 nd (Ib O45 hr (dH (dG 1) (dH (dG 2) dM))))
  (dO (kC ["_law_k","_law_script","_law_cuts_here"] [none,some 0,some 2] 4 nd hX (rC.pim (iR B.range (dH dR dM))) (λnd hX=>⟨(fG 0 nd),eR,(eM (ku O25 hr (dH (dW O9 hr (dH (dG 1) (dH (gx dR (dG 0)) dM))) (dH (eF (eX (K:=K)) gJ (by rfl) B.len gB (dH (dG 2) dM)) dM))))⟩) jP)
  (dO (h7 PassesOwn.never rfl (eP (eM (tq (eM (tq (dG 4) (eM (fV (dH (eM (fV dM)) (dH (eM (EB rfl B.list B.range (dH (eF (eX (K:=K)) gJ (by rfl) B.len gB (dH (dG 2) dM)) dM))) dM)))))) (j1 (dG 4) mX (mU dR))))) (fQ 5 nd) (dO (eQ (fJ (hZ (dW O47 hr (dH (dG 3) (dH (dG 2) (dH (dG 1) (dH (dG 5) dM))))))) (dP (dZ ji)) ei)
  (dO (Eg N46 hr (dH (dG 3) (dH (dG 5) dM)))
  (dP (eQ (fJ (hZ (dW O47 hr (dH (dG 3) (dH (dG 2) (dH (dG 1) (dH (dG 5) dM))))))) (dP (dZ ji)) ei)))))
  (dP (dZ ji)))))))⟩
end
theorem Fj{l:W.OpenLaw}{w:World}{K:W.Frag}{h:Heap}{mg:Str->Option Value}{c:Cs}{fa f:Addr}{oc kV doc pm cdv ct:Value}{od an:Option Addr}{osl:Array (Option Value)}(X:K.In h)(G:h.Ns mainGlobals mg)(hfa:mg "law" = some (.ref fa))
  (a:W.nsIn K mainGlobals "law" = some (some (.ref f))) (lk:K.lookup f=some ⟨oc,od,.func (W.fnOf "law" "law" (gA (fC 58)) (fu (fC 58)) (dY (fC 58)) .none kV doc pm an cdv ct),osl⟩) (cc:W.codeIn K cdv "law" = true) (kk:W.keepIn K (.ref f)=true)
  (B:Bs mg) (ER:Er c K mg) (LF:∀ns:LI,(pL c) [.scr ns]=.ok (.bl true)) (D0:ee K mg "is_whole" (fC 7)) (D1:ee K mg "sign_of" (fC 9)) (D2:ee K mg "common_divisor" (fC 10)) (D3:ee K mg "weighted" (fC 19)) (D4:ee K mg "free_places" (fC 23)) (D5:ee K mg "first_place" (fC 36)) (D6:ee K mg "_law_cell_at" (fC 42)) (D7:ee K mg "_law_draw" (fC 43)) (D8:ee K mg "_law_whole" (fC 44)) (D9:ee K mg "_law_common" (fC 45)) (D10:ee K mg "_law_same" (fC 47)) (D11:ee K mg "_law_side" (fC 50)) (D12:ee K mg "_law_rank" (fC 53)) (D13:ee K mg "is_number_of" (fC 8)) (D14:ee K mg "lowest" (fC 11)) (D15:ee K mg "made" (fC 14)) (D16:ee K mg "is_dims" (fC 34)) (D17:ee K mg "is_cut" (fC 35)) (D18:ee K mg "same_spots" (fC 37)) (D19:ee K mg "_law_is_fraction" (fC 46)) (D20:ee K mg "_law_cut" (fC 48)) (D21:ee K mg "_law_numbers" (fC 52)) (D22:ee K mg "_law_picked" (fC 54)) (D23:ee K mg "cleared" (fC 12)) (D24:ee K mg "minus" (fC 15)) (D25:ee K mg "times" (fC 16)) (D26:ee K mg "over" (fC 17)) (D27:ee K mg "whole_way" (fC 26)) (D28:ee K mg "are_numbers_of_cuts" (fC 29)) (D29:ee K mg "can_stand" (fC 38)) (D30:ee K mg "_law_cuts" (fC 49)) (D31:ee K mg "_law_is_spot" (fC 51)) (D32:ee K mg "_law_apart" (fC 56)) (D33:ee K mg "settled" (fC 20)) (D34:ee K mg "with_pivot" (fC 21)) (D35:ee K mg "left_for" (fC 24)) (D36:ee K mg "way_along" (fC 27)) (D37:ee K mg "checked_cuts" (fC 39)) (D38:ee K mg "_law_met" (fC 55)) (D39:ee K mg "pivots_and_rests" (fC 22)) (D40:ee K mg "filled" (fC 25)) (D41:ee K mg "ways_along" (fC 28)) (D42:ee K mg "meet" (fC 30)) (D43:ee K mg "_law_right" (fC 57)) (M0:iH K c.Cutting "dims" "Cutting.dims" (ko (fC 40) 1)) (M1:iH K c.Cutting "cuts" "Cutting.cuts" (ko (fC 40) 2)) (M2:iH K c.Cutting "many" "Cutting.many" (ko (fC 40) 3)) (M3:iH K c.Cutting "__init__" "Cutting.__init__" (ko (fC 40) 0)) :
  ∃fd:FuncData,(∀(s:Shared) (v:Value),BindsTo s fd ⟨[v],[]⟩ [("_law_script",v)])/\∀base:Heap,K.In base->base.Ns mainGlobals mg->j6 l.prog w K mg base qX 8 fa fd ["_law_script"] (yu K):=by
 have e:=hfa.symm.trans (W.mg_of X G a);cases e;refine⟨W.fnOf "law" "law" (gA (fC 58)) (fu (fC 58)) (dY (fC 58)) .none kV doc pm an cdv ct,?bnd,λbase _ _=>?main⟩
 case main=>have Z:Zx l.prog w K mg base:=⟨trivial⟩;have O0:=o0 Z B ER D0;have O1:=o1 Z B ER D1;have O2:=o2 Z B ER D2;have O3:=o3 Z B ER D3;have O4:=o4 Z B ER D4;have O5:=o5 Z B ER D5;have O6:=o6 Z B ER M0;have O7:=o7 Z B ER M1;have O8:=o8 Z B ER M2;have O9:=o9 Z B ER D6;have O10:=JS Z B ER D7;have O11:=JP Z B ER D8;have O12:=JL Z B ER D9;have O13:=J8 Z B ER D10;have O14:=Kj Z B ER D11;have O15:=JX Z B ER D12;have O16:=JZ Z B ER D13 O0;have O17:=J5 Z B ER D14 O2;have O18:=JO Z B ER D15 O2;have O19:=Kg Z B ER D16 O0;have O20:=JW Z B ER D17 O0;have O21:=Kc Z B ER D18 O5;have O22:=JQ Z B ER D19 O11 O12;have O23:=JI Z B ER D20 O10;have O24:=Ka Z B ER D21 O11;have O25:=JD Z B ER D22 O10;have O26:=Kb Z B ER D23 O17 O1;have O27:=J9 Z B ER D24 O18;have O28:=JR Z B ER D25 O18;have O29:=Kh Z B ER D26 O18;have O30:=JE Z B ER D27 O17 O2;have O31:=J4 Z B ER D28 O16 O8;have O32:=JV Z B ER D29 O20 O21;have O33:=JM Z B ER D30 O23 O9 O13;have O34:=Ki Z B ER D31 O22;have O35:=J6 Z B ER D32 O24;have O36:=J1 Z B ER D33 O26;have O37:=JF Z B ER D34 O26;have O38:=JU Z B ER D35 O27 O28;have O39:=J0 Z B ER D36 O30 O18;have O40:=JT Z B ER D37 O19 O32;have O41:=JY Z B ER D38 O15 O34 O24 O14;have O42:=J7 Z B ER D39 O36 O37;have O43:=JK Z B ER D40 O29 O38;have O44:=JG Z B ER D41 O39 O4;have O45:=JN Z B ER M3 O40;have O46:=JC Z B ER D42 O6 O7 O42 O31 O3 O43 O44;have N46:=Kf Z B ER D42 O6 O7 O42 O31 O3 O43 O44;have O47:=JJ Z B ER D43 O46 O41 O35;exact (oL Z B ER (xF (st:=fC 58) lk cc kk) O33 O45 O10 O25 O9 O47 O46 N46).imp (AN λns _ _=>LF ns)
 case bnd=>exact λs v=>.of_eq rfl
end K07
namespace PySem.Challenge.cw_cutlands_k07_where_cuts_meet_holds
theorem tw12121597617830019304:0=0:=rfl
theorem tw13867852920482973747:0=0:=rfl
theorem tw6150112993591636060:0=0:=rfl
theorem tw3883050929093939049:0=0:=rfl
theorem tw13648898476023929090:0=0:=rfl
theorem tw15219938961578040240:0=0:=rfl
theorem tw6720410633402049432:0=0:=rfl
theorem tw610921346293409481:0=0:=rfl
theorem tw2256885587136495780:0=0:=rfl
theorem tw9878058372616973579:0=0:=rfl
theorem tw1229851961582593654:0=0:=rfl
theorem tw3946524318903077125:0=0:=rfl
theorem tw7715294194324744265:0=0:=rfl
theorem tw14707122682290691348:0=0:=rfl
theorem tw6714417466752416583:0=0:=rfl
theorem tw13218784349830297340:0=0:=rfl
theorem tw7094312150306282169:0=0:=rfl
theorem tw3351319409420993092:0=0:=rfl
theorem tw4020175168489344380:0=0:=rfl
theorem tw4609264136253680812:0=0:=rfl
theorem tw8979742977264051485:0=0:=rfl
theorem tw4879068656678667395:0=0:=rfl
theorem tw15453027400020181558:0=0:=rfl
theorem tw16950308588825061448:0=0:=rfl
theorem tw9660593398683088418:0=0:=rfl
theorem tw2105227743436701260:0=0:=rfl
theorem tw4779088708450601456:0=0:=rfl
theorem tw3801106286997187873:0=0:=rfl
theorem tw6184527440260349037:0=0:=rfl
theorem tw15736000719177344876:0=0:=rfl
theorem tw2836941892667304404:0=0:=rfl
theorem tw15120426005970689317:0=0:=rfl
theorem tw5941574149675356851:0=0:=rfl
theorem tw4454975233610371912:0=0:=rfl
theorem tw12724781904933571363:0=0:=rfl
theorem tw3123221475195714539:0=0:=rfl
theorem tw12125167535756143262:0=0:=rfl
theorem tw6594927757818204257:0=0:=rfl
theorem tw10003011139721645790:0=0:=rfl
theorem tw18422481912097686805:0=0:=rfl
theorem tw7308948928692876887:0=0:=rfl
theorem tw6599501270161861297:0=0:=rfl
theorem tw16160353857966900647:0=0:=rfl
theorem tw16383990504108919534:0=0:=rfl
theorem tw435909091027877103:0=0:=rfl
theorem tw11582795843821346629:0=0:=rfl
theorem tw5865766693317782100:0=0:=rfl
theorem tw14868036156216535638:0=0:=rfl
theorem tw16697872373384107478:0=0:=rfl
theorem tw4388558910068182953:0=0:=rfl
theorem tw246090595888507127:0=0:=rfl
theorem tw15211531711734290162:0=0:=rfl
theorem tw3957490202239549266:0=0:=rfl
theorem tw2623944791803730441:0=0:=rfl
theorem tw7732012823883974835:0=0:=rfl
theorem tw7830307473266795350:0=0:=rfl
theorem tw3270373103592707105:0=0:=rfl
theorem tw15106097543678137102:0=0:=rfl
theorem tw12460855319406230280:0=0:=rfl
theorem tw8681840705276957021:0=0:=rfl
theorem tw15980181387110825955:0=0:=rfl
theorem tw2314846728872417747:0=0:=rfl
theorem tw14190716239403150460:0=0:=rfl
theorem tw380129099978720094:0=0:=rfl
theorem tw4819268654476410453:0=0:=rfl
theorem tw5194161641649482816:0=0:=rfl
theorem tw17261839783048444082:0=0:=rfl
theorem tw11047686878563430129:0=0:=rfl
theorem tw18439204171098106271:0=0:=rfl
theorem tw12348414299638327263:0=0:=rfl
theorem tw6063379174007031219:0=0:=rfl
theorem tw12291276280700300913:0=0:=rfl
theorem tw6413631604650121474:0=0:=rfl
theorem tw17390536776753785838:0=0:=rfl
theorem tw2600379841019942414:0=0:=rfl
theorem tw6556437750712776674:0=0:=rfl
theorem tw11810773154444986016:0=0:=rfl
theorem tw10452509209846029293:0=0:=rfl
theorem tw11557915438225278400:0=0:=rfl
theorem tw7845943708769723933:0=0:=rfl
theorem tw12618929833191448720:0=0:=rfl
theorem tw3624057422301655818:0=0:=rfl
theorem tw2773085994057171162:0=0:=rfl
theorem tw10001103613023694163:0=0:=rfl
theorem tw14661809949700894468:0=0:=rfl
theorem tw903311680439739071:0=0:=rfl
theorem tw9569972145063004564:0=0:=rfl
theorem tw9606358357607307248:0=0:=rfl
theorem tw2225072075456627136:0=0:=rfl
theorem tw10488688950590769502:0=0:=rfl
theorem tw17696904587929084355:0=0:=rfl
theorem tw17666911745825847130:0=0:=rfl
theorem tw3562383157474813638:0=0:=rfl
theorem tw10201997835099479209:0=0:=rfl
theorem tw3914331202164625761:0=0:=rfl
theorem tw4792366346750415450:0=0:=rfl
theorem tw6402907841136238022:0=0:=rfl
theorem tw7205976688261580648:0=0:=rfl
theorem tw18207363050468034851:0=0:=rfl
theorem tw10674417160203999106:0=0:=rfl
theorem tw12563676631054567273:0=0:=rfl
theorem tw15358828433878381863:0=0:=rfl
theorem tw875681898454283163:0=0:=rfl
theorem tw10522026042451927900:0=0:=rfl
theorem tw3916835885334240086:0=0:=rfl
theorem tw12827247081163584142:0=0:=rfl
theorem tw16878808386562068507:0=0:=rfl
theorem tw5115506518625673370:0=0:=rfl
theorem tw9350945230935999557:0=0:=rfl
theorem tw9177778278047338364:0=0:=rfl
theorem tw5853253588479804602:0=0:=rfl
theorem tw2924967463633643192:0=0:=rfl
theorem tw7123813973119121058:0=0:=rfl
theorem tw11633605081865277513:0=0:=rfl
theorem tw15556062545905442410:0=0:=rfl
theorem tw12104010076160356330:0=0:=rfl
theorem tw16626123450452817209:0=0:=rfl
theorem tw7323888460352128101:0=0:=rfl
theorem tw6615988166473373459:0=0:=rfl
theorem tw8550547116210578146:0=0:=rfl
theorem tw12381356764186553961:0=0:=rfl
theorem tw15093484857169023279:0=0:=rfl
theorem tw11606032305617543019:0=0:=rfl
theorem tw3326048059130677809:0=0:=rfl
theorem tw8459425677825737854:0=0:=rfl
theorem tw437301930422613909:0=0:=rfl
theorem tw17320853422966527164:0=0:=rfl
end PySem.Challenge.cw_cutlands_k07_where_cuts_meet_holds
open PySem PySem.W PyProof.Rows
set_option Elab.async true
theorem PySem.Challenge.cw_cutlands_k07_where_cuts_meet_holds : PySem.Challenge.rw_cutlands_k07_where_cuts_meet.Holds := by
 w_on;o_law;k_head;(case hw=>w_witness2);k_fill;refine L3.H9 (l:=PySem.Challenge.rw_cutlands_k07_where_cuts_meet) (k:=8) (x:= "_law_script") rfl ⟨rfl,by decide,by decide⟩ rfl (λw h Y=>PySem.W.kIn_of Y) ?F
 case F=>intro w mg fa h KX G hmg;refine' K07.Fj KX G hmg ?a ?l ?c ?k ?B ?E (λns=>CL.AB ns) ?_ ?_ ?_ ?_ ?_ ?_ ?_ ?_ ?_ ?_ ?_ ?_ ?_ ?_ ?_ ?_ ?_ ?_ ?_ ?_ ?_ ?_ ?_ ?_ ?_ ?_ ?_ ?_ ?_ ?_ ?_ ?_ ?_ ?_ ?_ ?_ ?_ ?_ ?_ ?_ ?_ ?_ ?_ ?_ ?_ ?_ ?_ ?_;(case a=>k_is);(case l=>k_is);(case c=>k_is);(case k=>k_is);(case B=>constructor<;>(apply mg_none_of KX G;k_is));(case E=>apply K07.Ij KX G<;>first | k_is | k_exc | decide);all_goals first | (apply L2.Gx KX G<;>k_is) | (apply K07.Ii<;>first | k_is | k_exc | decide)
