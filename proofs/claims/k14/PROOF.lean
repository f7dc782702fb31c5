import PyProof.Rows.All
import Wide.All
import OpenK.AllK
import Wide.FinOn
import Lean
import PyProof.EqAt
import PyProof.EqKinds
import PyProof.TupleCall
import PyProof.P3Eq
import PyProof.NeData
import PyProof.ConsumeWalk
import PyProof.Rows.SumAny
import PyProof.ZipIter
import PyProof.Rows.ZipGen
import PyProof.Rows.SeqMore
import PyProof.FactsAll.tuple
import PyProof.WalksMore
import PyProof.EnumMake
import PyProof.EnumFor
import PyProof.Rows.MinMaxN
import KE.KDictList
import KE.KRevIter
import KE.KItemsList
import PySem.Challenge.RW_cutlands_k14_whole_all_signs
set_option maxRecDepth 100000
set_option maxHeartbeats 0
set_option linter.all false
noncomputable section
section
open PySem
def aa:=@List.getElem?_eq_some_iff
def ae:=@Heap.get?_push_of_some
def af:=@List.getD_eq_getElem?_getD
def ag:=@List.getElem?_eq_getElem
def ai:=@List.mem_append
def aj:=@List.mem_singleton
def ak:=@wpAny_pure
def ao:=@wpAny_bind
def aq:=@List.getElem?_set_ne
def ar:=@Heap.get?_push_size
def au:=@List.mem_of_getElem?
def av:=@List.getElem?_map
def aw:=@List.length_map
def ax:=@List.mem_append_left
def ay:=@List.length_cons
def az:=@Int.le_of_lt
def aA:=@decide_eq_false
def aB:=@decide_eq_true
def aC:=@List.mem_map
def aD:=@Nat.lt_of_lt_of_le
def aE:=@List.mem_cons
def aF:=@Nat.zero_add
def aG:=@Bool.false_ne_true
def aH:=@List.map_map
def aI:=@Int.mul_le_mul_of_nonneg_right
def aJ:=@Nat.le_refl
def aK:=@Heap.lt_size
def aL:=@Nat.ne_of_lt
def aM:=@Nat.le_trans
def aN:=@Classical.byContradiction
def aO:=@Int.mul_nonneg
def aP:=@if_pos
def aQ:=@if_neg
def aR:=@List.mem_range
def aS:=@List.length_append
def aT:=@List.mem_filter
def aU:=@List.getElem_mem
def aV:=@List.of_mem_zip
def aW:=@Int.mul_pos
def aX:=@Int.natAbs_mul
def aY:=@List.map_append
def aZ:=@Nat.lt_irrefl
def a9:=@List.eq_of_mem_replicate
def bg:=@Nat.le_of_lt
def bh:=@List.filterMap_cons
def bj:=@List.mem_cons_self
def bu:=@List.mem_cons_of_mem
def bx:=@Array.length_toList
def bz:=@Nat.ne_of_gt
def bA:=@Int.mul_one
def bB:=@List.mem_filterMap
def bC:=@List.mem_append_right
def bD:=@List.size_toArray
def bE:=@List.any_eq_false
def bF:=@List.map_cons
def bG:=@Nat.lt_succ_self
def bH:=@Nat.zero_le
def bI:=@List.append_nil
def bJ:=@Nat.le_succ
def bK:=@List.nodup_cons
def bL:=@Option.isSome_iff_exists
def bM:=@List.length_take
def bN:=@List.length_replicate
def bO:=@Int.toNat_natCast
def bP:=@Int.ediv_one
def bQ:=@List.filterMap_map
def bR:=@List.length_drop
def bS:=@Bool.and_eq_true
def bT:=@List.length_set
def bU:=@List.all_cons
def bV:=@List.any_cons
def bW:=@List.reverse_cons
def bX:=@List.replicate_succ
def bY:=@List.flatten_cons
def bZ:=@List.append_assoc
def b4:=@List.length_singleton
def b5:=@Nat.succ_mul
def b6:=@List.map_nil
def b7:=@Nat.lt_of_le_of_lt
def b8:=@Nat.add_le_add_left
def b9:=@Bool.false_eq_true
def cf:=@List.lookup_cons
def cg:=@Nat.le_of_succ_le
def cj:=@Nat.lt_succ_of_lt
def ck:=@Option.isSome_some
def cm:=@Nat.le_add_right
def cq:=@Nat.le_succ_of_le
def cu:=@List.range_succ_eq_map
def cv:=@List.all_map
def cw:=@List.any_map
def cx:=@List.take_of_length_le
def cy:=@List.all_eq_true
def cA:=@List.length_nil
def cB:=@Nat.lt_trichotomy
def cC:=@List.pairwise_iff_getElem
def cD:=@List.length_reverse
def cE:=@List.map_congr_left
def cF:=@Int.gcd_dvd_left
def cG:=@Int.gcd_dvd_right
def cH:=@Int.dvd_mul_of_dvd_left
def cI:=@Int.fmod_nonneg_of_pos
def cJ:=@Int.fmod_lt_of_pos
def cK:=@Int.natAbs_natCast
def cL:=@Int.gcd_pos_of_ne_zero_right
def cO:=@Int.mul_assoc
def cP:=@Int.mul_comm
def cQ:=@Int.mul_fdiv_cancel_left
def cS:=@Nat.eq_zero_or_pos
def cT:=@List.lookup_cons_self
def cU:=@List.drop_eq_getElem_cons
def cV:=@List.mem_nil_iff
def cW:=@List.map_take
def cX:=@Nat.not_lt_zero
def cY:=@Nat.pow_le_pow_right
def cZ:=@Nat.le_max_left
def c6:=@Nat.le_max_right
def c7:=@Nat.pow_succ
def c8:=@Int.natAbs_add_le
def c9:=@Int.natAbs_neg
def dc:=@List.drop_zero
def de:=@List.drop_of_length_le
def df:=@List.mem_iff_getElem?
def dg:=@List.dropLast_concat_getLast
def dh:=@Bool.true_and
def dk:=@Nat.two_pow_pos
def dm:=@Int.one_mul
def du:=@List.take_length
def dw:=@List.getElem_map
def dy:=@Int.mul_zero
def dz:=@Int.mul_eq_zero
def dA:=@Int.neg_mul
def dB:=@Int.zero_mul
def dC:=@Int.mul_add
def dD:=@Int.add_zero
def dE:=@List.length_erase_of_mem
def dF:=@List.map_set
def dG:=@List.countP_mono_left
def dH:=@Int.le_refl
def dI:=@Int.le_trans
def dJ:=@Nat.lt_or_ge
def dM:=@List.mem_of_mem_erase
def dN:=@List.countP_eq_length_filter
def dO:=@List.nodup_range
def dP:=@Int.mul_neg_of_pos_of_neg
def dQ:=@Int.lt_trichotomy
def dR:=@Rat.intCast_lt_intCast
def dS:=@Rat.intCast_mul
def dU:=@Int.mul_ne_zero
def dW:=@Rat.mul_pos
def dX:=@Rat.mul_lt_mul_of_pos_right
def dY:=@Rat.lt_of_mul_lt_mul_right
def dZ:=@Rat.le_of_lt
def d8:=@Nat.max_le
def eg:=@List.sum_cons
def ek:=@Int.fdiv_nonneg
def eA:=@Int.mul_le_mul_of_nonneg_left
def eB:=@Int.not_lt
def eC:=@Int.lt_of_mul_lt_mul_right
def eD:=@Int.pow_pos
def eE:=@Int.mul_le_mul
def eF:=@Int.pow_succ
def eG:=@List.map_reverse
def eI:=@Nat.mul_le_mul_left
def eJ:=@Int.eq_of_mul_eq_mul_left
def eK:=@List.mem_or_eq_of_mem_set
def eL:=@List.pairwise_map
def eO:=@List.pairwise_append
def eP:=@List.pairwise_singleton
def eQ:=@Nat.mul_le_mul
def eR:=@List.contains_eq_any_beq
def eS:=@List.length_filter_le
def eT:=@List.filter_append
def eU:=@List.mem_flatMap
def eV:=@Rat.lt_of_mul_lt_mul_left
def eW:=@List.ext_getElem
def eX:=@List.getElem_range
def eY:=@Int.lt_of_mul_lt_mul_left
def eZ:=@List.length_eq_zero_iff
def fg:=@List.filter_sublist
def fj:=@List.length_range
def fv:=@List.length_zip
def fw:=@List.mem_of_mem_drop
def fz:=@List.any_eq_true
def fC:=@List.mem_of_mem_take
def fE:=@List.eq_replicate_iff
def fF:=@List.length_flatMap
def fG:=@List.map_id
def fH:=@List.reverse_reverse
end
set_option Elab.async false
namespace L2
open PySem PySem.Spec PyProof.Rows
abbrev mE:=Sum Int Str
def zv:mE->Value->Bool
 | .inl k,v=>Value.isInt k v
 | .inr x,v=>Value.isStrOf x v
def Rt(w:World):mE->Int
 | .inl k=>hashInt k
 | .inr x=>hashStr w x
theorem jB:∀{k:mE} {v:Value},zv k v=true->(∃i t,k=Sum.inl i/\v=Value.int i t)\/(∃x t,k=Sum.inr x/\v=Value.str x t)
 | .inl i,v,h=>by obtain⟨t,e⟩:=Value.isInt_shape (k:=i) (v:=v) h;exact .inl ⟨i,t,rfl,e⟩
 | .inr x,v,h=>by obtain⟨t,e⟩:=Value.isStrOf_shape (x:=x) (v:=v) h;exact .inr ⟨x,t,rfl,e⟩
theorem FF(i:Int)(t:Tok):zv (.inl i) (.int i t)=true:=by simp[zv,Value.isInt]
theorem GR(x:Str)(t:Tok):zv (.inr x) (.str x t)=true:=by simp[zv,Value.isStrOf]
theorem Pw(a b:Int):decide ((Sum.inl a:mE)=Sum.inl b)=(a == b):=by
 by_cases e:a=b
 ·subst e;simp
 ·have h:¬(Sum.inl a:mE)=Sum.inl b:=λq=>e (Sum.inl.inj q);rw[aA h];exact (beq_eq_false_iff_ne.mpr e).symm
theorem N9(a b:Str):decide ((Sum.inr a:mE)=Sum.inr b)=decide (a=b):=by
 by_cases e:a=b
 ·subst e;simp
 ·have h:¬(Sum.inr a:mE)=Sum.inr b:=λq=>e (Sum.inr.inj q);rw[aA h,aA e]
theorem OI(a:Int)(b:Str):decide ((Sum.inl a:mE)=Sum.inr b)=false:=aA (λq=>nomatch q)
theorem Np(a:Str)(b:Int):decide ((Sum.inr a:mE)=Sum.inl b)=false:=aA (λq=>nomatch q)
def kP(prog:Program)(w:World):PySem.KeyKind prog w mE where
 is:=zv
 hash:=Rt w
 inj:=λv a b ha hb=>by
  rcases jB ha with⟨i,t,rfl,rfl⟩ | ⟨x,t,rfl,rfl⟩
  ·rcases jB hb with⟨j,u,rfl,e⟩ | ⟨y,u,rfl,e⟩
   ·injection e with e1 _;rw[e1]
   ·exact nomatch e
  ·rcases jB hb with⟨j,u,rfl,e⟩ | ⟨y,u,rfl,e⟩
   ·exact nomatch e
   ·injection e with e1 _;rw[e1]
 byValue:=λk v h=>by rcases jB h with⟨i,t,rfl,rfl⟩ | ⟨x,t,rfl,rfl⟩<;>rfl
 pyHash:=λhv h=>by
  rcases jB hv with⟨i,t,rfl,rfl⟩ | ⟨x,t,rfl,rfl⟩
  ·exact wpAny_pyHash_int h
  ·exact wpAny_pyHash_str h
 eqBool:=λhu hv h=>by
  rcases jB hu with⟨i,t,rfl,rfl⟩ | ⟨x,t,rfl,rfl⟩
  ·rcases jB hv with⟨j,u,rfl,rfl⟩ | ⟨y,u,rfl,rfl⟩
   ·rw[Pw] at h;exact wpAny_eqBool_int h
   ·rw[OI] at h;exact SeqAt.EqAt.int_str i t y u _ _ _ _ h
  ·rcases jB hv with⟨j,u,rfl,rfl⟩ | ⟨y,u,rfl,rfl⟩
   ·rw[Np] at h;exact SeqAt.EqAt.str_int x t j u _ _ _ _ h
   ·rw[N9] at h;exact wpAny_eqBool_str h
 «strs»:=λk x t v h=>by
  rcases jB h with⟨i,u,rfl,e⟩ | ⟨y,u,rfl,e⟩
  ·exact nomatch e
  ·injection e with e1 _;subst e1;cases v<;>rfl
theorem A6(prog:Program)(w:World)(i:Int)(t:Tok):(kP prog w).is (.inl i) (.int i t)=true:=FF i t
theorem A0(prog:Program)(w:World)(x:Str)(t:Tok):(kP prog w).is (.inr x) (.str x t)=true:=GR x t
end L2
namespace L2
open PySem PySem.Spec PyProof.Rows
inductive V where
 | non | bl (b:Bool) | int (i:Int) | str (x:Str) | byt (b:Array UInt8) | flt (b:UInt64) | ref (a:Addr) | ty (n:String)
 deriving DecidableEq
def iL:V->Value->Prop
 | .non,u=>u=Value.none
 | .bl b,u=>u=Value.bool b
 | .int i,u=>∃t,u=Value.int i t
 | .str x,u=>∃t,u=Value.str x t
 | .byt b,u=>∃t,u=Value.bytes b t
 | .flt b,u=>∃t,u=Value.float b t
 | .ref a,u=>u=Value.ref a
 | .ty n,u=>u=Value.type n
abbrev ib:List V->List Value->Prop:=Paired iL
theorem ib.length{xs:List V}{us:List Value}(r:ib xs us):xs.length=us.length:=Paired.length r
theorem ib.get:∀{xs:List V} {us:List Value} {i:Nat} {x:V},ib xs us->xs[i]? = some x->∃u,us[i]? = some u/\iL x u
 | _,_,_,_,.nil,e=>by simp at e
 | _,_,0,_,.cons r _,e=>by simp at e;subst e;exact⟨_,rfl,r⟩
 | _,_,i+1,x,.cons _ t,e=>by obtain⟨u,h1,h2⟩:=ib.get (i:=i) (x:=x) t (by simpa using e);exact⟨u,by simpa using h1,h2⟩
theorem ib.set{x:V}{u:Value}(r:iL x u):∀{xs:List V} {us:List Value} (i:Nat),ib xs us->ib (xs.set i x) (us.set i u)
 | _,_,_,.nil=>.nil
 | _,_,0,.cons _ t=>.cons r t
 | _,_,i+1,.cons q t=>.cons q (ib.set r i t)
theorem ib.append:∀{xs ys:List V} {us ws:List Value},ib xs us->ib ys ws->ib (xs++ys) (us++ws)
 | _,_,_,_,.nil,s=>s
 | _,_,_,_,.cons r t,s=>.cons r (ib.append t s)
theorem ib.take:∀{xs:List V} {us:List Value} (n:Nat),ib xs us->ib (xs.take n) (us.take n)
 | _,_,0,_=>.nil
 | _,_,_+1,.nil=>.nil
 | _,_,n+1,.cons r t=>.cons r (ib.take n t)
theorem ib.drop:∀{xs:List V} {us:List Value} (n:Nat),ib xs us->ib (xs.drop n) (us.drop n)
 | _,_,0,r=>r
 | _,_,_+1,.nil=>.nil
 | _,_,n+1,.cons _ t=>ib.drop n t
def tV:Option V->Option Value->Prop
 | some v,some u=>iL v u
 | none,none=>True
 | _,_=>False
def KV{κ:Type}:List (κ×V)->List (κ×Value)->Prop:=Paired λ(p:κ×V) (q:κ×Value)=>p.1=q.1/\iL p.2 q.2
def kV:mE->V
 | .inl i=>.int i
 | .inr x=>.str x
inductive HO where
 | lst (xs:List V)
 | tup (xs:List V)
 | dK (kvs:List (mE×V)) | dT (kvs:List (List mE×V))
 | set (S:Int->Bool) (n:Nat)
 | ins (C dx:Addr) (fs:List (Str×V))
 | own (x:Addr)
 | xd (fs:List (Str×V))
 | met (f x:Addr)
 | rng (lo hi:Int)
 | frz (o:Obj) (u:HO)
 | tbl (ps:Array Value)
 | ext (φ:Heap->Prop)
abbrev Hp:=Addr->Option HO
def jx(H:Hp)(a:Addr)(o:HO):Hp:=λb=>if b=a then some o else H b
theorem gC{H:Hp}{a:Addr}{o:HO}:jx H a o a=some o:=by unfold jx;rw[aP rfl]
theorem gA{H:Hp}{a b:Addr}{o:HO}(h:b≠a):jx H a o b=H b:=by unfold jx;rw[aQ h]
theorem Qi{H:Hp}{a b:Addr}{o u:HO}(h:H a=some o)(h':H b=some u)(d:o≠u):a≠b:=by intro e;subst e;rw[h] at h';exact d (Option.some.inj h')
theorem hC{H:Hp}{a b:Addr}{o:HO}(h:H a=some o)(h':H b=none):a≠b:=by intro e;subst e;rw[h] at h';cases h'
section
variable (P:Program)(w:World)
def jw(H:Hp)(h:Heap)(a:Addr):HO->Prop
 | .lst xs=>xs.length<=sizeLine/\∃(its:List Value) (n:Nat),ib xs its/\h.get? a=some {cls:=.type "list",data:=.seq its.toArray n}
 | .tup xs=>xs.length<=sizeLine/\∃its:List Value,ib xs its/\IsTup h a its.toArray
 | .dK kvs=>kvs.length<=sizeLine/\(a == sysModules)=false/\∃vs,KV kvs vs/\h.DictOf (kP P w) a vs
 | .dT kvs=>kvs.length<=sizeLine/\(a == sysModules)=false/\∃xs:List (List mE×Addr×Value),
   Paired (λ(p:List mE×V) (q:List mE×Addr×Value)=>p.1=q.1/\H q.2.1=some (.tup (p.1.map kV))/\iL p.2 q.2.2) kvs xs/\
   ∃o es ep,h.get? a=some o/\o.ExactDict/\o.data=.dict es ep/\es.toList=xs.map (entryOfKey (tupleKind (kP P w)))/\(xs.map (·.1)).Nodup
 | .set S n=>h.SetOf (intKind P w) a S n
 | .ins C dx fs=>H dx=some (.own a)/\fs.length<=1000/\dx≠a/\h.get? a=some (W.instObj C dx)/\
   ∃mA,h.Ns1 dx mA/\(∀f,tV (fs.lookup f) (mA f))/\PySem.Within mA (fs.map (·.1))
 | .own _=>∃o,h.get? a=some o
 | .xd fs=>∃mA,h.Ns1 a mA/\∀f,tV (fs.lookup f) (mA f)
 | .rng lo hi=>∃t u v,h.get? a=some {cls:=.type "range",data:=.fields #[.int lo t,.int hi u,.int 1 v]}
 | .frz o u=>h.get? a=some o/\jw H h a u
 | .tbl ps=>h.get? a=some {cls:=.none,data:=.fields ps}
 | .met f x=>h.get? a=some (W.methodObj (.ref f) (.ref x))
 | .ext φ=>φ h/\(∃o,h.get? a=some o)/\∀h1 h2:Heap,φ h1->(∀o,h1.get? a=some o->h2.get? a=some o)->φ h2
def qO(H:Hp)(h:Heap):Prop:=∀a o,H a=some o->jw P w H h a o
end
section
variable {P:Program}{w:World}{H H':Hp}{h h':Heap}{a:Addr}{o:HO}
theorem jw.lt(x:jw P w H h a o):a<h.objs.size:=by
 cases o with
 | lst xs=>obtain⟨_,_,_,_,e⟩:=x;exact aK e
 | tup xs=>obtain⟨_,_,_,p⟩:=x;exact p.lt
 | dK kvs=>obtain⟨_,_,_,_,o,_,_,e,_⟩:=x;exact aK e
 | dT kvs=>obtain⟨_,_,_,_,o,_,_,e,_⟩:=x;exact aK e
 | set S n=>obtain⟨o,_,_,_,e,_⟩:=x;exact aK e
 | ins C dx fs=>obtain⟨_,_,_,e,_⟩:=x;exact aK e
 | own y=>obtain⟨_,e⟩:=x;exact aK e
 | xd fs=>obtain⟨_,⟨_,_,_,e,_⟩,_⟩:=x;exact aK e
 | rng lo hi=>obtain⟨_,_,_,e⟩:=x;exact aK e
 | frz ob u=>obtain⟨e,_⟩:=x;exact aK e
 | tbl ps=>exact aK (show h.get? a=some _ from x)
 | met f y=>exact aK (show h.get? a=some _ from x)
 | ext φ=>obtain⟨_,⟨_,e⟩,_⟩:=x;exact aK e
theorem Paired.mapP{α β:Type}{F G:α->β->Prop}:∀{l₁:List α} {l₂:List β},Paired F l₁ l₂->(∀a b,F a b->G a b)->Paired G l₁ l₂
 | _,_,.nil,_=>.nil
 | _,_,.cons r t,f=>.cons (f _ _ r) (Paired.mapP t f)
theorem Paired.imp'{α β:Type}{F G:α->β->Prop}(f:∀a b,F a b->G a b){l₁:List α}{l₂:List β}(r:Paired F l₁ l₂):Paired G l₁ l₂:=Paired.mapP r f
theorem jw.stay(x:jw P w H h a o)(k:∀b u,(b=a\/H b=some (.own a))->h.get? b=some u->h'.get? b=some u)
  (ho:∀b,H b=some (.own a)->H' b=some (.own a)) (ht:∀b xs,H b=some (.tup xs)->H' b=some (.tup xs)):jw P w H' h' a o:=by
 induction o with
 | lst xs=>obtain⟨z,its,n,r,e⟩:=x;exact⟨z,its,n,r,k _ _ (.inl rfl) e⟩
 | tup xs=>obtain⟨z,its,r,ob,e,c⟩:=x;exact⟨z,its,r,ob,k _ _ (.inl rfl) e,c⟩
 | dK kvs=>obtain⟨z,y,vs,r,ob,es,ep,e,c⟩:=x;exact⟨z,y,vs,r,ob,es,ep,k _ _ (.inl rfl) e,c⟩
 | dT kvs=>obtain⟨z,y,xs,r,ob,es,ep,e,c⟩:=x;exact⟨z,y,xs,Paired.mapP r λp q z=>⟨z.1,ht _ _ z.2.1,z.2.2⟩,ob,es,ep,k _ _ (.inl rfl) e,c⟩
 | set S n=>obtain⟨ob,es,ep,t,e,c⟩:=x;exact⟨ob,es,ep,t,k _ _ (.inl rfl) e,c⟩
 | ins C dx fs=>obtain⟨d,z,ne,e,mA,⟨od,es,ep,e2,c⟩,r⟩:=x;exact⟨ho _ d,z,ne,k _ _ (.inl rfl) e,mA,⟨od,es,ep,k _ _ (.inr d) e2,c⟩,r⟩
 | own y=>obtain⟨ob,e⟩:=x;exact⟨ob,k _ _ (.inl rfl) e⟩
 | xd fs=>obtain⟨mA,⟨od,es,ep,e,c⟩,r⟩:=x;exact⟨mA,⟨od,es,ep,k _ _ (.inl rfl) e,c⟩,r⟩
 | rng lo hi=>obtain⟨t,u,v,e⟩:=x;exact⟨t,u,v,k _ _ (.inl rfl) e⟩
 | frz ob u ih=>obtain⟨e,q⟩:=x;exact⟨k _ _ (.inl rfl) e,ih q⟩
 | tbl ps=>have e:h.get? a=some {cls:=.none,data:=.fields ps}:=x;show h'.get? a=some {cls:=.none,data:=.fields ps};exact k a _ (.inl rfl) e
 | met f y=>have e:h.get? a=some (W.methodObj (.ref f) (.ref y)):=x;show h'.get? a=some (W.methodObj (.ref f) (.ref y));exact k a _ (.inl rfl) e
 | ext φ=>obtain⟨p,⟨o,e⟩,st⟩:=x;exact⟨st _ _ p λo q=>k _ _ (.inl rfl) q,⟨o,k _ _ (.inl rfl) e⟩,st⟩
theorem qO.lt(x:qO P w H h)(e:H a=some o):a<h.objs.size:=(x a o e).lt
theorem qO.fresh(x:qO P w H h)(e:h.objs.size<=a):H a=none:=by
 cases q:H a with
 | none=>rfl
 | some u=>exact absurd (aD (x.lt q) e) (aZ _)
theorem qO.kept(x:qO P w H h)(k:∀b u,h.get? b=some u->h'.get? b=some u):qO P w H h':=λa o e=>(x a o e).stay (λb u _ q=>k b u q) (λ_ q=>q) λ_ _ q=>q
theorem qO.laid(x:qO P w H h)(k:∀b u,h.get? b=some u->h'.get? b=some u)(hp:h.objs.size<=a)(new:jw P w (jx H a o) h' a o):qO P w (jx H a o) h':=λb u e=>by
 have hn:=x.fresh hp;by_cases hb:b=a
 ·subst hb;rw[gC] at e;cases e;exact new
 ·rw[gA hb] at e;exact (x b u e).stay (λc v _ q=>k c v q) (λc q=>by rw[gA (hC q hn)];exact q) λc xs q=>by rw[gA (hC q hn)];exact q
end
def Rd(H:Hp)(a:Addr)(u:HO):Prop:=H a=some u\/∃o,H a=some (.frz o u)
theorem Rd.ok{P:Program}{w:World}{H:Hp}{h:Heap}{a:Addr}{u:HO}(r:Rd H a u)(x:qO P w H h):jw P w H h a u:=by
 rcases r with r | ⟨o,r⟩
 ·exact x a u r
 ·obtain⟨_,q⟩:=x a _ r;exact q
def QY:Option HO->Prop
 | some (.lst _)=>True
 | some (.dK _)=>True
 | some (.dT _)=>True
 | some (.set _ _)=>True
 | some (.ins _ _ _)=>True
 | some (.ext _)=>True
 | _=>False
section
variable {P:Program}{w:World}{H:Hp}{h h':Heap}{x e:Addr}{o':HO}
theorem qO.write(ok:qO P w H h)(mu:QY (H x))(he:e=x\/H e=some (.own x))(k:∀b u,b≠e->h.get? b=some u->h'.get? b=some u)(heo:∃u,h'.get? e=some u)
  (new:jw P w (jx H x o') h' x o'):qO P w (jx H x o') h':=λb u q=>by
 have nown:∀c y,H c=some (.own y)->c≠x:=λc y r z=>by subst z;rw[r] at mu;exact mu
 have ntup:∀c xs,H c=some (.tup xs)->c≠x:=λc xs r z=>by subst z;rw[r] at mu;exact mu
 by_cases hb:b=x
 ·subst hb;rw[gC] at q;cases q;exact new
 ·rw[gA hb] at q;by_cases hbe:b=e
  ·have q':H b=some (.own x):=by
    rcases he with z | z
    ·exact absurd (hbe.trans z) hb
    ·rw[hbe];exact z
   rw[q] at q';cases q';obtain⟨v,hv⟩:=heo;exact⟨v,by rw[hbe];exact hv⟩
  ·refine (ok b u q).stay (λc v hc r=>k c v ?_ r) (λc r=>by rw[gA (nown c b r)];exact r) λc xs r=>by rw[gA (ntup c xs r)];exact r
   rcases hc with rfl | hc
   ·exact hbe
   ·rintro rfl;rcases he with z | z
    ·exact nown c b hc z
    ·rw[hc] at z;cases z;exact hb rfl
end
structure Un(fs ex:List Addr)(H H':Hp)(h h':Heap):Prop where
 keep:∀b o,h.get? b=some o->H b=none->b∉fs->b∉ex->h'.get? b=some o
 slot:∀b o,h.get? b=some o->H b=none->b∈fs->b∉ex->∃sl,h'.get? b=some {o with slots:=sl}
 free:∀b o,h.get? b=some o->H b=none->b∉ex->H' b=none
 there:∀b o,h.get? b=some o->b∉ex->∃o',h'.get? b=some o'
 tups:∀b xs,H b=some (.tup xs)->H' b=some (.tup xs)
 frzs:∀b o u,H b=some (.frz o u)->H' b=some (.frz o u)
 tbls:∀b ps,H b=some (.tbl ps)->∃more,H' b=some (.tbl (ps++more))
section
variable {fs fs' ex ex':List Addr}{H H1 H2:Hp}{h h1 h2 h':Heap}{a x e:Addr}{o:HO}
theorem Un.any(u:Un fs ex H H1 h h1){b:Addr}{ob:Obj}(q:h.get? b=some ob)(n:H b=none)(hx:b∉ex):∃sl,h1.get? b=some {ob with slots:=sl}:=by
 by_cases hb:b∈fs
 ·exact u.slot b ob q n hb hx
 ·exact⟨ob.slots,u.keep b ob q n hb hx⟩
theorem Un.kept(k:∀b u,h.get? b=some u->h'.get? b=some u):Un fs ex H H h h':=⟨λb ob q _ _ _=>k b ob q,λb ob q _ _ _=>⟨ob.slots,k b ob q⟩,λ_ _ _ n _=>n,λb ob q _=>⟨ob,k b ob q⟩,λ_ _ q=>q,λ_ _ _ q=>q,λ_ ps q=>⟨#[],by rw[q];simp⟩⟩
theorem Un.refl:Un fs ex H H h h:=Un.kept λ_ _ q=>q
theorem Un.laid(k:∀b u,h.get? b=some u->h'.get? b=some u)(hp:h.objs.size<=a)(hn:H a=none):Un fs ex H (jx H a o) h h' where
 keep:=λb u q _ _ _=>k b u q
 slot:=λb u q _ _ _=>⟨u.slots,k b u q⟩
 free:=λb u q n _=>by rw[gA (aL (aD (aK q) hp))];exact n
 there:=λb u q _=>⟨u,k b u q⟩
 tups:=λb xs q=>by rw[gA (hC q hn)];exact q
 frzs:=λb u xs q=>by rw[gA (hC q hn)];exact q
 tbls:=λb ps q=>⟨#[],by rw[gA (hC q hn),q];simp⟩
theorem Un.write(mu:QY (H x))(he:e=x\/H e=some (.own x))(k:∀b u,b≠e->h.get? b=some u->h'.get? b=some u)(heo:∃u,h'.get? e=some u):Un fs ex H (jx H x o) h h':=by
 have hx:∀b,H b=none->b≠x:=λb n z=>by subst z;rw[n] at mu;exact mu
 have hb:∀b,H b=none->b≠e:=λb n z=>by
  subst z;rcases he with r | r
  ·exact hx b n r
  ·rw[n] at r;cases r
 have hm:∀b u,H b=some u->¬QY (some u)->b≠x:=λb u q nm z=>by subst z;rw[q] at mu;exact nm mu
 refine⟨λb u q n _ _=>k b u (hb b n) q,λb u q n _ _=>⟨u.slots,k b u (hb b n) q⟩,λb u q n _=>by rw[gA (hx b n)];exact n,λb u q _=>?_,
  λb xs q=>by rw[gA (hm b _ q λz=>z)];exact q,λb u xs q=>by rw[gA (hm b _ q λz=>z)];exact q,λb ps q=>⟨#[],by rw[gA (hm b _ q λz=>z),q];simp⟩⟩
 by_cases hbe:b=e
 ·subst hbe;exact heo
 ·exact⟨u,k b u hbe q⟩
end
def Rb(h:Heap)(H:Hp):List Addr:=(List.range h.objs.size).filter λa=>(H a).isSome
def AU(h:Heap)(H:Hp):Heap:=W.hideAll h (Rb h H)
theorem GN(h:Heap)(H:Hp):(AU h H).objs.size=h.objs.size:=W.hideAll_size _ _
theorem JV{h:Heap}{H:Hp}{b:Addr}{o:Obj}(e:h.get? b=some o)(n:H b=none):(AU h H).get? b=some o:=W.hideAll_get _ e λhm=>by have q:(H b).isSome=true:=(aT.mp hm).2;rw[n] at q;simp at q
theorem LK{h:Heap}{H:Hp}{b:Addr}{o:Obj}(e:(AU h H).get? b=some o):h.get? b=some o/\H b=none:=by
 have e':h.get? b=some o:=W.of_hideAll (Rb h H) e;refine⟨e',?_⟩;cases q:H b with
 | none=>rfl
 | some x=>have hm:b∈Rb h H:=aT.mpr ⟨aR.mpr (aK e'),by simp[q]⟩;have z:(AU h H).get? b=none:=W.hideAll_none (Rb h H) hm;rw[z] at e;cases e
end L2
namespace L2
open PySem PySem.Spec PyProof.Rows
structure Mod(K:W.Frag)(mg:Str->Option Value)(base:Heap):Prop where
 kin:K.In base
 glob:base.Ns mainGlobals mg
 blt:∃mb,base.Ns builtinsNs mb/\∀x:Str,x≠ "__name__" ->mb x=bootBuiltins x
 nolimit:base.NoLimit
structure Cx where
 prog:Program
 w:World
 K:W.Frag
 mg:Str->Option Value
 base:Heap
 A:Around
 N:List Str
 s₀:Shared
 H₀:Hp
 env:Env
 outer:List Env
 stack:List Env
 ex:List Addr
 fn:Str->Bool
 calm:Bool
 pn:List (Addr×Obj)
 xe:Value->Shared->Prop
def Fx(l:List Env):List Addr:=l.filterMap (·.frame)
abbrev Cx.fs(X:Cx):List Addr:=Fx X.outer
def QG(sc:Scope)(x:Str):Prop:=sc.names.lookup x=some .local\/sc.names.lookup x=some .cell\/sc.names.lookup x=some .free
def G8(sc:Scope)(x:Str):Prop:=sc.names.lookup x=some .local\/sc.names.lookup x=some .cell
def RV(env:Env)(h:Heap)(m:Str->Option Value)(x:Str)(u:Value):Prop:=(env.kindOf x=some .local/\m x=some u)\/((env.kindOf x=some .cell\/env.kindOf x=some .free)/\∃c,env.cells.lookup x=some c/\h.IsCell c (some u))
structure Cx.Ok(X:Cx):Prop where
 mod:Mod X.K X.mg X.base
 kind:X.env.scope.kind=.function
 glob:X.env.globals=mainGlobals
 blt:X.env.builtins=builtinsNs
 above:X.s₀.heap.objs.size<=X.env.locals
 inj:∀x y c,X.env.cells.lookup x=some c->X.env.cells.lookup y=some c->x=y
 has:∀x,(X.env.kindOf x=some .cell\/X.env.kindOf x=some .free)->∃c,X.env.cells.lookup x=some c
 cab:∀x c,X.fn x=true->X.env.cells.lookup x=some c->X.s₀.heap.objs.size<=c
 hd:X.calm=true->X.A.handled=none
 frames:X.A.frames=some X.stack
 stk:X.stack=X.outer\/(X.stack=X.env::X.outer/\X.env.frame=some X.env.locals)
 exf:∀b∈X.ex,b≠X.env.locals/\∀x c,X.env.cells.lookup x=some c->c≠b
 bs:∀b o,X.base.get? b=some o->X.s₀.heap.get? b=some o/\X.H₀ b=none
 bsz:X.base.objs.size<=X.s₀.heap.objs.size
 noex:∀b o,X.base.get? b=some o->b∉X.ex
 exfs:∀b∈X.ex,b∉X.fs
 funs:X.s₀.heap.FunFrames X.base X.outer
 frf:∀b∈X.fs,X.H₀ b=none
structure gH(X:Cx)(fO:List (Addr×Obj))(σ:List (Option V))(H:Hp)(s:Shared):Prop where
 ok:X.Ok
 os:s.os=X.s₀.os
 bare:AllBare s.gens
 base:Un X.fs X.ex X.H₀ H X.s₀.heap s.heap
 loc:∃m,s.heap.Ns X.env.locals m/\∀(i:Nat) (x:Str) (v:V),X.N[i]? = some x->σ[i]? = some (some v)->QG X.env.scope x->∃u,iL v u/\RV X.env s.heap m x u
 cell:∀x c,X.env.cells.lookup x=some c->∃v,s.heap.IsCell c v
 free:H X.env.locals=none
 freeC:∀x c,X.env.cells.lookup x=some c->H c=none
 pin:∀p∈X.pn++fO,s.heap.get? p.1=some p.2/\H p.1=none/\p.1≠X.env.locals/\p.1∉X.fs/\∀v,p.2.data≠.cell v
 hok:qO X.prog X.w H s.heap
 len:σ.length=X.N.length
section
variable {X:Cx}{fO:List (Addr×Obj)}{σ:List (Option V)}{H H':Hp}{s:Shared}{h':Heap}
theorem Cx.Ok.nofr(ok:X.Ok){b:Addr}{o:Obj}(e:X.base.get? b=some o):b∉X.fs:=λhb=>by have:=(ok.funs.mem hb).1;rw[e] at this;cases this
theorem gH.bs(I:gH X fO σ H s):∀b o,X.base.get? b=some o->s.heap.get? b=some o/\H b=none:=λb o e=>⟨I.base.keep b o (I.ok.bs b o e).1 (I.ok.bs b o e).2 (I.ok.nofr e) (I.ok.noex b o e),I.base.free b o (I.ok.bs b o e).1 (I.ok.bs b o e).2 (I.ok.noex b o e)⟩
theorem gH.bk(I:gH X fO σ H s):∀b o,X.base.get? b=some o->s.heap.get? b=some o:=λb o e=>(I.bs b o e).1
theorem gH.mod(I:gH X fO σ H s):Mod X.K X.mg X.base:=I.ok.mod
theorem gH.kIn(I:gH X fO σ H s):X.K.In s.heap:=I.ok.mod.kin.keeps I.bk
theorem gH.lt(I:gH X fO σ H s):X.env.locals<s.heap.objs.size:=let ⟨_,hn,_⟩:=I.loc;hn.lt
theorem gH.sz(I:gH X fO σ H s):X.s₀.heap.objs.size<=s.heap.objs.size:=aM I.ok.above (bg I.lt)
theorem gH.nofs(I:gH X fO σ H s){a:Addr}(h:s.heap.objs.size<=a):a∉X.fs:=λhb=>by obtain⟨_,o,ho,_⟩:=I.ok.funs.mem hb;exact absurd (aD (aK ho) (aM I.sz h)) (aZ _)
theorem gH.cne(I:gH X fO σ H s):∀x c,X.env.cells.lookup x=some c->c≠X.env.locals:=λx c e z=>by obtain⟨v,o,ho,hd⟩:=I.cell x c e;obtain⟨m,⟨o',es,ep,ho',hd',_⟩,_⟩:=I.loc;rw[z,ho'] at ho;cases ho;rw[hd'] at hd;cases hd
theorem gH.funs(I:gH X fO σ H s):s.heap.FunFrames X.base X.outer:=by
 have all:∀(l:List Env),(∀b∈Fx l,b∈X.fs)->X.s₀.heap.FunFrames X.base l->s.heap.FunFrames X.base l:=by
  intro l;induction l with
  | nil=>intro _ _;trivial
  | cons env r ih=>intro hs hl;obtain⟨hk,⟨L,o,hf,hn,ho,hd⟩,hr⟩:=hl;have hL:L∈X.fs:=hs L (by unfold Fx;rw[bh,hf];exact bj);obtain⟨sl,e⟩:=I.base.slot L o ho (I.ok.frf L hL) hL λz=>I.ok.exfs L z hL;exact⟨hk,⟨L,_,hf,hn,e,hd⟩,ih (λb hb=>hs b (by unfold Fx;rw[bh,hf];exact bu _ hb)) hr⟩
 exact all X.outer (λ_ hb=>hb) I.ok.funs
theorem gH.stack(I:gH X fO σ H s):s.heap.FunFrames X.base X.stack:=by
 rcases I.ok.stk with e | ⟨e,hf⟩
 ·rw[e];exact I.funs
 ·rw[e];obtain⟨m,hn,_⟩:=I.loc;refine .cons (by rw[I.ok.kind];decide) hf hn ?_ I.funs;exact Heap.get?_none_of_le (aM I.ok.bsz I.ok.above)
theorem gH.stkSub(I:gH X fO σ H s):∀b∈Fx X.stack,b∈X.env.locals::X.fs:=λb hb=>by
 rcases I.ok.stk with e | ⟨e,hf⟩
 ·rw[e] at hb;exact bu _ hb
 ·rw[e] at hb;unfold Fx at hb;rw[bh,hf] at hb;exact hb
theorem gH.stkFree(I:gH X fO σ H s):∀b∈Fx X.stack,H b=none:=λb hb=>by
 rcases aE.mp (I.stkSub b hb) with e | hb
 ·rw[e];exact I.free
 ·obtain⟨_,o,ho,_⟩:=I.ok.funs.mem hb;exact I.base.free b o ho (I.ok.frf b hb) λz=>I.ok.exfs b z hb
theorem gH.step{g':Array GenState}{t':Nat}{d':Drawn}{ch:List Addr}(I:gH X fO σ H s)
  (hch:∀b∈ch,(b∈X.ex\/X.s₀.heap.objs.size<=b)/\b≠X.env.locals/\(∀x c,X.env.cells.lookup x=some c->c≠b)/\∀p∈X.pn++fO,p.1≠b)
  (keep:∀b o,b≠X.env.locals->b∉X.fs->b∉ch->s.heap.get? b=some o->H b=none->h'.get? b=some o)
  (slot:∀b o,b≠X.env.locals->b∈X.fs->b∉ch->s.heap.get? b=some o->H b=none->∃sl,h'.get? b=some {o with slots:=sl}) (free:∀b o,b∉ch->s.heap.get? b=some o->H b=none->H' b=none)
  (there:∀b o,b∉ch->s.heap.get? b=some o->∃o',h'.get? b=some o')
  (tups:∀b xs,H b=some (.tup xs)->H' b=some (.tup xs)) (frzs:∀b o u,H b=some (.frz o u)->H' b=some (.frz o u)) (tbls:∀b ps,H b=some (.tbl ps)->∃more,H' b=some (.tbl (ps++more)))
  (ns:∀m,s.heap.Ns X.env.locals m->h'.Ns X.env.locals m) (hok:qO X.prog X.w H' h') (hg:AllBare g') :
  gH X fO σ H' {s with heap:=h',gens:=g',drawn:=d',toks:=t'}:=by
 have neL:∀b o,X.s₀.heap.get? b=some o->b≠X.env.locals:=λb o e=>aL (aD (aK e) I.ok.above);have neC:∀b o,X.s₀.heap.get? b=some o->b∉X.ex->b∉ch:=λb o e hx hb=>by
  rcases (hch b hb).1 with z | z
  ·exact hx z
  ·exact absurd (aD (aK e) z) (aZ _)
 have cellK:∀x c,X.env.cells.lookup x=some c->∀v,s.heap.IsCell c v->h'.IsCell c v:=λx c e v ⟨o,ho,hd⟩=>by
  have nch:c∉ch:=λz=>(hch c z).2.2.1 x c e rfl;by_cases hc:c∈X.fs
  ·obtain⟨sl,q⟩:=slot c o (I.cne x c e) hc nch ho (I.freeC x c e);exact⟨_,q,hd⟩
  ·exact⟨o,keep c o (I.cne x c e) hc nch ho (I.freeC x c e),hd⟩
 refine⟨I.ok,I.os,hg,⟨λb o e n hb hx=>?_,λb o e n hb hx=>?_,λb o e n hx=>?_,λb o e hx=>?_,λb xs e=>tups b xs (I.base.tups b xs e),λb o xs e=>frzs b o xs (I.base.frzs b o xs e),λb ps e=>?_⟩,?_,λx c e=>?_,?_,λx c e=>?_,λp hp=>?_,hok,I.len⟩
 ·exact keep b o (neL b o e) hb (neC b o e hx) (I.base.keep b o e n hb hx) (I.base.free b o e n hx)
 ·obtain⟨sl,e1⟩:=I.base.slot b o e n hb hx;obtain⟨sl',e2⟩:=slot b _ (neL b o e) hb (neC b o e hx) e1 (I.base.free b o e n hx);exact⟨sl',e2⟩
 ·obtain⟨o',e1⟩:=I.base.there b o e hx;exact free b o' (neC b o e hx) e1 (I.base.free b o e n hx)
 ·obtain⟨o',e1⟩:=I.base.there b o e hx;exact there b o' (neC b o e hx) e1
 ·obtain⟨m1,e1⟩:=I.base.tbls b ps e;obtain⟨m2,e2⟩:=tbls b _ e1;exact⟨m1++m2,by rw[e2,Array.append_assoc]⟩
 ·obtain⟨m,hn,hl⟩:=I.loc;refine⟨m,ns m hn,λi x v e1 e2 e3=>?_⟩;obtain⟨u,r,l⟩:=hl i x v e1 e2 e3;refine⟨u,r,?_⟩;rcases l with l | ⟨k,c,e,z⟩
  ·exact .inl l
  ·exact .inr ⟨k,c,e,cellK x c e _ z⟩
 ·obtain⟨v,z⟩:=I.cell x c e;exact⟨v,cellK x c e v z⟩
 ·obtain⟨m,⟨o,_,_,ho,_⟩,_⟩:=I.loc;exact free _ o (λz=>(hch _ z).2.1 rfl) ho I.free
 ·obtain⟨v,o,ho,hd⟩:=I.cell x c e;exact free c o (λz=>(hch c z).2.2.1 x c e rfl) ho (I.freeC x c e)
 ·obtain⟨e,n,ne,nf,d⟩:=I.pin p hp;have nch:p.1∉ch:=λz=>(hch p.1 z).2.2.2 p hp rfl;exact⟨keep p.1 p.2 ne nf nch e n,free p.1 p.2 nch e n,ne,nf,d⟩
theorem gH.un{t':Nat}(I:gH X fO σ H s)(u:Un X.fs [] H H' s.heap h')(hok:qO X.prog X.w H' h'):gH X fO σ H' {s with heap:=h',toks:=t'}:=by obtain⟨m,⟨o,es,ep,ho,r⟩,_⟩:=id I.loc;obtain⟨sl,hL⟩:=u.any ho I.free (by simp);exact I.step (g':=s.gens) (d':=s.drawn) (ch:=[]) (λ_ z=>nomatch z) (λb o _ hb _ e n=>u.keep b o e n hb (by simp)) (λb o _ hb _ e n=>u.slot b o e n hb (by simp)) (λb o _ e n=>u.free b o e n (by simp)) (λb o _ e=>u.there b o e (by simp)) u.tups u.frzs u.tbls (λm' hm=>by obtain⟨o',es',ep',ho',r'⟩:=hm;rw[ho] at ho';cases ho';exact⟨_,es',ep',hL,r'⟩) hok I.bare
theorem gH.call{g':Array GenState}{t':Nat}{d':Drawn}{ch:List Addr}(I:gH X fO σ H s)(u:Un (Fx X.stack) ch H H' s.heap h')(hok:qO X.prog X.w H' h')(hg:AllBare g')
  (hch:∀b∈ch,(b∈X.ex\/X.s₀.heap.objs.size<=b)/\b≠X.env.locals/\(∀x c,X.env.cells.lookup x=some c->c≠b)/\∀p∈X.pn++fO,p.1≠b) :
  gH X fO σ H' {s with heap:=h',gens:=g',drawn:=d',toks:=t'}:=by
 obtain⟨m,⟨o,es,ep,ho,r⟩,_⟩:=id I.loc;obtain⟨sl,hL⟩:=u.any ho I.free λz=>(hch _ z).2.1 rfl;exact I.step (ch:=ch) hch (λb o hL hb hc e n=>u.keep b o e n (λz=>(aE.mp (I.stkSub b z)).elim hL hb) hc) (λb o _ _ hc e n=>u.any e n hc) (λb o hc e n=>u.free b o e n hc) (λb o hc e=>u.there b o e hc) u.tups u.frzs u.tbls (λm' hm=>by obtain⟨o',es',ep',ho',r'⟩:=hm;rw[ho] at ho';cases ho';exact⟨_,es',ep',hL,r'⟩) hok hg
theorem gH.turned{t':Nat}{it:Addr}(I:gH X fO σ H s)(k:∀b o,b≠it->s.heap.get? b=some o->h'.get? b=some o)(hn:H it=none)(hL:it≠X.env.locals)
  (h1:it∈X.ex\/X.s₀.heap.objs.size<=it) (h2:∀x c,X.env.cells.lookup x=some c->c≠it) (h3:∀p∈X.pn++fO,p.1≠it):gH X fO σ H {s with heap:=h',toks:=t'}:=by
 have nit:∀b u,H b=some u->b≠it:=λb u e z=>by rw[z,hn] at e;cases e
 refine I.step (g':=s.gens) (d':=s.drawn) (ch:=[it]) (λb hb=>?_) (λb o _ _ hc e _=>k b o (λz=>hc (by simp[z])) e) (λb o _ _ hc e _=>⟨o.slots,k b o (λz=>hc (by simp[z])) e⟩) (λ_ _ _ _ n=>n)
  (λb o hc e=>⟨o,k b o (λz=>hc (by simp[z])) e⟩) (λ_ _ e=>e) (λ_ _ _ e=>e) (λb ps e=>⟨#[],by rw[e];simp⟩) (λm hm=>?_) (λb u e=>?_) I.bare
 ·have e:b=it:=by simpa using hb
  subst e;exact⟨h1,hL,h2,h3⟩
 ·obtain⟨o,es,ep,ho,r⟩:=hm;exact⟨o,es,ep,k _ o (Ne.symm hL) ho,r⟩
 ·refine (I.hok b u e).stay (λc v hc q=>k c v ?_ q) (λ_ q=>q) λ_ _ q=>q;rcases hc with z | z
  ·rw[z];exact nit b u e
  ·exact nit c _ z
theorem gH.tok(I:gH X fO σ H s)(t:Nat):gH X fO σ H {s with toks:=t}:=I.un (h':=s.heap) (t':=t) Un.refl I.hok
theorem gH.kept{t':Nat}(I:gH X fO σ H s)(k:∀b u,s.heap.get? b=some u->h'.get? b=some u):gH X fO σ H {s with heap:=h',toks:=t'}:=I.un (Un.kept k) (I.hok.kept k)
theorem gH.laid{a:Addr}{o:HO}{t':Nat}(I:gH X fO σ H s)(k:∀b u,s.heap.get? b=some u->h'.get? b=some u)(hp:s.heap.objs.size<=a)(new:jw X.prog X.w (jx H a o) h' a o) :
  gH X fO σ (jx H a o) {s with heap:=h',toks:=t'}:=I.un (Un.laid k hp (I.hok.fresh hp)) (I.hok.laid k hp new)
theorem gH.write{x e:Addr}{o:HO}{t':Nat}(I:gH X fO σ H s)(mu:QY (H x))(he:e=x\/H e=some (.own x))(k:∀b u,b≠e->s.heap.get? b=some u->h'.get? b=some u)(heo:∃u,h'.get? e=some u)
  (new:jw X.prog X.w (jx H x o) h' x o):gH X fO σ (jx H x o) {s with heap:=h',toks:=t'}:=I.un (Un.write mu he k heo) (I.hok.write mu he k heo new)
theorem gH.weak{σ':List (Option V)}(I:gH X fO σ H s)(hl:σ'.length=σ.length)(w:∀(i:Nat) v,σ'[i]? = some (some v)->σ[i]? = some (some v)):gH X fO σ' H s:=⟨I.ok,I.os,I.bare,I.base,let ⟨m,hn,hl'⟩:=I.loc;⟨m,hn,λi x v e1 e2 e3=>hl' i x v e1 (w i v e2) e3⟩,I.cell,I.free,I.freeC,I.pin,I.hok,hl.trans I.len⟩
theorem gH.pins_of{pins':List (Addr×Obj)}(I:gH X fO σ H s)(h:∀p∈pins',s.heap.get? p.1=some p.2/\H p.1=none/\p.1≠X.env.locals/\p.1∉X.fs/\∀v,p.2.data≠.cell v):gH X pins' σ H s:=⟨I.ok,I.os,I.bare,I.base,I.loc,I.cell,I.free,I.freeC,λp hp=>(ai.mp hp).elim (λz=>I.pin p (ax _ z)) (h p),I.hok,I.len⟩
theorem BZ{N:List Str}(hN:N.Nodup){i j:Nat}{x:Str}(a:N[i]? = some x)(b:N[j]? = some x):i=j:=by obtain⟨h1,e1⟩:=aa.mp a;obtain⟨h2,e2⟩:=aa.mp b;exact (List.getElem_inj hN).mp (e1.trans e2.symm)
theorem zh{M:Model}{A:Around}{E:Value->Shared->Prop}{i:Nat}{x:Str}{v:V}{u:Value}{Q:Unit->Shared->Prop}(I:gH X fO σ H s)(hN:X.N.Nodup)(hi:X.N[i]? = some x)(hx:G8 X.env.scope x)(r:iL v u)
  (h:∀s',gH X fO (σ.set i (some v)) H s'->(∃a,Heap.SameBut a s.heap s'.heap/\(a=X.env.locals\/X.env.cells.lookup x=some a))->Q () s') (hf:X.fn x=true\/X.env.scope.names.lookup x=some .local:=by first | exact .inl rfl | exact .inr rfl | assumption):wpAny M A (storeName X.env x u) Q E s:=by
 obtain⟨m,hn,hl⟩:=id I.loc;have hcls:(X.env.scope.kind == .class||(X.env.scope.kind == .module&&X.env.locals != X.env.globals))=false:=by rw[I.ok.kind];rfl
 have hiσ:i<σ.length:=by rw[I.len];exact (aa.mp hi).1
 have cne:=I.cne;have tracked:∀{a:Addr} {h':Heap},(∃o,s.heap.get? a=some o/\H a=none)->Heap.SameBut a s.heap h'->qO X.prog X.w H h':=λ{a h'} ha hs b ob e=>by
  obtain⟨_,_,hfree⟩:=ha;refine (I.hok b ob e).stay (λc w' hc q=>(hs.2 c ?_).trans q) (λ_ q=>q) λ_ _ q=>q;rintro rfl;rcases hc with rfl | hc
  ·rw[hfree] at e;cases e
  ·rw[hfree] at hc;cases hc
 rcases hx with hk | hk
 ·refine wpAny_storeName_local hk hn (λh' hn' hs=>?_) hcls;obtain⟨oL,_,_,hoL,_⟩:=id hn;refine h _ ⟨I.ok,I.os,I.bare,⟨λb o e n hb hx=>?_,λb o e n hb hx=>?_,I.base.free,λb o e hx=>?_,I.base.tups,I.base.frzs,I.base.tbls⟩,⟨_,hn',λj y v' e1 e2 e3=>?_⟩,λy c e=>?_,I.free,I.freeC,λp hp=>?_,tracked ⟨oL,hoL,I.free⟩ hs,by simpa using I.len⟩ ⟨_,hs,.inl rfl⟩
  ·exact (hs.2 b (aL (aD (aK e) I.ok.above))).trans (I.base.keep b o e n hb hx)
  ·obtain⟨sl,e1⟩:=I.base.slot b o e n hb hx;exact⟨sl,(hs.2 b (aL (aD (aK e) I.ok.above))).trans e1⟩
  ·obtain⟨o',e1⟩:=I.base.there b o e hx;exact⟨o',(hs.2 b (aL (aD (aK e) I.ok.above))).trans e1⟩
  ·by_cases hj:j=i
   ·subst hj;rw[hi] at e1;cases e1;rw[List.getElem?_set_self hiσ] at e2;cases e2;exact⟨u,r,.inl ⟨hk,by simp⟩⟩
   ·rw[aq (Ne.symm hj)] at e2;obtain⟨u',r',q⟩:=hl j y v' e1 e2 e3;refine⟨u',r',?_⟩;rcases q with⟨k,e⟩ | ⟨k,c,e,z⟩
    ·refine .inl ⟨k,?_⟩;have:y≠x:=λe=>hj (BZ hN e1 (e▸hi));simp[this,e]
    ·exact .inr ⟨k,c,e,z.sameBut hs (cne y c e)⟩
  ·obtain⟨w',z⟩:=I.cell y c e;exact⟨w',z.sameBut hs (cne y c e)⟩
  ·obtain⟨e,n,ne,nf,d⟩:=I.pin p hp;exact⟨(hs.2 p.1 ne).trans e,n,ne,nf,d⟩
 ·have hfn:X.fn x=true:=by
   rcases hf with z | z
   ·exact z
   ·rw[z] at hk;cases hk
  obtain⟨c,hc⟩:=I.ok.has x (.inl hk);obtain⟨w',z⟩:=I.cell x c hc;refine wpAny_storeName_cell I.ok.kind hk hc z (λh' hc' hs=>?_);obtain⟨oc,hoc,hocd⟩:=id z;refine h {s with heap:=h'} ⟨I.ok,I.os,I.bare,⟨λb o e n hb hx=>?_,λb o e n hb hx=>?_,I.base.free,λb o e hx=>?_,I.base.tups,I.base.frzs,I.base.tbls⟩,⟨m,hn.sameBut hs (Ne.symm (cne x c hc)),λj y v' e1 e2 e3=>?_⟩,λy c' e=>?_,I.free,I.freeC,λp hp=>?_,tracked ⟨oc,hoc,I.freeC x c hc⟩ hs,by simpa using I.len⟩ ⟨c,hs,.inr hc⟩
  ·exact (hs.2 b (aL (aD (aK e) (I.ok.cab x c hfn hc)))).trans (I.base.keep b o e n hb hx)
  ·obtain⟨sl,e1⟩:=I.base.slot b o e n hb hx;exact⟨sl,(hs.2 b (aL (aD (aK e) (I.ok.cab x c hfn hc)))).trans e1⟩
  ·obtain⟨o',e1⟩:=I.base.there b o e hx;exact⟨o',(hs.2 b (aL (aD (aK e) (I.ok.cab x c hfn hc)))).trans e1⟩
  ·by_cases hj:j=i
   ·subst hj;rw[hi] at e1;cases e1;rw[List.getElem?_set_self hiσ] at e2;cases e2;exact⟨u,r,.inr ⟨.inl hk,c,hc,hc'⟩⟩
   ·rw[aq (Ne.symm hj)] at e2;obtain⟨u',r',q⟩:=hl j y v' e1 e2 e3;refine⟨u',r',?_⟩;rcases q with q | ⟨k,c',e,z'⟩
    ·exact .inl q
    ·refine .inr ⟨k,c',e,z'.sameBut hs ?_⟩;rintro rfl;exact hj (BZ hN e1 (I.ok.inj _ _ _ e hc▸hi))
  ·by_cases hcc:c'=c
   ·subst hcc;exact⟨_,hc'⟩
   ·obtain⟨w2,z2⟩:=I.cell y c' e;exact⟨w2,z2.sameBut hs hcc⟩
  ·obtain⟨e,n,ne,nf,d⟩:=I.pin p hp;refine⟨(hs.2 p.1 ?_).trans e,n,ne,nf,d⟩;intro q;rw[q,hoc] at e;have q':oc=p.2:=Option.some.inj e;exact d w' (by rw[<-q'];exact hocd)
theorem rY{M:Model}{A:Around}{E:Value->Shared->Prop}{i:Nat}{x:Str}{v:V}{u:Value}{Q:Unit->Shared->Prop}(I:gH X fO σ H s)(hN:X.N.Nodup)(hi:X.N[i]? = some x)(hx:G8 X.env.scope x)(r:iL v u)
  (h:∀s',gH X fO (σ.set i (some v)) H s'->Q () s') (hf:X.fn x=true\/X.env.scope.names.lookup x=some .local:=by first | exact .inl rfl | exact .inr rfl | assumption):wpAny M A (storeName X.env x u) Q E s:=
 zh I hN hi hx r (λs' I' _=>h s' I') hf
theorem gH.call'{s':Shared}{ch:List Addr}(I:gH X fO σ H s)(ho:s'.os=s.os)(u:Un (Fx X.stack) ch H H' s.heap s'.heap)(hok:qO X.prog X.w H' s'.heap)(hg:AllBare s'.gens)
  (hch:∀b∈ch,(b∈X.ex\/X.s₀.heap.objs.size<=b)/\b≠X.env.locals/\(∀x c,X.env.cells.lookup x=some c->c≠b)/\∀p∈X.pn++fO,p.1≠b):gH X fO σ H' s':=by
 obtain⟨h',g',d',t',o'⟩:=s';have e:o'=s.os:=ho;subst e;exact I.call (g':=g') (t':=t') (d':=d') u hok hg hch
end
abbrev XK:=Value->Option Addr->Hp->Prop
abbrev St:=List (Option V)
abbrev VK:=V->Hp->Prop
abbrev TE:=St->Hp->VK->Prop
abbrev TT:=St->Hp->(Bool->Hp->Prop)->Prop
abbrev TA:=St->Hp->(List V->Hp->Prop)->Prop
structure Ad where
 nx:St->Hp->Prop
 rt:VK
 bk:St->Hp->Prop:=λ_ _=>False
 ct:St->Hp->Prop:=λ_ _=>False
abbrev TS:=Ad->St->Hp->Prop
def EP(X:Cx)(fO:List (Addr×Obj))(σ:St)(Q:VK)(u:Value)(s':Shared):Prop:=∃v H',gH X fO σ H' s'/\iL v u/\Q v H'
def TP(X:Cx)(fO:List (Addr×Obj))(σ:St)(Q:Bool->Hp->Prop)(b:Bool)(s':Shared):Prop:=∃H',gH X fO σ H' s'/\Q b H'
def AP(X:Cx)(fO:List (Addr×Obj))(σ:St)(Q:List V->Hp->Prop)(us:List Value)(s':Shared):Prop:=∃vs H',gH X fO σ H' s'/\ib vs us/\Q vs H'
def SP(X:Cx)(fO:List (Addr×Obj))(D:Ad)(f:Flow)(s':Shared):Prop:=
 match f with
 | .next=>∃σ' H',gH X fO σ' H' s'/\D.nx σ' H'
 | .brk=>∃σ' H',gH X fO σ' H' s'/\D.bk σ' H'
 | .cont=>∃σ' H',gH X fO σ' H' s'/\D.ct σ' H'
 | .ret u=>∃v σ' H',gH X fO σ' H' s'/\iL v u/\D.rt v H'
def PE(X:Cx)(e:Expr)(t:TE):Prop:=∀(fO:List (Addr×Obj)) (s:Shared) (σ:St) (H:Hp) (Q:VK),gH X fO σ H s->t σ H Q->wpAny (model X.prog X.w) X.A (eval e X.env) (EP X fO σ Q) X.xe s
def PT(X:Cx)(e:Expr)(t:TT):Prop:=∀(fO:List (Addr×Obj)) (s:Shared) (σ:St) (H:Hp) (Q:Bool->Hp->Prop),gH X fO σ H s->t σ H Q->wpAny (model X.prog X.w) X.A (isTrue e X.env (eval e X.env)) (TP X fO σ Q) X.xe s
def PW(X:Cx)(e:Expr)(t:TT):Prop:=∀(whole:Sem Value) (fO:List (Addr×Obj)) (s:Shared) (σ:St) (H:Hp) (Q:Bool->Hp->Prop),gH X fO σ H s->t σ H Q->wpAny (model X.prog X.w) X.A (isTrue e X.env whole) (TP X fO σ Q) X.xe s
theorem PW.pt{X:Cx}{e:Expr}{t:TT}(h:PW X e t):PT X e t:=h _
def PA(X:Cx)(es:List Expr)(t:TA):Prop:=∀(pos:Pos) (fO:List (Addr×Obj)) (s:Shared) (σ:St) (H:Hp) (Q:List V->Hp->Prop),gH X fO σ H s->t σ H Q->wpAny (model X.prog X.w) X.A (spliced (backTo pos (starEach es X.env))) (AP X fO σ Q) X.xe s
def PS(X:Cx)(st:Stmt)(t:TS):Prop:=∀(fO:List (Addr×Obj)) (s:Shared) (σ:St) (H:Hp) (D:Ad),gH X fO σ H s->t D σ H->wpAny (model X.prog X.w) X.A (exec st X.env) (SP X fO D) X.xe s
def B8(X:Cx)(st:List Stmt)(t:TS):Prop:=∀(fO:List (Addr×Obj)) (s:Shared) (σ:St) (H:Hp) (D:Ad),gH X fO σ H s->t D σ H->wpAny (model X.prog X.w) X.A (execs st X.env) (SP X fO D) X.xe s
theorem jN{α:Type}{t:Sem α}{Q Q':α->Shared->Prop}{M:Model}{A:Around}{E:Value->Shared->Prop}{s:Shared}(h:wpAny M A t Q E s)(hQ:∀a s,Q a s->Q' a s):wpAny M A t Q' E s:=wpAny_mono h hQ λ_ _ x=>x
end L2
namespace L2
open PySem PySem.Spec PyProof.Rows
section
variable {X:Cx}
def nt(i:Nat):TE:=λσ H Q=>∃v,σ[i]? = some (some v)/\Q v H
def tC(v:V):TE:=λ_ H Q=>Q v H
theorem Nj{i:Nat}{x:Str}{pos:Pos}(hN:X.N[i]? = some x)(hv:QG X.env.scope x)(hd:(x == ("__debug__" : Str))=false:=by decide)(hcd:(x == ("__classdict__" : Str))=false:=by decide):PE X (.Name x pos) (nt i):=by
 intro fO s σ H Q I h;obtain⟨v,e,h⟩:=h;obtain⟨m,hn,hl⟩:=I.loc;obtain⟨u,r,l⟩:=hl i x v hN e hv;have fin:EP X fO σ Q u s:=⟨v,H,I,r,h⟩;rcases l with⟨hk,hm⟩ | ⟨hk,c,hc,hcell⟩
 ·exact wpAny_Name (wpAny_loadName_local I.ok.kind hk hn hm fin) hd
 ·rcases hk with hk | hk
  ·exact wpAny_Name (wpAny_loadName_cell I.ok.kind hk hc hcell fin) hd
  ·exact wpAny_Name (wpAny_loadName_free I.ok.kind hk hc hcell fin hcd) hd
theorem OJ{i j pos}:PE X (.Constant (.int i) j pos) (tC (.int i)):=λ_ _ _ H _ I h=>wpAny_Constant_int ⟨.int i,H,I.tok _,⟨_,rfl⟩,h⟩
theorem Q5{b j pos}:PE X (.Constant (.bool b) j pos) (tC (.bl b)):=λ_ _ _ H _ I h=>Constant_bool ⟨.bl b,H,I,rfl,h⟩
theorem NN{j pos}:PE X (.Constant .none j pos) (tC .non):=λ_ _ _ H _ I h=>Constant_none ⟨.non,H,I,rfl,h⟩
theorem NU{x j pos}:PE X (.Constant (.str x) j pos) (tC (.str x)):=λ_ _ _ H _ I h=>Calls.Constant_str ⟨.str x,H,I.tok _,⟨_,rfl⟩,h⟩
def Gl(X:Cx)(x:Str):Prop:=X.env.kindOf x=some .globalImplicit
theorem zL{E:Value->Shared->Prop}{fO:List (Addr×Obj)}{s:Shared}{σ:St}{H:Hp}{x:Str}{u:Value}{pos:Pos}{Q:Value->Shared->Prop}(I:gH X fO σ H s)(hg:Gl X x)(hm:X.mg x=some u)(h:Q u s)
  (hd:(x == ("__debug__" : Str))=false:=by decide):wpAny (model X.prog X.w) X.A (eval (.Name x pos) X.env) Q E s:=
 Calls.Name_function_global I.ok.kind hg (Calls.loadGlobal_global (by rw[I.ok.glob];exact I.mod.glob.keeps I.bk) hm h) hd
theorem pG{E:Value->Shared->Prop}{fO:List (Addr×Obj)}{s:Shared}{σ:St}{H:Hp}{x:Str}{u:Value}{pos:Pos}{Q:Value->Shared->Prop}(I:gH X fO σ H s)(hg:Gl X x)(hm:X.mg x=none)(hv:bootBuiltins x=some u)(h:Q u s)
  (hn:x≠ "__name__" :=by decide) (hd:(x == ("__debug__" : Str))=false:=by decide):wpAny (model X.prog X.w) X.A (eval (.Name x pos) X.env) Q E s:=by
 obtain⟨mb,h1,h2⟩:=I.mod.blt;exact Calls.Name_function_global I.ok.kind hg (Calls.loadGlobal_builtin (by rw[I.ok.glob];exact I.mod.glob.keeps I.bk) hm (by rw[I.ok.blt];exact h1.keeps I.bk) ((h2 x hn).trans hv) h) hd
theorem Ki{x:Str}{v:V}{u:Value}{pos:Pos}(hg:Gl X x)(hm:X.mg x=some u)(r:iL v u)(hd:(x == ("__debug__" : Str))=false:=by decide):PE X (.Name x pos) (tC v):=λ_ _ _ H _ I h=>zL I hg hm ⟨v,H,I,r,h⟩ hd
theorem L5{x:Str}{v:V}{u:Value}{pos:Pos}(hg:Gl X x)(hm:X.mg x=none)(hv:bootBuiltins x=some u)(r:iL v u)(hn:x≠ "__name__" :=by decide)(hd:(x == ("__debug__" : Str))=false:=by decide):PE X (.Name x pos) (tC v):=λ_ _ _ H _ I h=>pG I hg hm hv ⟨v,H,I,r,h⟩ hn hd
variable {a b:Expr}{ta tb:TE}{pos:Pos}
def tB(t:TE):TT:=λσ H Q=>t σ H λx H1=>∃c,x=.bl c/\Q c H1
theorem Os{e:Expr}{t:TE}(h:PE X e t)(he:∀whole,isTrue e X.env whole=(do let v <-whole;standAt e.pos;holding [v] (truthy v)):=by intro _;rfl):PT X e (tB t):=by intro fO s σ H Q I hw;refine isTrue_plain (jN (h fO s σ H _ I hw) λv s1 ⟨x,H1,I1,r1,q1⟩=>?_) (he _);obtain⟨d,rfl,q⟩:=q1;cases r1;exact wpAny_truthy_bool ⟨H1,I1,q⟩
variable {tA tB':TT}{nR:List Expr}
def Oq(t u:TT):TT:=λσ H Q=>t σ H λc H1=>if c=true then u σ H1 Q else Q false H1
def RT(t u:TT):TT:=λσ H Q=>t σ H λc H1=>if c=true then Q true H1 else u σ H1 Q
def Oo(t:TT):TT:=λσ H Q=>t σ H λc H1=>Q (!c) H1
theorem Km(ha:PT X a tA):PW X (.BoolOp .And [a] pos) tA:=by
 intro wh fO s σ H Q I h;refine isTrue_and (jN (ha fO s σ H Q I h) λc s1 e=>?_);cases c with
 | true=>exact isTrue_and_nil e
 | false=>exact e
theorem OW(ha:PT X a tA):PW X (.BoolOp .Or [a] pos) tA:=by
 intro wh fO s σ H Q I h;refine isTrue_or (jN (ha fO s σ H Q I h) λc s1 e=>?_);cases c with
 | false=>exact isTrue_or_nil e
 | true=>exact e
theorem OR(ha:PT X a tA)(hb:PW X (.BoolOp .And (b::nR) pos) tB'):PW X (.BoolOp .And (a::b::nR) pos) (Oq tA tB'):=by
 intro wh fO s σ H Q I h;refine isTrue_and (jN (ha fO s σ H _ I h) λc s1 ⟨H1,I1,q1⟩=>?_);cases c with
 | true=>exact hb wh fO s1 σ H1 Q I1 q1
 | false=>exact⟨H1,I1,q1⟩
theorem Qu(ha:PT X a tA)(hb:PW X (.BoolOp .Or (b::nR) pos) tB'):PW X (.BoolOp .Or (a::b::nR) pos) (RT tA tB'):=by
 intro wh fO s σ H Q I h;refine isTrue_or (jN (ha fO s σ H _ I h) λc s1 ⟨H1,I1,q1⟩=>?_);cases c with
 | true=>exact⟨H1,I1,q1⟩
 | false=>exact hb wh fO s1 σ H1 Q I1 q1
theorem Nx(ha:PT X a tA):PT X (.UnaryOp .Not a pos) (Oo tA):=by intro fO s σ H Q I h;exact isTrue_not (ha fO s σ H (λc H1=>Q (!c) H1) I h)
def Hv(ta tb:TE):TE:=λσ H Q=>ta σ H λx H1=>∃c,x=.bl c/\if c=true then tb σ H1 Q else Q (.bl false) H1
def OQ(ta tb:TE):TE:=λσ H Q=>ta σ H λx H1=>∃c,x=.bl c/\if c=true then Q (.bl true) H1 else tb σ H1 Q
def Jd(ta:TE):TE:=λσ H Q=>ta σ H λx H1=>∃c,x=.bl c/\Q (.bl (!c)) H1
theorem NM{op}{t:TE}(h:PE X a t):PE X (.BoolOp op [a] pos) t:=λfO s σ H Q I hw=>BoolOp_one (h fO s σ H Q I hw)
theorem OF(ha:PE X a ta)(hb:PE X (.BoolOp .And (b::nR) pos) tb):PE X (.BoolOp .And (a::b::nR) pos) (Hv ta tb):=by
 intro fO s σ H Q I h;refine BoolOp_and (jN (ha fO s σ H _ I h) λv s1 ⟨x,H1,I1,r1,q1⟩=>?_);obtain⟨c,rfl,q1⟩:=q1;cases r1;refine wpAny_truthy_bool ?_;cases c with
 | true=>exact hb fO s1 σ H1 Q I1 q1
 | false=>exact⟨.bl false,H1,I1,rfl,q1⟩
theorem QC(ha:PE X a ta)(hb:PE X (.BoolOp .Or (b::nR) pos) tb):PE X (.BoolOp .Or (a::b::nR) pos) (OQ ta tb):=by
 intro fO s σ H Q I h;refine BoolOp_or (jN (ha fO s σ H _ I h) λv s1 ⟨x,H1,I1,r1,q1⟩=>?_);obtain⟨c,rfl,q1⟩:=q1;cases r1;refine wpAny_truthy_bool ?_;cases c with
 | false=>exact hb fO s1 σ H1 Q I1 q1
 | true=>exact⟨.bl true,H1,I1,rfl,q1⟩
theorem Nn(ha:PE X a ta):PE X (.UnaryOp .Not a pos) (Jd ta):=by intro fO s σ H Q I h;refine UnaryOp_ (jN (ha fO s σ H _ I h) λv s1 ⟨x,H1,I1,r1,q1⟩=>?_);obtain⟨c,rfl,q1⟩:=q1;cases r1;exact not_of (wpAny_truthy_bool ⟨.bl (!c),H1,I1,rfl,q1⟩)
def Rw(t:TT)(ta tb:TE):TE:=λσ H Q=>t σ H λc H1=>if c=true then ta σ H1 Q else tb σ H1 Q
theorem IL{c:Expr}(hc:PT X c tA)(ha:PE X a ta)(hb:PE X b tb):PE X (.IfExp c a b pos) (Rw tA ta tb):=by
 intro fO s σ H Q I h;refine wpAny_IfExp (jN (hc fO s σ H _ I h) λd s1 ⟨H1,I1,q1⟩=>?_);cases d with
 | true=>exact ha fO s1 σ H1 Q I1 q1
 | false=>exact hb fO s1 σ H1 Q I1 q1
end
end L2
namespace L2
open PySem PySem.Spec PyProof.Rows
def k9(K:W.Frag)(H:Hp)(a:Addr)(xs:List V):Prop:=
 Rd H a (.lst xs)\/
  ∃(o:Obj) (its:Array Value) (n:Nat),K.lookup a=some o/\o.cls=.type "list" /\o.dict=none/\o.data=.seq its n/\its.size<=sizeLine/\ib xs its.toList
def mB(K:W.Frag)(H:Hp)(a:Addr)(xs:List V):Prop:=
 Rd H a (.tup xs)\/
  ∃(o:Obj) (its:Array Value) (n:Nat),K.lookup a=some o/\o.cls=.type "tuple" /\o.data=.seq its n/\its.size<=sizeLine/\ib xs its.toList
def Rv:Value->Option V
 | .none=>some .non
 | .bool b=>some (.bl b)
 | .int i _=>some (.int i)
 | .str x _=>some (.str x)
 | .bytes b _=>some (.byt b)
 | .float b _=>some (.flt b)
 | .ref a=>some (.ref a)
 | .type n=>some (.ty n)
 | _=>none
theorem iL.abs{x:V}{u:Value}(r:iL x u):Rv u=some x:=by
 cases x with
 | non=>cases r;rfl
 | bl _=>cases r;rfl
 | int _=>obtain⟨t,rfl⟩:=r;rfl
 | str _=>obtain⟨t,rfl⟩:=r;rfl
 | byt _=>obtain⟨t,rfl⟩:=r;rfl
 | flt _=>obtain⟨t,rfl⟩:=r;rfl
 | ref _=>cases r;rfl
 | ty _=>cases r;rfl
theorem iL.inj{x y:V}{u:Value}(r:iL x u)(q:iL y u):x=y:=Option.some.inj (r.abs.symm.trans q.abs)
theorem ib.inj:∀{xs ys:List V} {us:List Value},ib xs us->ib ys us->xs=ys
 | _,_,_,.nil,.nil=>rfl
 | _,_,_,.cons r t,.cons r' t'=>by rw[r.inj r',ib.inj t t']
section
variable {X:Cx}{fO:List (Addr×Obj)}{σ:St}{H:Hp}{s:Shared}{a:Addr}{xs ys:List V}
theorem k9.of{K:W.Frag}(h:H a=some (.lst xs)):k9 K H a xs:=.inl (.inl h)
theorem mB.of{K:W.Frag}(h:H a=some (.tup xs)):mB K H a xs:=.inl (.inl h)
theorem gH.list(I:gH X fO σ H s)(h:k9 X.K H a xs):∃its:List Value,ib xs its/\PlainL s.heap a its.toArray/\xs.length<=sizeLine:=by
 rcases h with h | ⟨o,its,n,hk,hc,hd,hs,hz,r⟩
 ·obtain⟨z,its,n,r,e⟩:=h.ok I.hok;exact⟨its,r,⟨_,n,e,rfl,rfl,rfl⟩,z⟩
 ·refine⟨its.toList,r,⟨o,n,I.kIn a o hk,hc,hd,by simpa using hs⟩,?_⟩;have e:=r.length;simp only[bx] at e;omega
theorem gH.tuple(I:gH X fO σ H s)(h:mB X.K H a xs):∃its:List Value,ib xs its/\IsTup s.heap a its.toArray/\xs.length<=sizeLine:=by
 rcases h with h | ⟨o,its,n,hk,hc,hs,hz,r⟩
 ·obtain⟨z,its,r,p⟩:=h.ok I.hok;exact⟨its,r,p,z⟩
 ·refine⟨its.toList,r,⟨o,I.kIn a o hk,hc,n,by simpa using hs⟩,?_⟩;have e:=r.length;simp only[bx] at e;omega
theorem gH.list_inj(I:gH X fO σ H s)(h:k9 X.K H a xs)(h':k9 X.K H a ys):xs=ys:=by
 obtain⟨its,r,⟨o,n,e,_,_,d⟩,_⟩:=I.list h;obtain⟨its',r',⟨o',n',e',_,_,d'⟩,_⟩:=I.list h';rw[e] at e';cases e';rw[d] at d';injection d' with d1 _;have:its=its':=by simpa using congrArg Array.toList d1
 subst this;exact r.inj r'
theorem gH.tuple_inj(I:gH X fO σ H s)(h:mB X.K H a xs)(h':mB X.K H a ys):xs=ys:=by
 obtain⟨its,r,⟨o,e,_,n,d⟩,_⟩:=I.tuple h;obtain⟨its',r',⟨o',e',_,n',d'⟩,_⟩:=I.tuple h';rw[e] at e';cases e';rw[d] at d';injection d' with d1 _;have:its=its':=by simpa using congrArg Array.toList d1
 subst this;exact r.inj r'
end
abbrev Cx.wish(X:Cx)(E:Value->Shared->Prop):Cx:={X with xe:=E}
abbrev Cx.nox(X:Cx):Cx:=X.wish λ_ _=>False
theorem Cx.Ok.wish{X:Cx}(ok:X.Ok)(E:Value->Shared->Prop):(X.wish E).Ok:=⟨ok.mod,ok.kind,ok.glob,ok.blt,ok.above,ok.inj,ok.has,ok.cab,ok.hd,ok.frames,ok.stk,ok.exf,ok.bs,ok.bsz,ok.noex,ok.exfs,ok.funs,ok.frf⟩
theorem Cx.Ok.unwish{X:Cx}{E:Value->Shared->Prop}(ok:(X.wish E).Ok):X.Ok:=⟨ok.mod,ok.kind,ok.glob,ok.blt,ok.above,ok.inj,ok.has,ok.cab,ok.hd,ok.frames,ok.stk,ok.exf,ok.bs,ok.bsz,ok.noex,ok.exfs,ok.funs,ok.frf⟩
section
variable {X:Cx}{fO:List (Addr×Obj)}{σ:St}{H:Hp}{s:Shared}{E:Value->Shared->Prop}
theorem gH.wish(I:gH X fO σ H s)(E:Value->Shared->Prop):gH (X.wish E) fO σ H s:=⟨I.ok.wish E,I.os,I.bare,I.base,I.loc,I.cell,I.free,I.freeC,I.pin,I.hok,I.len⟩
theorem gH.unwish(I:gH (X.wish E) fO σ H s):gH X fO σ H s:=⟨I.ok.unwish,I.os,I.bare,I.base,I.loc,I.cell,I.free,I.freeC,I.pin,I.hok,I.len⟩
theorem SP.unwish{D:Ad}{f:Flow}{s':Shared}(h:SP (X.wish E) fO D f s'):SP X fO D f s':=by
 cases f with
 | next=>obtain⟨σ',H',I,q⟩:=h;exact⟨σ',H',I.unwish,q⟩
 | brk=>obtain⟨σ',H',I,q⟩:=h;exact⟨σ',H',I.unwish,q⟩
 | cont=>obtain⟨σ',H',I,q⟩:=h;exact⟨σ',H',I.unwish,q⟩
 | ret u=>obtain⟨v,σ',H',I,r,q⟩:=h;exact⟨v,σ',H',I.unwish,r,q⟩
theorem B8.nox{st:List Stmt}{t:TS}(h:B8 X.nox st t):B8 X st t:=λfO s σ H D I hw=>wpAny_mono (h fO s σ H D (I.wish _) hw) (λ_ _ q=>q.unwish) λ_ _ z=>False.elim z
end
section
variable {X:Cx}{st:Stmt}{nR:List Stmt}{t u:TS}{e:Expr}{te:TE}{pos:Pos}
def G9:TS:=λD σ H=>D.nx σ H
def L9(t u:TS):TS:=λD σ H=>t {D with nx:=u D} σ H
theorem KQ:B8 X [] G9:=λ_ _ σ H _ I h=>wpAny_execs_nil ⟨σ,H,I,h⟩
theorem BC(h1:PS X st t)(h2:B8 X nR u):B8 X (st::nR) (L9 t u):=by
 intro fO s σ H D I h;refine wpAny_execs_cons (jN (h1 fO s σ H {D with nx:=u D} I h) λf s1 q=>?_);cases f with
 | next=>obtain⟨σ',H',I',q⟩:=q;exact h2 fO s1 σ' H' D I' q
 | ret v=>exact q
 | brk=>exact q
 | cont=>exact q
theorem Ek(h1:PS X st t):B8 X [st] t:=by
 intro fO s σ H D I h;refine wpAny_execs_cons (jN (h1 fO s σ H D I h) λf s1 q=>?_);cases f with
 | next=>exact wpAny_execs_nil q
 | ret v=>exact q
 | brk=>exact q
 | cont=>exact q
theorem gH.quiet{fO:List (Addr×Obj)}{σ:St}{H:Hp}{s:Shared}(I:gH X fO σ H s):interactive X.env=false:=by simp[interactive,I.ok.kind]
def sN(te:TE):TS:=λD σ H=>te σ H λ_ H1=>D.nx σ H1
theorem vK(he:PE X e te)(hs:swapsWith e none pos.line X.env=pure false:=by rfl):PS X (.Expr e pos) (sN te):=by intro fO s σ H D I h;exact wpAny_Expr_any (jN (he fO s σ H _ I h) λv s1 ⟨x,H1,I1,r1,q1⟩=>⟨σ,H1,I1,q1⟩) I.quiet hs
def AD(te:TE):TS:=λD σ H=>te σ H D.rt
theorem AX(he:PE X e te):PS X (.Return (some e) pos) (AD te):=by intro fO s σ H D I h;exact wpAny_Return_some (jN (he fO s σ H _ I h) λv s1 ⟨x,H1,I1,r1,q1⟩=>⟨x,σ,H1,I1,r1,q1⟩)
def Nv(c:TT)(t u:TS):TS:=λD σ H=>c σ H λb H1=>if b=true then t D σ H1 else u D σ H1
theorem Qr{c:Expr}{a b:List Stmt}{tc:TT}(hc:PT X c tc)(ha:B8 X a t)(hb:B8 X b u):PS X (.If c a b pos) (Nv tc t u):=by
 intro fO s σ H D I h;refine wpAny_If (jN (hc fO s σ H _ I h) λd s1 ⟨H1,I1,q1⟩=>?_);cases d with
 | true=>exact ha fO s1 σ H1 D I1 q1
 | false=>exact hb fO s1 σ H1 D I1 q1
def Du:TS:=λ_ _ _=>False
theorem Hi:PS X st Du:=λ_ _ _ _ _ _ h=>h.elim
end
abbrev TG:=V->St->Hp->(St->Hp->Prop)->Prop
abbrev Co:=List V->St->Hp->(St->Hp->Prop)->Prop
def PG(X:Cx)(target:Expr)(t:TG):Prop:=
 ∀(fO:List (Addr×Obj)) (s:Shared) (σ:St) (H:Hp) (v:V) (u:Value) (Q:St->Hp->Prop),gH X fO σ H s->iL v u->t v σ H Q->
  wpAny (model X.prog X.w) X.A (assign target X.env u) (λ_ s'=>∃σ' H',gH X fO σ' H' s'/\Q σ' H') X.xe s
def PN(X:Cx)(ts:List Expr)(t:Co):Prop:=
 ∀(fO:List (Addr×Obj)) (s:Shared) (σ:St) (H:Hp) (vs:List V) (us:List Value) (Q:St->Hp->Prop),gH X fO σ H s->ib vs us->t vs σ H Q->
  wpAny (model X.prog X.w) X.A (assignInOrder ((assignEach ts X.env).map (·.2)) us) (λ_ s'=>∃σ' H',gH X fO σ' H' s'/\Q σ' H') X.xe s
abbrev Ov:=V->V->V->Hp->(Hp->Prop)->Prop
def PX(X:Cx)(t:Ov):Prop:=
 ∀(fO:List (Addr×Obj)) (s:Shared) (σ:St) (H:Hp) (o i v:V) (ov iv u:Value) (Q:Hp->Prop),gH X fO σ H s->iL o ov->iL i iv->iL v u->t o i v H Q->
  wpAny (model X.prog X.w) X.A (setItem ov iv u) (λ_ s'=>∃H',gH X fO σ H' s'/\Q H') X.xe s
section
variable {X:Cx}{pos:Pos}
def kK(i:Nat):TG:=λv σ H Q=>Q (σ.set i (some v)) H
theorem EH{i:Nat}{x:Str}(hN:X.N.Nodup)(hi:X.N[i]? = some x)(hx:G8 X.env.scope x)(hf:X.fn x=true\/X.env.scope.names.lookup x=some .local:=by first | exact .inl rfl | exact .inr rfl | assumption):PG X (.Name x pos) (kK i):=by intro fO s σ H v u Q I r h;exact wpAny_assign_Name (rY I hN hi hx r (λs' I'=>⟨_,H,I',h⟩) hf)
def FU:Co:=λvs σ H Q=>vs=[]/\Q σ H
def xA(t:TG)(u:Co):Co:=λvs σ H Q=>∃v r,vs=v::r/\t v σ H λσ' H'=>u r σ' H' Q
theorem EU:PN X [] FU:=by intro fO s σ H vs us Q I r h;obtain⟨e,h⟩:=h;subst e;cases r;exact assignInOrder_nil ⟨σ,H,I,h⟩
theorem Bv{e:Expr}{es:List Expr}{t:TG}{u:Co}(h1:PG X e t)(h2:PN X es u)
  (hs:(assignEach (e::es) X.env).map (·.2)=assign e X.env::(assignEach es X.env).map (·.2):=by rfl):PN X (e::es) (xA t u):=by
 intro fO s σ H vs us Q I r h;obtain⟨v,vr,e1,h⟩:=h;subst e1;cases r with
 | cons r rr=>rw[hs];refine assignInOrder_cons (jN (h1 fO s σ H _ _ _ I r h) λ_ s1 ⟨σ1,H1,I1,q1⟩=>?_);exact h2 fO s1 σ1 H1 _ _ Q I1 rr q1
def GH(K:W.Frag)(n:Nat)(t:Co):TG:=λv σ H Q=>∃a xs,v=.ref a/\mB K H a xs/\xs.length=n/\t xs σ H Q
theorem Iv{es:List Expr}{k:Nat}{t:Co}{n:Nat}(hc:X.calm=true)(h:PN X es t)
  (hn:(assignEach es X.env).length=n:=by rfl) (hst:(assignEach es X.env).findIdx? (·.1)=none:=by rfl):PG X (.Tuple es k pos) (GH X.K n t):=by
 intro fO s σ H v u Q I r hw;obtain⟨a,xs,e1,hq,hl,hw⟩:=hw;subst e1;cases r;obtain⟨its,rv,ht,hz⟩:=I.tuple hq;refine assign_Tuple_tuple (I.ok.hd hc) ht (by simp[hn,<-hl,rv.length]) hst λh' hx=>?_;have I1:gH X fO σ H {s with heap:=h'}:=I.kept (t':=s.toks) λb o e=>hx b o (aL (aK e)) e;exact h fO _ σ H xs _ Q I1 (by simpa using rv) hw
def NS(to ti:TE)(t:Ov):TG:=λv σ H Q=>to σ H λo H1=>ti σ H1 λi H2=>t o i v H2 λH3=>Q σ H3
theorem Ow{o i:Expr}{to ti:TE}{t:Ov}(ho:PE X o to)(hi:PE X i ti)(hs:PX X t)
  (ha:∀v,assign (.Subscript o i pos) X.env v=(do
   let ov <-holding [v] (eval o X.env)
   let iv <-holding [v,ov] (eval i X.env)
   standAt pos
   holding [v,ov,iv] (setItem ov iv v)
   release [v,ov,iv] []):=by intro _;rfl):PG X (.Subscript o i pos) (NS to ti t):=by
 intro fO s σ H v u Q I r h;rw[ha];refine ao (wpAny_holding (jN (ho fO s σ H _ I h) λov s1 ⟨x,H1,I1,r1,q1⟩=>?_));refine ao (wpAny_holding (jN (hi fO s1 σ H1 _ I1 q1) λiv s2 ⟨y,H2,I2,r2,q2⟩=>?_));refine ao (wpAny_standAt (ao (wpAny_holding (jN (hs fO s2 σ H2 x y v ov iv u _ I2 r1 r2 r q2) λ_ s3 ⟨H3,I3,q3⟩=>?_))));exact wpAny_release ⟨σ,H3,I3,q3⟩
def o5(te:TE)(g:TG):TS:=λD σ H=>te σ H λx H1=>g x σ H1 D.nx
theorem Ji{tg e:Expr}{te:TE}{g:TG}(he:PE X e te)(hg:PG X tg g)(hs:swapsWithSole [tg] e pos.line X.env=pure false:=by rfl)(hw:swappedStores [tg] e X.env=pure none:=by rfl)
  (h1:(assignEach [tg] X.env).map (·.2)=[assign tg X.env]:=by rfl):PS X (.Assign [tg] e pos) (o5 te g):=by
 intro fO s σ H D I h;refine wpAny_Assign_stores (jN (he fO s σ H _ I h) λv s1 ⟨x,H1,I1,r1,q1⟩=>?_) hs hw;rw[h1];exact jN (hg fO s1 σ H1 x v _ I1 r1 q1) λ_ s2 q=>q
theorem zX{i:Nat}{x:Str}{e:Expr}{te:TE}{pos':Pos}(hN:X.N.Nodup)(hi:X.N[i]? = some x)(hx:G8 X.env.scope x)(he:PE X e te)(hs:swapsWith e (some (.Name x pos')) pos.line X.env=pure false:=by rfl)(hf:X.fn x=true\/X.env.scope.names.lookup x=some .local:=by first | exact .inl rfl | exact .inr rfl | assumption) :
  PS X (.Assign [.Name x pos'] e pos) (o5 te (kK i)):=by
 intro fO s σ H D I h;refine wpAny_Assign_Name (jN (he fO s σ H _ I h) λv s1 ⟨y,H1,I1,r1,q1⟩=>?_) hs;exact rY I1 hN hi hx r1 (λs2 I2=>⟨_,H1,I2,q1⟩) hf
def Po(i j:Nat)(ta:TA):TS:=λD σ H=>ta σ H λvs H1=>∃v w,vs=[v,w]/\D.nx ((σ.set i (some v)).set j (some w)) H1
theorem Pr{i j:Nat}{x y:Str}{a b:Expr}{ta:TA}{px py pt:Pos}{kt k2 pt2}(hc:X.calm=true)(hN:X.N.Nodup)(hi:X.N[i]? = some x)(hj:X.N[j]? = some y)(hij:i≠j)
  (hx:X.env.scope.names.lookup x=some .local) (hy:X.env.scope.names.lookup y=some .local) (ha:PA X [a,b] ta)
  (hw:swappedStores [.Tuple [.Name x px,.Name y py] kt pt] (.Tuple [a,b] k2 pt2) X.env=pure (some [x,y]))
  (hs:swapsWithSole [.Tuple [.Name x px,.Name y py] kt pt] (.Tuple [a,b] k2 pt2) pos.line X.env=pure false:=by rfl) :
  PS X (.Assign [.Tuple [.Name x px,.Name y py] kt pt] (.Tuple [a,b] k2 pt2) pos) (Po i j ta):=by
 intro fO s σ H D I h;rw[exec_Assign_arm];refine ao (wpAny_standAt ?_);rw[hs];refine ao (ak ?_);rw[aQ (by decide)];refine ao (Tuple_ (jN (ha _ fO s σ H _ I h) λus s1 ⟨vs,H1,I1,r1,q1⟩=>?_));obtain⟨v,w,e1,q1⟩:=q1;subst e1;obtain⟨u1,u2,rfl,rv,rw'⟩:∃u1 u2,us=[u1,u2]/\iL v u1/\iL w u2:=by
  cases r1 with
  | cons p q=>
   cases q with
   | cons p' q'=>cases q';exact⟨_,_,rfl,p,p'⟩
 refine wpAny_newObj_type ?_ (by show 2<=sizeLine;decide);have I2:gH X fO σ H1 {s1 with heap:=s1.heap.push {cls:=.type "tuple",data:=.seq [u1,u2].toArray}}:=I1.kept (t':=s1.toks) λb o e=>ae _ e;rw[hw];refine ao (ak ?_);show wpAny (model X.prog X.w) X.A (do rule "assign.swapped-stores";let items <-unpackItems (.ref s1.heap.objs.size) 2 none;assignInOrder [λv=>bindName X.env y v,λv=>bindName X.env x v] items.reverse;pure Flow.next) _ _ _;refine ao (wpAny_rule (ao (unpackItems_tuple (items:=#[u1,u2]) (I.ok.hd hc) (IsTup.new s1.heap _) λh' hx'=>?_)));have I3:=I2.kept (h':=h') (t':=s1.toks) λb o e=>hx' b o (aL (aK e)) e;show wpAny _ _ (assignInOrder [λv=>bindName X.env y v,λv=>bindName X.env x v] [u2,u1] >>= λ_=>pure Flow.next) _ _ _;refine ao (assignInOrder_cons (wpAny_bindName (rY I3 hN hj (.inl hy) rw' (λs2 I4=>?_) (.inr hy))));refine assignInOrder_cons (wpAny_bindName (rY I4 hN hi (.inl hx) rv (λs3 I5=>assignInOrder_nil (ak ?_)) (.inr hx)));rw[List.set_comm _ _ (Ne.symm hij)] at I5;exact⟨_,H1,I5,q1⟩
end
section
variable {X:Cx}{pos:Pos}
def Dl(c:TT)(tb:TS):TS:=λD σ H=>∃W:Nat->St->Hp->Prop,(∃m,W m σ H)/\∀m σ H,W m σ H->
 c σ H λb H1=>if b=true then ∃N:St->Hp->Prop,(∀σ' H',N σ' H'->∃m',m'<m/\W m' σ' H')/\tb {D with nx:=N,ct:=N,bk:=D.nx} σ H1 else D.nx σ H1
theorem JM{c:Expr}{body:List Stmt}{tc:TT}{tb:TS}(hp:PassesOwn (model X.prog X.w) X.A X.env X.xe)(hc:PT X c tc)(hb:B8 X body tb):PS X (.While c body [] pos) (Dl tc tb):=by
 intro fO s σ H D I h;obtain⟨W,⟨m0,w0⟩,turn⟩:=h;refine wpAny_While (codeAny_whileLoop (λn s'=>∃σ' H',gH X fO σ' H' s'/\W n σ' H') ?_ m0 ⟨σ,H,I,w0⟩);rintro n s1 ⟨σ1,H1,I1,w1⟩;refine wpAny_passesOwn hp (jN (hc fO s1 σ1 H1 _ I1 (turn n σ1 H1 w1)) λb s2 ⟨H2,I2,q2⟩=>?_);cases b with
 | true=>
  obtain⟨N,hN,q2⟩:=q2;rw[aP rfl];refine wpAny_passesOwn hp (jN (hb fO s2 σ1 H2 _ I2 q2) λf s3 q3=>?_);cases f with
  | next=>obtain⟨σ3,H3,I3,n3⟩:=q3;obtain⟨m',hm,w3⟩:=hN σ3 H3 n3;exact⟨m',hm,σ3,H3,I3,w3⟩
  | cont=>obtain⟨σ3,H3,I3,n3⟩:=q3;obtain⟨m',hm,w3⟩:=hN σ3 H3 n3;exact⟨m',hm,σ3,H3,I3,w3⟩
  | brk=>exact q3
  | ret v=>exact q3
 | false=>rw[aQ aG];exact wpAny_execs_nil ⟨σ1,H2,I2,q2⟩
end
structure It where
 go:Nat->Hp->Prop
 yld:Nat->Hp->V->Hp->Prop
 stop:Nat->Hp->Prop
def sQ(X:Cx)(fO:List (Addr×Obj))(H:Hp)(b:Addr):Prop:=H b=none/\b≠X.env.locals/\b∉X.fs/\(b∈X.ex\/X.s₀.heap.objs.size<=b)/\(∀x c,X.env.cells.lookup x=some c->c≠b)/\∀p∈X.pn++fO,p.1≠b
theorem gH.fpOk{X:Cx}{fO:List (Addr×Obj)}{σ:St}{H H':Hp}{s:Shared}{b:Addr}(I:gH X fO σ H s)(hb:s.heap.objs.size<=b)(hn:H' b=none):sQ X fO H' b:=by
 refine⟨hn,bz (aD I.lt hb),I.nofs hb,.inr (aM I.sz hb),λx c e z=>?_,λp hp z=>?_⟩
 ·obtain⟨v,q⟩:=I.cell x c e;exact absurd (aD q.lt (by rw[z];exact hb)) (aZ _)
 ·exact absurd (aD (aK (I.pin p hp).1) (by rw[z];exact hb)) (aZ _)
structure BG(P:Program)(w:World)(K:W.Frag)(tg:Expr)(J:It)(fp:List Addr)(it:Addr)(tn:Nat->Heap->Prop):Prop where
 mem:it∈fp
 obj:∀i h,tn i h->∀b∈fp,∃o,h.get? b=some o/\∀v,o.data≠.cell v
 keep:∀i h h',tn i h->(∀b∈fp,∀o,h.get? b=some o->h'.get? b=some o)->tn i h'
 item:∀(X:Cx),X.prog=P->X.w=w->X.K=K->X.calm=true->∀(i:Nat) (fO:List (Addr×Obj)) (s:Shared) (σ:St) (H:Hp) (E:Value->Shared->Prop),gH X fO σ H s->(∀b∈fp,sQ X fO H b)->tn i s.heap->J.go i H->
  wpAny (model P w) X.A (pyNext (.ref it)) (λr s1=>∃u,r=some u/\
   wpAny (model P w) X.A (letOwnedTupleGo tg (.ref it) u) (λ_ s2=>∃x H',gH X fO σ H' s2/\iL x u/\J.yld i H x H'/\tn (i+1) s2.heap/\∀b∈fp,H' b=none) E s1) E s
 done:∀(X:Cx),X.prog=P->X.w=w->X.K=K->X.calm=true->∀(i:Nat) (fO:List (Addr×Obj)) (s:Shared) (σ:St) (H:Hp) (E:Value->Shared->Prop),gH X fO σ H s->(∀b∈fp,sQ X fO H b)->tn i s.heap->J.stop i H->
  wpAny (model P w) X.A (pyNext (.ref it)) (λr s1=>r=none/\gH X fO σ H s1) E s
 self:∀(A:Around) (i:Nat) (s:Shared) (Q:Value->Shared->Prop) (E:Value->Shared->Prop),tn i s.heap->Q (.ref it) s->wpAny (model P w) A (pyIter (.ref it)) Q E s
abbrev TI:=St->Hp->(It->Hp->Prop)->Prop
def Sg(X:Cx)(fO:List (Addr×Obj))(σ:St)(tg:Expr)(R:It->Hp->Prop)(itv:Value)(s2:Shared):Prop:=∃(it:Addr) (fp:List Addr) (tn:Nat->Heap->Prop) (J:It) (H':Hp),itv=.ref it/\gH X fO σ H' s2/\BG X.prog X.w X.K tg J fp it tn/\tn 0 s2.heap/\(∀b∈fp,sQ X fO H' b)/\R J H'
def PI(X:Cx)(tg iter:Expr)(wi:TI):Prop:=
 ∀(fO:List (Addr×Obj)) (s:Shared) (σ:St) (H:Hp) (R:It->Hp->Prop),gH X fO σ H s->wi σ H R->
  wpAny (model X.prog X.w) X.A (eval iter X.env) (λv s1=>wpAny (model X.prog X.w) X.A (pyIter v) (Sg X fO σ tg R) X.xe s1) X.xe s
theorem Fc{M:Model}{A:Around}{E:Value->Shared->Prop}{s:Shared}{tg:Expr}{it:Addr}{u:Value}{o:Obj}{n:String}{vs:Array Value}{Q:Unit->Shared->Prop}(ho:s.heap.get? it=some o)(hc:o.cls=.type n)(hd:o.data=.fields vs)
    (hn:["enumerate", "zip", "dict_itemiterator", "dict_reverseitemiterator", "odict_iterator", "itertools.zip_longest", "itertools.pairwise"].contains n=false) (hQ:Q () s):wpAny M A (letOwnedTupleGo tg (.ref it) u) Q E s:=by
  unfold letOwnedTupleGo;cases tg<;>first
    | exact ak hQ
    | (cases u<;>first
        | exact ak hQ
        | (refine ao (wpAny_load ho ?_)
           rw[hc,hd]
           show wpAny M A (if (["enumerate", "zip", "dict_itemiterator", "dict_reverseitemiterator", "odict_iterator", "itertools.zip_longest", "itertools.pairwise"].contains n&&vs[0]? == some (rawInt _))=true then _ else _) Q E s
           rw[aQ (by intro h;rw[hn,Bool.false_and] at h;cases h)]
           exact ak hQ))
def RA(K:W.Frag)(a:Addr):It:=⟨λi H=>∃xs x,k9 K H a xs/\xs[i]? = some x,λi H x H'=>H'=H/\∀xs,k9 K H a xs->xs[i]? = some x,λi H=>∃xs,k9 K H a xs/\xs.length<=i⟩
def Ry(K:W.Frag)(a:Addr):It:=⟨λi H=>∃xs x,mB K H a xs/\xs[i]? = some x,λi H x H'=>H'=H/\∀xs,mB K H a xs->xs[i]? = some x,λi H=>∃xs,mB K H a xs/\xs.length<=i⟩
def P5(lo:Int)(n:Nat):It:=⟨λi _=>i<n,λi H x H'=>H'=H/\x=.int (lo+i),λi _=>n<=i⟩
theorem Gj{P:Program}{w:World}{K:W.Frag}{tg:Expr}(a it:Addr):BG P w K tg (RA K a) [it] it (λi h=>h.IsListIter it a i) where
 mem:=by simp
 obj:=λi h st b hb=>by
  have e:b=it:=by simpa using hb
  subst e;obtain⟨o,e,c,d⟩:=st;exact⟨o,e,λv z=>by rw[d] at z;cases z⟩
 keep:=λi h h' st k=>st.at λo e=>k it (by simp) o e
 item:=by intro X hP hw hK hc i fO s σ H E I hf st hg;subst hP hw hK;obtain⟨xs,x,hq,hx⟩:=hg;obtain⟨its,rv,p,hz⟩:=I.list hq;obtain⟨u,hu,ru⟩:=rv.get hx;obtain⟨f0,f1,f2,f3,f4,f5⟩:=hf it (by simp);refine wpAny_pyNext_list_item st p.isList (x:=u) (by simpa using hu) λh' st' sb=>?_;have I1:gH X fO σ H {s with heap:=h'}:=I.turned (t':=s.toks) (λb o hb e=>(sb.2 b hb).trans e) f0 f1 f3 f4 f5;obtain⟨o,e,c,d⟩:=id st';exact⟨u,rfl,Fc (s:={s with heap:=h'}) e c d (by decide) ⟨x,H,I1,ru,⟨rfl,λys hy=>by rw[I.list_inj hy hq];exact hx⟩,st',λb hb=>(hf b hb).1⟩⟩
 done:=by intro X hP hw hK hc i fO s σ H E I hf st hg;subst hP hw hK;obtain⟨xs,hq,hx⟩:=hg;obtain⟨its,rv,p,hz⟩:=I.list hq;obtain⟨f0,f1,f2,f3,f4,f5⟩:=hf it (by simp);have hl:=rv.length;exact wpAny_pyNext_list_end (I.ok.hd hc) st p.isList (by simp;omega) λh' eb=>⟨rfl,I.turned (t':=s.toks) (λb o hb e=>eb b o hb e) f0 f1 f3 f4 f5⟩
 self:=λ_ _ _ _ _ st h=>wpAny_pyIter_listiter st h
theorem DN{P:Program}{w:World}{K:W.Frag}{tg:Expr}(a it:Addr):BG P w K tg (Ry K a) [it] it (λi h=>h.IsTupleIter it a i) where
 mem:=by simp
 obj:=λi h st b hb=>by
  have e:b=it:=by simpa using hb
  subst e;obtain⟨o,e,c,d⟩:=st;exact⟨o,e,λv z=>by rw[d] at z;cases z⟩
 keep:=λi h h' st k=>st.at λo e=>k it (by simp) o e
 item:=by intro X hP hw hK hc i fO s σ H E I hf st hg;subst hP hw hK;obtain⟨xs,x,hq,hx⟩:=hg;obtain⟨its,rv,p,hz⟩:=I.tuple hq;obtain⟨u,hu,ru⟩:=rv.get hx;obtain⟨f0,f1,f2,f3,f4,f5⟩:=hf it (by simp);refine wpAny_pyNext_tuple_item st (show s.heap.IsTuple a its.toArray from p) (x:=u) (by simpa using hu) λh' st' sb=>?_;have I1:gH X fO σ H {s with heap:=h'}:=I.turned (t':=s.toks) (λb o hb e=>(sb.2 b hb).trans e) f0 f1 f3 f4 f5;obtain⟨o,e,c,d⟩:=id st';exact⟨u,rfl,Fc (s:={s with heap:=h'}) e c d (by decide) ⟨x,H,I1,ru,⟨rfl,λys hy=>by rw[I.tuple_inj hy hq];exact hx⟩,st',λb hb=>(hf b hb).1⟩⟩
 done:=by intro X hP hw hK hc i fO s σ H E I hf st hg;subst hP hw hK;obtain⟨xs,hq,hx⟩:=hg;obtain⟨its,rv,p,hz⟩:=I.tuple hq;obtain⟨f0,f1,f2,f3,f4,f5⟩:=hf it (by simp);have hl:=rv.length;exact wpAny_pyNext_tuple_end (I.ok.hd hc) st (show s.heap.IsTuple a its.toArray from p) (by simp;omega) λh' eb=>⟨rfl,I.turned (t':=s.toks) (λb o hb e=>eb b o hb e) f0 f1 f3 f4 f5⟩
 self:=λ_ _ _ _ _ st h=>wpAny_pyIter_tupleiter st h
theorem Eb{P:Program}{w:World}{K:W.Frag}{tg:Expr}(it:Addr)(lo:Int)(n:Nat):BG P w K tg (P5 lo n) [it] it (λi h=>IsRangeIter h it (lo+(i:Nat)*1) ((n:Int) - (i:Nat)) 1) where
 mem:=by simp
 obj:=λi h st b hb=>by
  have e:b=it:=by simpa using hb
  subst e;exact⟨_,st,λv z=>by have z':Data.fields _=Data.cell v:=z;cases z'⟩
 keep:=λi h h' st k=>k it (by simp) _ st
 item:=by intro X hP hw hK hc i fO s σ H E I hf st hg;subst hP hw hK;obtain⟨f0,f1,f2,f3,f4,f5⟩:=hf it (by simp);have W:=Walks.range (prog:=X.prog) (w:=X.w) (I.ok.hd hc) it lo 1 n;refine W.item i s _ _ hg st λv h' tk hv st' kk=>?_;obtain⟨t,rfl⟩:=hv;have I1:gH X fO σ H {s with heap:=h',toks:=tk}:=I.turned (λb o hb e=>kk b o (by simpa using hb) e) f0 f1 f3 f4 f5;refine⟨_,rfl,Fc (s:={s with heap:=h',toks:=tk}) (n:= "range_iterator") st' rfl rfl (by decide) ⟨.int (lo+i),H,I1,⟨t,?_⟩,⟨rfl,rfl⟩,st',λb hb=>(hf b hb).1⟩⟩;rw[bA]
 done:=by intro X hP hw hK hc i fO s σ H E I hf st hg;subst hP hw hK;obtain⟨f0,f1,f2,f3,f4,f5⟩:=hf it (by simp);exact wpAny_pyNext_range_end (I.ok.hd hc) st (by have:n<=i:=hg;omega) λh' eb=>⟨rfl,I.turned (t':=s.toks) (λb o hb e=>eb b o hb e) f0 f1 f3 f4 f5⟩
 self:=λ_ _ _ _ _ st h=>wpAny_pyIter_rangeiter st h
end L2
namespace L2
open PySem PySem.Spec PyProof.Rows
section
variable {X:Cx}{tg:Expr}
def IX(K:W.Frag)(tl:TE):TI:=λσ H R=>tl σ H λx H1=>∃a,x=.ref a/\(∃xs,k9 K H1 a xs)/\R (RA K a) H1
def N2(K:W.Frag)(tl:TE):TI:=λσ H R=>tl σ H λx H1=>∃a,x=.ref a/\(∃xs,mB K H1 a xs)/\R (Ry K a) H1
theorem K8{l:Expr}{tl:TE}(hl:PE X l tl):PI X tg l (IX X.K tl):=by
 intro fO s σ H R I h;refine jN (hl fO s σ H _ I h) λv s1 ⟨x,H1,I1,r1,q1⟩=>?_;obtain⟨a,e,⟨xs,hq⟩,q⟩:=q1;subst e;cases r1;obtain⟨its,rv,p,hz⟩:=I1.list hq;refine wpAny_pyIter_list p.isList ?_;refine⟨s1.heap.objs.size,[s1.heap.objs.size],_,_,H1,rfl,I1.kept (t':=s1.toks) λb o e=>ae _ e,Gj a _,⟨_,ar _ rfl,rfl,rfl⟩,λb hb=>?_,q⟩;have e:b=s1.heap.objs.size:=by simpa using hb
 subst e;exact I1.fpOk (aJ _) (I1.hok.fresh (aJ _))
theorem Ob{l:Expr}{tl:TE}(hl:PE X l tl):PI X tg l (N2 X.K tl):=by
 intro fO s σ H R I h;refine jN (hl fO s σ H _ I h) λv s1 ⟨x,H1,I1,r1,q1⟩=>?_;obtain⟨a,e,⟨xs,hq⟩,q⟩:=q1;subst e;cases r1;obtain⟨its,rv,p,hz⟩:=I1.tuple hq;refine wpAny_pyIter_tuple (show s1.heap.IsTuple a its.toArray from p) ?_;refine⟨s1.heap.objs.size,[s1.heap.objs.size],_,_,H1,rfl,I1.kept (t':=s1.toks) λb o e=>ae _ e,DN a _,⟨_,ar _ rfl,rfl,rfl⟩,λb hb=>?_,q⟩;have e:b=s1.heap.objs.size:=by simpa using hb
 subst e;exact I1.fpOk (aJ _) (I1.hok.fresh (aJ _))
theorem JX{fO:List (Addr×Obj)}{σ:St}{H:Hp}{s:Shared}{R:It->Hp->Prop}{E:Value->Shared->Prop}{lo hi:Int}{t u v:Tok}{tk:Nat}(I:gH X fO σ H s)(h1:-(2 ^ 62)<=lo)(h2:lo<2 ^ 62)(h3:-(2 ^ 62)<=hi)(h4:hi<2 ^ 62)
  (q:R (P5 lo (hi - lo).toNat) H):wpAny (model X.prog X.w) X.A (pyIter (.ref s.heap.objs.size)) (Sg X fO σ tg R) E {s with heap:=s.heap.push {cls:=.type "range",data:=.fields #[.int lo t,.int hi u,.int 1 v]},toks:=tk}:=by
 refine wpAny_pyIter_range (IsRange.new ..) (small_one h1 h2 h3 h4) ?_;have I1:gH X fO σ H {s with heap:=s.heap.push {cls:=.type "range",data:=.fields #[.int lo t,.int hi u,.int 1 v]},toks:=tk}:=I.kept λb o e=>ae _ e;refine⟨(s.heap.push {cls:=.type "range",data:=.fields #[.int lo t,.int hi u,.int 1 v]}).objs.size,[(s.heap.push {cls:=.type "range",data:=.fields #[.int lo t,.int hi u,.int 1 v]}).objs.size],_,_,H,rfl,
  I1.kept (t':=tk) λb o e=>ae _ e,Eb _ lo (hi - lo).toNat,?_,λb hb=>?_,q⟩
 ·have e1:lo+((0:Nat):Int)*1=lo:=by simp
  have e2:(((hi - lo).toNat:Nat):Int) - ((0:Nat):Int)=Builtin.Range.rangeSize lo hi 1:=by rw[rangeSize_one];split<;>omega
  show IsRangeIter _ _ (lo+((0:Nat):Int)*1) ((((hi - lo).toNat:Nat):Int) - ((0:Nat):Int)) 1;rw[e1,e2];exact ar _ rfl
 ·have e:b=(s.heap.push {cls:=.type "range",data:=.fields #[.int lo t,.int hi u,.int 1 v]}).objs.size:=by simpa using hb
  subst e;exact I1.fpOk (aJ _) (I1.hok.fresh (aJ _))
def Hr(ta:TA):TI:=λσ H R=>ta σ H λvs H1=>∃j:Int,vs=[.int j]/\-(2 ^ 62)<=j/\j<2 ^ 62/\R (P5 0 j.toNat) H1
theorem FM{a:Expr}{ta:TA}{p pos:Pos}(hg:Gl X "range")(hm:X.mg "range" = none)(ha:PA X [a] ta)(hs:starEach [a] X.env=[(false,eval a X.env)]:=by rfl):PI X tg (.Call (.Name "range" p) [a] [] pos) (Hr ta):=by
 intro fO s σ H R I h;refine Call_ (pG I hg hm boot_range (PyProof.Rows.callWith_type1 (jN (ha pos fO s σ H _ I h) λus s1 ⟨vs,H1,I1,r1,q1⟩=>?_) hs rfl));obtain⟨j,e,q1,q2,q⟩:=q1;subst e;cases r1 with
 | cons r rr=>cases rr;obtain⟨t,rfl⟩:=r;exact call_range_1 (JX I1 (by omega) (by omega) q1 q2 (by simpa using q))
def Hz(wi:TI)(g:TG)(tb:TS):TS:=λD σ H=>wi σ H λJ H1=>∃W:Nat->Nat->St->Hp->Prop,(∃m,W 0 m σ H1)/\∀i m σ H,W i m σ H->
 (J.stop i H/\D.nx σ H)\/(J.go i H/\∃N:St->Hp->Prop,(∀σ' H',N σ' H'->∃m',m'<m/\W (i+1) m' σ' H')/\∀x H',J.yld i H x H'->g x σ H' λσ2 H2=>tb {D with nx:=N,ct:=N,bk:=D.nx} σ2 H2)
def xC(fp:List Addr)(h:Heap):List (Addr×Obj):=fp.filterMap λb=>(h.get? b).map λo=>(b,o)
theorem pI{fp:List Addr}{h:Heap}{b:Addr}{o:Obj}(hb:b∈fp)(e:h.get? b=some o):(b,o)∈xC fp h:=bB.mpr ⟨b,hb,by rw[e];rfl⟩
theorem FA{fp:List Addr}{h:Heap}{p:Addr×Obj}(hp:p∈xC fp h):p.1∈fp/\h.get? p.1=some p.2:=by
 obtain⟨b,hb,e⟩:=bB.mp hp;cases q:h.get? b with
 | none=>rw[q] at e;cases e
 | some o=>rw[q] at e;have e':(b,o)=p:=Option.some.inj e;subst e';exact⟨hb,q⟩
theorem gH.pinned{fO:List (Addr×Obj)}{σ:St}{H:Hp}{s:Shared}{fp:List Addr}(I:gH X fO σ H s)(hf:∀b∈fp,sQ X fO H b)(ho:∀b∈fp,∃o,s.heap.get? b=some o/\∀v,o.data≠.cell v):gH X (fO++xC fp s.heap) σ H s:=I.pins_of λp hp=>(ai.mp hp).elim (λz=>I.pin p (bC _ z)) λz=>by obtain⟨hb,e⟩:=FA z;obtain⟨f0,f1,f2,_⟩:=hf p.1 hb;obtain⟨o,e',d⟩:=ho p.1 hb;rw[e] at e';cases e';exact⟨e,f0,f1,f2,d⟩
theorem gH.unpinned{fO pl:List (Addr×Obj)}{σ:St}{H:Hp}{s:Shared}(I:gH X (fO++pl) σ H s):gH X fO σ H s:=I.pins_of λp hp=>I.pin p (bC _ (ax _ hp))
theorem Jx{iter:Expr}{body:List Stmt}{wi:TI}{g:TG}{tb:TS}{pos:Pos}(hp:PassesOwn (model X.prog X.w) X.A X.env X.xe)(hc:X.calm=true)(hi:PI X tg iter wi)(hg:PG X tg g)(hb:B8 X body tb)
  (hs:∀x,foldedSetIterable iter X.env x=pure x:=by intro _;rfl):PS X (.For tg iter body [] pos) (Hz wi g tb):=by
 intro fO s σ H D I h;refine wpAny_For (jN (hi fO s σ H _ I h) λv s1 h1=>jN h1 λitv s2 h2=>?_) hs;obtain⟨it,fp,tn,J,H2,e,I2,T,st2,f2,W,⟨m0,w0⟩,turn⟩:=h2;subst e;have stat:∀{H':Hp},(∀b∈fp,H' b=none)->∀b∈fp,sQ X fO H' b:=λhn b hb=>⟨hn b hb,(f2 b hb).2⟩;refine codeAny_forLoop_any (λn s'=>∃i σ' H',gH X fO σ' H' s'/\tn i s'.heap/\(∀b∈fp,H' b=none)/\W i n σ' H') ?_ m0 ⟨0,σ,H2,I2,st2,λb hb=>(f2 b hb).1,w0⟩;rintro n s3 ⟨i,σ3,H3,I3,st3,fr3,w3⟩;rcases turn i n σ3 H3 w3 with⟨stop,qn⟩ | ⟨go,N,hN,step⟩
 ·refine wpAny_passesOwn hp (jN (T.done X rfl rfl rfl hc i fO s3 σ3 H3 X.xe I3 (stat fr3) st3 stop) λr s4 ⟨hr,I4⟩=>?_);subst hr;exact wpAny_execs_nil ⟨σ3,H3,I4,qn⟩
 ·refine wpAny_passesOwn hp (jN (T.item X rfl rfl rfl hc i fO s3 σ3 H3 X.xe I3 (stat fr3) st3 go) λr s4 ⟨u,hr,h4⟩=>?_);subst hr;refine wpAny_passesOwn hp (jN h4 λ_ s5 ⟨x,H5,I5,r5,y5,st5,fr5⟩=>?_);have I5':=I5.pinned (stat fr5) (T.obj _ _ st5);refine wpAny_passesOwn hp (jN (hg _ s5 σ3 H5 x u _ I5' r5 (step x H5 y5)) λ_ s6 ⟨σ6,H6,I6,q6⟩=>?_);refine wpAny_passesOwn hp (jN (hb _ s6 σ6 H6 _ I6 q6) λf s7 q7=>?_);have again:∀{σ7:St} {H7:Hp},gH X (fO++xC fp s5.heap) σ7 H7 s7->N σ7 H7->∃m,m<n/\∃i σ' H',gH X fO σ' H' s7/\tn i s7.heap/\(∀b∈fp,H' b=none)/\W i m σ' H':=λ{σ7 H7} I7 n7=>by obtain⟨m',hm,w7⟩:=hN σ7 H7 n7;refine⟨m',hm,i+1,σ7,H7,I7.unpinned,T.keep _ _ _ st5 λb hb o e=>(I7.pin (b,o) (bC _ (bC _ (pI hb e)))).1,λb hb=>?_,w7⟩;obtain⟨o,e,d⟩:=T.obj _ _ st5 b hb;exact (I7.pin (b,o) (bC _ (bC _ (pI hb e)))).2.1
  cases f with
  | next=>obtain⟨σ7,H7,I7,n7⟩:=q7;exact again I7 n7
  | cont=>obtain⟨σ7,H7,I7,n7⟩:=q7;exact again I7 n7
  | brk=>obtain⟨σ7,H7,I7,q7⟩:=q7;exact⟨σ7,H7,I7.unpinned,q7⟩
  | ret v=>obtain⟨x7,σ7,H7,I7,r7,q7⟩:=q7;exact⟨x7,σ7,H7,I7.unpinned,r7,q7⟩
end
end L2
namespace L2
open PySem PySem.Spec PyProof.Rows
abbrev R2:=V->V->Hp->VK->Prop
def pY(X:Cx)(f:Value->Value->Sem Value)(r:R2):Prop:=
 ∀(fO:List (Addr×Obj)) (s:Shared) (σ:St) (H:Hp) (x y:V) (v u:Value) (Q:VK),gH X fO σ H s->iL x v->iL y u->r x y H Q->
  wpAny (model X.prog X.w) X.A (f v u) (EP X fO σ Q) X.xe s
def RK(X:Cx)(f:Value->Sem Value)(r:V->Hp->VK->Prop):Prop:=
 ∀(fO:List (Addr×Obj)) (s:Shared) (σ:St) (H:Hp) (x:V) (v:Value) (Q:VK),gH X fO σ H s->iL x v->r x H Q->
  wpAny (model X.prog X.w) X.A (f v) (EP X fO σ Q) X.xe s
def kU(X:Cx)(f:Value)(r:List V->Hp->VK->Prop):Prop:=
 ∀(fO:List (Addr×Obj)) (s:Shared) (σ:St) (H:Hp) (xs:List V) (us:List Value) (Q:VK),gH X fO σ H s->ib xs us->r xs H Q->
  wpAny (model X.prog X.w) X.A (call f us) (EP X fO σ Q) X.xe s
def xZ(r:R2)(ta tb:TE):TE:=λσ H Q=>ta σ H λx H1=>tb σ H1 λy H2=>r x y H2 Q
def RE(r:V->Hp->VK->Prop)(ta:TE):TE:=λσ H Q=>ta σ H λx H1=>r x H1 Q
def rI(C:Int->Int->Prop)(g:Int->Int->V):R2:=λx y H Q=>∃i j,x=.int i/\y=.int j/\C i j/\Q (g i j) H
def DM(g:Int->Int->V):R2:=λx y H Q=>∃i j,x=.int i/\y=.int j/\Q (g i j) H
def rU(g:Int->V):V->Hp->VK->Prop:=λx H Q=>∃i,x=.int i/\Q (g i) H
section
variable {X:Cx}{a b c:Expr}{ta tb tc:TE}{pos:Pos}
theorem OS(ha:PE X a ta)(hb:PE X b tb){fO:List (Addr×Obj)}{s:Shared}{σ:St}{H:Hp}{R:V->V->Hp->Prop}(I:gH X fO σ H s)
  (h:ta σ H λx H1=>tb σ H1 λy H2=>R x y H2) {Q:Value->Shared->Prop} {f:Value->Value->Sem Value}
  (hf:∀v u s2 x y H2,gH X fO σ H2 s2->iL x v->iL y u->R x y H2->wpAny (model X.prog X.w) X.A (f v u) Q X.xe s2) :
  wpAny (model X.prog X.w) X.A (eval a X.env) (λv s₁=>wpAny (model X.prog X.w) X.A (eval b X.env) (λu s₂=>wpAny (model X.prog X.w) X.A (f v u) Q X.xe s₂) X.xe s₁) X.xe s:=by
 refine jN (ha fO s σ H _ I h) λv s1 ⟨x,H1,I1,r1,q1⟩=>?_;refine jN (hb fO s1 σ H1 _ I1 q1) λu s2 ⟨y,H2,I2,r2,q2⟩=>?_;exact hf v u s2 x y H2 I2 r1 r2 q2
theorem Hs{op:Operator}{r:R2}(ho:pY X (binaryOp op) r)(ha:PE X a ta)(hb:PE X b tb):PE X (.BinOp a op b pos) (xZ r ta tb):=by intro fO s σ H Q I h;exact wpAny_BinOp (OS ha hb I h λv u s2 x y H2 I2 rx ry q=>ho fO s2 σ H2 x y v u Q I2 rx ry q)
theorem P8{op:UnaryOp}{r:V->Hp->VK->Prop}(ho:RK X (unaryOp op) r)(ha:PE X a ta):PE X (.UnaryOp op a pos) (RE r ta):=by intro fO s σ H Q I h;exact UnaryOp_ (jN (ha fO s σ H _ I h) λv s1 ⟨x,H1,I1,r1,q1⟩=>ho fO s1 σ H1 x v Q I1 r1 q1)
theorem Rh{f:Value->Value->Sem Value}{C:Int->Int->Prop}{g:Int->Int->Int}
  (rule:∀(i j:Int) (t u:Tok) (s:Shared) (Q:Value->Shared->Prop) (E:Value->Shared->Prop),C i j->Q (.int (g i j) s.toks) {s with toks:=s.toks+1}->wpAny (model X.prog X.w) X.A (f (.int i t) (.int j u)) Q E s) :
  pY X f (rI C λi j=>.int (g i j)):=by
 intro fO s σ H x y v u Q I rx ry h;obtain⟨i,j,rfl,rfl,hc,q⟩:=h;obtain⟨t,rfl⟩:=rx;obtain⟨t',rfl⟩:=ry;exact rule i j t t' s _ _ hc ⟨.int (g i j),H,I.tok _,⟨_,rfl⟩,q⟩
theorem PZ{f:Value->Value->Sem Value}{g:Int->Int->Int}
  (rule:∀(i j:Int) (t u:Tok) (s:Shared) (Q:Value->Shared->Prop) (E:Value->Shared->Prop),Q (.int (g i j) s.toks) {s with toks:=s.toks+1}->wpAny (model X.prog X.w) X.A (f (.int i t) (.int j u)) Q E s) :
  pY X f (DM λi j=>.int (g i j)):=by
 intro fO s σ H x y v u Q I rx ry h;obtain⟨i,j,rfl,rfl,q⟩:=h;obtain⟨t,rfl⟩:=rx;obtain⟨t',rfl⟩:=ry;exact rule i j t t' s _ _ ⟨.int (g i j),H,I.tok _,⟨_,rfl⟩,q⟩
theorem Ma{f:Value->Value->Sem Value}{g:Int->Int->Bool}
  (rule:∀(i j:Int) (t u:Tok) (s:Shared) (Q:Value->Shared->Prop) (E:Value->Shared->Prop),Q (.bool (g i j)) s->wpAny (model X.prog X.w) X.A (f (.int i t) (.int j u)) Q E s) :
  pY X f (DM λi j=>.bl (g i j)):=by
 intro fO s σ H x y v u Q I rx ry h;obtain⟨i,j,rfl,rfl,q⟩:=h;obtain⟨t,rfl⟩:=rx;obtain⟨t',rfl⟩:=ry;exact rule i j t t' s _ _ ⟨.bl (g i j),H,I,rfl,q⟩
def QK(i j:Int):Prop:=0<=j/\j<=1000000/\i.natAbs<2 ^ 64
theorem ON:pY X (binaryOp .Add) (DM λi j=>.int (i+j)):=PZ λ_ _ _ _ _ _ _ q=>add_int q
theorem OM:pY X (binaryOp .Sub) (DM λi j=>.int (i - j)):=PZ λ_ _ _ _ _ _ _ q=>sub_int q
theorem LC:pY X (binaryOp .Mod) (rI (λ_ j=>j≠0) λi j=>.int (i.fmod j)):=Rh λ_ _ _ _ _ _ _ hc q=>mod_int' hc q
theorem N6:pY X (binaryOp .Pow) (rI QK λi j=>.int (i ^ j.toNat)):=Rh λ_ _ _ _ _ _ _ hc q=>pow_int_small hc.1 hc.2.1 hc.2.2 q
theorem So{f:Value->Sem Value}{g:Int->Int}
  (rule:∀(i:Int) (t:Tok) (s:Shared) (Q:Value->Shared->Prop) (E:Value->Shared->Prop),Q (.int (g i) s.toks) {s with toks:=s.toks+1}->wpAny (model X.prog X.w) X.A (f (.int i t)) Q E s) :
  RK X f (rU λi=>.int (g i)):=by
 intro fO s σ H x v Q I rx h;obtain⟨i,rfl,q⟩:=h;obtain⟨t,rfl⟩:=rx;exact rule i t s _ _ ⟨.int (g i),H,I.tok _,⟨_,rfl⟩,q⟩
theorem Nt:RK X (unaryOp .USub) (rU λi=>.int (-i)):=So λ_ _ _ _ _ q=>neg_int q
end
section
variable {X:Cx}{a b c:Expr}{ta tb tc:TE}{pos:Pos}
theorem IM{fO:List (Addr×Obj)}{σ:St}{H:Hp}{s:Shared}{Q:VK}{k k':Bool}(I:gH X fO σ H s)(q:Q (.bl k) H)(e:k=k'):EP X fO σ Q (.bool k') s:=by subst e;exact⟨.bl k,H,I,rfl,q⟩
theorem uJ:pY X (compareOp .Lt) (DM λi j=>.bl (decide (i<j))):=Ma λ_ _ _ _ _ _ _ q=>lt_int q
theorem yJ:pY X (compareOp .LtE) (DM λi j=>.bl (decide (i<=j))):=Ma λ_ _ _ _ _ _ _ q=>le_int q
theorem xk:pY X (compareOp .Gt) (DM λi j=>.bl (decide (j<i))):=Ma λ_ _ _ _ _ _ _ q=>gt_int q
theorem EF:pY X (compareOp .GtE) (DM λi j=>.bl (decide (j<=i))):=Ma λ_ _ _ _ _ _ _ q=>ge_int q
theorem Ac:pY X (compareOp .Is) (λx y H Q=>y=.non/\Q (.bl (decide (x=.non))) H):=by
 intro fO s σ H x y v u Q I rx ry h;obtain⟨rfl,q⟩:=h;cases ry;refine is_none_gen (IM I q ?_);cases x<;>first
  | (cases rx;rfl)
  | (obtain⟨t,rfl⟩:=rx;rfl)
theorem qL:pY X (compareOp .IsNot) (λx y H Q=>y=.non/\Q (.bl (!decide (x=.non))) H):=by
 intro fO s σ H x y v u Q I rx ry h;obtain⟨rfl,q⟩:=h;cases ry;refine isnot_none_gen (IM I q ?_);cases x<;>first
  | (cases rx;rfl)
  | (obtain⟨t,rfl⟩:=rx;rfl)
theorem tN(b:Expr){op:CmpOp}(h:op≠.In:=by decide)(h2:op≠.NotIn:=by decide):behindInMarks op b=false:=by
 have e1:(op == CmpOp.In)=false:=by cases op<;>first | rfl | exact absurd rfl h
 have e2:(op == CmpOp.NotIn)=false:=by cases op<;>first | rfl | exact absurd rfl h2
 cases b<;>simp[behindInMarks,e1,e2]
theorem K7{op:CmpOp}{r:R2}(ho:pY X (compareOp op) r)(ha:PE X a ta)(hb:PE X b tb)(hm:behindInMarks op b=false):PE X (.Compare a [op] [b] pos) (xZ r ta tb):=by intro fO s σ H Q I h;exact wpAny_Compare1 (OS ha hb I h λv u s2 x y H2 I2 rx ry q=>ho fO s2 σ H2 x y v u Q I2 rx ry q) hm
def AZ(t:TE):TT:=λσ H Q=>t σ H λx H'=>∃k,x=.bl k/\Q k H'
theorem Kt{op:CmpOp}{r:R2}(ho:pY X (compareOp op) r)(ha:PE X a ta)(hb:PE X b tb)(hm:behindInMarks op b=false):PT X (.Compare a [op] [b] pos) (AZ (xZ r ta tb)):=by
 intro fO s σ H Q I h;refine wpAny_isTrue_Compare1 (jN (ha fO s σ H _ I h) λv s1 ⟨x,H1,I1,r1,q1⟩=>jN (hb fO s1 σ H1 _ I1 q1) λu s2 ⟨y,H2,I2,r2,q2⟩=>jN (ho fO s2 σ H2 x y v u _ I2 r1 r2 q2) λc s3 ⟨z,H3,I3,r3,k,e,q3⟩=>?_) hm
 subst e;cases r3;exact wpAny_truthy_bool ⟨H3,I3,q3⟩
def DG(r r':R2)(ta tb tc:TE):TE:=λσ H Q=>ta σ H λx H1=>tb σ H1 λy H2=>r x y H2 λz H3=>∃k,z=.bl k/\
 (if k=true then tc σ H3 λw' H4=>r' y w' H4 Q else Q (.bl false) H3)
theorem Jc{op op':CmpOp}{r r':R2}(ho:pY X (compareOp op) r)(ho':pY X (compareOp op') r')(ha:PE X a ta)(hb:PE X b tb)(hc:PE X c tc)
  (hm:lastMarks [op,op'] [b,c]=false:=by with_unfolding_all rfl):PE X (.Compare a [op,op'] [b,c] pos) (DG r r' ta tb tc):=by
 intro fO s σ H Q I h;refine Compare_chain (jN (ha fO s σ H _ I h) λv s1 ⟨x,H1,I1,r1,q1⟩=>chain_link (jN (hb fO s1 σ H1 _ I1 q1) λu s2 ⟨y,H2,I2,r2,q2⟩=>jN (ho fO s2 σ H2 x y v u _ I2 r1 r2 q2) λd s3 ⟨z,H3,I3,r3,k,e,q3⟩=>?_)) hm
 subst e;cases r3;refine wpAny_truthy_bool ?_;cases k with
 | false=>exact ite_ff ⟨.bl false,H3,I3,rfl,q3⟩
 | true=>exact ite_tt (chain_last (jN (hc fO s3 σ H3 _ I3 q3) λw' s4 ⟨z',H4,I4,r4,q4⟩=>ho' fO s4 σ H4 y z' u w' Q I4 r2 r4 q4))
theorem xD:(sizeLine:Nat)<2 ^ 63:=by rw[sizeLine_eq];decide
theorem CO:pY X (binaryOp .Add) (λx y H Q=>∃i j,x=.str i/\y=.str j/\i.length+j.length<=sizeLine/\Q (.str (i++j)) H):=by intro fO s σ H x y v u Q I rx ry h;obtain⟨i,j,rfl,rfl,hz,q⟩:=h;obtain⟨t,rfl⟩:=rx;obtain⟨t',rfl⟩:=ry;exact add_str (λt' tk=>⟨.str (i++j),H,I.tok _,⟨_,rfl⟩,q⟩) hz
theorem oH{x:V}{us:List Value}(r:ib [x] us):∃u,us=[u]/\iL x u:=by
 cases r with
 | cons r1 r2=>cases r2;exact⟨_,rfl,r1⟩
theorem MV{x y:V}{us:List Value}(r:ib [x,y] us):∃u w',us=[u,w']/\iL x u/\iL y w':=by
 cases r with
 | cons r1 r2=>
  cases r2 with
  | cons r3 r4=>cases r4;exact⟨_,_,rfl,r1,r3⟩
theorem sk:kU X (.builtin "abs") (λxs H Q=>∃i,xs=[.int i]/\Q (.int (if i<0 then -i else i)) H):=by intro fO s σ H xs us Q I r h;obtain⟨i,rfl,q⟩:=h;obtain⟨u,rfl,t,rfl⟩:=oH r;exact call_abs_int λu tk=>⟨.int (if i<0 then -i else i),H,I.tok _,⟨_,rfl⟩,q⟩
theorem yu(hc:X.calm=true):kU X (.builtin "min") (λxs H Q=>∃i j,xs=[.int i,.int j]/\Q (.int (if j<i then j else i)) H):=by
 intro fO s σ H xs us Q I r h;obtain⟨i,j,rfl,q⟩:=h;obtain⟨u,w',rfl,⟨t,rfl⟩,⟨t',rfl⟩⟩:=MV r;refine min_two_ints (I.ok.hd hc) λh' tk k=>⟨_,H,I.kept k,?_,q⟩;by_cases hj:j<i
 ·rw[aP hj,aP hj];exact⟨_,rfl⟩
 ·rw[aQ hj,aQ hj];exact⟨_,rfl⟩
theorem yL:kU X (.type "int") (λxs H Q=>(∃i,xs=[.int i]/\Q (.int i) H)\/∃k,xs=[.bl k]/\Q (.int (if k then 1 else 0)) H):=by
 intro fO s σ H xs us Q I r h;rcases h with⟨i,rfl,q⟩ | ⟨k,rfl,q⟩
 ·obtain⟨u,rfl,t,rfl⟩:=oH r;exact call_int_int ⟨.int i,H,I,⟨_,rfl⟩,q⟩
 ·obtain⟨u,rfl,r1⟩:=oH r;cases r1;exact call_int_bool ⟨.int (if k then 1 else 0),H,I.tok _,⟨_,rfl⟩,q⟩
def Nm(K:W.Frag)(x:V)(H:Hp)(n:Nat):Prop:=
 match x with
 | .str y=>y.length<=sizeLine/\n=y.length
 | .byt y=>y.size<=sizeLine/\n=y.size
 | .ref p=>(∃xs,k9 K H p xs/\n=xs.length)\/∃xs,mB K H p xs/\n=xs.length
 | _=>False
theorem Jm:kU X (.builtin "len") (λxs H Q=>∃x n,xs=[x]/\Nm X.K x H n/\Q (.int n) H):=by
 intro fO s σ H xs us Q I r h;obtain⟨x,n,rfl,e,q⟩:=h;obtain⟨u,rfl,rx⟩:=oH r;have hl:=xD;have hs:sizeLine=16777216:=sizeLine_eq;cases x with
 | str y=>obtain⟨t,rfl⟩:=rx;obtain⟨hy,e'⟩:y.length<=sizeLine/\n=y.length:=e;subst e';exact len_str (by omega) ⟨.int _,H,I.tok _,⟨_,rfl⟩,q⟩
 | byt y=>obtain⟨t,rfl⟩:=rx;obtain⟨hy,e'⟩:y.size<=sizeLine/\n=y.size:=e;subst e';exact W.len_bytes (by omega) ⟨.int _,H,I.tok _,⟨_,rfl⟩,q⟩
 | ref p=>
  cases rx;have e':(∃xs,k9 X.K H p xs/\n=xs.length)\/∃xs,mB X.K H p xs/\n=xs.length:=e;rcases e' with⟨xs,hx,e'⟩ | ⟨xs,hx,e'⟩
  ·subst e';obtain⟨its,r',pl,hz⟩:=I.list hx;have kT:=r'.length;exact Calls.call_len_list pl.isList (by simp only[bD];omega) ⟨.int xs.length,H,I.tok _,⟨_,by simp only[bD];rw[kT]⟩,q⟩
  ·subst e';obtain⟨its,r',pl,hz⟩:=I.tuple hx;have kT:=r'.length;exact len_tuple pl (by simp only[bD];omega) ⟨.int xs.length,H,I.tok _,⟨_,by simp only[bD];rw[kT]⟩,q⟩
 | _=>exact (show False from e).elim
end
end L2
namespace L2
open PySem PySem.Spec PyProof.Rows
structure Dm(h:Heap)(x dx C:Addr)(mA:Str->Option Value):Prop where
 obj:h.get? x=some (W.instObj C dx)
 ns:h.Ns1 dx mA
 ne:dx≠x
theorem Ge{h:Heap}{dx:Addr}{mA:Str->Option Value}(n:h.Ns1 dx mA):∃od,h.get? dx=some od/\∀name,W.lookIn name od=some (mA name):=by
 obtain⟨o,es,ep,ho,hd,hk,_,hm⟩:=n;refine⟨o,ho,λname=>?_⟩;have e:=hm name;unfold nsFind findBy at e;rw[<-Array.find?_toList] at e;unfold W.lookIn;rw[hd];dsimp only;split
 ·rename_i y q;rw[q] at e;exact congrArg some e
 ·rename_i q;rw[q] at e;have a:es.toList.any (·.refKey)=false:=by rw[bE];intro y hy;obtain⟨z,t,hkey⟩:=hk y (Array.mem_toList_iff.mp hy);simp[DictEntry.refKey,hkey]
  have a':¬es.toList.any (·.refKey)=true:=by rw[a];exact aG
  rw[aQ a'];exact congrArg some e
theorem Dm.look{h:Heap}{x dx C:Addr}{mA:Str->Option Value}(I:Dm h x dx C mA):∃od,W.InstAt h x (W.instObj C dx) C (some od)/\∀name,W.lookIn name od=some (mA name):=
 let ⟨od,ho,hl⟩:=Ge I.ns
 ⟨od,⟨I.obj,rfl,rfl,ho⟩,hl⟩
section
variable {prog:Program}{w:World}{A:Around}{E:Value->Shared->Prop}{s:Shared}{K:W.Frag}{x dx C f:Addr}{mA:Str->Option Value}{name:Str}{v:Value}
theorem K6{expr:Bool}{Q:Value->Shared->Prop}(X:K.In s.heap)(I:Dm s.heap x dx C mA)(hg:W.plainGet K C name=true)(hh:W.hasDictIn K C=true)
  (ha:W.findIn K (.ref C) name=some none) (hv:mA name=some v) (hv':W.handedIn v=true) (h:Q v {s with toks:=s.toks+1}) :
  wpAny (model prog w) A (getAttr (.ref x) name expr) Q E s:=by
 obtain⟨od,J,hl⟩:=I.look;exact W.get_value X J (W.plainGet_of hg).1 (W.findObj_own hh ha rfl (by rw[hl,hv])) hv' h
theorem Io{pl:Sem Bool}{Q:Value×List Value->Shared->Prop}(X:K.In s.heap)(I:Dm s.heap x dx C mA)(hg:W.plainGet K C name=true)
  (hf:W.findIn K (.ref C) name=some (some (.ref f))) (ht:W.isFn K (.ref f)=true) (hv:mA name=none) (h:Q (.ref f,[.ref x]) s) :
  wpAny (model prog w) A (getMethod (.ref x) name pl) Q E s:=by
 obtain⟨od,J,hl⟩:=I.look;exact W.method_fn X J (W.plainGet_of hg).1 (W.plainGet_of hg).2 hf (beq_iff_eq.mp ht) (by show (W.lookIn name od).map (·.isSome)=some false;rw[hl,hv];rfl) h
theorem Mf{ns:List Str}{Q:Unit->Shared->Prop}(X:K.In s.heap)(I:Dm s.heap x dx C mA)
  (hs:W.findIn K (.ref C) "__setattr__" = some (some (.builtin "object.__setattr__"))) (hp:W.plainOver K C=true) (ht:W.takerIn K C name=some none) (hh:W.hasDictIn K C=true)
  (hw:PySem.Within mA ns) (hsz:ns.length<=sizeLine)
  (h:∀h',Dm h' x dx C (λy=>if y=name then some v else mA y)->Heap.SameBut dx s.heap h'->Q () {s with heap:=h',toks:=s.toks+2}) :
  wpAny (model prog w) A (setAttr (.ref x) name v) Q E s:=by
 obtain⟨od,J,hl⟩:=I.look;refine W.set_plain X J hs (W.osa_open (s:={s with toks:=s.toks+1}) (r:=none) X J hp ht λb=>?_);obtain⟨cd,hc,hd'⟩:=W.any_some hh;have hx:s.heap.get? x=some ⟨.ref C,some dx,.plain,#[]⟩:=I.obj;refine ao (ak (ao (ao (wpAny_loadPart hx (ao (W.Looks.here (s:={s with toks:=s.toks+1}) (W.looks_clsIn X hc) ?_))))));rw[hd'];refine ak (a:=some dx) (ao (ak (ao ?_)));refine wpAny_nsSet1 (s:={s with toks:=s.toks+1}) I.ns λh' hn2 hs2=>?_;obtain⟨oD,esD,epD,hoD,hdD,hcD⟩:=hn2.count (PySem.Within.cons name v hw);refine ao (wpAny_lookBehind hoD (by rw[hdD];exact pastItsLine_dict (aM hcD (by rw[ay];omega))) ?_);exact ak (h _ ⟨(hs2.2 _ (Ne.symm I.ne)).trans I.obj,hn2,I.ne⟩ hs2)
theorem Im{R:Result->Shared->Prop}{vs:List Value}{kw:List (Str×Value)}(X:K.In s.heap)(hm:W.makesIn K C=true)
  (hi:W.findIn K (.ref C) "__init__" = some (some (.ref f))) (hf:W.typeIn K (.ref f)=some (.type "function"))
  (h:codeAny (model prog w) (A.under (.builtin "type.__call__" ⟨.ref C::vs,kw⟩)) (.call (.ref f) ⟨.ref (s.heap.objs.size+1)::vs,kw⟩) (W.InitBack (s.heap.objs.size+1) R)
   {s with heap:=(s.heap.push W.emptyDict).push (W.instObj C s.heap.objs.size)}) :
  codeAny (model prog w) A (.call (.ref C) ⟨vs,kw⟩) R s:=by
 obtain⟨hh,g,d,t,os⟩:=s;exact W.make_core (W.makes_of X hm) (W.looks_findIn X hi) (λself=>W.bind_fn X self hf) (.inl rfl) h
end
def oZ(f:Str)(v:V):List (Str×V)->List (Str×V)
 | []=>[(f,v)]
 | (g,x)::r=>if g=f then (g,v)::r else (g,x)::oZ f v r
theorem uB(f g:Str)(v:V):∀fs:List (Str×V),(oZ f v fs).lookup g=if g=f then some v else fs.lookup g
 | []=>by
  show List.lookup g [(f,v)]=_;by_cases h:g=f
  ·have hb:(g == f)=true:=beq_iff_eq.mpr h;simp only[List.lookup,hb,aP h]
  ·have hb:(g == f)=false:=beq_eq_false_iff_ne.mpr h;simp only[List.lookup,hb,aQ h]
 | (k,x)::r=>by
  have ih:=uB f g v r;rw[show oZ f v ((k,x)::r)=(if k=f then (k,v)::r else (k,x)::oZ f v r) from rfl];by_cases hk:k=f
  ·rw[aP hk];by_cases h:g=k
   ·have hb:(g == k)=true:=beq_iff_eq.mpr h;simp only[List.lookup,hb,aP (h.trans hk)]
   ·have hb:(g == k)=false:=beq_eq_false_iff_ne.mpr h;simp only[List.lookup,hb,aQ (λe:g=f=>h (e.trans hk.symm))]
  ·rw[aQ hk];by_cases h:g=k
   ·have hb:(g == k)=true:=beq_iff_eq.mpr h;simp only[List.lookup,hb,aQ (λe:g=f=>hk (h.symm.trans e))]
   ·have hb:(g == k)=false:=beq_eq_false_iff_ne.mpr h;simp only[List.lookup,hb];exact ih
theorem tq(f:Str)(v:V):∀fs:List (Str×V),f∈(oZ f v fs).map (·.1)/\∀g,g∈fs.map (·.1)->g∈(oZ f v fs).map (·.1)
 | []=>⟨by simp[oZ],λg h=>by simp at h⟩
 | (k,x)::r=>by
  obtain⟨i1,i2⟩:=tq f v r;rw[show oZ f v ((k,x)::r)=(if k=f then (k,v)::r else (k,x)::oZ f v r) from rfl];by_cases hk:k=f
  ·rw[aP hk];subst hk;exact⟨by simp,λg h=>by simpa using h⟩
  ·rw[aQ hk];refine⟨?_,λg h=>?_⟩
   ·rw[bF];exact bu _ i1
   ·rw[bF] at h ⊢;rcases aE.mp h with e | e
    ·exact aE.mpr (.inl e)
    ·exact bu _ (i2 g e)
theorem uK(f:Str)(v:V):∀fs:List (Str×V),(oZ f v fs).length<=fs.length+1
 | []=>by simp[oZ]
 | (k,x)::r=>by
  have ih:=uK f v r;rw[show oZ f v ((k,x)::r)=(if k=f then (k,v)::r else (k,x)::oZ f v r) from rfl];by_cases hk:k=f
  ·rw[aP hk,ay,ay];omega
  ·rw[aQ hk,ay,ay];omega
theorem tV.some_of{v:V}{o:Option Value}(r:tV (some v) o):∃u,o=some u/\iL v u:=by
 cases o with
 | none=>exact (show False from r).elim
 | some u=>exact⟨u,rfl,r⟩
theorem tV.none_of{o:Option Value}(r:tV none o):o=none:=by
 cases o with
 | none=>rfl
 | some u=>exact (show False from r).elim
theorem Ga{v:V}{u:Value}(r:iL v u):W.handedIn u=true:=by
 cases v with
 | non=>cases (show u=Value.none from r);rfl
 | bl b=>cases (show u=Value.bool b from r);rfl
 | int i=>obtain⟨t,e⟩:=(show ∃t,u=Value.int i t from r);cases e;rfl
 | str x=>obtain⟨t,e⟩:=(show ∃t,u=Value.str x t from r);cases e;rfl
 | byt b=>obtain⟨t,e⟩:=(show ∃t,u=Value.bytes b t from r);cases e;rfl
 | flt b=>obtain⟨t,e⟩:=(show ∃t,u=Value.float b t from r);cases e;rfl
 | ref a=>cases (show u=Value.ref a from r);rfl
 | ty n=>cases (show u=Value.type n from r);rfl
section
variable {P:Program}{w:World}{H H':Hp}{h h':Heap}{a C dx:Addr}{fs fs':List (Str×V)}
theorem vL(hok:qO P w H h)(e:H a=some (.ins C dx fs)):∃mA,Dm h a dx C mA/\(∀f,tV (fs.lookup f) (mA f))/\PySem.Within mA (fs.map (·.1))/\fs.length<=1000/\H dx=some (.own a):=by obtain⟨d,z,ne,ob,mA,n,r,q⟩:=(show jw P w H h a (.ins C dx fs) from hok a _ e);exact⟨mA,⟨ob,n,ne⟩,r,q,z,d⟩
end
structure Ba(K:W.Frag)(C:Addr):Prop where
 pg:W.plainGet K C Str.empty=true
 hd:W.hasDictIn K C=true
 po:W.plainOver K C=true
 sa:W.findIn K (.ref C) "__setattr__" = some (some (.builtin "object.__setattr__"))
theorem Ba.get{K:W.Frag}{C:Addr}(c:Ba K C)(f:Str):W.plainGet K C f=true:=c.pg
def mZ(K:W.Frag)(C:Addr)(f:Str):Prop:=W.findIn K (.ref C) f=some none
theorem mZ.taker{K:W.Frag}{C:Addr}{f:Str}(n:mZ K C f):W.takerIn K C f=some none:=by unfold W.takerIn;rw[show W.findIn K (.ref C) f=some none from n];rfl
structure KU(K:W.Frag)(C:Addr)(m:Str)(f:Addr):Prop where
 at_:W.findIn K (.ref C) m=some (some (.ref f))
 fn:W.isFn K (.ref f)=true
 kp:W.keepIn K (.ref f)=true
section
variable {X:Cx}{fO:List (Addr×Obj)}{σ:St}{H:Hp}{s:Shared}{a C dx:Addr}{fs:List (Str×V)}{f:Str}{v:V}{A:Around}{E:Value->Shared->Prop}
theorem Do{b:Bool}{Q:Value->Shared->Prop}(I:gH X fO σ H s)(e:H a=some (.ins C dx fs))(c:Ba X.K C)(n:mZ X.K C f)(l:fs.lookup f=some v)
  (h:∀u s',gH X fO σ H s'->iL v u->Q u s'):wpAny (model X.prog X.w) A (getAttr (.ref a) f b) Q E s:=by
 obtain⟨mA,O,r,_,_,_⟩:=vL I.hok e;obtain⟨u,hu,ru⟩:=tV.some_of (v:=v) (o:=mA f) (by rw[<-l];exact r f);exact K6 I.kIn O (c.get f) c.hd n hu (Ga ru) (h u _ (I.tok _) ru)
theorem Ea{m:Str}{g:Addr}{pl:Sem Bool}{Q:Value×List Value->Shared->Prop}(I:gH X fO σ H s)(e:H a=some (.ins C dx fs))(c:Ba X.K C)(k:KU X.K C m g)(l:fs.lookup m=none)
  (h:Q (.ref g,[.ref a]) s):wpAny (model X.prog X.w) A (getMethod (.ref a) m pl) Q E s:=by
 obtain⟨mA,O,r,_,_,_⟩:=vL I.hok e;have hn:mA m=none:=tV.none_of (by rw[<-l];exact r m);exact Io I.kIn O (c.get m) k.at_ k.fn hn h
theorem Dy{y:V}{u:Value}{Q:Unit->Shared->Prop}(I:gH X fO σ H s)(e:H a=some (.ins C dx fs))(c:Ba X.K C)(n:mZ X.K C f)(hl:fs.length<1000)(ry:iL y u)
  (h:∀s',gH X fO σ (jx H a (.ins C dx (oZ f y fs))) s'->Q () s'):wpAny (model X.prog X.w) A (setAttr (.ref a) f u) Q E s:=by
 obtain⟨mA,O,r,wi,_,ho⟩:=vL I.hok e;have hz:(fs.map (·.1)).length<=sizeLine:=by rw[aw,sizeLine_eq];omega
 refine Mf I.kIn O c.sa c.po n.taker c.hd wi hz λh' O' sb=>h _ ?_;have hd:∃o,h'.get? dx=some o:=let ⟨o,_,_,e',_⟩:=O'.ns;⟨o,e'⟩;refine I.write (x:=a) (e:=dx) (by rw[e];exact True.intro) (.inr ho) (λb q hb z=>(sb.2 b hb).trans z) hd ?_;refine⟨by rw[gA O.ne];exact ho,?_,O.ne,O'.obj,_,O'.ns,λg=>?_,λg hg=>?_⟩
 ·have:=uK f y fs;omega
 ·show tV ((oZ f y fs).lookup g) (if g=f then some u else mA g);rw[uB];by_cases q:g=f
  ·rw[aP q,aP q];exact ry
  ·rw[aQ q,aQ q];exact r g
 ·by_cases q:g=f
  ·rw[q];exact (tq f y fs).1
  ·refine (tq f y fs).2 g (wi g λz=>hg ?_);show (if g=f then some u else mA g)=none;rw[aQ q];exact z
theorem gH.made(I:gH X fO σ H s):gH X fO σ (jx (jx H s.heap.objs.size (.own (s.heap.objs.size+1))) (s.heap.objs.size+1) (.ins C s.heap.objs.size []))
  {s with heap:=(s.heap.push W.emptyDict).push (W.instObj C s.heap.objs.size)}:=by
 have e1:(s.heap.push W.emptyDict).get? s.heap.objs.size=some W.emptyDict:=ar s.heap rfl;have e2:((s.heap.push W.emptyDict).push (W.instObj C s.heap.objs.size)).get? (s.heap.objs.size+1)=some (W.instObj C s.heap.objs.size):=by have:=ar (s.heap.push W.emptyDict) (o:=W.instObj C s.heap.objs.size) rfl;rwa [Heap.size_push] at this
 have e3:(s.heap.push W.emptyDict).Ns s.heap.objs.size (λ_=>none):=⟨W.emptyDict,#[],_,e1,rfl,(λe he=>absurd he (by simp)),λ_=>rfl⟩;have I1:=I.laid (a:=s.heap.objs.size) (o:=.own (s.heap.objs.size+1)) (h':=s.heap.push W.emptyDict) (t':=s.toks) (λb u q=>ae _ q) (aJ _) ⟨_,e1⟩;refine I1.laid (a:=s.heap.objs.size+1) (o:=.ins C s.heap.objs.size []) (t':=s.toks) (λb u q=>ae _ q) (Nat.le_of_eq (Heap.size_push _ _)) ?_;have ne:s.heap.objs.size≠s.heap.objs.size+1:=aL (bG _);refine⟨by rw[gA ne,gC],bH _,ne,e2,λ_=>none,(Heap.Ns1.of_empty e3).at λo q=>ae _ q,λ_=>True.intro,λy hy=>absurd rfl hy⟩
theorem Ko{prog:Program}{w:World}{env:Env}{e:Expr}{f:Str}{pos:Pos}{s:Shared}{Q:Value->Shared->Prop}(hb:attributeBase e f env (eval e env)=eval e env)
  (h:wpAny (model prog w) A (eval e env) (λo s₁=>wpAny (model prog w) A (getAttr o f true) Q E s₁) E s):wpAny (model prog w) A (eval (.Attribute e f pos) env) Q E s:=
 Attribute_any_ h (by rw[arm_eval_Attribute,hb])
end
def N1(K:W.Frag)(ta:TE)(f:Str):TE:=λσ H Q=>ta σ H λx H1=>∃a C dx fs v,x=.ref a/\H1 a=some (.ins C dx fs)/\Ba K C/\mZ K C f/\fs.lookup f=some v/\Q v H1
def Nq(K:W.Frag)(ta tv:TE)(f:Str):TS:=λD σ H=>tv σ H λy H1=>ta σ H1 λx H2=>∃a C dx fs,x=.ref a/\H2 a=some (.ins C dx fs)/\Ba K C/\mZ K C f/\fs.length<1000/\
 D.nx σ (jx H2 a (.ins C dx (oZ f y fs)))
section
variable {X:Cx}{o e value:Expr}{f:Str}{pos pos' tpos:Pos}{ta tv:TE}
theorem N7(he:PE X e ta)(hb:attributeBase e f X.env (eval e X.env)=eval e X.env):PE X (.Attribute e f pos) (N1 X.K ta f):=by intro fO s σ H Q I h;refine Ko hb (jN (he fO s σ H _ I h) λu s1 ⟨x,H1,I1,rx,a,C,dx,fs,v,ex,ea,c,n,l,q⟩=>?_);subst ex;obtain rfl:u=Value.ref a:=rx;exact Do I1 ea c n l λu' s2 I2 ru=>⟨v,H1,I2,ru,q⟩
theorem HI(ha:PE X o ta)(hv:PE X value tv)(hs:swapsWith value (some (.Attribute o f pos')) pos.line X.env=pure false):PS X (.Assign [.Attribute o f pos'] value pos) (Nq X.K ta tv f):=by intro fO s σ H D I h;refine plainObj_wpAny_Assign_Attribute (jN (hv fO s σ H _ I h) λu s1 ⟨y,H1,I1,ry,q⟩=>jN (ha fO s1 σ H1 _ I1 q) λov s2 ⟨x,H2,I2,rx,a,C,dx,fs,ex,ea,c,n,l,q2⟩=>?_) hs;subst ex;obtain rfl:ov=Value.ref a:=rx;exact Dy I2 ea c n l ry λs3 I3=>⟨σ,_,I3,q2⟩
end
section
variable {X:Cx}{fO:List (Addr×Obj)}{σ:St}{H:Hp}{s:Shared}{A:Around}{E:Value->Shared->Prop}{Q:Value->Shared->Prop}{c:Value}{b:Bool}
inductive qr(K:W.Frag)(H:Hp):V->Value->Prop where
 | non:qr K H .non (.type "NoneType")
 | bl (x:Bool):qr K H (.bl x) (.type "bool")
 | int (i:Int):qr K H (.int i) (.type "int")
 | str (x:Str):qr K H (.str x) (.type "str")
 | flt (x:UInt64):qr K H (.flt x) (.type "float")
 | lst {a:Addr} {xs:List V} (e:H a=some (.lst xs)):qr K H (.ref a) (.type "list")
 | frz {a:Addr} {o:Obj} {xs:List V} (e:H a=some (.frz o (.lst xs))):qr K H (.ref a) (.type "list")
 | tup {a:Addr} {xs:List V} (e:H a=some (.tup xs)):qr K H (.ref a) (.type "tuple")
 | dK {a:Addr} {kvs:List (mE×V)} (e:H a=some (.dK kvs)):qr K H (.ref a) (.type "dict")
 | dT {a:Addr} {kvs:List (List mE×V)} (e:H a=some (.dT kvs)):qr K H (.ref a) (.type "dict")
 | ins {a C dx:Addr} {fs:List (Str×V)} (e:H a=some (.ins C dx fs)) (cl:Ba K C) (ha:W.findIn K (.ref C) "__class__" = some (some (.builtin "object.__class__")))
   (hn:W.specialIn K (.builtin "object.__class__") "__get__" = some (some (.builtin "getset_descriptor.__get__"))) (htk:W.takesIn K (.builtin "object.__class__")=some true)
   (hm:W.mroIn K C (.type "object")=some true):qr K H (.ref a) (.ref C)
theorem Fo{x:V}{u t:Value}(I:gH X fO σ H s)(rx:iL x u)(ty:qr X.K H x t)(e:W.kitOne X.K t c=some b)(h:∀tk,Q (.bool b) {s with toks:=tk}) :
  wpAny (model X.prog X.w) A (call (.builtin "isinstance") [u,c]) Q E s:=by
 cases ty with
 | non=>cases (show u=Value.none from rx);exact W.kia_one W.kitx_none I.kIn True.intro e (λz=>nomatch z) h
 | bl y=>cases (show u=Value.bool y from rx);exact W.kia_one W.kitx_bool I.kIn True.intro e (λz=>nomatch z) h
 | int i=>obtain⟨t,q⟩:=(show ∃t,u=Value.int i t from rx);cases q;exact W.kia_one W.kitx_int I.kIn True.intro e (λz=>nomatch z) h
 | str y=>obtain⟨t,q⟩:=(show ∃t,u=Value.str y t from rx);cases q;exact W.kia_one W.kitx_str I.kIn True.intro e (λz=>nomatch z) h
 | flt y=>obtain⟨t,q⟩:=(show ∃t,u=Value.float y t from rx);cases q;exact W.kia_one W.kitx_float I.kIn True.intro e (λz=>nomatch z) h
 | @lst a xs ea=>cases (show u=Value.ref a from rx);obtain⟨_,_,n,_,h1⟩:=(show jw X.prog X.w H s.heap a (.lst xs) from I.hok a _ ea);exact W.kia_one W.kitx_list I.kIn ⟨_,h1,rfl⟩ e (λz=>nomatch z) h
 | @frz a ob xs ea=>cases (show u=Value.ref a from rx);obtain⟨_,_,_,n,_,h1⟩:=(show jw X.prog X.w H s.heap a (.frz ob (.lst xs)) from I.hok a _ ea);exact W.kia_one W.kitx_list I.kIn ⟨_,h1,rfl⟩ e (λz=>nomatch z) h
 | @tup a xs ea=>cases (show u=Value.ref a from rx);obtain⟨_,_,_,p⟩:=(show jw X.prog X.w H s.heap a (.tup xs) from I.hok a _ ea);obtain⟨o,h1,h2,_⟩:=p;exact W.kia_one W.kitx_tuple I.kIn ⟨o,h1,h2⟩ e (λz=>nomatch z) h
 | @dK a kvs ea=>cases (show u=Value.ref a from rx);obtain⟨_,_,vs,_,p⟩:=(show jw X.prog X.w H s.heap a (.dK kvs) from I.hok a _ ea);obtain⟨o,es,ep,h1,h2,_⟩:=p;exact W.kia_one W.kitx_dict I.kIn ⟨o,h1,h2.1⟩ e (λz=>nomatch z) h
 | @dT a kvs ea=>cases (show u=Value.ref a from rx);obtain⟨_,_,xs,_,o,es,ep,h1,h2,_⟩:=(show jw X.prog X.w H s.heap a (.dT kvs) from I.hok a _ ea);exact W.kia_one W.kitx_dict I.kIn ⟨o,h1,h2.1⟩ e (λz=>nomatch z) h
 | @ins a C dx fs ea cl ha hn htk hm=>cases (show u=Value.ref a from rx);obtain⟨mA,O,_⟩:=vL I.hok ea;obtain⟨od,J,_⟩:=O.look;exact W.kia_one (W.kitx_own (cl.get _) cl.hd ha hn htk hm) I.kIn J e (λz=>nomatch z) h
end
end L2
namespace L2
open PySem PySem.Spec PyProof.Rows
structure ju(k:Nat)(A:Around):Prop where
 hd:A.handled=none
 dp:A.depth+3*k+5<recursionLimit
 un:A.units+16*k+200<cLine
theorem ju.mono{j k:Nat}{A:Around}(r:ju k A)(h:j<=k):ju j A:=⟨r.hd,by have:=r.dp;omega,by have:=r.un;omega⟩
theorem ju.deeper{k:Nat}{A:Around}(r:ju (k+1) A)(env:Env):ju k (A.deeper env):=⟨r.hd,by have:=r.dp;show A.depth+1+3*k+5<_;omega,by have:=r.un;show A.units+3+16*k+200<_;omega⟩
theorem Dc{A:Around}{C:Addr}{us:List Value}{kw:List (Str×Value)}:(A.under (.builtin "type.__call__" ⟨.ref C::us,kw⟩)).depth=A.depth+1:=by first | rfl | simp[Around.under,Code.weight,Code.isCreation,Code.isGuard,Code.isCaller,Code.frames,Code.isFrame,guardIds]
theorem Cw{A:Around}{C:Addr}{us:List Value}{kw:List (Str×Value)}:(A.under (.builtin "type.__call__" ⟨.ref C::us,kw⟩)).units=A.units+1:=by first | rfl | simp[Around.under,Code.cUnits,Code.frames,Code.isFrame]
theorem ju.make{k:Nat}{A:Around}(r:ju (k+1) A)(C:Addr)(us:List Value)(kw:List (Str×Value)):ju k (A.under (.builtin "type.__call__" ⟨.ref C::us,kw⟩)):=⟨r.hd,by have:=r.dp;rw[Dc];omega,by have:=r.un;rw[Cw];omega⟩
theorem ju.depth{k:Nat}{A:Around}(r:ju k A):A.depth<recursionLimit:=by have:=r.dp;omega
theorem ju.units{k:Nat}{A:Around}(r:ju k A):A.units+64<cLine:=by have:=r.un;omega
def uT:TA:=λ_ H Q=>Q [] H
def rk(ta:TE)(tr:TA):TA:=λσ H Q=>ta σ H λx H1=>tr σ H1 λxs H2=>Q (x::xs) H2
section
variable {X:Cx}{e:Expr}{es:List Expr}{te:TE}{t:TA}{pos:Pos}
theorem uh:PA X [] uT:=λ_ _ _ _ H Q I h=>Calls.spliced_nil ⟨[],H,I,.nil,h⟩
theorem pH(ha:PE X e te)(hr:PA X es t)(hs:starEach (e::es) X.env=(false,eval e X.env)::starEach es X.env:=by rfl):PA X (e::es) (rk te t):=by intro pos fO s σ H Q I h;rw[hs];show wpAny _ _ (spliced ((false,eval e X.env)::backTo pos (starEach es X.env))) _ _ s;refine Calls.spliced_cons (jN (ha fO s σ H _ I h) λu s1 ⟨x,H1,I1,r1,q1⟩=>?_);exact jN (hr pos fO s1 σ H1 _ I1 q1) λus s2 ⟨xs,H2,I2,r2,q2⟩=>⟨x::xs,H2,I2,.cons r1 r2,q2⟩
def OL(t:TA):TE:=λσ H Q=>t σ H λxs H1=>xs.length<=sizeLine/\∀p,H1 p=none->Q (.ref p) (jx H1 p (.tup xs))
def NO(t:TA):TE:=λσ H Q=>t σ H λxs H1=>xs.length<=sizeLine/\∀p,H1 p=none->Q (.ref p) (jx H1 p (.lst xs))
theorem N8{x1}(h:PA X es t):PE X (.Tuple es x1 pos) (OL t):=by intro fO s σ H Q I hq;refine wpAny_Tuple_spliced (jN (h pos fO s σ H _ I hq) λus s1 ⟨xs,H1,I1,r,z,q⟩=>⟨by rw[<-r.length];exact z,?_⟩);have hf:H1 s1.heap.objs.size=none:=I1.hok.fresh (aJ _);refine⟨.ref s1.heap.objs.size,jx H1 s1.heap.objs.size (.tup xs),I1.laid (t':=s1.toks) (λb u e=>ae _ e) (aJ _) ?_,rfl,q _ hf⟩;exact⟨z,us,r,⟨_,ar _ rfl,rfl,_,rfl⟩⟩
theorem Oc(h:PA X es t):PE X (.List es pos) (NO t):=by intro fO s σ H Q I hq;refine wpAny_List_spliced (jN (h pos fO s σ H _ I hq) λus s1 ⟨xs,H1,I1,r,z,q⟩=>⟨by rw[<-r.length];exact z,?_⟩);have hf:H1 s1.heap.objs.size=none:=I1.hok.fresh (aJ _);refine⟨.ref s1.heap.objs.size,jx H1 s1.heap.objs.size (.lst xs),I1.laid (t':=s1.toks) (λb u e=>ae _ e) (aJ _) ?_,rfl,q _ hf⟩;exact⟨z,us,0,r,ar _ rfl⟩
end
abbrev Sp:=List V->Hp->VK->XK->Prop
abbrev FD:=List Env->Hp->Shared->XK->Value->Shared->Prop
structure DB(P:Program)(w:World)(K:W.Frag)(mg:Str->Option Value)(base:Heap)(A:Around)(outer:List Env)(s:Shared)(H:Hp):Prop where
 frames:A.frames=some outer
 mod:Mod K mg base
 bs:∀b o,base.get? b=some o->s.heap.get? b=some o/\H b=none
 bsz:base.objs.size<=s.heap.objs.size
 funs:s.heap.FunFrames base outer
 frf:∀b∈Fx outer,H b=none
 hok:qO P w H s.heap
 bare:AllBare s.gens
def CE(outer:List Env)(P:Program)(w:World)(H:Hp)(s:Shared)(Q:VK)(u:Value)(s':Shared):Prop:=∃v H',s'.os=s.os/\AllBare s'.gens/\Un (Fx outer) [] H H' s.heap s'.heap/\qO P w H' s'.heap/\iL v u/\Q v H'
def CR(CX:FD)(outer:List Env)(P:Program)(w:World)(H:Hp)(s:Shared)(Q:VK)(E:XK)(r:Result)(s':Shared):Prop:=
 match r with
 | .ok (.ret u)=>CE outer P w H s Q u s'
 | .ok _=>False
 | .error e=>CX outer H s E e s'
structure nT(P:Program)(w:World)(K:W.Frag)(mg:Str->Option Value)(base:Heap)(CX:FD)(k:Nat)(f:Addr)(fd:FuncData)(ps:List Str)(sp:Sp):Prop where
 len:∀vs H Q E,sp vs H Q E->vs.length=ps.length
 run:∀(A:Around) (outer:List Env) (s:Shared) (H:Hp) (args:Args) (us:List Value) (vs:List V) (Q:VK) (E:XK),ju k A->DB P w K mg base A outer s H->BindsTo s fd args (ps.zip us)->ib vs us->sp vs H Q E->
  codeAny (model P w) A (.call (.ref f) args) (CR CX outer P w H s Q E) s
theorem nT.mono{P:Program}{w:World}{K:W.Frag}{mg:Str->Option Value}{base:Heap}{CX:FD}{j k:Nat}{f:Addr}{fd:FuncData}{ps:List Str}{sp:Sp}(F:nT P w K mg base CX j f fd ps sp)(h:j<=k) :
  nT P w K mg base CX k f fd ps sp:=⟨F.len,λA outer s H args us vs Q E hr=>F.run A outer s H args us vs Q E (hr.mono h)⟩
theorem nT.imp{P:Program}{w:World}{K:W.Frag}{mg:Str->Option Value}{base:Heap}{CX:FD}{k:Nat}{f:Addr}{fd:FuncData}{ps:List Str}{sp sp':Sp}(F:nT P w K mg base CX k f fd ps sp)
  (h:∀vs H Q E,sp' vs H Q E->sp vs H Q E):nT P w K mg base CX k f fd ps sp':=
 ⟨λvs H Q E q=>F.len vs H Q E (h _ _ _ _ q),λA outer s H args us vs Q E hr he hb hv hs=>F.run A outer s H args us vs Q E hr he hb hv (h _ _ _ _ hs)⟩
theorem DB.make{P:Program}{w:World}{K:W.Frag}{mg:Str->Option Value}{base:Heap}{A:Around}{outer:List Env}{s:Shared}{H:Hp}(e:DB P w K mg base A outer s H)(C:Addr)(us:List Value)(kw:List (Str×Value)) :
  DB P w K mg base (A.under (.builtin "type.__call__" ⟨.ref C::us,kw⟩)) outer s H:=⟨by first | exact e.frames | (simpa[Around.under,Code.envs,Code.isFrame,pushEnvs] using e.frames),e.mod,e.bs,e.bsz,e.funs,e.frf,e.hok,e.bare⟩
section
variable {X:Cx}{fO:List (Addr×Obj)}{σ:St}{H:Hp}{s s':Shared}
theorem gH.env0(I:gH X fO σ H s):DB X.prog X.w X.K X.mg X.base X.A X.stack s H:=⟨I.ok.frames,I.ok.mod,I.bs,aM I.ok.bsz I.sz,I.stack,I.stkFree,I.hok,I.bare⟩
theorem gH.after{Q:VK}{u:Value}(I:gH X fO σ H s)(h:CE X.stack X.prog X.w H s Q u s'):EP X fO σ Q u s':=by obtain⟨v,H',os,bare,un,hok,r,q⟩:=h;obtain⟨hh,g,d,t,os'⟩:=s';obtain rfl:os'=s.os:=os;exact⟨v,H',I.call (h':=hh) (g':=g) (d':=d) (t':=t) (ch:=[]) un hok bare (λb z=>absurd z (by simp)),r,q⟩
end
def zw(sp:Sp)(dvs:List V)(E:XK)(t:TA):TE:=λσ H Q=>t σ H λvs H1=>sp (vs++dvs) H1 Q E
def yO(C:Addr)(m:Str)(sp:Sp)(dvs:List V)(E:XK)(ta:TE)(t:TA):TE:=λσ H Q=>ta σ H λx H1=>∃a dx fs,x=.ref a/\H1 a=some (.ins C dx fs)/\fs.lookup m=none/\
 t σ H1 λvs H2=>sp (x::(vs++dvs)) H2 Q E
def EM(C:Addr)(sp:Sp)(dvs:List V)(E:XK)(t:TA):TE:=λσ H Q=>t σ H λvs H1=>∀x dx,H1 x=none->H1 dx=none->dx≠x->
 sp (.ref x::(vs++dvs)) (jx (jx H1 dx (.own x)) x (.ins C dx [])) (λv H2=>v=.non/\Q (.ref x) H2) E
def qo(K:W.Frag)(fd:FuncData)(ps:List Str)(ds:List Value):Prop:=∀(s:Shared) (us:List Value),K.In s.heap->(us++ds).length=ps.length->BindsTo s fd ⟨us,[]⟩ (ps.zip (us++ds))
theorem qo.all{K:W.Frag}{fd:FuncData}{ps:List Str}(h:∀us:List Value,us.length=ps.length->bindArgs fd ⟨us,[]⟩=pure (ps.zip us)):qo K fd ps []:=λs us _ hl=>by rw[bI] at hl ⊢;exact .of_eq (h us hl)
def tm(CX:FD)(X:Cx)(E:XK):Prop:=∀(fO:List (Addr×Obj)) (σ:St) (H:Hp) (s:Shared) (e:Value) (s':Shared),gH X fO σ H s->CX X.stack H s E e s'->X.xe e s'
section
variable {X:Cx}{CX:FD}{k:Nat}{f C:Addr}{fd:FuncData}{ps:List Str}{sp:Sp}{dvs:List V}{ds:List Value}{E:XK}{x m:Str}{p pos apos:Pos}{e o:Expr}{es:List Expr}{ta:TE}{t:TA}
theorem Hj{fO:List (Addr×Obj)}{σ:St}{H:Hp}{s:Shared}{Q:VK}{us:List Value}{vs:List V}(F:nT X.prog X.w X.K X.mg X.base CX k f fd ps sp)(hr:ju k X.A)(hb:qo X.K fd ps ds)(hd:ib dvs ds)(hx:tm CX X E)
  (I:gH X fO σ H s) (r:ib vs us) (h:sp (vs++dvs) H Q E):wpAny (model X.prog X.w) X.A (call (.ref f) us) (EP X fO σ Q) X.xe s:=by
 have r2:ib (vs++dvs) (us++ds):=r.append hd;have hl:(us++ds).length=ps.length:=by rw[<-r2.length];exact F.len _ _ _ _ h
 refine wpAny_call (codeAny_mono (F.run X.A X.stack s H ⟨us,[]⟩ (us++ds) (vs++dvs) Q E hr I.env0 (hb s us I.kIn hl) r2 h) λr s' hq=>?_);cases r with
 | error e=>exact hx fO σ H s e s' I hq
 | ok fl=>
  cases fl with
  | ret u=>exact I.after hq
  | next=>exact False.elim hq
  | brk=>exact False.elim hq
  | cont=>exact False.elim hq
theorem Lg(F:nT X.prog X.w X.K X.mg X.base CX k f fd ps sp)(hr:ju k X.A)(hg:Gl X x)(hm:X.mg x=some (.ref f))(hk:W.keepIn X.K (.ref f)=true)(hb:qo X.K fd ps ds)(hd:ib dvs ds)(hx:tm CX X E)
  (ha:PA X (e::es) t) (hdb:(x == ("__debug__" : Str))=false:=by decide) (he:starEach (e::es) X.env=(false,eval e X.env)::starEach es X.env:=by rfl) (hpl:(backTo pos (starEach es X.env)).any (·.1)=false:=by rfl) :
  PE X (.Call (.Name x p) (e::es) [] pos) (zw sp dvs E t):=by
 intro fO s σ H Q I h;refine wpAny_Call_Name_kw (zL I hg hm ?_ hdb);refine W.callWith_K (h₀:=X.base) I.ok.mod.kin hk (jN (ha pos fO s σ H _ I h) λus s1 ⟨vs,H1,I1,r,q⟩=>⟨I1.kIn,?_⟩) he hpl;exact Hj F hr hb hd hx I1 r q
theorem IY{pl:Sem Bool}(he:PE X o ta)(c:Ba X.K C)(hm:KU X.K C m f)(F:nT X.prog X.w X.K X.mg X.base CX k f fd ps sp)(hr:ju k X.A)(hb:qo X.K fd ps ds)(hd:ib dvs ds)(hx:tm CX X E)
  (ht:eval (.Call (.Attribute o m apos) [] [] pos) X.env=(do
   let ov <-eval o X.env
   standAt apos.atName
   let (f,first) <-holding [ov] (getMethod ov m pl)
   callWith pos f first (backTo pos (starEach [] X.env)) (backToKw pos (keywordEach [] X.env))):=by rfl) :
  PE X (.Call (.Attribute o m apos) [] [] pos) (yO C m sp dvs E ta uT):=by
 intro fO s σ H Q I h;refine W.methodCall_KW (pl:=pl) (jN (he fO s σ H _ I h) λu s1 ⟨x,H1,I1,rx,a,dx,fs,ex,ea,l,q⟩=>?_) ht;subst ex;obtain rfl:u=Value.ref a:=rx;refine Ea I1 ea c hm l ?_;exact W.callWith_K0 (first:=[.ref a]) I1.kIn hm.kp (Hj (us:=[.ref a]) (vs:=[.ref a]) F hr hb hd hx I1 (.cons rfl .nil) q)
structure Mk(K:W.Frag)(C f:Addr):Prop where
 makes:W.makesIn K C=true
 init:W.findIn K (.ref C) "__init__" = some (some (.ref f))
 fn:W.isFn K (.ref f)=true
 kp:W.keepIn K (.ref C)=true
theorem HX{fO:List (Addr×Obj)}{σ:St}{H:Hp}{s:Shared}{Q:VK}{us:List Value}{vs:List V}(M:Mk X.K C f)(F:nT X.prog X.w X.K X.mg X.base CX k f fd ps sp)(hr:ju (k+1) X.A)(hb:qo X.K fd ps ds)(hd:ib dvs ds)
  (hx:tm CX X E) (I:gH X fO σ H s) (r:ib vs us)
  (h:∀x dx,H x=none->H dx=none->dx≠x->sp (.ref x::(vs++dvs)) (jx (jx H dx (.own x)) x (.ins C dx [])) (λv H2=>v=.non/\Q (.ref x) H2) E) :
  wpAny (model X.prog X.w) X.A (call (.ref C) us) (EP X fO σ Q) X.xe s:=by
 have hq:=h (s.heap.objs.size+1) s.heap.objs.size (I.hok.fresh (bJ _)) (I.hok.fresh (aJ _)) (aL (bG _));have I2:=gH.made (C:=C) I;have r2:ib (V.ref (s.heap.objs.size+1)::(vs++dvs)) (Value.ref (s.heap.objs.size+1)::(us++ds)):=.cons rfl (r.append hd);have hl:(Value.ref (s.heap.objs.size+1)::us++ds).length=ps.length:=by have e:=r2.length;rw[F.len _ _ _ _ hq] at e;exact e.symm
 refine wpAny_call (Im (f:=f) I.kIn M.makes M.init (beq_iff_eq.mp M.fn) (codeAny_mono (F.run _ X.stack _ _ ⟨Value.ref (s.heap.objs.size+1)::us,[]⟩ (Value.ref (s.heap.objs.size+1)::(us++ds)) _ _ E (hr.make C us [])
  (I2.env0.make C us []) (hb _ (Value.ref (s.heap.objs.size+1)::us) I2.kIn hl) r2 hq) λr s' hq'=>?_))
 cases r with
 | error e=>exact hx fO σ _ _ e s' I2 hq'
 | ok fl=>
  cases fl with
  | ret u=>obtain⟨v,H',I3,rv,ev,q3⟩:=I2.after hq';subst ev;exact⟨rv,⟨V.ref (s.heap.objs.size+1),H',I3,rfl,q3⟩⟩
  | next=>exact False.elim hq'
  | brk=>exact False.elim hq'
  | cont=>exact False.elim hq'
theorem Lu(M:Mk X.K C f)(F:nT X.prog X.w X.K X.mg X.base CX k f fd ps sp)(hr:ju (k+1) X.A)(hg:Gl X x)(hm:X.mg x=some (.ref C))(hb:qo X.K fd ps ds)(hd:ib dvs ds)(hx:tm CX X E)
  (ha:PA X (e::es) t) (hdb:(x == ("__debug__" : Str))=false:=by decide) (he:starEach (e::es) X.env=(false,eval e X.env)::starEach es X.env:=by rfl) (hpl:(backTo pos (starEach es X.env)).any (·.1)=false:=by rfl) :
  PE X (.Call (.Name x p) (e::es) [] pos) (EM C sp dvs E t):=by
 intro fO s σ H Q I h;refine wpAny_Call_Name_kw (zL I hg hm ?_ hdb);refine W.callWith_K (h₀:=X.base) I.ok.mod.kin M.kp (jN (ha pos fO s σ H _ I h) λus s1 ⟨vs,H1,I1,r,q⟩=>⟨I1.kIn,?_⟩) he hpl;exact HX M F hr hb hd hx I1 r q
end
section
variable {X:Cx}{CX:FD}{k:Nat}{f C:Addr}{fd:FuncData}{ps ks:List Str}{sp:Sp}{E:XK}{x m:Str}{p pos apos kpos:Pos}{e o:Expr}{es:List Expr}{kws:List Keyword}{te ta:TE}{t tk:TA}{nm:Option Str}
variable {g:List Value->List Value->List Value}{gV:List V->List V->List V}
end
structure f7(N P:List Str)(sc:Scope):Prop where
 kind:sc.kind=.function
 co:sc.isCoroutine=false
 gen:sc.isGenerator=false
 nd:N.Nodup
 pre:N.take P.length=P
 par:∀x∈P,sc.names.lookup x=some .local\/sc.names.lookup x=some .cell
 nofree:∀y∈sc.names,y.2≠.free
theorem zm{kindOf:Str->Option NameKind}{x:Str}:∀{binds:List (Str×Value)} {m:Str->Option Value},(∀v,(x,v)∉binds)->bindL kindOf binds m x=m x
 | [],_,_=>rfl
 | (n,v)::r,m,h=>by
  unfold bindL;rw[zm λw hw=>h w (bu _ hw)];split
  ·have:x≠n:=by rintro rfl;exact h v bj
   simp[this]
  ·rfl
theorem yD{kindOf:Str->Option NameKind}{x:Str}:∀{binds:List (Str×Value)} {m:Str->Option Value},(∀v,(x,v)∉binds)->bindC kindOf binds m x=m x
 | [],_,_=>rfl
 | (n,v)::r,m,h=>by
  unfold bindC;rw[yD λw hw=>h w (bu _ hw)];split
  ·rfl
  ·have:x≠n:=by rintro rfl;exact h v bj
   simp[this]
theorem ze{kindOf:Str->Option NameKind}{x:Str}{v:Value}:∀{P:List Str} {vs:List Value} {i:Nat} {m:Str->Option Value},P.Nodup->P[i]? = some x->vs[i]? = some v->kindOf x=some .local->
  bindL kindOf (P.zip vs) m x=some v
 | [],_,_,_,_,h,_,_=>by simp at h
 | _::_,[],_,_,_,_,h,_=>by simp at h
 | p::P,w::vs,0,m,nd,h1,h2,hk=>by simp at h1 h2;subst h1;subst h2;show bindL kindOf ((p,w)::P.zip vs) m p=_;unfold bindL;rw[zm λv hv=>(bK.mp nd).1 (aV hv).1,aP hk];simp
 | p::P,w::vs,i+1,m,nd,h1,h2,hk=>by show bindL kindOf ((p,w)::P.zip vs) m x=_;unfold bindL;exact ze (i:=i) (bK.mp nd).2 (by simpa using h1) (by simpa using h2) hk
theorem zp{kindOf:Str->Option NameKind}{x:Str}{v:Value}:∀{P:List Str} {vs:List Value} {i:Nat} {m:Str->Option Value},P.Nodup->P[i]? = some x->vs[i]? = some v->kindOf x≠some .local->
  bindC kindOf (P.zip vs) m x=some v
 | [],_,_,_,_,h,_,_=>by simp at h
 | _::_,[],_,_,_,_,h,_=>by simp at h
 | p::P,w::vs,0,m,nd,h1,h2,hk=>by simp at h1 h2;subst h1;subst h2;show bindC kindOf ((p,w)::P.zip vs) m p=_;unfold bindC;rw[yD λv hv=>(bK.mp nd).1 (aV hv).1,aQ hk];simp
 | p::P,w::vs,i+1,m,nd,h1,h2,hk=>by show bindC kindOf ((p,w)::P.zip vs) m x=_;unfold bindC;exact zp (i:=i) (bK.mp nd).2 (by simpa using h1) (by simpa using h2) hk
def mW(N:List Str)(vs:List V):St:=vs.map some++List.replicate (N.length - vs.length) none
def sC(CX:FD)(P:Program)(w:World)(K:W.Frag)(mg:Str->Option Value)(base:Heap)(N:List Str)(qual:Str)(scope:Scope)(f:Addr)(cd:Value)(A:Around)(outer:List Env)(s:Shared)(H:Hp)(E:XK):Cx where
 prog:=P
 w:=w
 K:=K
 mg:=mg
 base:=base
 A:=A.deeper (envOfC qual scope s.heap.objs.size f cd)
 N:=N
 s₀:=s
 H₀:=H
 env:=envOfC qual scope s.heap.objs.size f cd
 outer:=outer
 stack:=envOfC qual scope s.heap.objs.size f cd::outer
 ex:=[]
 calm:=true
 fn:=λ_=>true
 pn:=[]
 xe:=λe s'=>wpAny (model P w) (A.deeper (envOfC qual scope s.heap.objs.size f cd)) (leaving (envOfC qual scope s.heap.objs.size f cd) e) (λ_ s''=>CX outer H s E e s'') (λe' s''=>CX outer H s E e' s'') s'
theorem gG{sc:Scope}{n:Nat}{x:Str}(h:sc.names.lookup x=some .cell):∃c,(cellsFrom n sc.names []).lookup x=some c:=by have q:=W.cellsFrom_some sc.names n [] (.inl h);exact bL.mp q
theorem GE{CX:FD}{P:Program}{w:World}{K:W.Frag}{mg:Str->Option Value}{base:Heap}{N ps:List Str}{qual:Str}{scope:Scope}{f:Addr}{cd:Value}{A:Around}{outer:List Env}{s s1:Shared}{H:Hp}{E:XK}{us:List Value}{vs:List V}
  (S:f7 N ps scope) (hd:A.handled=none) (e0:DB P w K mg base A outer s H) (hl:vs.length=ps.length) (r:ib vs us)
  (x:InCallC s s.heap.objs.size (bindL (envOfC qual scope s.heap.objs.size f cd).kindOf (ps.zip us) λ_=>none) (cellsFrom (s.heap.objs.size+1) scope.names []) (bindC (envOfC qual scope s.heap.objs.size f cd).kindOf (ps.zip us) λ_=>none) s1) :
  gH (sC CX P w K mg base N qual scope f cd A outer s H E) [] (mW N vs) H s1:=by
 have hpl:ps.length<=N.length:=by have:=congrArg List.length S.pre;rw[bM] at this;omega
 obtain⟨h1,tk,rfl,hk⟩:=x.done;have noA:∀b:Addr,b∉(sC CX P w K mg base N qual scope f cd A outer s H E).ex:=λb z=>absurd (show b∈([]:List Addr) from z) (by simp);refine⟨⟨e0.mod,S.kind,rfl,rfl,aJ _,λy z c h1 h2=>?_,λy hy=>?_,λy c _ h=>?_,λ_=>hd,Around.frames_deeper e0.frames,.inr ⟨rfl,rfl⟩,λb z=>absurd z (noA b),e0.bs,e0.bsz,λb _ _=>noA b,λb z=>absurd z (noA b),e0.funs,e0.frf⟩,
  rfl,e0.bare,Un.kept hk,⟨_,x.toInCall.ns,λi y v h1 h2 h3=>?_⟩,λy c h=>⟨_,x.cell y c h⟩,e0.hok.fresh (aJ _),λy c h=>?_,λp hp=>absurd (show p∈([]:List (Addr×Obj)) from hp) (by simp),e0.hok.kept hk,?_⟩
 ·exact name_of_addr x.apart (PySem.mem_of_lookup h1) (PySem.mem_of_lookup h2)
 ·have hy:scope.names.lookup y=some .cell\/scope.names.lookup y=some .free:=hy;rcases hy with hy | hy
  ·exact gG hy
  ·exact absurd rfl (S.nofree _ (PySem.mem_of_lookup hy))
 ·exact bg (x.above y c (PySem.mem_of_lookup h))
 ·have hi:i<vs.length:=by
   unfold mW at h2;by_cases hi:i<vs.length
   ·exact hi
   ·rw[List.getElem?_append_right (by simpa using hi)] at h2;rw[List.getElem?_replicate] at h2;split at h2<;>cases h2
  have ha:vs[i]? = some v:=by
   unfold mW at h2;rw[List.getElem?_append_left (by simpa using hi),av] at h2;cases e:vs[i]? with
   | none=>rw[e] at h2;cases h2
   | some a=>rw[e] at h2;cases h2;rfl
  obtain⟨u,hu,rv⟩:=r.get ha;have hp:ps[i]? = some y:=by rw[<-S.pre,List.getElem?_take_of_lt (by omega)];exact h1
  have ndP:ps.Nodup:=by rw[<-S.pre];exact S.nd.sublist (List.take_sublist _ _)
  refine⟨u,rv,?_⟩;rcases S.par y (au hp) with k | k
  ·exact .inl ⟨k,ze ndP hp hu k⟩
  ·obtain⟨c,e⟩:=gG (n:=s.heap.objs.size+1) k;refine .inr ⟨.inl k,c,e,?_⟩;have q:=x.cell y c e;rw[zp ndP hp hu (by show scope.names.lookup y≠_;rw[k];decide)] at q;exact q
 ·exact e0.hok.fresh (bg (x.above y c (PySem.mem_of_lookup h)))
 ·unfold mW;show _=N.length;rw[aS,aw,bN];omega
theorem Qf{CX:FD}{P:Program}{w:World}{K:W.Frag}{mg:Str->Option Value}{base:Heap}{k:Nat}{f:Addr}{name qual:Str}{params:Arguments}{body:List Stmt}{scope:Scope}{dV kV doc pm cdv ct oc:Value}{an od:Option Addr}
  {osl:Array (Option Value)} {N ps:List Str} {sp:Sp} (lk:K.lookup f=some ⟨oc,od,.func (W.fnOf name qual params body scope dV kV doc pm an cdv ct),osl⟩) (hcd:W.codeIn K cdv qual=true) (S:f7 N ps scope)
  (len:∀vs H Q E,sp vs H Q E->vs.length=ps.length)
  (hbody:∀(A:Around) (outer:List Env) (s:Shared) (H:Hp) (vs:List V) (Q:VK) (E:XK),ju k (A.deeper (envOfC qual scope s.heap.objs.size f cdv))->sp vs H Q E->
   ∃t,B8 (sC CX P w K mg base N qual scope f cdv A outer s H E) body t/\t {nx:=λ_ H'=>Q .non H',rt:=Q} (mW N vs) H) :
  nT P w K mg base CX (k+1) f (W.fnOf name qual params body scope dV kV doc pm an cdv ct) ps sp:=by
 refine⟨len,λA outer s H args us vs Q E hr e0 hb r hsp=>?_⟩;have hl:=len _ _ _ _ hsp;have KX:K.In s.heap:=e0.mod.kin.keeps λb o e=>(e0.bs b o e).1;have lim:s.heap.NoLimit:=e0.mod.nolimit.keeps λb o e=>(e0.bs b o e).1;have hkind:∀y∈ps.zip us,scope.names.lookup y.1=some .local\/(scope.names.lookup y.1=some .cell/\((cellsFrom (s.heap.objs.size+1) scope.names []).lookup y.1).isSome=true):=λ⟨n,v⟩ hy=>by
  rcases S.par n (aV hy).1 with q | q
  ·exact .inl q
  ·exact .inr ⟨q,W.cellsFrom_some _ _ _ (.inl q)⟩
 refine codeAny_call_function hr.depth (KX _ _ lk) rfl S.co S.gen rfl (W.codeRec_of KX hcd) (hb _ _ _ _ ?_);refine wpAny_newFunctionEnv_cells S.kind hkind λenv he s1 x=>?_;subst he;refine⟨lim.keeps x.toInCall.keep,codeAny_func ?_⟩;obtain⟨t,ht,hq⟩:=hbody A outer s H vs Q E (hr.deeper _) hsp;have I:gH (sC CX P w K mg base N qual scope f cdv A outer s H E) [] (mW N vs) H s1:=GE S hr.hd e0 hl r x;refine wpAny_mono (ht [] s1 (mW N vs) H _ I hq) (λfl s' hs=>?_) λe s' hs=>hs;have fin:∀{σ':St} {H':Hp} {v:V} {u:Value},gH (sC CX P w K mg base N qual scope f cdv A outer s H E) [] σ' H' s'->iL v u->Q v H'->CE outer P w H s Q u s':=λ{σ' H' v u} J rv q=>⟨v,H',J.os,J.bare,J.base,J.hok,rv,q⟩
 cases fl with
 | ret u=>obtain⟨v,σ',H',J,rv,q⟩:=hs;exact fin J rv q
 | next=>obtain⟨σ',H',J,q⟩:=hs;exact fin (v:=V.non) (u:=Value.none) J rfl q
 | brk=>obtain⟨_,_,_,q⟩:=hs;exact False.elim q
 | cont=>obtain⟨_,_,_,q⟩:=hs;exact False.elim q
end L2
namespace L2
open PySem PySem.Spec PyProof.Rows
section
variable {X:Cx}{x:Str}{p pos:Pos}{e:Expr}{es:List Expr}{t:TA}{id T:String}{r:List V->Hp->VK->Prop}
def IB(r:List V->Hp->VK->Prop)(t:TA):TE:=λσ H Q=>t σ H λvs H1=>r vs H1 Q
theorem Cg(hc:kU X (.builtin id) r)(hg:Gl X x)(hm:X.mg x=none)(hv:bootBuiltins x=some (.builtin id))(ha:PA X (e::es) t)(hn:x≠ "__name__" :=by decide)(hdb:(x == ("__debug__" : Str))=false:=by decide)
  (he:starEach (e::es) X.env=(false,eval e X.env)::starEach es X.env:=by rfl) (hpl:(backTo pos (starEach es X.env)).any (·.1)=false:=by rfl):PE X (.Call (.Name x p) (e::es) [] pos) (IB r t):=by
 intro fO s σ H Q I h;refine wpAny_Call_Name_kw (pG I hg hm hv ?_ hn hdb);exact PyProof.Rows.callWith_builtin1 (jN (ha pos fO s σ H _ I h) λus s1 ⟨vs,H1,I1,r1,q1⟩=>hc fO s1 σ H1 vs us Q I1 r1 q1) he hpl
theorem tU(hc:kU X (.type T) r)(hg:Gl X x)(hm:X.mg x=none)(hv:bootBuiltins x=some (.type T))(ha:PA X (e::es) t)(hn:x≠ "__name__" :=by decide)(hdb:(x == ("__debug__" : Str))=false:=by decide)
  (he:starEach (e::es) X.env=(false,eval e X.env)::starEach es X.env:=by rfl) (hpl:(backTo pos (starEach es X.env)).any (·.1)=false:=by rfl):PE X (.Call (.Name x p) (e::es) [] pos) (IB r t):=by
 intro fO s σ H Q I h;refine wpAny_Call_Name_kw (pG I hg hm hv ?_ hn hdb);exact PyProof.Rows.callWith_type1 (jN (ha pos fO s σ H _ I h) λus s1 ⟨vs,H1,I1,r1,q1⟩=>hc fO s1 σ H1 vs us Q I1 r1 q1) he hpl
end
end L2
namespace HT
open PySem PyProof.Rows
section
open PySem.SeqAt
open PySem.AutoSeq1 (wpAny_loadPart')
open PySem.MeetsSeq PySem.MeetsSeq2 PySem.MeetsSeq3
end
section
variable {prog:Program}{w:World}{A:Around}{E:Value->Shared->Prop}{s:Shared}
theorem cat_tup{t b:Addr}{vs ws:List Value}{Q:Value->Shared->Prop}(ht:IsTup s.heap t vs.toArray)(hb:IsTup s.heap b ws.toArray)(hv:vs≠[])
  (h1:ws=[]->Q (.ref t) s) (h2:ws≠[]->Q (.ref s.heap.objs.size) {s with heap:=s.heap.push {cls:=.type "tuple",data:=.seq (vs++ws).toArray}})
  (hsz:vs.length+ws.length<=sizeLine):wpAny (model prog w) A (binaryOp .Add (.ref t) (.ref b)) Q E s:=by
 obtain⟨⟨cls,dd,data,sl⟩,ho,hc,n,hd⟩:=id ht;obtain⟨⟨cls2,dd2,data2,sl2⟩,ho2,hc2,n2,hd2⟩:=id hb;simp only at hc hd hc2 hd2;subst hc hd hc2 hd2;have e:vs.toArray++ws.toArray=(vs++ws).toArray:=by simp
 by_cases hw:ws=[]
 ·exact concat_meets ⟨_,ho,rfl⟩ ⟨_,ho2,rfl⟩ noFill_tuple_add seq_tuple_add PySem.F.slot_tuple_add PySem.F.entry_tuple_add (PySem.F.args_tuple_add_2 _ _)
   (tuple_addW1 t b vs.toArray ws.toArray n n2 dd dd2 sl sl2 (by simpa using hv) (by simp[hw])) ⟨ho,ho2,h1 hw⟩
 ·refine concat_meets ⟨_,ho,rfl⟩ ⟨_,ho2,rfl⟩ noFill_tuple_add seq_tuple_add PySem.F.slot_tuple_add PySem.F.entry_tuple_add (PySem.F.args_tuple_add_2 _ _)
   (tuple_addW2 t b vs.toArray ws.toArray n n2 dd dd2 sl sl2 (by simpa using hv) (by simpa using hw) (by rw[bD,bD];exact hsz)) ⟨ho,ho2,?_⟩
  rw[e];exact h2 hw
def sIx(n d:Nat):Option Int->Nat
 | none=>d
 | some v=>if v<0 then (v+(n:Int)).toNat else min v.toNat n
theorem sIx_none(n d:Nat):sIx n d none=d:=rfl
theorem sIx_nat(n d k:Nat):sIx n d (some (k:Int))=min k n:=by show (if (k:Int)<0 then ((k:Int)+(n:Int)).toNat else min (k:Int).toNat n)=min k n;rw[aQ (by omega),bO]
theorem Oh(n d:Nat)(hd:d<=n)(o:Option Int):sIx n d o<=n:=by
 cases o with
 | none=>exact hd
 | some v=>
  show (if v<0 then (v+(n:Int)).toNat else min v.toNat n)<=n;by_cases hv:v<0
  ·rw[aP hv];omega
  ·rw[aQ hv];exact Nat.min_le_right _ _
theorem Eg(v:Int)(n d:Nat):(if v<0 then max (v+(n:Int)) 0 else min v (n:Int))=((sIx n d (some v):Nat):Int):=by
 show (if v<0 then max (v+(n:Int)) 0 else min v (n:Int))=(((if v<0 then (v+(n:Int)).toNat else min v.toNat n):Nat):Int);by_cases hv:v<0
 ·simp only[aP hv];omega
 ·simp only[aQ hv];omega
theorem DZ(lo hi:Option Int)(n:Nat):Builtin.Slice.sliceAdjust lo hi 1 (n:Int)=(((sIx n 0 lo:Nat):Int),((sIx n n hi:Nat):Int)):=by
 have h1:¬((1:Int)<0):=by omega
 unfold Builtin.Slice.sliceAdjust;simp only[h1,if_false];refine Prod.ext ?_ ?_
 ·cases lo with
  | none=>rfl
  | some v=>exact Eg v n 0
 ·cases hi with
  | none=>rfl
  | some v=>exact Eg v n n
theorem CK(i j:Nat):Builtin.Slice.slicePlaces (i:Int) (j:Int) 1=j - i:=by
 unfold Builtin.Slice.slicePlaces;have h1:(1:Int)>0:=by omega
 simp only[h1,if_true,bP];split<;>omega
theorem rA{v:Value}{o:Option Int}{Q:Option Int->Shared->Prop}(p:IsPart v o)(h:Q o s):wpAny (model prog w) A (Builtin.Slice.slicePartIndex v) Q E s:=by
 cases p with
 | none=>exact slicePart_none h
 | int i t=>exact slicePart_int h
theorem oy{sl:Addr}{vl vu:Value}{lo hi:Option Int}{n:Nat}{Q:Int×Int×Nat->Shared->Prop}(hs:s.heap.IsSliceOf sl vl vu .none)(pl:IsPart vl lo)(pu:IsPart vu hi)
  (h:Q (((sIx n 0 lo:Nat):Int),1,sIx n n hi - sIx n 0 lo) s):wpAny (model prog w) A (Builtin.Slice.sliceApplied (.ref sl) (pure (n:Int))) Q E s:=by
 obtain⟨os,hos,hcs,hds⟩:=id hs;unfold Builtin.Slice.sliceApplied Builtin.Slice.sliceFields;refine ao (ao (wpAny_field hos hds (x:=vl) rfl (ao (wpAny_field hos hds (x:=vu) rfl (ao (wpAny_field hos hds (x:=.none) rfl (ak ?_)))))));refine ao (slicePart_none ?_);show wpAny _ _ (if ((1:Int) == 0)=true then _ else _) _ _ s;rw[aQ (by decide)];refine ao (rA pl (ao (rA pu (ao (ak ?_)))));show wpAny _ _ (match Builtin.Slice.sliceAdjust lo hi 1 (n:Int) with | (lo,hi)=>pure (lo,(1:Int),Builtin.Slice.slicePlaces lo hi 1)) _ _ s;rw[DZ lo hi n];show wpAny _ _ (pure (((sIx n 0 lo:Nat):Int),(1:Int),Builtin.Slice.slicePlaces ((sIx n 0 lo:Nat):Int) ((sIx n n hi:Nat):Int) 1)) _ _ s;rw[CK];exact ak h
theorem HP(xs:Array Value)(i k:Nat):((List.range k).filterMap λ(m:Nat)=>xs[((i:Int)+(m:Int)*1).toNat]?).toArray=((xs.toList.drop i).take k).toArray:=by
 have e:(λ(m:Nat)=>xs[((i:Int)+(m:Int)*1).toNat]?)=λm=>xs[i+m]?:=by
  funext m;have:((i:Int)+(m:Int)*1).toNat=i+m:=by omega
  rw[this]
 rw[e];have:=pick_run xs i k;rw[bQ] at this;have e2:((λx=>xs[x]?) ∘ λx=>i+x)=λm=>xs[i+m]?:=rfl;rw[e2] at this;rw[this]
theorem getItem_tuple_cut{t sl:Addr}{items:Array Value}{vl vu:Value}{lo hi:Option Int}{Q:Value->Shared->Prop}(ht:IsTup s.heap t items)(hs:s.heap.IsSliceOf sl vl vu .none)(pl:IsPart vl lo)(pu:IsPart vu hi)
  (hw:¬(sIx items.size 0 lo=0/\sIx items.size items.size hi=items.size))
  (h:Q (.ref s.heap.objs.size) {s with heap:=s.heap.push {cls:=.type "tuple",data:=.seq ((items.toList.drop (sIx items.size 0 lo)).take (sIx items.size items.size hi - sIx items.size 0 lo)).toArray}})
  (hsz:items.size<=sizeLine):wpAny (model prog w) A (getItem (.ref t) (.ref sl)) Q E s:=by
 have sW:sizeOk (.seq ((items.toList.drop (sIx items.size 0 lo)).take (sIx items.size items.size hi - sIx items.size 0 lo)).toArray):=by show ((items.toList.drop (sIx items.size 0 lo)).take (sIx items.size items.size hi - sIx items.size 0 lo)).toArray.size<=sizeLine;rw[bD,bM,bR,bx];omega
 have hj:sIx items.size items.size hi<=items.size:=Oh _ _ (aJ _) hi;obtain⟨os,hos,hcs,hds⟩:=id hs;have hTs:s.TypeIs (.ref sl) "slice" :=⟨os,hos,hcs⟩;unfold getItem;try with_reducible refine wpAny_holding ?_;first | refine ao (ak ?_) | skip
 refine ao (wpAny_sequenceKey ht.typeIs (by decide) ?_);refine ao (wpAny_callSpecial?_slot (name:=Str.ofString "__getitem__") ht.typeIs PyProof.Rows.slot_tuple_getitem
  (wpAny_call_entry PyProof.Rows.slot_tuple_getitem ht.typeIs entry_tuple_getitem ?_ (args_tuple_getitem _ _)))
 show wpAny _ _ (Builtin.Tuple.tupleItemsOf (.ref t) >>= _) _ _ s;refine ao (tupleItemsOf_ ht ?_);refine ao (wpAny_typeOf hTs ?_);rw[aP (by decide)];refine ao (oy hs pl pu ?_);have hno:¬((((sIx items.size 0 lo:Nat):Int) == 0&&(1:Int) == 1&&(sIx items.size items.size hi - sIx items.size 0 lo) == items.size)=true):=by intro q;rw[bS,bS] at q;have q1:((sIx items.size 0 lo:Nat):Int)=0:=eq_of_beq q.1.1;have q2:sIx items.size items.size hi - sIx items.size 0 lo=items.size:=eq_of_beq q.2;exact hw ⟨by omega,by omega⟩
 show wpAny _ _ (if (((sIx items.size 0 lo:Nat):Int) == 0&&(1:Int) == 1&&(sIx items.size items.size hi - sIx items.size 0 lo) == items.size)=true then _ else _) _ _ s;rw[aQ hno,HP];first
  | exact ao (m:=Builtin.Tuple.tupleExact _) (wpAny_newObj_type (ak ⟨_,rfl,ak h⟩) sW)
  | exact ao (m:=Builtin.Tuple.tupleExact _) (wpAny_newObj_type (ao (ak (ak ⟨_,rfl,ak h⟩))) sW)
  | exact ao (ao (m:=Builtin.Tuple.tupleExact _) (wpAny_newObj_type (ak (ak ⟨_,rfl,ak h⟩)) sW))
  | exact ao (ao (m:=Builtin.Tuple.tupleExact _) (wpAny_newObj_type (ak ⟨_,rfl,ak h⟩) sW))
end
end HT
namespace L2
open PySem PySem.Spec PyProof.Rows
abbrev TO:=St->Hp->(Option Int->Hp->Prop)->Prop
def PO(X:Cx)(e:Option Expr)(t:TO):Prop:=
 ∀(fO:List (Addr×Obj)) (s:Shared) (σ:St) (H:Hp) (Q:Option Int->Hp->Prop),gH X fO σ H s->t σ H Q->
  wpAny (model X.prog X.w) X.A (evalPart e X.env) (λu s'=>∃o H',gH X fO σ H' s'/\IsPart u o/\Q o H') X.xe s
def Ei:TO:=λ_ H Q=>Q none H
def HV(t:TE):TO:=λσ H Q=>t σ H λx H1=>∃i,x=.int i/\Q (some i) H1
section
variable {X:Cx}{e:Expr}{te:TE}{lo hi:Option Expr}{tl th:TO}{pos p2:Pos}
theorem Me:PO X none Ei:=by intro fO s σ H Q I h;rw[evalPart_none];exact ak ⟨none,H,I,.none,h⟩
theorem Fe(h:PE X e te):PO X (some e) (HV te):=by intro fO s σ H Q I hw;rw[evalPart_some];refine jN (h fO s σ H _ I hw) λu s1 ⟨x,H1,I1,r1,q1⟩=>?_;obtain⟨i,rfl,q⟩:=q1;obtain⟨t,rfl⟩:=r1;exact⟨some i,H1,I1,.int i t,q⟩
def ML(X:Cx)(r:V->Option Int->Option Int->Hp->VK->Prop):Prop:=
 ∀(fO:List (Addr×Obj)) (s:Shared) (σ:St) (H:Hp) (x:V) (v vl vu:Value) (lo hi:Option Int) (sl:Addr) (Q:VK),gH X fO σ H s->iL x v->s.heap.IsSliceOf sl vl vu .none->IsPart vl lo->IsPart vu hi->r x lo hi H Q->
  ∃T id,typeLookup (.type T) "__getitem__" = pure (some (.builtin id))/\s.TypeIs v T/\wpAny (model X.prog X.w) X.A (getItem v (.ref sl)) (EP X fO σ Q) X.xe s
theorem ML.or{r r':V->Option Int->Option Int->Hp->VK->Prop}(h:ML X r)(h':ML X r'):ML X (λx lo hi H Q=>r x lo hi H Q\/r' x lo hi H Q):=by
 intro fO s σ H x v vl vu lo hi sl Q I rx hs pl pu q;rcases q with q | q
 ·exact h fO s σ H x v vl vu lo hi sl Q I rx hs pl pu q
 ·exact h' fO s σ H x v vl vu lo hi sl Q I rx hs pl pu q
def Si(r:V->Option Int->Option Int->Hp->VK->Prop)(te:TE)(tl th:TO):TE:=λσ H Q=>te σ H λx H1=>tl σ H1 λl H2=>th σ H2 λu H3=>r x l u H3 Q
theorem He{r:V->Option Int->Option Int->Hp->VK->Prop}(hr:ML X r)(he:PE X e te)(hl:PO X lo tl)(hu:PO X hi th):PE X (.Subscript e (.Slice lo hi none p2) pos) (Si r te tl th):=by intro fO s σ H Q I h;refine Subscript_ (jN (he fO s σ H _ I h) λv s1 ⟨x,H1,I1,r1,q1⟩=>?_);refine wpAny_Slice (jN (hl fO s1 σ H1 _ I1 q1) λvl s2 ⟨l,H2,I2,pl,q2⟩=>jN (hu fO s2 σ H2 _ I2 q2) λvu s3 ⟨u,H3,I3,pu,q3⟩=>?_);rw[evalPart_none];refine ak ?_;have I4:gH X fO σ H3 {s3 with heap:=s3.heap.push {cls:=.type "slice",data:=.fields #[vl,vu,.none]}}:=I3.kept (t':=s3.toks) λb ob q=>ae _ q;obtain⟨T,id,hT,ht,hg⟩:=hr fO {s3 with heap:=s3.heap.push {cls:=.type "slice",data:=.fields #[vl,vu,.none]}} σ H3 x v vl vu l u s3.heap.objs.size Q I4 r1 (Heap.IsSliceOf.new ..) pl pu q3;show wpAny (model X.prog X.w) X.A (subscriptTail e (.Slice lo hi none p2) v (.ref s3.heap.objs.size)) (EP X fO σ Q) X.xe {s3 with heap:=s3.heap.push {cls:=.type "slice",data:=.fields #[vl,vu,.none]}};exact tail_any (ops:=[.ref s3.heap.objs.size,v]) ht hT hg (by with_unfolding_all rfl)
def Dz(xs:List V)(lo hi:Option Int):List V:=(xs.drop (HT.sIx xs.length 0 lo)).take (HT.sIx xs.length xs.length hi - HT.sIx xs.length 0 lo)
theorem uo(xs:List V)(lo hi:Option Int):(Dz xs lo hi).length<=xs.length:=by unfold Dz;rw[bM,bR];omega
def Qh(K:W.Frag):V->Option Int->Option Int->Hp->VK->Prop:=λx lo hi H Q=>∃a xs,x=.ref a/\mB K H a xs/\
 ¬(HT.sIx xs.length 0 lo=0/\HT.sIx xs.length xs.length hi=xs.length)/\∀p,H p=none->Q (.ref p) (jx H p (.tup (Dz xs lo hi)))
theorem N5:ML X (Qh X.K):=by
 intro fO s σ H x v vl vu lo hi sl Q I rx hs pl pu h;obtain⟨a,xs,rfl,hx,hw,q⟩:=h;cases rx;obtain⟨its,r,ht,hz⟩:=I.tuple hx;have kT:its.toArray.size=xs.length:=by rw[bD];exact r.length.symm
 refine⟨"tuple",_,PyProof.Rows.slot_tuple_getitem.lookup,ht.typeIs,?_⟩;refine HT.getItem_tuple_cut ht hs pl pu (by rw[kT];exact hw) ?_ (by rw[kT];exact hz);rw[kT];refine⟨.ref s.heap.objs.size,_,I.laid (t':=s.toks) (o:=.tup (Dz xs lo hi)) (λb ob q=>ae _ q) (aJ _) ?_,rfl,q _ (I.hok.fresh (aJ _))⟩;exact⟨aM (uo xs lo hi) hz,_,(r.drop (HT.sIx xs.length 0 lo)).take (HT.sIx xs.length xs.length hi - HT.sIx xs.length 0 lo),IsTup.new _ _⟩
def QV(K:W.Frag):R2:=λx y H Q=>∃a b xs ys,x=.ref a/\y=.ref b/\mB K H a xs/\mB K H b ys/\xs≠[]/\xs.length+ys.length<=sizeLine/\
 (ys=[]->Q (.ref a) H)/\(ys≠[]->∀p,H p=none->Q (.ref p) (jx H p (.tup (xs++ys))))
theorem ib.nil_iff{xs:List V}{us:List Value}(r:ib xs us):us=[]↔xs=[]:=by
 cases r with
 | nil=>simp
 | cons _ _=>simp
theorem KY:pY X (binaryOp .Add) (QV X.K):=by intro fO s σ H x y v u Q I rx ry h;obtain⟨a,b,xs,ys,rfl,rfl,ha,hb,hx,hz,q1,q2⟩:=h;cases rx;cases ry;obtain⟨its,r1,p1,_⟩:=I.tuple ha;obtain⟨its2,r2,p2,_⟩:=I.tuple hb;refine HT.cat_tup p1 p2 (λz=>hx (r1.nil_iff.mp z)) (λz=>⟨.ref a,H,I,rfl,q1 (r2.nil_iff.mp z)⟩) (λz=>?_) (by rw[<-r1.length,<-r2.length];exact hz);refine⟨.ref s.heap.objs.size,_,I.laid (t':=s.toks) (o:=.tup (xs++ys)) (λb ob q=>ae _ q) (aJ _) ?_,rfl,q2 (λw=>z (r2.nil_iff.mpr w)) _ (I.hok.fresh (aJ _))⟩;exact⟨by rw[aS];exact hz,_,r1.append r2,IsTup.new _ _⟩
end
end L2
namespace L2
open PySem PySem.Spec PyProof.Rows
def xF(n:Nat)(i:Int):Option Nat:=if 0<=i then (if i<n then some i.toNat else none) else if -(n:Int)<=i then some (i+n).toNat else none
def pK{α:Type}(xs:List α)(i:Int):Option α:=(xF xs.length i).bind λj=>xs[j]?
theorem Eo{n:Nat}{i:Int}{j:Nat}(h:xF n i=some j):seqIndex? i n=some j/\j<n/\-(n:Int)<=i/\i<n:=by
 unfold xF at h;by_cases h0:0<=i
 ·rw[aP h0] at h;by_cases h1:i<n
  ·rw[aP h1] at h;have e:i.toNat=j:=Option.some.inj h;exact⟨by rw[seqIndex_of h0 h1,e],by omega,by omega,h1⟩
  ·rw[aQ h1] at h;cases h
 ·rw[aQ h0] at h;by_cases h1:-(n:Int)<=i
  ·rw[aP h1] at h;have e:(i+n).toNat=j:=Option.some.inj h;exact⟨by rw[seqIndex_neg (by omega) h1,e],by omega,h1,by omega⟩
  ·rw[aQ h1] at h;cases h
theorem AM{α:Type}{xs:List α}{i:Int}{v:α}(h:pK xs i=some v):∃j,seqIndex? i xs.length=some j/\xs[j]? = some v/\j<xs.length/\-(xs.length:Int)<=i/\i<xs.length:=by
 unfold pK at h;cases e:xF xs.length i with
 | none=>rw[e] at h;cases h
 | some j=>rw[e] at h;obtain⟨h1,h2,h3,h4⟩:=Eo e;exact⟨j,h1,h,h2,h3,h4⟩
theorem IR{α:Type}(xs:List α)(v:α):pK (xs++[v]) (-1)=some v:=by
 have hl:(xs++[v]).length=xs.length+1:=by simp
 have e:xF (xs++[v]).length (-1)=some xs.length:=by unfold xF;rw[hl,aQ (by decide),aP (by omega)];congr 1;omega
 unfold pK;rw[e];show (xs++[v])[xs.length]? = some v;simp
def Fh(b:Expr):Prop:=∀o i,subscripted b false o i=operate [o,i] (getItem o i)
def Mq(X:Cx)(r:R2):Prop:=
 ∀(value slice:Expr) (fO:List (Addr×Obj)) (s:Shared) (σ:St) (H:Hp) (x y:V) (v u:Value) (Q:VK),gH X fO σ H s->iL x v->iL y u->r x y H Q->
  subscripted slice false v u=operate [v,u] (getItem v u)->wpAny (model X.prog X.w) X.A (subscriptTail value slice v u) (EP X fO σ Q) X.xe s
def Sk(X:Cx)(id:String)(r:V->List V->Hp->VK->Prop):Prop:=
 ∀(fO:List (Addr×Obj)) (s:Shared) (σ:St) (H:Hp) (x:V) (xs:List V) (v:Value) (us:List Value) (Q:VK),gH X fO σ H s->iL x v->ib xs us->r x xs H Q->
  wpAny (model X.prog X.w) X.A (call (.builtin id) (v::us)) (EP X fO σ Q) X.xe s
section
variable {X:Cx}{a b:Expr}{ta tb:TE}{pos:Pos}
theorem Mq.or{r r':R2}(h:Mq X r)(h':Mq X r'):Mq X (λx y H Q=>r x y H Q\/r' x y H Q):=by
 intro value slice fO s σ H x y v u Q I rx ry q hs;rcases q with q | q
 ·exact h value slice fO s σ H x y v u Q I rx ry q hs
 ·exact h' value slice fO s σ H x y v u Q I rx ry q hs
theorem Qj{r:R2}(hr:Mq X r)(ha:PE X a ta)(hb:PE X b tb)(hs:Fh b):PE X (.Subscript a b pos) (xZ r ta tb):=by intro fO s σ H Q I h;exact Subscript_ (OS ha hb I h λv u s2 x y H2 I2 rx ry q=>hr a b fO s2 σ H2 x y v u Q I2 rx ry q (hs _ _))
def QQ(K:W.Frag):R2:=λx y H Q=>∃p xs i v,x=.ref p/\y=.int i/\k9 K H p xs/\pK xs i=some v/\Q v H
def Qx(K:W.Frag):R2:=λx y H Q=>∃p xs i v,x=.ref p/\y=.int i/\mB K H p xs/\pK xs i=some v/\Q v H
def QN:R2:=λx y H Q=>∃z i c,x=.str z/\y=.int i/\z.length<=sizeLine/\pK z.cps.toList i=some c/\Q (.str ⟨#[c]⟩) H
theorem An:Mq X (QQ X.K):=by
 intro value slice fO s σ H x y v u Q I rx ry h hs;obtain⟨p,xs,i,z,rfl,rfl,hq,he,q⟩:=h;cases rx;obtain⟨t,rfl⟩:=ry;obtain⟨its,r,pl,hz⟩:=I.list hq;obtain⟨j,h1,h2,h3,h4,h5⟩:=AM he;obtain⟨w,ew,rw'⟩:=r.get h2;have hl:=r.length;have hn:=xD;have fin:EP X fO σ Q w s:=⟨z,H,I,rw',q⟩;by_cases h0:0<=i
 ·have hj:i.toNat=j:=by rw[seqIndex_of h0 h5] at h1;exact Option.some.inj h1
  exact item_listR pl.isList h0 (by omega) (by rw[hj];simpa using ew) fin hs
 ·have hj:(i+(its.toArray.size:Int)).toNat=j:=by rw[seqIndex_neg (by omega) h4] at h1;rw[bD,<-hl];exact Option.some.inj h1
  exact subscriptTail_builtinR (x:=w) pl.isList.typeIs slot_list_getitem.lookup
   (wpAny_getItem_list_neg (Q:=λr s'=>r=w/\EP X fO σ Q r s') pl.isList (by omega) (by rw[bD]<;>omega) (by omega) (by rw[hj];simpa using ew) ⟨rfl,fin⟩) hs
theorem jT:Mq X (Qx X.K):=by
 intro value slice fO s σ H x y v u Q I rx ry h hs;obtain⟨p,xs,i,z,rfl,rfl,hq,he,q⟩:=h;cases rx;obtain⟨t,rfl⟩:=ry;obtain⟨its,r,pl,hz⟩:=I.tuple hq;obtain⟨j,h1,h2,h3,h4,h5⟩:=AM he;obtain⟨w,ew,rw'⟩:=r.get h2;have hl:=r.length;have hn:=xD;have fin:EP X fO σ Q w s:=⟨z,H,I,rw',q⟩;exact subscriptTail_builtinR (x:=w) pl.typeIs slot_tuple_getitem.lookup
  (getItem_tuple (j:=j) (Q:=λr s'=>r=w/\EP X fO σ Q r s') pl (by omega) (by omega) (by rw[bD,<-hl];exact h1) (by simpa using ew) ⟨rfl,fin⟩) hs
theorem NG:Mq X QN:=by
 intro value slice fO s σ H x y v u Q I rx ry h hs;obtain⟨z,i,c,rfl,rfl,hz,he,q⟩:=h;obtain⟨t,rfl⟩:=rx;obtain⟨t',rfl⟩:=ry;obtain⟨j,h1,h2,h3,h4,h5⟩:=AM he;have hl:z.cps.toList.length=z.length:=by simp[Str.length]
 rw[hl] at h1 h4 h5;have hn:=xD;exact tail_any (typeIs_str s z t) slot_str_getitem.lookup (getItem_str (c:=c) (by have e1:decide (i < -(2 ^ 63:Int))=false:=aA (by omega);have e2:decide (i >= 2 ^ 63)=false:=aA (by omega);rw[e1,e2,Bool.or_false]) (by rw[h1];simpa using h2) ⟨.str ⟨#[c]⟩,H,I.tok _,⟨_,rfl⟩,q⟩) hs
def RL(K:W.Frag):R2:=λx y H Q=>QQ K x y H Q\/Qx K x y H Q\/QN x y H Q
theorem Ng:Mq X (RL X.K):=An.or (jT.or NG)
theorem Dd(its:List Value)(n j:Nat)(u:Value):Obj.mapSeq (·.setIfInBounds j u) {cls:=.type "list",data:=.seq its.toArray n}={cls:=.type "list",data:=.seq (its.set j u).toArray n}:=by simp[Obj.mapSeq]
theorem gH.lst{fO:List (Addr×Obj)}{σ:St}{H:Hp}{s:Shared}{p:Addr}{xs:List V}(I:gH X fO σ H s)(h:H p=some (.lst xs)) :
  ∃(its:List Value) (n:Nat),ib xs its/\s.heap.get? p=some {cls:=.type "list",data:=.seq its.toArray n}/\xs.length<=sizeLine:=by
 obtain⟨z,its,n,r,e⟩:=I.hok p _ h;exact⟨its,n,r,e,z⟩
theorem gH.lstUpd{fO:List (Addr×Obj)}{σ:St}{H:Hp}{s:Shared}{p:Addr}{xs ys:List V}{its its':List Value}{n n':Nat}{f:Obj->Obj}(I:gH X fO σ H s)(h:H p=some (.lst xs))
  (ho:s.heap.get? p=some {cls:=.type "list",data:=.seq its.toArray n}) (hf:f {cls:=.type "list",data:=.seq its.toArray n}={cls:=.type "list",data:=.seq its'.toArray n'}) (r:ib ys its') (hz:ys.length<=sizeLine) (t:Nat) :
  gH X fO σ (jx H p (.lst ys)) {s with heap:=s.heap.update p f,toks:=t}:=by
 have e:(s.heap.update p f).get? p=some {cls:=.type "list",data:=.seq its'.toArray n'}:=by rw[Heap.get?_update_self f ho (by rw[hf]<;>rfl),hf]
 refine I.write (x:=p) (e:=p) (by rw[h];trivial) (.inl rfl) (λb u hb q=>(Heap.get?_update_other _ _ (Ne.symm hb)).trans q) ⟨_,e⟩ ?_;exact⟨hz,its',n',r,e⟩
def Ex:V->V->V->Hp->(Hp->Prop)->Prop:=λo i v H Q=>∃p xs k j,o=.ref p/\i=.int k/\H p=some (.lst xs)/\xF xs.length k=some j/\Q (jx H p (.lst (xs.set j v)))
theorem J0:PX X Ex:=by
 intro fO s σ H o i v ov iv u Q I ro ri rv h;obtain⟨p,xs,k,j,rfl,rfl,hp,hj,q⟩:=h;cases ro;obtain⟨t,rfl⟩:=ri;obtain⟨its,n,r,ho,hz⟩:=I.lst hp;obtain⟨h1,h2,h3,h4⟩:=Eo hj;have hl:=r.length;have hn:=xD;have I':gH X fO σ (jx H p (.lst (xs.set j v))) {s with heap:=s.heap.update p (Obj.mapSeq (·.setIfInBounds j u))}:=I.lstUpd hp ho (Dd its n j u) (r.set rv j) (by rw[bT];exact hz) s.toks
 by_cases h0:0<=k
 ·have hk:k.toNat=j:=by rw[seqIndex_of h0 h4] at h1;exact Option.some.inj h1
  exact W.ki_setAt ho h0 (by omega) (by rw[bD,<-hl];exact h4) (by rw[hk];exact⟨_,I',q⟩)
 ·have hk:(k+(its.toArray.size:Int)).toNat=j:=by rw[seqIndex_neg (by omega) h3] at h1;rw[bD,<-hl];exact Option.some.inj h1
  exact W.ki_setBack ho (by omega) (by rw[bD,<-hl];exact h3) (by omega) (by rw[hk];exact⟨_,I',q⟩)
theorem AO(lo hi:Option Int)(n:Nat):(sliceBounds lo hi none n).1=((HT.sIx n 0 lo:Nat):Int)/\(sliceBounds lo hi none n).2.1=((HT.sIx n n hi:Nat):Int)/\(sliceBounds lo hi none n).2.2=1:=by
 refine⟨?_,?_,rfl⟩
 ·cases lo with
  | none=>simp[sliceBounds,HT.sIx]
  | some i=>
   simp only[sliceBounds,HT.sIx,Option.getD_none,show (1:Int)>0 by decide,if_true];by_cases h:i<0
   ·simp only[h,if_true]<;>omega
   ·simp only[h,if_false]<;>omega
 ·cases hi with
  | none=>simp[sliceBounds,HT.sIx]
  | some i=>
   simp only[sliceBounds,HT.sIx,Option.getD_none,show (1:Int)>0 by decide,if_true];by_cases h:i<0
   ·simp only[h,if_true]<;>omega
   ·simp only[h,if_false]<;>omega
theorem xT(its:List Value)(lo hi:Option Int):slicePick its.toArray lo hi none=((its.drop (HT.sIx its.length 0 lo)).take (HT.sIx its.length its.length hi - HT.sIx its.length 0 lo)).toArray:=by obtain⟨h1,h2,h3⟩:=AO lo hi its.toArray.size;unfold slicePick;rw[h1,h2,h3];simp only[sliceRange_one,pick_run,bD]<;>rfl
def Qw(K:W.Frag):V->Option Int->Option Int->Hp->VK->Prop:=λx lo hi H Q=>∃a xs,x=.ref a/\k9 K H a xs/\∀p,H p=none->Q (.ref p) (jx H p (.lst (Dz xs lo hi)))
theorem KW:ML X (Qw X.K):=by intro fO s σ H x v vl vu lo hi sl Q I rx hs pl pu h;obtain⟨a,xs,rfl,hx,q⟩:=h;cases rx;obtain⟨its,r,ht,hz⟩:=I.list hx;have kT:=r.length;refine⟨"list",_,slot_list_getitem.lookup,ht.isList.typeIs,?_⟩;refine wpAny_getItem_list_slice ht.isList hs pl pu .none (by simp) ?_ (by rw[bD]<;>omega);rw[xT,<-kT];refine⟨.ref s.heap.objs.size,_,I.laid (t':=s.toks) (o:=.lst (Dz xs lo hi)) (λb ob q=>ae _ q) (aJ _) ?_,rfl,q _ (I.hok.fresh (aJ _))⟩;exact⟨aM (uo xs lo hi) hz,_,0,(r.drop (HT.sIx xs.length 0 lo)).take (HT.sIx xs.length xs.length hi - HT.sIx xs.length 0 lo),ar _ rfl⟩
def q8:V->Bool
 | .non=>true
 | .bl _=>true
 | .int _=>true
 | .str _=>true
 | _=>false
def Kh:V->V->Bool
 | .non,.non=>true
 | .bl a,.bl b=>a == b
 | .bl a,.int b=>(if a then 1 else 0) == b
 | .int a,.bl b=>a == (if b then 1 else 0)
 | .int a,.int b=>a == b
 | .str a,.str b=>a == b
 | _,_=>false
theorem Nk{A:Around}{s:Shared}{y x:V}{u v:Value}(ry:iL y u)(rx:iL x v)(fy:q8 y=true)(fx:q8 x=true):SeqAt.EqAt A s u v (Kh y x):=by
 cases y with
 | non=>
  cases ry;cases x with
  | non=>cases rx;exact SeqAt.EqAt.same _
  | bl b=>cases rx;exact SeqAt.EqAt.none_bool b
  | int b=>obtain⟨t,rfl⟩:=rx;exact SeqAt.EqAt.none_int b t
  | str b=>obtain⟨t,rfl⟩:=rx;exact SeqAt.EqAt.none_str b t
  | _=>exact absurd (show false=true from fx) aG
 | bl a=>
  cases ry;cases x with
  | non=>cases rx;exact SeqAt.EqAt.bool_none a
  | bl b=>cases rx;exact SeqAt.EqAt.bool_bool a b
  | int b=>obtain⟨t,rfl⟩:=rx;exact SeqAt.EqAt.bool_int a b t
  | str b=>obtain⟨t,rfl⟩:=rx;exact SeqAt.EqAt.bool_str a b t
  | _=>exact absurd (show false=true from fx) aG
 | int a=>
  obtain⟨t',rfl⟩:=ry;cases x with
  | non=>cases rx;exact SeqAt.EqAt.int_none a t'
  | bl b=>cases rx;exact SeqAt.EqAt.int_bool a t' b
  | int b=>obtain⟨t,rfl⟩:=rx;exact SeqAt.EqAt.int_int a t' b t
  | str b=>obtain⟨t,rfl⟩:=rx;exact SeqAt.EqAt.int_str a t' b t
  | _=>exact absurd (show false=true from fx) aG
 | str a=>
  obtain⟨t',rfl⟩:=ry;cases x with
  | non=>cases rx;exact SeqAt.EqAt.str_none a t'
  | bl b=>cases rx;exact SeqAt.EqAt.str_bool a t' b
  | int b=>obtain⟨t,rfl⟩:=rx;exact SeqAt.EqAt.str_int a t' b t
  | str b=>obtain⟨t,rfl⟩:=rx;exact SeqAt.EqAt.str_str a t' b t
  | _=>exact absurd (show false=true from fx) aG
 | _=>exact absurd (show false=true from fy) aG
def Lb(x:V)(u:Value):Bool:=match u with
 | .none=>Kh .non x
 | .bool b=>Kh (.bl b) x
 | .int i _=>Kh (.int i) x
 | .str z _=>Kh (.str z) x
 | _=>false
theorem Hd{x y:V}{u:Value}(r:iL y u)(f:q8 y=true):Lb x u=Kh y x:=by
 cases y with
 | non=>cases r;rfl
 | bl b=>cases r;rfl
 | int i=>obtain⟨t,rfl⟩:=r;rfl
 | str z=>obtain⟨t,rfl⟩:=r;rfl
 | _=>exact absurd (show false=true from f) aG
theorem zK{x:V}:∀{xs:List V} {us:List Value},ib xs us->xs.all q8=true->us.any (Lb x)=xs.any λy=>Kh y x
 | _,_,.nil,_=>rfl
 | y::xs,u::us,.cons r t,f=>by rw[bU,bS] at f;rw[bV,bV,Hd r f.1,zK t f.2]
theorem wm{A:Around}{s:Shared}{x:V}{v:Value}(rx:iL x v)(fx:q8 x=true):∀{xs:List V} {us:List Value},ib xs us->xs.all q8=true->∀u∈us,SeqAt.EqAt A s u v (Lb x u)
 | _,_,.nil,_=>λu hu=>by cases hu
 | y::xs,u::us,.cons r t,f=>λu' hu=>by
  rw[bU,bS] at f;rcases aE.mp hu with rfl | hu
  ·rw[Hd r f.1];exact Nk r rx f.1 fx
  ·exact wm rx fx t f.2 u' hu
def Rq(x:V)(xs:List V):Bool:=xs.any λy=>Kh y x
def RP(K:W.Frag)(neg:Bool):R2:=λx y H Q=>∃p xs,y=.ref p/\(k9 K H p xs\/mB K H p xs)/\q8 x=true/\xs.all q8=true/\Q (.bl (if neg then !Rq x xs else Rq x xs)) H
theorem AE:pY X (compareOp .NotIn) (RP X.K true):=by
 intro fO s σ H x y v u Q I rx ry h;obtain⟨p,xs,rfl,hq,fx,fs,q⟩:=h;cases ry;rcases hq with hq | hq
 ·obtain⟨its,r,pl,hz⟩:=I.list hq;refine SeqAt.notIn_listAt (Lb x) pl.isList (λw hw=>wm rx fx r fs w (by simpa using hw)) ⟨.bl _,H,I,rfl,?_⟩;rw[show its.toArray.any (Lb x)=its.any (Lb x) by simp,zK r fs];exact q
 ·obtain⟨its,r,pl,hz⟩:=I.tuple hq;refine SeqAt.notIn_tupleAt (Lb x) pl (λw hw=>wm rx fx r fs w (by simpa using hw)) ⟨.bl _,H,I,rfl,?_⟩;rw[show its.toArray.any (Lb x)=its.any (Lb x) by simp,zK r fs];exact q
theorem zN:kU X (.type "list") (λxs H Q=>∃p ys,xs=[.ref p]/\(k9 X.K H p ys\/mB X.K H p ys)/\∀l,H l=none->Q (.ref l) (jx H l (.lst ys))):=by
 intro fO s σ H xs us Q I r h;obtain⟨p,ys,rfl,hq,q⟩:=h;obtain⟨u,rfl,rx⟩:=oH r;cases rx;have fin:∀(its:List Value),ib ys its->ys.length<=sizeLine->∀(h':Heap) (c':Nat),(∀b o',s.heap.get? b=some o'->h'.get? b=some o')->
   h'.get? s.heap.objs.size=some {cls:=.type "list",dict:=none,data:=.seq its.toArray c',slots:=#[]}->EP X fO σ Q (.ref s.heap.objs.size) {s with heap:=h'}:=λits r' hz h' c' kp e=>
  ⟨.ref s.heap.objs.size,_,I.laid (t':=s.toks) kp (aJ _) (show jw X.prog X.w _ h' _ (.lst ys) from ⟨hz,its,c',r',e⟩),rfl,q _ (I.hok.fresh (aJ _))⟩
 rcases hq with hq | hq
 ·obtain⟨its,r',pl,hz⟩:=I.list hq;have kT:=r'.length;obtain⟨o,ho,hc,n,hd⟩:=pl.isList;exact call_list_seq p (.inl rfl) ho hc hd (λh' c' kp e=>fin its r' hz h' c' kp e) (by simp only[bD]<;>omega)
 ·obtain⟨its,r',pl,hz⟩:=I.tuple hq;have kT:=r'.length;obtain⟨o,ho,hc,n,hd⟩:=pl;exact call_list_seq p (.inr rfl) ho hc hd (λh' c' kp e=>fin its r' hz h' c' kp e) (by simp only[bD]<;>omega)
theorem xK:kU X (.type "tuple") (λxs H Q=>∃p ys,xs=[.ref p]/\((k9 X.K H p ys/\∀l,H l=none->Q (.ref l) (jx H l (.tup ys)))\/(mB X.K H p ys/\Q (.ref p) H))):=by
 intro fO s σ H xs us Q I r h;obtain⟨p,ys,rfl,h⟩:=h;obtain⟨u,rfl,rx⟩:=oH r;cases rx;rcases h with⟨hq,q⟩ | ⟨hq,q⟩
 ·obtain⟨its,r',pl,hz⟩:=I.list hq;have kT:=r'.length;refine call_tuple_list pl.isList (λh' kp=>?_) (by simp only[bD]<;>omega);have I1:gH X fO σ H {s with heap:=h'}:=I.kept (t':=s.toks) kp;have I2:gH X fO σ (jx H h'.objs.size (.tup ys)) {s with heap:=h'.push {cls:=.type "tuple",data:=.seq its.toArray}}:=
   I1.laid (t':=s.toks) (λb o e=>ae _ e) (aJ _) (show jw X.prog X.w _ _ _ (.tup ys) from ⟨hz,its,r',IsTup.new _ _⟩)
  exact⟨.ref h'.objs.size,_,I2,rfl,q _ (I1.hok.fresh (aJ _))⟩
 ·obtain⟨its,r',pl,hz⟩:=I.tuple hq;exact call_tuple_same pl ⟨.ref p,H,I,rfl,q⟩
def PL(K:W.Frag)(T:String)(x:V)(H:Hp):Prop:=match x with
 | .str _=>T = "str"
 | .int _=>T = "int"
 | .ref p=>(T = "list" /\∃xs,k9 K H p xs)\/(T = "tuple" /\∃o,K.lookup p=some o/\o.cls=.type "tuple" /\o.dict=none)\/
   (T = "dict" /\((∃kvs,H p=some (.dK kvs))\/∃kvs,H p=some (.dT kvs)))\/(T = "set" /\∃S n,H p=some (.set S n))
 | _=>False
theorem Nl{fO:List (Addr×Obj)}{σ:St}{H:Hp}{s:Shared}{T:String}{x:V}{v:Value}(I:gH X fO σ H s)(r:iL x v)(ty:PL X.K T x H) :
  s.TypeIs v T/\∀a,v=.ref a->∃ob,s.heap.get? a=some ob/\ob.dict=none:=by
 cases x with
 | str z=>obtain⟨t,rfl⟩:=r;cases (show T = "str" from ty);exact⟨typeIs_str s z t,λ_ e=>nomatch e⟩
 | int i=>obtain⟨t,rfl⟩:=r;cases (show T = "int" from ty);exact⟨typeIs_int s i t,λ_ e=>nomatch e⟩
 | ref p=>
  cases r;rcases ty with⟨rfl,xs,hq⟩ | ⟨rfl,o,hk,hc,hd⟩ | ⟨rfl,hk⟩ | ⟨rfl,S,n,hk⟩
  ·obtain⟨its,_,pl,_⟩:=I.list hq;refine⟨pl.isList.typeIs,λa e=>?_⟩;cases e;obtain⟨o,n,e,c,hd,_⟩:=pl;exact⟨o,e,hd⟩
  ·refine⟨⟨o,I.kIn p o hk,hc⟩,λa e=>?_⟩;cases e;exact⟨o,I.kIn _ o hk,hd⟩
  ·have z:∃o,s.heap.get? p=some o/\o.ExactDict:=by
    rcases hk with⟨kvs,hk⟩ | ⟨kvs,hk⟩
    ·obtain⟨_,_,_,_,o,_,_,e,ex,_⟩:=I.hok p _ hk;exact⟨o,e,ex⟩
    ·obtain⟨_,_,_,_,o,_,_,e,ex,_⟩:=I.hok p _ hk;exact⟨o,e,ex⟩
   obtain⟨o,e,ex⟩:=z;refine⟨⟨o,e,ex.1⟩,λa e2=>?_⟩;cases e2;exact⟨o,e,ex.2.1⟩
  ·obtain⟨o,_,_,_,e,ex,_⟩:=I.hok p _ hk;refine⟨⟨o,e,ex.1⟩,λa e2=>?_⟩;cases e2;exact⟨o,e,ex.2.1⟩
 | _=>exact False.elim ty
def Sd(K:W.Frag)(T:String)(r:V->List V->Hp->VK->Prop)(to:TE)(t:TA):TE:=λσ H Q=>to σ H λx H1=>PL K T x H1/\t σ H1 λxs H2=>r x xs H2 Q
variable {o e:Expr}{es:List Expr}{to:TE}{t:TA}{name:Str}{apos cpos:Pos}{T id:String}{r:V->List V->Hp->VK->Prop}
theorem IW(pa:PlainAttrs T)(slot:Slot T name id)(hty:typeOf (.builtin id)=pure (.type "method_descriptor"))(hm:Sk X id r)(ho:PE X o to)(ha:PA X (e::es) t)
  (hbase:attributeBase o name X.env (eval o X.env)=eval o X.env:=by rfl)
  (hfew:((backTo cpos (starEach (e::es) X.env)).all (λx=>!x.1)&&(backToKw cpos (keywordEach [] X.env)).all (λx=>x.1.isSome)
   && decide ((e::es).length+([]:List Keyword).length+(if ([]:List Keyword).isEmpty then 0 else 1)<30))=true:=by rfl)
  (hline:(apos.endLine == cpos.line)=true:=by rfl) (hs:starEach (e::es) X.env=(false,eval e X.env)::starEach es X.env:=by rfl) (hplain:(backTo cpos (starEach es X.env)).any (·.1)=false:=by rfl) :
  PE X (.Call (.Attribute o name apos) (e::es) [] cpos) (Sd X.K T r to t):=by
 intro fO s σ H Q I h;refine wpAny_Call_method_late hbase hfew hline rfl (jN (ho fO s σ H _ I h) λv s1 ⟨x,H1,I1,r1,ty,q1⟩=>?_);obtain⟨h1,h2⟩:=Nl I1 r1 ty;refine⟨T,id,pa,slot,hty,h1,h2,?_⟩;have hA:=ha cpos fO s1 σ H1 _ I1 q1;rw[hs] at hA ⊢;refine Calls.callWith_builtin (by show (false||(backTo cpos (starEach es X.env)).any (·.1))=false;rw[hplain]<;>rfl) (Calls.evalArgs_plain ?_);exact jN hA λus s2 ⟨vs,H2,I2,r2,q2⟩=>hm fO s2 σ H2 x vs v us Q I2 r1 r2 q2
end
end L2
namespace L2
open PySem PySem.Spec PyProof.Rows
def Sn(X:Cx)(id:String)(r:V->List V->Hp->VK->Prop):Prop:=
 ∀(fO:List (Addr×Obj)) (s:Shared) (σ:St) (H:Hp) (x:V) (xs:List V) (v:Value) (us:List Value) (Q:VK),gH X fO σ H s->iL x v->ib xs us->r x xs H Q->
  wpAny (model X.prog X.w) X.A (call (.builtin id) (v::us)) (EP X fO σ Q) X.xe s
theorem ib.one:∀{x:V} {us:List Value},ib [x] us->∃u,us=[u]/\iL x u
 | _,_,.cons r .nil=>⟨_,rfl,r⟩
theorem ib.reverse{xs:List V}{us:List Value}(h:ib xs us):ib xs.reverse us.reverse:=by
 induction h with
 | nil=>exact .nil
 | cons r t ih=>rw[bW,bW];exact ib.append ih (.cons r .nil)
theorem ib.rep{xs:List V}{us:List Value}(h:ib xs us):∀k:Nat,ib (List.replicate k xs).flatten (List.replicate k us).flatten
 | 0=>.nil
 | k+1=>by rw[bX,bX,bY,bY];exact ib.append h (ib.rep h k)
theorem zq(its:List Value):∀(k:Nat) (acc:List Value),
  List.foldl (λx1 x2=>x1++x2) acc.toArray (List.replicate k its.toArray)=(acc++(List.replicate k its).flatten).toArray
 | 0,acc=>by simp
 | k+1,acc=>by
  have e:acc.toArray++its.toArray=(acc++its).toArray:=by simp
  have e2:(acc++its)++(List.replicate k its).flatten=acc++(List.replicate (k+1) its).flatten:=by rw[bX,bY,bZ]
  rw[<-e2,<-zq its k (acc++its),<-e,bX,List.foldl_cons]
section
variable {X:Cx}{fO:List (Addr×Obj)}{σ:St}{H:Hp}{s:Shared}{l b:Addr}{xs ys zs:List V}
theorem gH.lset{its its':List Value}{n:Nat}{f:Array Value->Array Value}{t':Nat}(I:gH X fO σ H s)(hH:H l=some (.lst xs))
  (e:s.heap.get? l=some {cls:=.type "list",data:=.seq its.toArray n}) (hf:f its.toArray=its'.toArray) (hv:ib ys its') (hz:ys.length<=sizeLine) :
  gH X fO σ (jx H l (.lst ys)) {s with heap:=s.heap.update l (Obj.mapSeq f),toks:=t'}:=by
 have q:=PySem.IsL.update e f;rw[hf] at q;refine I.write (x:=l) (e:=l) (by rw[hH];exact trivial) (.inl rfl) (λb' u hb hu=>(Heap.get?_update_other s.heap (Obj.mapSeq f) (Ne.symm hb)).trans hu) ⟨_,q⟩ ?_;exact⟨hz,its',_,hv,q⟩
theorem gH.lnew{its:List Value}{t':Nat}(I:gH X fO σ H s)(hv:ib ys its)(hz:ys.length<=sizeLine) :
  gH X fO σ (jx H s.heap.objs.size (.lst ys)) {s with heap:=s.heap.push {cls:=.type "list",data:=.seq its.toArray},toks:=t'}:=
 I.laid (λ_ _ q=>ae _ q) (aJ _) ⟨hz,its,0,hv,ar _ rfl⟩
theorem gH.fresh(I:gH X fO σ H s):H s.heap.objs.size=none:=I.hok.fresh (aJ _)
theorem gH.lstM(I:gH X fO σ H s)(hH:H l=some (.lst xs)):xs.length<=sizeLine/\∃(its:List Value) (n:Nat),ib xs its/\xs.length=its.length/\s.heap.get? l=some {cls:=.type "list",data:=.seq its.toArray n}:=by obtain⟨z,its,n,r,e⟩:=I.hok l _ hH;exact⟨z,its,n,r,r.length,e⟩
theorem JI{n:Nat}(h:n<=sizeLine):Builtin.List.listTooLong n=false:=by unfold Builtin.List.listTooLong;exact aA (by omega)
end
section
variable {X:Cx}
def zE:V->List V->Hp->VK->Prop:=λx vs H Q=>∃l xs y,x=.ref l/\vs=[y]/\H l=some (.lst xs)/\xs.length<sizeLine/\Q .non (jx H l (.lst (xs++[y])))
theorem ua:Sn X "list.append" zE:=by intro fO s σ H x vs v us Q I rx rv h;obtain⟨l,xs,y,rfl,rfl,hH,hz,q⟩:=h;cases rx;obtain⟨u,rfl,ru⟩:=rv.one;obtain⟨z,its,n,r,hl,e⟩:=I.lstM hH;refine call_meets F.slot_list_append ⟨_,e,rfl⟩ F.entry_list_append (F.args_list_append_2 _ _) (PySem.list_append l its.toArray n u (by rw[bD];omega)) ⟨e,?_⟩;refine⟨.non,_,I.lset (its':=its++[u]) hH e (by simp) (r.append (.cons ru .nil)) ?_,rfl,q⟩;rw[aS,b4];omega
def Pu:R2:=λx y H Q=>∃l b xs zs,x=.ref l/\y=.ref b/\H l=some (.lst xs)/\H b=some (.lst zs)/\xs.length+zs.length<=sizeLine/\∀p,H p=none->Q (.ref p) (jx H p (.lst (xs++zs)))
theorem J2:pY X (binaryOp .Add) Pu:=by
 intro fO s σ H x y v u Q I rx ry h;obtain⟨l,b,xs,zs,rfl,rfl,hH,hB,hz,q⟩:=h;cases rx;cases ry;obtain⟨z,its,n,r,hl,e⟩:=I.lstM hH;obtain⟨z2,its2,n2,r2,hl2,e2⟩:=I.lstM hB;refine PySem.P.add_list e e2 ?_ (by rw[bD,bD];omega);have ea:its.toArray++its2.toArray=(its++its2).toArray:=by simp
 rw[ea];exact⟨.ref _,_,I.lnew (t':=s.toks) (r.append r2) (by rw[aS];omega),rfl,q _ I.fresh⟩
def Qc:R2:=λx y H Q=>∃l k xs,x=.ref l/\y=.int k/\H l=some (.lst xs)/\-(2 ^ 63)<=k/\k<2 ^ 63/\xs.length*k.toNat<=sizeLine/\
 ∀p,H p=none->Q (.ref p) (jx H p (.lst (List.replicate k.toNat xs).flatten))
theorem Ks{α:Type}(xs:List α)(k:Nat):(List.replicate k xs).flatten.length=k*xs.length:=by
 induction k with
 | zero=>simp
 | succ k ih=>rw[bX,bY,aS,ih,b5,Nat.add_comm]
theorem OA:pY X (binaryOp .Mult) Qc:=by
 intro fO s σ H x y v u Q I rx ry h;obtain⟨l,k,xs,rfl,rfl,hH,h1,h2,hz,q⟩:=h;cases rx;obtain⟨t,rfl⟩:=ry;obtain⟨z,its,n,r,hl,e⟩:=I.lstM hH;have kT:its.toArray.size*k.toNat<=sizeLine:=by rw[bD,<-hl];exact hz
 have hcap:¬its.toArray.size*k.toNat>(2 ^ 63 - 1) / 8:=by
  have:(sizeLine:Nat)<=(2 ^ 63 - 1) / 8:=by decide
  omega
 have hfit:¬(!Builtin.List.listFitsIndex k)=true:=by rw[fitsIndex_both h1 h2];exact aG
 have hlong:¬Builtin.List.listTooLong (its.toArray.size*k.toNat)=true:=by rw[JI kT];exact aG
 have hnew:List.foldl (λx1 x2=>x1++x2) #[] (List.replicate (if its.toArray.isEmpty=true then 0 else k.toNat) its.toArray)=(List.replicate k.toNat its).flatten.toArray:=by
  have f0:∀m:Nat,List.foldl (λx1 x2=>x1++x2) #[] (List.replicate m its.toArray)=(List.replicate m its).flatten.toArray:=λm=>by have:=zq its m [];rw[List.nil_append] at this;exact this
  rw[f0];cases its with
  | nil=>simp
  | cons a r'=>rw[aQ (by simp)]
 refine wpAny_binaryOp_repeat_ref (T:= "list") (U:= "int") (by decide) ⟨_,e,rfl⟩ (λs'=>typeIs_int s' k t) noFill_list_mul F.fills_int_mul F.slot_int_rmul repeat_list F.slot_int_index.lookup
  (call_meets F.slot_int_rmul (typeIs_int s k t) F.entry_int_rmul (F.args_int_rmul_2 _ _) (int___rmul___int_list k t l its.toArray n)
   ⟨e,rfl,⟨_,e,rfl⟩,call_meets F.slot_list_mul ⟨_,e,rfl⟩ F.entry_list_mul (F.args_list_mul_2 _ _) (AutoListH.list___mul___list_int_3 l its.toArray n k t hfit hcap hlong) ⟨e,?_⟩⟩)
 rw[hnew];exact⟨.ref _,_,I.lnew (t':=s.toks) (r.rep k.toNat) (by rw[Ks,Nat.mul_comm];exact hz),rfl,q _ I.fresh⟩
end
section
variable {prog:Program}{w:World}{A:Around}{E:Value->Shared->Prop}{s:Shared}
end
section
variable {X:Cx}
end
end L2
namespace Att
open PySem PySem.W PySem.Calls PyProof.Rows
theorem vq{P:Params}{h:Heap}:∀(ns:List Int) (vs:List Value),WellAll P h vs (ns.map WData.int)->IntsAre vs ns:=by
 intro ns;induction ns with
 | nil=>intro vs w;rw[b6] at w;cases w;exact .nil
 | cons n ns ih=>
  intro vs w;rw[bF] at w;cases w with
  | cons a b=>cases a;exact .cons _ _ (ih _ b)
theorem script_of{l:OpenLaw}{n:Nat}(hn:l.most=some n){P:Params}{h:Heap}{args:List WData}{vals:List Value}
  (hpre:l.row.toRowW.claim.pre args=true) (hwl:WellAll P h vals args) :
  ∃a vs ns,vals=[Value.ref a]/\args=[WData.list (ns.map WData.int)]/\h.get? a=some {cls:=.type "list",data:=.seq vs.toArray}/\IntsAre vs ns/\ns.length<=n:=by
 have hsh:WShape.hasAll [] args [.list .int]=true:=(pre_splitW hpre).1;have hc:l.pre.holds [] {args:=args}=true:=(pre_splitW hpre).2;obtain⟨d,r,rfl,h1,h2⟩:=hasAllW_cons hsh;obtain rfl:=hasAllW_nil h2;obtain⟨xs,rfl,h3⟩:=hasW_list h1;obtain⟨ns,rfl⟩:=items_int h3;have kT:ns.length<=n:=by
  unfold OpenLaw.pre at hc;have h4:(WTm.not (.lt (.lit (.int (n:Int))) (.len (.arg 0)))).holds [] {args:=[.list (ns.map .int)]}=true:=by have h4:=(holds_andW hc).1;rw[hn] at h4;exact h4
  have h5:=condW_of h4 (w_not (w_lt w_lit (w_len_list (w_arg rfl))));rw[aw] at h5;refine Nat.le_of_not_lt λq=>?_;have q':(n:Int)<((ns.length:Nat):Int):=by omega
  first
   | (rw[aB q'] at h5;exact absurd h5 (by decide))
   | (simp at h5;omega)
 cases hwl with
 | cons w1 w2=>
  cases w2;cases w1 with
  | list ho AY=>exact⟨_,_,ns,rfl,rfl,ho,vq ns _ AY,kT⟩
theorem post_true(l:OpenLaw)(args:List WData):l.row.toRowW.claim.post args (.bool true) args=true:=
 postW_of (r:=l.row.toRowW) (X:=(true == true))
  (show WShape.has [] (.bool true) .bool=true by first | rfl | decide | simp[WShape.has,WShape.arms,WShape.armsAll])
  (show (WTm.eq .res (.lit (.bool true))).value [] {args:=args,res:=some (.bool true),after:=args}=some (.bool (true == true)) from w_eq_bool (w_res rfl) w_lit) rfl
section
variable {prog:Program}{w:World}{A:Around}{E:Value->Shared->Prop}{s:Shared}{K:Frag}
end
end Att
namespace L2
open PySem PySem.Spec PyProof.Rows
theorem yT:∀{vs:List Value} {ns:List Int},IntsAre vs ns->ib (ns.map V.int) vs
 | _,_,.nil=>.nil
 | _,_,.cons n t h=>.cons ⟨t,rfl⟩ (yT h)
def OU(H:Hp):Prop:=∀b,H b=none\/∃o xs,H b=some (.frz o (.lst xs))
theorem HR{P:Program}{w:World}{K:W.Frag}{mg mb:Str->Option Value}{CX:FD}{k:Nat}{fa a:Addr}{fd:FuncData}{x:Str}{sp:Sp}{s₁:Shared}{vs:List Value}{ns:List Int}
  (KX:K.In s₁.heap) (hns:s₁.heap.Ns mainGlobals mg) (hb:s₁.heap.Ns builtinsNs mb) (hbb:∀x:Str,x≠ "__name__" ->mb x=bootBuiltins x) (hlim:s₁.heap.NoLimit) (hg:s₁.gens = #[])
  (ha:s₁.heap.get? a=some {cls:=.type "list",data:=.seq vs.toArray}) (hi:IntsAre vs ns) (hl:ns.length<=sizeLine) (hr:ju k callerA)
  (F:∀base:Heap,K.In base->base.Ns mainGlobals mg->nT P w K mg base CX k fa fd [x] sp) (hbind:∀(s:Shared) (u:Value),BindsTo s fd ⟨[u],[]⟩ [(x,u)])
  (hsp:∀H:Hp,OU H->k9 K H a (ns.map V.int)->sp [.ref a] H (λv _=>v=.bl true) λ_ _ _=>False)
  (hCX:∀H e s',CX [] H s₁ (λ_ _ _=>False) e s'->False) :
  codeAny (model P w) callerA (.call (.ref fa) ⟨[.ref a],[]⟩) (λr s'=>r=.ok (.ret (.bool true))/\OldK s₁.heap s'.heap/\s'.os=s₁.os/\AllBare s'.gens) s₁:=by
 have rv:=yT hi;have lenV:=hi.length;have core:∀H:Hp,OU H->k9 K H a (ns.map V.int)->qO P w H s₁.heap->(∀b,H b≠none->b=a)->(H a≠none->K.lookup a=none)->
   codeAny (model P w) callerA (.call (.ref fa) ⟨[.ref a],[]⟩) (λr s'=>r=.ok (.ret (.bool true))/\OldK s₁.heap s'.heap/\s'.os=s₁.os/\AllBare s'.gens) s₁:=by
  intro H hO hS hok hA hK;have base_of:∀{b:Addr} {o:Obj},s₁.heap.get? b=some o->H b=none->(AU s₁.heap H).get? b=some o:=λe n=>JV e n;have noA:∀{b:Addr} {o:Obj} {es:Array DictEntry} {ep:Nat},s₁.heap.get? b=some o->o.data=.dict es ep->H b=none:=λ{b o es ep} e d=>by
   cases q:H b with
   | none=>rfl
   | some u=>have e':b=a:=hA b (by rw[q];simp);subst e';rw[ha] at e;cases e;have d':Data.seq vs.toArray _=Data.dict es ep:=d;cases d'
  have nsK:∀{b:Addr} {m:Str->Option Value},s₁.heap.Ns b m->(AU s₁.heap H).Ns b m:=λ{b m} ⟨o,es,ep,e,d,r⟩=>⟨o,es,ep,base_of e (noA e d),d,r⟩;have hKb:K.In (AU s₁.heap H):=λb o e=>base_of (KX b o e) (by
   cases q:H b with
   | none=>rfl
   | some u=>have e':b=a:=hA b (by rw[q];simp);subst e';rw[hK (by rw[q];simp)] at e;cases e)
  have hM:Mod K mg (AU s₁.heap H):=⟨hKb,nsK hns,⟨mb,nsK hb,hbb⟩,let ⟨mc,h1,h2⟩:=hlim;⟨mc,nsK h1,h2⟩⟩;have e0:DB P w K mg (AU s₁.heap H) callerA [] s₁ H:=⟨rfl,hM,λb o e=>LK e,Nat.le_of_eq (GN _ _),trivial,λb hb=>absurd (show b∈([]:List Addr) from hb) (by simp),hok,.of_eq hg⟩;refine codeAny_mono ((F _ hKb (nsK hns)).run callerA [] s₁ H ⟨[.ref a],[]⟩ [.ref a] [.ref a] _ _ hr e0 (hbind s₁ (.ref a)) (.cons rfl .nil) (hsp H hO hS)) λr s' h=>?_;cases r with
  | error e=>exact (hCX H e s' h).elim
  | ok fl=>
   cases fl with
   | next=>exact False.elim h
   | brk=>exact False.elim h
   | cont=>exact False.elim h
   | ret u=>
    obtain⟨v,H',os,bare,un,hok',r',q⟩:=h;have q':v=.bl true:=q;subst q';obtain rfl:u=Value.bool true:=r';refine⟨rfl,OldK.of_keep λb o e=>?_,os,bare⟩;cases q:H b with
    | none=>exact un.keep b o e q (by intro z;exact absurd (show b∈([]:List Addr) from z) (by simp)) (by simp)
    | some u=>
     rcases hO b with z | ⟨ob,xs,z⟩
     ·rw[q] at z;cases z
     ·have z2:=un.frzs b ob _ z;obtain⟨e1,_⟩:=hok b _ z;obtain⟨e2,_⟩:=hok' b _ z2;rw[e] at e1;cases e1;exact e2
 cases hk:K.lookup a with
 | some o=>have e:=KX a o hk;rw[ha] at e;cases e;refine core (λ_=>none) (λ_=>.inl rfl) (.inr ⟨_,vs.toArray,_,hk,rfl,rfl,rfl,by rw[bD,lenV];exact hl,by simpa using rv⟩) (λb u z=>by have z':(none:Option HO)=some u:=z;cases z') (λb z=>absurd rfl z) λz=>absurd rfl z
 | none=>
  refine core (λb=>if b=a then some (.frz {cls:=.type "list",data:=.seq vs.toArray} (.lst (ns.map V.int))) else none) (λb=>?_) (.inl (.inr ⟨{cls:=.type "list",data:=.seq vs.toArray},aP rfl⟩)) (λb u z=>?_) (λb z=>?_) λ_=>hk
  ·by_cases hb:b=a
   ·exact .inr ⟨_,_,aP hb⟩
   ·exact .inl (aQ hb)
  ·by_cases hb:b=a
   ·have z':=(aP hb).symm.trans z;cases z';subst hb;exact⟨ha,by rw[aw];exact hl,vs,_,rv,ha⟩
   ·have z':=(aQ hb).symm.trans z;cases z'
  ·by_cases hb:b=a
   ·exact hb
   ·exact absurd (aQ hb) z
end L2
namespace L2
open PySem PySem.Spec PyProof.Rows
end L2
namespace L2
open PySem PySem.Spec PyProof.Rows
def lq(s:Stmt)(j:Nat):Stmt:=match s with
 | .ClassDef _ _ _ body _ _ _ _ _ _ _=>body.getD j (.Pass ⟨0,0,0,0⟩)
 | _=>.Pass ⟨0,0,0,0⟩
def jQ(s:Stmt):Arguments:=match s with
 | .FunctionDef _ a _ _ _ _ _ _ _ _=>a
 | _=>{posonlyargs:=[],args:=[],vararg:=none,kwonlyargs:=[],kw_defaults:=[],kwarg:=none,defaults:=[]}
def iP(s:Stmt):List Stmt:=match s with
 | .FunctionDef _ _ b _ _ _ _ _ _ _=>b
 | _=>[]
def fU(s:Stmt):Scope:=match s with
 | .FunctionDef _ _ _ _ _ _ sc _ _ _=>sc
 | _=>{kind:=.function,names:=[],isGenerator:=false,isCoroutine:=false}
abbrev Ay:FD:=λ_ _ _ _ _ _=>False
abbrev E0:XK:=λ_ _ _=>False
theorem JY{X:Cx}:tm Ay X E0:=λ_ _ _ _ _ _ _ h=>h.elim
structure Kn(K:W.Frag)(x qual:Str)(st:Stmt)(f:Addr)(fd:FuncData):Prop where
 ex:∃(oc:Value) (od:Option Addr) (kV doc pm:Value) (an:Option Addr) (cdv ct:Value) (osl:Array (Option Value)),
  fd=W.fnOf x qual (jQ st) (iP st) (fU st) .none kV doc pm an cdv ct/\K.lookup f=some ⟨oc,od,.func fd,osl⟩/\W.codeIn K cdv qual=true
 kp:W.keepIn K (.ref f)=true
section
variable {P:Program}{w:World}{K:W.Frag}{mg:Str->Option Value}{base:Heap}
theorem Kn.ok{x qual:Str}{st:Stmt}{f:Addr}{fd:FuncData}{N ps:List Str}{k:Nat}{sp:Sp}(F:Kn K x qual st f fd)(S:f7 N ps (fU st))(len:∀vs H Q E,sp vs H Q E->vs.length=ps.length)
  (hbody:∀(cdv:Value) (A:Around) (outer:List Env) (s:Shared) (H:Hp) (vs:List V) (Q:VK) (E:XK),ju k (A.deeper (envOfC qual (fU st) s.heap.objs.size f cdv))->sp vs H Q E->
   ∃t,B8 (sC Ay P w K mg base N qual (fU st) f cdv A outer s H E).nox (iP st) t/\t {nx:=λ_ H'=>Q .non H',rt:=Q} (mW N vs) H):nT P w K mg base Ay (k+1) f fd ps sp:=by
 obtain⟨oc,od,kV,doc,pm,an,cdv,ct,osl,rfl,lk,hcd⟩:=F.ex;refine Qf lk hcd S len λA outer s H vs Q E hr hsp=>?_;obtain⟨t,h,q⟩:=hbody cdv A outer s H vs Q E hr hsp;exact⟨t,h.nox,q⟩
theorem Kn.binds{x qual:Str}{st:Stmt}{f:Addr}{fd:FuncData}{ps:List Str}(F:Kn K x qual st f fd)
  (h:∀(kV doc pm:Value) (an:Option Addr) (cdv ct:Value) (us:List Value),us.length=ps.length->bindArgs (W.fnOf x qual (jQ st) (iP st) (fU st) .none kV doc pm an cdv ct) ⟨us,[]⟩=pure (ps.zip us)):qo K fd ps []:=by
 obtain⟨oc,od,kV,doc,pm,an,cdv,ct,osl,rfl,lk,hcd⟩:=F.ex;exact .all (h kV doc pm an cdv ct)
theorem Dp{x qual:Str}{st:Stmt}{f:Addr}{oc:Value}{od an:Option Addr}{osl:Array (Option Value)}{kV doc pm cdv ct:Value}(l:K.lookup f=some ⟨oc,od,.func (W.fnOf x qual (jQ st) (iP st) (fU st) .none kV doc pm an cdv ct),osl⟩)
  (c:W.codeIn K cdv qual=true) (k:W.keepIn K (.ref f)=true):Kn K x qual st f (W.fnOf x qual (jQ st) (iP st) (fU st) .none kV doc pm an cdv ct):=⟨⟨oc,od,kV,doc,pm,an,cdv,ct,osl,rfl,l,c⟩,k⟩
end
theorem QI{A:Around}{k:Nat}(hr:ju k A):A.units+1<cLine:=b7 (b8 (by decide:1<=64) _) hr.units
section
variable {X:Cx}
theorem pv(i:Nat){x:Str}{pos:Pos}(hN:X.N[i]? = some x:=by rfl)(hv:QG X.env.scope x:=by first | exact Or.inl rfl | exact Or.inr (Or.inl rfl) | exact Or.inr (Or.inr rfl))(hd:(x == ("__debug__" : Str))=false:=by decide)
  (hcd:(x == ("__classdict__" : Str))=false:=by decide):PE X (.Name x pos) (nt i):=Nj hN hv hd hcd
end
def gU(H H':Hp):Prop:=∀b o,H b=some o->H' b=some o
theorem gU.refl(H:Hp):gU H H:=λ_ _ h=>h
theorem gU.trans{H H1 H2:Hp}(a:gU H H1)(b:gU H1 H2):gU H H2:=λc o h=>b c o (a c o h)
theorem gU.seq{K:W.Frag}{H H':Hp}{a:Addr}{xs:List V}(e:gU H H')(h:k9 K H a xs):k9 K H' a xs:=by
 rcases h with (h | ⟨o,h⟩) | h
 ·exact .inl (.inl (e _ _ h))
 ·exact .inl (.inr ⟨o,e _ _ h⟩)
 ·exact .inr h
end L2
namespace L2
open PySem PySem.Spec PyProof.Rows
section
variable {P:Program}{w:World}{H:Hp}{h:Heap}{a:Addr}{o:HO}
theorem qO.track(ok:qO P w H h)(hn:H a=none)(new:jw P w (jx H a o) h a o):qO P w (jx H a o) h:=λb u e=>by
 by_cases hb:b=a
 ·subst hb;rw[gC] at e;cases e;exact new
 ·rw[gA hb] at e;refine (ok b u e).stay (λ_ _ _ q=>q) (λc q=>?_) λc xs q=>?_
  ·rw[gA (hC q hn)];exact q
  ·rw[gA (hC q hn)];exact q
end
theorem gH.track{X:Cx}{fO:List (Addr×Obj)}{σ:St}{H:Hp}{s:Shared}{a:Addr}{o:HO}(I:gH X fO σ H s)(hn:H a=none)(h1:a∈X.ex\/X.s₀.heap.objs.size<=a)
  (hL:a≠X.env.locals) (h2:∀x c,X.env.cells.lookup x=some c->c≠a) (h3:∀p∈X.pn++fO,p.1≠a) (new:jw X.prog X.w (jx H a o) s.heap a o):gH X fO σ (jx H a o) s:=by
 have J:=I.step (h':=s.heap) (H':=jx H a o) (g':=s.gens) (t':=s.toks) (d':=s.drawn) (ch:=[a])
  (λb hb=>by
   have e:b=a:=by simpa using hb
   subst e;exact⟨h1,hL,h2,h3⟩)
  (λ_ _ _ _ _ e _=>e) (λ_ u _ _ _ e _=>⟨u.slots,e⟩)
  (λb u hb _ n=>by rw[gA (by simpa using hb)];exact n)
  (λ_ u _ e=>⟨u,e⟩)
  (λb xs q=>by rw[gA (hC q hn)];exact q)
  (λb u v q=>by rw[gA (hC q hn)];exact q)
  (λb ps q=>⟨#[],by rw[gA (hC q hn),q];simp⟩)
  (λ_ q=>q) (I.hok.track hn new) I.bare
 exact J
def mQ(env:Env):List (Str×NameKind)->List (Str×Addr)->List (Str×Addr)
 | [],acc=>acc
 | (n,k)::r,acc=>if k == NameKind.free then (match env.cells.lookup n with
  | some c=>mQ env r ((n,c)::acc)
  | none=>mQ env r acc) else mQ env r acc
theorem qZ{scope:Scope}{env:Env}(h:∀y∈scope.names,y.2=.free->∃c,env.cells.lookup y.1=some c):closureFor scope env=pure (mQ env scope.names []):=by
 have all:∀(l:List (Str×NameKind)) (acc:List (Str×Addr)),(∀y∈l,y.2=.free->∃c,env.cells.lookup y.1=some c)->
   (forIn l acc λ(x:Str×NameKind) (cs:List (Str×Addr))=>(if (x.2 == NameKind.free)=true then (do
    let a <-cellOf env x.1
    pure (ForInStep.yield ((x.1,a)::cs))) else pure (ForInStep.yield cs):Sem _))=pure (mQ env l acc):=by
  intro l;induction l with
  | nil=>intro acc _;rfl
  | cons y r ih=>
   intro acc hl;obtain⟨n,k⟩:=y;rw[List.forIn_cons];by_cases hk:(k == NameKind.free)=true
   ·obtain⟨c,hc⟩:=hl (n,k) bj (by simpa using hk);have hc':env.cells.lookup n=some c:=hc;have e:cellOf env n=pure c:=by unfold cellOf;rw[hc']
    simp only[hk,if_true,e,pure_bind];rw[ih _ λy hy=>hl y (bu _ hy)];show pure (mQ env r ((n,c)::acc))=pure (if (k == NameKind.free)=true then (match env.cells.lookup n with
     | some c=>mQ env r ((n,c)::acc)
     | none=>mQ env r acc) else mQ env r acc)
    rw[aP hk,hc']
   ·have hk':(k == NameKind.free)=false:=by simpa using hk
    simp only[hk',b9,if_false,pure_bind];rw[ih _ λy hy=>hl y (bu _ hy)];show pure (mQ env r acc)=pure (if (k == NameKind.free)=true then (match env.cells.lookup n with
     | some c=>mQ env r ((n,c)::acc)
     | none=>mQ env r acc) else mQ env r acc)
    rw[aQ hk]
 have:=all scope.names [] h;unfold closureFor;simp only[pure_bind,bind_pure] at this ⊢;exact this
theorem mq{env:Env}{x:Str}{c:Addr}:∀{l:List (Str×NameKind)} {acc:List (Str×Addr)},(∀y d,acc.lookup y=some d->env.cells.lookup y=some d)->(mQ env l acc).lookup x=some c->env.cells.lookup x=some c
 | [],acc,ha,h=>ha x c h
 | (n,k)::r,acc,ha,h=>by
  unfold mQ at h;by_cases hk:(k == NameKind.free)=true
  ·rw[aP hk] at h;cases e:env.cells.lookup n with
   | none=>rw[e] at h;exact mq ha h
   | some d=>
    rw[e] at h;refine mq (λy d' hy=>?_) h;rw[cf] at hy;cases q:y == n with
    | true=>rw[q] at hy;cases hy;rw[beq_iff_eq.mp q];exact e
    | false=>rw[q] at hy;exact ha y d' hy
  ·rw[aQ hk] at h;exact mq ha h
theorem qJ{env:Env}{x:Str}:∀{l:List (Str×NameKind)} {acc:List (Str×Addr)},(∃c,acc.lookup x=some c)->∃c,(mQ env l acc).lookup x=some c
 | [],_,h=>h
 | (n,k)::r,acc,h=>by
  unfold mQ;by_cases hk:(k == NameKind.free)=true
  ·rw[aP hk];cases e:env.cells.lookup n with
   | none=>exact qJ h
   | some d=>
    refine qJ ?_;rw[cf];cases q:x == n with
    | true=>exact⟨d,rfl⟩
    | false=>exact h
  ·rw[aQ hk];exact qJ h
theorem oR{env:Env}{x:Str}:∀{l:List (Str×NameKind)} {acc:List (Str×Addr)},(x,NameKind.free)∈l->(∃c,env.cells.lookup x=some c)->∃c,(mQ env l acc).lookup x=some c
 | (n,k)::r,acc,hm,hc=>by
  rcases aE.mp hm with e | hm
  ·cases e;obtain⟨c,hc⟩:=hc;unfold mQ;rw[aP (by rfl),hc];refine qJ ⟨c,?_⟩;rw[cf,beq_self_eq_true]
  ·unfold mQ;by_cases hk:(k == NameKind.free)=true
   ·rw[aP hk];cases env.cells.lookup n with
    | none=>exact oR hm hc
    | some d=>exact oR hm hc
   ·rw[aQ hk];exact oR hm hc
theorem sj{scope:Scope}{env:Env}{x:Str}(h:(relabel scope env).names.lookup x=some .cell\/(relabel scope env).names.lookup x=some .free):(x,NameKind.free)∈scope.names\/scope.names.lookup x=some .cell:=by
 have all:∀(l:List (Str×NameKind)),∀k,(k=NameKind.cell\/k=NameKind.free)->
   (l.map λ(n,k)=>if (k == NameKind.free&&env.scope.kind == .function&&env.kindOf n == some .cell) then (n,NameKind.cell) else (n,k)).lookup x=some k->(x,NameKind.free)∈l\/l.lookup x=some .cell:=by
  intro l;induction l with
  | nil=>intro k _ h;simp at h
  | cons y r ih=>
   intro k hk h;obtain⟨n,k0⟩:=y;rw[bF] at h;by_cases hc:(k0 == NameKind.free&&env.scope.kind == .function&&env.kindOf n == some .cell)=true
   ·have hf:k0=.free:=by simp only[bS,beq_iff_eq] at hc;exact hc.1.1
    simp only[hc,if_true] at h;rw[cf] at h;cases q:x == n with
    | true=>rw[hf,beq_iff_eq.mp q];exact .inl bj
    | false=>
     rw[q] at h;rcases ih k hk h with z | z
     ·exact .inl (bu _ z)
     ·exact .inr (by rw[cf,q];exact z)
   ·simp only[hc,b9,if_false] at h;rw[cf] at h;cases q:x == n with
    | true=>
     rw[q] at h;have e:k0=k:=by simpa using h
     rcases hk with rfl | rfl
     ·exact .inr (by rw[cf,q,e])
     ·rw[e,beq_iff_eq.mp q];exact .inl bj
    | false=>
     rw[q] at h;rcases ih k hk h with z | z
     ·exact .inl (bu _ z)
     ·exact .inr (by rw[cf,q];exact z)
 rcases h with h | h
 ·exact all scope.names _ (.inl rfl) h
 ·exact all scope.names _ (.inr rfl) h
theorem zU{scope:Scope}{env:Env}{x:Str}(h:scope.names.lookup x=some .free):(relabel scope env).names.lookup x=some .cell\/(relabel scope env).names.lookup x=some .free:=by
 have all:∀(l:List (Str×NameKind)),l.lookup x=some .free->
   (l.map λ(n,k)=>if (k == NameKind.free&&env.scope.kind == .function&&env.kindOf n == some .cell) then (n,NameKind.cell) else (n,k)).lookup x=some .cell\/
   (l.map λ(n,k)=>if (k == NameKind.free&&env.scope.kind == .function&&env.kindOf n == some .cell) then (n,NameKind.cell) else (n,k)).lookup x=some .free:=by
  intro l;induction l with
  | nil=>intro h;simp at h
  | cons y r ih=>
   intro h;obtain⟨n,k⟩:=y;rw[bF];rw[cf] at h;cases q:x == n with
   | true=>
    rw[q] at h;have hk:k=.free:=by simpa using h
    by_cases hc:(k == NameKind.free&&env.scope.kind == .function&&env.kindOf n == some .cell)=true
    ·refine .inl ?_;simp only[hc,if_true];rw[cf,q]
    ·refine .inr ?_;simp only[hc,b9,if_false];rw[cf,q,hk]
   | false=>
    rw[q] at h;by_cases hc:(k == NameKind.free&&env.scope.kind == .function&&env.kindOf n == some .cell)=true
    ·simp only[hc,if_true];rw[cf,q];exact ih h
    ·simp only[hc,b9,if_false];rw[cf,q];exact ih h
 exact all scope.names h
def Ft(X:Cx)(ifs:List Expr)(t:TT):Prop:=
 ∀(fO:List (Addr×Obj)) (s:Shared) (σ:St) (H:Hp) (Q:Bool->Hp->Prop),gH X fO σ H s->t σ H Q->
  wpAny (model X.prog X.w) X.A (forIn ifs true λc r=>if r=true then do let ok <-isTrue c X.env (eval c X.env);pure (ForInStep.yield ok) else pure (ForInStep.yield r)) (TP X fO σ Q) X.xe s
def Pb:TT:=λ_ H Q=>Q true H
theorem Kp{X:Cx}:Ft X [] Pb:=λ_ _ _ H _ I h=>wpAny_tests_nil ⟨H,I,h⟩
theorem LH{X:Cx}{c:Expr}{t:TT}(hc:PT X c t):Ft X [c] t:=λfO s σ H Q I h=>wpAny_tests_one (hc fO s σ H Q I h)
theorem nL{x:Str}{c:Addr}:∀(names:List (Str×NameKind)) (k:Nat) (acc:List (Str×Addr)),(cellsFrom k names acc).lookup x=some c->acc.lookup x=some c\/(k<=c/\(x,NameKind.cell)∈names)
 | [],_,_,h=>.inl h
 | (n,kd)::r,k,acc,h=>by
  unfold cellsFrom at h;split at h
  ·rename_i hk;rcases nL r _ _ h with q | ⟨q,m⟩
   ·rw[cf] at q;cases hb:x == n with
    | true=>rw[hb] at q;cases q;refine .inr ⟨aJ _,?_⟩;rw[beq_iff_eq.mp hb,beq_iff_eq.mp hk];exact bj
    | false=>rw[hb] at q;exact .inl q
   ·exact .inr ⟨cg q,bu _ m⟩
  ·rcases nL r _ _ h with q | ⟨q,m⟩
   ·exact .inl q
   ·exact .inr ⟨q,bu _ m⟩
theorem mz{x:Str}:∀(names:List (Str×NameKind)) (k:Nat) (acc:List (Str×Addr)),(x,NameKind.cell)∉names->(cellsFrom k names acc).lookup x=acc.lookup x
 | [],_,_,_=>rfl
 | (n,kd)::r,k,acc,h=>by
  unfold cellsFrom;have hr:(x,NameKind.cell)∉r:=λz=>h (bu _ z);split
  ·rename_i hk;rw[mz r _ _ hr,cf];cases hb:x == n with
   | true=>exact absurd (by rw[beq_iff_eq.mp hb,beq_iff_eq.mp hk];exact bj) h
   | false=>rfl
  ·exact mz r _ _ hr
theorem n8{x:Str}{c:Addr}:∀(names:List (Str×NameKind)) (k:Nat) (acc:List (Str×Addr)),(x,NameKind.cell)∈names->(cellsFrom k names acc).lookup x=some c->k<=c
 | [],_,_,h,_=>nomatch h
 | (n,kd)::r,k,acc,h,e=>by
  unfold cellsFrom at e;by_cases hr:(x,NameKind.cell)∈r
  ·split at e
   ·exact cg (n8 r _ _ hr e)
   ·exact n8 r _ _ hr e
  ·rcases aE.mp h with q | q
   ·cases q;rw[aP (by rfl),mz r _ _ hr,cf,beq_self_eq_true] at e;cases e;exact aJ _
   ·exact absurd q hr
theorem og:∀(names:List (Str×NameKind)) (k:Nat) (acc:List (Str×Addr)),(∀x y c,acc.lookup x=some c->acc.lookup y=some c->x=y)->(∀x c,acc.lookup x=some c->c<k)->
  ∀x y c,(cellsFrom k names acc).lookup x=some c->(cellsFrom k names acc).lookup y=some c->x=y
 | [],_,_,h,_=>h
 | (n,kd)::r,k,acc,h,hl=>by
  unfold cellsFrom;split
  ·refine og r (k+1) ((n,k)::acc) (λx y c h1 h2=>?_) λx c h1=>?_
   ·rw[cf] at h1 h2;cases e1:x == n with
    | true=>
     cases e2:y == n with
     | true=>rw[beq_iff_eq.mp e1,beq_iff_eq.mp e2]
     | false=>rw[e1] at h1;rw[e2] at h2;cases h1;exact absurd (hl _ _ h2) (aZ _)
    | false=>
     rw[e1] at h1;cases e2:y == n with
     | true=>rw[e2] at h2;cases h2;exact absurd (hl _ _ h1) (aZ _)
     | false=>rw[e2] at h2;exact h x y c h1 h2
   ·rw[cf] at h1;cases e1:x == n with
    | true=>rw[e1] at h1;cases h1;exact bG _
    | false=>rw[e1] at h1;exact cj (hl x c h1)
  ·exact og r k acc h hl
theorem nQ{x:Str}{c:Addr}:∀(names:List (Str×NameKind)) (h:Heap) (acc:List (Str×Addr)),(cellsFrom h.objs.size names acc).lookup x=some c->acc.lookup x=some c\/(h.objs.size<=c/\(pushCells h names).IsCell c none)
 | [],_,_,e=>.inl e
 | (n,kd)::r,h,acc,e=>by
  unfold cellsFrom at e;unfold pushCells;split at e
  ·rename_i hk;rw[aP hk];have e':(cellsFrom (h.push {cls:=.type "cell",data:=.cell none}).objs.size r ((n,h.objs.size)::acc)).lookup x=some c:=by rw[Heap.size_push];exact e
   rcases nQ r _ _ e' with q | ⟨q,m⟩
   ·rw[cf] at q;cases hb:x == n with
    | true=>rw[hb] at q;cases q;exact .inr ⟨aJ _,_,pushCells_keeps r _ _ _ (ar _ rfl),rfl⟩
    | false=>rw[hb] at q;exact .inl q
   ·rw[Heap.size_push] at q;exact .inr ⟨cg q,m⟩
  ·rename_i hk;rw[aQ hk];exact nQ r _ _ e
theorem ug{M:Model}{A:Around}{E:Value->Shared->Prop}{s:Shared}{scope:Scope}{globals:Addr}{closure:List (Str×Addr)}{qual:Str}{func:Option Addr}{code:Value}{outer:Env}{builtins:Addr}{Q:Env->Shared->Prop}
  (hQ:Q (newEnv scope s.heap.objs.size globals (cellsFrom (s.heap.objs.size+1) scope.names closure) qual func code (some outer) builtins) {s with heap:=pushCells (s.heap.push {cls:=.type "dict",data:=.dict #[]}) scope.names}) :
  wpAny M A (newFunctionEnv scope globals closure [] qual func code (some outer) builtins) Q E s:=by
 simp only[newFunctionEnv,ck,if_true];refine ao (wpAny_alloc ?_);refine ao (wpAny_layCells _ (λname kind cells=>by cases hkc:kind == NameKind.cell<;>simp[hkc]) _ _ _ _ ?_);rw[show ({s with heap:=s.heap.push {cls:=.type "dict",data:=.dict #[]}}:Shared).heap.objs.size=s.heap.objs.size+1 from Heap.size_push ..];rw[List.forIn_nil];exact ao (ak (ak hQ))
def oK(X:Cx)(N:List Str)(scope:Scope)(C:Addr)(s₃:Shared)(H:Hp)(ex:List Addr)(pn:List (Addr×Obj)):Cx:={X with N:=N,s₀:=s₃,H₀:=H,env:=compEnvC scope (cellsFrom (C+1) scope.names (mQ X.env scope.names [])) C X.env,outer:=X.stack,ex:=ex,fn:=λx=>scope.names.lookup x == some .cell,pn:=pn,xe:=λ_ _=>False}
def pull(ix:List (Option Nat))(σ:St):St:=ix.map fun
 | none=>none
 | some j=>(σ[j]?).getD none
def R7(J:It)(ix:List (Option Nat))(g:TG)(tt:TT)(te:TE)(σ:St)(H1:Hp)(Q:VK):Prop:=∃W:Nat->Nat->List V->Hp->Prop,(∃m,W 0 m [] H1)/\∀i m ys H,W i m ys H->
 (J.stop i H/\∀D,H D=none->Q (.ref D) (jx H D (.lst ys)))\/
 (J.go i H/\ys.length<sizeLine/\∀x H',J.yld i H x H'->g x (pull ix σ) H' λσ2 H2=>tt σ2 H2 λb H3=>if b=true then te σ2 H3 λy H4=>∃m',m'<m/\W (i+1) m' (ys++[y]) H4 else ∃m',m'<m/\W (i+1) m' ys H3)
def NT(ix:List (Option Nat))(wi:TI)(g:TG)(tt:TT)(te:TE):TE:=λσ H Q=>wi σ H λJ H1=>R7 J ix g tt te σ H1 Q
end L2
namespace L2
open PySem PySem.Spec PyProof.Rows
section
variable {prog:Program}{w:World}{A:Around}{R:Result->Shared->Prop}{s:Shared}
theorem AQ{elt tg iter:Expr}{ifs:List Expr}{scope:Scope}{pos:Pos}{it acc:Value}{env:Env}(J:Nat->Shared->Prop)
  (turn:∀n s,J n s->wpAny (model prog w) A (pyNext it) (λr s₁=>match r with
   | none=>R (.ok .next) s₁
   | some v=>wpAny (model prog w) A (letOwnedTupleGo tg it v) (λ_ s₂=>wpAny (model prog w) A (assign tg env v) (λ_ s₃=>
     wpAny (model prog w) A (forIn ifs true λc r=>if r=true then do let ok <-isTrue c env (eval c env);pure (ForInStep.yield ok) else pure (ForInStep.yield r)) (λok s₄=>
      if ok=true then wpAny (model prog w) A (eval elt env) (λx s₅=>wpAny (model prog w) A (call (.builtin "list.append") [acc,x]) (λ_ s₆=>∃m,m<n/\J m s₆) (λ_ _=>False) s₅) (λ_ _=>False) s₄
      else ∃m,m<n/\J m s₄) (λ_ _=>False) s₃) (λ_ _=>False) s₂) (λ_ _=>False) s₁) (λ_ _=>False) s)
  (n:Nat) (h:J n s):codeAny (model prog w) A (.compLoop (.ListComp elt [⟨tg,iter,ifs,0⟩] scope pos) 0 it acc env) R s:=by
 refine codeAny_loop rfl J (λn s hJ=>?_) n h;show wpAny _ A ((compTurn (.ListComp elt [⟨tg,iter,ifs,0⟩] scope pos) 0 it acc env).onRaise (λx=>do noteFrame x env;theTreesLotGoes x)) _ _ s;refine wpAny_noted ?_;rw[compTurn_list];refine ao (wpAny_standAt (ao (wpAny_mono (turn n s hJ) (λr s₁ h₁=>?_) λ_ _ z=>z.elim)));cases r with
 | none=>exact ak h₁
 | some v=>
  refine ao (wpAny_mono h₁ (λ_ s₂ h₂=>?_) λ_ _ z=>z.elim);refine ao (wpAny_mono h₂ (λ_ s₃ h₃=>ao (wpAny_mono h₃ (λok s₄ h₄=>?_) λ_ _ z=>z.elim)) λ_ _ z=>z.elim);cases ok with
  | false=>exact ak ⟨rfl,h₄⟩
  | true=>exact ao (ao (wpAny_mono h₄ (λx s₅ h₅=>ao (wpAny_mono h₅ (λ_ s₆ h₆=>ak (ak ⟨rfl,h₆⟩)) λ_ _ z=>z.elim)) λ_ _ z=>z.elim))
end
def rH(ix:List (Option Nat))(g:TG):Prop:=∀x σ1 H Q,g x σ1 H Q->g x σ1 H λσ2 H2=>(∀i j:Nat,ix[i]? = some (some j)->σ2[i]? = σ1[i]?)/\Q σ2 H2
theorem gI{ix:List (Option Nat)}{k:Nat}(hk:ix[k]? = some none):rH ix (kK k):=λx σ1 H Q h=>by
 refine⟨λi j e=>?_,h⟩;have:k≠i:=by rintro rfl;rw[hk] at e;cases e
 rw[aq this]
abbrev xG(us:List Value):Obj:={cls:=.type "list",data:=.seq us.toArray us.length}
section
variable {X:Cx}{tg elt iter:Expr}{ifs:List Expr}{scope:Scope}{pos:Pos}{N:List Str}{ix:List (Option Nat)}{wi:TI}{g:TG}{tt:TT}{te:TE}
structure Be(X:Cx)(scope:Scope)(N:List Str)(ix:List (Option Nat)):Prop where
 kind:scope.kind=.function
 sep:∀y∈scope.names,y.2=.cell->scope.names.lookup y.1=some .cell
 names:∀y∈scope.names,y.2=.local->scope.names.lookup y.1=some .local
 fre:∀y∈scope.names,y.2=.free->∃c,X.env.cells.lookup y.1=some c
 len:N.length=ix.length
 ix:∀(i j:Nat) (x:Str),N[i]? = some x->ix[i]? = some (some j)->X.N[j]? = some x/\scope.names.lookup x=some .free/\QG X.env.scope x/\X.env.kindOf x≠some .local
theorem Qe{fO:List (Addr×Obj)}{σ:St}{H:Hp}{s:Shared}{fp:List Addr}(L:Be X scope N ix)(I:gH X fO σ H s)(f:∀b∈fp,sQ X fO H b)(hlt:∀b∈fp,b<s.heap.objs.size)(o:Obj) :
  (oK X N scope (s.heap.objs.size+1) {s with heap:=s.heap.push o} H (s.heap.objs.size::fp) (X.pn++fO)).Ok:=by
 have I1:gH X fO σ H {s with heap:=s.heap.push o}:=I.kept (t':=s.toks) λb u e=>ae _ e;have sound0:∀x c,(mQ X.env scope.names []).lookup x=some c->X.env.cells.lookup x=some c:=λx c e=>mq (λy d z=>by simp at z) e;have cellLt:∀x c,X.env.cells.lookup x=some c->c<s.heap.objs.size:=λx c e=>let ⟨_,q⟩:=I.cell x c e;q.lt;have sound:∀x c,(cellsFrom (s.heap.objs.size+1+1) scope.names (mQ X.env scope.names [])).lookup x=some c->X.env.cells.lookup x=some c\/s.heap.objs.size+1+1<=c:=λx c e=>by
  rcases nL _ _ _ e with q | ⟨q,_⟩
  ·exact .inl (sound0 x c q)
  ·exact .inr q
 refine⟨I.ok.mod,L.kind,I.ok.glob,I.ok.blt,?_,og _ _ _ (λx y c h1 h2=>I.ok.inj x y c (sound0 x c h1) (sound0 y c h2)) (λx c h1=>cj (cj (cellLt x c (sound0 x c h1)))),λx hx=>?_,λx c h1 h2=>?_,I.ok.hd,I.ok.frames,.inl rfl,λb hb=>?_,λb u e=>?_,?_,λb u e hb=>?_,λb hb=>?_,I1.stack,I.stkFree⟩
 ·show (s.heap.push o).objs.size<=s.heap.objs.size+1;rw[Heap.size_push];exact aJ _
 ·refine bL.mp (W.cellsFrom_some _ _ _ ?_);rcases sj hx with hm | hm
  ·exact .inr (bL.mpr (oR hm (L.fre _ hm rfl)))
  ·exact .inl hm
 ·have h1':(scope.names.lookup x == some .cell)=true:=h1;have hk:scope.names.lookup x=some .cell:=by simpa using h1'
  show (s.heap.push o).objs.size<=c;rw[Heap.size_push];exact cg (n8 _ _ _ (PySem.mem_of_lookup hk) h2)
 ·rcases aE.mp hb with rfl | hb
  ·refine⟨aL (bG _),λx c e z=>?_⟩;rcases sound x c e with q | q
   ·exact absurd (cellLt x c q) (by rw[z];exact aZ _)
   ·rw[z] at q;omega
  ·refine⟨aL (cj (hlt b hb)),λx c e=>?_⟩;rcases sound x c e with q | q
   ·exact (f b hb).2.2.2.2.1 x c q
   ·intro z;rw[z] at q;exact absurd (aM (cm _ 2) q) (Nat.not_le.mpr (hlt b hb))
 ·exact⟨ae _ (I.bs b u e).1,(I.bs b u e).2⟩
 ·show X.base.objs.size<=(s.heap.push o).objs.size;rw[Heap.size_push];exact cq (aM I.ok.bsz I.sz)
 ·have hb':=aK (I.bs b u e).1;rcases aE.mp hb with rfl | hb
  ·exact aZ _ hb'
  ·rcases (f b hb).2.2.2.1 with z | z
   ·exact I.ok.noex b u e z
   ·exact absurd (aD (aK e) (aM I.ok.bsz z)) (aZ _)
 ·intro z;have hs:=I.stkSub b z;rcases aE.mp hb with rfl | hb
  ·rcases aE.mp hs with q | q
   ·exact absurd I.lt (by rw[<-q];exact aZ _)
   ·exact I.nofs (aJ _) q
  ·rcases aE.mp hs with q | q
   ·exact (f b hb).2.1 q
   ·exact (f b hb).2.2.1 q
end
end L2
namespace L2
open PySem PySem.Spec PyProof.Rows
section
variable {X:Cx}{tg elt iter:Expr}{ifs:List Expr}{scope:Scope}{pos:Pos}{N:List Str}{ix:List (Option Nat)}{wi:TI}{g:TG}{tt:TT}{te:TE}
theorem Cj{ix:List (Option Nat)}{σ:St}{i:Nat}{v:V}(h:(pull ix σ)[i]? = some (some v)):∃j,ix[i]? = some (some j)/\σ[j]? = some (some v):=by
 unfold pull at h;rw[av] at h;cases e:ix[i]? with
 | none=>rw[e] at h;cases h
 | some k=>
  rw[e] at h;cases k with
  | none=>cases h
  | some j=>
   refine⟨j,rfl,?_⟩;have h':(σ[j]?).getD none=some v:=by simpa using h
   cases q:σ[j]? with
   | none=>rw[q] at h';cases h'
   | some z=>rw[q] at h';simpa using h'
theorem EK{fO:List (Addr×Obj)}{σ:St}{RR:Value->Addr->Result->Shared->Prop}{Q:VK}{E:Value->Shared->Prop}{it:Addr}{fp:List Addr}{tn:Nat->Heap->Prop}{J:It}{H2:Hp}{s2:Shared}{W:Nat->Nat->List V->Hp->Prop}{m0:Nat}
  (hc:X.calm=true) (L:Be X scope N ix) (hgk:rH ix g)
  (blk:∀C s₃ H ex pn,PG (oK X N scope C s₃ H ex pn) tg g/\Ft (oK X N scope C s₃ H ex pn) ifs tt/\PE (oK X N scope C s₃ H ex pn) elt te)
  (I2:gH X fO σ H2 s2) (T:BG X.prog X.w X.K tg J fp it tn) (st2:tn 0 s2.heap) (f2:∀b∈fp,sQ X fO H2 b) (w0:W 0 m0 [] H2)
  (turn:∀i m ys H,W i m ys H->(J.stop i H/\∀D,H D=none->Q (.ref D) (jx H D (.lst ys)))\/
   (J.go i H/\ys.length<sizeLine/\∀x H',J.yld i H x H'->g x (pull ix σ) H' λσ2 H2=>tt σ2 H2 λb H3=>if b=true then te σ2 H3 λy H4=>∃m',m'<m/\W (i+1) m' (ys++[y]) H4 else ∃m',m'<m/\W (i+1) m' ys H3))
  (fin:∀D C m H' s',s'.heap.Ns C m->sQ X fO H' C->gH X fO σ H' s'->Q (.ref D) H'->RR (.ref D) C (.ok .next) s') :
  wpAny (model X.prog X.w) X.A (newList []) (λacc s₃=>wpAny (model X.prog X.w) X.A (newFunctionEnv scope X.env.globals (mQ X.env scope.names []) [] X.env.qual none .none (some X.env)) (λcenv s₄=>codeAny (model X.prog X.w) X.A (.compStart (.ListComp elt [⟨tg,iter,ifs,0⟩] scope pos) 0 (.ref it) acc {cenv with scope:=relabel scope X.env}) (RR acc cenv.locals) s₄) E s₃) E s2:=by
 refine wpAny_newObj_type (ug ?_);dsimp only;have hCs:(s2.heap.push {cls:=.type "list",dict:=none,data:=.seq ([]:List Value).toArray}).objs.size=s2.heap.objs.size+1:=Heap.size_push ..;generalize hh₁:pushCells ((s2.heap.push {cls:=.type "list",dict:=none,data:=.seq ([]:List Value).toArray}).push {cls:=.type "dict",data:=.dict #[]}) scope.names=h₁;rw[hCs];have hns₁:h₁.Ns (s2.heap.objs.size+1) (λ_=>none):=by rw[<-hh₁,<-hCs];exact (Heap.Ns.new _ _).keeps (pushCells_keeps _ _)
 have hnew:∀x c,(cellsFrom (s2.heap.objs.size+1+1) scope.names (mQ X.env scope.names [])).lookup x=some c->X.env.cells.lookup x=some c\/(s2.heap.objs.size+1+1<=c/\h₁.IsCell c none):=λx c e=>by
  have hs3:((s2.heap.push {cls:=.type "list",dict:=none,data:=.seq ([]:List Value).toArray}).push {cls:=.type "dict",data:=.dict #[]}).objs.size=s2.heap.objs.size+1+1:=by rw[Heap.size_push,hCs]
  rw[<-hs3] at e;rcases nQ _ _ _ e with q | ⟨q,m⟩
  ·exact .inl (mq (λy d z=>by simp at z) q)
  ·rw[hs3] at q;rw[hh₁] at m;exact .inr ⟨q,m⟩
 have fpObj:=T.obj 0 _ st2;have hlt:∀b∈fp,b<s2.heap.objs.size:=λb hb=>let ⟨_,e,_⟩:=fpObj b hb;aK e;have ok:=Qe L I2 f2 hlt {cls:=.type "list",dict:=none,data:=.seq ([]:List Value).toArray};have DC:s2.heap.objs.size≠s2.heap.objs.size+1:=aL (bG _);have hold:∀b o,(s2.heap.push {cls:=.type "list",dict:=none,data:=.seq ([]:List Value).toArray}).get? b=some o->h₁.get? b=some o:=λb o e=>by rw[<-hh₁];exact pushCells_keeps _ _ _ _ (ae _ e)
 have old:∀b o,s2.heap.get? b=some o->h₁.get? b=some o:=λb o e=>hold b o (ae _ e);have sound:∀x c,(mQ X.env scope.names []).lookup x=some c->X.env.cells.lookup x=some c:=λx c e=>mq (λy d z=>by simp at z) e;have cellLt:∀x c,X.env.cells.lookup x=some c->c<s2.heap.objs.size:=λx c e=>let ⟨_,q⟩:=I2.cell x c e;q.lt;have hDn:H2 s2.heap.objs.size=none:=I2.hok.fresh (aJ _);have hCn:H2 (s2.heap.objs.size+1)=none:=I2.hok.fresh (bJ _);have pinLt:∀p∈X.pn++fO,p.1<s2.heap.objs.size:=λp hp=>aK (I2.pin p hp).1;have hDfs:s2.heap.objs.size∉Fx X.stack:=λz=>by
  rcases aE.mp (I2.stkSub _ z) with q | q
  ·exact absurd I2.lt (by rw[<-q];exact aZ _)
  ·exact I2.nofs (aJ _) q
 have I':gH (oK X N scope (s2.heap.objs.size+1) {s2 with heap:=s2.heap.push {cls:=.type "list",dict:=none,data:=.seq ([]:List Value).toArray}} H2 (s2.heap.objs.size::fp) (X.pn++fO))
   [(s2.heap.objs.size,xG [])] (pull ix σ) H2 {s2 with heap:=h₁,toks:=s2.toks}:=by
  refine⟨ok,rfl,I2.bare,Un.kept hold,⟨_,hns₁,λi x v h1 h2 h3=>?_⟩,λx c e=>?_,hCn,λx c e=>?_,λp hp=>?_,I2.hok.kept old,?_⟩
  ·obtain⟨j,ej,es⟩:=Cj h2;obtain⟨q1,q2,q3,q4⟩:=L.ix i j x h1 ej;obtain⟨m,_,hl⟩:=I2.loc;obtain⟨u,r,lk⟩:=hl j x v q1 es q3;refine⟨u,r,?_⟩;rcases lk with⟨k,_⟩ | ⟨k,c,hcl,hv⟩
   ·exact absurd k q4
   ·obtain⟨c',hc'⟩:=oR (acc:=[]) (PySem.mem_of_lookup q2) ⟨c,hcl⟩;have:=sound x c' hc';rw[hcl] at this;cases this;have hnc:(x,NameKind.cell)∉scope.names:=λz=>by have:=L.sep _ z rfl;rw[q2] at this;cases this
    refine .inr ⟨?_,c,(mz _ _ _ hnc).trans hc',let ⟨ob,ho,hd⟩:=hv;⟨ob,old c ob ho,hd⟩⟩;exact zU q2
  ·rcases hnew x c e with q | ⟨_,q⟩
   ·obtain⟨v,ob,ho,hd⟩:=I2.cell x c q;exact⟨v,ob,old c ob ho,hd⟩
   ·exact⟨none,q⟩
  ·rcases hnew x c e with q | ⟨q,_⟩
   ·exact I2.freeC x c q
   ·exact I2.hok.fresh (aM (cm _ 2) q)
  ·rcases ai.mp hp with hp | hp
   ·obtain⟨e,n,ne,nf,d⟩:=I2.pin p hp;refine⟨old _ _ e,n,aL (cj (pinLt p hp)),λz=>?_,d⟩;rcases aE.mp (I2.stkSub _ z) with q | q
    ·exact ne q
    ·exact nf q
   ·have e:p=(s2.heap.objs.size,xG []):=by simpa using hp
    subst e;exact⟨hold _ _ (ar _ rfl),hDn,DC,hDfs,λv z=>by cases z⟩
  ·unfold pull;rw[aw];exact L.len.symm
 generalize hX':oK X N scope (s2.heap.objs.size+1) {s2 with heap:=s2.heap.push {cls:=.type "list",dict:=none,data:=.seq ([]:List Value).toArray}} H2 (s2.heap.objs.size::fp) (X.pn++fO)=X' at I';obtain⟨hg,hif,he⟩:=blk (s2.heap.objs.size+1) {s2 with heap:=s2.heap.push {cls:=.type "list",dict:=none,data:=.seq ([]:List Value).toArray}} H2 (s2.heap.objs.size::fp) (X.pn++fO);rw[hX'] at hg hif he;have stat:∀{H':Hp} {us:List Value},(∀b∈fp,H' b=none)->∀b∈fp,sQ X' [(s2.heap.objs.size,xG us)] H' b:=λ{H' us} hn b hb=>by
  subst hX';obtain⟨_,f1,f2',f3,f4,f5⟩:=f2 b hb;refine⟨hn b hb,aL (cj (hlt b hb)),λz=>?_,.inl (bu _ hb),λx c e=>?_,λp hp=>?_⟩
  ·rcases aE.mp (I2.stkSub _ z) with q | q
   ·exact f1 q
   ·exact f2' q
  ·rcases hnew x c e with q | ⟨q,_⟩
   ·exact f4 x c q
   ·intro z;rw[z] at q;exact absurd (aM (cm _ 2) q) (Nat.not_le.mpr (hlt b hb))
  ·rcases ai.mp hp with hp | hp
   ·exact f5 p hp
   ·have e:p=(s2.heap.objs.size,xG us):=by simpa using hp
    subst e;exact Ne.symm (aL (hlt b hb))
 have loop:codeAny (model X.prog X.w) X.A (.compLoop (.ListComp elt [⟨tg,iter,ifs,0⟩] scope pos) 0 (.ref it) (.ref s2.heap.objs.size) X'.env) (RR (.ref s2.heap.objs.size) (s2.heap.objs.size+1))
   {s2 with heap:=h₁,toks:=s2.toks}:=by
  refine AQ (λn s'=>∃i ys us H',gH X' [(s2.heap.objs.size,xG us)] (pull ix σ) H' s'/\ib ys us/\ys.length<=sizeLine/\tn i s'.heap/\(∀b∈fp,H' b=none)/\W i n ys H') ?_ m0
   ⟨0,[],[],H2,I',.nil,bH _,T.keep _ _ _ st2 λb _ o e=>old b o e,λb hb=>(f2 b hb).1,w0⟩
  rintro n s3 ⟨i,ys,us,H3,I3,rv,hz,st3,fr3,w3⟩;have hcX:X'.calm=true:=by subst hX';exact hc
  have hA:X'.A=X.A:=by subst hX';rfl
  rcases turn i n ys H3 w3 with⟨stop,qn⟩ | ⟨go,kT,step⟩
  ·have hd:=T.done X' (by subst hX';rfl) (by subst hX';rfl) (by subst hX';rfl) hcX i _ s3 _ H3 (λ_ _=>False) I3 (stat fr3) st3 stop;rw[hA] at hd;refine jN hd λr s4 ⟨hr,I4⟩=>?_;subst hr;subst hX';obtain⟨m,hn,_⟩:=I4.loc;have hD3:=I4.pin (s2.heap.objs.size,xG us) (bC _ bj);have u1:Un (Fx X.stack) fp H2 H3 s2.heap s4.heap:=by
    have B:=I4.base;have nD:∀b o,s2.heap.get? b=some o->b∉fp->b∉s2.heap.objs.size::fp:=λb o e hb z=>by
     rcases aE.mp z with q | q
     ·exact absurd (aK e) (by rw[q];exact aZ _)
     ·exact hb q
    exact⟨λb o e n hb hx=>B.keep b o (ae _ e) n hb (nD b o e hx),λb o e n hb hx=>B.slot b o (ae _ e) n hb (nD b o e hx),
     λb o e n hx=>B.free b o (ae _ e) n (nD b o e hx),λb o e hx=>B.there b o (ae _ e) (nD b o e hx),B.tups,B.frzs,B.tbls⟩
   have I5:gH X fO σ H3 s4:=I2.call' (ch:=fp) I4.os u1 I4.hok I4.bare λb hb=>let ⟨_,f1,_,f3,f4,f5⟩:=f2 b hb;⟨f3,f1,f4,f5⟩;have I6:gH X fO σ (jx H3 s2.heap.objs.size (.lst ys)) s4:=I5.track hD3.2.1 (.inr I2.sz) (Ne.symm (aL I2.lt)) (λx c e z=>absurd (cellLt x c e) (by rw[z];exact aZ _))
    (λp hp=>aL (pinLt p hp)) ⟨hz,us,us.length,rv,hD3.1⟩
   refine fin _ _ m _ s4 hn ⟨?_,?_,?_,.inr (cq I2.sz),λx c e z=>?_,λp hp=>?_⟩ I6 (qn _ hD3.2.1)
   ·rw[gA (Ne.symm DC)];exact I4.free
   ·exact Ne.symm (aL (cj I2.lt))
   ·exact I2.nofs (bJ _)
   ·exact absurd (cellLt x c e) (by rw[z];exact Nat.not_lt.mpr (bJ _))
   ·exact aL (cj (pinLt p hp))
  ·have hd:=T.item X' (by subst hX';rfl) (by subst hX';rfl) (by subst hX';rfl) hcX i _ s3 _ H3 (λ_ _=>False) I3 (stat fr3) st3 go;rw[hA] at hd;refine jN hd λr s4 ⟨u,hr,h4⟩=>?_;subst hr;refine jN h4 λ_ s5 ⟨x,H5,I5,r5,y5,st5,fr5⟩=>?_;have I5':=I5.pinned (stat fr5) (T.obj _ _ st5);have hM:model X'.prog X'.w=model X.prog X.w:=by subst hX';rfl
   have hE:X'.xe=λ_ _=>False:=by subst hX';rfl
   have a6:=hg _ s5 _ H5 x u _ I5' r5 (hgk x _ H5 _ (step x H5 y5));rw[hM,hA,hE] at a6;refine jN a6 λ_ s6 ⟨σ6,H6,I6,agr,q6⟩=>?_;have a7:=hif _ s6 σ6 H6 _ I6 q6;rw[hM,hA,hE] at a7;refine jN a7 λok s7 ⟨H7,I7,q7⟩=>?_;have back:∀{s':Shared} {H':Hp} {pl:List (Addr×Obj)},gH X' pl σ6 H' s'->gH X' pl (pull ix σ) H' s':=λ{s' H' pl} I=>by
    refine I.weak ?_ λk v e=>?_
    ·have e1:=I.len;have e2:=I3.len;rw[e1,e2]
    ·obtain⟨j,ej,_⟩:=Cj e;rw[agr k j ej];exact e
   have held:∀{s':Shared} {H':Hp},gH X' ([(s2.heap.objs.size,xG us)]++xC fp s5.heap) σ6 H' s'->tn (i+1) s'.heap/\∀b∈fp,H' b=none:=λ{s' H'} I=>by refine⟨T.keep _ _ _ st5 λb hb o e=>(I.pin (b,o) (bC _ (bC _ (pI hb e)))).1,λb hb=>?_⟩;obtain⟨o,e,_⟩:=T.obj _ _ st5 b hb;exact (I.pin (b,o) (bC _ (bC _ (pI hb e)))).2.1
   cases ok with
   | false=>rw[aQ aG] at q7 ⊢;obtain⟨m',hm,w7⟩:=q7;obtain⟨k1,k2⟩:=held I7;exact⟨m',hm,i+1,ys,us,H7,(back I7).unpinned,rv,hz,k1,k2,w7⟩
   | true=>
    rw[aP rfl] at q7 ⊢;have a8:=he _ s7 σ6 H7 _ I7 q7;rw[hM,hA,hE] at a8;refine jN a8 λy s8 ⟨yv,H8,I8,r8,m',hm,w8⟩=>?_;obtain⟨k1,k2⟩:=held I8;have hD8:=I8.pin (s2.heap.objs.size,xG us) (bC _ (ax _ bj));have hl:=rv.length;refine append_at (hsz:=by rw[bD];omega) hD8.1 λh9 sb hD9=>?_;have I9:gH X' [] (pull ix σ) H8 s8:=(back I8).pins_of λp hp=>by simp at hp
    have I10:gH X' [] (pull ix σ) H8 {s8 with heap:=h9}:=I9.turned (t':=s8.toks) (it:=s2.heap.objs.size) (λb o hb e=>sb.extBut b o hb e) hD8.2.1 hD8.2.2.1 (.inl (by subst hX';exact bj))
     (λx c e z=>by
      subst hX';rcases hnew x c e with q | ⟨q,_⟩
      ·exact absurd (cellLt x c q) (by rw[z];exact aZ _)
      ·rw[z] at q;omega) (λp hp z=>by
      subst hX';rcases ai.mp hp with hp | hp
      ·exact absurd (pinLt p hp) (by rw[z];exact aZ _)
      ·simp at hp)
    have e9:h9.get? s2.heap.objs.size=some (xG (us++[y])):=by rw[hD9];simp
    refine⟨m',hm,i+1,ys++[yv],us++[y],H8,I10.pins_of λp hp=>?_,rv.append (.cons r8 .nil),by rw[aS,b4];omega,?_,k2,w8⟩
    ·have e:p=(s2.heap.objs.size,xG (us++[y])):=by simpa using hp
     subst e;exact⟨e9,hD8.2.1,hD8.2.2.1,hD8.2.2.2.1,λv z=>by cases z⟩
    ·exact T.keep _ _ _ k1 λb hb o e=>sb.extBut b o (aL (hlt b hb)) e
 have loop':=loop;subst hX';exact codeAny_compStart_list loop (T.self X.A 0 _ _ _ (T.keep _ _ _ st2 λb _ o e=>old b o e) loop')
theorem QU(hc:X.calm=true)(hi:PI X tg iter wi)(L:Be X scope N ix)(hgk:rH ix g)
  (blk:∀C s₃ H ex pn,PG (oK X N scope C s₃ H ex pn) tg g/\Ft (oK X N scope C s₃ H ex pn) ifs tt/\PE (oK X N scope C s₃ H ex pn) elt te)
  (hs:∀x,foldedSetIterable iter X.env x=pure x:=by intro _;rfl):PE X (.ListComp elt [⟨tg,iter,ifs,0⟩] scope pos) (NT ix wi g tt te):=by
 intro fO s σ H Q I h;rw[eval_ListComp];refine wpAny_comprehension_free (use:=none) rfl hs (qZ L.fre) L.kind L.names (jN (hi fO s σ H _ I h) λv s1 h1=>jN h1 λitv s2 h2=>?_);obtain⟨it,fp,tn,J,H2,e,I2,T,st2,f2,W,⟨m0,w0⟩,turn⟩:=h2;subst e;refine EK (RR:=λacc C=>compPost (model X.prog X.w) X.A X.xe none (EP X fO σ Q) acc C) hc L hgk blk I2 T st2 f2 w0 turn λD C m H' s' hn f I' q=>?_;refine⟨m,hn,λh' sb=>⟨.ref D,H',I'.turned (t':=s'.toks) (λb o hb e=>sb.extBut b o hb e) f.1 f.2.1 f.2.2.2.1 f.2.2.2.2.1 f.2.2.2.2.2,rfl,q⟩⟩
end
end L2
namespace L2
open PySem PySem.Spec PyProof.Rows
structure gq(K:W.Frag)(mg:Str->Option Value)(x:Str)(st:Stmt):Prop where
 ex:∃f fd,Kn K x x st f fd/\mg x=some (.ref f)
theorem NC{K:W.Frag}{h:Heap}{mg:Str->Option Value}{x:Str}{st:Stmt}{f:Addr}{oc:Value}{od an:Option Addr}{osl:Array (Option Value)}{kV doc pm cdv ct:Value}(X:K.In h)(G:h.Ns mainGlobals mg)
  (a:W.nsIn K mainGlobals x=some (some (.ref f)))
  (l:K.lookup f=some ⟨oc,od,.func (W.fnOf x x (jQ st) (iP st) (fU st) .none kV doc pm an cdv ct),osl⟩)
  (c:W.codeIn K cdv x=true) (k:W.keepIn K (.ref f)=true):gq K mg x st:=⟨f,_,Dp l c k,W.mg_of X G a⟩
structure fV(P:Program)(w:World)(K:W.Frag)(mg:Str->Option Value)(base:Heap)(x:Str)(k:Nat)(sp:Sp):Prop where
 ex:∃f fd ps,nT P w K mg base Ay k f fd ps sp/\mg x=some (.ref f)/\W.keepIn K (.ref f)=true/\qo K fd ps []
theorem fV.mono{P:Program}{w:World}{K:W.Frag}{mg:Str->Option Value}{base:Heap}{x:Str}{j k:Nat}{sp:Sp}(h:fV P w K mg base x j sp)(hk:j<=k):fV P w K mg base x k sp:=
 let ⟨f,fd,ps,F,a,b,c⟩:=h.ex
 ⟨f,fd,ps,F.mono hk,a,b,c⟩
theorem EL{P:Program}{w:World}{K:W.Frag}{mg:Str->Option Value}{base:Heap}{x:Str}{st:Stmt}{N ps:List Str}{k:Nat}{sp:Sp}(D:gq K mg x st)(S:f7 N ps (fU st))
  (hb:∀(kV doc pm:Value) (an:Option Addr) (cdv ct:Value) (us:List Value),us.length=ps.length->bindArgs (W.fnOf x x (jQ st) (iP st) (fU st) .none kV doc pm an cdv ct) ⟨us,[]⟩=pure (ps.zip us))
  (len:∀vs H Q E,sp vs H Q E->vs.length=ps.length)
  (hbody:∀(f:Addr) (cdv:Value) (A:Around) (outer:List Env) (s:Shared) (H:Hp) (vs:List V) (Q:VK) (E:XK),ju k (A.deeper (envOfC x (fU st) s.heap.objs.size f cdv))->sp vs H Q E->
   ∃t,B8 (sC Ay P w K mg base N x (fU st) f cdv A outer s H E).nox (iP st) t/\t {nx:=λ_ H'=>Q .non H',rt:=Q} (mW N vs) H):fV P w K mg base x (k+1) sp:=by
 obtain⟨f,fd,F,m⟩:=D.ex;exact⟨f,fd,ps,F.ok S len (hbody f),m,F.kp,F.binds hb⟩
section
variable {X:Cx}{x:Str}{k:Nat}{sp:Sp}{e:Expr}{es:List Expr}{t:TA}{p pos:Pos}
theorem Br(h:fV X.prog X.w X.K X.mg X.base x k sp)(hr:ju k X.A)(ha:PA X (e::es) t)(hg:Gl X x:=by rfl)
  (hdb:(x == ("__debug__" : Str))=false:=by decide) (he:starEach (e::es) X.env=(false,eval e X.env)::starEach es X.env:=by rfl) (hpl:(backTo pos (starEach es X.env)).any (·.1)=false:=by rfl) :
  PE X (.Call (.Name x p) (e::es) [] pos) (zw sp [] E0 t):=by
 obtain⟨f,fd,ps,F,a,b,c⟩:=h.ex;exact Lg F hr hg a b c .nil JY ha hdb he hpl
end
theorem LA{X:Cx}:pY X (binaryOp .Mult) (rI (λi j=>PySem.IntMulOk i j) λi j=>.int (i*j)):=Rh λ_ _ _ _ _ _ _ hc q=>mul_int q hc
theorem IV{X:Cx}:pY X (binaryOp .FloorDiv) (rI (λi j=>j≠0/\Builtin.divisionGoesByPylong i j=false) λi j=>.int (i.fdiv j)):=Rh λ_ _ _ _ _ _ _ hc q=>floordiv_int hc.1 q (.inl hc.2)
end L2
namespace L2
open PySem PySem.Spec PyProof.Rows
section
variable {P:Program}{w:World}{K:W.Frag}{mg:Str->Option Value}{base:Heap}{N:List Str}{qual:Str}{scope:Scope}{f:Addr}{cd:Value}{A:Around}{outer:List Env}{s₀:Shared}{H₀:Hp}{E:XK}
variable {fO:List (Addr×Obj)}{σ:St}{H:Hp}{s:Shared}
end
end L2
namespace L2
open PySem PySem.Spec PyProof.Rows PySem.W
section
variable {P:Program}{w:World}{K:W.Frag}{mg:Str->Option Value}{base:Heap}{N:List Str}{qual:Str}{scope:Scope}{f:Addr}{cd:Value}{A:Around}{outer:List Env}{s₀:Shared}{H₀:Hp}{E:XK}
end
end L2
namespace L2
open PySem PySem.Spec PyProof.Rows PySem.W PySem.Calls Builtin Builtin.ObjectAttr Builtin.Getset_descriptor
section
variable {prog:Program}{w:World}{A:Around}{E:Value->Shared->Prop}{s:Shared}{K:Frag}{x D:Addr}
end
end L2
namespace L2
open PySem PySem.Spec PyProof.Rows PySem.W PySem.Calls Builtin Builtin.ObjectAttr Builtin.Getset_descriptor
section
variable {prog:Program}{w:World}{A:Around}{E:Value->Shared->Prop}{s:Shared}{K:Frag}{x C D:Addr}
end
section
variable {X:Cx}{fO pins' pn pn':List (Addr×Obj)}{σ:St}{H H1 H':Hp}{s s1 s':Shared}{xe:Value->Shared->Prop}{ea t:Addr}{C:Value}{vs:List Value}{B h:Heap}
end
end L2
namespace L2
open PySem PySem.Spec PyProof.Rows PySem.W PySem.Calls
section
variable {X:Cx}{x:Str}{k:Nat}{sp:Sp}{e:Expr}{es:List Expr}{t:TA}{p pos:Pos}{E:XK}
end
end L2
namespace L2
open PySem PySem.Spec PyProof.Rows PySem.W
mutual
inductive DV(K:Frag)(H:Hp):V->PyData->Prop
 | non:DV K H .non .none
 | bl (b:Bool):DV K H (.bl b) (.bool b)
 | int (i:Int):DV K H (.int i) (.int i)
 | str (x:Str):DV K H (.str x) (.str x)
 | lst {a:Addr} {xs:List V} {ds:List PyData} (h:k9 K H a xs) (hs:A8 K H xs ds):DV K H (.ref a) (.list ds)
 | tup {a:Addr} {xs:List V} {ds:List PyData} (h:mB K H a xs) (hs:A8 K H xs ds):DV K H (.ref a) (.tuple ds)
inductive A8(K:Frag)(H:Hp):List V->List PyData->Prop
 | nil:A8 K H [] []
 | cons {v:V} {d:PyData} {vs:List V} {ds:List PyData} (h:DV K H v d) (hs:A8 K H vs ds):A8 K H (v::vs) (d::ds)
end
section
variable {X:Cx}{fO:List (Addr×Obj)}{σ:St}{H:Hp}{s:Shared}
mutual
theorem DV.reads(I:gH X fO σ H s):∀{v:V} {d:PyData} {u:Value},DV X.K H v d->iL v u->∃as,Reads s.heap u d as
 | _,_,_,.non,r=>by cases r;exact⟨_,.none⟩
 | _,_,_,.bl b,r=>by cases r;exact⟨_,.bool b⟩
 | _,_,_,.int i,r=>by obtain⟨t,rfl⟩:=r;exact⟨_,.int i t⟩
 | _,_,_,.str x,r=>by obtain⟨t,rfl⟩:=r;exact⟨_,.str x t⟩
 | _,_,_,.lst h hs,r=>by cases r;obtain⟨its,r',⟨o,n,e,hc,hd,hq⟩,_⟩:=I.list h;obtain⟨as,ra⟩:=A8.reads I hs r';exact⟨_,.list e hc hq (by simpa using ra)⟩
 | _,_,_,.tup h hs,r=>by cases r;obtain⟨its,r',⟨o,e,hc,n,hq⟩,_⟩:=I.tuple h;obtain⟨as,ra⟩:=A8.reads I hs r';exact⟨_,.tuple e hc hq (by simpa using ra)⟩
theorem A8.reads(I:gH X fO σ H s):∀{vs:List V} {ds:List PyData} {us:List Value},A8 X.K H vs ds->ib vs us->∃as,ReadsAll s.heap us ds as
 | _,_,_,.nil,r=>by cases r;exact⟨_,.nil⟩
 | _,_,_,.cons h hs,r=>by
  cases r with
  | cons r1 r2=>obtain⟨as,ra⟩:=DV.reads I h r1;obtain⟨bs,rb⟩:=A8.reads I hs r2;exact⟨_,.cons ra rb⟩
end
def C6(K:Frag)(neg:Bool):R2:=λx y H Q=>∃da db,DV K H x da/\DV K H y db/\(da.canLay0=true/\db.canLay0=true/\da.depth<=100)/\Q (.bl (if neg then !PyData.eqv da db else PyData.eqv da db)) H
theorem Ir(hu:X.A.units+200<cLine):pY X (compareOp .Eq) (C6 X.K false):=by intro fO s σ H x y v u Q I rx ry h;obtain⟨da,db,hx,hy,⟨ca,cb,hd⟩,q⟩:=h;obtain⟨as,ra⟩:=hx.reads I rx;obtain⟨bs,rb⟩:=hy.reads I ry;exact SeqAt.eqOverData _ _ _ _ _ _ _ _ _ _ _ _ ra rb ca cb (by omega) ⟨.bl _,H,I,rfl,q⟩
theorem Ih(hu:X.A.units+200<cLine):pY X (compareOp .NotEq) (C6 X.K true):=by intro fO s σ H x y v u Q I rx ry h;obtain⟨da,db,hx,hy,⟨ca,cb,hd⟩,q⟩:=h;obtain⟨as,ra⟩:=hx.reads I rx;obtain⟨bs,rb⟩:=hy.reads I ry;exact SeqAt.neOverData _ _ _ _ _ _ _ _ _ _ _ _ ra rb ca cb (by omega) ⟨.bl _,H,I,rfl,q⟩
theorem Rc{A:Around}{k:Nat}(hr:ju k A):A.units+200<cLine:=by have:=hr.un;omega
end
end L2
namespace L2
open PySem PySem.Spec PyProof.Rows
theorem BS:∀{bs:List Bool} {us:List Value},ib (bs.map V.bl) us->us=bs.map Value.bool
 | [],_,.nil=>rfl
 | b::bs,u::us,.cons r t=>by have e:u=Value.bool b:=r;rw[e,BS t];rfl
theorem wR:∀{ns:List Int} {us:List Value},ib (ns.map V.int) us->IntsAre us ns
 | [],_,.nil=>.nil
 | n::ns,u::us,.cons r t=>by obtain⟨tk,e⟩:=(show ∃tk,u=Value.int n tk from r);rw[e];exact .cons n tk (wR t)
theorem GS{bs:List Bool}:(List.range bs.length).all (λi=>bs.getD i false)=bs.all id:=by
 induction bs with
 | nil=>rfl
 | cons b bs ih=>rw[ay,cu,bU,cv,bU,<-ih];rfl
theorem yp{bs:List Bool}:(List.range bs.length).any (λi=>bs.getD i false)=bs.any id:=by
 induction bs with
 | nil=>rfl
 | cons b bs ih=>rw[ay,cu,bV,cw,bV,<-ih];rfl
section
variable {X:Cx}
theorem F6{prog:Program}{w:World}{A:Around}{bs:List Bool}:TruthOf prog w A (λi v=>(bs.map Value.bool).toArray[i]? = some v) (λi=>bs.getD i false):=λi v s Q E hP hQ=>by
 have e:(bs.map Value.bool)[i]? = some v:=by simpa using hP
 rw[av] at e;cases hb:bs[i]? with
 | none=>rw[hb] at e;cases e
 | some b=>
  rw[hb] at e;cases e;have:bs.getD i false=b:=by rw[af,hb];rfl
  dsimp only at hQ;rw[this] at hQ;exact ak hQ
theorem JU(hc:X.calm=true):kU X (.builtin "all") (λxs H Q=>∃(p:Addr) (bs:List Bool),xs=[.ref p]/\k9 X.K H p (bs.map V.bl)/\Q (.bl (bs.all id)) H):=by
 intro fO s σ H xs us Q I r h;obtain⟨p,bs,rfl,hS,q⟩:=h;obtain⟨u,rfl,rx⟩:=oH r;cases rx;obtain⟨its,rv,pl,hz⟩:=I.list hS;have e:=BS rv;subst e;have hlt:p<s.heap.objs.size:=by obtain⟨_,e,_⟩:=pl.isList;exact aK e
 refine call_all_walk (wpAny_pyIter_list pl.isList ⟨s.heap.objs.size,_,_,_,_,_,λi=>bs.getD i false,rfl,Walks.list (A:=X.A.in1) (I.ok.hd hc) _ p (aL hlt) _,⟨⟨_,ar _ rfl,rfl,rfl⟩,pl.isList.push _⟩,F6,λh' tk hk=>?_⟩);refine⟨.bl _,H,I.kept (t':=tk) (λb o e=>hk b o ?_ (ae _ e)),rfl,?_⟩
 ·intro hm;have:=aK e;have z:b=s.heap.objs.size:=by simpa using hm
  rw[z] at this;exact aZ _ this
 ·rw[<-GS] at q;simpa using q
theorem J3(hc:X.calm=true):kU X (.builtin "sum") (λxs H Q=>∃(p:Addr) (ns:List Int),xs=[.ref p]/\k9 X.K H p (ns.map V.int)/\Q (.int ns.sum) H):=by intro fO s σ H xs us Q I r h;obtain⟨p,ns,rfl,hS,q⟩:=h;obtain⟨u,rfl,rx⟩:=oH r;cases rx;obtain⟨its,rv,pl,hz⟩:=I.list hS;have hi:=wR rv;obtain⟨xs,e⟩:=hi.allInts.items;have hl:=pl.isList;rw[e] at hl;refine sum_intListG (I.ok.hd hc) hl λh' tk t' hk=>⟨.int ns.sum,H,I.kept (t':=tk) hk,⟨t',?_⟩,q⟩;rw[preSum_eq,cx (by simp),<-nums_intItems,<-e,show its.toArray.toList=its from rfl,hi.numsOf]
theorem wy:bootBuiltins "all" = some (.builtin "all"):=by decide +kernel
theorem JO:bootBuiltins "any" = some (.builtin "any"):=by decide +kernel
theorem JC:bootBuiltins "sum" = some (.builtin "sum"):=by decide +kernel
end
end L2
namespace L2
open PySem PySem.Spec PyProof.Rows
def iW(b:Bool)(h:Heap)(l:Addr)(xs:Array Value):Prop:=if b=true then h.IsTuple l xs else h.IsList l xs
def kj(b:Bool)(h:Heap)(it l:Addr)(k:Nat):Prop:=if b=true then h.IsTupleIter it l k else h.IsListIter it l k
def vY(b:Bool):String:=if b=true then "tuple_iterator" else "list_iterator"
theorem kj.look{b:Bool}{h:Heap}{it l:Addr}{k:Nat}(x:kj b h it l k):∃o,h.get? it=some o/\o.cls=.type (vY b)/\o.data=.fields #[.ref l,.int k 0]:=by
 cases b with
 | true=>exact (show h.IsTupleIter it l k from x)
 | false=>exact (show h.IsListIter it l k from x)
theorem kj.of{b:Bool}{h:Heap}{it l:Addr}{k:Nat}(x:∃o,h.get? it=some o/\o.cls=.type (vY b)/\o.data=.fields #[.ref l,.int k 0]):kj b h it l k:=by
 cases b with
 | true=>exact x
 | false=>exact x
theorem kj.to{b:Bool}{h h':Heap}{it l:Addr}{k:Nat}(x:kj b h it l k)(e:∀o,h.get? it=some o->h'.get? it=some o):kj b h' it l k:=by obtain⟨o,ho,q⟩:=x.look;exact .of ⟨o,e o ho,q⟩
theorem iW.look{b:Bool}{h:Heap}{l:Addr}{xs:Array Value}(x:iW b h l xs):∃o n,h.get? l=some o/\o.data=.seq xs n:=by
 cases b with
 | true=>obtain⟨o,ho,_,n,hd⟩:=(show h.IsTuple l xs from x);exact⟨o,n,ho,hd⟩
 | false=>obtain⟨o,ho,_,n,hd⟩:=(show h.IsList l xs from x);exact⟨o,n,ho,hd⟩
theorem iW.to{b:Bool}{h h':Heap}{l:Addr}{xs:Array Value}(x:iW b h l xs)(e:∀o,h.get? l=some o->h'.get? l=some o):iW b h' l xs:=by
 cases b with
 | true=>obtain⟨o,ho,q⟩:=(show h.IsTuple l xs from x);exact⟨o,e o ho,q⟩
 | false=>obtain⟨o,ho,q⟩:=(show h.IsList l xs from x);exact⟨o,e o ho,q⟩
section
variable {prog:Program}{w:World}{A:Around}{E:Value->Shared->Prop}{s:Shared}
theorem LX{it l:Addr}{k:Nat}{xs:Array Value}{Q:Value->Shared->Prop}(hi:s.heap.IsTupleIter it l k)(hl:s.heap.IsTuple l xs)
  (h1:∀x h',xs[k]? = some x->h'.IsTupleIter it l (k+1)->Heap.SameBut it s.heap h'->Q x {s with heap:=h'})
  (h2:xs[k]? = none->A.handled=none/\∀h' e,Heap.ExtBut it s.heap h'->(∃o,h'.get? e=some o/\o.cls=.type "StopIteration")->E (.ref e) {s with heap:=h'}) :
  wpAny (model prog w) A (Builtin.SmallTypes.nextOf (.ref it)) Q E s:=by
 obtain⟨oi,gi,ci,di⟩:=id hi;obtain⟨ol,gl,_,n,dl⟩:=hl;unfold Builtin.SmallTypes.nextOf;refine ao (wpAny_callSpecial?_slot (name:=Str.ofString "__next__") hi.typeIs F.slot_tuple_iterator_next (wpAny_call_entry F.slot_tuple_iterator_next hi.typeIs F.entry_tuple_iterator_next ?_ (F.args_tuple_iterator_next_1 _)));show wpAny _ _ (field (.ref it) 0 >>= _) _ _ s;refine ao (wpAny_field gi di (x:=.ref l) rfl ?_);show wpAny _ _ (if (Value.ref l == Value.none)=true then _ else field (.ref it) 1 >>= _) _ _ s;have ne:(Value.ref l == Value.none)=false:=rfl;simp only[ne,b9,if_false];refine ao (wpAny_field gi di (x:=.int k 0) rfl (ao (wpAny_seqItems gl dl ?_)));cases hx:xs[k]? with
 | some x=>simp only[bO,hx];refine ao (wpAny_setField gi di (by simp) (ak ⟨x,rfl,ak (h1 x _ hx ?_ (Heap.SameBut.update ..))⟩));refine⟨_,Heap.get?_update_self _ gi (Obj.isFreed_of_fields (Obj.data_mapFields di _)),(Obj.cls_mapFields ..).trans ci,?_⟩;rw[Obj.data_mapFields di];simp[rawInt]
 | none=>obtain⟨hh,h2⟩:=h2 hx;simp only[bO,hx];refine ao (wpAny_rule (ao (wpAny_setField gi di (by simp) ?_)));show wpAny _ _ (newExc (.type "StopIteration") [] >>= _) _ _ _;simp only[newExc,newTuple];refine ao (ao (wpAny_newObj_type (ao (m:=firstArgMember _ _) (wpAny_of_eq (a:=Value.none) (by first | rfl | (simp only[firstArgMember];rfl)) (wpAny_newObj_type ?_ (by size_fits)))) (by size_fits)));simp only[raiseNew];refine ao (wpAny_handled ?_);rw[show A.in1.handled=none from hh];refine ao (ak (wpAny_throw ?_));exact h2 _ _ (((Heap.SameBut.update ..).extBut.push _).push _) ⟨_,ar _ rfl,rfl⟩
theorem se{b:Bool}{it l:Addr}{k:Nat}{xs:Array Value}{Q:Value->Shared->Prop}(hi:kj b s.heap it l k)(hl:iW b s.heap l xs)
  (h1:∀x h',xs[k]? = some x->kj b h' it l (k+1)->Heap.SameBut it s.heap h'->Q x {s with heap:=h'})
  (h2:xs[k]? = none->A.handled=none/\∀h' e,Heap.ExtBut it s.heap h'->(∃o,h'.get? e=some o/\o.cls=.type "StopIteration")->E (.ref e) {s with heap:=h'}) :
  wpAny (model prog w) A (Builtin.SmallTypes.nextOf (.ref it)) Q E s:=by
 cases b with
 | true=>exact LX hi hl h1 h2
 | false=>
  have hi':s.heap.IsListIter it l k:=hi;have hl':s.heap.IsList l xs:=hl;cases hx:xs[k]? with
  | some x=>exact wpAny_nextOf_list_item hi' hl' hx λh' a b=>h1 x h' hx a b
  | none=>obtain⟨hh,h2⟩:=h2 hx;exact wpAny_nextOf_list_end hh hi' hl' hx h2
theorem JR{b1 b2:Bool}{z TI TO i1 i2 l1 l2:Addr}{k:Nat}{xs ys:Array Value}{a b:Value}{Q:Value->Shared->Prop}(D:ZipApart z TI TO i1 i2 l1 l2)
  (hz:IsZip s.heap z TI TO .none) (hTI:IsPair s.heap TI (.ref i1) (.ref i2)) (hTO:IsPair s.heap TO a b)
  (h1:kj b1 s.heap i1 l1 k) (h2:kj b2 s.heap i2 l2 k) (hl1:iW b1 s.heap l1 xs) (hl2:iW b2 s.heap l2 ys)
  (yes:∀x y h',xs[k]? = some x->ys[k]? = some y->IsZip h' z TI TO (rawInt s.heap.objs.size)->IsPair h' TO x y->kj b1 h' i1 l1 (k+1)->kj b2 h' i2 l2 (k+1)->IsPair h' s.heap.objs.size x y->h'.objs.size=s.heap.objs.size+1->
   (∀c o,c≠z->c≠TO->c≠i1->c≠i2->s.heap.get? c=some o->h'.get? c=some o)->Q (.ref s.heap.objs.size) {s with heap:=h'})
  (no:xs[k]? = none\/ys[k]? = none->A.handled=none/\∀h' e,(∀c o,c≠z->c≠TO->c≠i1->c≠i2->s.heap.get? c=some o->h'.get? c=some o)->(∃o,h'.get? e=some o/\o.cls=.type "StopIteration")->E (.ref e) {s with heap:=h'}) :
  wpAny (model prog w) A (Builtin.«zip.__next__» ⟨[.ref z],[]⟩) (λfin s'=>∃v,fin=.done (.ret v)/\Q v s') E s:=by
 have notZ:∀{h:Heap} {e:Addr} {oe:Obj} {f:Value},IsZip h z TI TO f->h.get? e=some oe->oe.cls=.type "StopIteration" ->e≠z:=λ{h e oe f} q ge ce u=>by subst u;rw[q] at ge;cases ge;simp at ce
 show wpAny _ _ (field (.ref z) 2 >>= λ_=>_) _ _ _;refine ao (wpAny_field hz rfl (x:=.bool false) rfl ?_);show wpAny _ _ (field (.ref z) 3 >>= λ_=>_) _ _ _;refine ao (wpAny_field hz rfl (x:=.ref TI) rfl (ao (wpAny_seqItems hTI rfl ?_)));show wpAny _ _ (Builtin.SmallTypes.ownedTupleIsFree (.ref z) >>= λ_=>_) _ _ _;unfold Builtin.SmallTypes.ownedTupleIsFree;refine ao (ao (wpAny_field hz rfl (x:=.none) rfl (ak ?_)));simp only[if_true];refine ao (wpAny_rule (ao (wpAny_field hz rfl (x:=.ref TO) rfl (ao (wpAny_setField_rec hz (by simp) λg1 y1 k1=>?_)))));have z1:IsZip g1 z TI TO .ellipsis:=y1;simp only[List.zipIdx_cons,List.zipIdx_nil,List.forIn_cons,List.forIn_nil];refine ao (ao (ao (wpAny_onRaise ?_)));show wpAny _ _ (Builtin.SmallTypes.nextOf (.ref i1) >>= λ_=>_) _ _ _;refine ao (se (h1.to λo e=>k1.extBut _ _ D.i1z e) (hl1.to λo e=>k1.extBut _ _ D.l1z e) (λx g2 hx t2 k2=>ak ?_) (λhx=>⟨(no (.inl hx)).1,λg2 e k2 ⟨oe,ge,ce⟩=>?_⟩))
 ·have p2:IsPair g2 TO a b:=k2.extBut _ _ D.TOi1 (k1.extBut _ _ D.TOz hTO);refine ao (wpAny_seqItems p2 rfl (ao (wpAny_updateSeq_pair p2 λg3 q3 k3=>?_)));have p3:IsPair g3 TO x b:=q3;refine ao (wpAny_letGo (ak (ao (ao (wpAny_onRaise ?_)))));show wpAny _ _ (Builtin.SmallTypes.nextOf (.ref i2) >>= λ_=>_) _ _ _;have to3:∀c o,c≠z->c≠i1->c≠TO->s.heap.get? c=some o->g3.get? c=some o:=λc o c1 c2 c3 e=>k3.extBut _ _ c3 (k2.extBut _ _ c2 (k1.extBut _ _ c1 e));refine ao (se (h2.to λo e=>to3 _ o D.i2z D.i12.symm D.TOi2.symm e) (hl2.to λo e=>to3 _ o D.l2z D.l2i1 D.l2TO e) (λy g4 hy t4 k4=>ak ?_) (λhy=>⟨(no (.inr hy)).1,λg4 e k4 ⟨oe,ge,ce⟩=>?_⟩))
  ·have p4:IsPair g4 TO x b:=k4.extBut _ _ D.TOi2 p3;refine ao (wpAny_seqItems p4 rfl (ao (wpAny_updateSeq_pair p4 λg5 q5 k5=>?_)));have p5:IsPair g5 TO x y:=q5;refine ao (wpAny_letGo (ak (ak (ao (wpAny_seqItems p5 rfl (ao (wpAny_newTuple ?_)))))));have sz:g5.objs.size=s.heap.objs.size:=by rw[k5.1,k4.1,k3.1,k2.1,k1.1]
   have z5:IsZip g5 z TI TO .ellipsis:=k5.extBut _ _ D.TOz.symm (k4.extBut _ _ D.i2z.symm (k3.extBut _ _ D.TOz.symm (k2.extBut _ _ D.i1z.symm z1)));have to5:∀c o,c≠z->c≠TO->c≠i1->c≠i2->s.heap.get? c=some o->g5.get? c=some o:=λc o c1 c2 c3 c4 e=>k5.extBut _ _ c2 (k4.extBut _ _ c4 (to3 c o c1 c3 c2 e));show wpAny _ _ (Builtin.SmallTypes.ownedTupleHandOut (.ref z) (.ref g5.objs.size) >>= λ_=>_) _ _ _;unfold Builtin.SmallTypes.ownedTupleHandOut;refine ao (ao (wpAny_setField_rec (show IsZip (g5.push {cls:=.type "tuple",data:=.seq #[x,y]}) z TI TO .ellipsis from ae _ z5) (by simp) λg7 y7 k7=>?_));have z7:IsZip g7 z TI TO (rawInt g5.objs.size):=y7;refine wpAny_setField_rec z7 (by simp) λg8 y8 k8=>?_;have z8:IsZip g8 z TI TO (rawInt g5.objs.size):=y8;have up:∀c o,c≠z->(g5.push {cls:=.type "tuple",data:=.seq #[x,y]}).get? c=some o->g8.get? c=some o:=λc o c1 e=>k8.extBut _ _ c1 (k7.extBut _ _ c1 e);have up5:∀c o,c≠z->g5.get? c=some o->g8.get? c=some o:=λc o c1 e=>up c o c1 (ae _ e);have p8:IsPair g8 g5.objs.size x y:=up _ _ (bz (aK z5)) (ar _ rfl);have s8:g8.objs.size=g5.objs.size+1:=by rw[k8.1,k7.1,Heap.size_push]
   rw[sz] at z8 p8 s8;refine ak ⟨_,rfl,?_⟩;show Q (.ref g5.objs.size) {s with heap:=g8};rw[sz];have e1:kj b1 g8 i1 l1 (k+1):=t2.to λo e=>up5 _ o D.i1z (k5.extBut _ _ D.TOi1.symm (k4.extBut _ _ D.i12 (k3.extBut _ _ D.TOi1.symm e)));have e2:kj b2 g8 i2 l2 (k+1):=t4.to λo e=>up5 _ o D.i2z (k5.extBut _ _ D.TOi2.symm e);exact yes x y g8 hx hy z8 (up5 _ _ D.TOz p5) e1 e2 p8 s8 λc o c1 c2 c3 c4 e=>up5 c o c1 (to5 c o c1 c2 c3 c4 e)
  ·have z4:IsZip g4 z TI TO .ellipsis:=k4 _ _ D.i2z.symm (k3.extBut _ _ D.TOz.symm (k2.extBut _ _ D.i1z.symm z1));refine wpAny_setField_rec z4 (by simp) λg5 _ k5=>(no (.inr hy)).2 g5 e (λc o c1 c2 c3 c4 q=>k5.extBut _ _ c1 (k4 _ _ c4 (to3 c o c1 c3 c2 q))) ⟨oe,k5.extBut _ _ (notZ z4 ge ce) ge,ce⟩
 ·have z2:IsZip g2 z TI TO .ellipsis:=k2 _ _ D.i1z.symm z1;refine wpAny_setField_rec z2 (by simp) λg3 _ k3=>(no (.inl hx)).2 g3 e (λc o c1 c2 c3 c4 q=>k3.extBut _ _ c1 (k2 _ _ c3 (k1.extBut _ _ c1 q))) ⟨oe,k3.extBut _ _ (notZ z2 ge ce) ge,ce⟩
theorem B6{b1 b2:Bool}{z TI TO i1 i2 l1 l2:Addr}{k:Nat}{xs ys:Array Value}{a b:Value}{Q:Option Value->Shared->Prop}(D:ZipApart z TI TO i1 i2 l1 l2)
  (hz:IsZip s.heap z TI TO .none) (hTI:IsPair s.heap TI (.ref i1) (.ref i2)) (hTO:IsPair s.heap TO a b)
  (h1:kj b1 s.heap i1 l1 k) (h2:kj b2 s.heap i2 l2 k) (hl1:iW b1 s.heap l1 xs) (hl2:iW b2 s.heap l2 ys)
  (yes:∀x y h',xs[k]? = some x->ys[k]? = some y->IsZip h' z TI TO (rawInt s.heap.objs.size)->IsPair h' TO x y->kj b1 h' i1 l1 (k+1)->kj b2 h' i2 l2 (k+1)->IsPair h' s.heap.objs.size x y->h'.objs.size=s.heap.objs.size+1->
   (∀c o,c≠z->c≠TO->c≠i1->c≠i2->s.heap.get? c=some o->h'.get? c=some o)->Q (some (.ref s.heap.objs.size)) {s with heap:=h'})
  (no:xs[k]? = none\/ys[k]? = none->A.handled=none/\∀h',(∀c o,c≠z->c≠TO->c≠i1->c≠i2->s.heap.get? c=some o->h'.get? c=some o)->Q none {s with heap:=h'}) :
  wpAny (model prog w) A (pyNext (.ref z)) Q E s:=by
 have ty:s.TypeIs (.ref z) "zip" :=⟨_,hz,rfl⟩;unfold pyNext;refine ao (wpAny_attempt (wpAny_callSpecial?_slot (name:=Str.ofString "__next__") ty F.slot_zip_next (wpAny_call_entry F.slot_zip_next ty F.entry_zip_next
  (JR D hz hTI hTO h1 h2 hl1 hl2 (λx y h' u1 u2 u3 u4 u5 u6 u7 u8 u9=>ak (yes x y h' u1 u2 u3 u4 u5 u6 u7 u8 u9)) λq=>⟨(no q).1,λh' e hk ⟨o,ho,hc⟩=>?_⟩) (F.args_zip_next_1 _))))
 exact ao (wpAny_isInstance (T:= "StopIteration") (b:=true) ⟨o,ho,hc⟩ isSubtype_stop (ak ((no q).2 h' hk)))
theorem oI{b:Bool}{l:Addr}{xs:Array Value}{Q:Value->Shared->Prop}(hl:iW b s.heap l xs)
  (h:Q (.ref s.heap.objs.size) {s with heap:=s.heap.push {cls:=.type (vY b),data:=.fields #[.ref l,.int 0 0]}}):wpAny (model prog w) A (pyIter (.ref l)) Q E s:=by
 cases b with
 | true=>exact wpAny_pyIter_tuple (show s.heap.IsTuple l xs from hl) h
 | false=>exact wpAny_pyIter_list (show s.heap.IsList l xs from hl) h
end
abbrev zo(b:Bool)(l:Addr):Obj:={cls:=.type (vY b),data:=.fields #[.ref l,.int 0 0]}
abbrev zt(x y:Value):Obj:={cls:=.type "tuple",data:=.seq #[x,y]}
abbrev zz(p q:Addr):Obj:={cls:=.type "zip",data:=.fields #[.none,.bool false,.bool false,.ref p,.ref q]}
abbrev zD(b1 b2:Bool)(h:Heap)(l1 l2:Addr):Heap:=
 ((((h.push (zo b1 l1)).push (zo b2 l2)).push (zt (.ref h.objs.size) (.ref (h.push (zo b1 l1)).objs.size))).push (zt .none .none)).push
  (zz ((h.push (zo b1 l1)).push (zo b2 l2)).objs.size (((h.push (zo b1 l1)).push (zo b2 l2)).push (zt (.ref h.objs.size) (.ref (h.push (zo b1 l1)).objs.size))).objs.size)
section
variable {prog:Program}{w:World}{A:Around}{E:Value->Shared->Prop}{s:Shared}
theorem FG(b1 b2:Bool)(l1 l2:Addr)(xs ys:Array Value):Meets (Builtin.«zip.__new__» ⟨[.type "zip",.ref l1,.ref l2],[]⟩) (λ_ R s=>iW b1 s.heap l1 xs/\iW b2 s.heap l2 ys/\
  R (.ok (.ret (.ref ((((s.heap.push (zo b1 l1)).push (zo b2 l2)).push (zt (.ref s.heap.objs.size) (.ref (s.heap.push (zo b1 l1)).objs.size))).push (zt .none .none)).objs.size))) {s with heap:=zD b1 b2 s.heap l1 l2}):=by
 refine .of_wp λprog w A R s h=>?_;obtain⟨hp,g,d,tk,os⟩:=s;obtain⟨a1,a2,hR⟩:=h;have sz:=sub_zip;have q1:iW b1 (Shared.heap ⟨hp,g,d,tk,os⟩) l1 xs:=a1;have q2:iW b2 (Shared.heap ⟨hp.push (zo b1 l1),g,d,tk,os⟩) l2 ys:=a2.to λo e=>ae _ e;wp_walk using oI q1,oI q2;exact⟨_,rfl,hR⟩
theorem JZ{b1 b2:Bool}{l1 l2:Addr}{xs ys:Array Value}{Q:Value->Shared->Prop}(hl1:iW b1 s.heap l1 xs)(hl2:iW b2 s.heap l2 ys)
  (h:∀h',IsZip h' (s.heap.objs.size+4) (s.heap.objs.size+2) (s.heap.objs.size+3) .none->IsPair h' (s.heap.objs.size+2) (.ref s.heap.objs.size) (.ref (s.heap.objs.size+1))->IsPair h' (s.heap.objs.size+3) .none .none->
   kj b1 h' s.heap.objs.size l1 0->kj b2 h' (s.heap.objs.size+1) l2 0->h'.objs.size=s.heap.objs.size+5->(∀c o,s.heap.get? c=some o->h'.get? c=some o)->Q (.ref (s.heap.objs.size+4)) {s with heap:=h'}) :
  wpAny (model prog w) A (call (.type "zip") [.ref l1,.ref l2]) Q E s:=by
 refine callType_new F.called_zip (by decide) (F.typeCall_zip_2 _ _) (F.newCall_zip_2 _ _) (λobj=>F.args_object_init_3 obj _ _) F.entry_zip_new (FG b1 b2 l1 l2 xs ys) ⟨hl1,hl2,?_⟩;generalize hn:s.heap.objs.size=n at *;have n1:(s.heap.push (zo b1 l1)).objs.size=n+1:=by rw[Heap.size_push,hn]
 have n2:((s.heap.push (zo b1 l1)).push (zo b2 l2)).objs.size=n+2:=by rw[Heap.size_push,n1]
 generalize hg2:(s.heap.push (zo b1 l1)).push (zo b2 l2)=g2 at *;have k2:∀c o,s.heap.get? c=some o->g2.get? c=some o:=λc o e=>by rw[<-hg2];exact ae _ (ae _ e)
 have t1:g2.get? n=some (zo b1 l1):=by rw[<-hg2,<-hn];exact ae _ (ar _ rfl)
 have t2:g2.get? (n+1)=some (zo b2 l2):=by rw[<-hg2,<-n1];exact ar _ rfl
 have n3:(g2.push (zt (.ref n) (.ref (n+1)))).objs.size=n+3:=by rw[Heap.size_push,n2]
 have n4:((g2.push (zt (.ref n) (.ref (n+1)))).push (zt .none .none)).objs.size=n+4:=by rw[Heap.size_push,n3]
 have eH:zD b1 b2 s.heap l1 l2=((g2.push (zt (.ref n) (.ref (n+1)))).push (zt .none .none)).push (zz (n+2) (n+3)):=by unfold zD;rw[hn,n1,hg2,n2,n3]
 rw[eH,n1,n4];have p3:(g2.push (zt (.ref n) (.ref (n+1)))).get? (n+2)=some (zt (.ref n) (.ref (n+1))):=by rw[<-n2];exact ar _ rfl
 have p4:((g2.push (zt (.ref n) (.ref (n+1)))).push (zt .none .none)).get? (n+3)=some (zt .none .none):=by rw[<-n3];exact ar _ rfl
 have p5:(((g2.push (zt (.ref n) (.ref (n+1)))).push (zt .none .none)).push (zz (n+2) (n+3))).get? (n+4)=some (zz (n+2) (n+3)):=by rw[<-n4];exact ar _ rfl
 have up:∀c o,g2.get? c=some o->(((g2.push (zt (.ref n) (.ref (n+1)))).push (zt .none .none)).push (zz (n+2) (n+3))).get? c=some o:=λc o e=>ae _ (ae _ (ae _ e));exact⟨⟨_,p5,rfl⟩,h _ p5 (ae _ (ae _ p3)) (ae _ p4) (.of ⟨_,up _ _ t1,rfl,rfl⟩) (.of ⟨_,up _ _ t2,rfl,rfl⟩) (by rw[Heap.size_push,n4]) λc o e=>up c o (k2 c o e)⟩
end
end L2
namespace L2
open PySem PySem.Spec PyProof.Rows
theorem gH.turnedL{X:Cx}{fO:List (Addr×Obj)}{σ:St}{H:Hp}{s:Shared}{h':Heap}{t':Nat}{ch:List Addr}(I:gH X fO σ H s)(k:∀b o,b∉ch->s.heap.get? b=some o->h'.get? b=some o)(hf:∀b∈ch,sQ X fO H b) :
  gH X fO σ H {s with heap:=h',toks:=t'}:=by
 have nit:∀b u,H b=some u->b∉ch:=λb u e z=>by rw[(hf b z).1] at e;cases e
 refine I.step (g':=s.gens) (d':=s.drawn) (ch:=ch) (λb hb=>let ⟨_,f1,_,f3,f4,f5⟩:=hf b hb;⟨f3,f1,f4,f5⟩) (λb o _ _ hc e _=>k b o hc e) (λb o _ _ hc e _=>⟨o.slots,k b o hc e⟩) (λ_ _ _ _ n=>n)
  (λb o hc e=>⟨o,k b o hc e⟩) (λ_ _ e=>e) (λ_ _ _ e=>e) (λb ps e=>⟨#[],by rw[e];simp⟩) (λm hm=>?_) (λb u e=>?_) I.bare
 ·obtain⟨o,es,ep,ho,r⟩:=hm;exact⟨o,es,ep,k _ o (λz=>(hf _ z).2.1 rfl) ho,r⟩
 ·refine (I.hok b u e).stay (λc v hc q=>k c v ?_ q) (λ_ q=>q) λ_ _ q=>q;rcases hc with z | z
  ·rw[z];exact nit b u e
  ·exact nit c _ z
def vm(K:W.Frag)(H:Hp)(b:Bool)(a:Addr)(xs:List V):Prop:=if b=true then mB K H a xs else k9 K H a xs
theorem gH.seqB{X:Cx}{fO:List (Addr×Obj)}{σ:St}{H:Hp}{s:Shared}{b:Bool}{a:Addr}{xs:List V}(I:gH X fO σ H s)(h:vm X.K H b a xs):∃its:List Value,ib xs its/\iW b s.heap a its.toArray/\xs.length<=sizeLine:=by
 cases b with
 | true=>obtain⟨its,r,p,z⟩:=I.tuple (show mB X.K H a xs from h);exact⟨its,r,p,z⟩
 | false=>obtain⟨its,r,p,z⟩:=I.list (show k9 X.K H a xs from h);exact⟨its,r,p.isList,z⟩
theorem gH.seqB_inj{X:Cx}{fO:List (Addr×Obj)}{σ:St}{H:Hp}{s:Shared}{b:Bool}{a:Addr}{xs ys:List V}(I:gH X fO σ H s)(h:vm X.K H b a xs)(h':vm X.K H b a ys):xs=ys:=by
 cases b with
 | true=>exact I.tuple_inj h h'
 | false=>exact I.list_inj h h'
def RB(K:W.Frag)(b1 b2:Bool)(l1 l2:Addr):It:=
  ⟨λi H=>∃xs ys x y,vm K H b1 l1 xs/\vm K H b2 l2 ys/\xs[i]? = some x/\ys[i]? = some y,
   λi H v H'=>∃p x y,v=.ref p/\H p=none/\H'=jx H p (.tup [x,y])/\(∀xs,vm K H b1 l1 xs->xs[i]? = some x)/\∀ys,vm K H b2 l2 ys->ys[i]? = some y,
   λi H=>∃xs ys,vm K H b1 l1 xs/\vm K H b2 l2 ys/\(xs.length<=i\/ys.length<=i)⟩
theorem Jh{P:Program}{w:World}{K:W.Frag}{elts:List Expr}{x1}{pos:Pos}{b1 b2:Bool}{z TI TO i1 i2 l1 l2:Addr}(D:ZipApart z TI TO i1 i2 l1 l2) :
  BG P w K (.Tuple elts x1 pos) (RB K b1 b2 l1 l2) [z,TI,TO,i1,i2] z (λi h=>IsZip h z TI TO .none/\IsPair h TI (.ref i1) (.ref i2)/\(∃a b,IsPair h TO a b)/\kj b1 h i1 l1 i/\kj b2 h i2 l2 i) where
 mem:=by simp
 obj:=λi h st b hb=>by
  obtain⟨hz,hTI,⟨a,c,hTO⟩,h1,h2⟩:=st;have mem:b=z\/b=TI\/b=TO\/b=i1\/b=i2:=by simpa using hb
  rcases mem with rfl | rfl | rfl | rfl | rfl
  ·exact⟨_,hz,λv q=>by cases q⟩
  ·exact⟨_,hTI,λv q=>by cases q⟩
  ·exact⟨_,hTO,λv q=>by cases q⟩
  ·obtain⟨o,e,_,d⟩:=h1.look;exact⟨o,e,λv q=>by rw[d] at q;cases q⟩
  ·obtain⟨o,e,_,d⟩:=h2.look;exact⟨o,e,λv q=>by rw[d] at q;cases q⟩
 keep:=λi h h' st k=>by obtain⟨hz,hTI,⟨a,c,hTO⟩,h1,h2⟩:=st;exact⟨k z (by simp) _ hz,k TI (by simp) _ hTI,⟨a,c,k TO (by simp) _ hTO⟩,h1.to λo e=>k i1 (by simp) o e,h2.to λo e=>k i2 (by simp) o e⟩
 item:=by
  intro X hP hw hK hc i fO s σ H E I hf st hg;subst hP hw hK;obtain⟨hz,hTI,⟨a,c,hTO⟩,h1,h2⟩:=st;obtain⟨xs,ys,x,y,q1,q2,e1,e2⟩:=hg;obtain⟨us,r1,p1,z1⟩:=I.seqB q1;obtain⟨vs,r2,p2,z2⟩:=I.seqB q2;obtain⟨u,gu,ru⟩:=r1.get e1;obtain⟨v,gv,rv⟩:=r2.get e2;have FT:=I.fpOk (b:=s.heap.objs.size) (aJ _) (I.hok.fresh (aJ _));refine B6 D hz hTI hTO h1 h2 p1 p2 (λu' v' h' gu' gv' a1 a2 a3 a4 a5 a6 hk=>?_) λq=>?_
  ·have eu:u'=u:=by
    have:us[i]? = some u':=by simpa using gu'
    rw[gu] at this;cases this;rfl
   have ev:v'=v:=by
    have:vs[i]? = some v':=by simpa using gv'
    rw[gv] at this;cases this;rfl
   subst eu;subst ev;refine⟨_,rfl,wpAny_letOwnedTupleGo_zip a1 λh'' hz'' sb=>?_⟩;have zT:s.heap.objs.size≠z:=bz (aK hz);have I1:gH X fO σ H {s with heap:=h''}:=I.turnedL (t':=s.toks) (ch:=[z,TO,i1,i2]) (λb o hb e=>sb.extBut _ _ (λq=>hb (by simp[q])) (hk b o (λq=>hb (by simp[q])) (λq=>hb (by simp[q])) (λq=>hb (by simp[q])) (λq=>hb (by simp[q])) e))
    (λb hb=>hf b (by
     have mem:b=z\/b=TO\/b=i1\/b=i2:=by simpa using hb
     rcases mem with rfl | rfl | rfl | rfl<;>simp))
   have gT:h''.get? s.heap.objs.size=some {cls:=.type "tuple",data:=.seq #[u',v']}:=sb.extBut _ _ zT a5;have I2:gH X fO σ (jx H s.heap.objs.size (.tup [x,y])) {s with heap:=h''}:=I1.track FT.1 FT.2.2.2.1 FT.2.1 FT.2.2.2.2.1 FT.2.2.2.2.2
    ⟨by show 2<=sizeLine;decide,[u',v'],.cons ru (.cons rv .nil),⟨_,gT,rfl,_,rfl⟩⟩
   have lt:∀{b o},s.heap.get? b=some o->jx H s.heap.objs.size (.tup [x,y]) b=H b:=λ{b o} e=>gA (aL (aK e));refine⟨.ref s.heap.objs.size,_,I2,rfl,⟨_,x,y,rfl,FT.1,rfl,λxs' h=>by rw[I.seqB_inj h q1];exact e1,λys' h=>by rw[I.seqB_inj h q2];exact e2⟩,?_,λb hb=>?_⟩
   ·have k2:∀c o,c≠z->h'.get? c=some o->h''.get? c=some o:=λc o c1 e=>sb.extBut _ _ c1 e;exact⟨hz'',k2 _ _ D.TIz (hk _ _ D.TIz D.TITO D.TIi1 D.TIi2 hTI),⟨_,_,k2 _ _ D.TOz a2⟩,a3.to λo e=>k2 _ o D.i1z e,a4.to λo e=>k2 _ o D.i2z e⟩
   ·have mem:b=z\/b=TI\/b=TO\/b=i1\/b=i2:=by simpa using hb
    have hn:=(hf b hb).1;obtain⟨o1,g1,_⟩:=h1.look;obtain⟨o2,g2,_⟩:=h2.look;rcases mem with rfl | rfl | rfl | rfl | rfl
    ·rw[lt hz];exact hn
    ·rw[lt hTI];exact hn
    ·rw[lt hTO];exact hn
    ·rw[lt g1];exact hn
    ·rw[lt g2];exact hn
  ·exfalso;have m1:us.toArray[i]? = some u:=by simpa using gu
   have m2:vs.toArray[i]? = some v:=by simpa using gv
   rcases q with q | q
   ·rw[m1] at q;cases q
   ·rw[m2] at q;cases q
 done:=by
  intro X hP hw hK hc i fO s σ H E I hf st hg;subst hP hw hK;obtain⟨hz,hTI,⟨a,c,hTO⟩,h1,h2⟩:=st;obtain⟨xs,ys,q1,q2,hl⟩:=hg;obtain⟨us,r1,p1,z1⟩:=I.seqB q1;obtain⟨vs,r2,p2,z2⟩:=I.seqB q2;have n1:=r1.length;have n2:=r2.length;have fpc:∀b∈[z,TO,i1,i2],sQ X fO H b:=λb hb=>hf b (by
   have mem:b=z\/b=TO\/b=i1\/b=i2:=by simpa using hb
   rcases mem with rfl | rfl | rfl | rfl<;>simp)
  refine B6 D hz hTI hTO h1 h2 p1 p2 (λu' v' h' gu' gv' a1 a2 a3 a4 a5 a6 hk=>?_) λq=>⟨I.ok.hd hc,λh' hk=>⟨rfl,I.turnedL (t':=s.toks) (ch:=[z,TO,i1,i2]) (λb o hb e=>hk b o (λq=>hb (by simp[q])) (λq=>hb (by simp[q])) (λq=>hb (by simp[q])) (λq=>hb (by simp[q])) e) fpc⟩⟩;exfalso;have m1:i<us.length:=by
   have:us[i]? = some u':=by simpa using gu'
   exact (aa.mp this).1
  have m2:i<vs.length:=by
   have:vs[i]? = some v':=by simpa using gv'
   exact (aa.mp this).1
  omega
 self:=λ_ _ _ _ _ st h=>wpAny_pyIter_zip st.1 h
theorem Pk:bootBuiltins "zip" = some (.type "zip"):=by decide +kernel
section
variable {X:Cx}
def Pj(K:W.Frag)(b1 b2:Bool)(ta:TA):TI:=λσ H R=>ta σ H λvs H1=>∃l1 l2,vs=[.ref l1,.ref l2]/\(∃xs,vm K H1 b1 l1 xs)/\(∃ys,vm K H1 b2 l2 ys)/\R (RB K b1 b2 l1 l2) H1
theorem Nr{b1 b2:Bool}{elts:List Expr}{x1}{tpos:Pos}{a b:Expr}{ta:TA}{p pos:Pos}(hg:Gl X "zip")(hm:X.mg "zip" = none)(ha:PA X [a,b] ta)(hs:starEach [a,b] X.env=[(false,eval a X.env),(false,eval b X.env)]:=by rfl)
  (hs2:starEach [b] X.env=[(false,eval b X.env)]:=by rfl):PI X (.Tuple elts x1 tpos) (.Call (.Name "zip" p) [a,b] [] pos) (Pj X.K b1 b2 ta):=by
 intro fO s σ H R I h;refine Call_ (pG I hg hm Pk (PyProof.Rows.callWith_type1 (jN (ha pos fO s σ H _ I h) λus s1 ⟨vs,H1,I1,r1,q1⟩=>?_) (by rw[hs,hs2]) (by rw[hs2];rfl)));obtain⟨l1,l2,rfl,⟨xs,q1⟩,⟨ys,q2⟩,q⟩:=q1;obtain⟨u1,u2,rfl,e1,e2⟩:=MV r1;cases e1;cases e2;obtain⟨us,rv1,p1,_⟩:=I1.seqB q1;obtain⟨ws,rv2,p2,_⟩:=I1.seqB q2;have lt1:l1<s1.heap.objs.size:=by obtain⟨o,n,e,_⟩:=p1.look;exact aK e
 have lt2:l2<s1.heap.objs.size:=by obtain⟨o,n,e,_⟩:=p2.look;exact aK e
 refine JZ p1 p2 λh' hz hTI hTO i1 i2 hsz hk=>?_;refine wpAny_pyIter_zip hz ?_;refine⟨_,_,_,_,H1,rfl,I1.kept (t':=s1.toks) hk,Jh (zipApart_new lt1 lt2),⟨hz,hTI,⟨_,_,hTO⟩,i1,i2⟩,λb hb=>?_,q⟩;have mem:b=s1.heap.objs.size+4\/b=s1.heap.objs.size+2\/b=s1.heap.objs.size+3\/b=s1.heap.objs.size\/b=s1.heap.objs.size+1:=by simpa using hb
 have ge:s1.heap.objs.size<=b:=by rcases mem with rfl | rfl | rfl | rfl | rfl<;>omega
 exact I1.fpOk ge (I1.hok.fresh ge)
end
end L2
namespace L2
open PySem PySem.Spec PyProof.Rows
theorem nF{H:Hp}{p:Addr}{o:HO}(h:H p=none):gU H (jx H p o):=λb u e=>by rw[gA (hC e h)];exact e
theorem gU.seqT{K:W.Frag}{H H':Hp}{a:Addr}{xs:List V}(e:gU H H')(h:mB K H a xs):mB K H' a xs:=by
 rcases h with (h | ⟨o,h⟩) | h
 ·exact .inl (.inl (e _ _ h))
 ·exact .inl (.inr ⟨o,e _ _ h⟩)
 ·exact .inr h
def I0(N0:List Str)(sc0 scope:Scope)(N:List Str)(ix:List (Option Nat)):Bool:=
 scope.kind == .function&&scope.names.all (λy=>!(y.2 == NameKind.cell)||scope.names.lookup y.1 == some .cell)&&scope.names.all (λy=>!(y.2 == NameKind.local)||scope.names.lookup y.1 == some .local) &&
 scope.names.all (λy=>!(y.2 == NameKind.free)||sc0.names.lookup y.1 == some .cell)&&N.length == ix.length &&
 (List.range N.length).all (λi=>match ix[i]?,N[i]? with
  | some (some j),some x=>N0[j]? == some x&&scope.names.lookup x == some .free&&sc0.names.lookup x == some .cell
  | _,_=>true)
theorem jZ{X:Cx}{scope:Scope}{N:List Str}{ix:List (Option Nat)}(hX:∀x,X.env.scope.names.lookup x=some .cell->∃c,X.env.cells.lookup x=some c)(h:I0 X.N X.env.scope scope N ix=true):Be X scope N ix:=by
 unfold I0 at h;simp only[bS] at h;obtain⟨⟨⟨⟨⟨h1,h2⟩,h3⟩,h4⟩,h5⟩,h6⟩:=h;refine⟨by simpa using h1,λy hy e=>?_,λy hy e=>?_,λy hy e=>?_,by simpa using h5,λi j x e1 e2=>?_⟩
 ·have:=cy.mp h2 y hy;rw[e] at this;simpa using this
 ·have:=cy.mp h3 y hy;rw[e] at this;simpa using this
 ·have:=cy.mp h4 y hy;rw[e] at this;exact hX _ (by simpa using this)
 ·have hi:i<N.length:=(aa.mp e1).1;have:=cy.mp h6 i (aR.mpr hi);rw[e1,e2] at this;simp only[bS,beq_iff_eq] at this;obtain⟨⟨a,b⟩,c⟩:=this;exact⟨a,b,.inr (.inl c),λz=>by have z':X.env.scope.names.lookup x=some .local:=z;rw[c] at z';cases z'⟩
theorem Ds{X:Cx}{scope:Scope}{N:List Str}{ix:List (Option Nat)}{C:Addr}{s₃:Shared}{H:Hp}{ex:List Addr}{pn:List (Addr×Obj)}(L:Be X scope N ix):∀x,(oK X N scope C s₃ H ex pn).env.scope.names.lookup x=some .cell->∃c,(oK X N scope C s₃ H ex pn).env.cells.lookup x=some c:=λx hx=>by
 refine bL.mp (W.cellsFrom_some _ _ _ ?_);rcases sj (.inl hx) with hm | hm
 ·exact .inr (bL.mpr (oR hm (L.fre _ hm rfl)))
 ·exact .inl hm
theorem jP{K:W.Frag}{ix:List (Option Nat)}{k l:Nat}(hk:ix[k]? = some none)(hl:ix[l]? = some none):rH ix (GH K 2 (xA (kK k) (xA (kK l) FU))):=by
 rintro x σ1 H Q ⟨a,xs,e1,hq,hn,v,r,e2,v',r',e3,e4,q⟩;refine⟨a,xs,e1,hq,hn,v,r,e2,v',r',e3,e4,λi j e=>?_,q⟩;have n1:k≠i:=by rintro rfl;rw[hk] at e;cases e
 have n2:l≠i:=by rintro rfl;rw[hl] at e;cases e
 rw[aq n2,aq n1]
section
variable {ix:List (Option Nat)}{g:TG}{tt:TT}{te:TE}{σ:St}{Q:VK}{H1:Hp}{J:It}
end
section
variable {ix:List (Option Nat)}{g:TG}{te:TE}{σ:St}{Q:VK}{H1:Hp}{K:W.Frag}
end
end L2
namespace L2
open PySem PySem.Spec PyProof.Rows
section
variable {X:Cx}
end
end L2
namespace L2
open PySem PySem.Spec PyProof.Rows
section
variable {X:Cx}{K:W.Frag}
end
end L2
namespace L2
open PySem PySem.Spec PyProof.Rows
structure mw(K:W.Frag)(C:Addr)(m qual:Str)(st:Stmt):Prop where
 ex:∃f fd,Kn K m qual st f fd/\KU K C m f
structure lC(P:Program)(w:World)(K:W.Frag)(mg:Str->Option Value)(base:Heap)(C:Addr)(m:Str)(k:Nat)(sp:Sp):Prop where
 cl:Ba K C
 ex:∃f fd ps,nT P w K mg base Ay k f fd ps sp/\KU K C m f/\qo K fd ps []
theorem lC.mono{P:Program}{w:World}{K:W.Frag}{mg:Str->Option Value}{base:Heap}{C:Addr}{x:Str}{j k:Nat}{sp:Sp}(h:lC P w K mg base C x j sp)(hk:j<=k):lC P w K mg base C x k sp:=
 let ⟨f,fd,ps,F,a,b⟩:=h.ex
 ⟨h.cl,f,fd,ps,F.mono hk,a,b⟩
theorem EG{P:Program}{w:World}{K:W.Frag}{mg:Str->Option Value}{base:Heap}{C:Addr}{m qual:Str}{st:Stmt}{N ps:List Str}{k:Nat}{sp:Sp}(cl:Ba K C)(D:mw K C m qual st)(S:f7 N ps (fU st))
  (hb:∀(kV doc pm:Value) (an:Option Addr) (cdv ct:Value) (us:List Value),us.length=ps.length->bindArgs (W.fnOf m qual (jQ st) (iP st) (fU st) .none kV doc pm an cdv ct) ⟨us,[]⟩=pure (ps.zip us))
  (len:∀vs H Q E,sp vs H Q E->vs.length=ps.length)
  (hbody:∀(f:Addr) (cdv:Value) (A:Around) (outer:List Env) (s:Shared) (H:Hp) (vs:List V) (Q:VK) (E:XK),ju k (A.deeper (envOfC qual (fU st) s.heap.objs.size f cdv))->sp vs H Q E->
   ∃t,B8 (sC Ay P w K mg base N qual (fU st) f cdv A outer s H E).nox (iP st) t/\t {nx:=λ_ H'=>Q .non H',rt:=Q} (mW N vs) H):lC P w K mg base C m (k+1) sp:=by
 obtain⟨f,fd,F,m⟩:=D.ex;exact⟨cl,f,fd,ps,F.ok S len (hbody f),m,F.binds hb⟩
structure Bo(P:Program)(w:World)(K:W.Frag)(mg:Str->Option Value)(base:Heap)(x:Str)(C:Addr)(k:Nat)(sp:Sp):Prop where
 ex:∃f fd ps,nT P w K mg base Ay k f fd ps sp/\Mk K C f/\qo K fd ps []
 mgx:mg x=some (.ref C)
theorem Bo.mono{P:Program}{w:World}{K:W.Frag}{mg:Str->Option Value}{base:Heap}{C:Addr}{x:Str}{j k:Nat}{sp:Sp}(h:Bo P w K mg base x C j sp)(hk:j<=k):Bo P w K mg base x C k sp:=
 let ⟨f,fd,ps,F,a,b⟩:=h.ex
 ⟨⟨f,fd,ps,F.mono hk,a,b⟩,h.mgx⟩
section
variable {X:Cx}{x m:Str}{C:Addr}{k:Nat}{sp:Sp}{e o:Expr}{es:List Expr}{t:TA}{ta:TE}{p pos apos:Pos}
theorem Qm(h:Bo X.prog X.w X.K X.mg X.base x C k sp)(hr:ju (k+1) X.A)(ha:PA X (e::es) t)(hg:Gl X x:=by rfl)
  (hdb:(x == ("__debug__" : Str))=false:=by decide) (he:starEach (e::es) X.env=(false,eval e X.env)::starEach es X.env:=by rfl) (hpl:(backTo pos (starEach es X.env)).any (·.1)=false:=by rfl) :
  PE X (.Call (.Name x p) (e::es) [] pos) (EM C sp [] E0 t):=by
 obtain⟨f,fd,ps,F,a,b⟩:=h.ex;exact Lu a F hr hg h.mgx b .nil JY ha hdb he hpl
theorem Iu{pl:Sem Bool}(h:lC X.prog X.w X.K X.mg X.base C m k sp)(hr:ju k X.A)(ho:PE X o ta)
  (ht:eval (.Call (.Attribute o m apos) [] [] pos) X.env=(do
   let ov <-eval o X.env
   standAt apos.atName
   let (f,first) <-holding [ov] (getMethod ov m pl)
   callWith pos f first (backTo pos (starEach [] X.env)) (backToKw pos (keywordEach [] X.env))):=by rfl) :
  PE X (.Call (.Attribute o m apos) [] [] pos) (yO C m sp [] E0 ta uT):=by
 obtain⟨f,fd,ps,F,a,b⟩:=h.ex;exact IY ho h.cl a F hr b .nil JY ht
end
end L2
namespace L2
end L2
namespace L2
end L2
namespace L2
end L2
namespace L2
open PySem PySem.Spec PyProof.Rows
theorem JQ{X:Cx}{tg elt iter:Expr}{ifs:List Expr}{scope:Scope}{pos spos py:Pos}{N:List Str}{ix:List (Option Nat)}{wi:TI}{g:TG}{tt:TT}{te:TE}{i:Nat}{y:Str}(hN:X.N.Nodup)(hy:X.N[i]? = some y)(hx:G8 X.env.scope y)
  (hc:X.calm=true) (hi:PI X tg iter wi) (L:Be X scope N ix) (hgk:rH ix g)
  (blk:∀C s₃ H ex pn,PG (oK X N scope C s₃ H ex pn) tg g/\Ft (oK X N scope C s₃ H ex pn) ifs tt/\PE (oK X N scope C s₃ H ex pn) elt te)
  (hf:X.fn y=true\/X.env.scope.names.lookup y=some .local:=by first | exact .inl rfl | exact .inr rfl)
  (hsw:swapsWith (.ListComp elt [⟨tg,iter,ifs,0⟩] scope pos) (some (.Name y py)) spos.line X.env=pure true:=by rfl)
  (hs:∀x,foldedSetIterable iter X.env x=pure x:=by intro _;rfl):PS X (.Assign [.Name y py] (.ListComp elt [⟨tg,iter,ifs,0⟩] scope pos) spos) (o5 (NT ix wi g tt te) (kK i)):=by
 intro fO s σ H D I h;rw[exec_Assign_Name_used _ _ _ _ hsw];refine ao (wpAny_standAt (ao ?_));rw[arm_evalThenUse_ListComp];refine ao (jN (wpAny_comprehension_free (use:=some (assign (.Name y py) X.env)) (Q:=λ_ s'=>SP X fO D .next s') rfl hs (qZ L.fre) L.kind L.names (jN (hi fO s σ H _ I h) λv s1 h1=>jN h1 λitv s2 h2=>?_)) λ_ s' q=>ak (ak q));obtain⟨it,fp,tn,J,H2,e,I2,T,st2,f2,W,⟨m0,w0⟩,turn⟩:=h2;subst e;refine EK (Q:=λx H1=>kK i x σ H1 D.nx) (RR:=λacc C=>compPost (model X.prog X.w) X.A X.xe (some (assign (.Name y py) X.env)) (λ_ s'=>SP X fO D .next s') acc C) hc L hgk blk I2 T st2 f2 w0 turn λE0 C m H' s' hn f I' q=>?_;refine wpAny_assign_Name (zh (v:=.ref E0) I' hN hy hx rfl (λs3 I3 hch=>?_) hf);obtain⟨a,sb,ha⟩:=hch;have ne:C≠a:=by
  rcases ha with z | z
  ·rw[z];exact f.2.1
  ·exact λw=>f.2.2.2.2.1 y a z w.symm
 exact⟨m,hn.sameBut sb ne,λh' sb'=>⟨_,H',I3.turned (t':=s3.toks) (λb o hb e=>sb'.extBut b o hb e) f.1 f.2.1 f.2.2.2.1 f.2.2.2.2.1 f.2.2.2.2.2,q⟩⟩
end L2
namespace L2
open PySem PySem.Spec PyProof.Rows
section
variable {κ:Type}[DecidableEq κ]
def DH(kvs:List (κ×V))(k:κ):Option V:=(kvs.find? λkv=>decide (kv.1=k)).map (·.2)
def tZ(kvs:List (κ×V))(k:κ)(v:V):List (κ×V):=if (kvs.any λkv=>decide (kv.1=k))=true then kvs.map (λkv=>if kv.1=k then (kv.1,v) else kv) else kvs++[(k,v)]
theorem Ce{p:κ×V}{r:List (κ×V)}{k:κ}(e:p.1=k):DH (p::r) k=some p.2:=by simp[DH,List.find?_cons,e]
theorem BK{p:κ×V}{r:List (κ×V)}{k:κ}(e:¬p.1=k):DH (p::r) k=DH r k:=by simp[DH,List.find?_cons,e]
theorem BU(k:κ):∀kvs:List (κ×V),(kvs.any λkv=>decide (kv.1=k))=(DH kvs k).isSome
 | []=>rfl
 | p::r=>by
  rw[bV];by_cases e:p.1=k
  ·simp only[Ce e,aB e,Bool.true_or,ck]
  ·rw[BK e,aA e,Bool.false_or];exact BU k r
theorem uw(kvs:List (κ×V))(k:κ)(v:V):(tZ kvs k v).length<=kvs.length+1:=by
 unfold tZ;split
 ·rw[aw];omega
 ·rw[aS,ay,cA];omega
theorem tV.isSome_eq{o:Option V}{u:Option Value}(r:tV o u):o.isSome=u.isSome:=by
 cases o with
 | none=>cases u with
  | none=>rfl
  | some _=>exact (show False from r).elim
 | some _=>cases u with
  | none=>exact (show False from r).elim
  | some _=>rfl
theorem KV.any{kvs:List (κ×V)}{vs:List (κ×Value)}(r:KV kvs vs)(k:κ):(kvs.any λkv=>decide (kv.1=k))=vs.any λkv=>decide (kv.1=k):=by
 unfold KV at r;induction r with
 | nil=>rfl
 | cons h t ih=>rw[bV,bV,ih,h.1]
theorem KV.repl{kvs:List (κ×V)}{vs:List (κ×Value)}(r:KV kvs vs)(k:κ){y:V}{u:Value}(ry:iL y u) :
  KV (kvs.map λkv=>if kv.1=k then (kv.1,y) else kv) (vs.map λkv=>if kv.1=k then (kv.1,u) else kv):=by
 unfold KV at r ⊢;induction r with
 | nil=>exact .nil
 | @cons p q ps qs h t ih=>
  rw[bF,bF];refine .cons ?_ ih;obtain⟨h1,h2⟩:=h;by_cases e:p.1=k
  ·rw[aP e,aP (h1.symm.trans e)];exact⟨h1,ry⟩
  ·rw[aQ e,aQ (λz=>e (h1.trans z))];exact⟨h1,h2⟩
theorem KV.put{kvs:List (κ×V)}{vs:List (κ×Value)}(r:KV kvs vs)(k:κ){y:V}{u:Value}(ry:iL y u):KV (tZ kvs k y) (stored vs k u):=by
 unfold tZ stored;rw[r.any k];by_cases e:(vs.any λkv=>decide (kv.1=k))=true
 ·rw[aP e,aP e];exact r.repl k ry
 ·rw[aQ e,aQ e];exact Paired.snoc r ⟨rfl,ry⟩
theorem KV.length{kvs:List (κ×V)}{vs:List (κ×Value)}(r:KV kvs vs):kvs.length=vs.length:=Paired.length r
end
theorem MZ{P:Program}{w:World}{k:mE}{u:Value}(r:iL (kV k) u):(kP P w).is k u=true:=by
 cases k with
 | inl i=>obtain⟨t,e⟩:=(show ∃t,u=Value.int i t from r);subst e;exact A6 P w i t
 | inr x=>obtain⟨t,e⟩:=(show ∃t,u=Value.str x t from r);subst e;exact A0 P w x t
theorem yC{P:Program}{w:World}:∀{ks:List mE} {us:List Value},ib (ks.map kV) us->ItemsAre (kP P w) ks us
 | [],_,r=>by rw[b6] at r;cases r;exact .nil
 | k::ks,_,r=>by
  rw[bF] at r;cases r with
  | cons h t=>exact .cons (MZ h) (yC t)
abbrev KT(H:Hp):List (List mE×V)->List (List mE×Addr×Value)->Prop:=Paired λp q=>p.1=q.1/\H q.2.1=some (.tup (p.1.map kV))/\iL p.2 q.2.2
theorem KT.val{H:Hp}{kvs:List (List mE×V)}{xs:List (List mE×Addr×Value)}(r:KT H kvs xs)(k:List mE):tV (DH kvs k) ((atKey xs k).map (·.2)):=by
 induction r with
 | nil=>exact True.intro
 | @cons p q ps qs h t ih=>
  obtain⟨h1,_,h2⟩:=h;by_cases e:p.1=k
  ·have e':q.1=k:=h1.symm.trans e;have b:atKey (q::qs) k=some q.2:=by simp[atKey,List.find?_cons,e']
   rw[Ce e,b];exact h2
  ·have e':¬q.1=k:=λz=>e (h1.trans z);have b:atKey (q::qs) k=atKey qs k:=by simp[atKey,List.find?_cons,e']
   rw[BK e,b];exact ih
theorem KT.repl{H:Hp}{kvs:List (List mE×V)}{xs:List (List mE×Addr×Value)}(r:KT H kvs xs)(k:List mE){y:V}{u:Value}(ry:iL y u) :
  KT H (kvs.map λkv=>if kv.1=k then (kv.1,y) else kv) (xs.map (putAt k u)):=by
 induction r with
 | nil=>exact .nil
 | @cons p q ps qs h t ih=>
  rw[bF,bF];refine .cons ?_ ih;obtain⟨h1,h2,h3⟩:=h;unfold putAt;by_cases e:p.1=k
  ·rw[aP e,aP (h1.symm.trans e)];exact⟨h1,h2,ry⟩
  ·rw[aQ e,aQ (λz=>e (h1.trans z))];exact⟨h1,h2,h3⟩
theorem KT.put{H:Hp}{kvs:List (List mE×V)}{xs:List (List mE×Addr×Value)}(r:KT H kvs xs)(k:List mE){b:Addr}{y:V}{u:Value}(hb:H b=some (.tup (k.map kV)))(ry:iL y u) :
  KT H (tZ kvs k y) (storedH xs k b u):=by
 have e:(kvs.any λkv=>decide (kv.1=k))=(atKey xs k).isSome:=by rw[BU,(r.val k).isSome_eq,Option.isSome_map]
 unfold tZ storedH;rw[e];by_cases q:(atKey xs k).isSome=true
 ·rw[aP q,aP q];exact r.repl k ry
 ·rw[aQ q,aQ q];exact Paired.snoc r ⟨rfl,hb,ry⟩
theorem KT.keeps{H H':Hp}{kvs:List (List mE×V)}{xs:List (List mE×Addr×Value)}(r:KT H kvs xs)(ht:∀b ys,H b=some (.tup ys)->H' b=some (.tup ys)):KT H' kvs xs:=Paired.mapP r λ_ _ z=>⟨z.1,ht _ _ z.2.1,z.2.2⟩
section
variable {P:Program}{w:World}{H:Hp}{h:Heap}{a:Addr}
theorem MD{u:HO}(ok:qO P w H h)(e:Rd H a u):jw P w H h a u:=e.ok ok
theorem QZ{kvs:List (mE×V)}(ok:qO P w H h)(e:Rd H a (.dK kvs)):kvs.length<=sizeLine/\(a == sysModules)=false/\∃vs,KV kvs vs/\h.DictOf (kP P w) a vs:=show jw P w H h a (.dK kvs) from MD ok e
theorem QW{kvs:List (mE×V)}(ok:qO P w H h)(e:H a=some (.dK kvs)):kvs.length<=sizeLine/\(a == sysModules)=false/\∃vs,KV kvs vs/\h.DictOf (kP P w) a vs:=QZ ok (.inl e)
theorem J4{ks:List mE}(ok:qO P w H h)(e:H a=some (.tup (ks.map kV))):(tupleKind (kP P w)).is h ks a:=by obtain⟨_,its,r,o,h1,h2,n,h3⟩:=(show jw P w H h a (.tup (ks.map kV)) from ok a _ e);exact⟨o,its.toArray,n,h1,h2,h3,by simpa using yC r⟩
theorem Q4{kvs:List (List mE×V)}(ok:qO P w H h)(e:Rd H a (.dT kvs)):kvs.length<=sizeLine/\(a == sysModules)=false/\
  ∃xs,KT H kvs xs/\h.DictOfH (tupleKind (kP P w)) a xs:=by
 obtain⟨z,y,xs,r,o,es,ep,h1,h2,h3,h4,h5⟩:=(show jw P w H h a (.dT kvs) from MD ok e);refine⟨z,y,xs,r,o,es,ep,h1,h2,h3,h4,λx hx=>?_,h5⟩;have all:∀{l:List (List mE×V)} {m:List (List mE×Addr×Value)},KT H l m->∀x∈m,(tupleKind (kP P w)).is h x.1 x.2.1:=by
  intro l m q;induction q with
  | nil=>intro x hx;exact nomatch hx
  | @cons p q ps qs hq t ih=>
   intro x hx;rcases aE.mp hx with e | hx
   ·subst e;exact J4 ok (by rw[<-hq.1];exact hq.2.1)
   ·exact ih x hx
 exact all r x hx
theorem PY{kvs:List (List mE×V)}(ok:qO P w H h)(e:H a=some (.dT kvs)):kvs.length<=sizeLine/\(a == sysModules)=false/\
  ∃xs,KT H kvs xs/\h.DictOfH (tupleKind (kP P w)) a xs:=Q4 ok (.inl e)
end
def Jp(H:Hp)(a:Addr)(y v:V)(H':Hp):Prop:=
 (∃kvs k,H a=some (.dK kvs)/\y=kV k/\kvs.length<sizeLine/\H'=jx H a (.dK (tZ kvs k v)))\/
 ∃kvs k b,H a=some (.dT kvs)/\y=.ref b/\H b=some (.tup (k.map kV))/\kvs.length<sizeLine/\H'=jx H a (.dT (tZ kvs k v))
theorem Jp.t{H:Hp}{a b:Addr}{kvs:List (List mE×V)}{k:List mE}{v:V}(e:H a=some (.dT kvs))(eb:H b=some (.tup (k.map kV)))(hl:kvs.length<sizeLine) :
  Jp H a (.ref b) v (jx H a (.dT (tZ kvs k v))):=.inr ⟨kvs,k,b,e,rfl,eb,hl,rfl⟩
section
variable {X:Cx}{fO:List (Addr×Obj)}{σ:St}{H:Hp}{s:Shared}{a:Addr}{y v:V}{u r:Value}{o:Option V}{A:Around}{E:Value->Shared->Prop}
theorem gH.big(I:gH X fO σ H s):sysModules<s.heap.objs.size:=by have h:mainGlobals<s.heap.objs.size:=(I.mod.glob.keeps I.bk).lt;exact Nat.lt_trans (by decide) h
theorem E8{h':Heap}{t':Nat}{ob:HO}(I:gH X fO σ H s)(mu:QY (H a))(hs:Heap.SameBut a s.heap h')(he:∃q,h'.get? a=some q)(new:jw X.prog X.w (jx H a ob) h' a ob) :
  gH X fO σ (jx H a ob) {s with heap:=h',toks:=t'}:=
 I.write (x:=a) (e:=a) mu (.inl rfl) (λb q hb z=>(hs.2 b hb).trans z) he new
theorem Nc{P:Program}{w:World}{H':Hp}{h':Heap}{kvs:List (mE×V)}{vs:List (mE×Value)}(z:kvs.length<=sizeLine)(hd:(a == sysModules)=false)(rel:KV kvs vs)(dd:h'.DictOf (kP P w) a vs) :
  jw P w H' h' a (.dK kvs):=⟨z,hd,vs,rel,dd⟩
theorem Gw{H':Hp}{Q:Unit->Shared->Prop}(hu:A.units+1<cLine)(I:gH X fO σ H s)(g:Jp H a y v H')(ry:iL y u)(rv:iL v r)(h:∀s',gH X fO σ H' s'->Q () s') :
  wpAny (model X.prog X.w) A (setItem (.ref a) u r) Q E s:=by
 rcases g with⟨kvs,k,e,ey,l,eH⟩ | ⟨kvs,k,b,e,ey,eb,l,eH⟩
 ·subst ey eH;obtain⟨z,hd,vs,rel,dd⟩:=QW I.hok e;have hz:vs.length<=sizeLine:=by rw[<-rel.length];exact z
  have hl:(tZ kvs k v).length<=sizeLine:=by have:=uw kvs k v;omega
  refine wpAny_setItem_pairs (hsz:=hz) (MZ ry) dd λh' dd' hs=>h _ ?_;have he:∃q,h'.get? a=some q:=let ⟨q,_,_,hq,_⟩:=dd';⟨q,hq⟩;exact E8 I (by rw[e];exact True.intro) hs he (Nc hl hd (rel.put k rv) dd')
 ·subst ey eH;cases (show u=Value.ref b from ry);obtain⟨z,hd,xs,rel,dd⟩:=PY I.hok e;have hz:xs.length<=sizeLine:=by rw[<-Paired.length rel];exact z
  have hl:(tZ kvs k v).length<=sizeLine:=by have:=uw kvs k v;omega
  refine wpAny_setItem_heap (hsz:=hz) (tupleKind_room_in1 hu) (J4 I.hok eb) dd λh' dd' hs=>h _ ?_;obtain⟨q,es,ep,hq,h2,h3,h4,_,h5⟩:=dd';refine E8 I (by rw[e];exact True.intro) hs ⟨q,hq⟩ ⟨hl,hd,_,(rel.put k eb rv).keeps λc ys ec=>?_,q,es,ep,hq,h2,h3,h4,h5⟩;rw[gA (Qi ec e (λz=>nomatch z))];exact ec
end
section
variable {X:Cx}{fO:List (Addr×Obj)}{σ:St}{H:Hp}{s:Shared}{a:Addr}{kvs:List (mE×V)}{k:mE}{u:Value}{A:Around}{E:Value->Shared->Prop}
end
def Ig(td ty tv:TE):TS:=λD σ H=>tv σ H λv H1=>td σ H1 λx H2=>ty σ H2 λy H3=>∃a H4,x=.ref a/\Jp H3 a y v H4/\D.nx σ H4
section
variable {X:Cx}{o i e value:Expr}{pos pos' tpos:Pos}{td ty tv:TE}
theorem Kk(hu:X.A.units+1<cLine)(ho:PE X o td)(hi:PE X i ty)(hv:PE X value tv)(hs:swapsWith value (some (.Subscript o i pos')) pos.line X.env=pure false) :
  PS X (.Assign [.Subscript o i pos'] value pos) (Ig td ty tv):=by
 intro fO s σ H D I h;refine wpAny_Assign_Subscript (jN (hv fO s σ H _ I h) λr s1 ⟨v,H1,I1,rv,q1⟩=>jN (ho fO s1 σ H1 _ I1 q1) λu s2 ⟨x,H2,I2,rx,q2⟩=>jN (hi fO s2 σ H2 _ I2 q2) λiv s3 ⟨y,H3,I3,ry,a,H4,ex,g,q3⟩=>?_) hs;subst ex;obtain rfl:u=Value.ref a:=rx;exact Gw hu I3 g ry rv λs4 I4=>⟨σ,H4,I4,q3⟩
end
theorem JW{P:Program}{w:World}{H:Hp}(h:Heap)(hb:sysModules<h.objs.size):jw P w H (h.push {cls:=.type "dict",data:=.dict #[]}) h.objs.size (.dT []):=⟨bH _,beq_eq_false_iff_ne.mpr (Ne.symm (aL hb)),[],.nil,_,#[],0,ar _ rfl,⟨rfl,rfl,rfl⟩,rfl,rfl,List.nodup_nil⟩
def CH:TE:=λ_ H Q=>∀p,H p=none->Q (.ref p) (jx H p (.dT []))
section
variable {X:Cx}{pos:Pos}
theorem Jb:PE X (.Dict [] [] pos) CH:=λfO s σ H Q I h=>wpAny_Dict_empty ⟨.ref s.heap.objs.size,_,I.laid (a:=s.heap.objs.size) (o:=.dT []) (t':=s.toks) (λ_ _ q=>ae _ q) (aJ _) (JW s.heap I.big),rfl,h _ (I.hok.fresh (aJ _))⟩
end
section
variable {X:Cx}{fO:List (Addr×Obj)}{σ:St}{H:Hp}{s:Shared}{a:Addr}{y d:V}{u r:Value}{o:Option V}{A:Around}{E:Value->Shared->Prop}
end
section
variable {X:Cx}{o e f:Expr}{apos cpos:Pos}{td ty tx:TE}
end
section
variable {X:Cx}{fO:List (Addr×Obj)}{σ:St}{H:Hp}{s:Shared}{a:Addr}{kvs:List (mE×V)}{A:Around}{E:Value->Shared->Prop}
end
section
variable {X:Cx}{fO:List (Addr×Obj)}{σ:St}{H:Hp}{s:Shared}{a:Addr}{y:V}{u:Value}{A:Around}{E:Value->Shared->Prop}
end
end L2
namespace L2
open PySem PySem.Spec PyProof.Rows Builtin
section
variable {X:Cx}
def Ci:V->Option Bool
 | .bl b=>some b
 | .int i=>some (i != 0)
 | _=>none
def mJ:List V->Option (List Bool)
 | []=>some []
 | v::vs=>(Ci v).bind λb=>(mJ vs).bind λr=>some (b::r)
theorem yq:∀{vs:List V} {bs:List Bool} {us:List Value} {i:Nat} {u:Value},mJ vs=some bs->ib vs us->us[i]? = some u->∃v,iL v u/\Ci v=some (bs.getD i false)
 | [],_,_,_,_,_,.nil,e=>by simp at e
 | v::vs,bs,_,i,u,h,.cons r t,e=>by
  cases hv:Ci v with
  | none=>simp[mJ,hv] at h
  | some b=>
   cases hr:mJ vs with
   | none=>simp[mJ,hv,hr] at h
   | some r'=>
    simp[mJ,hv,hr] at h;subst h;cases i with
    | zero=>simp at e;subst e;exact⟨v,r,by simpa using hv⟩
    | succ i=>obtain⟨v',a,b'⟩:=yq (i:=i) hr t (by simpa using e);exact⟨v',a,by simpa using b'⟩
theorem zg:∀{vs:List V} {bs:List Bool},mJ vs=some bs->vs.length=bs.length
 | [],_,h=>by cases h;rfl
 | v::vs,bs,h=>by
  cases hv:Ci v with
  | none=>simp[mJ,hv] at h
  | some b=>
   cases hr:mJ vs with
   | none=>simp[mJ,hv,hr] at h
   | some r'=>simp[mJ,hv,hr] at h;subst h;simp[zg hr]
theorem vX{prog:Program}{w:World}{A:Around}{vs:List V}{us:List Value}{bs:List Bool}(h:mJ vs=some bs)(r:ib vs us):TruthOf prog w A (λi v=>us.toArray[i]? = some v) (λi=>bs.getD i false):=λi u s Q E hP hQ=>by
 obtain⟨v,rv,tv⟩:=yq h r (by simpa using hP);dsimp only at hQ;cases v with
 | bl b=>
  cases rv;have:b=bs.getD i false:=by simpa[Ci] using tv
  rw[<-this] at hQ;exact wpAny_truthy_bool hQ
 | int n=>
  obtain⟨t,rfl⟩:=rv;have:(n != 0)=bs.getD i false:=by simpa[Ci] using tv
  rw[<-this] at hQ;exact PyProof.Rows.truthy_int hQ
 | _=>simp[Ci] at tv
theorem F8(hc:X.calm=true):kU X (.builtin "any") (λxs H Q=>∃(p:Addr) (vs:List V) (bs:List Bool),xs=[.ref p]/\(k9 X.K H p vs\/mB X.K H p vs)/\mJ vs=some bs/\Q (.bl (bs.any id)) H):=by
 intro fO s σ H xs us Q I r h;obtain⟨p,vs,bs,rfl,hS,htr,q⟩:=h;obtain⟨u,rfl,rx⟩:=oH r;cases rx;have hbl:=zg htr;rcases hS with hS | hS
 ·obtain⟨its,rv,pl,hz⟩:=I.list hS;have hn:=rv.length;have hlt:p<s.heap.objs.size:=by obtain⟨_,e,_⟩:=pl.isList;exact aK e
  refine call_any_walk (wpAny_pyIter_list pl.isList ⟨s.heap.objs.size,_,_,_,_,_,λi=>bs.getD i false,rfl,Walks.list (A:=X.A.in1) (I.ok.hd hc) _ p (aL hlt) _,⟨⟨_,ar _ rfl,rfl,rfl⟩,pl.isList.push _⟩,vX htr rv,λh' tk hk=>?_⟩);refine⟨.bl _,H,I.kept (t':=tk) (λb o e=>hk b o (λhm=>?_) (ae _ e)),rfl,?_⟩
  ·have lt:=aK e;have z:b=s.heap.objs.size:=by simpa using hm
   rw[z] at lt;exact aZ _ lt
  ·rw[<-yp] at q;have:its.toArray.size=bs.length:=by rw[bD];omega
   rw[this];exact q
 ·obtain⟨its,rv,pl,hz⟩:=I.tuple hS;have hn:=rv.length;have hlt:p<s.heap.objs.size:=by obtain⟨_,e,_⟩:=pl;exact aK e
  have pt:s.heap.IsTuple p its.toArray:=pl;refine call_any_walk (wpAny_pyIter_tuple pt ⟨s.heap.objs.size,_,_,_,_,_,λi=>bs.getD i false,rfl,Walks.tuple (A:=X.A.in1) (I.ok.hd hc) _ p (aL hlt) _,⟨⟨_,ar _ rfl,rfl,rfl⟩,pt.push _⟩,vX htr rv,λh' tk hk=>?_⟩);refine⟨.bl _,H,I.kept (t':=tk) (λb o e=>hk b o (λhm=>?_) (ae _ e)),rfl,?_⟩
  ·have lt:=aK e;have z:b=s.heap.objs.size:=by simpa using hm
   rw[z] at lt;exact aZ _ lt
  ·rw[<-yp] at q;have:its.toArray.size=bs.length:=by rw[bD];omega
   rw[this];exact q
theorem Fs:pY X (compareOp .IsNot) (λx y H Q=>∃a b,x=.bl a/\y=.bl b/\Q (.bl (!(a == b))) H):=by intro fO s σ H x y v u Q I rx ry h;obtain⟨a,b,rfl,rfl,q⟩:=h;cases rx;cases ry;exact ak ⟨.bl (!(a == b)),H,I,by cases a<;>cases b<;>rfl,q⟩
end
end L2
namespace L2
open PySem PySem.Spec PyProof.Rows
section
variable {prog:Program}{w:World}{A:Around}{E:Value->Shared->Prop}{s:Shared}
theorem FO{b:Bool}{e it l:Addr}{i:Nat}{xs:Array Value}{old:Value}{Q:Value->Shared->Prop}(he:IsEnum s.heap e it i old)(hi:kj b s.heap it l i)(hl:iW b s.heap l xs)(hne:e≠it)
  (yes:∀x h',xs[i]? = some x->IsEnumOut h' e it ((i:Int)+1) x s.heap.objs.size->kj b h' it l (i+1)->h'.get? s.heap.objs.size=some {cls:=.type "tuple",data:=.seq #[.int i s.toks,x]}->h'.objs.size=s.heap.objs.size+1->
   (∀c o,c≠e->c≠it->s.heap.get? c=some o->h'.get? c=some o)->Q (.ref s.heap.objs.size) {s with heap:=h',toks:=s.toks+1})
  (no:xs[i]? = none->A.handled=none/\∀h' x,Heap.ExtBut it s.heap h'->(∃o,h'.get? x=some o/\o.cls=.type "StopIteration")->E (.ref x) {s with heap:=h'}) :
  wpAny (model prog w) A (Builtin.«enumerate.__next__» ⟨[.ref e],[]⟩) (λfin s'=>∃v,fin=.done (.ret v)/\Q v s') E s:=by
 obtain⟨hp,g,d,tk,os⟩:=s;show wpAny _ _ (field (.ref e) 2 >>= λ_=>_) _ _ _;refine ao (wpAny_field he rfl (x:=.ref it) rfl (ao (se hi hl (λx g1 hx t1 k1=>?_) no)));have k1':Heap.SameBut it hp g1:=k1;have z1:IsEnum g1 e it i old:=(k1'.2 e hne).trans he;show wpAny _ _ (field (.ref e) 3 >>= λ_=>_) _ _ ⟨g1,g,d,tk,os⟩;refine ao (wpAny_field z1 rfl (x:=rawInt i) rfl ?_);show wpAny _ _ (field (.ref e) 4 >>= λ_=>_) _ _ ⟨g1,g,d,tk,os⟩;refine ao (wpAny_field z1 rfl (x:=.none) rfl ?_);show wpAny _ _ (mkInt i >>= λ_=>_) _ _ ⟨g1,g,d,tk,os⟩;refine ao (wpAny_mkInt (ao (wpAny_setField_rec z1 (by simp) λg2 y2 k2=>?_)));have z2:IsEnum g2 e it ((i:Int)+1) old:=y2;refine ao (wpAny_setField_rec z2 (by simp) λg3 y3 k3=>?_);have z3:IsEnum g3 e it ((i:Int)+1) old:=y3;refine ao (wpAny_newTuple ?_);have sz:g3.objs.size=hp.objs.size:=by have a:=k3.1;have c:=k2.1;have u:=k1'.1;dsimp only at a c u;omega
 have z4:IsEnum (g3.push {cls:=.type "tuple",data:=.seq #[.int i tk,x]}) e it ((i:Int)+1) old:=ae _ z3;have el:e<hp.objs.size:=aK he;have to3:∀c o,c≠e->c≠it->hp.get? c=some o->g3.get? c=some o:=λc o c1 c2 q=>k3.extBut c o c1 (k2.extBut c o c1 (k1'.extBut c o c2 q));show wpAny _ _ (Builtin.SmallTypes.ownedTupleIsFree (.ref e) >>= λ_=>_) _ _ _;unfold Builtin.SmallTypes.ownedTupleIsFree;refine ao (ao (wpAny_field z4 rfl (x:=.none) rfl (ak ?_)));simp only[if_true];refine ao (wpAny_rule (ao (wpAny_field z4 rfl (x:=old) rfl (ao (wpAny_setField_rec z4 (by simp) λg5 y5 k5=>?_)))));have z5:IsEnum g5 e it ((i:Int)+1) x:=y5;show wpAny _ _ (Builtin.SmallTypes.ownedTupleHandOut (.ref e) (.ref g3.objs.size) >>= λ_=>_) _ _ _;unfold Builtin.SmallTypes.ownedTupleHandOut;refine ao (ao (wpAny_setField_rec z5 (by simp) λg6 y6 k6=>?_));have z6:IsEnumOut g6 e it ((i:Int)+1) x g3.objs.size:=y6;refine wpAny_setField_rec z6 (by simp) λg7 y7 k7=>?_;have z7:IsEnumOut g7 e it ((i:Int)+1) x g3.objs.size:=y7;have up:∀c o,c≠e->(g3.push {cls:=.type "tuple",data:=.seq #[.int i tk,x]}).get? c=some o->g7.get? c=some o:=λc o c1 q=>k7.extBut c o c1 (k6.extBut c o c1 (k5.extBut c o c1 q));have up3:∀c o,c≠e->g3.get? c=some o->g7.get? c=some o:=λc o c1 q=>up c o c1 (ae _ q);have tp:g7.get? g3.objs.size=some {cls:=.type "tuple",data:=.seq #[.int i tk,x]}:=up _ _ (by rw[sz];exact bz el) (ar _ rfl);have s7:g7.objs.size=g3.objs.size+1:=by have a:=k7.1;have c:=k6.1;have u:=k5.1;dsimp only at a c u;rw[Heap.size_push] at u;omega
 refine ao (wpAny_letGo (ak ⟨_,rfl,?_⟩));show Q (.ref g3.objs.size) ⟨g7,g,d,tk+1,os⟩;rw[sz] at z7 tp s7 ⊢;exact yes x g7 hx z7 (t1.to λo q=>up3 it o (Ne.symm hne) (k3.extBut it o (Ne.symm hne) (k2.extBut it o (Ne.symm hne) q))) tp s7 λc o c1 c2 q=>up3 c o c1 (to3 c o c1 c2 q)
theorem tO{b:Bool}{e it l:Addr}{i:Nat}{xs:Array Value}{old:Value}{Q:Option Value->Shared->Prop}(he:IsEnum s.heap e it i old)(hi:kj b s.heap it l i)(hl:iW b s.heap l xs)(hne:e≠it)
  (yes:∀x h',xs[i]? = some x->IsEnumOut h' e it ((i:Int)+1) x s.heap.objs.size->kj b h' it l (i+1)->h'.get? s.heap.objs.size=some {cls:=.type "tuple",data:=.seq #[.int i s.toks,x]}->h'.objs.size=s.heap.objs.size+1->
   (∀c o,c≠e->c≠it->s.heap.get? c=some o->h'.get? c=some o)->Q (some (.ref s.heap.objs.size)) {s with heap:=h',toks:=s.toks+1})
  (no:xs[i]? = none->A.handled=none/\∀h',Heap.ExtBut it s.heap h'->Q none {s with heap:=h'}):wpAny (model prog w) A (pyNext (.ref e)) Q E s:=by
 have ty:s.TypeIs (.ref e) "enumerate" :=⟨_,he,rfl⟩;unfold pyNext;refine ao (wpAny_attempt (wpAny_callSpecial?_slot (name:=Str.ofString "__next__") ty F.slot_enumerate_next (wpAny_call_entry F.slot_enumerate_next ty F.entry_enumerate_next
  (FO he hi hl hne (λx h' u1 u2 u3 u4 u5 u6=>ak (yes x h' u1 u2 u3 u4 u5 u6)) λq=>⟨(no q).1,λh' x hk ⟨o,ho,hc⟩=>?_⟩) (F.args_enumerate_next_1 _))))
 exact ao (wpAny_isInstance (T:= "StopIteration") (b:=true) ⟨o,ho,hc⟩ isSubtype_stop (ak ((no q).2 h' hk)))
abbrev eo(b:Bool)(l:Addr):Obj:={cls:=.type (vY b),data:=.fields #[.ref l,.int 0 0]}
abbrev en(p:Addr):Obj:={cls:=.type "enumerate",data:=.fields #[.none,.bool false,.ref p,rawInt 0,.none,.none]}
theorem CD(b:Bool)(l:Addr)(xs:Array Value):Meets (Builtin.«enumerate.__new__» ⟨[.type "enumerate",.ref l],[]⟩) (λ_ R s=>iW b s.heap l xs/\
  R (.ok (.ret (.ref (s.heap.push (eo b l)).objs.size))) {s with heap:=(s.heap.push (eo b l)).push (en s.heap.objs.size)}):=by
 refine .of_wp λprog w A R s h=>?_;obtain⟨hp,g,d,tk,os⟩:=s;obtain⟨a1,hR⟩:=h;have hsub:=sub_enumerate;have q1:iW b (Shared.heap ⟨hp,g,d,tk,os⟩) l xs:=a1;obtain⟨o,n,ho,hd⟩:=q1.look;wp_walk using oI q1;refine wpAny_stack_any λst=>ak ?_;split
 ·rename_i c _ _ _ _ _;cases (c == Value.type "enumerate")
  ·wp_walk using oI q1;exact⟨_,rfl,hR⟩
  ·wp_walk using oI q1;exact⟨_,rfl,hR⟩
 ·wp_walk using oI q1;exact⟨_,rfl,hR⟩
theorem yX{b:Bool}{l:Addr}{xs:Array Value}{Q:Value->Shared->Prop}(hl:iW b s.heap l xs)
  (h:∀h',IsEnum h' (s.heap.objs.size+1) s.heap.objs.size 0 .none->kj b h' s.heap.objs.size l 0->h'.objs.size=s.heap.objs.size+2->(∀c o,s.heap.get? c=some o->h'.get? c=some o)->Q (.ref (s.heap.objs.size+1)) {s with heap:=h'}) :
  wpAny (model prog w) A (call (.type "enumerate") [.ref l]) Q E s:=by
 refine callType_new F.called_enumerate (by decide) (F.typeCall_enumerate_1 _) (F.newCall_enumerate_1 _) (λobj=>F.args_object_init_2 obj _) F.entry_enumerate_new (CD b l xs) ⟨hl,?_⟩;have n1:(s.heap.push (eo b l)).objs.size=s.heap.objs.size+1:=Heap.size_push ..;have ge:=ar (s.heap.push (eo b l)) (o:=en s.heap.objs.size) rfl;rw[n1] at ge;show _/\_;rw[n1];exact⟨⟨_,ge,rfl⟩,h _ ge (.of ⟨_,ae _ (ar _ rfl),rfl,rfl⟩) (by rw[Heap.size_push,n1]) λc o q=>ae _ (ae _ q)⟩
end
def RM(K:W.Frag)(b:Bool)(l:Addr):It:=
  ⟨λi H=>∃xs x,vm K H b l xs/\xs[i]? = some x,
   λi H v H'=>∃p x,v=.ref p/\H p=none/\H'=jx H p (.tup [.int i,x])/\∀xs,vm K H b l xs->xs[i]? = some x,
   λi H=>∃xs,vm K H b l xs/\xs.length<=i⟩
theorem FN{P:Program}{w:World}{K:W.Frag}{elts:List Expr}{x1}{pos:Pos}{b:Bool}{e it l:Addr}(hne:e≠it) :
  BG P w K (.Tuple elts x1 pos) (RM K b l) [e,it] e (λi h=>(∃old,IsEnum h e it i old)/\kj b h it l i) where
 mem:=by simp
 obj:=λi h st c hc=>by
  obtain⟨⟨old,he⟩,hi⟩:=st;have mem:c=e\/c=it:=by simpa using hc
  rcases mem with rfl | rfl
  ·exact⟨_,he,λv q=>by cases q⟩
  ·obtain⟨o,q,_,d⟩:=hi.look;exact⟨o,q,λv q'=>by rw[d] at q';cases q'⟩
 keep:=λi h h' st k=>by obtain⟨⟨old,he⟩,hi⟩:=st;exact⟨⟨old,k e (by simp) _ he⟩,hi.to λo q=>k it (by simp) o q⟩
 item:=by
  intro X hP hw hK hc i fO s σ H E I hf st hg;subst hP hw hK;obtain⟨⟨old,he⟩,hi⟩:=st;obtain⟨xs,x,q1,e1⟩:=hg;obtain⟨us,r1,p1,z1⟩:=I.seqB q1;obtain⟨u,gu,ru⟩:=r1.get e1;have FT:=I.fpOk (b:=s.heap.objs.size) (aJ _) (I.hok.fresh (aJ _));refine tO he hi p1 hne (λu' h' gu' a1 a2 a3 a4 hk=>?_) λq=>?_
  ·have eu:u'=u:=by
    have:us[i]? = some u':=by simpa using gu'
    rw[gu] at this;cases this;rfl
   subst eu;refine⟨_,rfl,wpAny_letOwnedTupleGo_enum a1 λh'' hz'' sb=>?_⟩;have sb':Heap.SameBut e h' h'':=sb;have zT:s.heap.objs.size≠e:=bz (aK he);have I1:gH X fO σ H {s with heap:=h'',toks:=s.toks+1}:=I.turnedL (t':=s.toks+1) (ch:=[e,it]) (λb o hb q=>sb'.extBut _ _ (λz=>hb (by simp[z])) (hk b o (λz=>hb (by simp[z])) (λz=>hb (by simp[z])) q)) (λb hb=>hf b hb);have gT:h''.get? s.heap.objs.size=some {cls:=.type "tuple",data:=.seq #[.int i s.toks,u']}:=sb'.extBut _ _ zT a3;have I2:gH X fO σ (jx H s.heap.objs.size (.tup [.int i,x])) {s with heap:=h'',toks:=s.toks+1}:=I1.track FT.1 FT.2.2.2.1 FT.2.1 FT.2.2.2.2.1 FT.2.2.2.2.2
    ⟨by show 2<=sizeLine;decide,[.int i s.toks,u'],.cons ⟨_,rfl⟩ (.cons ru .nil),⟨_,gT,rfl,_,rfl⟩⟩
   have lt:∀{b o},s.heap.get? b=some o->jx H s.heap.objs.size (.tup [.int i,x]) b=H b:=λ{b o} q=>gA (aL (aK q));refine⟨.ref s.heap.objs.size,_,I2,rfl,⟨_,x,rfl,FT.1,rfl,λxs' h=>by rw[I.seqB_inj h q1];exact e1⟩,?_,λb hb=>?_⟩
   ·exact⟨⟨_,hz''⟩,a2.to λo q=>sb'.extBut _ o (Ne.symm hne) q⟩
   ·have mem:b=e\/b=it:=by simpa using hb
    have hn:=(hf b hb).1;obtain⟨o1,g1,_⟩:=hi.look;rcases mem with rfl | rfl
    ·rw[lt he];exact hn
    ·rw[lt g1];exact hn
  ·exfalso;have m1:us.toArray[i]? = some u:=by simpa using gu
   rw[m1] at q;cases q
 done:=by
  intro X hP hw hK hc i fO s σ H E I hf st hg;subst hP hw hK;obtain⟨⟨old,he⟩,hi⟩:=st;obtain⟨xs,q1,hl⟩:=hg;obtain⟨us,r1,p1,z1⟩:=I.seqB q1;have n1:=r1.length;refine tO he hi p1 hne (λu' h' gu' a1 a2 a3 a4 hk=>?_) λq=>⟨I.ok.hd hc,λh' hk=>⟨rfl,I.turnedL (t':=s.toks) (ch:=[it]) (λb o hb q=>hk b o (λz=>hb (by simp[z])) q) λb hb=>hf b (by
   have:b=it:=by simpa using hb
   simp[this])⟩⟩
  exfalso;have m1:i<us.length:=by
   have:us[i]? = some u':=by simpa using gu'
   exact (aa.mp this).1
  omega
 self:=λ_ _ _ _ _ st h=>by obtain⟨⟨old,he⟩,_⟩:=st;exact wpAny_pyIter_enum he h
section
variable {X:Cx}
def Jr(K:W.Frag)(b:Bool)(ta:TA):TI:=λσ H R=>ta σ H λvs H1=>∃l,vs=[.ref l]/\(∃xs,vm K H1 b l xs)/\R (RM K b l) H1
theorem JN{b:Bool}{elts:List Expr}{x1}{tpos:Pos}{a:Expr}{ta:TA}{p pos:Pos}(hg:Gl X "enumerate")(hm:X.mg "enumerate" = none)(ha:PA X [a] ta)(hs:starEach [a] X.env=[(false,eval a X.env)]:=by rfl) :
  PI X (.Tuple elts x1 tpos) (.Call (.Name "enumerate" p) [a] [] pos) (Jr X.K b ta):=by
 intro fO s σ H R I h;refine Call_ (pG I hg hm boot_enumerate (PyProof.Rows.callWith_type1 (jN (ha pos fO s σ H _ I h) λus s1 ⟨vs,H1,I1,r1,q1⟩=>?_) hs rfl));obtain⟨l,rfl,⟨xs,q1⟩,q⟩:=q1;obtain⟨u,rfl,rx⟩:=oH r1;cases rx;obtain⟨us,rv1,p1,_⟩:=I1.seqB q1;refine yX p1 λh' he hi hsz hk=>?_;refine wpAny_pyIter_enum he ?_;refine⟨_,_,_,_,H1,rfl,I1.kept (t':=s1.toks) hk,FN (e:=s1.heap.objs.size+1) (it:=s1.heap.objs.size) (Nat.succ_ne_self _),⟨⟨_,he⟩,hi⟩,λb hb=>?_,q⟩;have mem:b=s1.heap.objs.size+1\/b=s1.heap.objs.size:=by simpa using hb
 have ge:s1.heap.objs.size<=b:=by rcases mem with rfl | rfl<;>omega
 exact I1.fpOk ge (I1.hok.fresh ge)
end
end L2
namespace L2
open PySem PySem.Spec PyProof.Rows
section
variable {X:Cx}
end
end L2
namespace HT
open PySem PySem.Spec PyProof.Rows
section
variable {prog:Program}{w:World}{A:Around}{E:Value->Shared->Prop}{s:Shared}
theorem getItem_tuple_all{t sl:Addr}{items:Array Value}{vl vu:Value}{lo hi:Option Int}{Q:Value->Shared->Prop}(ht:IsTup s.heap t items)(hs:s.heap.IsSliceOf sl vl vu .none)(pl:IsPart vl lo)(pu:IsPart vu hi)
  (hw:sIx items.size 0 lo=0/\sIx items.size items.size hi=items.size) (h:Q (.ref t) s):wpAny (model prog w) A (getItem (.ref t) (.ref sl)) Q E s:=by
 obtain⟨os,hos,hcs,hds⟩:=id hs;have hTs:s.TypeIs (.ref sl) "slice" :=⟨os,hos,hcs⟩;unfold getItem;try with_reducible refine wpAny_holding ?_;first | refine ao (ak ?_) | skip
 refine ao (wpAny_sequenceKey ht.typeIs (by decide) ?_);refine ao (wpAny_callSpecial?_slot (name:=Str.ofString "__getitem__") ht.typeIs PyProof.Rows.slot_tuple_getitem
  (wpAny_call_entry PyProof.Rows.slot_tuple_getitem ht.typeIs entry_tuple_getitem ?_ (args_tuple_getitem _ _)))
 show wpAny _ _ (Builtin.Tuple.tupleItemsOf (.ref t) >>= _) _ _ s;refine ao (tupleItemsOf_ ht ?_);refine ao (wpAny_typeOf hTs ?_);rw[aP (by decide)];refine ao (oy hs pl pu ?_);have hyes:(((sIx items.size 0 lo:Nat):Int) == 0&&(1:Int) == 1&&(sIx items.size items.size hi - sIx items.size 0 lo) == items.size)=true:=by rw[hw.1,hw.2];simp
 show wpAny _ _ (if (((sIx items.size 0 lo:Nat):Int) == 0&&(1:Int) == 1&&(sIx items.size items.size hi - sIx items.size 0 lo) == items.size)=true then _ else _) _ _ s;rw[aP hyes];refine ao (ao (wpAny_typeOf ht.typeIs (ak ?_)));rw[aP (by decide)];refine ao (wpAny_rule ?_);exact ak ⟨_,rfl,ak h⟩
end
end HT
namespace L2
open PySem PySem.Spec PyProof.Rows
section
variable {X:Cx}
def QD(K:W.Frag):V->Option Int->Option Int->Hp->VK->Prop:=λx lo hi H Q=>∃a xs,x=.ref a/\mB K H a xs/\(HT.sIx xs.length 0 lo=0/\HT.sIx xs.length xs.length hi=xs.length)/\Q (.ref a) H
theorem Kj:ML X (QD X.K):=by
 intro fO s σ H x v vl vu lo hi sl Q I rx hs pl pu h;obtain⟨a,xs,rfl,hx,hw,q⟩:=h;cases rx;obtain⟨its,r,ht,hz⟩:=I.tuple hx;have kT:its.toArray.size=xs.length:=by rw[bD];exact r.length.symm
 refine⟨"tuple",_,PyProof.Rows.slot_tuple_getitem.lookup,ht.typeIs,?_⟩;exact HT.getItem_tuple_all ht hs pl pu (by rw[kT];exact hw) ⟨.ref a,H,I,rfl,q⟩
end
end L2
namespace L2
open PySem PySem.Spec PyProof.Rows
section
variable {prog:Program}{w:World}{A:Around}{E:Value->Shared->Prop}{s:Shared}{d it:Addr}{es:Array DictEntry}{ep i:Nat}
def tQ(h:Heap)(d:Addr)(es:Array DictEntry)(ep:Nat):Prop:=∃o,h.get? d=some o/\o.ExactDict/\o.data=.dict es ep
theorem tQ.to{h h':Heap}(x:tQ h d es ep)(k:∀o,h.get? d=some o->h'.get? d=some o):tQ h' d es ep:=let ⟨o,a,r⟩:=x;⟨o,k o a,r⟩
theorem tQ.lt{h:Heap}(x:tQ h d es ep):d<h.objs.size:=let ⟨_,a,_⟩:=x;aK a
theorem tQ.ty(x:tQ s.heap d es ep):s.TypeIs (.ref d) "dict" :=let ⟨o,a,c,_⟩:=x;⟨o,a,c.1⟩
theorem IS{Q:Value->Shared->Prop}(lo:(d == sysModules)=false)(x:tQ s.heap d es ep)
  (q:Q (.ref s.heap.objs.size) {s with heap:=s.heap.push {cls:=.type "dict_keyiterator",data:=.fields #[.ref d,.int 0 0,.int es.size 0,.int ep 0]}}):wpAny (model prog w) A (pyIter (.ref d)) Q E s:=by
 obtain⟨o,a,c,dt⟩:=id x;refine wpAny_pyIter_slot x.ty F.slot_dict_iter (wpAny_call_entry F.slot_dict_iter x.ty F.entry_dict_iter ?_ (F.args_dict_iter_1 _));unfold Builtin.«dict.__iter__»;refine ao ?_;unfold Builtin.Dict.dictSlotNone;refine ao (wpAny_notOrdered_dict x.ty ?_);show wpAny _ _ (pure (Value.ref d)) _ _ s;refine ak ?_;show wpAny _ _ (Builtin.Dict.showsAll d >>= λ_=>_) _ _ s;unfold Builtin.Dict.showsAll;rw[aQ (by rw[lo];exact λz=>nomatch z)];refine ao (ak (ao (wpAny_dictEntries a dt (ao (wpAny_dictEpoch a dt ?_)))));refine ao (wpAny_newObj_type (ak ⟨_,rfl, "dict_keyiterator",_,⟨_,ar _ rfl,rfl⟩,F.slot_dict_keyiterator_next.lookup,?_⟩));simpa[rawInt] using q
theorem Oz{Q:Option Value->Shared->Prop}(j:s.heap.IsKeyIter it d i es.size ep)(x:tQ s.heap d es ep)(hi:i<es.size)
  (q:∀h',h'.IsKeyIter it d (i+1) es.size ep->Heap.SameBut it s.heap h'->Q (some es[i].key) {s with heap:=h'}):wpAny (model prog w) A (pyNext (.ref it)) Q E s:=by
 obtain⟨o,a,c,dt⟩:=id j;obtain⟨od,ad,cd,dd⟩:=id x;have own:Builtin.Dict_items.ownsTuple "dict_keyiterator" = false:=by decide
 unfold pyNext;refine ao (wpAny_attempt (wpAny_callSpecial?_slot (name:=Str.ofString "__next__") j.typeIs F.slot_dict_keyiterator_next (wpAny_call_entry F.slot_dict_keyiterator_next j.typeIs F.entry_dict_keyiterator_next ?_ (F.args_dict_keyiterator_next_1 _))));refine ao (ak (ao (ao ?_)));first | refine ao (wpAny_typeNameOfWhole_keyiter j.typeIs (ak (ao (wpAny_fieldsOf a dt ?_)))) | refine ao (wpAny_typeNameOf_keyiter j.typeIs (ak (ao (wpAny_fieldsOf a dt ?_))))
 simp only[own,b9,if_false];show wpAny _ _ (if (Value.ref d == Value.none)=true then _ else _) _ _ s;rw[aQ (show ¬((Value.ref d == Value.none)=true) from λz=>nomatch z)];refine ao (ak (ao (wpAny_dictEntries ad dd ?_)));rw[aQ (by simp)];refine ao (ak (ao (wpAny_dictEpoch ad dd ?_)));rw[aQ (by simp)];refine ak ?_;simp only[show ¬((i:Int)<0) from by omega,if_false,bO,Array.getElem?_eq_getElem hi];refine ao ?_;first | refine ao (wpAny_typeNameOfWhole_keyiter j.typeIs (ak (ao (wpAny_isOneOf_keyiter j.typeIs ?_)))) | refine ao (wpAny_typeNameOf_keyiter j.typeIs (ak (ao (wpAny_isOneOf_keyiter j.typeIs ?_))))
 show wpAny _ _ (setField (.ref it) 1 (rawInt ((i:Int)+1)) >>= λ_=>_) _ _ s;refine ao (wpAny_setField a dt (by simp) ?_);have j2:(s.heap.update it (Obj.mapFields (·.setIfInBounds 1 (rawInt ((i:Int)+1))))).IsKeyIter it d (i+1) es.size ep:=⟨_,Heap.get?_update_self _ a (Obj.isFreed_of_fields (Obj.data_mapFields dt _)),(Obj.cls_mapFields ..).trans c,by rw[Obj.data_mapFields dt];simp[rawInt]⟩
 refine ao (wpAny_holding (ao (wpAny_isOneOf_keyiter (s:={s with heap:=s.heap.update it (Obj.mapFields (·.setIfInBounds 1 (rawInt ((i:Int)+1))))}) j2.typeIs ?_)));show wpAny _ _ (pure es[i].key) _ _ _;exact ak (ak ⟨_,rfl,ak (q _ j2 (Heap.SameBut.update ..))⟩)
theorem Lp{Q:Option Value->Shared->Prop}(hh:A.handled=none)(j:s.heap.IsKeyIter it d es.size es.size ep)(x:tQ s.heap d es ep)(q:∀h',Heap.ExtBut it s.heap h'->Q none {s with heap:=h'}) :
  wpAny (model prog w) A (pyNext (.ref it)) Q E s:=by
 obtain⟨o,a,c,dt⟩:=id j;obtain⟨od,ad,cd,dd⟩:=id x;have own:Builtin.Dict_items.ownsTuple "dict_keyiterator" = false:=by decide
 unfold pyNext;refine ao (wpAny_attempt (wpAny_callSpecial?_slot (name:=Str.ofString "__next__") j.typeIs F.slot_dict_keyiterator_next (wpAny_call_entry F.slot_dict_keyiterator_next j.typeIs F.entry_dict_keyiterator_next ?_ (F.args_dict_keyiterator_next_1 _))));refine ao (ak (ao (ao ?_)));first | refine ao (wpAny_typeNameOfWhole_keyiter j.typeIs (ak (ao (wpAny_fieldsOf a dt ?_)))) | refine ao (wpAny_typeNameOf_keyiter j.typeIs (ak (ao (wpAny_fieldsOf a dt ?_))))
 simp only[own,b9,if_false];show wpAny _ _ (if (Value.ref d == Value.none)=true then _ else _) _ _ s;rw[aQ (show ¬((Value.ref d == Value.none)=true) from λz=>nomatch z)];refine ao (ak (ao (wpAny_dictEntries ad dd ?_)));rw[aQ (by simp)];refine ao (ak (ao (wpAny_dictEpoch ad dd ?_)));rw[aQ (by simp)];refine ak ?_;simp only[show ¬((es.size:Int)<0) from by omega,if_false,bO,Array.getElem?_eq_none (aJ es.size)];refine ao ?_;first | refine ao (wpAny_typeNameOfWhole_keyiter j.typeIs (ak ?_)) | refine ao (wpAny_typeNameOf_keyiter j.typeIs (ak ?_))
 show wpAny _ _ (setField (.ref it) 0 .none >>= λ_=>_) _ _ s;refine ao (wpAny_setField a dt (by simp) ?_);show wpAny _ _ (newExc (.type "StopIteration") [] >>= λ_=>_) _ _ _;refine ao ?_;simp only[newExc,newTuple];refine ao (wpAny_newObj_type ?_ (by size_fits));refine ao (m:=firstArgMember _ _) (wpAny_of_eq (a:=Value.none) (by first | rfl | (simp only[firstArgMember];rfl)) ?_);refine wpAny_newObj_type ?_ (by size_fits);simp only[raiseNew];refine ao (wpAny_handled ?_);rw[show A.in1.handled=none from hh];refine ao (ak (wpAny_throw ?_));refine ao (wpAny_isInstance (T:= "StopIteration") (b:=true) ⟨_,ar _ rfl,rfl⟩ isSubtype_stop ?_);exact ak (q _ (((Heap.SameBut.update ..).extBut.push _).push _))
theorem Fp(hh:A.handled=none)(I d:Addr)(ne:d≠I)(es:Array DictEntry)(ep:Nat) :
  Walks prog w A I [I,d] [I] es.size (λi v=>∃e,es[i]? = some e/\v=e.key) (λi h=>h.IsKeyIter I d i es.size ep/\tQ h d es ep) where
 sub:=λb hb=>by simp at hb;simp[hb]
 frame:=λ_ _ _ x k=>⟨x.1.at λo e=>k I (by simp) o e,x.2.to λo e=>k d (by simp) o e⟩
 item:=λi s Q E hi x q=>Oz x.1 x.2 hi λh' j k=>q _ h' s.toks ⟨es[i],by simp[hi],rfl⟩ ⟨j,x.2.to λo e=>k.extBut d o ne e⟩ λb o hb e=>k.extBut b o (λz=>hb (by simp[z])) e
 done:=λs Q E x q=>Lp hh x.1 x.2 λh' k=>q h' s.toks λb o hb e=>k b o (λz=>hb (by simp[z])) e
 self:=λ_ _ _ _ x q=>wpAny_pyIter_keyiter x.1 q
theorem LD(lo:(d == sysModules)=false):W.KdlSrc prog w "dict" d d es.size (λi v=>∃e,es[i]? = some e/\v=e.key) (λh=>tQ h d es ep) where
 type:=λ_ x=>x.ty
 there:=λ_ x=>⟨x.lt,x.lt⟩
 keep:=λ_ _ x k=>x.to λo e=>k d (.inl rfl) o e
 notList:=by decide
 notTuple:=by decide
 hint:=λ_ _ _ _ x q=>W.kdl_hint_dict x.ty q
 iter:=λ_ _ hh x=>⟨_,_,(λ_ _ q=>IS lo x q),Fp hh _ d (aL x.lt) es ep,⟨⟨_,ar _ rfl,rfl,rfl⟩,x.to λo e=>ae _ e⟩⟩
end
theorem qj:∀{xs:List V} {us:List Value},xs.length=us.length->(∀(i:Nat) v,us[i]? = some v->∃x,xs[i]? = some x/\iL x v)->ib xs us
 | [],[],_,_=>.nil
 | x::xs,u::us,hl,h=>by obtain⟨x',e,r⟩:=h 0 u rfl;simp at e;subst e;exact .cons r (qj (by simpa using hl) λi v hv=>by simpa using h (i+1) v (by simpa using hv))
theorem tY{α β:Type}{F:α->β->Prop}:∀{l:List α} {m:List β} {i:Nat} {a:α},Paired F l m->l[i]? = some a->∃b,m[i]? = some b/\F a b
 | _::_,_::_,0,_,.cons h _,e=>by simp at e;subst e;exact⟨_,rfl,h⟩
 | _::_,_::_,i+1,_,.cons _ r,e=>by simpa using tY (i:=i) r (by simpa using e)
section
variable {X:Cx}
theorem DJ(hc:X.calm=true):kU X (.type "list") (λxs H Q=>∃a kvs,xs=[.ref a]/\H a=some (.dT kvs)/\∀(l:Addr) (bs:List Addr),H l=none->bs.length=kvs.length->
  (∀(i:Nat) (b:Addr),bs[i]? = some b->∃k v,kvs[i]? = some (k,v)/\H b=some (.tup (k.map kV)))->Q (.ref l) (jx H l (.lst (bs.map V.ref)))):=by
 intro fO s σ H xs us Q I r h;obtain⟨a,kvs,rfl,e,q⟩:=h;obtain⟨u,rfl,rx⟩:=oH r;cases rx;obtain⟨z,lo,ys,pr,o,es,ep,ho,ex,dt,he,nd⟩:=(show jw X.prog X.w H s.heap a (.dT kvs) from I.hok a _ e);have sz:es.size=ys.length:=by rw[<-bx,he,aw]
 have pl:kvs.length=ys.length:=Paired.length pr;refine W.kdl_call (LD lo) (I.ok.hd hc) (⟨o,ho,ex,dt⟩:tQ s.heap a es ep) (by rw[sz,<-pl];exact z) λh' tk acc c' kp hl hacc=>?_;have key:∀(i:Nat) v,acc[i]? = some v->∃y,ys[i]? = some y/\v=.ref y.2.1:=λi v hv=>by
  obtain⟨en,h1,h2⟩:=hacc.2 i v hv;have h3:es.toList[i]? = some en:=by simpa using h1
  rw[he,av] at h3;cases hy:ys[i]? with
  | none=>rw[hy] at h3;cases h3
  | some y=>rw[hy] at h3;cases h3;exact⟨y,rfl,h2⟩
 have al:acc.size=ys.length:=by rw[<-sz];exact hacc.1
 have va:ib ((ys.map λy=>y.2.1).map V.ref) acc.toList:=by refine qj (by simp[al]) λi v hv=>?_;obtain⟨y,e1,e2⟩:=key i v (by simpa using hv);exact⟨.ref y.2.1,by simp[e1],by rw[e2];rfl⟩
 refine⟨.ref s.heap.objs.size,_,I.laid (t':=tk) kp (aJ _) (show jw X.prog X.w _ h' _ (.lst ((ys.map λy=>y.2.1).map V.ref)) from ⟨by simp[<-pl];exact z,acc.toList,c',va,by simpa using hl⟩),rfl,q _ _ (I.hok.fresh (aJ _)) (by simp[pl]) λi b hb=>?_⟩;rw[av] at hb;cases hy:ys[i]? with
 | none=>rw[hy] at hb;cases hb
 | some y=>
  rw[hy] at hb;cases hb;have hi:i<kvs.length:=by rw[pl];exact (aa.mp hy).1
  obtain⟨y',e1,e2,e3,e4⟩:=tY pr (ag hi);rw[hy] at e1;cases e1;exact⟨_,_,ag hi,e3⟩
end
end L2
namespace L2
open PySem PySem.Spec PyProof.Rows
def Rz(K:W.Frag)(a:Addr)(n:Nat):It:=⟨λi H=>i<n/\∃xs x,k9 K H a xs/\xs.length=n/\xs[n - 1 - i]? = some x,λi H x H'=>H'=H/\∀xs,k9 K H a xs->xs[n - 1 - i]? = some x,λi H=>i=n/\∃xs,k9 K H a xs⟩
theorem IH{P:Program}{w:World}{K:W.Frag}{tg:Expr}(a it:Addr)(n:Nat):BG P w K tg (Rz K a n) [it] it (λi h=>h.IsRevIter it a ((n:Int) - 1 - i)) where
 mem:=by simp
 obj:=λi h st b hb=>by
  obtain rfl:b=it:=by simpa using hb
  obtain⟨o,e,c,d⟩:=st;exact⟨o,e,λv z=>by rw[d] at z;cases z⟩
 keep:=λi h h' st k=>st.at λo e=>k it (by simp) o e
 item:=by
  intro X hP hw hK hc i fO s σ H E I hf st hg;subst hP hw hK;obtain⟨hi,xs,x,hq,hn,hx⟩:=hg;obtain⟨its,rv,p,hz⟩:=I.list hq;obtain⟨u,hu,ru⟩:=rv.get hx;obtain⟨f0,f1,f2,f3,f4,f5⟩:=hf it (by simp);have ei:(n:Int) - 1 - i=((n - 1 - i:Nat):Int):=by omega
  rw[ei] at st;refine wpAny_pyNext_rev_item st p.isList (x:=u) (by simpa using hu) λh' st' sb=>?_;have I1:gH X fO σ H {s with heap:=h'}:=I.turned (t':=s.toks) (λb o hb e=>(sb.2 b hb).trans e) f0 f1 f3 f4 f5;have e2:((n - 1 - i:Nat):Int) - 1=(n:Int) - 1 - ((i+1:Nat):Int):=by omega
  rw[e2] at st';obtain⟨o,e,c,d⟩:=id st';exact⟨u,rfl,Fc (s:={s with heap:=h'}) e c d (by decide) ⟨x,H,I1,ru,⟨rfl,λys hy=>by rw[I.list_inj hy hq];exact hx⟩,st',λb hb=>(hf b hb).1⟩⟩
 done:=by
  intro X hP hw hK hc i fO s σ H E I hf st hg;subst hP hw hK;obtain⟨rfl,xs,hq⟩:=hg;obtain⟨f0,f1,f2,f3,f4,f5⟩:=hf it (by simp);have ei:(i:Int) - 1 - i = -1:=by omega
  rw[ei] at st;exact wpAny_pyNext_rev_end (I.ok.hd hc) st λh' eb=>⟨rfl,I.turned (t':=s.toks) (λb o hb e=>eb b o hb e) f0 f1 f3 f4 f5⟩
 self:=λ_ _ _ _ _ st h=>wpAny_pyIter_revIter st h
section
variable {X:Cx}{tg:Expr}
def OO(K:W.Frag)(ta:TA):TI:=λσ H R=>ta σ H λvs H1=>∃l xs,vs=[.ref l]/\k9 K H1 l xs/\R (Rz K l xs.length) H1
theorem Kq{a:Expr}{ta:TA}{p pos:Pos}(hg:Gl X "reversed")(hm:X.mg "reversed" = none)(ha:PA X [a] ta)(hs:starEach [a] X.env=[(false,eval a X.env)]:=by rfl) :
  PI X tg (.Call (.Name "reversed" p) [a] [] pos) (OO X.K ta):=by
 intro fO s σ H R I h;refine Call_ (pG I hg hm (by decide +kernel:bootBuiltins "reversed" = some (.type "reversed")) (PyProof.Rows.callWith_type1 (jN (ha pos fO s σ H _ I h) λus s1 ⟨vs,H1,I1,r1,q1⟩=>?_) hs rfl));obtain⟨l,xs,rfl,hq,q⟩:=q1;obtain⟨u,rfl,rx⟩:=oH r1;cases rx;obtain⟨its,rv,pl,hz⟩:=I1.list hq;have hl:=rv.length;refine call_reversed_list pl.isList ?_;have I2:gH X fO σ H1 {s1 with heap:=s1.heap.push (revObj l ((its.toArray.size:Int) - 1))}:=I1.kept (t':=s1.toks) λb o e=>ae _ e;have st:(s1.heap.push (revObj l ((its.toArray.size:Int) - 1))).IsRevIter s1.heap.objs.size l ((xs.length:Int) - 1 - ((0:Nat):Int)):=⟨_,ar _ rfl,rfl,by simp[revObj,hl]⟩;refine wpAny_pyIter_revIter st ?_;refine⟨s1.heap.objs.size,[s1.heap.objs.size],_,_,H1,rfl,I2,IH l _ xs.length,st,λb hb=>?_,q⟩;obtain rfl:b=s1.heap.objs.size:=by simpa using hb
 exact I1.fpOk (aJ _) (I1.hok.fresh (aJ _))
end
end L2
namespace L2
open PySem PySem.Spec PyProof.Rows
abbrev MN(h:Heap)(e it:Addr)(i:Int)(item:Value)(a:Addr)(f:Bool):Prop:=h.get? e=some {cls:=.type "enumerate",dict:=none,data:=.fields #[rawInt a,.bool f,.ref it,rawInt i,.none,item],slots:=#[]}
section
variable {prog:Program}{w:World}{A:Around}{E:Value->Shared->Prop}{s:Shared}
theorem DD{b f:Bool}{e it l a:Addr}{oa:Obj}{i:Nat}{xs:Array Value}{old:Value}{Q:Value->Shared->Prop}(he:MN s.heap e it i old a f)(ha:s.heap.get? a=some oa)(hae:a≠e)(hai:a≠it)(hi:kj b s.heap it l i)(hl:iW b s.heap l xs)(hne:e≠it)
  (yes:∀x h',xs[i]? = some x->MN h' e it ((i:Int)+1) old a true->kj b h' it l (i+1)->h'.get? s.heap.objs.size=some {cls:=.type "tuple",data:=.seq #[.int i s.toks,x]}->h'.objs.size=s.heap.objs.size+1->
   (∀c o,c≠e->c≠it->s.heap.get? c=some o->h'.get? c=some o)->Q (.ref s.heap.objs.size) {s with heap:=h',toks:=s.toks+1})
  (no:xs[i]? = none->A.handled=none/\∀h' x,Heap.ExtBut it s.heap h'->(∃o,h'.get? x=some o/\o.cls=.type "StopIteration")->E (.ref x) {s with heap:=h'}) :
  wpAny (model prog w) A (Builtin.«enumerate.__next__» ⟨[.ref e],[]⟩) (λfin s'=>∃v,fin=.done (.ret v)/\Q v s') E s:=by
 obtain⟨hp,g,d,tk,os⟩:=s;show wpAny _ _ (field (.ref e) 2 >>= λ_=>_) _ _ _;refine ao (wpAny_field he rfl (x:=.ref it) rfl (ao (se hi hl (λx g1 hx t1 k1=>?_) no)));have k1':Heap.SameBut it hp g1:=k1;have z1:MN g1 e it i old a f:=(k1'.2 e hne).trans he;show wpAny _ _ (field (.ref e) 3 >>= λ_=>_) _ _ ⟨g1,g,d,tk,os⟩;refine ao (wpAny_field z1 rfl (x:=rawInt i) rfl ?_);show wpAny _ _ (field (.ref e) 4 >>= λ_=>_) _ _ ⟨g1,g,d,tk,os⟩;refine ao (wpAny_field z1 rfl (x:=.none) rfl ?_);show wpAny _ _ (mkInt i >>= λ_=>_) _ _ ⟨g1,g,d,tk,os⟩;refine ao (wpAny_mkInt (ao (wpAny_setField_rec z1 (by simp) λg2 y2 k2=>?_)));have z2:MN g2 e it ((i:Int)+1) old a f:=y2;refine ao (wpAny_setField_rec z2 (by simp) λg3 y3 k3=>?_);have z3:MN g3 e it ((i:Int)+1) old a f:=y3;refine ao (wpAny_newTuple ?_);have sz:g3.objs.size=hp.objs.size:=by have a:=k3.1;have c:=k2.1;have u:=k1'.1;dsimp only at a c u;omega
 have z4:MN (g3.push {cls:=.type "tuple",data:=.seq #[.int i tk,x]}) e it ((i:Int)+1) old a f:=ae _ z3;have el:e<hp.objs.size:=aK he;have to3:∀c o,c≠e->c≠it->hp.get? c=some o->g3.get? c=some o:=λc o c1 c2 q=>k3.extBut c o c1 (k2.extBut c o c1 (k1'.extBut c o c2 q));have a4:(g3.push {cls:=.type "tuple",data:=.seq #[.int i tk,x]}).get? a=some oa:=ae _ (to3 a oa hae hai ha);have tp:(g3.push {cls:=.type "tuple",data:=.seq #[.int i tk,x]}).get? g3.objs.size=some {cls:=.type "tuple",data:=.seq #[.int i tk,x]}:=ar _ rfl;have up:∀c o,c≠e->c≠it->hp.get? c=some o->(g3.push {cls:=.type "tuple",data:=.seq #[.int i tk,x]}).get? c=some o:=λc o c1 c2 q=>ae _ (to3 c o c1 c2 q);have ti:∀o,g1.get? it=some o->(g3.push {cls:=.type "tuple",data:=.seq #[.int i tk,x]}).get? it=some o:=λo q=>ae _ (k3.extBut it o (Ne.symm hne) (k2.extBut it o (Ne.symm hne) q));show wpAny _ _ (Builtin.SmallTypes.ownedTupleIsFree (.ref e) >>= λ_=>_) _ _ _;unfold Builtin.SmallTypes.ownedTupleIsFree;refine ao (ao (wpAny_field z4 rfl (x:=rawInt a) rfl ?_));show wpAny _ _ (loadIfAlive ((a:Int).toNat) >>= λ_=>_) _ _ _;rw[bO];refine ao (W.kdx_alive a4 ?_);simp only[Option.isNone_some,b9,if_false];refine ao (wpAny_field z4 rfl (x:=.bool f) rfl ?_);cases f with
 | true=>rw[aQ (show ¬((Value.bool true != Value.bool true)=true) from λz=>nomatch z)];refine ak ?_;simp only[b9,if_false];refine ak ⟨_,rfl,?_⟩;rw[sz] at tp ⊢;exact yes x _ hx z4 (t1.to ti) tp (by rw[Heap.size_push,sz]) up
 | false=>rw[aP (show (Value.bool false != Value.bool true)=true from rfl)];refine ao (wpAny_setField_rec z4 (by simp) λg5 y5 k5=>?_);have z5:MN g5 e it ((i:Int)+1) old a true:=y5;have k5':Heap.SameBut e (g3.push {cls:=.type "tuple",data:=.seq #[.int i tk,x]}) g5:=k5;refine ak ?_;simp only[b9,if_false];refine ak ⟨_,rfl,?_⟩;have tp5:=k5'.extBut _ _ (by rw[sz];exact bz el) tp;rw[sz] at tp5 ⊢;exact yes x g5 hx z5 (t1.to λo q=>k5'.extBut it o (Ne.symm hne) (ti o q)) tp5 (by rw[k5'.1,Heap.size_push,sz]) λc o c1 c2 q=>k5'.extBut c o c1 (up c o c1 c2 q)
def Gb(h:Heap)(e it:Addr)(i:Nat):Prop:=(i=0/\∃old,IsEnum h e it 0 old)\/∃old a f oa,MN h e it i old a f/\h.get? a=some oa/\a≠e/\a≠it
theorem Gb.keep{h h':Heap}{e it:Addr}{i:Nat}{S:Addr}(x:Gb h e it i)(hS:∀o,h.get? S=some o->o.cls=.type "list")(hk:∀b o,b≠S->h.get? b=some o->h'.get? b=some o)(hS':∀o,h.get? S=some o->∃o',h'.get? S=some o')(he:e≠S):Gb h' e it i:=by
 rcases x with⟨z,old,q⟩ | ⟨old,a,f,oa,q,ha,h1,h2⟩
 ·exact .inl ⟨z,old,hk _ _ he q⟩
 ·by_cases hq:a=S
  ·subst hq;obtain⟨o',ho'⟩:=hS' oa ha;exact .inr ⟨old,a,f,o',hk _ _ he q,ho',h1,h2⟩
  ·exact .inr ⟨old,a,f,oa,hk _ _ he q,hk _ _ hq ha,h1,h2⟩
theorem wN{b:Bool}{e it l:Addr}{i:Nat}{xs:Array Value}{Q:Option Value->Shared->Prop}(st:Gb s.heap e it i)(hi:kj b s.heap it l i)(hl:iW b s.heap l xs)(hne:e≠it)(hel:e<s.heap.objs.size)(hil:it<s.heap.objs.size)
  (yes:∀x h',xs[i]? = some x->Gb h' e it (i+1)->kj b h' it l (i+1)->h'.get? s.heap.objs.size=some {cls:=.type "tuple",data:=.seq #[.int i s.toks,x]}->h'.objs.size=s.heap.objs.size+1->
   (∀c o,c≠e->c≠it->s.heap.get? c=some o->h'.get? c=some o)->Q (some (.ref s.heap.objs.size)) {s with heap:=h',toks:=s.toks+1})
  (no:xs[i]? = none->A.handled=none/\∀h',Heap.ExtBut it s.heap h'->Q none {s with heap:=h'}):wpAny (model prog w) A (pyNext (.ref e)) Q E s:=by
 rcases st with⟨rfl,old,he⟩ | ⟨old,a,f,oa,he,ha,h1,h2⟩
 ·exact tO he hi hl hne (λx h' u1 u2 u3 u4 u5 u6=>yes x h' u1 (.inr ⟨x,_,false,_,by simpa using u2,u4,bz hel,bz hil⟩) u3 u4 u5 u6) no
 ·have ty:s.TypeIs (.ref e) "enumerate" :=⟨_,he,rfl⟩;unfold pyNext;refine ao (wpAny_attempt (wpAny_callSpecial?_slot (name:=Str.ofString "__next__") ty F.slot_enumerate_next (wpAny_call_entry F.slot_enumerate_next ty F.entry_enumerate_next
   (DD he ha h1 h2 hi hl hne (λx h' u1 u2 u3 u4 u5 u6=>ak (yes x h' u1 (.inr ⟨old,a,true,oa,by simpa using u2,u6 a oa h1 h2 ha,h1,h2⟩) u3 u4 u5 u6)) λq=>⟨(no q).1,λh' x hk ⟨o,ho,hc⟩=>?_⟩) (F.args_enumerate_next_1 _))))
  exact ao (wpAny_isInstance (T:= "StopIteration") (b:=true) ⟨o,ho,hc⟩ isSubtype_stop (ak ((no q).2 h' hk)))
theorem GZ:typeLookup (.type "enumerate") "__len__" = pure none:=by rw[typeLookup_type,builtinLookup_eq_fast];kernel_rfl
theorem Dt:typeLookup (.type "enumerate") "__length_hint__" = pure none:=by rw[typeLookup_type,builtinLookup_eq_fast];kernel_rfl
def RQ(us:List Value)(lo:Addr)(h:Heap)(as:List Addr):Prop:=∀(j:Nat) (a:Addr),as[j]? = some a->lo<a/\∃t x,us[j]? = some x/\h.get? a=some {cls:=.type "tuple",data:=.seq #[.int j t,x]}
section
variable {R:Result->Shared->Prop}{us:List Value}{b:Bool}
theorem LY{S e it l:Addr}(hh:A.handled=none)(heS:e≠S)(hiS:it≠S)(hlS:l≠S)(hle:l≠e)(hli:l≠it)(hne:e≠it)(hn:us.length<=sizeLine)(res:Value){h1:Heap}(zl:e<h1.objs.size/\it<h1.objs.size/\S<h1.objs.size)
  (hR:∀h' tk acc c as,(∀c o,c≠S->c≠e->c≠it->h1.get? c=some o->h'.get? c=some o)->h'.get? S=some {cls:=.type "list",dict:=none,data:=.seq acc c,slots:=#[]}->as.length=us.length->(∀a∈as,h1.objs.size<=a)->RQ us 0 h' as->
   acc.toList=as.map Value.ref->R (.ok (.ret res)) {s with heap:=h',toks:=tk}) :
  ∀(k i:Nat) (h:Heap) (tk c:Nat) (acc:Array Value) (as:List Addr),us.length - i=k->i<=us.length->Gb h e it i->kj b h it l i->iW b h l us.toArray->(∀c o,c≠S->c≠e->c≠it->h1.get? c=some o->h.get? c=some o)->h1.objs.size<=h.objs.size->
   h.get? S=some {cls:=.type "list",dict:=none,data:=.seq acc c,slots:=#[]}->acc.toList=as.map Value.ref->as.length=i->(∀a∈as,h1.objs.size<=a)->RQ us 0 h as->
   codeAny (model prog w) A (.builtin "list.extend.loop" ⟨[.ref S,.ref e,res],[]⟩) R {s with heap:=h,toks:=tk}:=by
 intro k;induction k with
 | zero=>
  intro i h tk c acc as hk hi hst hit hsq hkeep hsz hS hacc hal hab hG;refine codeAny_builtin PySem.F.entry_extend_loop ?_;rw[Around.under_plainId PySem.F.plain_extend_loop _];show wpAny _ A.in1 (pyNext (.ref e) >>= λ_=>_) _ _ _;refine ao (wN (s:={s with heap:=h,toks:=tk}) (A:=A.in1) hst hit hsq hne (aD zl.1 hsz) (aD zl.2.1 hsz) (λx h' hx=>?_) λ_=>⟨hh,λh' ex=>?_⟩)
  ·have:us[i]? = none:=List.getElem?_eq_none (by omega);have hx':us[i]? = some x:=by simpa using hx
   rw[this] at hx';cases hx'
  ·refine ak (hR h' tk acc c as (λc o q1 q2 q3 e=>ex c o q3 (hkeep c o q1 q2 q3 e)) (ex S _ (Ne.symm hiS) hS) (by omega) hab (λj a hj=>?_) hacc);obtain⟨y,t,x,e1,e2⟩:=hG j a hj;have hb:=hab a (au hj);exact⟨y,t,x,e1,ex a _ (bz (aD zl.2.1 hb)) e2⟩
 | succ k ih=>
  intro i h tk c acc as hk hi hst hit hsq hkeep hsz hS hacc hal hab hG;have hsize:acc.size=i:=by rw[<-bx,hacc,aw,hal]
  refine codeAny_builtin PySem.F.entry_extend_loop ?_;rw[Around.under_plainId PySem.F.plain_extend_loop _];show wpAny _ A.in1 (pyNext (.ref e) >>= λ_=>_) _ _ _;refine ao (wN (s:={s with heap:=h,toks:=tk}) (A:=A.in1) hst hit hsq hne (aD zl.1 hsz) (aD zl.2.1 hsz) (λx h' hx st' it' ht hz hkp=>?_) λq=>?_)
  ·dsimp only at ht hz hkp ⊢;have hS':=hkp S _ (Ne.symm heS) (Ne.symm hiS) hS;have up:∀c o,c≠S->h'.get? c=some o->(h'.update S (Obj.mapSeq (·.push (Value.ref h.objs.size)))).get? c=some o:=λc o hb e=>(Heap.get?_update_other _ _ (Ne.symm hb)).trans e;have hsl:S<h.objs.size:=aD zl.2.2 hsz;show wpAny _ A.in1 (updateSeq S (·.push (Value.ref h.objs.size)) >>= λ_=>_) _ _ _;refine ao (wpAny_updateSeq hS' rfl (ak ⟨plainId_quiet PySem.F.plain_extend_loop _,ih (i+1) _ (tk+1) _ (acc.push (Value.ref h.objs.size)) (as++[h.objs.size]) (by omega) (by omega)
    (st'.keep (S:=S) (λo ho=>by rw[hS'] at ho;cases ho;rfl) up (λo ho=>⟨_,Heap.get?_update_self _ hS' rfl⟩) heS) (it'.to λo q=>up it o hiS q) (hsq.to λo q=>up l o hlS (hkp l o hle hli q))
    (λc o q1 q2 q3 e=>up c o q1 (hkp c o q2 q3 (hkeep c o q1 q2 q3 e))) (by rw[Heap.size_update];show h1.objs.size<=h'.objs.size;omega) (Heap.get?_update_self _ hS' rfl) (by rw[Array.toList_push,hacc,aY];rfl) (by rw[aS,hal];rfl) (λa ha=>?_) (λj a hj=>?_)⟩) (by rw[hsize];omega) (by show (acc.push (Value.ref h.objs.size)).size<=sizeLine+1;rw[Array.size_push,hsize];omega))
   ·rcases ai.mp ha with ha | ha
    ·exact hab a ha
    ·rw[aj.mp ha];exact hsz
   ·rcases cB j as.length with q | q | q
    ·rw[List.getElem?_append_left q] at hj;obtain⟨y,t,x',e1,e2⟩:=hG j a hj;have hb:=hab a (au hj);have n1:a≠S:=bz (aD zl.2.2 hb);have n2:a≠e:=bz (aD zl.1 hb);have n3:a≠it:=bz (aD zl.2.1 hb);exact⟨y,t,x',e1,up a _ n1 (hkp a _ n2 n3 e2)⟩
    ·subst q;have hb:h.objs.size=a:=by simpa using hj
     subst hb;refine⟨b7 (bH _) hsl,tk,x,by rw[hal];simpa using hx,?_⟩;rw[hal];exact up _ _ (bz hsl) ht
    ·have Q9:(as++[h.objs.size])[j]? = none:=List.getElem?_eq_none (by rw[aS,b4];omega);rw[Q9] at hj;cases hj
  ·exfalso;have:i<us.length:=by omega
   simp[this] at q
theorem CZ{e it l:Addr}{Q:Value->Shared->Prop}(hh:A.handled=none)(he:IsEnum s.heap e it 0 .none)(hi:kj b s.heap it l 0)(hl:iW b s.heap l us.toArray)(hle:l≠e)(hli:l≠it)(hne:e≠it)(hn:us.length<=sizeLine)(hil:it<s.heap.objs.size)(hll:l<s.heap.objs.size)
  (q:∀h' tk acc c as,(∀c o,c≠e->c≠it->s.heap.get? c=some o->h'.get? c=some o)->h'.get? s.heap.objs.size=some {cls:=.type "list",dict:=none,data:=.seq acc c,slots:=#[]}->as.length=us.length->(∀a∈as,s.heap.objs.size<a)->RQ us 0 h' as->
   acc.toList=as.map Value.ref->Q (.ref s.heap.objs.size) {s with heap:=h',toks:=tk}):wpAny (model prog w) A (call (.type "list") [.ref e]) Q E s:=by
 have hel:e<s.heap.objs.size:=aK he;refine callType_codes (Q₁:=λobj s₁=>obj=.ref s.heap.objs.size/\s₁={s with heap:=s.heap.push {cls:=.type "list",data:=.seq #[]}}) PySem.F.called_list (PySem.F.typeCall_list_1 _) PySem.F.entry_list_init
  (code_list_new _ ⟨rfl,rfl⟩) λobj s₁ h₁=>?_
 obtain⟨rfl,rfl⟩:=h₁;generalize hSe:s.heap.objs.size=S at *;have hS:(s.heap.push {cls:=.type "list",data:=.seq #[]}).get? S=some {cls:=.type "list",data:=.seq #[]}:=by rw[<-hSe];exact ar _ rfl
 have kp:∀c o,s.heap.get? c=some o->(s.heap.push {cls:=.type "list",data:=.seq #[]}).get? c=some o:=λc o z=>ae _ z;refine⟨⟨_,hS,rfl⟩,PySem.F.args_list_init_2 _ _,?_⟩;show wpAny _ _ (do let old <-Builtin.List.listItems (.ref S);Builtin.List.listUpdate (.ref S) (λ_=>#[]);letGo old.toList.reverse;Builtin.List.listExtendWith (.ref S) (.ref e) .none) _ _ {s with heap:=s.heap.push {cls:=.type "list",data:=.seq #[]}};refine ao ?_;unfold Builtin.List.listItems;refine ao (wpAny_seqItems hS rfl (ak ?_));show wpAny _ _ (updateSeq S (λ_=>#[]) >>= λ_=>letGo (#[]:Array Value).toList.reverse >>= λ_=>Builtin.List.listExtendWith (.ref S) (.ref e) .none) _ _ {s with heap:=s.heap.push {cls:=.type "list",data:=.seq #[]}};refine ao (wpAny_updateSeq hS rfl ?_);have hS2:=Heap.get?_update_self (Obj.mapSeq (λ_=>(#[]:Array Value))) hS rfl;have k2:∀c o,c≠S->s.heap.get? c=some o->((s.heap.push {cls:=.type "list",data:=.seq #[]}).update S (Obj.mapSeq (λ_=>(#[]:Array Value)))).get? c=some o:=λc o hb z=>(Heap.get?_update_other _ _ (Ne.symm hb)).trans (kp c o z);refine ao (wpAny_letGo ?_);have heS:e≠S:=aL hel;have hiS:it≠S:=aL hil;have hlS:l≠S:=aL hll;have he2:((s.heap.push {cls:=.type "list",data:=.seq #[]}).update S (Obj.mapSeq (λ_=>(#[]:Array Value)))).get? e=_:=k2 e _ heS he;unfold Builtin.List.listExtendWith;have ty2:Shared.TypeIs {s with heap:=(s.heap.push {cls:=.type "list",data:=.seq #[]}).update S (Obj.mapSeq (λ_=>(#[]:Array Value)))} (.ref e) "enumerate" :=⟨_,he2,rfl⟩;refine ao (wpAny_typeOf (T:= "enumerate") ty2 ?_);have g1:Builtin.List.listSameRef (.ref S) (.ref e)=false:=by simp[Builtin.List.listSameRef,Ne.symm heS]
 have g2:(Value.type "enumerate" == Value.type "list")=false:=by decide
 have g3:(Value.type "enumerate" == Value.type "tuple")=false:=by decide
 simp only[g1,g2,g3,Bool.or_false,b9,if_false];refine ao (wpAny_pyIter_enum (s:={s with heap:=(s.heap.push {cls:=.type "list",data:=.seq #[]}).update S (Obj.mapSeq (λ_=>(#[]:Array Value)))}) he2 ?_);refine ao (wpAny_holding ?_);unfold Builtin.List.listLengthHint;refine ao (wpAny_specialOf ty2 GZ ?_);show wpAny _ _ (specialOf (Value.ref e) (Str.ofString "__length_hint__") >>= λ_=>_) _ _ _;refine ao (wpAny_specialOf ty2 Dt ?_);refine ak ?_;show wpAny _ _ (rule "list.extend.makes-room" >>= λ_=>Builtin.List.listTouch (.ref S) >>= λ_=>again (.builtin "list.extend.loop" ⟨[.ref S,.ref e,.none],[]⟩)) _ _ _;refine ao (wpAny_rule (ao ?_));show wpAny _ _ (updateSeq S (·.push .none) >>= λ_=>updateSeq S (·.pop)) _ _ _;refine ao (wpAny_updateSeq hS2 rfl ?_);have hS3:=Heap.get?_update_self (Obj.mapSeq (·.push Value.none)) hS2 rfl;refine wpAny_updateSeq (hz:=by seq_fits) hS3 rfl ?_;have hS4:=Heap.get?_update_self (Obj.mapSeq (·.pop)) hS3 rfl;have k4:∀c o,c≠S->s.heap.get? c=some o->((((s.heap.push {cls:=.type "list",data:=.seq #[]}).update S (Obj.mapSeq (λ_=>(#[]:Array Value)))).update S (Obj.mapSeq (·.push Value.none))).update S (Obj.mapSeq (·.pop))).get? c=some o:=λc o hb z=>(Heap.get?_update_other _ _ (Ne.symm hb)).trans ((Heap.get?_update_other _ _ (Ne.symm hb)).trans (k2 c o hb z))
 have sz4:((((s.heap.push {cls:=.type "list",data:=.seq #[]}).update S (Obj.mapSeq (λ_=>(#[]:Array Value)))).update S (Obj.mapSeq (·.push Value.none))).update S (Obj.mapSeq (·.pop))).objs.size=S+1:=by rw[Heap.size_update,Heap.size_update,Heap.size_update,Heap.size_push,hSe]
 refine ak ⟨plainId_quiet PySem.F.plain_extend_loop _,?_⟩;generalize hh4:((((s.heap.push {cls:=.type "list",data:=.seq #[]}).update S (Obj.mapSeq (λ_=>(#[]:Array Value)))).update S (Obj.mapSeq (·.push Value.none))).update S (Obj.mapSeq (·.pop)))=h4 at *;refine LY (s:=s) (b:=b) (us:=us) (A:=A.in1) hh heS hiS hlS hle hli hne hn .none (h1:=h4) ⟨by rw[sz4];exact cj hel,by rw[sz4];exact cj hil,by rw[sz4];exact bG _⟩ (λh' tk acc c as kk hl' e1 e2 e3 e4=>⟨rfl,?_⟩)
  us.length 0 h4 _ _ #[] [] (Nat.sub_zero _) (bH _) (.inl ⟨rfl,_,k4 e _ heS he⟩) (hi.to λo z=>k4 it o hiS z) (hl.to λo z=>k4 l o hlS z) (λ_ _ _ _ _ z=>z) (aJ _) hS4 rfl rfl (λa ha=>nomatch ha) (λj a hj=>by simp at hj)
 exact q h' tk acc c as (λc o z1 z2 z3=>kk c o (λzz=>by rw[zz] at z3;exact absurd (aK z3) (by rw[hSe];exact aZ _)) z1 z2 (k4 c o (λzz=>by rw[zz] at z3;exact absurd (aK z3) (by rw[hSe];exact aZ _)) z3)) hl' e1 (λa ha=>by have:=e2 a ha;rw[sz4] at this;omega) e3 e4
end
end
end L2
namespace L2
open PySem PySem.Spec PyProof.Rows
section
variable {X:Cx}
theorem wF{fO:List (Addr×Obj)}{σ:St}{s:Shared}{us:List Value}{xs:List V}(va:ib xs us)(hsm:2<=sizeLine):∀(as:List Addr) (j:Nat) (H:Hp),gH X fO σ H s->(∀a∈as,sQ X fO H a)->as.Nodup->
  (∀(i:Nat) (a:Addr),as[i]? = some a->∃t x,us[j+i]? = some x/\s.heap.get? a=some {cls:=.type "tuple",data:=.seq #[.int ((j+i:Nat):Int) t,x]})->
  ∃H',gH X fO σ H' s/\gU H H'/\(∀a,a∉as->H' a=H a)/\∀(i:Nat) (a:Addr),as[i]? = some a->∃x,xs[j+i]? = some x/\H' a=some (.tup [.int ((j+i:Nat):Int),x])
 | [],j,H,I,_,_,_=>⟨H,I,.refl _,λ_ _=>rfl,λi a h=>by simp at h⟩
 | a::as,j,H,I,hf,nd,hg=>by
  obtain⟨t,u,e1,e2⟩:=hg 0 a rfl;obtain⟨f0,f1,f2,f3,f4,f5⟩:=hf a (by simp);have hj:j+0<xs.length:=by rw[va.length];exact (aa.mp e1).1
  have hx:xs[j+0]? = some xs[j+0]:=ag hj;obtain⟨u',e3,ru⟩:=va.get hx;rw[e1] at e3;cases e3;have I1:gH X fO σ (jx H a (.tup [.int ((j+0:Nat):Int),xs[j+0]])) s:=I.track f0 f3 f1 f4 f5 ⟨hsm,[.int ((j+0:Nat):Int) t,u],.cons ⟨_,rfl⟩ (.cons ru .nil),⟨_,e2,rfl,_,rfl⟩⟩;obtain⟨nd1,nd2⟩:=bK.mp nd;obtain⟨H',I',s',o',g'⟩:=wF va hsm as (j+1) _ I1 (λb hb=>by obtain⟨g0,gr⟩:=hf b (by simp[hb]);have ne:b≠a:=λz=>nd1 (z▸hb);exact⟨by rw[gA ne];exact g0,gr⟩) nd2 (λi b hb=>by obtain⟨t',x',q1,q2⟩:=hg (i+1) b (by simpa using hb);rw[show j+(i+1)=j+1+i by omega] at q1 q2;exact⟨t',x',q1,q2⟩)
  refine⟨H',I',(nF f0).trans s',λb hb=>?_,λi b hb=>?_⟩
  ·rw[o' b (λz=>hb (by simp[z])),gA (λz=>hb (by simp[z]))]
  ·cases i with
   | zero=>simp at hb;subst hb;exact⟨_,hx,s' _ _ gC⟩
   | succ i=>obtain⟨x',q1,q2⟩:=g' i b (by simpa using hb);rw[show j+1+i=j+(i+1) by omega] at q1 q2;exact⟨x',q1,q2⟩
def RI(K:W.Frag)(ta:TA):TE:=λσ H Q=>ta σ H λvs H1=>∃b l xs,vs=[.ref l]/\vm K H1 b l xs/\∀(p:Addr) (as:List Addr) (H':Hp),gU H1 H'->H1 p=none->H' p=some (.lst (as.map V.ref))->as.length=xs.length->
 (∀(i:Nat) (a:Addr),as[i]? = some a->H1 a=none/\a≠p/\∃x,xs[i]? = some x/\H' a=some (.tup [.int (i:Int),x]))->Q (.ref p) H'
theorem IU{a:Expr}{ta:TA}{p1 p2 pos pos2:Pos}(hc:X.calm=true)(hg:Gl X "list")(hm:X.mg "list" = none)(hg2:Gl X "enumerate")(hm2:X.mg "enumerate" = none)(ha:PA X [a] ta)(hs:starEach [a] X.env=[(false,eval a X.env)]:=by rfl)
  (he:starEach [Expr.Call (.Name "enumerate" p2) [a] [] pos2] X.env=[(false,eval (.Call (.Name "enumerate" p2) [a] [] pos2) X.env)]:=by rfl) :
  PE X (.Call (.Name "list" p1) [.Call (.Name "enumerate" p2) [a] [] pos2] [] pos) (RI X.K ta):=by
 intro fO s σ H Q I h;refine wpAny_Call_Name_kw (pG I hg hm (by decide +kernel:bootBuiltins "list" = some (.type "list")) ?_);refine PyProof.Rows.callWith_type1 ?_ he rfl;rw[he];show wpAny _ _ (spliced ((false,eval (.Call (.Name "enumerate" p2) [a] [] pos2) X.env)::[])) _ _ s;refine Calls.spliced_cons (Call_ (pG I hg2 hm2 boot_enumerate (PyProof.Rows.callWith_type1 (jN (ha pos2 fO s σ H _ I h) λus s1 ⟨vs,H1,I1,r1,q1⟩=>?_) hs rfl)));obtain⟨b,l,xs,rfl,hq,q⟩:=q1;obtain⟨u,rfl,rx⟩:=oH r1;cases rx;obtain⟨us,rv,p1',hz⟩:=I1.seqB hq;refine yX p1' λh' hen hit hsz hk=>Calls.spliced_nil ?_;have ll:l<s1.heap.objs.size:=by obtain⟨o,n,e,_⟩:=p1'.look;exact aK e
 have kT:=rv.length;refine CZ (s:={s1 with heap:=h'}) (b:=b) (us:=us) (I1.ok.hd hc) hen hit (p1'.to λo e=>hk l o e) (aL (cj ll)) (aL ll) (Nat.succ_ne_self _) (by rw[<-kT];exact hz) (by show _<h'.objs.size;rw[hsz];omega) (by show _<h'.objs.size;rw[hsz];exact aD ll (cm _ _)) λh2 tk acc c as k2 hS hal hab hG hacc=>?_;dsimp only at k2 hS hab;have kk:∀b o,s1.heap.get? b=some o->h2.get? b=some o:=λb o e=>by have lt:=aK e;exact k2 b o (aL (cj lt)) (aL lt) (hk b o e)
 have I2:gH X fO σ H1 {s1 with heap:=h2,toks:=tk}:=I1.kept (t':=tk) kk;have fp:∀b,s1.heap.objs.size<=b->sQ X fO H1 b:=λb hb=>I1.fpOk hb (I1.hok.fresh hb);have hab':∀a∈as,s1.heap.objs.size<=a:=λa ha=>by have:=hab a ha;rw[hsz] at this;omega
 have nd:as.Nodup:=by refine cC.mpr λi j hi hj hij e=>?_;obtain⟨_,t1,x1,_,g1⟩:=hG i _ (ag hi);obtain⟨_,t2,x2,_,g2⟩:=hG j _ (ag hj);rw[e,g2] at g1;simp at g1;omega
 obtain⟨H',I3,s3,o3,g3⟩:=wF rv (by decide) as 0 H1 I2 (λa ha=>fp a (hab' a ha)) nd (λi a ha=>by obtain⟨_,t,x,e1,e2⟩:=hG i a ha;rw[aF];exact⟨t,x,e1,e2⟩)
 have pn:h'.objs.size∉as:=λhm=>aZ _ (hab _ hm);have hp1:H1 h'.objs.size=none:=I1.hok.fresh (by rw[hsz];omega);obtain⟨f0,f1,f2,f3,f4,f5⟩:=fp h'.objs.size (by rw[hsz];omega);have va:ib (as.map V.ref) acc.toList:=by
  rw[hacc];refine qj (by simp) λi v hv=>?_;rw[av] at hv ⊢;cases hi:as[i]? with
  | none=>rw[hi] at hv;cases hv
  | some a'=>rw[hi] at hv;cases hv;exact⟨_,rfl,rfl⟩
 have I4:gH X fO σ (jx H' h'.objs.size (.lst (as.map V.ref))) {s1 with heap:=h2,toks:=tk}:=I3.track (by rw[o3 _ pn];exact f0) f3 f1 f4 f5 ⟨by rw[aw,hal,<-kT];exact hz,acc.toList,c,va,by simpa using hS⟩;refine⟨.ref h'.objs.size,_,I4,rfl,q _ as _ (s3.trans (nF (by rw[o3 _ pn];exact f0))) hp1 gC (by rw[hal,kT]) λi a ha=>?_⟩;have hm:=au ha;have ne:a≠h'.objs.size:=λz=>pn (z▸hm);obtain⟨x,e1,e2⟩:=g3 i a ha;rw[aF] at e1 e2;exact⟨I1.hok.fresh (hab' a hm),ne,x,e1,by rw[gA ne];exact e2⟩
end
end L2
namespace HT
open PySem PySem.Spec PyProof.Rows
section
variable {prog:Program}{w:World}{A:Around}{E:Value->Shared->Prop}{s:Shared}
theorem pick_rev(xs:Array Value):((List.range xs.size).filterMap λ(m:Nat)=>xs[(((xs.size:Int) - 1)+(m:Int)*(-1)).toNat]?).toArray=xs.toList.reverse.toArray:=by
 congr 1;have e:∀n,n<=xs.size->(List.range n).filterMap (λ(m:Nat)=>xs[(((xs.size:Int) - 1)+(m:Int)*(-1)).toNat]?)=(xs.toList.reverse).take n:=by
  intro n;induction n with
  | zero=>intro _;simp
  | succ n ih=>
   intro h;have hn:n<xs.toList.reverse.length:=by simp;omega
   rw[List.range_succ,List.filterMap_append,ih (by omega),List.take_succ,ag hn];congr 1;have k:(((xs.size:Int) - 1)+(n:Int)*(-1)).toNat=xs.size - 1 - n:=by omega
   simp only[bh,List.filterMap_nil,k];rw[Array.getElem?_eq_getElem (by omega)];simp
 rw[e xs.size (aJ _),cx (by simp)]
theorem tF{sl:Addr}{tk:Tok}{n:Nat}{Q:Int×Int×Nat->Shared->Prop}(hs:s.heap.IsSliceOf sl .none .none (.int (-1) tk))
  (h:Q ((n:Int) - 1,-1,n) s):wpAny (model prog w) A (Builtin.Slice.sliceApplied (.ref sl) (pure (n:Int))) Q E s:=by
 obtain⟨os,hos,hcs,hds⟩:=id hs;unfold Builtin.Slice.sliceApplied Builtin.Slice.sliceFields;refine ao (ao (wpAny_field hos hds (x:=.none) rfl (ao (wpAny_field hos hds (x:=.none) rfl (ao (wpAny_field hos hds (x:=.int (-1) tk) rfl (ak ?_)))))));refine ao (rA (o:=some (-1)) (.int (-1) tk) ?_);show wpAny _ _ (if ((-1:Int) == 0)=true then _ else _) _ _ s;rw[aQ (by decide)];refine ao (slicePart_none (ao (slicePart_none (ao (ak ?_)))));have hp:Builtin.Slice.slicePlaces ((n:Int) - 1) (-1) (-1)=n:=by
  unfold Builtin.Slice.slicePlaces;by_cases h0:n=0
  ·subst h0;decide
  ·rw[aQ (by decide),aP (by omega)];have:((n:Int) - 1 - -1 - 1) / (- -1)=(n:Int) - 1:=by rw[show (- -1:Int)=1 by decide,bP];omega
   rw[this];omega
 show wpAny _ _ (pure ((n:Int) - 1,(-1:Int),Builtin.Slice.slicePlaces ((n:Int) - 1) (-1) (-1))) _ _ s;rw[hp];exact ak h
theorem getItem_tuple_rev{t sl:Addr}{tk:Tok}{items:Array Value}{Q:Value->Shared->Prop}(ht:IsTup s.heap t items)(hs:s.heap.IsSliceOf sl .none .none (.int (-1) tk))
  (h:Q (.ref s.heap.objs.size) {s with heap:=s.heap.push {cls:=.type "tuple",data:=.seq items.toList.reverse.toArray}})
  (hsz:items.size<=sizeLine):wpAny (model prog w) A (getItem (.ref t) (.ref sl)) Q E s:=by
 have sW:sizeOk (.seq items.toList.reverse.toArray):=by show items.toList.reverse.toArray.size<=sizeLine;rw[bD,cD,bx];exact hsz
 obtain⟨os,hos,hcs,hds⟩:=id hs;have hTs:s.TypeIs (.ref sl) "slice" :=⟨os,hos,hcs⟩;unfold getItem;try with_reducible refine wpAny_holding ?_;first | refine ao (ak ?_) | skip
 refine ao (wpAny_sequenceKey ht.typeIs (by decide) ?_);refine ao (wpAny_callSpecial?_slot (name:=Str.ofString "__getitem__") ht.typeIs PyProof.Rows.slot_tuple_getitem
  (wpAny_call_entry PyProof.Rows.slot_tuple_getitem ht.typeIs entry_tuple_getitem ?_ (args_tuple_getitem _ _)))
 show wpAny _ _ (Builtin.Tuple.tupleItemsOf (.ref t) >>= _) _ _ s;refine ao (tupleItemsOf_ ht ?_);refine ao (wpAny_typeOf hTs ?_);rw[aP (by decide)];refine ao (tF (n:=items.size) hs ?_);have hno:¬((((items.size:Int) - 1) == 0&&(-1:Int) == 1&&items.size == items.size)=true):=by intro q;rw[bS,bS] at q;exact absurd q.1.2 (by decide)
 show wpAny _ _ (if (((items.size:Int) - 1) == 0&&(-1:Int) == 1&&items.size == items.size)=true then _ else _) _ _ s;rw[aQ hno,pick_rev];first
  | exact ao (m:=Builtin.Tuple.tupleExact _) (wpAny_newObj_type (ak ⟨_,rfl,ak h⟩) sW)
  | exact ao (m:=Builtin.Tuple.tupleExact _) (wpAny_newObj_type (ao (ak (ak ⟨_,rfl,ak h⟩))) sW)
  | exact ao (ao (m:=Builtin.Tuple.tupleExact _) (wpAny_newObj_type (ak (ak ⟨_,rfl,ak h⟩)) sW))
  | exact ao (ao (m:=Builtin.Tuple.tupleExact _) (wpAny_newObj_type (ak ⟨_,rfl,ak h⟩) sW))
end
end HT
namespace L2
open PySem PySem.Spec PyProof.Rows
theorem yf(its:List Value):slicePick its.toArray none none (some (-1))=its.reverse.toArray:=by
 unfold slicePick;have h:sliceBounds none none (some (-1)) its.toArray.size=((its.toArray.size:Int) - 1,-1,-1):=by simp[sliceBounds]
 rw[h];have:sliceRange ((its.toArray.size:Int) - 1) (-1) (-1)=(List.range its.toArray.size).map λ(m:Nat)=>(((its.toArray.size:Int) - 1)+(m:Int)*(-1)).toNat:=by
  generalize its.toArray.size=n;unfold sliceRange;have hc:(if (-1:Int)>0 then (if (n:Int) - 1 < -1 then (-1 - ((n:Int) - 1) + -1 - 1) / -1 else 0) else (if (n:Int) - 1 > -1 then ((n:Int) - 1 - -1 - -1 - 1) / (- -1) else 0))=(n:Int):=by
   rw[aQ (by decide)];by_cases h0:n=0
   ·subst h0;decide
   ·rw[aP (by omega),show (- -1:Int)=1 by decide,bP];omega
  simp only[hc];rw[bO];refine cE λk _=>?_;congr 1;omega
 rw[this,bQ];exact HT.pick_rev its.toArray
section
variable {X:Cx}{e st:Expr}{te ts:TE}{p2 pos:Pos}
def R9(K:W.Frag):V->Hp->VK->Prop:=λx H Q=>(∃a xs,x=.ref a/\k9 K H a xs/\∀p,H p=none->Q (.ref p) (jx H p (.lst xs.reverse)))\/∃a xs,x=.ref a/\mB K H a xs/\∀p,H p=none->Q (.ref p) (jx H p (.tup xs.reverse))
def R5(K:W.Frag)(te ts:TE):TE:=λσ H Q=>te σ H λx H1=>HV ts σ H1 λo H2=>o=some (-1)/\R9 K x H2 Q
theorem OD(he:PE X e te)(hs:PE X st ts):PE X (.Subscript e (.Slice none none (some st) p2) pos) (R5 X.K te ts):=by
 intro fO s σ H Q I h;refine Subscript_ (jN (he fO s σ H _ I h) λv s1 ⟨x,H1,I1,r1,q1⟩=>?_);refine wpAny_Slice ?_;rw[evalPart_none];refine ak ?_;refine ak ?_;refine jN (Fe hs fO s1 σ H1 (λo H2=>o=some (-1)/\R9 X.K x H2 Q) I1 q1) λvs s2 ⟨o,H2,I2,ps,ho,q2⟩=>?_;subst ho;cases ps with
 | int i tk=>
 have I4:gH X fO σ H2 {s2 with heap:=s2.heap.push {cls:=.type "slice",data:=.fields #[.none,.none,.int (-1) tk]}}:=I2.kept (t':=s2.toks) λb ob q=>ae _ q;have hsl:({s2 with heap:=s2.heap.push {cls:=.type "slice",data:=.fields #[.none,.none,.int (-1) tk]}}:Shared).heap.IsSliceOf s2.heap.objs.size .none .none (.int (-1) tk):=Heap.IsSliceOf.new ..;have key:∃T id,typeLookup (.type T) "__getitem__" = pure (some (.builtin id))/\({s2 with heap:=s2.heap.push {cls:=.type "slice",data:=.fields #[.none,.none,.int (-1) tk]}}:Shared).TypeIs v T/\wpAny (model X.prog X.w) X.A (getItem v (.ref s2.heap.objs.size)) (EP X fO σ Q) X.xe {s2 with heap:=s2.heap.push {cls:=.type "slice",data:=.fields #[.none,.none,.int (-1) tk]}}:=by
  generalize ({s2 with heap:=s2.heap.push {cls:=.type "slice",data:=.fields #[.none,.none,.int (-1) tk]}}:Shared)=s4 at I4 hsl ⊢;rcases q2 with⟨a,xs,rfl,hx,q⟩ | ⟨a,xs,rfl,hx,q⟩
  ·cases r1;obtain⟨its,r,ht,hz⟩:=I4.list hx;have kT:=r.length;refine⟨"list",_,slot_list_getitem.lookup,ht.isList.typeIs,?_⟩;refine wpAny_getItem_list_slice ht.isList hsl .none .none (.int (-1) tk) (by simp) ?_ (by rw[bD]<;>omega);rw[yf];refine⟨.ref s4.heap.objs.size,_,I4.laid (t':=s4.toks) (o:=.lst xs.reverse) (λb ob q=>ae _ q) (aJ _) ?_,rfl,q _ (I4.hok.fresh (aJ _))⟩;exact⟨by rw[cD];exact hz,_,0,r.reverse,ar _ rfl⟩
  ·cases r1;obtain⟨its,r,ht,hz⟩:=I4.tuple hx;have kT:its.toArray.size=xs.length:=by rw[bD];exact r.length.symm
   refine⟨"tuple",_,PyProof.Rows.slot_tuple_getitem.lookup,ht.typeIs,?_⟩;refine HT.getItem_tuple_rev ht hsl ?_ (by rw[kT];exact hz);refine⟨.ref s4.heap.objs.size,_,I4.laid (t':=s4.toks) (o:=.tup xs.reverse) (λb ob q=>ae _ q) (aJ _) ?_,rfl,q _ (I4.hok.fresh (aJ _))⟩;exact⟨by rw[cD];exact hz,_,r.reverse,IsTup.new _ _⟩
 obtain⟨T,id,hT,ht,hg⟩:=key;show wpAny (model X.prog X.w) X.A (subscriptTail e (.Slice none none (some st) p2) v (.ref s2.heap.objs.size)) (EP X fO σ Q) X.xe {s2 with heap:=s2.heap.push {cls:=.type "slice",data:=.fields #[.none,.none,.int (-1) tk]}};exact tail_any (ops:=[v,.ref s2.heap.objs.size]) ht hT hg (by with_unfolding_all rfl)
end
end L2
namespace Cu
def G(a b:Int):Int:=(Int.gcd a b:Nat)
theorem Ai(a b:Int):G b (Int.fmod a b)=G a b:=by
 unfold G;have e:Int.fmod a b=a - b*Int.fdiv a b:=Int.fmod_def a b;rw[e];congr 1;apply Nat.dvd_antisymm
 ·apply Int.dvd_gcd
  ·have h1:=cF b (a - b*Int.fdiv a b);have h2:=cG b (a - b*Int.fdiv a b);have h3:=Int.dvd_add h2 (cH (c:=Int.fdiv a b) h1);have h4:a - b*Int.fdiv a b+b*Int.fdiv a b=a:=by omega
   rw[h4] at h3;exact h3
  ·exact cF b _
 ·apply Int.dvd_gcd
  ·exact cG a b
  ·exact Int.dvd_sub (cF a b) (cH (cG a b))
theorem yy(a b:Int)(h:b≠0):(Int.fmod a b).natAbs<b.natAbs:=by
 rcases Int.lt_or_gt_of_ne h with h' | h'
 ·have h1:=cI (-a) (show 0 < -b by omega);have h2:=cJ (-a) (show 0 < -b by omega);rw[Int.neg_fmod_neg] at h1 h2;omega
 ·have h1:=cI a h';have h2:=cJ a h';omega
theorem QE(a b:Int):G (a.natAbs:Int) (b.natAbs:Int)=G a b:=by unfold G Int.gcd;rw[cK,cK]
theorem Cy(a:Int):G a 0=(a.natAbs:Int):=by unfold G;rw[Int.gcd_zero_right]
theorem wX(a b:Int):0<=G a b:=Int.natCast_nonneg _
theorem J9(a b:Int)(h:b≠0):0<G a b:=by have:0<Int.gcd a b:=cL a h;unfold G;omega
theorem nJ(a b:Int):G a b ∣ a:=cF a b
theorem lI(a b:Int):G a b ∣ b:=cG a b
theorem Pp(a b:Int)(h:b≠0):G a b<=(b.natAbs:Int):=by have:=Int.natAbs_dvd_natAbs.mpr (lI a b);have h2:=Nat.le_of_dvd (by omega) this;have:=wX a b;omega
structure R6(t b p q:Int):Prop where
 pos:0<q
 one:G p q=1
 is:p*b=t*q
theorem v8{t b g p q:Int}(hb:b≠0)(hg:g≠0)(hG:g=G t b\/g = - G t b)(hs:0<q)(ht:t=g*p)(hb':b=g*q):R6 t b p q:=by
 refine⟨hs,?_,?_⟩
 ·have h1:Int.gcd t b=g.natAbs*Int.gcd p q:=by rw[ht,hb',Int.gcd_mul_left]
  have h2:g.natAbs=Int.gcd t b:=by unfold G at hG;omega
  rw[h2] at h1;have h3:0<Int.gcd t b:=cL t hb;have h4:Int.gcd p q=1:=by
   have:Int.gcd t b*1=Int.gcd t b*Int.gcd p q:=by rw[<-h1,Nat.mul_one]
   exact (Nat.eq_of_mul_eq_mul_left h3 this).symm
  unfold G;rw[h4];rfl
 ·have:p*(g*q)=g*p*q:=by rw[<-cO,cP p g]
  rw[<-hb',<-ht] at this;exact this
theorem nX(g p:Int)(hg:g≠0):Int.fdiv (g*p) g=p:=by exact cQ p hg
theorem BP(t b:Int)(hb:b≠0):R6 t b (Int.fdiv t (if b<0 then - G t b else G t b)) (Int.fdiv b (if b<0 then - G t b else G t b)):=by
 have hG:=J9 t b hb;obtain⟨p,hp⟩:=nJ t b;obtain⟨q,hq⟩:=lI t b;by_cases h:b<0
 ·rw[aP h];have ht:t=(-G t b)*(-p):=by rw[Int.neg_mul_neg];exact hp
  have hb':b=(-G t b)*(-q):=by rw[Int.neg_mul_neg];exact hq
  have e1:Int.fdiv t (-G t b) = -p:=by have:=nX (-G t b) (-p) (by omega);rw[<-ht] at this;exact this
  have e2:Int.fdiv b (-G t b) = -q:=by have:=nX (-G t b) (-q) (by omega);rw[<-hb'] at this;exact this
  rw[e1,e2];refine v8 (g:=-G t b) hb (by omega) (Or.inr rfl) ?_ ht hb';by_cases hq':0 < -q
  ·exact hq'
  ·exfalso;have:0<=q:=by omega
   have:=aO (az hG) this;omega
 ·rw[aQ h];have e1:Int.fdiv t (G t b)=p:=by have:=nX (G t b) p (by omega);rw[<-hp] at this;exact this
  have e2:Int.fdiv b (G t b)=q:=by have:=nX (G t b) q (by omega);rw[<-hq] at this;exact this
  rw[e1,e2];refine v8 (g:=G t b) hb (by omega) (Or.inl rfl) ?_ hp hq;by_cases hq':0<q
  ·exact hq'
  ·exfalso;have:0<=-q:=by omega
   have:=aO (az hG) this;rw[Int.mul_neg] at this;omega
end Cu
namespace Cu
open PySem PyProof.Rows
open PySem.Builtin.Int (intBits)
theorem noPy{x y:Int}{m:Nat}(h:intBits y<=m)(hm:m<=8000):PySem.Builtin.divisionGoesByPylong x y=false:=by
 refine PyProof.noPylong_of_log2 ?_;rcases cS y.natAbs with h0 | hp
 ·rw[h0];decide
 ·refine (Nat.log2_lt (bz hp)).mpr ?_;exact lt_pow_of_bits h (by omega)
end Cu
namespace L2
open PySem PySem.Spec PyProof.Rows
theorem J7{X:Cx}:kU X (.builtin "isinstance") (λxs H Q=>∃x T t b,xs=[x,.ty T]/\qr X.K H x t/\W.kitOne X.K t (.type T)=some b/\Q (.bl b) H):=by
 intro fO s σ H xs us Q I r h;obtain⟨x,T,t,b,rfl,ty,e,q⟩:=h;cases r with
 | cons r1 r2=>
  cases r2 with
  | cons r3 r4=>cases r4;cases (show _=Value.type T from r3);exact Fo I r1 ty e λtk=>⟨.bl b,H,I.tok tk,rfl,q⟩
theorem Nu:bootBuiltins "isinstance" = some (.builtin "isinstance"):=by decide +kernel
theorem zR:bootBuiltins "abs" = some (.builtin "abs"):=by decide +kernel
theorem Av:bootBuiltins "int" = some (.type "int"):=by decide +kernel
theorem ED:bootBuiltins "bool" = some (.type "bool"):=by decide +kernel
theorem iQ:bootBuiltins "tuple" = some (.type "tuple"):=by decide +kernel
theorem jz:bootBuiltins "len" = some (.builtin "len"):=by decide +kernel
end L2
namespace L2
open PySem PySem.W PySem.Spec PyProof.Rows
theorem FQ{l:W.OpenLaw}{n k:Nat}{q:Program}{loose:List Str}{XP:(Str->Option Value)->Heap->Prop}{YP:World->Heap->Prop}{d:DefRec}{K:Params->W.Frag}{CX:FD}{sp:W.Frag->Sp}{x:Str}
  (hn:l.most=some n) (hn2:n<=sizeLine) (hdf:d.params.defaults=[]) (hr:ju k callerA)
  (hY:∀(w:World) (h:Heap),YP w h->(K w.params).In h)
  (F:∀(w:World) (mg:Str->Option Value) (fa:Addr) (h:Heap),(K w.params).In h->h.Ns mainGlobals mg->mg d.name=some (.ref fa)->
   ∃fd:FuncData,(∀(s:Shared) (u:Value),BindsTo s fd ⟨[u],[]⟩ [(x,u)])/\
    ∀base:Heap,(K w.params).In base->base.Ns mainGlobals mg->nT l.prog w (K w.params) mg base CX k fa fd [x] (sp (K w.params)))
  (hsp:∀(K:W.Frag) (H:Hp) (a:Addr) (ns:List Int),ns.length<=n->(∀z∈ns,PySem.Builtin.Int.intBits z<=2 ^ 20)->OU H->k9 K H a (ns.map V.int)->sp K [.ref a] H (λv _=>v=.bl true) λ_ _ _=>False)
  (hCX:∀(H:Hp) (s:Shared) (e:Value) (s':Shared),CX [] H s (λ_ _ _=>False) e s'->False) :
  W.WalkO q loose XP YP l.row.toRowW d [] (λf vs=>PySem.call f vs):=by
 intro w s₀ s₁ mg mb G Y fa o pm cd doc dV kV ho hd hcd hD hmg hg args vals as hpre hlay hrd hwl hlo;obtain rfl:dV=.none:=Dflts.none hD hdf;obtain rfl:kV=.none:=Dflts.noKw hD;obtain⟨a,vs,ns,rfl,rfl,hobj,hints,kT⟩:=Att.script_of hn hpre hwl;have hb:∀z∈ns,PySem.Builtin.Int.intBits z<=2 ^ 20:=λz hz=>by have h1:=(layW_cons hlay).1;have h2:=layableW_item h1 (WData.int z) (aC.mpr ⟨z,hz,rfl⟩);exact PyData.bits_of_layable (layable_int h2)
 have KX:=hY w _ Y;obtain⟨fd,hbd,hF⟩:=F w mg fa _ KX G.T.g hmg;refine enter_call (codeAny_mono (HR KX G.T.g G.T.b G.T.builtins G.T.nolimit hg hobj hints (aM kT hn2) hr hF hbd (λH hO hS=>hsp _ H a ns kT hb hO hS) λH e s'=>hCX H s₁ e s') λr s' hq=>?_);obtain⟨rfl,h2,h3,h4⟩:=hq;exact⟨.inl ⟨.bool true,.bool true,[],rfl,λ_=>rfl,.bool true,Att.post_true l _,λ_=>⟨List.Pairwise.nil,λ_ hm=>(nomatch hm)⟩⟩,h2,h3,h4⟩
end L2
namespace Cu
open PySem PyProof.Rows
open PySem.Builtin.Int (intBits)
end Cu
namespace L2
end L2
namespace Cu
open PySem PyProof.Rows
open PySem.Builtin.Int (intBits)
end Cu
namespace L2
open PySem PySem.Spec PyProof.Rows
end L2
namespace C4
def Par(c e:List Int):Prop:=∀i j,i<c.length->j<c.length->c.getD i 0*e.getD j 0=c.getD j 0*e.getD i 0
theorem par_of_place{c e:List Int}{p:Nat}(hp:c.getD p 0≠0)(h:∀i,i<c.length->c.getD i 0*e.getD p 0=e.getD i 0*c.getD p 0):Par c e:=λi j hi hj=>by have h1:=h i hi;have h2:=h j hj;refine Int.eq_of_mul_eq_mul_right hp ?_;have a1:c.getD i 0*e.getD j 0*c.getD p 0=c.getD i 0*(e.getD j 0*c.getD p 0):=cO _ _ _;have a2:c.getD j 0*e.getD i 0*c.getD p 0=c.getD j 0*(e.getD i 0*c.getD p 0):=cO _ _ _;rw[a1,a2,<-h1,<-h2,<-cO,<-cO,cP (c.getD i 0) (c.getD j 0)]
end C4
namespace L3
open PySem L2
inductive T where
 | non | bl (b:Bool) | int (i:Int) | str (x:Str)
 | tup (ts:List T) | lst (ts:List T) | scr (ns:List Int)
 | obj (C:Addr) (fs:List (Str×T)) | emp
inductive M(α:Type) where
 | bad | ok (a:α) | er (C:Addr) (n:Option Int)
namespace M
noncomputable def bind{α β:Type}(m:M α)(k:α->M β):M β:=match m with
 | .bad=>.bad
 | .ok a=>k a
 | .er C n=>.er C n
instance:Monad M where
 pure:=.ok
 bind:=M.bind
noncomputable def res{α:Type}(m:M α)(P:α->Prop)(E:Addr->Option Int->Prop):Prop:=match m with
 | .bad=>False
 | .ok a=>P a
 | .er C n=>E C n
theorem res.unb{α β:Type}{m:M α}{k:α->M β}{P:β->Prop}{E:Addr->Option Int->Prop}(h:res (m.bind k) P E):res m (λa=>res (k a) P E) E:=by cases m<;>exact h
theorem res.mono{α:Type}{m:M α}{P P':α->Prop}{E E':Addr->Option Int->Prop}(h:res m P E)(hP:∀a,P a->P' a)(hE:∀C n,E C n->E' C n):res m P' E':=by
 cases m with
 | bad=>exact h
 | ok a=>exact hP a h
 | er C n=>exact hE C n h
noncomputable def noEr{α:Type}(m:M α):M α:=match m with
 | .er _ _=>.bad
 | m=>m
theorem res.noEr{α:Type}{m:M α}{P:α->Prop}{E E':Addr->Option Int->Prop}(h:res m.noEr P E):res m P E':=by
 cases m with
 | bad=>exact h
 | ok a=>exact h
 | er C n=>exact h.elim
@[simp] theorem bind_ok{α β:Type}(a:α)(k:α->M β):M.bind (.ok a) k=k a:=rfl
@[simp] theorem QR{α β:Type}(k:α->M β):M.bind (.bad:M α) k=.bad:=rfl
@[simp] theorem Rf{α β:Type}(C:Addr)(n:Option Int)(k:α->M β):M.bind (.er C n:M α) k=.er C n:=rfl
noncomputable def NoE{α:Type}(m:M α):Prop:=∀C n,m≠.er C n
theorem res.ne{α:Type}{m:M α}{P:α->Prop}{E E':Addr->Option Int->Prop}(h:res m P E)(ne:NoE m):res m P E':=by
 cases m with
 | bad=>exact h
 | ok a=>exact h
 | er C n=>exact absurd rfl (ne C n)
@[simp] theorem noEr_ok{α:Type}(a:α):noEr (.ok a)=.ok a:=rfl
end M
mutual
inductive lN(K:W.Frag)(F:Hp):V->T->Prop
 | non:lN K F .non .non
 | bl (b:Bool):lN K F (.bl b) (.bl b)
 | int (i:Int):lN K F (.int i) (.int i)
 | str (x:Str):lN K F (.str x) (.str x)
 | tup {a:Addr} {xs:List V} {ts:List T} (h:F a=some (.tup xs)) (r:gL K F xs ts):lN K F (.ref a) (.tup ts)
 | lst {a:Addr} {xs:List V} {ts:List T} (h:F a=some (.lst xs)) (r:gL K F xs ts):lN K F (.ref a) (.lst ts)
 | scr {a:Addr} {ns:List Int} (h:k9 K F a (ns.map V.int)):lN K F (.ref a) (.scr ns)
 | obj {a C dx:Addr} {fs:List (Str×V)} {ts:List (Str×T)} (h:F a=some (.ins C dx fs)) (r:oQ K F fs ts):lN K F (.ref a) (.obj C ts)
 | emp {a:Addr} (h:F a=some (.dK [])):lN K F (.ref a) .emp
inductive gL(K:W.Frag)(F:Hp):List V->List T->Prop
 | nil:gL K F [] []
 | cons {v:V} {t:T} {vs:List V} {ts:List T} (h:lN K F v t) (r:gL K F vs ts):gL K F (v::vs) (t::ts)
inductive oQ(K:W.Frag)(F:Hp):List (Str×V)->List (Str×T)->Prop
 | nil:oQ K F [] []
 | cons {x:Str} {v:V} {t:T} {vs:List (Str×V)} {ts:List (Str×T)} (h:lN K F v t) (r:oQ K F vs ts):oQ K F ((x,v)::vs) ((x,t)::ts)
end
section
variable {K:W.Frag}{F F':Hp}
mutual
theorem lN.mono(s:gU F F'):∀{v:V} {t:T},lN K F v t->lN K F' v t
 | _,_,.non=>.non
 | _,_,.bl b=>.bl b
 | _,_,.int i=>.int i
 | _,_,.str x=>.str x
 | _,_,.tup h r=>.tup (s _ _ h) (gL.mono s r)
 | _,_,.lst h r=>.lst (s _ _ h) (gL.mono s r)
 | _,_,.scr h=>.scr (s.seq h)
 | _,_,.obj h r=>.obj (s _ _ h) (oQ.mono s r)
 | _,_,.emp h=>.emp (s _ _ h)
theorem gL.mono(s:gU F F'):∀{vs:List V} {ts:List T},gL K F vs ts->gL K F' vs ts
 | _,_,.nil=>.nil
 | _,_,.cons h r=>.cons (lN.mono s h) (gL.mono s r)
theorem oQ.mono(s:gU F F'):∀{vs:List (Str×V)} {ts:List (Str×T)},oQ K F vs ts->oQ K F' vs ts
 | _,_,.nil=>.nil
 | _,_,.cons h r=>.cons (lN.mono s h) (oQ.mono s r)
end
theorem gL.length:∀{vs:List V} {ts:List T},gL K F vs ts->vs.length=ts.length
 | _,_,.nil=>rfl
 | _,_,.cons _ r=>by rw[ay,ay,gL.length r]
theorem gL.get:∀{vs:List V} {ts:List T} {i:Nat} {t:T},gL K F vs ts->ts[i]? = some t->∃v,vs[i]? = some v/\lN K F v t
 | _,_,_,_,.nil,e=>by simp at e
 | _,_,0,_,.cons h _,e=>by simp at e;subst e;exact⟨_,rfl,h⟩
 | _,_,i+1,_,.cons _ r,e=>by obtain⟨v,e',h⟩:=gL.get (i:=i) r (by simpa using e);exact⟨v,by simpa using e',h⟩
theorem gL.at_{vs:List V}{ts:List T}{i:Nat}{v:V}(r:gL K F vs ts)(e:vs[i]? = some v):∃t,ts[i]? = some t/\lN K F v t:=by
 have hi:i<ts.length:=by rw[<-r.length];exact (aa.mp e).1
 obtain⟨v',e',h⟩:=r.get (ag hi);rw[e] at e';cases e';exact⟨_,ag hi,h⟩
theorem gL.append:∀{vs us:List V} {ts ss:List T},gL K F vs ts->gL K F us ss->gL K F (vs++us) (ts++ss)
 | _,_,_,_,.nil,q=>q
 | _,_,_,_,.cons h r,q=>.cons h (gL.append r q)
theorem gL.set{v:V}{t:T}(q:lN K F v t):∀{vs:List V} {ts:List T} (i:Nat),gL K F vs ts->gL K F (vs.set i v) (ts.set i t)
 | _,_,_,.nil=>.nil
 | _,_,0,.cons _ r=>.cons q r
 | _,_,i+1,.cons h r=>.cons h (gL.set q i r)
theorem gL.take:∀{vs:List V} {ts:List T} (n:Nat),gL K F vs ts->gL K F (vs.take n) (ts.take n)
 | _,_,0,_=>.nil
 | _,_,_+1,.nil=>.nil
 | _,_,n+1,.cons h r=>.cons h (gL.take n r)
theorem gL.drop:∀{vs:List V} {ts:List T} (n:Nat),gL K F vs ts->gL K F (vs.drop n) (ts.drop n)
 | _,_,0,r=>r
 | _,_,_+1,.nil=>.nil
 | _,_,n+1,.cons _ r=>gL.drop n r
theorem gL.rep:∀{vs:List V} {ts:List T} (n:Nat),gL K F vs ts->gL K F (List.replicate n vs).flatten (List.replicate n ts).flatten
 | _,_,0,_=>.nil
 | _,_,n+1,r=>by rw[bX,bX,bY,bY];exact r.append (gL.rep n r)
theorem gL.ints:∀{vs:List V} {ns:List Int},gL K F vs (ns.map T.int)->vs=ns.map V.int
 | _,[],.nil=>rfl
 | _,_::_,.cons h r=>by cases h;rw[gL.ints r];rfl
theorem gL.bls:∀{vs:List V} {ns:List Bool},gL K F vs (ns.map T.bl)->vs=ns.map V.bl
 | _,[],.nil=>rfl
 | _,_::_,.cons h r=>by cases h;rw[gL.bls r];rfl
theorem gL.of_ints:∀(ns:List Int),gL K F (ns.map V.int) (ns.map T.int)
 | []=>.nil
 | n::ns=>.cons (.int n) (gL.of_ints ns)
theorem oQ.look{f:Str}{t:T}:∀{fs:List (Str×V)} {ts:List (Str×T)},oQ K F fs ts->ts.lookup f=some t->∃v,fs.lookup f=some v/\lN K F v t
 | _,_,.nil,e=>by cases e
 | _,_,.cons (x:=x) h r,e=>by
  by_cases hx:f=x
  ·subst hx;rw[cT] at e;cases e;exact⟨_,cT,h⟩
  ·have hb:(f == x)=false:=by simpa using hx
   rw[cf,hb] at e;obtain⟨v,e',h'⟩:=oQ.look r e;exact⟨v,by rw[cf,hb];exact e',h'⟩
theorem oQ.none_{f:Str}:∀{fs:List (Str×V)} {ts:List (Str×T)},oQ K F fs ts->ts.lookup f=none->fs.lookup f=none
 | _,_,.nil,e=>rfl
 | _,_,.cons (x:=x) h r,e=>by
  by_cases hx:f=x
  ·subst hx;rw[cT] at e;cases e
  ·have hb:(f == x)=false:=by simpa using hx
   rw[cf,hb] at e ⊢;exact oQ.none_ r e
end
structure Gr(F H F' H':Hp):Prop where
 ff:gU F F'
 fh:gU F' H'
 hh:gU H H'
 nw:∀a,F' a≠none->F a≠none\/H a=none\/∃xs,H a=some (.tup xs)
theorem Gr.refl{F H:Hp}(h:gU F H):Gr F H F H:=⟨.refl _,h,.refl _,λ_ h=>.inl h⟩
theorem gP{H H':Hp}(h:gU H H'){a:Addr}(e:H' a=none):H a=none:=by
 cases q:H a with
 | none=>rfl
 | some o=>rw[h a o q] at e;cases e
theorem Gr.trans{F H F' H' F'' H'':Hp}(g:Gr F H F' H')(g':Gr F' H' F'' H''):Gr F H F'' H'':=
 ⟨g.ff.trans g'.ff,g'.fh,g.hh.trans g'.hh,λa ha=>by
  rcases g'.nw a ha with q | q | ⟨xs,q⟩
  ·exact g.nw a q
  ·exact .inr (.inl (gP g.hh q))
  ·cases z:H a with
   | none=>exact .inr (.inl rfl)
   | some o=>exact .inr (.inr ⟨xs,by rw[g.hh a o z] at q;exact q⟩)⟩
theorem Gr.new{F H:Hp}{p:Addr}{o:HO}(s:gU F H)(h:H p=none):Gr F H (jx F p o) (jx H p o):=by
 have hf:F p=none:=gP s h;refine⟨λb u e=>?_,λb u e=>?_,λb u e=>?_,λb hb=>?_⟩
 ·rw[gA (hC e hf)];exact e
 ·by_cases q:b=p
  ·subst q;rw[gC] at e ⊢;exact e
  ·rw[gA q] at e ⊢;exact s b u e
 ·rw[gA (hC e h)];exact e
 ·by_cases q:b=p
  ·subst q;exact .inr (.inl h)
  ·rw[gA q] at hb;exact .inl hb
theorem Gr.new'{F H:Hp}{p:Addr}{o:HO}(s:gU F H)(h:H p=none):Gr F H F (jx H p o):=by
 refine⟨.refl _,λb u e=>?_,λb u e=>?_,λb hb=>.inl hb⟩
 ·rw[gA (hC (s b u e) h)];exact s b u e
 ·rw[gA (hC e h)];exact e
theorem Gr.take{F0 H0 F H:Hp}{p:Addr}{o:HO}(g:Gr F0 H0 F H)(h:H p=some o)(hf:F p=none)(h0:H0 p=none):Gr F0 H0 (jx F p o) H:=by
 refine⟨λb u e=>?_,λb u e=>?_,g.hh,λb hb=>?_⟩
 ·rw[gA (hC (g.ff b u e) hf)];exact g.ff b u e
 ·by_cases q:b=p
  ·subst q;rw[gC] at e;rw[<-e];exact h
  ·rw[gA q] at e;exact g.fh b u e
 ·by_cases q:b=p
  ·subst q;exact .inr (.inl h0)
  ·rw[gA q] at hb;exact g.nw b hb
theorem mx{F:Hp}{p:Addr}{o:HO}(hf:F p=none):gU F (jx F p o):=λb u e=>by rw[gA (hC e hf)];exact e
abbrev Pe:=List (Option T)
section
variable (K:W.Frag)
def lZ(F:Hp)(σ:St)(ρ:Pe):Prop:=∀(i:Nat) (t:T),ρ[i]? = some (some t)->∃v,σ[i]? = some (some v)/\lN K F v t
theorem lZ.mono{K:W.Frag}{F F':Hp}{σ:St}{ρ:Pe}(h:lZ K F σ ρ)(s:gU F F'):lZ K F' σ ρ:=λi t e=>let ⟨v,a,b⟩:=h i t e;⟨v,a,b.mono s⟩
def Sl(E:XK)(C:Addr)(n:Option Int)(F H:Hp):Prop:=match n with
 | none=>E (.ref C) none H
 | some i=>∀dx,F dx=some (.xd [("at",.int i)])->E (.ref C) (some dx) H
def kE(E:XK)(F H:Hp)(C:Addr)(n:Option Int):Prop:=∀F' H',Gr F H F' H'->Sl E C n F' H'
theorem kE.go{E:XK}{F H F1 H1:Hp}{C:Addr}{n:Option Int}(h:kE E F H C n)(g:Gr F H F1 H1):kE E F1 H1 C n:=λF' H' g'=>h F' H' (g.trans g')
def kV(F H:Hp)(Q:VK)(t:T):Prop:=∀v F' H',Gr F H F' H'->lN K F' v t->Q v H'
def kB(F H:Hp)(Q:Bool->Hp->Prop)(b:Bool):Prop:=∀F' H',Gr F H F' H'->Q b H'
def kA(F H:Hp)(Q:List V->Hp->Prop)(ts:List T):Prop:=∀vs F' H',Gr F H F' H'->gL K F' vs ts->Q vs H'
def kF(F H:Hp)(Q:VK)(ts:List T):Prop:=∀l vs F' H',Gr F H F' H'->H l=none->F' l=none->H' l=some (.lst vs)->gL K F' vs ts->Q (.ref l) H'
noncomputable def ME(E:XK)(t:TE)(f:Pe->M T):Prop:=∀F H σ ρ Q,gU F H->lZ K F σ ρ->(f ρ).res (kV K F H Q) (kE E F H)->t σ H Q
noncomputable def MT(E:XK)(t:TT)(f:Pe->M Bool):Prop:=∀F H σ ρ Q,gU F H->lZ K F σ ρ->(f ρ).res (kB F H Q) (kE E F H)->t σ H Q
noncomputable def MA(E:XK)(t:TA)(f:Pe->M (List T)):Prop:=∀F H σ ρ Q,gU F H->lZ K F σ ρ->(f ρ).res (kA K F H Q) (kE E F H)->t σ H Q
noncomputable def MF(E:XK)(t:TE)(f:Pe->M (List T)):Prop:=∀F H σ ρ Q,gU F H->lZ K F σ ρ->(f ρ).res (kF K F H Q) (kE E F H)->t σ H Q
end
section
variable {K:W.Frag}{E:XK}{t u ta tb:TE}{f g fa fb:Pe->M T}
theorem kV.go{F H F1 H1:Hp}{Q:VK}{t:T}(h:kV K F H Q t)(g:Gr F H F1 H1):kV K F1 H1 Q t:=λv F' H' g' r=>h v F' H' (g.trans g') r
theorem kB.go{F H F1 H1:Hp}{Q:Bool->Hp->Prop}{t:Bool}(h:kB F H Q t)(g:Gr F H F1 H1):kB F1 H1 Q t:=λF' H' g'=>h F' H' (g.trans g')
theorem kF.go{F H F1 H1:Hp}{Q:VK}{t:List T}(h:kF K F H Q t)(g:Gr F H F1 H1):kF K F1 H1 Q t:=λl vs F' H' g' a b c d=>h l vs F' H' (g.trans g') (gP g.hh a) b c d
theorem kV.now{F H:Hp}{Q:VK}{t:T}{v:V}(h:kV K F H Q t)(s:gU F H)(r:lN K F v t):Q v H:=h v F H (.refl s) r
theorem kF.of{F H:Hp}{Q:VK}{ts:List T}(h:kV K F H Q (.lst ts)):kF K F H Q ts:=λl vs F' H' g hl hf hl' r=>h (.ref l) (jx F' l (.lst vs)) H' (g.take hl' hf hl) (.lst gC (r.mono (mx hf)))
theorem MF.me{f:Pe->M (List T)}(h:MF K E t f):ME K E t (λρ=>(f ρ).bind λts=>.ok (.lst ts)):=λF H σ ρ Q s V r=>h F H σ ρ Q s V ((M.res.unb r).mono (λts q=>kF.of q) λ_ _ z=>z)
theorem ME.run{F H:Hp}{σ:St}{ρ:Pe}{Q:VK}{α:Type}{k:T->M α}{P:α->Prop}(h:ME K E t f)(s:gU F H)(v:lZ K F σ ρ)(r:((f ρ).bind k).res P (kE E F H))
  (hk:∀x w F' H',Gr F H F' H'->lN K F' w x->(k x).res P (kE E F' H')->Q w H'):t σ H Q:=
 h F H σ ρ Q s v ((M.res.unb r).mono (λx q w F' H' g rp=>hk x w F' H' g rp (q.mono (λ_ z=>z) λ_ _ z=>z.go g)) λ_ _ z=>z)
theorem MT.run{t:TT}{f:Pe->M Bool}{F H:Hp}{σ:St}{ρ:Pe}{Q:Bool->Hp->Prop}{α:Type}{k:Bool->M α}{P:α->Prop}(h:MT K E t f)(s:gU F H)(v:lZ K F σ ρ)(r:((f ρ).bind k).res P (kE E F H))
  (hk:∀x F' H',Gr F H F' H'->(k x).res P (kE E F' H')->Q x H'):t σ H Q:=
 h F H σ ρ Q s v ((M.res.unb r).mono (λx q F' H' g=>hk x F' H' g (q.mono (λ_ z=>z) λ_ _ z=>z.go g)) λ_ _ z=>z)
theorem MA.run{t:TA}{f:Pe->M (List T)}{F H:Hp}{σ:St}{ρ:Pe}{Q:List V->Hp->Prop}{α:Type}{k:List T->M α}{P:α->Prop}(h:MA K E t f)(s:gU F H)(v:lZ K F σ ρ)(r:((f ρ).bind k).res P (kE E F H))
  (hk:∀x w F' H',Gr F H F' H'->gL K F' w x->(k x).res P (kE E F' H')->Q w H'):t σ H Q:=
 h F H σ ρ Q s v ((M.res.unb r).mono (λx q w F' H' g rp=>hk x w F' H' g rp (q.mono (λ_ z=>z) λ_ _ z=>z.go g)) λ_ _ z=>z)
@[simp] noncomputable def fL(i:Nat):Pe->M T:=λρ=>match ρ[i]? with
 | some (some t)=>.ok t
 | _=>.bad
theorem Ph{i:Nat}:ME K E (nt i) (fL i):=λF H σ ρ Q s V r=>by
 unfold fL at r;split at r
 ·rename_i t e;obtain⟨v,e',h⟩:=V i t e;exact⟨v,e',r.now s h⟩
 ·exact r.elim
@[simp] noncomputable def cM(t:T):Pe->M T:=λ_=>.ok t
theorem IA{v:V}{t:T}(h:∀F,lN K F v t):ME K E (tC v) (cM t):=λF H σ ρ Q s V r=>kV.now r s (h F)
@[simp] noncomputable def fX(o:T->T->M T)(fa fb:Pe->M T):Pe->M T:=λρ=>(fa ρ).bind λx=>(fb ρ).bind λy=>o x y
structure MR(K:W.Frag)(r:R2)(o:T->T->M T):Prop where
 ne:∀x y,M.NoE (o x y)
 ok:∀F H v w x y Q,gU F H->lN K F v x->lN K F w y->(o x y).res (kV K F H Q) (λ_ _=>False)->r v w H Q
theorem EJ{r:R2}{o:T->T->M T}(hr:MR K r o)(ha:ME K E ta fa)(hb:ME K E tb fb):ME K E (xZ r ta tb) (fX o fa fb):=λF H σ ρ Q s V q=>by refine ha.run s V q λx v F1 H1 g1 r1 q1=>?_;refine hb.run (P:=kV K F H Q) g1.fh (V.mono g1.ff) q1 λy w F2 H2 g2 r2 q2=>?_;exact hr.ok F2 H2 v w x y Q g2.fh (r1.mono g2.ff) r2 ((q2.ne (hr.ne x y)).mono (λ_ z=>z.go (g1.trans g2)) λ_ _ z=>z)
noncomputable def lJ(C:Int->Int->Bool)(g:Int->Int->T):T->T->M T
 | .int i,.int j=>if C i j then .ok (g i j) else .bad
 | _,_=>.bad
theorem A9{C:Int->Int->Bool}{g:Int->Int->T}(x y:T):M.NoE (lJ C g x y):=λC' n=>by
 unfold lJ;split
 ·split<;>exact λz=>nomatch z
 ·exact λz=>nomatch z
theorem zG{C:Int->Int->Prop}{Cb:Int->Int->Bool}{g:Int->Int->V}{gt:Int->Int->T}(hc:∀i j,Cb i j=true->C i j)(hg:∀F i j,lN K F (g i j) (gt i j)):MR K (rI C g) (lJ Cb gt):=⟨A9,λF H v w x y Q s a b q=>by
  cases a<;>cases b<;>first
    | exact q.elim
    | (rename_i i j
       unfold lJ at q
       by_cases h:Cb i j=true
       · simp only[h,if_true] at q
         exact⟨i,j,rfl,rfl,hc i j h,kV.now q s (hg F i j)⟩
       · simp only[h] at q
         exact q.elim)⟩
theorem rT{g:Int->Int->V}{gt:Int->Int->T}(hg:∀F i j,lN K F (g i j) (gt i j)):MR K (DM g) (lJ (λ_ _=>true) gt):=⟨A9,λF H v w x y Q s a b q=>by
 cases a<;>cases b<;>first
  | exact q.elim
  | exact⟨_,_,rfl,rfl,kV.now q s (hg F _ _)⟩⟩
@[simp] noncomputable def uG(o:Int->T)(fa:Pe->M T):Pe->M T:=λρ=>(fa ρ).bind λx=>match x with
 | .int i=>.ok (o i)
 | _=>.bad
theorem QB{g:Int->V}{gt:Int->T}(hg:∀F i,lN K F (g i) (gt i))(ha:ME K E ta fa):ME K E (RE (rU g) ta) (uG gt fa):=λF H σ ρ Q s V q=>by
 refine ha.run s V q λx v F1 H1 g1 r1 q1=>?_;cases r1<;>first
  | exact q1.elim
  | exact⟨_,rfl,(q1:kV K F H Q _) _ F1 H1 g1 (hg F1 _)⟩
@[simp] noncomputable def gO(fa:Pe->M T):Pe->M Bool:=λρ=>(fa ρ).bind λx=>match x with
 | .bl b=>.ok b
 | _=>.bad
theorem HZ(ha:ME K E ta fa):MT K E (tB ta) (gO fa):=λF H σ ρ Q s V q=>by
 refine ha.run s V q λx v F1 H1 g1 r1 q1=>?_;cases r1<;>first
  | exact q1.elim
  | exact⟨_,rfl,(q1:kB F H Q _) F1 H1 g1⟩
theorem Le(ha:ME K E ta fa):MT K E (AZ ta) (gO fa):=HZ ha
section
variable {c d:TT}{fc fd:Pe->M Bool}
@[simp] noncomputable def kf(fc fd:Pe->M Bool):Pe->M Bool:=λρ=>(fc ρ).bind λb=>if b then fd ρ else .ok false
@[simp] noncomputable def qg(fc fd:Pe->M Bool):Pe->M Bool:=λρ=>(fc ρ).bind λb=>if b then .ok true else fd ρ
@[simp] noncomputable def kh(fc:Pe->M Bool):Pe->M Bool:=λρ=>(fc ρ).bind λb=>.ok (!b)
theorem OK(hc:MT K E c fc)(hd:MT K E d fd):MT K E (Oq c d) (kf fc fd):=λF H σ ρ Q s V q=>by
 refine hc.run s V q λb F1 H1 g1 q1=>?_;cases b with
 | true=>rw[aP rfl];exact hd F1 H1 σ ρ Q g1.fh (V.mono g1.ff) (q1.mono (λ_ z=>z.go g1) λ_ _ z=>z)
 | false=>rw[aQ aG];exact (q1:kB F H Q false) F1 H1 g1
theorem Qa(hc:MT K E c fc)(hd:MT K E d fd):MT K E (RT c d) (qg fc fd):=λF H σ ρ Q s V q=>by
 refine hc.run s V q λb F1 H1 g1 q1=>?_;cases b with
 | true=>rw[aP rfl];exact (q1:kB F H Q true) F1 H1 g1
 | false=>rw[aQ aG];exact hd F1 H1 σ ρ Q g1.fh (V.mono g1.ff) (q1.mono (λ_ z=>z.go g1) λ_ _ z=>z)
theorem Pd(hc:MT K E c fc):MT K E (Oo c) (kh fc):=λF H σ ρ Q s V q=>by refine hc.run s V q λb F1 H1 g1 q1=>?_;exact (q1:kB F H Q (!b)) F1 H1 g1
@[simp] noncomputable def Rl(fc:Pe->M Bool)(fa fb:Pe->M T):Pe->M T:=λρ=>(fc ρ).bind λb=>if b then fa ρ else fb ρ
theorem P7(hc:MT K E c fc)(ha:ME K E ta fa)(hb:ME K E tb fb):ME K E (Rw c ta tb) (Rl fc fa fb):=λF H σ ρ Q s V q=>by
 refine hc.run s V q λb F1 H1 g1 q1=>?_;cases b with
 | true=>rw[aP rfl];exact ha F1 H1 σ ρ Q g1.fh (V.mono g1.ff) (q1.mono (λ_ z=>z.go g1) λ_ _ z=>z)
 | false=>rw[aQ aG];exact hb F1 H1 σ ρ Q g1.fh (V.mono g1.ff) (q1.mono (λ_ z=>z.go g1) λ_ _ z=>z)
end
@[simp] noncomputable def v9(fa fb:Pe->M T):Pe->M T:=λρ=>(gO fa ρ).bind λb=>if b then fb ρ else .ok (.bl false)
@[simp] noncomputable def Ri(fa fb:Pe->M T):Pe->M T:=λρ=>(gO fa ρ).bind λb=>if b then .ok (.bl true) else fb ρ
@[simp] noncomputable def FC(fa:Pe->M T):Pe->M T:=λρ=>(gO fa ρ).bind λb=>.ok (.bl (!b))
theorem L1(ha:ME K E ta fa)(hb:ME K E tb fb):ME K E (Hv ta tb) (v9 fa fb):=λF H σ ρ Q s V q=>by
 refine (HZ ha).run (Q:=λc H1=>if c=true then tb σ H1 Q else Q (.bl false) H1) s V q λb F1 H1 g1 q1=>?_;cases b with
 | true=>rw[aP rfl];exact hb F1 H1 σ ρ Q g1.fh (V.mono g1.ff) (q1.mono (λ_ z=>z.go g1) λ_ _ z=>z)
 | false=>rw[aQ aG];exact (q1:kV K F H Q _) _ F1 H1 g1 (.bl _)
theorem NZ(ha:ME K E ta fa)(hb:ME K E tb fb):ME K E (OQ ta tb) (Ri fa fb):=λF H σ ρ Q s V q=>by
 refine (HZ ha).run (Q:=λc H1=>if c=true then Q (.bl true) H1 else tb σ H1 Q) s V q λb F1 H1 g1 q1=>?_;cases b with
 | true=>rw[aP rfl];exact (q1:kV K F H Q _) _ F1 H1 g1 (.bl _)
 | false=>rw[aQ aG];exact hb F1 H1 σ ρ Q g1.fh (V.mono g1.ff) (q1.mono (λ_ z=>z.go g1) λ_ _ z=>z)
theorem L7(ha:ME K E ta fa):ME K E (Jd ta) (FC fa):=λF H σ ρ Q s V q=>by refine (HZ ha).run (Q:=λc H1=>Q (.bl (!c)) H1) s V q λb F1 H1 g1 q1=>?_;exact (q1:kV K F H Q _) _ F1 H1 g1 (.bl _)
@[simp] noncomputable def fK(fa:Pe->M T)(fr:Pe->M (List T)):Pe->M (List T):=λρ=>(fa ρ).bind λx=>(fr ρ).bind λxs=>.ok (x::xs)
@[simp] noncomputable def fP:Pe->M (List T):=λ_=>.ok []
theorem DI:MA K E uT fP:=λF H σ ρ Q s V q=>(q:kA K F H Q []) [] F H (.refl s) .nil
theorem Mn{tr:TA}{fr:Pe->M (List T)}(ha:ME K E ta fa)(hr:MA K E tr fr):MA K E (rk ta tr) (fK fa fr):=λF H σ ρ Q s V q=>by refine ha.run s V q λx v F1 H1 g1 r1 q1=>?_;refine hr.run (P:=kA K F H Q) g1.fh (V.mono g1.ff) q1 λxs ws F2 H2 g2 r2 q2=>?_;exact (q2:kA K F H Q (x::xs)) (v::ws) F2 H2 (g1.trans g2) (.cons (r1.mono g2.ff) r2)
@[simp] noncomputable def AH(ts:List T):M (List T):=if ts.length<=sizeLine then .ok ts else .bad
@[simp] noncomputable def jO(fr:Pe->M (List T)):Pe->M T:=λρ=>(fr ρ).bind λts=>(AH ts).bind λts=>.ok (.tup ts)
@[simp] noncomputable def lstM(fr:Pe->M (List T)):Pe->M (List T):=λρ=>(fr ρ).bind AH
theorem NH{tr:TA}{fr:Pe->M (List T)}(hr:MA K E tr fr):ME K E (OL tr) (jO fr):=λF H σ ρ Q s V q=>by
 refine hr.run s V q λxs ws F1 H1 g1 r1 q1=>?_;unfold AH at q1;by_cases h:xs.length<=sizeLine
 ·rw[aP h] at q1;refine⟨by rw[r1.length];exact h,λp hp=>?_⟩;exact (q1:kV K F H Q (.tup xs)) (.ref p) _ _ (g1.trans (.new g1.fh hp)) (.tup gC (r1.mono (Gr.new g1.fh hp).ff))
 ·rw[aQ h] at q1;exact q1.elim
theorem OP{tr:TA}{fr:Pe->M (List T)}(hr:MA K E tr fr):MF K E (NO tr) (lstM fr):=λF H σ ρ Q s V q=>by
 refine hr.run s V q λxs ws F1 H1 g1 r1 q1=>?_;unfold AH at q1;by_cases h:xs.length<=sizeLine
 ·rw[aP h] at q1;refine⟨by rw[r1.length];exact h,λp hp=>?_⟩;exact (q1:kF K F H Q xs) p ws F1 _ (g1.trans (.new' g1.fh hp)) (gP g1.hh hp) (gP g1.fh hp) gC r1
 ·rw[aQ h] at q1;exact q1.elim
end
end L3
namespace L3
open PySem L2
inductive W where
 | p (t:T) | o (ts:List T) | d (kvs:List (List Int×T))
abbrev En:=List (Option W)
@[simp] def RX:Option W->Option T
 | some (.p t)=>some t
 | _=>none
@[simp] def R4:Option W->Option T
 | some (.p t)=>some t
 | some (.o ts)=>some (.lst ts)
 | _=>none
@[simp] def nV(ρ:En):Pe:=ρ.map RX
@[simp] def vw(ρ:En):Pe:=ρ.map R4
mutual
@[simp] def lf:T->Bool
 | .lst _=>false
 | .scr _=>false
 | .tup ts=>Gp ts
 | .obj _ fs=>Rr fs
 | _=>true
@[simp] def Gp:List T->Bool
 | []=>true
 | t::ts=>lf t&&Gp ts
def Rr:List (Str×T)->Bool
 | []=>true
 | t::ts=>lf t.2&&Rr ts
end
structure Fz where
 hp:Hp
 lt:List (Nat×Addr×List V)
instance:Coe Fz Hp:=⟨Fz.hp⟩
structure Lv(H0 F H:Hp)(σ:St)(ρ:En)(e:Nat×Addr×List V):Prop where
 h:H e.2.1=some (.lst e.2.2)
 f:F e.2.1=none
 z:H0 e.2.1=none
 d:∀(i:Nat) (ts:List T),ρ[i]? = some (some (.o ts))->σ[i]?≠some (some (.ref e.2.1))
def DR(K:W.Frag)(F:Hp)(xs:List (List mE×V))(kvs:List (List Int×T)):Prop:=Paired (λ(p:List mE×V) (q:List Int×T)=>p.1=q.1.map Sum.inl/\lN K F p.2 q.2) xs kvs
theorem DR.mono{K:W.Frag}{F F':Hp}(s:gU F F'){xs:List (List mE×V)}{kvs:List (List Int×T)}(h:DR K F xs kvs):DR K F' xs kvs:=Paired.imp' (λ_ _ q=>⟨q.1,q.2.mono s⟩) h
structure Dv(K:W.Frag)(H0 F H:Hp)(σ:St)(ρ:En):Prop where
 at_:∀(i:Nat) kvs,ρ[i]? = some (some (.d kvs))->∃a,σ[i]? = some (some (.ref a))/\F a=none/\H0 a=none/\∃xs,H a=some (.dT xs)/\DR K F xs kvs
 dj:∀(i j:Nat) kvs kvs',ρ[i]? = some (some (.d kvs))->ρ[j]? = some (some (.d kvs'))->i≠j->σ[i]?≠σ[j]?
theorem FJ{α:Type}{l:List α}{i:Nat}{x y:α}(h:(l.set i x)[i]? = some y):y=x:=by
 rw[List.getElem?_set] at h;simp only[if_true] at h;split at h
 ·exact (Option.some.inj h).symm
 ·cases h
theorem FK{α:Type}{l:List α}{i j:Nat}{x y:α}(h:(l.set i x)[j]? = some y):(j=i/\y=x)\/(j≠i/\l[j]? = some y):=by
 by_cases e:j=i
 ·subst e;exact .inl ⟨rfl,FJ h⟩
 ·rw[aq (λz=>e z.symm)] at h;exact .inr ⟨e,h⟩
theorem Dv.heap{K:W.Frag}{H0 F H F' H':Hp}{σ:St}{ρ:En}(d:Dv K H0 F H σ ρ)(s:gU F F')(h:∀a xs,H a=some (.dT xs)->F a=none->F' a=none/\H' a=some (.dT xs)):Dv K H0 F' H' σ ρ:=⟨λi kvs e=>let ⟨a,e1,e2,e3,xs,e4,e5⟩:=d.at_ i kvs e;let ⟨h1,h2⟩:=h a xs e4 e2;⟨a,e1,h1,e3,xs,h2,e5.mono s⟩,d.dj⟩
theorem Dv.set{K:W.Frag}{H0 F H:Hp}{σ:St}{ρ:En}(d:Dv K H0 F H σ ρ){i:Nat}{v:Option V}{w:Option W}(hw:∀kvs,w≠some (.d kvs)):Dv K H0 F H (σ.set i v) (ρ.set i w):=by
 refine⟨λj kvs e=>?_,λj k kvs kvs' e e' hjk=>?_⟩
 ·rcases FK e with⟨rfl,q⟩ | ⟨hj,q⟩
  ·exact absurd q.symm (hw kvs)
  ·obtain⟨a,e1,r⟩:=d.at_ j kvs q;exact⟨a,by rw[aq (λz=>hj z.symm)];exact e1,r⟩
 ·rcases FK e with⟨rfl,q⟩ | ⟨hj,q⟩
  ·exact absurd q.symm (hw kvs)
  ·rcases FK e' with⟨rfl,q'⟩ | ⟨hk,q'⟩
   ·exact absurd q'.symm (hw kvs')
   ·rw[aq (λz=>hj z.symm),aq (λz=>hk z.symm)];exact d.dj j k kvs kvs' q q' hjk
theorem Dv.setR{K:W.Frag}{H0 F H:Hp}{σ:St}{ρ:En}(d:Dv K H0 F H σ ρ){i:Nat}{w:Option W}(hw:∀kvs,w≠some (.d kvs)):Dv K H0 F H σ (ρ.set i w):=by
 refine⟨λj kvs e=>?_,λj k kvs kvs' e e' hjk=>?_⟩
 ·rcases FK e with⟨rfl,q⟩ | ⟨hj,q⟩
  ·exact absurd q.symm (hw kvs)
  ·exact d.at_ j kvs q
 ·rcases FK e with⟨rfl,q⟩ | ⟨hj,q⟩
  ·exact absurd q.symm (hw kvs)
  ·rcases FK e' with⟨rfl,q'⟩ | ⟨hk,q'⟩
   ·exact absurd q'.symm (hw kvs')
   ·exact d.dj j k kvs kvs' q q' hjk
structure Sr(K:W.Frag)(F0:Fz)(H0 F H:Hp)(σ:St)(ρ:En):Prop where
 gr:Gr F0.hp H0 F H
 len:σ.length=ρ.length
 pv:∀(i:Nat) (t:T),ρ[i]? = some (some (.p t))->∃v,σ[i]? = some (some v)/\lN K F v t
 ov:∃ad:Nat->Addr,(∀(i:Nat) (ts:List T),ρ[i]? = some (some (.o ts))->σ[i]? = some (some (.ref (ad i)))/\F (ad i)=none/\H0 (ad i)=none/\∃vs,H (ad i)=some (.lst vs)/\gL K F vs ts)/\
  ∀(i j:Nat) (ts us:List T),ρ[i]? = some (some (.o ts))->ρ[j]? = some (some (.o us))->i≠j->ad i≠ad j
 lv:∀e∈F0.lt,Lv H0 F H σ ρ e
 sl:∀(j:Nat) (l:Addr) (vs:List V),F0.lt.lookup j=some (l,vs)->ρ[j]? = some none->σ[j]? = some (some (.ref l))
 dv:Dv K H0 F H σ ρ
section
variable {K:W.Frag}{F0:Fz}{H0 F H F' H':Hp}{σ:St}{ρ:En}
theorem Sr.vars(r:Sr K F0 H0 F H σ ρ):lZ K F σ (nV ρ):=λi t e=>by
 unfold nV at e;rw[av] at e;cases q:ρ[i]? with
 | none=>rw[q] at e;cases e
 | some w=>
  rw[q] at e;cases w with
  | none=>cases e
  | some w=>
   cases w with
   | p t'=>cases e;exact r.pv i _ q
   | o ts=>cases e
   | d kvs=>cases e
theorem Sr.grow(r:Sr K F0 H0 F H σ ρ)(g:Gr F H F' H'):Sr K F0 H0 F' H' σ ρ:=by
 obtain⟨ad,h1,h2⟩:=r.ov;refine⟨r.gr.trans g,r.len,λi t e=>?_,⟨ad,λi ts e=>?_,h2⟩,λe he=>?_,r.sl,r.dv.heap g.ff λa xs ha fa=>⟨?_,g.hh _ _ ha⟩⟩
 ·obtain⟨v,a,b⟩:=r.pv i t e;exact⟨v,a,b.mono g.ff⟩
 ·obtain⟨a,b,c,vs,d,q⟩:=h1 i ts e;refine⟨a,?_,c,vs,g.hh _ _ d,q.mono g.ff⟩;cases z:F' (ad i) with
  | none=>rfl
  | some u=>
   rcases g.nw (ad i) (by rw[z];exact λw=>nomatch w) with y | y | ⟨_,y⟩
   ·exact absurd b y
   ·rw[d] at y;cases y
   ·rw[d] at y;cases y
 ·have L:=r.lv e he;refine⟨g.hh _ _ L.h,?_,L.z,L.d⟩;cases z:F' e.2.1 with
  | none=>rfl
  | some u=>
   rcases g.nw e.2.1 (by rw[z];exact λw=>nomatch w) with y | y | ⟨_,y⟩
   ·exact absurd L.f y
   ·rw[L.h] at y;cases y
   ·rw[L.h] at y;cases y
 ·cases z:F' a with
  | none=>rfl
  | some u=>
   rcases g.nw a (by rw[z];exact λw=>nomatch w) with y | y | ⟨_,y⟩
   ·exact absurd fa y
   ·rw[ha] at y;cases y
   ·rw[ha] at y;cases y
theorem Sr.lend(r:Sr K F0 H0 F H σ ρ):∃Fl,gU F Fl/\Gr F0.hp H0 Fl H/\lZ K Fl σ (vw ρ)/\
  (∀F' H',Gr Fl H F' H'->∃Fb,Gr F H Fb H'/\gU F Fb/\gU Fb F'/\(∀a,F' a≠none->Fb a=none->∃xs,F' a=some (.lst xs))/\(∀a,F' a≠none->Fb a=none->H a≠none)):=by
 classical
 obtain⟨ad,h1,h2⟩:=r.ov;let isOwn:Addr->Prop:=λa=>∃i ts,ρ[i]? = some (some (.o ts))/\ad i=a;let Fl:Hp:=λa=>if isOwn a then H a else F a
 have hs:gU F Fl:=λa o e=>by
  have:¬isOwn a:=by rintro⟨i,ts,q,rfl⟩;obtain⟨_,b,_⟩:=h1 i ts q;rw[b] at e;cases e
  show (if isOwn a then H a else F a)=some o;rw[aQ this];exact e
 have hl:gU Fl H:=λa o e=>by
  by_cases q:isOwn a
  ·have e':(if isOwn a then H a else F a)=some o:=e;rw[aP q] at e';exact e'
  ·have e':(if isOwn a then H a else F a)=some o:=e;rw[aQ q] at e';exact r.gr.fh a o e'
 have ow:∀a,isOwn a->Fl a=H a:=λa q=>aP q;have nw:∀a,¬isOwn a->Fl a=F a:=λa q=>aQ q;refine⟨Fl,hs,⟨r.gr.ff.trans hs,hl,r.gr.hh,λa ha=>?_⟩,λi t e=>?_,λF' H' g=>?_⟩
 ·by_cases q:isOwn a
  ·obtain⟨i,ts,e,rfl⟩:=q;exact .inr (.inl (h1 i ts e).2.2.1)
  ·rw[nw a q] at ha;exact r.gr.nw a ha
 ·unfold vw at e;rw[av] at e;cases q:ρ[i]? with
  | none=>rw[q] at e;cases e
  | some w=>
   rw[q] at e;cases w with
   | none=>cases e
   | some w=>
    cases w with
    | p t'=>cases e;obtain⟨v,a,b⟩:=r.pv i _ q;exact⟨v,a,b.mono hs⟩
    | o ts=>cases e;obtain⟨a,b,c,vs,d,z⟩:=h1 i ts q;exact⟨_,a,.lst (by rw[ow _ ⟨i,ts,q,rfl⟩];exact d) (z.mono hs)⟩
    | d kvs=>cases e
 ·let Fb:Hp:=λa=>if isOwn a then none else F' a
  have fb:∀a,¬isOwn a->Fb a=F' a:=λa q=>aQ q;have fo:∀a,isOwn a->Fb a=none:=λa q=>aP q;have s1:gU F Fb:=λa o e=>by
   have:¬isOwn a:=by rintro⟨i,ts,q,rfl⟩;obtain⟨_,b,_⟩:=h1 i ts q;rw[b] at e;cases e
   rw[fb a this];exact g.ff _ _ (hs _ _ e)
  have s2:gU Fb F':=λa o e=>by
   by_cases q:isOwn a
   ·rw[fo a q] at e;cases e
   ·rw[fb a q] at e;exact e
  refine⟨Fb,⟨s1,s2.trans g.fh,g.hh,λa ha=>?_⟩,s1,s2,λa ha hb=>?_,λa ha hb=>?_⟩
  ·by_cases q:isOwn a
   ·exact absurd (fo a q) ha
   ·rw[fb a q] at ha;rcases g.nw a ha with z | z
    ·rw[nw a q] at z;exact .inl z
    ·exact .inr z
  ·by_cases q:isOwn a
   ·obtain⟨i,ts,e,rfl⟩:=id q;obtain⟨_,_,_,vs,d,_⟩:=h1 i ts e;exact⟨vs,g.ff _ _ (by rw[ow _ q];exact d)⟩
   ·rw[fb a q] at hb;exact absurd hb ha
  ·by_cases q:isOwn a
   ·obtain⟨i,ts,e,rfl⟩:=id q;obtain⟨_,_,_,vs,d,_⟩:=h1 i ts e;rw[d];exact λz=>nomatch z
   ·rw[fb a q] at hb;exact absurd hb ha
mutual
theorem lN.less{Fb:Hp}(sb:gU Fb F)(h:∀a,F a≠none->Fb a=none->∃xs,F a=some (.lst xs)):∀{v:V} {t:T},lN K F v t->lf t=true->lN K Fb v t
 | _,_,.non,_=>.non
 | _,_,.bl b,_=>.bl b
 | _,_,.int i,_=>.int i
 | _,_,.str x,_=>.str x
 | _,_,.tup (a:=a) e r,l=>by
  refine .tup ?_ (gL.less sb h r (by simpa[lf] using l));cases q:Fb a with
  | none=>obtain⟨xs,z⟩:=h a (by rw[e];exact λz=>nomatch z) q;rw[e] at z;cases z
  | some u=>rw[<-e];exact (sb a u q).symm
 | _,_,.lst _ _,l=>by simp[lf] at l
 | _,_,.scr _,l=>by simp[lf] at l
 | _,_,.obj (a:=a) (dx:=dx) e r,l=>by
  refine .obj (dx:=dx) ?_ (oQ.less sb h r (by simpa[lf] using l));cases q:Fb a with
  | none=>obtain⟨xs,z⟩:=h a (by rw[e];exact λz=>nomatch z) q;rw[e] at z;cases z
  | some u=>rw[<-e];exact (sb a u q).symm
 | _,_,.emp (a:=a) e,l=>by
  refine .emp ?_;cases q:Fb a with
  | none=>obtain⟨xs,z⟩:=h a (by rw[e];exact λz=>nomatch z) q;rw[e] at z;cases z
  | some u=>rw[<-e];exact (sb a u q).symm
theorem gL.less{Fb:Hp}(sb:gU Fb F)(h:∀a,F a≠none->Fb a=none->∃xs,F a=some (.lst xs)):∀{vs:List V} {ts:List T},gL K F vs ts->Gp ts=true->gL K Fb vs ts
 | _,_,.nil,_=>.nil
 | _,_,.cons q r,l=>by rw[Gp,bS] at l;exact .cons (lN.less sb h q l.1) (gL.less sb h r l.2)
theorem oQ.less{Fb:Hp}(sb:gU Fb F)(h:∀a,F a≠none->Fb a=none->∃xs,F a=some (.lst xs)):∀{vs:List (Str×V)} {ts:List (Str×T)},oQ K F vs ts->Rr ts=true->oQ K Fb vs ts
 | _,_,.nil,_=>.nil
 | _,_,.cons q r,l=>by rw[Rr,bS] at l;exact .cons (lN.less sb h q l.1) (oQ.less sb h r l.2)
end
end
end L3
namespace L3
open PySem L2
inductive O where
 | bad | nx (ρ:En) | rt (t:T) | rf (ts:List T) | bk (ρ:En) | ct (ρ:En) | er (C:Addr) (n:Option Int)
section
variable (K:W.Frag)(E:XK)
def kN(F0:Fz)(H0 F:Hp)(D:St->Hp->Prop)(ρ:En):Prop:=∀F' H' σ',gU F F'->Sr K F0 H0 F' H' σ' ρ->D σ' H'
noncomputable def O.res(o:O)(F0:Fz)(H0 F:Hp)(D:Ad):Prop:=match o with
 | .bad=>False
 | .nx ρ=>kN K F0 H0 F D.nx ρ
 | .rt t=>kV K F0.hp H0 D.rt t
 | .rf ts=>kF K F0.hp H0 D.rt ts
 | .bk ρ=>kN K F0 H0 F D.bk ρ
 | .ct ρ=>kN K F0 H0 F D.ct ρ
 | .er C n=>kE E F0.hp H0 C n
noncomputable def MS(t:TS)(g:En->O):Prop:=∀F0 H0 F H σ ρ D,Sr K F0 H0 F H σ ρ->(g ρ).res K E F0 H0 F D->t D σ H
end
section
variable {K:W.Frag}{E:XK}{t u ta tb:TE}{f fa fb:Pe->M T}{F0:Fz}{H0 F H F1 H1:Hp}{σ:St}{ρ:En}{D:Ad}
theorem kN.go{N:St->Hp->Prop}(h:kN K F0 H0 F N ρ)(s:gU F F1):kN K F0 H0 F1 N ρ:=λF' H' σ' s' r=>h F' H' σ' (s.trans s') r
theorem O.res.go{o:O}(h:o.res K E F0 H0 F D)(s:gU F F1):o.res K E F0 H0 F1 D:=by
 cases o with
 | bad=>exact h
 | nx ρ=>exact kN.go h s
 | rt t=>exact h
 | rf ts=>exact h
 | bk ρ=>exact kN.go h s
 | ct ρ=>exact kN.go h s
 | er C n=>exact h
noncomputable def O.of{α:Type}(m:M α)(k:α->O):O:=match m with
 | .bad=>.bad
 | .ok a=>k a
 | .er C n=>.er C n
@[simp] theorem O.of_ok{α:Type}(a:α)(k:α->O):O.of (.ok a) k=k a:=rfl
@[simp] theorem O.of_bad{α:Type}(k:α->O):O.of (.bad:M α) k=.bad:=rfl
@[simp] theorem O.of_er{α:Type}(C:Addr)(n:Option Int)(k:α->O):O.of (.er C n:M α) k=.er C n:=rfl
theorem O.res_of{α:Type}{m:M α}{k:α->O}(h:(O.of m k).res K E F0 H0 F D):m.res (λa=>(k a).res K E F0 H0 F D) (kE E F0.hp H0):=by cases m<;>exact h
@[simp] noncomputable def f9(a b:En->O):En->O:=λρ=>match a ρ with
 | .nx ρ'=>b ρ'
 | o=>o
theorem Om{t u:TS}{a b:En->O}(h1:MS K E t a)(h2:MS K E u b):MS K E (L9 t u) (f9 a b):=λF0 H0 F H σ ρ D r q=>by
 refine h1 F0 H0 F H σ ρ _ r ?_;unfold f9 at q;cases e:a ρ with
 | nx ρ'=>rw[e] at q;intro F' H' σ' s r';exact h2 F0 H0 F' H' σ' ρ' D r' (q.go s)
 | bad=>rw[e] at q;exact q
 | rt t=>rw[e] at q;exact q
 | rf ts=>rw[e] at q;exact q
 | bk ρ=>rw[e] at q;exact q
 | ct ρ=>rw[e] at q;exact q
 | er C n=>rw[e] at q;exact q
@[simp] noncomputable def gQ:En->O:=λρ=>.nx ρ
theorem Lk:MS K E G9 gQ:=λF0 H0 F H σ ρ D r q=>(q:kN K F0 H0 F D.nx ρ) F H σ (.refl _) r
theorem JB:MS K E Du (λ_=>.bad):=λ_ _ _ _ _ _ _ _ q=>q
theorem MT.inS{c:TT}{fc:Pe->M Bool}{Q:Bool->Hp->Prop}{k:Bool->O}(hc:MT K E c fc)(r:Sr K F0 H0 F H σ ρ)(q:(O.of (fc (vw ρ)) k).res K E F0 H0 F D)
  (hk:∀b F' H',gU F F'->Sr K F0 H0 F' H' σ ρ->(k b).res K E F0 H0 F' D->Q b H'):c σ H Q:=by
 obtain⟨Fl,s0,g0,V,back⟩:=r.lend;refine hc Fl H σ (vw ρ) Q g0.fh V ((O.res_of q).mono (λb z F' H' g=>?_) λC n z=>z.go g0);obtain⟨Fb,gb,sb,_⟩:=back F' H' g;exact hk b Fb H' sb (r.grow gb) (z.go sb)
@[simp] noncomputable def kg(fc:Pe->M Bool)(a b:En->O):En->O:=λρ=>.of (fc (vw ρ)) λc=>if c then a ρ else b ρ
theorem QH{c:TT}{fc:Pe->M Bool}{t u:TS}{a b:En->O}(hc:MT K E c fc)(h1:MS K E t a)(h2:MS K E u b):MS K E (Nv c t u) (kg fc a b):=λF0 H0 F H σ ρ D r q=>by
 refine hc.inS r q λc F' H' s r' q'=>?_;cases c with
 | true=>rw[aP rfl];exact h1 _ _ _ _ _ _ _ r' q'
 | false=>rw[aQ aG];exact h2 _ _ _ _ _ _ _ r' q'
@[simp] noncomputable def hU(f:Pe->M T):En->O:=λρ=>.of (f (vw ρ)) λt=>.rt t
theorem OX(h:ME K E t f):MS K E (AD t) (hU f):=λF0 H0 F H σ ρ D r q=>by obtain⟨Fl,s0,g0,V,back⟩:=r.lend;exact h Fl H σ (vw ρ) _ g0.fh V ((O.res_of q).mono (λb z=>kV.go z g0) λC n z=>z.go g0)
@[simp] noncomputable def vR(f:Pe->M (List T)):En->O:=λρ=>.of (f (vw ρ)) λt=>.rf t
theorem LB{f:Pe->M (List T)}(h:MF K E t f):MS K E (AD t) (vR f):=λF0 H0 F H σ ρ D r q=>by obtain⟨Fl,s0,g0,V,back⟩:=r.lend;exact h Fl H σ (vw ρ) _ g0.fh V ((O.res_of q).mono (λb z=>kF.go z g0) λC n z=>z.go g0)
@[simp] noncomputable def n5(i:Nat):En->O:=λρ=>match ρ[i]? with
 | some (some (.o ts))=>.rf ts
 | _=>.bad
theorem GG{i:Nat}:MS K E (AD (nt i)) (n5 i):=λF0 H0 F H σ ρ D r q=>by
 unfold n5 at q;split at q
 ·rename_i ts e;obtain⟨ad,h1,h2⟩:=r.ov;obtain⟨a,b,c,vs,d,z⟩:=h1 i ts e;exact⟨_,a,(q:kF K F0 H0 D.rt ts) (ad i) vs F H r.gr c b d z⟩
 ·exact q.elim
theorem sJ{α:Type}{l:List α}{i:Nat}{x y:α}(h:(l.set i x)[i]? = some y):y=x:=by
 rw[List.getElem?_set] at h;simp only[if_true] at h;split at h
 ·exact (Option.some.inj h).symm
 ·cases h
theorem gE{α:Type}{l:List α}{i j:Nat}{x y:α}(h:(l.set i x)[j]? = some y):(j=i/\y=x)\/(j≠i/\l[j]? = some y):=by
 by_cases e:j=i
 ·subst e;exact .inl ⟨rfl,sJ h⟩
 ·rw[aq (λz=>e z.symm)] at h;exact .inr ⟨e,h⟩
theorem qN{α:Type}{l:List α}{i:Nat}{x:α}(h:i<l.length):(l.set i x)[i]? = some x:=by rw[List.getElem?_set_self h]
theorem Sr.setP{i:Nat}{v:V}{x:T}(r:Sr K F0 H0 F H σ ρ)(h:lN K F v x):Sr K F0 H0 F H (σ.set i (some v)) (ρ.set i (some (.p x))):=by
 obtain⟨ad,h1,h2⟩:=r.ov;refine⟨r.gr,by simp[r.len],λj t e=>?_,⟨ad,λj ts e=>?_,λj k ts us e e'=>?_⟩,λe he=>?_,λj l vs hlt q=>?_,r.dv.set λ_ z=>nomatch z⟩
 ·have hl:j<ρ.length:=by simpa using (aa.mp e).1
  rcases gE e with⟨rfl,q⟩ | ⟨hj,q⟩
  ·cases q;exact⟨v,qN (by rw[r.len];exact hl),h⟩
  ·obtain⟨w,a,b⟩:=r.pv j t q;exact⟨w,by rw[aq (λz=>hj z.symm)];exact a,b⟩
 ·rcases gE e with⟨rfl,q⟩ | ⟨hj,q⟩
  ·cases q
  ·obtain⟨a,b⟩:=h1 j ts q;exact⟨by rw[aq (λz=>hj z.symm)];exact a,b⟩
 ·rcases gE e with⟨rfl,q⟩ | ⟨hj,q⟩
  ·cases q
  ·rcases gE e' with⟨rfl,q'⟩ | ⟨hk,q'⟩
   ·cases q'
   ·exact h2 j k ts us q q'
 ·have L:=r.lv e he;refine⟨L.h,L.f,L.z,λj ts q=>?_⟩;rcases gE q with⟨rfl,q1⟩ | ⟨hj,q1⟩
  ·cases q1
  ·rw[aq (λz=>hj z.symm)];exact L.d j ts q1
 ·rcases gE q with⟨rfl,q1⟩ | ⟨hj,q1⟩
  ·cases q1
  ·rw[aq (λz=>hj z.symm)];exact r.sl j l vs hlt q1
theorem Sr.setO{i:Nat}{l:Addr}{vs:List V}{ts:List T}(r:Sr K F0 H0 F H σ ρ)(g:Gr F H F1 H1)(hl:H l=none)(hf:F1 l=none)(hv:H1 l=some (.lst vs))(hr:gL K F1 vs ts) :
  Sr K F0 H0 F1 H1 (σ.set i (some (.ref l))) (ρ.set i (some (.o ts))):=by
 have r1:=r.grow g;obtain⟨ad0,h10,_⟩:=r.ov;obtain⟨ad,h1,h2⟩:=r1.ov;have nl:∀j us,ρ[j]? = some (some (.o us))->ad j≠l:=λj us e z=>by
  obtain⟨a,_⟩:=h1 j us e;obtain⟨a0,_,_,vs0,d0,_⟩:=h10 j us e;rw[a] at a0;have:ad j=ad0 j:=by simpa using a0
  rw[<-this,z,hl] at d0;cases d0
 refine⟨r1.gr,by simp[r.len],λj t e=>?_,⟨λj=>if j=i then l else ad j,λj us e=>?_,λj k us ws e e' hjk=>?_⟩,λe he=>?_,λj l' vs' hlt q=>?_,r1.dv.set λ_ z=>nomatch z⟩
 ·rcases gE e with⟨rfl,q⟩ | ⟨hj,q⟩
  ·cases q
  ·obtain⟨w,a,b⟩:=r1.pv j t q;exact⟨w,by rw[aq (λz=>hj z.symm)];exact a,b⟩
 ·have hln:j<ρ.length:=by simpa using (aa.mp e).1
  rcases gE e with⟨rfl,q⟩ | ⟨hj,q⟩
  ·cases q;dsimp only;rw[aP rfl];exact⟨qN (by rw[r.len];exact hln),hf,gP r.gr.hh hl,vs,hv,hr⟩
  ·dsimp only;rw[aQ hj];obtain⟨a,b⟩:=h1 j us q;exact⟨by rw[aq (λz=>hj z.symm)];exact a,b⟩
 ·rcases gE e with⟨rfl,q⟩ | ⟨hj,q⟩
  ·rcases gE e' with⟨rfl,q'⟩ | ⟨hk,q'⟩
   ·exact absurd rfl hjk
   ·dsimp only;rw[aP rfl,aQ hk];exact λz=>nl k ws q' z.symm
  ·rcases gE e' with⟨rfl,q'⟩ | ⟨hk,q'⟩
   ·dsimp only;rw[aQ hj,aP rfl];exact nl j us q
   ·dsimp only;rw[aQ hj,aQ hk];exact h2 j k us ws q q' hjk
 ·have L:=r1.lv e he;have L0:=r.lv e he;refine⟨L.h,L.f,L.z,λj ts q=>?_⟩;rcases gE q with⟨rfl,q1⟩ | ⟨hj,q1⟩
  ·intro z;have z':=sJ z;have:e.2.1=l:=by simpa using z'
   rw[<-this,L0.h] at hl;cases hl
  ·rw[aq (λz=>hj z.symm)];exact L.d j ts q1
 ·rcases gE q with⟨rfl,q1⟩ | ⟨hj,q1⟩
  ·cases q1
  ·rw[aq (λz=>hj z.symm)];exact r.sl j l' vs' hlt q1
@[simp] noncomputable def iK(f:Pe->M T)(ρ:En):M T:=f (nV ρ)
@[simp] noncomputable def m8(f:Pe->M T)(ρ:En):M T:=(f (vw ρ)).bind λt=>if lf t then .ok t else .bad
theorem ME.inH{Q:VK}{k:T->O}(h:ME K E t f)(r:Sr K F0 H0 F H σ ρ)(q:(O.of (iK f ρ) k).res K E F0 H0 F D)
  (hk:∀x v F' H',Gr F H F' H'->lN K F' v x->Sr K F0 H0 F' H' σ ρ->(k x).res K E F0 H0 F' D->Q v H'):t σ H Q:=
 h F H σ (nV ρ) Q r.gr.fh r.vars ((O.res_of q).mono (λx z v F' H' g rp=>hk x v F' H' g rp (r.grow g) (z.go g.ff)) λC n z=>z.go r.gr)
theorem ME.inB{Q:VK}{k:T->O}(h:ME K E t f)(r:Sr K F0 H0 F H σ ρ)(q:(O.of (m8 f ρ) k).res K E F0 H0 F D)
  (hk:∀x v F' H',Gr F H F' H'->lN K F' v x->Sr K F0 H0 F' H' σ ρ->(k x).res K E F0 H0 F' D->Q v H'):t σ H Q:=by
 obtain⟨Fl,s0,g0,V,back⟩:=r.lend;refine h Fl H σ (vw ρ) Q g0.fh V ((M.res.unb (O.res_of q)).mono (λx z v F' H' g rp=>?_) λC n z=>z.go g0);obtain⟨Fb,gb,sb,sb',hlst,_⟩:=back F' H' g;by_cases hl:lf x=true
 ·rw[aP hl] at z;exact hk x v Fb H' gb (rp.less sb' hlst hl) (r.grow gb) (O.res.go z sb)
 ·rw[aQ hl] at z;exact z.elim
@[simp] noncomputable def setO(i:Nat)(f:En->M T):En->O:=λρ=>.of (f ρ) λt=>.nx (ρ.set i (some (.p t)))
theorem E5{i:Nat}(h:ME K E t f):MS K E (o5 t (kK i)) (setO i (iK f)):=λF0 H0 F H σ ρ D r q=>h.inH r q λx v F' H' g rp r' q'=>(q':kN K F0 H0 F' D.nx _) F' H' _ (.refl _) (r'.setP rp)
theorem Lj{i:Nat}(h:ME K E t f):MS K E (o5 t (kK i)) (setO i (m8 f)):=λF0 H0 F H σ ρ D r q=>h.inB r q λx v F' H' g rp r' q'=>(q':kN K F0 H0 F' D.nx _) F' H' _ (.refl _) (r'.setP rp)
@[simp] noncomputable def nU(f:Pe->M (List T))(ρ:En):M (List T):=f (nV ρ)
@[simp] noncomputable def vO(f:Pe->M (List T))(ρ:En):M (List T):=(f (vw ρ)).bind λts=>if Gp ts then .ok ts else .bad
theorem MF.inH{f:Pe->M (List T)}{Q:VK}{k:List T->O}(h:MF K E t f)(r:Sr K F0 H0 F H σ ρ)(q:(O.of (nU f ρ) k).res K E F0 H0 F D)
  (hk:∀ts l vs F' H',Gr F H F' H'->H l=none->F' l=none->H' l=some (.lst vs)->gL K F' vs ts->(k ts).res K E F0 H0 F' D->Q (.ref l) H'):t σ H Q:=
 h F H σ (nV ρ) Q r.gr.fh r.vars ((O.res_of q).mono (λts z l vs F' H' g a b c d=>hk ts l vs F' H' g a b c d (z.go g.ff)) λC n z=>z.go r.gr)
theorem MF.inB{f:Pe->M (List T)}{Q:VK}{k:List T->O}(h:MF K E t f)(r:Sr K F0 H0 F H σ ρ)(q:(O.of (vO f ρ) k).res K E F0 H0 F D)
  (hk:∀ts l vs F' H',Gr F H F' H'->H l=none->F' l=none->H' l=some (.lst vs)->gL K F' vs ts->(k ts).res K E F0 H0 F' D->Q (.ref l) H'):t σ H Q:=by
 obtain⟨Fl,s0,g0,V,back⟩:=r.lend;refine h Fl H σ (vw ρ) Q g0.fh V ((M.res.unb (O.res_of q)).mono (λts z l vs F' H' g a b c d=>?_) λC n z=>z.go g0);obtain⟨Fb,gb,sb,sb',hlst,_⟩:=back F' H' g;by_cases hl:Gp ts=true
 ·rw[aP hl] at z;exact hk ts l vs Fb H' gb a (gP sb' b) c (d.less sb' hlst hl) (O.res.go z sb)
 ·rw[aQ hl] at z;exact z.elim
@[simp] noncomputable def mV(i:Nat)(f:En->M (List T)):En->O:=λρ=>.of (f ρ) λts=>.nx (ρ.set i (some (.o ts)))
theorem EB{i:Nat}{f:Pe->M (List T)}(h:MF K E t f):MS K E (o5 t (kK i)) (mV i (nU f)):=λF0 H0 F H σ ρ D r q=>h.inH r q λts l vs F' H' g a b c d q'=>(q':kN K F0 H0 F' D.nx _) F' H' _ (.refl _) (r.setO g a b c d)
theorem Lz{i:Nat}{f:Pe->M (List T)}(h:MF K E t f):MS K E (o5 t (kK i)) (mV i (vO f)):=λF0 H0 F H σ ρ D r q=>h.inB r q λts l vs F' H' g a b c d q'=>(q':kN K F0 H0 F' D.nx _) F' H' _ (.refl _) (r.setO g a b c d)
@[simp] noncomputable def Bm(f:En->M T):En->O:=λρ=>.of (f ρ) λ_=>.nx ρ
theorem J8(h:ME K E t f):MS K E (sN t) (Bm (iK f)):=λF0 H0 F H σ ρ D r q=>h.inH r q λx v F' H' g rp r' q'=>(q':kN K F0 H0 F' D.nx _) F' H' _ (.refl _) r'
theorem Sr.change{i:Nat}{ts us:List T}{ws:List V}(r:Sr K F0 H0 F H σ ρ)(e:ρ[i]? = some (some (.o ts)))(hw:gL K F ws us) :
  ∃l vs,σ[i]? = some (some (.ref l))/\H l=some (.lst vs)/\gL K F vs ts/\Sr K F0 H0 F (jx H l (.lst ws)) σ (ρ.set i (some (.o us))):=by
 obtain⟨ad,h1,h2⟩:=r.ov;obtain⟨a,b,c,vs,d,z⟩:=h1 i ts e;have kT:i<ρ.length:=(aa.mp e).1;refine⟨ad i,vs,a,d,z,⟨r.gr.ff,λp u q=>?_,λp u q=>?_,r.gr.nw⟩,by simp[r.len],λj t q=>?_,⟨ad,λj ss q=>?_,λj k ss ss' q q' hjk=>?_⟩,λe' he=>?_,λj l' vs' hlt q=>?_,(r.dv.heap (.refl _) λp xs hp _=>⟨by assumption,by rw[gA (λz=>by rw[z,d] at hp;cases hp)];exact hp⟩).setR λ_ z=>nomatch z⟩
 ·rw[gA (hC q b)];exact r.gr.fh p u q
 ·rw[gA (hC q c)];exact r.gr.hh p u q
 ·rcases gE q with⟨rfl,q1⟩ | ⟨hj,q1⟩
  ·cases q1
  ·exact r.pv j t q1
 ·rcases gE q with⟨rfl,q1⟩ | ⟨hj,q1⟩
  ·cases q1;exact⟨a,b,c,ws,gC,hw⟩
  ·obtain⟨a',b',c',vs',d',z'⟩:=h1 j ss q1;exact⟨a',b',c',vs',by rw[gA (h2 j i ss ts q1 e hj)];exact d',z'⟩
 ·rcases gE q with⟨rfl,q1⟩ | ⟨hj,q1⟩
  ·rcases gE q' with⟨rfl,q2⟩ | ⟨hk,q2⟩
   ·exact absurd rfl hjk
   ·exact h2 j k ts ss' e q2 hjk
  ·rcases gE q' with⟨rfl,q2⟩ | ⟨hk,q2⟩
   ·exact h2 j k ss ts q1 e hjk
   ·exact h2 j k ss ss' q1 q2 hjk
 ·have L:=r.lv e' he;have hne:e'.2.1≠ad i:=λw=>L.d i ts e (by rw[w];exact a);refine⟨by rw[gA hne];exact L.h,L.f,L.z,λj ss q=>?_⟩;rcases gE q with⟨rfl,q1⟩ | ⟨hj,q1⟩
  ·exact L.d _ ts e
  ·exact L.d j ss q1
 ·rcases gE q with⟨rfl,q1⟩ | ⟨hj,q1⟩
  ·cases q1
  ·exact r.sl j l' vs' hlt q1
@[simp] noncomputable def mL(ρ:En)(i:Nat):M (List T):=match ρ[i]? with
 | some (some (.o ts))=>.ok ts
 | _=>.bad
theorem rR{ρ:En}{i:Nat}{ts:List T}(h:mL ρ i=.ok ts):ρ[i]? = some (some (.o ts)):=by
 unfold mL at h;split at h
 ·rename_i ts' e;cases h;exact e
 ·cases h
@[simp] noncomputable def pC(i:Nat)(f:En->M T):En->O:=λρ=>.of (mL ρ i) λts=>.of (f ρ) λt=>if ts.length<sizeLine then .nx (ρ.set i (some (.o (ts++[t])))) else .bad
theorem wu{i:Nat}{ts:List T}{x:T}{v:V}(r:Sr K F0 H0 F H σ ρ)(e:ρ[i]? = some (some (.o ts)))(rp:lN K F v x)
  (q:(if ts.length<sizeLine then O.nx (ρ.set i (some (.o (ts++[x])))) else .bad).res K E F0 H0 F D):∃l,σ[i]? = some (some (.ref l))/\zE (.ref l) [v] H λ_ H1=>D.nx σ H1:=by
 by_cases hl:ts.length<sizeLine
 ·rw[aP hl] at q;obtain⟨ad,h1,_⟩:=r.ov;obtain⟨_,_,_,vs,d,z⟩:=h1 i ts e;obtain⟨l,vs',a',d',z',r'⟩:=r.change e (us:=ts++[x]) (ws:=vs++[v]) (z.append (.cons rp .nil));have:vs'=vs:=by
   have a:=(h1 i ts e).1;rw[a'] at a;have:l=ad i:=by simpa using a
   rw[this,d] at d';cases d';rfl
  subst this;exact⟨l,a',l,vs',v,rfl,rfl,d',by rw[z.length];exact hl,(q:kN K F0 H0 F D.nx _) F _ _ (.refl _) r'⟩
 ·rw[aQ hl] at q;exact q.elim
def FR(K:W.Frag)(i:Nat)(te:TE):TE:=Sd K "list" zE (nt i) (rk te uT)
theorem Ky{i:Nat}(ht:∀l xs H,H l=some (.lst xs)->PL K "list" (.ref l) H)(h:ME K E t f):MS K E (sN (FR K i t)) (pC i (iK f)):=λF0 H0 F H σ ρ D r q=>by
 unfold pC at q;cases e:mL ρ i with
 | bad=>rw[e] at q;exact q.elim
 | er C n=>unfold mL at e;split at e<;>cases e
 | ok ts=>rw[e] at q;have e':=rR e;obtain⟨ad,h1,_⟩:=r.ov;obtain⟨a,_,_,vs,d,_⟩:=h1 i ts e';refine⟨_,a,ht _ _ _ d,?_⟩;refine h.inH r q λx v F' H' g rp r' q'=>?_;obtain⟨l,a',q''⟩:=wu r' e' rp q';rw[a] at a';cases a';exact q''
theorem KD{i:Nat}(ht:∀l xs H,H l=some (.lst xs)->PL K "list" (.ref l) H)(h:ME K E t f):MS K E (sN (FR K i t)) (pC i (m8 f)):=λF0 H0 F H σ ρ D r q=>by
 unfold pC at q;cases e:mL ρ i with
 | bad=>rw[e] at q;exact q.elim
 | er C n=>unfold mL at e;split at e<;>cases e
 | ok ts=>rw[e] at q;have e':=rR e;obtain⟨ad,h1,_⟩:=r.ov;obtain⟨a,_,_,vs,d,_⟩:=h1 i ts e';refine⟨_,a,ht _ _ _ d,?_⟩;refine h.inB r q λx v F' H' g rp r' q'=>?_;obtain⟨l,a',q''⟩:=wu r' e' rp q';rw[a] at a';cases a';exact q''
@[simp] noncomputable def uM(i:Nat)(fk:En->M T)(f:En->M T):En->O:=λρ=>.of (mL ρ i) λts=>.of (f ρ) λt=>.of (fk ρ) λk=>match k with
 | .int k=>match xF ts.length k with
  | some j=>.nx (ρ.set i (some (.o (ts.set j t))))
  | none=>.bad
 | _=>.bad
theorem Hb{i:Nat}{ts:List T}{x y:T}{v w:V}{l:Addr}(r2:Sr K F0 H0 F H σ ρ)(e':ρ[i]? = some (some (.o ts)))(hl:σ[i]? = some (some (.ref l)))(rp:lN K F v x)(rw_:lN K F w y)
  (q2:(match y with
   | .int k=>match xF ts.length k with
    | some j=>O.nx (ρ.set i (some (.o (ts.set j x))))
    | none=>.bad
   | _=>.bad).res K E F0 H0 F D):Ex (.ref l) w v H λH3=>D.nx σ H3:=by
 cases rw_ with
 | int k=>
  dsimp only at q2;cases hx:xF ts.length k with
  | none=>rw[hx] at q2;exact q2.elim
  | some j=>
   rw[hx] at q2;obtain⟨ad,h1,_⟩:=r2.ov;obtain⟨_,_,_,vs,d,z⟩:=h1 i ts e';obtain⟨l',vs',a',d',z',r3⟩:=r2.change e' (us:=ts.set j x) (ws:=vs.set j v) (z.set rp j);rw[hl] at a';cases a';have:vs'=vs:=by
    have a:=(h1 i ts e').1;rw[hl] at a;have:l=ad i:=by simpa using a
    rw[this,d] at d';cases d';rfl
   subst this;exact⟨l,vs',k,j,rfl,rfl,d',by rw[z.length];exact hx,(q2:kN K F0 H0 F D.nx _) F _ _ (.refl _) r3⟩
 | _=>exact q2.elim
theorem NI{i:Nat}{tk:TE}{fk:Pe->M T}(h:ME K E t f)(hk:ME K E tk fk):MS K E (o5 t (NS (nt i) tk Ex)) (uM i (m8 fk) (m8 f)):=λF0 H0 F H σ ρ D r q=>by
 unfold uM at q;cases e:mL ρ i with
 | bad=>rw[e] at q;exact q.elim
 | er C n=>unfold mL at e;split at e<;>cases e
 | ok ts=>rw[e] at q;have e':=rR e;obtain⟨ad,h1,_⟩:=r.ov;have a:=(h1 i ts e').1;refine h.inB r q λx v F' H' g rp r' q'=>⟨_,a,?_⟩;exact hk.inB r' q' λy w F2 H2 g2 rw_ r2 q2=>Hb r2 e' a (rp.mono g2.ff) rw_ q2
end
end L3
namespace L3
open PySem L2
section
variable {K:W.Frag}{E:XK}{t u ta tb:TE}{f fa fb:Pe->M T}{F0:Fz}{H0 F H F1 H1:Hp}{σ:St}{ρ:En}{D:Ad}
structure ye(K:W.Frag)(J:It)(its:List T)(F1:Hp):Prop where
 go:∀i H,gU F1 H->i<its.length->J.go i H
 stop:∀H,gU F1 H->J.stop its.length H
 yld:∀(i:Nat) t F H x H',gU F1 F->gU F H->its[i]? = some t->J.yld i H x H'->∃F',Gr F H F' H'/\lN K F' x t
def kI(K:W.Frag)(F H:Hp)(R:It->Hp->Prop)(its:List T):Prop:=∀J F' H',Gr F H F' H'->ye K J its F'->R J H'
noncomputable def MI(K:W.Frag)(E:XK)(w:TI)(f:Pe->M (List T)):Prop:=∀F H σ ρ R,gU F H->lZ K F σ ρ->(f ρ).res (kI K F H R) (kE E F H)->w σ H R
def Sa(K:W.Frag)(F H:Hp)(R:It->Hp->Prop)(its:List T):Prop:=∀J F' H',Gr F H F' H'->(∀F1,ye K J its F1)->R J H'
noncomputable def Qb(K:W.Frag)(E:XK)(w:TI)(f:Pe->M (List T)):Prop:=∀F H σ ρ R,gU F H->lZ K F σ ρ->(f ρ).res (Sa K F H R) (kE E F H)->w σ H R
theorem Qb.mi{w:TI}{f:Pe->M (List T)}(h:Qb K E w f):MI K E w f:=λF H σ ρ R s V q=>h F H σ ρ R s V (q.mono (λits z J F' H' g i=>z J F' H' g (i F')) λ_ _ z=>z)
@[simp] noncomputable def Rg(fa:Pe->M T):Pe->M (List T):=λρ=>(fa ρ).bind λx=>match x with
 | .lst ts=>.ok ts
 | .scr ns=>.ok (ns.map T.int)
 | _=>.bad
@[simp] noncomputable def R8(fa:Pe->M T):Pe->M (List T):=λρ=>(fa ρ).bind λx=>match x with
 | .tup ts=>.ok ts
 | _=>.bad
theorem Eu{a:Addr}{xs:List V}{ts:List T}(hs:k9 K F a xs)(r:gL K F xs ts):ye K (RA K a) ts F where
 go:=λi H s hi=>by have e:xs[i]? = some (xs[i]'(by rw[r.length];exact hi)):=ag _;exact⟨xs,_,s.seq hs,e⟩
 stop:=λH s=>⟨xs,s.seq hs,by rw[r.length];exact aJ _⟩
 yld:=λi t F' H x H' s1 s2 e y=>by obtain⟨rfl,hx⟩:=y;have e':=hx xs ((s1.trans s2).seq hs);obtain⟨t',e'',rp⟩:=r.at_ e';rw[e] at e'';cases e'';exact⟨F',.refl s2,rp.mono s1⟩
theorem tw{F H:Hp}{a:Addr}{xs:List V}(s:gU F H)(h:F a=some (.tup xs)):mB K H a xs:=mB.of (s _ _ h)
theorem Od{a:Addr}{xs:List V}{ts:List T}(hs:F a=some (.tup xs))(r:gL K F xs ts):ye K (Ry K a) ts F where
 go:=λi H s hi=>by have e:xs[i]? = some (xs[i]'(by rw[r.length];exact hi)):=ag _;exact⟨xs,_,tw s hs,e⟩
 stop:=λH s=>⟨xs,tw s hs,by rw[r.length];exact aJ _⟩
 yld:=λi t F' H x H' s1 s2 e y=>by obtain⟨rfl,hx⟩:=y;have e':=hx xs (tw (s1.trans s2) hs);obtain⟨t',e'',rp⟩:=r.at_ e';rw[e] at e'';cases e'';exact⟨F',.refl s2,rp.mono s1⟩
theorem Ax(ha:ME K E ta fa):MI K E (IX K ta) (Rg fa):=λF H σ ρ R s V q=>by
  refine ha.run s V q λx v F1 H1 g1 r1 q1=>?_;cases r1<;>first
    | exact q1.elim
    | (rename_i h r
       exact⟨_,rfl,⟨_,k9.of (g1.fh _ _ h)⟩,(q1:kI K F H R _) _ F1 H1 g1 (Eu (k9.of h) r)⟩)
    | (rename_i h
       exact⟨_,rfl,⟨_,g1.fh.seq h⟩,(q1:kI K F H R _) _ F1 H1 g1 (Eu h (gL.of_ints _))⟩)
theorem OV(ha:ME K E ta fa):MI K E (N2 K ta) (R8 fa):=λF H σ ρ R s V q=>by
  refine ha.run s V q λx v F1 H1 g1 r1 q1=>?_;cases r1<;>first
    | exact q1.elim
    | (rename_i h r
       exact⟨_,rfl,⟨_,mB.of (g1.fh _ _ h)⟩,(q1:kI K F H R _) _ F1 H1 g1 (Od h r)⟩)
theorem RO:(2:Int) ^ 62=4611686018427387904:=by decide +kernel
theorem R3:(2:Int) ^ 63=9223372036854775808:=by decide +kernel
def G5(j:Int):Bool:=decide (j.natAbs<4611686018427387904)
theorem vA{j:Int}(h:G5 j=true):-(2 ^ 62)<=j/\j<2 ^ 62:=by rw[RO];have:=of_decide_eq_true h;omega
theorem nE{j:Int}(h:j.natAbs<=1000000):G5 j=true:=aB (by omega)
def Ar(lo:Int)(n:Nat):List T:=(List.range n).map λ(i:Nat)=>T.int (lo+(i:Int))
theorem Oa{lo:Int}{n:Nat}(F:Hp):ye K (P5 lo n) (Ar lo n) F where
 go:=λi H s hi=>by show i<n;simpa[Ar] using hi
 stop:=λH s=>by simp[Ar,P5]
 yld:=λi t F' H x H' s1 s2 e y=>by
  obtain⟨rfl,rfl⟩:=y;have hi:i<n:=by simpa[Ar] using (aa.mp e).1
  have:t=.int (lo+i):=by unfold Ar at e;rw[av,List.getElem?_range hi] at e;cases e;rfl
  rw[this];exact⟨F',.refl s2,.int _⟩
@[simp] noncomputable def lK(fa:Pe->M (List T)):Pe->M (List T):=λρ=>(fa ρ).bind λxs=>match xs with
 | [.int j]=>if G5 j then .ok (Ar 0 j.toNat) else .bad
 | _=>.bad
theorem LW{ta:TA}{fa:Pe->M (List T)}(ha:MA K E ta fa):Qb K E (Hr ta) (lK fa):=λF H σ ρ R s V q=>by
 refine ha.run s V q λxs vs F1 H1 g1 r1 q1=>?_;split at q1
 ·rename_i j;split at q1
  ·rename_i hj;cases r1 with
   | cons a b=>cases a;cases b;exact⟨j,rfl,(vA hj).1,(vA hj).2,(q1:Sa K F H R _) _ F1 H1 g1 Oa⟩
  ·exact q1.elim
 ·exact q1.elim
noncomputable def seqB(b:Bool):T->M (List T)
 | .tup ts=>if b then .ok ts else .bad
 | .lst ts=>if b then .bad else .ok ts
 | .scr ns=>if b then .bad else .ok (ns.map T.int)
 | _=>.bad
theorem Ap{b:Bool}{x:T}{v:V}{ts:List T}(r:lN K F v x)(e:seqB b x=.ok ts):∃a xs,v=.ref a/\(∀H,gU F H->vm K H b a xs)/\gL K F xs ts:=by
 cases r<;>try (cases e)
 ·rename_i a xs ss h r;cases b with
  | true=>cases e;exact⟨a,xs,rfl,λH s=>by unfold vm;rw[aP rfl];exact mB.of (s _ _ h),r⟩
  | false=>cases e
 ·rename_i a xs ss h r;cases b with
  | true=>cases e
  | false=>cases e;exact⟨a,xs,rfl,λH s=>by unfold vm;rw[aQ aG];exact k9.of (s _ _ h),r⟩
 ·rename_i a ns h;cases b with
  | true=>cases e
  | false=>cases e;exact⟨a,_,rfl,λH s=>by unfold vm;rw[aQ aG];exact s.seq h,gL.of_ints ns⟩
def AK(xs ys:List T):List T:=(xs.zip ys).map λp=>T.tup [p.1,p.2]
theorem OT{b1 b2:Bool}{l1 l2:Addr}{xs ys:List V}{ts us:List T}(h1:∀H,gU F H->vm K H b1 l1 xs)(r1:gL K F xs ts)(h2:∀H,gU F H->vm K H b2 l2 ys)(r2:gL K F ys us):ye K (RB K b1 b2 l1 l2) (AK ts us) F where
 go:=λi H s hi=>by
  have hi':i<ts.length/\i<us.length:=by simp[AK] at hi;omega
  have e1:xs[i]? = some (xs[i]'(by rw[r1.length];exact hi'.1)):=ag _;have e2:ys[i]? = some (ys[i]'(by rw[r2.length];exact hi'.2)):=ag _;exact⟨xs,ys,_,_,h1 H s,h2 H s,e1,e2⟩
 stop:=λH s=>⟨xs,ys,h1 H s,h2 H s,by simp[AK,r1.length,r2.length];omega⟩
 yld:=λi t F' H x H' s1 s2 e y=>by
  obtain⟨p,x1,x2,rfl,hp,rfl,e1,e2⟩:=y;obtain⟨t1,f1,q1⟩:=r1.at_ (e1 xs (h1 H (s1.trans s2)));obtain⟨t2,f2,q2⟩:=r2.at_ (e2 ys (h2 H (s1.trans s2)));have:t=.tup [t1,t2]:=by unfold AK at e;rw[av,(List.getElem?_zip_eq_some (z:=(t1,t2))).mpr ⟨f1,f2⟩] at e;cases e;rfl
  rw[this];have g:=Gr.new (o:=.tup [x1,x2]) s2 hp;exact⟨_,g,.tup gC (.cons ((q1.mono s1).mono g.ff) (.cons ((q2.mono s1).mono g.ff) .nil))⟩
noncomputable def Ny(b1 b2:Bool)(fa:Pe->M (List T)):Pe->M (List T):=λρ=>(fa ρ).bind λxs=>match xs with
 | [x,y]=>(seqB b1 x).bind λts=>(seqB b2 y).bind λus=>.ok (AK ts us)
 | _=>.bad
theorem zI{b:Bool}{x:T}{C:Addr}{n:Option Int}:seqB b x≠.er C n:=by cases x<;>cases b<;>exact λz=>nomatch z
theorem JG{b1 b2:Bool}{ta:TA}{fa:Pe->M (List T)}(ha:MA K E ta fa):MI K E (Pj K b1 b2 ta) (Ny b1 b2 fa):=λF H σ ρ R s V q=>by
 refine ha.run s V q λxs vs F1 H1 g1 r1 q1=>?_;split at q1
 ·rename_i x y;cases r1 with
  | cons a b=>
   cases b with
   | cons b c=>
    cases c;cases e1:seqB b1 x with
    | bad=>rw[e1] at q1;exact q1.elim
    | er C n=>exact absurd e1 zI
    | ok ts=>
     rw[e1] at q1;cases e2:seqB b2 y with
     | bad=>simp only[e2,M.bind_ok] at q1;exact q1.elim
     | er C n=>exact absurd e2 zI
     | ok us=>simp only[e2,M.bind_ok] at q1;obtain⟨a1,x1,rfl,s1,t1⟩:=Ap a e1;obtain⟨a2,x2,rfl,s2,t2⟩:=Ap b e2;exact⟨a1,a2,rfl,⟨x1,s1 _ g1.fh⟩,⟨x2,s2 _ g1.fh⟩,(q1:kI K F H R _) _ F1 H1 g1 (OT s1 t1 s2 t2)⟩
 ·exact q1.elim
def MG(K:W.Frag)(g:TG)(m:T->Pe->Option Pe):Prop:=∀F H σ (ρ:Pe) x t ρ' Q,gU F H->σ.length=ρ.length->lZ K F σ ρ->lN K F x t->m t ρ=some ρ'->(∀σ',σ'.length=ρ'.length->lZ K F σ' ρ'->Q σ' H)->g x σ H Q
def Qk(K:W.Frag)(g:Co)(m:List T->Pe->Option Pe):Prop:=∀F H σ (ρ:Pe) xs ts ρ' Q,gU F H->σ.length=ρ.length->lZ K F σ ρ->gL K F xs ts->m ts ρ=some ρ'->(∀σ',σ'.length=ρ'.length->lZ K F σ' ρ'->Q σ' H)->g xs σ H Q
@[simp] def jo(i:Nat):T->Pe->Option Pe:=λt ρ=>some (ρ.set i (some t))
theorem lZ.set{σ:St}{ρ:Pe}{i:Nat}{v:V}{x:T}(V:lZ K F σ ρ)(hl:σ.length=ρ.length)(h:lN K F v x):lZ K F (σ.set i (some v)) (ρ.set i (some x)):=λj t e=>by
 have hj:j<ρ.length:=by simpa using (aa.mp e).1
 rcases gE e with⟨rfl,q⟩ | ⟨hj,q⟩
 ·cases q;exact⟨v,qN (by rw[hl];exact hj),h⟩
 ·obtain⟨w,a,b⟩:=V j t q;exact⟨w,by rw[aq (λz=>hj z.symm)];exact a,b⟩
theorem Ms{i:Nat}:MG K (kK i) (jo i):=λF H σ ρ x t ρ' Q s hl V r e k=>by cases e;exact k _ (by simp[hl]) (V.set hl r)
@[simp] def o7:List T->Pe->Option Pe
 | [],ρ=>some ρ
 | _::_,_=>none
@[simp] def i8(m:T->Pe->Option Pe)(n:List T->Pe->Option Pe):List T->Pe->Option Pe
 | [],_=>none
 | t::ts,ρ=>(m t ρ).bind (n ts)
theorem LR:Qk K FU o7:=λF H σ ρ xs ts ρ' Q s hl V r e k=>by
 cases r with
 | nil=>cases e;exact⟨rfl,k σ hl V⟩
 | cons a b=>cases e
theorem HM{g:TG}{gs:Co}{m:T->Pe->Option Pe}{n:List T->Pe->Option Pe}(h1:MG K g m)(h2:Qk K gs n):Qk K (xA g gs) (i8 m n):=λF H σ ρ xs ts ρ' Q s hl V r e k=>by
 cases r with
 | nil=>cases e
 | cons a b=>
  rename_i v t vs ts';have e:(m t ρ).bind (n ts')=some ρ':=e;cases q:m t ρ with
  | none=>rw[q] at e;cases e
  | some ρ1=>rw[q] at e;refine⟨v,vs,rfl,h1 F H σ ρ v t ρ1 _ s hl V a q λσ' hl' V'=>?_⟩;exact h2 F H σ' ρ1 vs ts' ρ' Q s hl' V' b e k
@[simp] def o4(k:Nat)(m:List T->Pe->Option Pe):T->Pe->Option Pe
 | .tup ts,ρ=>if ts.length=k then m ts ρ else none
 | _,_=>none
theorem Pv{k:Nat}{g:Co}{m:List T->Pe->Option Pe}(h:Qk K g m):MG K (GH K k g) (o4 k m):=λF H σ ρ x t ρ' Q s hl V r e q=>by
 cases r with
 | tup hx rs=>
  rename_i a xs ts;have e:(if ts.length=k then m ts ρ else none)=some ρ':=e;by_cases hk:ts.length=k
  ·rw[aP hk] at e;exact⟨_,_,rfl,mB.of (s _ _ hx),by rw[rs.length];exact hk,h F H σ ρ _ _ ρ' Q s hl V rs e q⟩
  ·rw[aQ hk] at e;cases e
 | _=>cases e
noncomputable def LQ(K:W.Frag)(g:TG)(m:T->En->Option En):Prop:=∀F0 H0 F H σ ρ x t ρ' Q,Sr K F0 H0 F H σ ρ->lN K F x t->m t ρ=some ρ'->(∀σ',Sr K F0 H0 F H σ' ρ'->Q σ' H)->g x σ H Q
noncomputable def HW(K:W.Frag)(g:Co)(m:List T->En->Option En):Prop:=∀F0 H0 F H σ ρ xs ts ρ' Q,Sr K F0 H0 F H σ ρ->gL K F xs ts->m ts ρ=some ρ'->(∀σ',Sr K F0 H0 F H σ' ρ'->Q σ' H)->g xs σ H Q
@[simp] noncomputable def jF(i:Nat):T->En->Option En:=λt ρ=>some (ρ.set i (some (.p t)))
theorem Je{i:Nat}:LQ K (kK i) (jF i):=λF0 H0 F H σ ρ x t ρ' Q s r e k=>by cases e;exact k _ (s.setP r)
@[simp] noncomputable def kr:List T->En->Option En
 | [],ρ=>some ρ
 | _::_,_=>none
@[simp] noncomputable def g9(m:T->En->Option En)(n:List T->En->Option En):List T->En->Option En
 | [],_=>none
 | t::ts,ρ=>(m t ρ).bind (n ts)
theorem Ia:HW K FU kr:=λF0 H0 F H σ ρ xs ts ρ' Q s r e k=>by
 cases r with
 | nil=>cases e;exact⟨rfl,k σ s⟩
 | cons a b=>cases e
theorem Fm{g:TG}{gs:Co}{m:T->En->Option En}{n:List T->En->Option En}(h1:LQ K g m)(h2:HW K gs n):HW K (xA g gs) (g9 m n):=λF0 H0 F H σ ρ xs ts ρ' Q s r e k=>by
 cases r with
 | nil=>cases e
 | cons a b=>
  rename_i v t vs ts';have e:(m t ρ).bind (n ts')=some ρ':=e;cases q:m t ρ with
  | none=>rw[q] at e;cases e
  | some ρ1=>rw[q] at e;refine⟨v,vs,rfl,h1 F0 H0 F H σ ρ v t ρ1 _ s a q λσ' s'=>?_⟩;exact h2 F0 H0 F H σ' ρ1 vs ts' ρ' Q s' b e k
@[simp] noncomputable def kD(k:Nat)(m:List T->En->Option En):T->En->Option En
 | .tup ts,ρ=>if ts.length=k then m ts ρ else none
 | _,_=>none
theorem K2{k:Nat}{g:Co}{m:List T->En->Option En}(h:HW K g m):LQ K (GH K k g) (kD k m):=λF0 H0 F H σ ρ x t ρ' Q s r e q=>by
 cases r with
 | tup hx rs=>
  rename_i a xs ts;have e:(if ts.length=k then m ts ρ else none)=some ρ':=e;by_cases hk:ts.length=k
  ·rw[aP hk] at e;exact⟨_,_,rfl,mB.of (s.gr.fh _ _ hx),by rw[rs.length];exact hk,h F0 H0 F H σ ρ _ _ ρ' Q s rs e q⟩
  ·rw[aQ hk] at e;cases e
 | _=>cases e
noncomputable def jr(m:T->En->Option En)(g:En->O):List T->En->O
 | [],ρ=>.nx ρ
 | t::ts,ρ=>match m t ρ with
  | none=>.bad
  | some ρ1=>match g ρ1 with
   | .nx ρ2=>jr m g ts ρ2
   | .ct ρ2=>jr m g ts ρ2
   | .bk ρ2=>.nx ρ2
   | o=>o
theorem DA{g:TG}{tb:TS}{m:T->En->Option En}{gb:En->O}{J:It}{its:List T}(hg:LQ K g m)(hb:MS K E tb gb){G:Hp->Hp->Prop}(igo:∀i F H,G F H->i<its.length->J.go i H)(isp:∀F H,G F H->J.stop its.length H)(iyl:∀(i:Nat) t F H x H',G F H->its[i]? = some t->J.yld i H x H'->∃F',Gr F H F' H'/\lN K F' x t)
  (hG:∀F' H' σ' ρ',gU F1 F'->Sr K F0 H0 F' H' σ' ρ'->G F' H') (r:Sr K F0 H0 F H σ ρ) (s1:gU F1 F)
  (q:(jr m gb its ρ).res K E F0 H0 F D):∃W:Nat->Nat->St->Hp->Prop,(∃m,W 0 m σ H)/\∀i m σ H,W i m σ H->
 (J.stop i H/\D.nx σ H)\/(J.go i H/\∃N:St->Hp->Prop,(∀σ' H',N σ' H'->∃m',m'<m/\W (i+1) m' σ' H')/\∀x H',J.yld i H x H'->g x σ H' λσ2 H2=>tb {D with nx:=N,ct:=N,bk:=D.nx} σ2 H2):=by
 refine⟨λi k σ' H'=>i<=its.length/\k=its.length - i/\∃F' ρ',gU F1 F'/\Sr K F0 H0 F' H' σ' ρ'/\(jr m gb (its.drop i) ρ').res K E F0 H0 F' D,⟨_,bH _,rfl,F,ρ,s1,r,by simpa using q⟩,?_⟩
 rintro i k σ1 Hh ⟨hi,rfl,F2,ρ2,s2,r2,q2⟩
 by_cases hlt:i<its.length
 ·right;refine⟨igo i F2 Hh (hG _ _ _ _ s2 r2) hlt,λσ' H'=>∃F' ρ',gU F1 F'/\Sr K F0 H0 F' H' σ' ρ'/\(jr m gb (its.drop (i+1)) ρ').res K E F0 H0 F' D,λσ' H' z=>⟨its.length - (i+1),by omega,hlt,rfl,z⟩,λx H' y=>?_⟩;have et:its[i]? = some its[i]:=ag hlt;obtain⟨F3,g3,rp⟩:=iyl i _ F2 Hh x H' (hG _ _ _ _ s2 r2) et y;rw[cU hlt] at q2;unfold jr at q2;cases em:m its[i] ρ2 with
  | none=>rw[em] at q2;exact q2.elim
  | some ρ3=>
   rw[em] at q2;refine hg F0 H0 F3 H' σ1 ρ2 x _ ρ3 _ (r2.grow g3) rp em λσ' r'=>?_;refine hb F0 H0 F3 H' σ' ρ3 _ r' ?_;dsimp only at q2;cases eb:gb ρ3 with
   | bad=>rw[eb] at q2;exact q2.elim
   | nx ρ4=>rw[eb] at q2;exact λF' H'' σ'' s r''=>⟨F',ρ4,(s2.trans g3.ff).trans s,r'',O.res.go q2 (g3.ff.trans s)⟩
   | ct ρ4=>rw[eb] at q2;exact λF' H'' σ'' s r''=>⟨F',ρ4,(s2.trans g3.ff).trans s,r'',O.res.go q2 (g3.ff.trans s)⟩
   | bk ρ4=>rw[eb] at q2;exact kN.go q2 g3.ff
   | rt t=>rw[eb] at q2;exact q2
   | rf ts=>rw[eb] at q2;exact q2
   | er C n=>rw[eb] at q2;exact q2
 ·left;have e:i=its.length:=by omega
  subst e;refine⟨isp F2 Hh (hG _ _ _ _ s2 r2),?_⟩;rw[List.drop_length] at q2;exact (q2:kN K F0 H0 F2 D.nx ρ2) F2 Hh σ1 (.refl _) r2
theorem yB{g:TG}{tb:TS}{m:T->En->Option En}{gb:En->O}{J:It}{its:List T}(hg:LQ K g m)(hb:MS K E tb gb)(iok:ye K J its F1)(r:Sr K F0 H0 F H σ ρ)(s1:gU F1 F)
  (q:(jr m gb its ρ).res K E F0 H0 F D):∃W:Nat->Nat->St->Hp->Prop,(∃m,W 0 m σ H)/\∀i m σ H,W i m σ H->
 (J.stop i H/\D.nx σ H)\/(J.go i H/\∃N:St->Hp->Prop,(∀σ' H',N σ' H'->∃m',m'<m/\W (i+1) m' σ' H')/\∀x H',J.yld i H x H'->g x σ H' λσ2 H2=>tb {D with nx:=N,ct:=N,bk:=D.nx} σ2 H2):=
 DA (G:=λF H=>gU F1 F/\gU F H) hg hb (λi F H q hi=>iok.go i H (q.1.trans q.2) hi) (λF H q=>iok.stop H (q.1.trans q.2)) (λi t F H x H' q e y=>iok.yld i t F H x H' q.1 q.2 e y) (λ_ _ _ _ s r=>⟨s,r.gr.fh⟩) r s1 q
@[simp] noncomputable def mM(fi:Pe->M (List T))(m:T->En->Option En)(g:En->O):En->O:=λρ=>.of (fi (nV ρ)) λits=>jr m g its ρ
theorem OY{w:TI}{fi:Pe->M (List T)}{g:TG}{tb:TS}{m:T->En->Option En}{gb:En->O}(hi:MI K E w fi)(hg:LQ K g m)(hb:MS K E tb gb):MS K E (Hz w g tb) (mM fi m gb):=λF0 H0 F H σ ρ D r q=>hi F H σ (nV ρ) _ r.gr.fh r.vars ((O.res_of q).mono (λits z J F' H' gr iok=>yB hg hb iok (r.grow gr) (.refl _) (z.go gr.ff)) λC n z=>z.go r.gr)
@[simp] noncomputable def qc(fi:Pe->M (List T))(m:T->En->Option En)(g:En->O):En->O:=λρ=>.of (fi (vw ρ)) λits=>jr m g its ρ
theorem Ln{w:TI}{fi:Pe->M (List T)}{g:TG}{tb:TS}{m:T->En->Option En}{gb:En->O}(hi:Qb K E w fi)(hg:LQ K g m)(hb:MS K E tb gb):MS K E (Hz w g tb) (qc fi m gb):=λF0 H0 F H σ ρ D r q=>by obtain⟨Fl,s0,g0,V,back⟩:=r.lend;refine hi Fl H σ (vw ρ) _ g0.fh V ((O.res_of q).mono (λits z J F' H' gr iok=>?_) λC n z=>z.go g0);obtain⟨Fb,gb',sb,_⟩:=back F' H' gr;exact yB hg hb (iok Fb) (r.grow gb') (.refl _) (z.go sb)
noncomputable def mj(c:Pe->M Bool)(g:En->O):Nat->En->O
 | 0,_=>.bad
 | n+1,ρ=>.of (c (vw ρ)) λb=>if b then (match g ρ with
   | .nx ρ2=>mj c g n ρ2
   | .ct ρ2=>mj c g n ρ2
   | .bk ρ2=>.nx ρ2
   | o=>o) else .nx ρ
theorem Kc{c:TT}{fc:Pe->M Bool}{tb:TS}{gb:En->O}(fuel:En->Nat)(hc:MT K E c fc)(hb:MS K E tb gb):MS K E (Dl c tb) (λρ=>mj fc gb (fuel ρ) ρ):=λF0 H0 F H σ ρ D r q=>by
 refine⟨λn σ' H'=>∃F' ρ',gU F F'/\Sr K F0 H0 F' H' σ' ρ'/\(mj fc gb n ρ').res K E F0 H0 F' D,⟨fuel ρ,F,ρ,.refl _,r,q⟩,?_⟩;rintro n σ1 Hh ⟨F2,ρ2,s2,r2,q2⟩;cases n with
 | zero=>exact q2.elim
 | succ n=>
  unfold mj at q2;refine hc.inS r2 q2 λb F3 H3 s3 r3 q3=>?_;cases b with
  | true=>
   rw[aP rfl] at q3 ⊢;refine⟨λσ' H'=>∃F' ρ',gU F F'/\Sr K F0 H0 F' H' σ' ρ'/\(mj fc gb n ρ').res K E F0 H0 F' D,λσ' H' z=>⟨n,bG n,z⟩,?_⟩;refine hb F0 H0 F3 H3 σ1 ρ2 _ r3 ?_;cases eb:gb ρ2 with
   | bad=>rw[eb] at q3;exact q3.elim
   | nx ρ4=>rw[eb] at q3;exact λF' H'' σ'' s r''=>⟨F',ρ4,(s2.trans s3).trans s,r'',O.res.go q3 s⟩
   | ct ρ4=>rw[eb] at q3;exact λF' H'' σ'' s r''=>⟨F',ρ4,(s2.trans s3).trans s,r'',O.res.go q3 s⟩
   | bk ρ4=>rw[eb] at q3;exact q3
   | rt t=>rw[eb] at q3;exact q3
   | rf ts=>rw[eb] at q3;exact q3
   | er C n=>rw[eb] at q3;exact q3
  | false=>rw[aQ aG] at q3 ⊢;exact (q3:kN K F0 H0 F3 D.nx ρ2) F3 H3 σ1 (.refl _) r3
@[simp] def m9(ix:List (Option Nat))(ρ:Pe):Pe:=ix.map fun
 | none=>none
 | some j=>(ρ[j]?).getD none
theorem lZ.pull{σ:St}{ρ:Pe}(V:lZ K F σ ρ)(ix:List (Option Nat)):lZ K F (L2.pull ix σ) (m9 ix ρ):=λi t e=>by
 unfold m9 at e;rw[av] at e;cases q:ix[i]? with
 | none=>rw[q] at e;cases e
 | some w=>
  rw[q] at e;cases w with
  | none=>cases e
  | some j=>
   have e':(ρ[j]?).getD none=some t:=by simpa using e
   cases z:ρ[j]? with
   | none=>rw[z] at e';cases e'
   | some y=>rw[z] at e';have:y=some t:=e';rw[this] at z;obtain⟨v,a,b⟩:=V j t z;refine⟨v,?_,b⟩;show (L2.pull ix σ)[i]? = _;unfold L2.pull;rw[av,q];simp[a]
@[simp] noncomputable def qX(m:T->Pe->Option Pe)(tt:Pe->M Bool)(te:Pe->M T)(ρ:Pe)(t:T):M (Option T):=match m t ρ with
 | none=>.bad
 | some ρ1=>(tt ρ1).bind λb=>if b then (te ρ1).bind λx=>.ok (some x) else .ok none
noncomputable def pM(k:T->M (Option T)):List T->M (List T)
 | []=>.ok []
 | t::ts=>(k t).bind λo=>(pM k ts).bind λr=>.ok (match o with
  | some x=>x::r
  | none=>r)
def MB:XK:=λ_ _ _=>False
theorem Ou:MT K E Pb (λ_=>.ok true):=λF H σ ρ Q s V q=>(q:kB F H Q true) F H (.refl s)
theorem JF{ix:List (Option Nat)}{g:TG}{tt:TT}{te:TE}{m:T->Pe->Option Pe}{ft:Pe->M Bool}{fe:Pe->M T}{J:It}{its:List T}{ρ:Pe}{Q:VK}(hg:MG K g m)(ht:MT K MB tt ft)(he:ME K MB te fe)(V:lZ K F1 σ ρ)
  (iok:ye K J its F1) (s:gU F1 H1) (hl:its.length<sizeLine) (q:(pM (qX m ft fe (m9 ix ρ)) its).res (kF K F1 H1 Q) (λ_ _=>False)):R7 J ix g tt te σ H1 Q:=by
 refine⟨λi k ys H=>i<=its.length/\k=its.length - i/\∃F' ts,Gr F1 H1 F' H/\gL K F' ys ts/\ts.length<=i/\(pM (qX m ft fe (m9 ix ρ)) (its.drop i)).res (λus=>kF K F1 H1 Q (ts++us)) (λ_ _=>False),
  ⟨_,bH _,rfl,F1,[],.refl s,.nil,bH _,by simpa using q⟩,?_⟩
 rintro i k ys Hh ⟨hi,rfl,F2,ts,g2,r2,tl,q2⟩;by_cases hlt:i<its.length
 ·right;refine⟨iok.go i Hh (g2.ff.trans g2.fh) hlt,by rw[r2.length];omega,λx H' y=>?_⟩;have et:its[i]? = some its[i]:=ag hlt;obtain⟨F3,g3,rp⟩:=iok.yld i _ F2 Hh x H' g2.ff g2.fh et y;rw[cU hlt] at q2;unfold pM at q2;have q3:=M.res.unb q2;unfold qX at q3;cases em:m its[i] (m9 ix ρ) with
  | none=>rw[em] at q3;exact q3.elim
  | some ρ3=>
   rw[em] at q3;have g23:=g2.trans g3;have V3:lZ K F3 (L2.pull ix σ) (m9 ix ρ):=(V.mono g23.ff).pull ix;refine hg F3 H' _ _ x _ ρ3 _ g3.fh (by simp[L2.pull,m9]) V3 rp em λσ' hl' V'=>?_;have q4:=M.res.unb q3;refine ht F3 H' σ' ρ3 _ g3.fh V' (q4.mono (λb z F4 H4 g4=>?_) λ_ _ z=>z.elim);cases b with
   | true=>rw[aP rfl] at z ⊢;have q5:=M.res.unb z;refine he F4 H4 σ' ρ3 _ g4.fh (V'.mono g4.ff) (q5.mono (λx' z' v F5 H5 g5 rp'=>?_) λ_ _ z=>z.elim);refine⟨its.length - (i+1),by omega,hlt,rfl,F5,ts++[x'],(g23.trans g4).trans g5,(r2.mono (g3.ff.trans (g4.ff.trans g5.ff))).append (.cons rp' .nil),by simp;omega,?_⟩;have z'':(pM (qX m ft fe (m9 ix ρ)) (its.drop (i+1))).res (λus=>kF K F1 H1 Q (ts++(x'::us))) (λ_ _=>False):=M.res.unb z';exact z''.mono (λus w=>by rw[bZ];exact w) λ_ _ w=>w
   | false=>rw[aQ aG] at z ⊢;refine⟨its.length - (i+1),by omega,hlt,rfl,F4,ts,g23.trans g4,r2.mono (g3.ff.trans g4.ff),by omega,?_⟩;exact M.res.unb z
 ·left;have e:i=its.length:=by omega
  subst e;rw[List.drop_length] at q2;refine⟨iok.stop Hh (g2.ff.trans g2.fh),λD hD=>?_⟩;have q3:kF K F1 H1 Q ts:=by simpa[pM,M.res] using q2
  exact q3 D ys F2 _ (g2.trans (.new' g2.fh hD)) (gP g2.hh hD) (gP g2.fh hD) gC r2
theorem Mz{ix:List (Option Nat)}{w:TI}{g:TG}{tt:TT}{te:TE}{fi:Pe->M (List T)}{m:T->Pe->Option Pe}{ft:Pe->M Bool}{fe:Pe->M T}(hi:MI K E w fi)(hg:MG K g m)(ht:MT K MB tt ft)(he:ME K MB te fe) :
  MF K E (NT ix w g tt te) (λρ=>(fi ρ).bind λits=>(if its.length<sizeLine then pM (qX m ft fe (m9 ix ρ)) its else .bad).noEr):=λF H σ ρ Q s V q=>by
 refine hi F H σ ρ _ s V ((M.res.unb q).mono (λits z J F' H' gr iok=>?_) λ_ _ z=>z);split at z
 ·rename_i hl;exact JF hg ht he (V.mono gr.ff) iok gr.fh hl (z.noEr.mono (λ_ w=>w.go gr) λ_ _ w=>w)
 ·exact z.elim
end
end L3
namespace L3
open PySem L2
section
variable {K:W.Frag}{E:XK}{t u ta tb:TE}{f fa fb:Pe->M T}{F0:Fz}{H0 F H F1 H1:Hp}{σ:St}{ρ:En}{D:Ad}
noncomputable def iE(K:W.Frag)(F:List T->M T):Sp:=λvs H Q E=>∃ts F0,gU F0 H/\gL K F0 vs ts/\(F ts).res (kV K F0 H Q) (kE E F0 H)
noncomputable def uu(K:W.Frag)(F:List T->M (List T)):Sp:=λvs H Q E=>∃ts F0,gU F0 H/\gL K F0 vs ts/\(F ts).res (kF K F0 H Q) (kE E F0 H)
@[simp] noncomputable def fW(fa:Pe->M (List T))(F:List T->M T):Pe->M T:=λρ=>(fa ρ).bind λts=>(F ts).noEr
@[simp] noncomputable def jR(fa:Pe->M (List T))(F:List T->M (List T)):Pe->M (List T):=λρ=>(fa ρ).bind λts=>(F ts).noEr
section
variable {tr:TA}{fr:Pe->M (List T)}{Fn:List T->M T}{Ff:List T->M (List T)}{E':XK}
theorem Hn(ha:MA K E tr fr):ME K E (zw (iE K Fn) [] E' tr) (fW fr Fn):=λF H σ ρ Q s V q=>by refine ha.run s V q λts vs F1 H1 g1 r1 q1=>?_;exact⟨ts,F1,g1.fh,by rw[bI];exact r1,(q1.mono (λ_ z=>kV.go z g1) λ_ _ z=>z).noEr⟩
theorem IJ(ha:MA K E tr fr):MF K E (zw (uu K Ff) [] E' tr) (jR fr Ff):=λF H σ ρ Q s V q=>by refine ha.run s V q λts vs F1 H1 g1 r1 q1=>?_;exact⟨ts,F1,g1.fh,by rw[bI];exact r1,(q1.mono (λ_ z=>kF.go z g1) λ_ _ z=>z).noEr⟩
@[simp] def sZ(C:Addr)(m:Str)(x:T):M Unit:=match x with
 | .obj C' fs=>if C'=C/\fs.lookup m=none then .ok () else .bad
 | _=>.bad
@[simp] noncomputable def uI(C:Addr)(m:Str)(fo:Pe->M T)(fr:Pe->M (List T))(F:List T->M T):Pe->M T:=λρ=>(fo ρ).bind λx=>(sZ C m x).bind λ_=>(fr ρ).bind λxs=>(F (x::xs)).noEr
@[simp] noncomputable def wa(C:Addr)(m:Str)(fo:Pe->M T)(fr:Pe->M (List T))(F:List T->M (List T)):Pe->M (List T):=λρ=>(fo ρ).bind λx=>(sZ C m x).bind λ_=>(fr ρ).bind λxs=>(F (x::xs)).noEr
theorem ET{C:Addr}{m:Str}{x:T}{v:V}(r:lN K F v x)(e:sZ C m x=.ok ()):∃a dx fs,v=.ref a/\F a=some (.ins C dx fs)/\fs.lookup m=none:=by
 cases r with
 | obj h rs=>
  rename_i a C' dx fs ts;have e:(if C'=C/\List.lookup m ts=none then M.ok () else M.bad)=.ok ():=e;by_cases hc:C'=C/\List.lookup m ts=none
  ·obtain⟨rfl,hl⟩:=hc;exact⟨a,dx,fs,rfl,h,rs.none_ hl⟩
  ·rw[aQ hc] at e;cases e
 | _=>cases e
theorem Ef{C C':Addr}{m:Str}{x:T}{n:Option Int}:sZ C m x≠.er C' n:=by
 unfold sZ;split
 ·split<;>exact λz=>nomatch z
 ·exact λz=>nomatch z
theorem II{C:Addr}{m:Str}(ho:ME K E ta fa)(hr:MA K E tr fr):ME K E (yO C m (iE K Fn) [] E' ta tr) (uI C m fa fr Fn):=λF H σ ρ Q s V q=>by
 refine ho.run s V q λx v F1 H1 g1 r1 q1=>?_;cases e:sZ C m x with
 | bad=>rw[e] at q1;exact q1.elim
 | er C n=>exact absurd e Ef
 | ok u=>rw[e] at q1;obtain⟨a,dx,fs,rfl,h,hl⟩:=ET r1 e;refine⟨a,dx,fs,rfl,g1.fh _ _ h,hl,?_⟩;refine hr.run (P:=kV K F _ Q) g1.fh (V.mono g1.ff) q1 λts vs F2 H2 g2 r2 q2=>?_;exact⟨x::ts,F2,g2.fh,by rw[bI];exact .cons (r1.mono g2.ff) r2,(q2.mono (λ_ z=>kV.go z (g1.trans g2)) λ_ _ z=>z).noEr⟩
theorem Hw{C:Addr}{m:Str}(ho:ME K E ta fa)(hr:MA K E tr fr):MF K E (yO C m (uu K Ff) [] E' ta tr) (wa C m fa fr Ff):=λF H σ ρ Q s V q=>by
 refine ho.run s V q λx v F1 H1 g1 r1 q1=>?_;cases e:sZ C m x with
 | bad=>rw[e] at q1;exact q1.elim
 | er C n=>exact absurd e Ef
 | ok u=>rw[e] at q1;obtain⟨a,dx,fs,rfl,h,hl⟩:=ET r1 e;refine⟨a,dx,fs,rfl,g1.fh _ _ h,hl,?_⟩;refine hr.run (P:=kF K F _ Q) g1.fh (V.mono g1.ff) q1 λts vs F2 H2 g2 r2 q2=>?_;exact⟨x::ts,F2,g2.fh,by rw[bI];exact .cons (r1.mono g2.ff) r2,(q2.mono (λ_ z=>kF.go z (g1.trans g2)) λ_ _ z=>z).noEr⟩
end
@[simp] noncomputable def RY:O->M T
 | .nx _=>.ok .non
 | .rt t=>.ok t
 | .rf ts=>.ok (.lst ts)
 | .er C n=>.er C n
 | _=>.bad
@[simp] noncomputable def Ru:O->M (List T)
 | .rf ts=>.ok ts
 | .er C n=>.er C n
 | _=>.bad
@[simp] def ik(n:Nat)(ts:List T):En:=ts.map (λt=>some (W.p t))++List.replicate (n - ts.length) none
@[simp] noncomputable def lH(k n:Nat)(g:En->O):List T->M T:=λts=>if ts.length=k then RY (g (ik n ts)) else .bad
@[simp] noncomputable def B5(k n:Nat)(g:En->O):List T->M (List T):=λts=>if ts.length=k then Ru (g (ik n ts)) else .bad
theorem yF{n i:Nat}{ts:List T}{kvs:List (List Int×T)}(e:(ik n ts)[i]? = some (some (.d kvs))):False:=by
 unfold ik at e;rw[List.getElem?_append] at e;split at e
 ·rw[av] at e;cases q:ts[i]? with
  | none=>rw[q] at e;cases e
  | some x=>rw[q] at e;cases e
 ·rw[List.getElem?_replicate] at e;split at e<;>cases e
theorem Bu{N:List Str}{vs:List V}{ts:List T}(s:gU F H)(r:gL K F vs ts):Sr K ⟨F,[]⟩ H F H (mW N vs) (ik N.length ts):=by
 refine⟨.refl s,?_,λi t e=>?_,⟨λ_=>0,λi us e=>?_,λi j us ws e=>?_⟩,λ_ he=>(nomatch he),λ_ _ _ h=>(by cases h),⟨λi kvs e=>(yF e).elim,λi j kvs kvs' e=>(yF e).elim⟩⟩
 ·simp[L2.mW,ik,r.length]
 ·unfold ik at e;rw[List.getElem?_append] at e;split at e
  ·rename_i hi;rw[av] at e;cases q:ts[i]? with
   | none=>rw[q] at e;cases e
   | some x=>rw[q] at e;cases e;obtain⟨v,a,b⟩:=r.get q;refine⟨v,?_,b⟩;unfold L2.mW;rw[List.getElem?_append_left (by simpa[r.length] using hi),av,a];rfl
  ·rw[List.getElem?_replicate] at e;split at e<;>cases e
 ·exfalso;unfold ik at e;rw[List.getElem?_append] at e;split at e
  ·rw[av] at e;cases q:ts[i]? with
   | none=>rw[q] at e;cases e
   | some x=>rw[q] at e;cases e
  ·rw[List.getElem?_replicate] at e;split at e<;>cases e
 ·exfalso;unfold ik at e;rw[List.getElem?_append] at e;split at e
  ·rw[av] at e;cases q:ts[i]? with
   | none=>rw[q] at e;cases e
   | some x=>rw[q] at e;cases e
  ·rw[List.getElem?_replicate] at e;split at e<;>cases e
theorem CJ{k n:Nat}{g:En->O}{vs:List V}{Q:VK}(h:iE K (lH k n g) vs H Q E):vs.length=k:=by
 obtain⟨ts,F0,s,r,q⟩:=h;unfold lH at q;by_cases hk:ts.length=k
 ·rw[r.length];exact hk
 ·rw[aQ hk] at q;exact q.elim
theorem zQ{k:Nat}{N:List Str}{g:En->O}{t:TS}{vs:List V}{Q:VK}(hm:MS K E t g)(h:iE K (lH k N.length g) vs H Q E):t {nx:=λ_ H'=>Q .non H',rt:=Q} (mW N vs) H:=by
 obtain⟨ts,F0,s,r,q⟩:=h;unfold lH at q;by_cases hk:ts.length=k
 ·rw[aP hk] at q;refine hm ⟨F0,[]⟩ H F0 H _ _ _ (Bu s r) ?_;cases e:g (ik N.length ts) with
  | bad=>rw[e] at q;exact q
  | nx ρ=>rw[e] at q;exact λF' H' σ' _ r'=>(q:kV K F0 H Q .non) .non F' H' r'.gr .non
  | rt t=>rw[e] at q;exact q
  | rf ts=>rw[e] at q;exact kF.of q
  | bk ρ=>rw[e] at q;exact q.elim
  | ct ρ=>rw[e] at q;exact q.elim
  | er C n=>rw[e] at q;exact q
 ·rw[aQ hk] at q;exact q.elim
theorem E1{k n:Nat}{g:En->O}{vs:List V}{Q:VK}(h:uu K (B5 k n g) vs H Q E):vs.length=k:=by
 obtain⟨ts,F0,s,r,q⟩:=h;unfold B5 at q;by_cases hk:ts.length=k
 ·rw[r.length];exact hk
 ·rw[aQ hk] at q;exact q.elim
theorem BB{k:Nat}{N:List Str}{g:En->O}{t:TS}{vs:List V}{Q:VK}(hm:MS K E t g)(h:uu K (B5 k N.length g) vs H Q E):t {nx:=λ_ H'=>Q .non H',rt:=Q} (mW N vs) H:=by
 obtain⟨ts,F0,s,r,q⟩:=h;unfold B5 at q;by_cases hk:ts.length=k
 ·rw[aP hk] at q;refine hm ⟨F0,[]⟩ H F0 H _ _ _ (Bu s r) ?_;cases e:g (ik N.length ts) with
  | bad=>rw[e] at q;exact q
  | nx ρ=>rw[e] at q;exact q.elim
  | rt t=>rw[e] at q;exact q.elim
  | rf ts=>rw[e] at q;exact q
  | bk ρ=>rw[e] at q;exact q.elim
  | ct ρ=>rw[e] at q;exact q.elim
  | er C n=>rw[e] at q;exact q
 ·rw[aQ hk] at q;exact q.elim
@[simp] noncomputable def A2(C:Addr)(x:Str)(fa:Pe->M T):Pe->M T:=λρ=>(fa ρ).bind λo=>match o with
 | .obj C' fs=>if C'=C then (match fs.lookup x with
  | some t=>.ok t
  | none=>.bad) else .bad
 | _=>.bad
theorem NW{C:Addr}{x:Str}(cl:Ba K C)(na:mZ K C x)(ha:ME K E ta fa):ME K E (N1 K ta x) (A2 C x fa):=λF H σ ρ Q s V q=>by
 refine ha.run s V q λo v F1 H1 g1 r1 q1=>?_;cases r1 with
 | obj h rs=>
  rename_i a C' dx fs ts;dsimp only at q1;by_cases hc:C'=C
  ·subst hc;rw[aP rfl] at q1;cases e:List.lookup x ts with
   | none=>rw[e] at q1;exact q1.elim
   | some y=>rw[e] at q1;obtain⟨w,e',r'⟩:=rs.look e;exact⟨a,C',dx,fs,w,rfl,g1.fh _ _ h,cl,na,e',(q1:kV K F _ Q y) w F1 H1 g1 r'⟩
  ·rw[aQ hc] at q1;exact q1.elim
 | _=>exact q1.elim
end
end L3
namespace L3
open PySem L2 PySem.Spec PyProof.Rows
structure Pm(K:W.Frag)(E:XK)(X:Cx)(e:Expr)(t:TE)(f:Pe->M T):Prop where
 pe:PE X e t
 me:ME K E t f
structure G6(K:W.Frag)(E:XK)(X:Cx)(e:Expr)(t:TE)(f:Pe->M (List T)):Prop where
 pe:PE X e t
 mf:MF K E t f
structure CU(K:W.Frag)(E:XK)(X:Cx)(e:Expr)(t:TT)(f:Pe->M Bool):Prop where
 pt:PT X e t
 mt:MT K E t f
structure Pg(K:W.Frag)(E:XK)(X:Cx)(e:Expr)(t:TT)(f:Pe->M Bool):Prop where
 pw:PW X e t
 mt:MT K E t f
structure B3(K:W.Frag)(E:XK)(X:Cx)(es:List Expr)(t:TA)(f:Pe->M (List T)):Prop where
 pa:PA X es t
 ma:MA K E t f
structure MW(K:W.Frag)(E:XK)(X:Cx)(tg it:Expr)(w:TI)(f:Pe->M (List T)):Prop where
 pi:PI X tg it w
 mi:MI K E w f
structure Ak(K:W.Frag)(E:XK)(X:Cx)(tg it:Expr)(w:TI)(f:Pe->M (List T)):Prop where
 pi:PI X tg it w
 mi:Qb K E w f
structure PR(K:W.Frag)(X:Cx)(tg:Expr)(g:TG)(m:T->Pe->Option Pe):Prop where
 pg:PG X tg g
 mg:MG K g m
structure Mg(K:W.Frag)(X:Cx)(tg:List Expr)(g:Co)(m:List T->Pe->Option Pe):Prop where
 pg:PN X tg g
 mg:Qk K g m
structure PD(K:W.Frag)(X:Cx)(tg:Expr)(g:TG)(m:T->En->Option En):Prop where
 pg:PG X tg g
 mg:LQ K g m
structure LJ(K:W.Frag)(X:Cx)(tg:List Expr)(g:Co)(m:List T->En->Option En):Prop where
 pg:PN X tg g
 mg:HW K g m
structure ur(K:W.Frag)(E:XK)(X:Cx)(st:Stmt)(t:TS)(g:En->O):Prop where
 ps:PS X st t
 ms:MS K E t g
structure sV(K:W.Frag)(E:XK)(X:Cx)(sts:List Stmt)(t:TS)(g:En->O):Prop where
 ps:B8 X sts t
 ms:MS K E t g
noncomputable def MO(K:W.Frag)(E:XK)(t:TO)(f:Pe->M (Option Int)):Prop:=∀F H σ ρ Q,gU F H->lZ K F σ ρ->(f ρ).res (λo=>∀F' H',Gr F H F' H'->Q o H') (kE E F H)->t σ H Q
structure Rm(K:W.Frag)(E:XK)(X:Cx)(e:Option Expr)(t:TO)(f:Pe->M (Option Int)):Prop where
 po:PO X e t
 mo:MO K E t f
structure KC(K:W.Frag)(E:XK)(X:Cx)(es:List Expr)(t:TT)(f:Pe->M Bool):Prop where
 pf:Ft X es t
 mt:MT K E t f
section
variable {K:W.Frag}{E:XK}{X:Cx}{a b c e o:Expr}{es:List Expr}{ta tb tc te to:TE}{fa fb fc fe fo:Pe->M T}{tr:TA}{fr:Pe->M (List T)}{pos p p2 apos:Pos}
theorem fJ(i:Nat){x:Str}{pos:Pos}(hN:X.N[i]? = some x:=by rfl)(hv:QG X.env.scope x:=by first | exact Or.inl rfl | exact Or.inr (Or.inl rfl) | exact Or.inr (Or.inr rfl))(hd:(x == ("__debug__" : Str))=false:=by decide)
  (hcd:(x == ("__classdict__" : Str))=false:=by decide):Pm K E X (.Name x pos) (nt i) (fL i):=⟨pv i hN hv hd hcd,Ph⟩
theorem fS{i:Int}{j pos}:Pm K E X (.Constant (.int i) j pos) (tC (.int i)) (cM (.int i)):=⟨OJ,IA λ_=>.int i⟩
theorem kJ{b:Bool}{j pos}:Pm K E X (.Constant (.bool b) j pos) (tC (.bl b)) (cM (.bl b)):=⟨Q5,IA λ_=>.bl b⟩
theorem j8{j pos}:Pm K E X (.Constant .none j pos) (tC .non) (cM .non):=⟨NN,IA λ_=>.non⟩
theorem tX{x:Str}{j pos}:Pm K E X (.Constant (.str x) j pos) (tC (.str x)) (cM (.str x)):=⟨NU,IA λ_=>.str x⟩
theorem BW(i:Int){x:Str}(hm:∃t,X.mg x=some (.int i t))(hg:Gl X x:=by rfl)(hd:(x == ("__debug__" : Str))=false:=by decide):Pm K E X (.Name x pos) (tC (.int i)) (cM (.int i)):=let ⟨t,h⟩:=hm;⟨Ki hg h ⟨t,rfl⟩ hd,IA λ_=>.int i⟩
theorem gZ{f:Pe->M (List T)}(h:G6 K E X e te f):Pm K E X e te (λρ=>(f ρ).bind λts=>.ok (.lst ts)):=⟨h.pe,h.mf.me⟩
theorem yY{op:Operator}{r:R2}{m:T->T->M T}(ho:pY X (binaryOp op) r)(hr:MR K r m)(ha:Pm K E X a ta fa)(hb:Pm K E X b tb fb):Pm K E X (.BinOp a op b pos) (xZ r ta tb) (fX m fa fb):=⟨Hs ho ha.pe hb.pe,EJ hr ha.me hb.me⟩
def Jv(K:W.Frag):R2:=λx y H Q=>(DM λi j=>.int (i+j)) x y H Q\/(∃i j,x=.str i/\y=.str j/\i.length+j.length<=sizeLine/\Q (.str (i++j)) H)\/Pu x y H Q\/
 ∃a b xs ys,x=.ref a/\y=.ref b/\H a=some (.tup xs)/\H b=some (.tup ys)/\xs.length+ys.length<=sizeLine/\(xs=[]->Q (.ref b) H)/\(xs≠[]->ys=[]->Q (.ref a) H)/\(xs≠[]->ys≠[]->∀p,H p=none->Q (.ref p) (jx H p (.tup (xs++ys))))
theorem LO(hK:X.K=K:=by rfl):pY X (binaryOp .Add) (Jv K):=by
 subst hK;intro fO s σ H x y v u Q I rx ry h;rcases h with h | h | h | h
 ·exact ON fO s σ H x y v u Q I rx ry h
 ·exact CO fO s σ H x y v u Q I rx ry h
 ·exact J2 fO s σ H x y v u Q I rx ry h
 ·obtain⟨a,b,xs,ys,rfl,rfl,ha,hb,hz,q1,q2,q3⟩:=h;by_cases hx:xs=[]
  ·subst hx;cases rx;cases ry;obtain⟨its,r1,p1,_⟩:=I.tuple (mB.of ha);obtain⟨its2,r2,p2,_⟩:=I.tuple (mB.of hb);cases r1;obtain⟨⟨c1,d1,e1,s1⟩,g1,k1,n1,q1'⟩:=id p1;obtain⟨⟨c2,d2,e2,s2⟩,g2,k2,n2,q2'⟩:=id p2;dsimp only at k1 q1' k2 q2';subst k1 q1' k2 q2';exact concat_meets ⟨_,g1,rfl⟩ ⟨_,g2,rfl⟩ noFill_tuple_add seq_tuple_add PySem.F.slot_tuple_add PySem.F.entry_tuple_add (PySem.F.args_tuple_add_2 _ _) (tuple_addW0 a b _ _ n1 n2 d1 d2 s1 s2 (by simp)) ⟨g1,g2,⟨.ref b,H,I,rfl,q1 rfl⟩⟩
  ·exact KY fO s σ H _ _ v u Q I rx ry ⟨a,b,xs,ys,rfl,rfl,mB.of ha,mB.of hb,hx,hz,λe=>q2 hx e,λe p hp=>q3 hx e p hp⟩
noncomputable def iV:T->T->M T
 | .int i,.int j=>.ok (.int (i+j))
 | .str i,.str j=>if i.length+j.length<=sizeLine then .ok (.str (i++j)) else .bad
 | .lst a,.lst b=>if a.length+b.length<=sizeLine then .ok (.lst (a++b)) else .bad
 | .tup a,.tup b=>if a.length+b.length<=sizeLine then .ok (.tup (a++b)) else .bad
 | _,_=>.bad
theorem K0(x y:T):M.NoE (iV x y):=λC n=>by unfold iV;split<;>first | (intro z;cases z;done) | (split<;>intro z<;>cases z)
theorem LV:MR K (Jv K) iV:=⟨K0,λF H v w x y Q s ra rb q=>by
 cases ra with
 | int i=>
  cases rb with
  | int j=>exact .inl ⟨i,j,rfl,rfl,kV.now q s (.int _)⟩
  | _=>exact q.elim
 | str i=>
  cases rb with
  | str j=>
   have q':(if i.length+j.length<=sizeLine then M.ok (T.str (i++j)) else M.bad).res (kV K F H Q) (λ_ _=>False):=q;by_cases h:i.length+j.length<=sizeLine
   ·rw[aP h] at q';exact .inr (.inl ⟨i,j,rfl,rfl,h,kV.now q' s (.str _)⟩)
   ·rw[aQ h] at q';exact q'.elim
  | _=>exact q.elim
 | lst h1 r1=>
  cases rb with
  | lst h2 r2=>
   rename_i a xs ts b ys us;have q':(if ts.length+us.length<=sizeLine then M.ok (T.lst (ts++us)) else M.bad).res (kV K F H Q) (λ_ _=>False):=q;by_cases h:ts.length+us.length<=sizeLine
   ·rw[aP h] at q';refine .inr (.inr (.inl ⟨a,b,xs,ys,rfl,rfl,s _ _ h1,s _ _ h2,by rw[r1.length,r2.length];exact h,λp hp=>?_⟩));exact (q':kV K F H Q _) (.ref p) _ _ (.new s hp) (.lst gC ((r1.append r2).mono (Gr.new s hp).ff))
   ·rw[aQ h] at q';exact q'.elim
  | _=>exact q.elim
 | tup h1 r1=>
  cases rb with
  | tup h2 r2=>
   rename_i a xs ts b ys us;have q':(if ts.length+us.length<=sizeLine then M.ok (T.tup (ts++us)) else M.bad).res (kV K F H Q) (λ_ _=>False):=q;by_cases h:ts.length+us.length<=sizeLine
   ·rw[aP h] at q';refine .inr (.inr (.inr ⟨a,b,xs,ys,rfl,rfl,s _ _ h1,s _ _ h2,by rw[r1.length,r2.length];exact h,λe=>?_,λ_ e=>?_,λ_ _ p hp=>?_⟩))
    ·subst e;cases r1;exact kV.now q' s (.tup h2 r2)
    ·subst e;cases r2;exact kV.now q' s (.tup h1 (by rw[bI];exact r1))
    ·exact (q':kV K F H Q _) (.ref p) _ _ (.new s hp) (.tup gC ((r1.append r2).mono (Gr.new s hp).ff))
   ·rw[aQ h] at q';exact q'.elim
  | _=>exact q.elim
 | _=>exact q.elim⟩
theorem iT(ha:Pm K E X a ta fa)(hb:Pm K E X b tb fb)(hK:X.K=K:=by rfl):Pm K E X (.BinOp a .Add b pos) (xZ (Jv K) ta tb) (fX iV fa fb):=yY (LO hK) LV ha hb
@[simp] noncomputable def Ck(fa fb:Pe->M T):Pe->M (List T):=λρ=>(fa ρ).bind λx=>(fb ρ).bind λy=>match x,y with
 | .lst a,.lst b=>if a.length+b.length<=sizeLine then .ok (a++b) else .bad
 | _,_=>.bad
theorem Ct(ha:Pm K E X a ta fa)(hb:Pm K E X b tb fb):G6 K E X (.BinOp a .Add b pos) (xZ Pu ta tb) (Ck fa fb):=by
 refine⟨Hs J2 ha.pe hb.pe,λF H σ ρ Q s V q=>?_⟩;refine ha.me.run s V q λx v F1 H1 g1 r1 q1=>?_;refine hb.me.run (P:=kF K F H Q) g1.fh (V.mono g1.ff) q1 λy w F2 H2 g2 r2 q2=>?_;cases r1 with
 | lst h1 t1=>
  cases r2 with
  | lst h2 t2=>
   rename_i a xs ts b ys us;have q':(if ts.length+us.length<=sizeLine then M.ok (ts++us) else M.bad).res (kF K F H Q) (kE E F2 H2):=q2;by_cases h:ts.length+us.length<=sizeLine
   ·rw[aP h] at q';refine⟨a,b,xs,ys,rfl,rfl,g2.fh _ _ (g2.ff _ _ h1),g2.fh _ _ h2,by rw[t1.length,t2.length];exact h,λp hp=>?_⟩;have g12:=g1.trans g2;exact (q':kF K F H Q _) p _ F2 _ (g12.trans (.new' g2.fh hp)) (gP g12.hh hp) (gP g2.fh hp) gC ((t1.mono g2.ff).append t2)
   ·rw[aQ h] at q';exact q'.elim
  | _=>exact q2.elim
 | _=>exact q2.elim
noncomputable def sU:T->T->M T:=lJ (λ_ _=>true) λi j=>.int (i - j)
theorem rG(ha:Pm K E X a ta fa)(hb:Pm K E X b tb fb):Pm K E X (.BinOp a .Sub b pos) (xZ (DM λi j=>.int (i - j)) ta tb) (fX sU fa fb):=yY OM (rT λ_ _ _=>.int _) ha hb
instance {i j:Int}:Decidable (PySem.IntMulOk i j):=inferInstanceAs (Decidable (¬_))
noncomputable def iJ:T->T->M T:=lJ (λi j=>decide (PySem.IntMulOk i j)) λi j=>.int (i*j)
theorem ie(ha:Pm K E X a ta fa)(hb:Pm K E X b tb fb):Pm K E X (.BinOp a .Mult b pos) (xZ (rI (λi j=>PySem.IntMulOk i j) λi j=>.int (i*j)) ta tb) (fX iJ fa fb):=yY LA (zG (λi j h=>of_decide_eq_true h) λ_ _ _=>.int _) ha hb
noncomputable def oJ:T->T->M T:=lJ (λi j=>decide (j≠0)&&!Builtin.divisionGoesByPylong i j) λi j=>.int (i.fdiv j)
theorem nq(ha:Pm K E X a ta fa)(hb:Pm K E X b tb fb):Pm K E X (.BinOp a .FloorDiv b pos) (xZ (rI (λi j=>j≠0/\Builtin.divisionGoesByPylong i j=false) λi j=>.int (i.fdiv j)) ta tb) (fX oJ fa fb):=yY IV (zG (λi j h=>by simpa using h) λ_ _ _=>.int _) ha hb
noncomputable def tW:T->T->M T:=lJ (λ_ j=>decide (j≠0)) λi j=>.int (i.fmod j)
theorem qb(ha:Pm K E X a ta fa)(hb:Pm K E X b tb fb):Pm K E X (.BinOp a .Mod b pos) (xZ (rI (λ_ j=>j≠0) λi j=>.int (i.fmod j)) ta tb) (fX tW fa fb):=yY LC (zG (λi j h=>by simpa using h) λ_ _ _=>.int _) ha hb
noncomputable def rS:T->T->M T:=lJ (λi j=>decide (0<=j)&&decide (j<=1000000)&&decide (i.natAbs<18446744073709551616)) λi j=>.int (i ^ j.toNat)
theorem Dh(ha:Pm K E X a ta fa)(hb:Pm K E X b tb fb):Pm K E X (.BinOp a .Pow b pos) (xZ (rI QK λi j=>.int (i ^ j.toNat)) ta tb) (fX rS fa fb):=yY N6 (zG (λi j h=>by simp only[bS,decide_eq_true_eq] at h;exact⟨h.1.1,h.1.2,h.2⟩) λ_ _ _=>.int _) ha hb
theorem kW(ha:Pm K E X a ta fa):Pm K E X (.UnaryOp .USub a pos) (RE (rU λi=>.int (-i)) ta) (uG (λi=>.int (-i)) fa):=⟨P8 Nt ha.pe,QB (λ_ _=>.int _) ha.me⟩
@[simp] noncomputable def uS(fa fb:Pe->M T):Pe->M (List T):=λρ=>(fa ρ).bind λx=>(fb ρ).bind λy=>match x,y with
 | .lst a,.int k=>if G5 k=true/\a.length*k.toNat<=sizeLine then .ok (List.replicate k.toNat a).flatten else .bad
 | _,_=>.bad
theorem Au(ha:Pm K E X a ta fa)(hb:Pm K E X b tb fb):G6 K E X (.BinOp a .Mult b pos) (xZ Qc ta tb) (uS fa fb):=by
 refine⟨Hs OA ha.pe hb.pe,λF H σ ρ Q s V q=>?_⟩;refine ha.me.run s V q λx v F1 H1 g1 r1 q1=>?_;refine hb.me.run (P:=kF K F H Q) g1.fh (V.mono g1.ff) q1 λy w F2 H2 g2 r2 q2=>?_;cases r1 with
 | lst h1 t1=>
  cases r2 with
  | int k=>
   rename_i a xs ts;have q':(if G5 k=true/\ts.length*k.toNat<=sizeLine then M.ok (List.replicate k.toNat ts).flatten else M.bad).res (kF K F H Q) (kE E F2 H2):=q2;by_cases h:G5 k=true/\ts.length*k.toNat<=sizeLine
   ·rw[aP h] at q';refine⟨a,k,xs,rfl,rfl,g2.fh _ _ (g2.ff _ _ h1),by have:=vA h.1;rw[RO] at this;rw[R3];omega,by have:=vA h.1;rw[RO] at this;rw[R3];omega,by rw[t1.length];exact h.2,λp hp=>?_⟩;have g12:=g1.trans g2;exact (q':kF K F H Q _) p _ F2 _ (g12.trans (.new' g2.fh hp)) (gP g12.hh hp) (gP g2.fh hp) gC ((t1.mono g2.ff).rep k.toNat)
   ·rw[aQ h] at q';exact q'.elim
  | _=>exact q2.elim
 | _=>exact q2.elim
theorem kz(h:Pm K E X e te fe)(he:∀whole,isTrue e X.env whole=(do let v <-whole;standAt e.pos;holding [v] (truthy v)):=by intro _;rfl):CU K E X e (tB te) (gO fe):=⟨Os h.pe he,HZ h.me⟩
section
variable {tA tD:TT}{fA fD:Pe->M Bool}{nR:List Expr}
theorem jK(h:CU K E X a tA fA):CU K E X (.UnaryOp .Not a pos) (Oo tA) (kh fA):=⟨Nx h.pt,Pd h.mt⟩
theorem om(h:Pg K E X a tA fA):CU K E X a tA fA:=⟨PW.pt h.pw,h.mt⟩
theorem lh(h:CU K E X a tA fA):Pg K E X (.BoolOp .And [a] pos) tA fA:=⟨Km h.pt,h.mt⟩
theorem lV(h:CU K E X a tA fA):Pg K E X (.BoolOp .Or [a] pos) tA fA:=⟨OW h.pt,h.mt⟩
theorem l7(h:CU K E X a tA fA)(h':Pg K E X (.BoolOp .And (b::nR) pos) tD fD):Pg K E X (.BoolOp .And (a::b::nR) pos) (Oq tA tD) (kf fA fD):=⟨OR h.pt h'.pw,OK h.mt h'.mt⟩
theorem ml(h:CU K E X a tA fA)(h':Pg K E X (.BoolOp .Or (b::nR) pos) tD fD):Pg K E X (.BoolOp .Or (a::b::nR) pos) (RT tA tD) (qg fA fD):=⟨Qu h.pt h'.pw,Qa h.mt h'.mt⟩
theorem rF{op}(h:Pm K E X a ta fa):Pm K E X (.BoolOp op [a] pos) ta fa:=⟨NM h.pe,h.me⟩
theorem tf(h:Pm K E X a ta fa)(h':Pm K E X (.BoolOp .And (b::nR) pos) tb fb):Pm K E X (.BoolOp .And (a::b::nR) pos) (Hv ta tb) (v9 fa fb):=⟨OF h.pe h'.pe,L1 h.me h'.me⟩
theorem PU(h:Pm K E X a ta fa)(h':Pm K E X (.BoolOp .Or (b::nR) pos) tb fb):Pm K E X (.BoolOp .Or (a::b::nR) pos) (OQ ta tb) (Ri fa fb):=⟨QC h.pe h'.pe,NZ h.me h'.me⟩
theorem DL(h:Pm K E X a ta fa):Pm K E X (.UnaryOp .Not a pos) (Jd ta) (FC fa):=⟨Nn h.pe,L7 h.me⟩
theorem QF(h:CU K E X c tA fA)(ha:Pm K E X a ta fa)(hb:Pm K E X b tb fb):Pm K E X (.IfExp c a b pos) (Rw tA ta tb) (Rl fA fa fb):=⟨IL h.pt ha.pe hb.pe,P7 h.mt ha.me hb.me⟩
end
theorem rM{op:CmpOp}{r:R2}{m:T->T->M T}(ho:pY X (compareOp op) r)(hr:MR K r m)(ha:Pm K E X a ta fa)(hb:Pm K E X b tb fb)(hm:behindInMarks op b=false:=by exact tN _):Pm K E X (.Compare a [op] [b] pos) (xZ r ta tb) (fX m fa fb):=⟨K7 ho ha.pe hb.pe hm,EJ hr ha.me hb.me⟩
theorem iz{op:CmpOp}{r:R2}{m:T->T->M T}(ho:pY X (compareOp op) r)(hr:MR K r m)(ha:Pm K E X a ta fa)(hb:Pm K E X b tb fb)(hm:behindInMarks op b=false:=by exact tN _):CU K E X (.Compare a [op] [b] pos) (AZ (xZ r ta tb)) (gO (fX m fa fb)):=⟨Kt ho ha.pe hb.pe hm,Le (EJ hr ha.me hb.me)⟩
noncomputable def Cq:T->T->M T:=lJ (λ_ _=>true) λi j=>.bl (decide (i<j))
noncomputable def Hk:T->T->M T:=lJ (λ_ _=>true) λi j=>.bl (decide (i<=j))
noncomputable def A3:T->T->M T:=lJ (λ_ _=>true) λi j=>.bl (decide (j<i))
noncomputable def M5:T->T->M T:=lJ (λ_ _=>true) λi j=>.bl (decide (j<=i))
theorem uE:MR K (DM λi j=>.bl (decide (i<j))) Cq:=rT λ_ _ _=>.bl _
theorem yI:MR K (DM λi j=>.bl (decide (i<=j))) Hk:=rT λ_ _ _=>.bl _
theorem wc:MR K (DM λi j=>.bl (decide (j<i))) A3:=rT λ_ _ _=>.bl _
theorem Ez:MR K (DM λi j=>.bl (decide (j<=i))) M5:=rT λ_ _ _=>.bl _
@[simp] noncomputable def Rj(m m':T->T->M T)(fa fb fc:Pe->M T):Pe->M T:=λρ=>(fa ρ).bind λx=>(fb ρ).bind λy=>(m x y).bind λz=>match z with
 | .bl true=>(fc ρ).bind λw=>m' y w
 | .bl false=>.ok (.bl false)
 | _=>.bad
theorem Ii{r r':R2}{m m':T->T->M T}(hr:MR K r m)(hr':MR K r' m')(ha:ME K E ta fa)(hb:ME K E tb fb)(hc:ME K E tc fc):ME K E (DG r r' ta tb tc) (Rj m m' fa fb fc):=λF H σ ρ Q s V q=>by
 refine ha.run s V q λx v F1 H1 g1 r1 q1=>?_;refine hb.run (P:=kV K F H Q) g1.fh (V.mono g1.ff) q1 λy w F2 H2 g2 r2 q2=>?_;refine hr.ok F2 H2 v w x y _ g2.fh (r1.mono g2.ff) r2 (((M.res.unb q2).ne (hr.ne x y)).mono (λz qz v3 F3 H3 g3 r3=>?_) λ_ _ z=>z);have g123:=(g1.trans g2).trans g3;cases r3 with
 | bl k=>
  refine⟨k,rfl,?_⟩;cases k with
  | true=>rw[aP rfl];have qz':((fc ρ).bind λw=>m' y w).res (kV K F H Q) (kE E F3 H3):=qz.mono (λ_ z=>z) λ_ _ z=>z.go g3;refine hc.run (P:=kV K F H Q) g3.fh (V.mono g123.ff) qz' λx4 w4 F4 H4 g4 r4 q4=>?_;exact hr'.ok F4 H4 w w4 y x4 Q g4.fh (r2.mono (g3.ff.trans g4.ff)) r4 ((q4.ne (hr'.ne y x4)).mono (λ_ z=>z.go (g123.trans g4)) λ_ _ z=>z)
  | false=>rw[aQ aG];exact (qz:kV K F H Q _) _ F3 H3 g123 (.bl _)
 | _=>exact qz.elim
theorem A5{op op':CmpOp}{r r':R2}{m m':T->T->M T}(ho:pY X (compareOp op) r)(hr:MR K r m)(ho':pY X (compareOp op') r')(hr':MR K r' m')(ha:Pm K E X a ta fa)(hb:Pm K E X b tb fb)(hc:Pm K E X c tc fc)
  (hm:lastMarks [op,op'] [b,c]=false:=by with_unfolding_all rfl):Pm K E X (.Compare a [op,op'] [b,c] pos) (DG r r' ta tb tc) (Rj m m' fa fb fc):=⟨Jc ho ho' ha.pe hb.pe hc.pe hm,Ii hr hr' ha.me hb.me hc.me⟩
mutual
def qF:T->T->Bool
 | .non,.non=>true
 | .bl a,.bl b=>a == b
 | .bl a,.int j=>(if a then 1 else 0) == j
 | .int i,.bl b=>i == (if b then 1 else 0)
 | .int i,.int j=>i == j
 | .str x,.str y=>x == y
 | .lst xs,.lst ys=>qR xs ys
 | .tup xs,.tup ys=>qR xs ys
 | _,_=>false
def qR:List T->List T->Bool
 | [],[]=>true
 | x::xs,y::ys=>qF x y&&qR xs ys
 | _,_=>false
end
mutual
def nO:T->Bool
 | .str x=>PyData.canLay0 (.str x)
 | .lst ts=>pO ts
 | .tup ts=>pO ts
 | .scr _=>false
 | .obj _ _=>false
 | .emp=>false
 | _=>true
def pO:List T->Bool
 | []=>true
 | t::ts=>nO t&&pO ts
end
mutual
def Cp:T->Nat
 | .lst ts=>vg ts+1
 | .tup ts=>vg ts+1
 | _=>0
def vg:List T->Nat
 | []=>0
 | t::ts=>max (Cp t) (vg ts)
end
mutual
def rB:T->PyData
 | .non=>.none
 | .bl b=>.bool b
 | .int i=>.int i
 | .str x=>.str x
 | .lst ts=>.list (sL ts)
 | .tup ts=>.tuple (sL ts)
 | .scr _=>.none
 | .obj _ _=>.none
 | .emp=>.none
def sL:List T->List PyData
 | []=>[]
 | t::ts=>rB t::sL ts
end
mutual
theorem Hg{F:Hp}:∀{v:V} {t:T},lN K F v t->nO t=true->DV K F v (rB t)
 | _,_,.non,_=>.non
 | _,_,.bl b,_=>.bl b
 | _,_,.int i,_=>.int i
 | _,_,.str x,_=>.str x
 | _,_,.lst h r,l=>.lst (k9.of h) (CW r (by simpa[nO] using l))
 | _,_,.tup h r,l=>.tup (mB.of h) (CW r (by simpa[nO] using l))
 | _,_,.scr _,l=>by simp[nO] at l
 | _,_,.obj _ _,l=>by simp[nO] at l
 | _,_,.emp _,l=>by simp[nO] at l
theorem CW{F:Hp}:∀{vs:List V} {ts:List T},gL K F vs ts->pO ts=true->A8 K F vs (sL ts)
 | _,_,.nil,_=>.nil
 | _,_,.cons h r,l=>by rw[pO,bS] at l;exact .cons (Hg h l.1) (CW r l.2)
end
mutual
theorem Aj:∀(t:T),nO t=true->(rB t).canLay0=true
 | .non,_=>rfl
 | .bl b,_=>rfl
 | .int i,_=>rfl
 | .str x,h=>by simpa[nO,rB] using h
 | .lst ts,h=>by rw[rB,PyData.canLay0];exact wk ts (by simpa[nO] using h)
 | .tup ts,h=>by rw[rB,PyData.canLay0];exact wk ts (by simpa[nO] using h)
 | .scr _,h=>by simp[nO] at h
 | .obj _ _,h=>by simp[nO] at h
 | .emp,h=>by simp[nO] at h
theorem wk:∀(ts:List T),pO ts=true->PyData.canLayAll0 (sL ts)=true
 | [],_=>rfl
 | t::ts,h=>by rw[pO,bS] at h;rw[sL,PyData.canLayAll0,Aj t h.1,wk ts h.2];rfl
end
mutual
theorem M9:∀(t:T),(rB t).depth=Cp t
 | .non=>rfl
 | .bl b=>rfl
 | .int i=>rfl
 | .str x=>rfl
 | .lst ts=>by rw[rB,PyData.depth,Cp,DX ts]
 | .tup ts=>by rw[rB,PyData.depth,Cp,DX ts]
 | .scr _=>rfl
 | .obj _ _=>rfl
 | .emp=>rfl
theorem DX:∀(ts:List T),PyData.depthAll (sL ts)=vg ts
 | []=>rfl
 | t::ts=>by rw[sL,PyData.depthAll,vg,M9 t,DX ts]
end
mutual
theorem MX:∀(x y:T),nO x=true->nO y=true->PyData.eqv (rB x) (rB y)=qF x y
 | .lst xs,.lst ys,a,b=>by rw[rB,rB,PyData.eqv,qF];exact Cz xs ys (by simpa[nO] using a) (by simpa[nO] using b)
 | .tup xs,.tup ys,a,b=>by rw[rB,rB,PyData.eqv,qF];exact Cz xs ys (by simpa[nO] using a) (by simpa[nO] using b)
 | .scr _,_,a,_=>by simp[nO] at a
 | .obj _ _,_,a,_=>by simp[nO] at a
 | .emp,_,a,_=>by simp[nO] at a
 | .non,y,_,b=>by cases y<;>first | (exfalso;simp[nO] at b;done) | simp[rB,PyData.eqv,qF]
 | .bl _,y,_,b=>by cases y<;>first | (exfalso;simp[nO] at b;done) | simp[rB,PyData.eqv,qF]
 | .int _,y,_,b=>by cases y<;>first | (exfalso;simp[nO] at b;done) | simp[rB,PyData.eqv,qF]
 | .str _,y,_,b=>by cases y<;>first | (exfalso;simp[nO] at b;done) | simp[rB,PyData.eqv,qF]
 | .lst _,.tup _,_,_=>by simp[rB,PyData.eqv,qF]
 | .lst _,.non,_,_=>by simp[rB,PyData.eqv,qF]
 | .lst _,.bl _,_,_=>by simp[rB,PyData.eqv,qF]
 | .lst _,.int _,_,_=>by simp[rB,PyData.eqv,qF]
 | .lst _,.str _,_,_=>by simp[rB,PyData.eqv,qF]
 | .lst _,.scr _,_,b=>by simp[nO] at b
 | .lst _,.obj _ _,_,b=>by simp[nO] at b
 | .lst _,.emp,_,b=>by simp[nO] at b
 | .tup _,.lst _,_,_=>by simp[rB,PyData.eqv,qF]
 | .tup _,.non,_,_=>by simp[rB,PyData.eqv,qF]
 | .tup _,.bl _,_,_=>by simp[rB,PyData.eqv,qF]
 | .tup _,.int _,_,_=>by simp[rB,PyData.eqv,qF]
 | .tup _,.str _,_,_=>by simp[rB,PyData.eqv,qF]
 | .tup _,.scr _,_,b=>by simp[nO] at b
 | .tup _,.obj _ _,_,b=>by simp[nO] at b
 | .tup _,.emp,_,b=>by simp[nO] at b
theorem Cz:∀(xs ys:List T),pO xs=true->pO ys=true->PyData.eqvAll (sL xs) (sL ys)=qR xs ys
 | [],[],_,_=>rfl
 | [],_::_,_,_=>by simp[sL,PyData.eqvAll,qR]
 | _::_,[],_,_=>by simp[sL,PyData.eqvAll,qR]
 | x::xs,y::ys,a,b=>by rw[pO,bS] at a b;rw[sL,sL,PyData.eqvAll,qR,MX x y a.1 b.1,Cz xs ys a.2 b.2]
end
noncomputable def gD(neg:Bool):T->T->M T:=λx y=>if nO x&&nO y&&decide (Cp x<=100) then .ok (.bl (if neg then !qF x y else qF x y)) else .bad
mutual
theorem DV.same{F H:Hp}(s:gU F H):∀{v:V} {d:PyData},DV K F v d->DV K H v d
 | _,_,.non=>.non
 | _,_,.bl b=>.bl b
 | _,_,.int i=>.int i
 | _,_,.str x=>.str x
 | _,_,.lst h r=>.lst (s.seq h) (A8.same s r)
 | _,_,.tup h r=>.tup (s.seqT h) (A8.same s r)
theorem A8.same{F H:Hp}(s:gU F H):∀{v:List V} {d:List PyData},A8 K F v d->A8 K H v d
 | _,_,.nil=>.nil
 | _,_,.cons h r=>.cons (DV.same s h) (A8.same s r)
end
theorem Mi{neg:Bool}(x y:T):M.NoE (gD neg x y):=λC n=>by unfold gD;split<;>exact λz=>nomatch z
theorem E9(neg:Bool):MR K (C6 K neg) (gD neg):=⟨Mi,λF H v w x y Q s ra rb q=>by
 unfold gD at q;by_cases h:(nO x&&nO y&&decide (Cp x<=100))=true
 ·rw[aP h] at q;simp only[bS,decide_eq_true_eq] at h;refine⟨rB x,rB y,DV.same s (Hg ra h.1.1),DV.same s (Hg rb h.1.2),⟨Aj x h.1.1,Aj y h.1.2,by rw[M9];exact h.2⟩,?_⟩;rw[MX x y h.1.1 h.1.2];exact kV.now q s (.bl _)
 ·rw[aQ h] at q;exact q.elim⟩
theorem BX{k:Nat}(hr:ju k X.A)(ha:Pm K E X a ta fa)(hb:Pm K E X b tb fb)(hK:X.K=K:=by rfl)(hm:behindInMarks .Eq b=false:=by exact tN _):Pm K E X (.Compare a [.Eq] [b] pos) (xZ (C6 K false) ta tb) (fX (gD false) fa fb):=rM (hK▸Ir (Rc hr)) (E9 false) ha hb hm
theorem M7{k:Nat}(hr:ju k X.A)(ha:Pm K E X a ta fa)(hb:Pm K E X b tb fb)(hK:X.K=K:=by rfl)(hm:behindInMarks .NotEq b=false:=by exact tN _):Pm K E X (.Compare a [.NotEq] [b] pos) (xZ (C6 K true) ta tb) (fX (gD true) fa fb):=rM (hK▸Ih (Rc hr)) (E9 true) ha hb hm
theorem jE{k:Nat}(hr:ju k X.A)(ha:Pm K E X a ta fa)(hb:Pm K E X b tb fb)(hK:X.K=K:=by rfl)(hm:behindInMarks .Eq b=false:=by exact tN _):CU K E X (.Compare a [.Eq] [b] pos) (AZ (xZ (C6 K false) ta tb)) (gO (fX (gD false) fa fb)):=iz (hK▸Ir (Rc hr)) (E9 false) ha hb hm
theorem ki{k:Nat}(hr:ju k X.A)(ha:Pm K E X a ta fa)(hb:Pm K E X b tb fb)(hK:X.K=K:=by rfl)(hm:behindInMarks .NotEq b=false:=by exact tN _):CU K E X (.Compare a [.NotEq] [b] pos) (AZ (xZ (C6 K true) ta tb)) (gO (fX (gD true) fa fb)):=iz (hK▸Ih (Rc hr)) (E9 true) ha hb hm
@[simp] noncomputable def jS(neg:Bool):T->T->M T:=λx y=>match y with
 | .non=>.ok (.bl (match x with | .non=>!neg | _=>neg))
 | _=>.bad
theorem EO{neg:Bool}(x y:T):M.NoE (jS neg x y):=λC n=>by cases y<;>exact λz=>nomatch z
theorem Af:MR K (λx y H Q=>y=.non/\Q (.bl (decide (x=.non))) H) (jS false):=⟨EO,λF H v w x y Q s ra rb q=>by
 cases rb with
 | non=>refine⟨rfl,?_⟩;cases ra<;>exact kV.now q s (.bl _)
 | _=>exact q.elim⟩
theorem qC:MR K (λx y H Q=>y=.non/\Q (.bl (!decide (x=.non))) H) (jS true):=⟨EO,λF H v w x y Q s ra rb q=>by
 cases rb with
 | non=>refine⟨rfl,?_⟩;cases ra<;>exact kV.now q s (.bl _)
 | _=>exact q.elim⟩
def j9:T->Bool
 | .non=>true
 | .bl _=>true
 | .int _=>true
 | .str _=>true
 | _=>false
def uP(x:T)(ts:List T):Bool:=ts.any λy=>qF y x
theorem lN.flat{F:Hp}{v:V}{x:T}(r:lN K F v x)(h:j9 x=true):q8 v=true:=by cases r<;>first | rfl | (simp[j9] at h;done)
theorem gL.flat{F:Hp}:∀{vs:List V} {xs:List T},gL K F vs xs->xs.all j9=true->vs.all q8=true
 | _,_,.nil,_=>rfl
 | _,_,.cons h r,q=>by rw[bU,bS] at q ⊢;exact⟨h.flat q.1,gL.flat r q.2⟩
theorem Q3{F:Hp}{v w:V}{x y:T}(r:lN K F v x)(r':lN K F w y)(h:j9 x=true)(h':j9 y=true):Kh v w=qF x y:=by cases r<;>first | (exfalso;simp[j9] at h;done) | (cases r'<;>first | (exfalso;simp[j9] at h';done) | rfl | simp[Kh,qF])
theorem IP{F:Hp}{v:V}{x:T}(r:lN K F v x)(h:j9 x=true):∀{vs:List V} {xs:List T},gL K F vs xs->xs.all j9=true->Rq v vs=uP x xs
 | _,_,.nil,_=>rfl
 | _,_,.cons q rs,l=>by rw[bU,bS] at l;have ih:=IP r h rs l.2;unfold Rq uP at ih ⊢;rw[bV,bV,ih,Q3 q r l.1 h]
noncomputable def Ht(neg:Bool):T->T->M T:=λx y=>match y with
 | .lst ts=>if j9 x&&ts.all j9 then .ok (.bl (if neg then !uP x ts else uP x ts)) else .bad
 | .tup ts=>if j9 x&&ts.all j9 then .ok (.bl (if neg then !uP x ts else uP x ts)) else .bad
 | _=>.bad
theorem KS{neg:Bool}(x y:T):M.NoE (Ht neg x y):=λC n=>by unfold Ht;split<;>first | (intro z;cases z;done) | (split<;>intro z<;>cases z)
theorem QP(neg:Bool):MR K (RP K neg) (Ht neg):=⟨KS,λF H v w x y Q s ra rb q=>by
 cases rb with
 | lst h r=>
  rename_i a xs ts;have q':(if j9 x&&ts.all j9 then M.ok (T.bl (if neg then !uP x ts else uP x ts)) else M.bad).res (kV K F H Q) (λ_ _=>False):=q;by_cases hc:(j9 x&&ts.all j9)=true
  ·rw[aP hc] at q';rw[bS] at hc;exact⟨a,xs,rfl,.inl (k9.of (s _ _ h)),ra.flat hc.1,r.flat hc.2,by rw[IP ra hc.1 r hc.2];exact kV.now q' s (.bl _)⟩
  ·rw[aQ hc] at q';exact q'.elim
 | tup h r=>
  rename_i a xs ts;have q':(if j9 x&&ts.all j9 then M.ok (T.bl (if neg then !uP x ts else uP x ts)) else M.bad).res (kV K F H Q) (λ_ _=>False):=q;by_cases hc:(j9 x&&ts.all j9)=true
  ·rw[aP hc] at q';rw[bS] at hc;exact⟨a,xs,rfl,.inr (mB.of (s _ _ h)),ra.flat hc.1,r.flat hc.2,by rw[IP ra hc.1 r hc.2];exact kV.now q' s (.bl _)⟩
  ·rw[aQ hc] at q';exact q'.elim
 | _=>exact q.elim⟩
end
end L3
namespace L3
open PySem L2 PySem.Spec PyProof.Rows
section
variable {K:W.Frag}{E:XK}{X:Cx}{a b c e o tg it:Expr}{es:List Expr}{ta tb tc te to:TE}{fa fb fc fe fo:Pe->M T}{tr:TA}{fr:Pe->M (List T)}{pos p p2 apos:Pos}
theorem fM:B3 K E X [] uT fP:=⟨uh,DI⟩
theorem fI(ha:Pm K E X e te fe)(hr:B3 K E X es tr fr)(hs:starEach (e::es) X.env=(false,eval e X.env)::starEach es X.env:=by rfl):B3 K E X (e::es) (rk te tr) (fK fe fr):=⟨pH ha.pe hr.pa hs,Mn ha.me hr.ma⟩
theorem ji{x1}(h:B3 K E X es tr fr):Pm K E X (.Tuple es x1 pos) (OL tr) (jO fr):=⟨N8 h.pa,NH h.ma⟩
theorem jg(h:B3 K E X es tr fr):G6 K E X (.List es pos) (NO tr) (lstM fr):=⟨Oc h.pa,OP h.ma⟩
structure MC(K:W.Frag)(r:List V->Hp->VK->Prop)(o:List T->M T):Prop where
 ne:∀xs,M.NoE (o xs)
 ok:∀F H vs xs Q,gU F H->gL K F vs xs->(o xs).res (kV K F H Q) (λ_ _=>False)->r vs H Q
structure Rx(K:W.Frag)(r:List V->Hp->VK->Prop)(o:List T->M (List T)):Prop where
 ne:∀xs,M.NoE (o xs)
 ok:∀F H vs xs Q,gU F H->gL K F vs xs->(o xs).res (kF K F H Q) (λ_ _=>False)->r vs H Q
@[simp] noncomputable def jq(o:List T->M T)(fr:Pe->M (List T)):Pe->M T:=λρ=>(fr ρ).bind o
@[simp] noncomputable def Fi(o:List T->M (List T))(fr:Pe->M (List T)):Pe->M (List T):=λρ=>(fr ρ).bind o
theorem MM{r:List V->Hp->VK->Prop}{o:List T->M T}(hc:MC K r o)(ha:MA K E tr fr):ME K E (IB r tr) (jq o fr):=λF H σ ρ Q s V q=>by refine ha.run s V q λxs vs F1 H1 g1 r1 q1=>?_;exact hc.ok F1 H1 vs xs Q g1.fh r1 ((q1.ne (hc.ne xs)).mono (λ_ z=>z.go g1) λ_ _ z=>z)
theorem Q8{r:List V->Hp->VK->Prop}{o:List T->M (List T)}(hc:Rx K r o)(ha:MA K E tr fr):MF K E (IB r tr) (Fi o fr):=λF H σ ρ Q s V q=>by refine ha.run s V q λxs vs F1 H1 g1 r1 q1=>?_;exact hc.ok F1 H1 vs xs Q g1.fh r1 ((q1.ne (hc.ne xs)).mono (λ_ z=>z.go g1) λ_ _ z=>z)
section
variable {x:Str}{id T':String}{r:List V->Hp->VK->Prop}{m:List T->M T}{mf:List T->M (List T)}
theorem gF(hc:kU X (.builtin id) r)(hm':MC K r m)(hg:Gl X x)(hm:X.mg x=none)(hv:bootBuiltins x=some (.builtin id))(ha:B3 K E X (e::es) tr fr)(hn:x≠ "__name__" :=by decide)(hdb:(x == ("__debug__" : Str))=false:=by decide)
  (he:starEach (e::es) X.env=(false,eval e X.env)::starEach es X.env:=by rfl) (hpl:(backTo pos (starEach es X.env)).any (·.1)=false:=by rfl):Pm K E X (.Call (.Name x p) (e::es) [] pos) (IB r tr) (jq m fr):=⟨Cg hc hg hm hv ha.pa hn hdb he hpl,MM hm' ha.ma⟩
theorem iS(hc:kU X (.type T') r)(hm':MC K r m)(hg:Gl X x)(hm:X.mg x=none)(hv:bootBuiltins x=some (.type T'))(ha:B3 K E X (e::es) tr fr)(hn:x≠ "__name__" :=by decide)(hdb:(x == ("__debug__" : Str))=false:=by decide)
  (he:starEach (e::es) X.env=(false,eval e X.env)::starEach es X.env:=by rfl) (hpl:(backTo pos (starEach es X.env)).any (·.1)=false:=by rfl):Pm K E X (.Call (.Name x p) (e::es) [] pos) (IB r tr) (jq m fr):=⟨tU hc hg hm hv ha.pa hn hdb he hpl,MM hm' ha.ma⟩
theorem nH(hc:kU X (.type T') r)(hm':Rx K r mf)(hg:Gl X x)(hm:X.mg x=none)(hv:bootBuiltins x=some (.type T'))(ha:B3 K E X (e::es) tr fr)(hn:x≠ "__name__" :=by decide)(hdb:(x == ("__debug__" : Str))=false:=by decide)
  (he:starEach (e::es) X.env=(false,eval e X.env)::starEach es X.env:=by rfl) (hpl:(backTo pos (starEach es X.env)).any (·.1)=false:=by rfl):G6 K E X (.Call (.Name x p) (e::es) [] pos) (IB r tr) (Fi mf fr):=⟨tU hc hg hm hv ha.pa hn hdb he hpl,Q8 hm' ha.ma⟩
end
@[simp] noncomputable def jy:List T->M T
 | [.lst ts]=>.ok (.int ts.length)
 | [.tup ts]=>.ok (.int ts.length)
 | [.scr ns]=>.ok (.int ns.length)
 | [.str z]=>if z.length<=sizeLine then .ok (.int z.length) else .bad
 | _=>.bad
theorem Kx(xs:List T):M.NoE (jy xs):=λC n=>by unfold jy;split<;>first | (intro z;cases z;done) | (split<;>first | (intro z;cases z;done) | (split<;>intro z<;>cases z))
theorem jA:MC K (λxs H Q=>∃x n,xs=[x]/\Nm K x H n/\Q (.int n) H) jy:=⟨Kx,λF H vs xs Q s r q=>by
 cases r with
 | nil=>exact q.elim
 | cons h t=>
  cases t with
  | cons _ _=>cases h<;>exact q.elim
  | nil=>
   cases h with
   | lst h r=>exact⟨_,_,rfl,.inl ⟨_,k9.of (s _ _ h),rfl⟩,by rw[r.length];exact kV.now q s (.int _)⟩
   | tup h r=>exact⟨_,_,rfl,.inr ⟨_,mB.of (s _ _ h),rfl⟩,by rw[r.length];exact kV.now q s (.int _)⟩
   | scr h=>exact⟨_,_,rfl,.inl ⟨_,s.seq h,rfl⟩,by rw[aw];exact kV.now q s (.int _)⟩
   | str z=>
    have q':(if z.length<=sizeLine then M.ok (T.int z.length) else M.bad).res (kV K F H Q) (λ_ _=>False):=q;by_cases hz:z.length<=sizeLine
    ·rw[aP hz] at q';exact⟨_,z.length,rfl,⟨hz,rfl⟩,kV.now q' s (.int _)⟩
    ·rw[aQ hz] at q';exact q'.elim
   | _=>exact q.elim⟩
@[simp] noncomputable def BR:List T->M T
 | [.int i]=>.ok (.int (if i<0 then -i else i))
 | _=>.bad
theorem LU(xs:List T):M.NoE (BR xs):=λC n=>by unfold BR;split<;>first | (intro z;cases z;done) | (split<;>first | (intro z;cases z;done) | (split<;>intro z<;>cases z))
theorem zH:MC K (λxs H Q=>∃i,xs=[.int i]/\Q (.int (if i<0 then -i else i)) H) BR:=⟨LU,λF H vs xs Q s r q=>by
 cases r with
 | nil=>exact q.elim
 | cons h t=>
  cases t with
  | cons _ _=>cases h<;>exact q.elim
  | nil=>
   cases h with
   | int i=>exact⟨i,rfl,kV.now q s (.int _)⟩
   | _=>exact q.elim⟩
@[simp] noncomputable def wd:List T->M T
 | [.int i]=>.ok (.int i)
 | [.bl k]=>.ok (.int (if k then 1 else 0))
 | _=>.bad
theorem HK(xs:List T):M.NoE (wd xs):=λC n=>by unfold wd;split<;>first | (intro z;cases z;done) | (split<;>first | (intro z;cases z;done) | (split<;>intro z<;>cases z))
theorem Fj:MC K (λxs H Q=>(∃i,xs=[.int i]/\Q (.int i) H)\/∃k,xs=[.bl k]/\Q (.int (if k then 1 else 0)) H) wd:=⟨HK,λF H vs xs Q s r q=>by
 cases r with
 | nil=>exact q.elim
 | cons h t=>
  cases t with
  | cons _ _=>cases h<;>exact q.elim
  | nil=>
   cases h with
   | int i=>exact .inl ⟨i,rfl,kV.now q s (.int _)⟩
   | bl k=>exact .inr ⟨k,rfl,kV.now q s (.int _)⟩
   | _=>exact q.elim⟩
@[simp] noncomputable def i9:List T->M T
 | [.lst ts]=>.ok (.tup ts)
 | [.tup ts]=>.ok (.tup ts)
 | [.scr ns]=>.ok (.tup (ns.map T.int))
 | _=>.bad
theorem Dw(xs:List T):M.NoE (i9 xs):=λC n=>by unfold i9;split<;>first | (intro z;cases z;done) | (split<;>first | (intro z;cases z;done) | (split<;>intro z<;>cases z))
theorem jd:MC K (λxs H Q=>∃p ys,xs=[.ref p]/\((k9 K H p ys/\∀l,H l=none->Q (.ref l) (jx H l (.tup ys)))\/(mB K H p ys/\Q (.ref p) H))) i9:=⟨Dw,λF H vs xs Q s r q=>by
 cases r with
 | nil=>exact q.elim
 | cons h t=>
  cases t with
  | cons _ _=>cases h<;>exact q.elim
  | nil=>
   cases h with
   | lst h r=>exact⟨_,_,rfl,.inl ⟨k9.of (s _ _ h),λl hl=>(q:kV K F H Q _) (.ref l) _ _ (.new s hl) (.tup gC (r.mono (Gr.new s hl).ff))⟩⟩
   | scr h=>exact⟨_,_,rfl,.inl ⟨s.seq h,λl hl=>(q:kV K F H Q _) (.ref l) _ _ (.new s hl) (.tup gC (gL.of_ints _))⟩⟩
   | tup h r=>exact⟨_,_,rfl,.inr ⟨mB.of (s _ _ h),kV.now q s (.tup h r)⟩⟩
   | _=>exact q.elim⟩
@[simp] noncomputable def m7:List T->M (List T)
 | [.lst ts]=>.ok ts
 | [.tup ts]=>.ok ts
 | [.scr ns]=>.ok (ns.map T.int)
 | _=>.bad
theorem Gs(xs:List T):M.NoE (m7 xs):=λC n=>by unfold m7;split<;>first | (intro z;cases z;done) | (split<;>first | (intro z;cases z;done) | (split<;>intro z<;>cases z))
theorem oN:Rx K (λxs H Q=>∃p ys,xs=[.ref p]/\(k9 K H p ys\/mB K H p ys)/\∀l,H l=none->Q (.ref l) (jx H l (.lst ys))) m7:=⟨Gs,λF H vs xs Q s r q=>by
 cases r with
 | nil=>exact q.elim
 | cons h t=>
  cases t with
  | cons _ _=>cases h<;>exact q.elim
  | nil=>
   cases h with
   | lst h r=>exact⟨_,_,rfl,.inl (k9.of (s _ _ h)),λl hl=>(q:kF K F H Q _) l _ F _ (.new' s hl) hl (gP s hl) gC r⟩
   | scr h=>exact⟨_,_,rfl,.inl (s.seq h),λl hl=>(q:kF K F H Q _) l _ F _ (.new' s hl) hl (gP s hl) gC (gL.of_ints _)⟩
   | tup h r=>exact⟨_,_,rfl,.inr (mB.of (s _ _ h)),λl hl=>(q:kF K F H Q _) l _ F _ (.new' s hl) hl (gP s hl) gC r⟩
   | _=>exact q.elim⟩
def kC:List T->Option (List Int)
 | []=>some []
 | .int i::ts=>(kC ts).bind λr=>some (i::r)
 | _::_=>none
theorem rK:∀{ts:List T} {ns:List Int},kC ts=some ns->ts=ns.map T.int
 | [],_,e=>by cases e;rfl
 | t::ts,ns,e=>by
  cases t with
  | int i=>
   cases q:kC ts with
   | none=>simp[kC,q] at e
   | some r=>simp[kC,q] at e;subst e;rw[rK q];rfl
  | _=>cases e
@[simp] theorem Gv(ns:List Int):kC (ns.map T.int)=some ns:=by
 induction ns with
 | nil=>rfl
 | cons n ns ih=>simp[kC,ih]
def rj:List T->Option (List Bool)
 | []=>some []
 | .bl i::ts=>(rj ts).bind λr=>some (i::r)
 | _::_=>none
theorem zj:∀{ts:List T} {ns:List Bool},rj ts=some ns->ts=ns.map T.bl
 | [],_,e=>by cases e;rfl
 | t::ts,ns,e=>by
  cases t with
  | bl i=>
   cases q:rj ts with
   | none=>simp[rj,q] at e
   | some r=>simp[rj,q] at e;subst e;rw[zj q];rfl
  | _=>cases e
@[simp] theorem Ql(ns:List Bool):rj (ns.map T.bl)=some ns:=by
 induction ns with
 | nil=>rfl
 | cons n ns ih=>simp[rj,ih]
@[simp] noncomputable def C8:List T->M T
 | [.lst ts]=>match kC ts with
  | some ns=>.ok (.int ns.sum)
  | none=>.bad
 | _=>.bad
theorem L6(xs:List T):M.NoE (C8 xs):=λC n=>by unfold C8;split<;>first | (intro z;cases z;done) | (split<;>first | (intro z;cases z;done) | (split<;>intro z<;>cases z))
theorem JA:MC K (λxs H Q=>∃(p:Addr) (ns:List Int),xs=[.ref p]/\k9 K H p (ns.map V.int)/\Q (.int ns.sum) H) C8:=⟨L6,λF H vs xs Q s r q=>by
 cases r with
 | nil=>exact q.elim
 | cons h t=>
  cases t with
  | cons _ _=>cases h<;>exact q.elim
  | nil=>
   cases h with
   | lst h r=>
    rename_i a xs ts;have q':(match kC ts with | some ns=>M.ok (T.int ns.sum) | none=>M.bad).res (kV K F H Q) (λ_ _=>False):=q;cases e:kC ts with
    | none=>rw[e] at q';exact q'.elim
    | some ns=>rw[e] at q';rw[rK e] at r;have:=r.ints;subst this;exact⟨a,ns,rfl,k9.of (s _ _ h),kV.now q' s (.int _)⟩
   | _=>exact q.elim⟩
@[simp] noncomputable def AS:List T->M T
 | [.lst ts]=>match rj ts with
  | some ns=>.ok (.bl (ns.all id))
  | none=>.bad
 | _=>.bad
theorem Lw(xs:List T):M.NoE (AS xs):=λC n=>by unfold AS;split<;>first | (intro z;cases z;done) | (split<;>first | (intro z;cases z;done) | (split<;>intro z<;>cases z))
theorem wM:MC K (λxs H Q=>∃(p:Addr) (bs:List Bool),xs=[.ref p]/\k9 K H p (bs.map V.bl)/\Q (.bl (bs.all id)) H) AS:=⟨Lw,λF H vs xs Q s r q=>by
 cases r with
 | nil=>exact q.elim
 | cons h t=>
  cases t with
  | cons _ _=>cases h<;>exact q.elim
  | nil=>
   cases h with
   | lst h r=>
    rename_i a xs ts;have q':(match rj ts with | some ns=>M.ok (T.bl (ns.all id)) | none=>M.bad).res (kV K F H Q) (λ_ _=>False):=q;cases e:rj ts with
    | none=>rw[e] at q';exact q'.elim
    | some ns=>rw[e] at q';rw[zj e] at r;have:=r.bls;subst this;exact⟨a,ns,rfl,k9.of (s _ _ h),kV.now q' s (.bl _)⟩
   | _=>exact q.elim⟩
@[simp] def PB:T->String
 | .non=> "NoneType"
 | .bl _=> "bool"
 | .int _=> "int"
 | .str _=> "str"
 | .tup _=> "tuple"
 | .lst _=> "list"
 | .scr _=> "script"
 | .obj _ _=> "object"
 | .emp=> "dict"
@[simp] noncomputable def NV(n:String)(x:T):M T:=match x with
 | .scr _=>.bad
 | .obj _ _=>.bad
 | x=>.ok (.bl (PB x == n||(n == "int" && PB x == "bool")))
theorem QO{F H:Hp}{v:V}{x:T}(r:lN K F v x)(s:gU F H)(h1:∀ns,x≠.scr ns)(h2:∀C fs,x≠.obj C fs):qr K H v (.type (PB x)):=by
 cases r with
 | non=>exact .non
 | bl b=>exact .bl b
 | int i=>exact .int i
 | str x=>exact .str x
 | tup h r=>exact .tup (s _ _ h)
 | lst h r=>exact .lst (s _ _ h)
 | scr h=>exact absurd rfl (h1 _)
 | obj h r=>exact absurd rfl (h2 _ _)
 | emp h=>exact .dK (s _ _ h)
@[simp] noncomputable def oq(n:String)(fe:Pe->M T):Pe->M T:=λρ=>(fe ρ).bind λx=>NV n x
theorem Og{n:String}(hk:∀t∈["NoneType", "bool", "int", "str", "tuple", "list", "dict"],W.kitOne K (.type t) (.type n)=some (t == n||(n == "int" && t == "bool")))(ha:ME K E te fe) :
  ME K E (IB (λxs H Q=>∃x T t b,xs=[x,.ty T]/\qr K H x t/\W.kitOne K t (.type T)=some b/\Q (.bl b) H) (rk te (rk (tC (.ty n)) uT))) (oq n fe):=λF H σ ρ Q s V q=>by
 refine ha.run s V q λx v F1 H1 g1 r1 q1=>?_;have key:∀b,NV n x=.ok (.bl b)->(∀ns,x≠.scr ns)->(∀C fs,x≠.obj C fs)->b=(PB x == n||(n == "int" && PB x == "bool"))->∃x_1 T t b,[v,L2.V.ty n]=[x_1,.ty T]/\qr K H1 x_1 t/\W.kitOne K t (.type T)=some b/\Q (.bl b) H1:=by
  intro b e h1 h2 hb;rw[e] at q1;refine⟨v,n,_,b,rfl,QO r1 g1.fh h1 h2,?_,(q1:kV K F H Q _) _ F1 H1 g1 (.bl _)⟩;rw[hb];refine hk _ ?_;cases x with
  | scr ns=>exact absurd rfl (h1 ns)
  | obj C fs=>exact absurd rfl (h2 C fs)
  | _=>simp[PB]
 cases x with
 | scr ns=>exact q1.elim
 | obj C fs=>exact q1.elim
 | non=>exact key _ rfl (λ_ z=>nomatch z) (λ_ _ z=>nomatch z) rfl
 | bl _=>exact key _ rfl (λ_ z=>nomatch z) (λ_ _ z=>nomatch z) rfl
 | int _=>exact key _ rfl (λ_ z=>nomatch z) (λ_ _ z=>nomatch z) rfl
 | str _=>exact key _ rfl (λ_ z=>nomatch z) (λ_ _ z=>nomatch z) rfl
 | tup _=>exact key _ rfl (λ_ z=>nomatch z) (λ_ _ z=>nomatch z) rfl
 | lst _=>exact key _ rfl (λ_ z=>nomatch z) (λ_ _ z=>nomatch z) rfl
 | emp=>exact key _ rfl (λ_ z=>nomatch z) (λ_ _ z=>nomatch z) rfl
theorem Ku(K:W.Frag):∀n∈["int", "bool", "str", "tuple", "list"],∀t∈["NoneType", "bool", "int", "str", "tuple", "list", "dict"],W.kitOne K (.type t) (.type n)=some (t == n||(n == "int" && t == "bool")):=by intro n hn t ht;simp only[aE,cV,or_false] at hn ht;rcases hn with rfl | rfl | rfl | rfl | rfl<;>rcases ht with rfl | rfl | rfl | rfl | rfl | rfl | rfl<;>rfl
theorem nI(n:String){x:Str}{p3:Pos}(hn':n∈["int", "bool", "str", "tuple", "list"])(hmi:X.mg "isinstance" = none)(hmx:X.mg x=none)(hvx:bootBuiltins x=some (.type n))(ha:Pm K E X e te fe)(hK:X.K=K:=by rfl)(hgi:Gl X "isinstance" :=by rfl)(hgx:Gl X x:=by rfl)
  (hxn:x≠ "__name__" :=by decide) (hxd:(x == ("__debug__" : Str))=false:=by decide)
  (he:starEach [e,.Name x p3] X.env=(false,eval e X.env)::starEach [.Name x p3] X.env:=by rfl) (he2:starEach [.Name x p3] X.env=(false,eval (.Name x p3) X.env)::starEach [] X.env:=by rfl) (hpl:(backTo pos (starEach [.Name x p3] X.env)).any (·.1)=false:=by rfl) :
  Pm K E X (.Call (.Name "isinstance" p) [e,.Name x p3] [] pos) (IB (λxs H Q=>∃x T t b,xs=[x,.ty T]/\qr K H x t/\W.kitOne K t (.type T)=some b/\Q (.bl b) H) (rk te (rk (tC (.ty n)) uT))) (oq n fe):=by
 subst hK;exact⟨Cg J7 hgi hmi Nu (pH ha.pe (pH (L5 (v:=.ty n) hgx hmx hvx rfl hxn hxd) uh he2) he) (by decide) (by decide) he hpl,Og (Ku X.K n hn') ha.me⟩
@[simp] noncomputable def gX:T->T->M T
 | .lst ts,.int i=>match pK ts i with
  | some t=>.ok t
  | none=>.bad
 | .tup ts,.int i=>match pK ts i with
  | some t=>.ok t
  | none=>.bad
 | .scr ns,.int i=>match pK ns i with
  | some t=>.ok (.int t)
  | none=>.bad
 | .str z,.int i=>if z.length<=sizeLine then (match pK z.cps.toList i with
  | some c=>.ok (.str ⟨#[c]⟩)
  | none=>.bad) else .bad
 | _,_=>.bad
theorem Ep{F:Hp}{vs:List V}{ts:List T}{i:Int}{t:T}(r:gL K F vs ts)(h:pK ts i=some t):∃v,pK vs i=some v/\lN K F v t:=by
 unfold pK at h ⊢;rw[r.length];cases e:xF ts.length i with
 | none=>rw[e] at h;cases h
 | some j=>rw[e] at h;exact r.get h
theorem o9{α β:Type}(f:α->β)(l:List α)(i:Int):pK (l.map f) i=(pK l i).map f:=by
 unfold pK;rw[aw];cases xF l.length i with
 | none=>rfl
 | some j=>simp
theorem Oi(x y:T):M.NoE (gX x y):=λC n=>by unfold gX;split<;>first | (intro z;cases z;done) | (split<;>first | (intro z;cases z;done) | (split<;>intro z<;>cases z))
theorem P2:MR K (RL K) gX:=⟨Oi,λF H v w x y Q s ra rb q=>by
 cases rb with
 | int i=>
  cases ra with
  | lst h r=>
   rename_i a xs ts;have q':(match pK ts i with | some t=>M.ok t | none=>M.bad).res (kV K F H Q) (λ_ _=>False):=q;cases e:pK ts i with
   | none=>rw[e] at q';exact q'.elim
   | some t=>rw[e] at q';obtain⟨v,e',rv⟩:=Ep r e;exact .inl ⟨a,xs,i,v,rfl,rfl,k9.of (s _ _ h),e',kV.now q' s rv⟩
  | tup h r=>
   rename_i a xs ts;have q':(match pK ts i with | some t=>M.ok t | none=>M.bad).res (kV K F H Q) (λ_ _=>False):=q;cases e:pK ts i with
   | none=>rw[e] at q';exact q'.elim
   | some t=>rw[e] at q';obtain⟨v,e',rv⟩:=Ep r e;exact .inr (.inl ⟨a,xs,i,v,rfl,rfl,mB.of (s _ _ h),e',kV.now q' s rv⟩)
  | scr h=>
   rename_i a ns;have q':(match pK ns i with | some t=>M.ok (T.int t) | none=>M.bad).res (kV K F H Q) (λ_ _=>False):=q;cases e:pK ns i with
   | none=>rw[e] at q';exact q'.elim
   | some t=>rw[e] at q';exact .inl ⟨a,_,i,.int t,rfl,rfl,s.seq h,by rw[o9,e];rfl,kV.now q' s (.int _)⟩
  | str z=>
   have q':(if z.length<=sizeLine then (match pK z.cps.toList i with | some c=>M.ok (T.str ⟨#[c]⟩) | none=>M.bad) else M.bad).res (kV K F H Q) (λ_ _=>False):=q;by_cases hz:z.length<=sizeLine
   ·rw[aP hz] at q';cases e:pK z.cps.toList i with
    | none=>rw[e] at q';exact q'.elim
    | some c=>rw[e] at q';exact .inr (.inr ⟨z,i,c,rfl,rfl,hz,e,kV.now q' s (.str _)⟩)
   ·rw[aQ hz] at q';exact q'.elim
  | _=>exact q.elim
 | _=>cases ra<;>exact q.elim⟩
theorem gy(ha:Pm K E X a ta fa)(hb:Pm K E X b tb fb)(hs:Fh b:=by intro _ _;rfl)(hK:X.K=K:=by rfl):Pm K E X (.Subscript a b pos) (xZ (RL K) ta tb) (fX gX fa fb):=⟨Qj (hK▸Ng) ha.pe hb.pe hs,EJ P2 ha.me hb.me⟩
theorem tE:Rm K E X none Ei (λ_=>.ok none):=⟨Me,λF H σ ρ Q s V q=>q F H (.refl s)⟩
@[simp] noncomputable def lb(fe:Pe->M T):Pe->M (Option Int):=λρ=>(fe ρ).bind λx=>match x with
 | .int i=>.ok (some i)
 | _=>.bad
theorem s9(h:Pm K E X e te fe):Rm K E X (some e) (HV te) (lb fe):=⟨Fe h.pe,λF H σ ρ Q s V q=>by
 refine h.me.run s V q λx v F1 H1 g1 r1 q1=>?_;cases r1 with
 | int i=>exact⟨i,rfl,q1 F1 H1 g1⟩
 | _=>exact q1.elim⟩
def pX{α:Type}(xs:List α)(lo hi:Option Int):List α:=(xs.drop (HT.sIx xs.length 0 lo)).take (HT.sIx xs.length xs.length hi - HT.sIx xs.length 0 lo)
theorem NY(xs:List V)(lo hi:Option Int):Dz xs lo hi=pX xs lo hi:=rfl
theorem gL.cut{F:Hp}{vs:List V}{ts:List T}(r:gL K F vs ts)(lo hi:Option Int):gL K F (pX vs lo hi) (pX ts lo hi):=by unfold pX;rw[r.length];exact (r.drop _).take _
theorem HC{α β:Type}(f:α->β)(l:List α)(lo hi:Option Int):pX (l.map f) lo hi=(pX l lo hi).map f:=by unfold pX;rw[aw,cW,List.map_drop]
section
variable {lo hi:Option Expr}{tl th:TO}{fl fh:Pe->M (Option Int)}
theorem MO.run{t:TO}{f:Pe->M (Option Int)}{F H:Hp}{σ:L2.St}{ρ:Pe}{Q:Option Int->Hp->Prop}{α:Type}{k:Option Int->M α}{P:α->Prop}(h:MO K E t f)(s:gU F H)(v:lZ K F σ ρ)(r:((f ρ).bind k).res P (kE E F H))
  (hk:∀x F' H',Gr F H F' H'->(k x).res P (kE E F' H')->Q x H'):t σ H Q:=
 h F H σ ρ Q s v ((M.res.unb r).mono (λx q F' H' g=>hk x F' H' g (q.mono (λ_ z=>z) λ_ _ z=>z.go g)) λ_ _ z=>z)
@[simp] noncomputable def oP(fe:Pe->M T)(fl fh:Pe->M (Option Int)):Pe->M T:=λρ=>(fe ρ).bind λx=>(fl ρ).bind λl=>(fh ρ).bind λh=>match x with
 | .tup ts=>.ok (.tup (pX ts l h))
 | .lst ts=>.ok (.lst (pX ts l h))
 | .scr ns=>.ok (.lst ((pX ns l h).map T.int))
 | _=>.bad
theorem oS(he:Pm K E X e te fe)(hl:Rm K E X lo tl fl)(hh:Rm K E X hi th fh)(hK:X.K=K:=by rfl):Pm K E X (.Subscript e (.Slice lo hi none p2) pos) (Si (λx lo hi H Q=>Qw K x lo hi H Q\/(Qh K x lo hi H Q\/QD K x lo hi H Q)) te tl th) (oP fe fl fh):=by
 subst hK;refine⟨He (KW.or (N5.or Kj)) he.pe hl.po hh.po,λF H σ ρ Q s V q=>?_⟩;refine he.me.run s V q λx v F1 H1 g1 r1 q1=>?_;refine hl.mo.run (P:=kV X.K F H Q) g1.fh (V.mono g1.ff) q1 λl F2 H2 g2 q2=>?_;refine hh.mo.run (P:=kV X.K F H Q) g2.fh ((V.mono g1.ff).mono g2.ff) q2 λu F3 H3 g3 q3=>?_;have g:=(g1.trans g2).trans g3;have r3:=r1.mono (g2.ff.trans g3.ff);cases r3 with
 | lst h r=>exact .inl ⟨_,_,rfl,k9.of (g3.fh _ _ h),λp hp=>(q3:kV X.K F H Q _) (.ref p) _ _ (g.trans (.new g3.fh hp)) (.lst gC ((r.cut l u).mono (Gr.new g3.fh hp).ff))⟩
 | scr h=>exact .inl ⟨_,_,rfl,g3.fh.seq h,λp hp=>(q3:kV X.K F H Q _) (.ref p) _ _ (g.trans (.new g3.fh hp)) (.lst gC (by rw[NY,HC];exact gL.of_ints _))⟩
 | tup h r=>
  rename_i a xs ts;have q':(M.ok (T.tup (pX ts l u))).res (kV X.K F H Q) (kE E F3 H3):=q3;by_cases hw:HT.sIx ts.length 0 l=0/\HT.sIx ts.length ts.length u=ts.length
  ·have ec:pX ts l u=ts:=by unfold pX;rw[hw.1,hw.2];simp
   rw[ec] at q';exact .inr (.inr ⟨_,_,rfl,mB.of (g3.fh _ _ h),by rw[r.length];exact hw,(q':kV X.K F H Q _) _ F3 H3 g (.tup h r)⟩)
  ·exact .inr (.inl ⟨_,_,rfl,mB.of (g3.fh _ _ h),by rw[r.length];exact hw,λp hp=>(q':kV X.K F H Q _) (.ref p) _ _ (g.trans (.new g3.fh hp)) (.tup gC ((r.cut l u).mono (Gr.new g3.fh hp).ff))⟩)
 | _=>exact q3.elim
end
section
variable {x:Str}{k:Nat}{Fn:List T->M T}{Ff:List T->M (List T)}
theorem fZ(h:fV X.prog X.w X.K X.mg X.base x k (iE K Fn))(hr:ju k X.A)(ha:B3 K E X (e::es) tr fr)(hg:Gl X x:=by rfl)
  (hdb:(x == ("__debug__" : Str))=false:=by decide) (he:starEach (e::es) X.env=(false,eval e X.env)::starEach es X.env:=by rfl) (hpl:(backTo pos (starEach es X.env)).any (·.1)=false:=by rfl) :
  Pm K E X (.Call (.Name x p) (e::es) [] pos) (zw (iE K Fn) [] E0 tr) (fW fr Fn):=⟨Br h hr ha.pa hg hdb he hpl,Hn ha.ma⟩
theorem oV(h:fV X.prog X.w X.K X.mg X.base x k (uu K Ff))(hr:ju k X.A)(ha:B3 K E X (e::es) tr fr)(hg:Gl X x:=by rfl)
  (hdb:(x == ("__debug__" : Str))=false:=by decide) (he:starEach (e::es) X.env=(false,eval e X.env)::starEach es X.env:=by rfl) (hpl:(backTo pos (starEach es X.env)).any (·.1)=false:=by rfl) :
  G6 K E X (.Call (.Name x p) (e::es) [] pos) (zw (uu K Ff) [] E0 tr) (jR fr Ff):=⟨Br h hr ha.pa hg hdb he hpl,IJ ha.ma⟩
end
def Qn(K:W.Frag)(t:TE):TI:=λσ H R=>IX K t σ H R\/N2 K t σ H R
@[simp] noncomputable def ig(fa:Pe->M T):Pe->M (List T):=λρ=>(fa ρ).bind λx=>match x with
 | .lst ts=>.ok ts
 | .scr ns=>.ok (ns.map T.int)
 | .tup ts=>.ok ts
 | _=>.bad
theorem OE(ha:ME K E ta fa):MI K E (Qn K ta) (ig fa):=λF H σ ρ R s V q=>by
 unfold ig at q;cases e:fa ρ with
 | bad=>rw[e] at q;exact q.elim
 | er C n=>rw[e] at q;exact .inl (Ax ha F H σ ρ R s V (by unfold Rg;rw[e];exact q))
 | ok x=>
  rw[e] at q;cases x with
  | lst ts=>exact .inl (Ax ha F H σ ρ R s V (by unfold Rg;rw[e];exact q))
  | scr ns=>exact .inl (Ax ha F H σ ρ R s V (by unfold Rg;rw[e];exact q))
  | tup ts=>exact .inr (OV ha F H σ ρ R s V (by unfold R8;rw[e];exact q))
  | _=>exact q.elim
theorem gW(ha:Pm K E X a ta fa)(hK:X.K=K:=by rfl):MW K E X tg a (Qn K ta) (ig fa):=by
 subst hK;refine⟨λfO s σ H R I h=>?_,OE ha.me⟩;rcases h with h | h
 ·exact K8 ha.pe fO s σ H R I h
 ·exact Ob ha.pe fO s σ H R I h
def MQ(K:W.Frag)(ta:TA):TI:=λσ H R=>∃b1 b2,Pj K b1 b2 ta σ H R
@[simp] noncomputable def seqT:T->M (List T)
 | .lst ts=>.ok ts
 | .scr ns=>.ok (ns.map T.int)
 | .tup ts=>.ok ts
 | _=>.bad
@[simp] noncomputable def mX(fa:Pe->M (List T)):Pe->M (List T):=λρ=>(fa ρ).bind λxs=>match xs with
 | [x,y]=>(seqT x).bind λts=>(seqT y).bind λus=>.ok (AK ts us)
 | _=>.bad
def r9:T->Bool
 | .tup _=>true
 | _=>false
theorem Dr(x:T):seqT x=seqB (r9 x) x:=by cases x<;>rfl
theorem Lr(ha:MA K E tr fr):MI K E (MQ K tr) (mX fr):=λF H σ ρ R s V q=>by
 unfold mX at q;cases e:fr ρ with
 | bad=>rw[e] at q;exact q.elim
 | er C n=>rw[e] at q;exact⟨true,true,JG ha F H σ ρ R s V (by unfold Ny;rw[e];exact q)⟩
 | ok xs=>
  rw[e] at q;match xs,e,q with
  | [],_,q=>exact q.elim
  | [_],_,q=>exact q.elim
  | [x,y],e,q=>refine⟨r9 x,r9 y,JG ha F H σ ρ R s V ?_⟩;unfold Ny;rw[e];have q':((seqT x).bind λts=>(seqT y).bind λus=>M.ok (AK ts us)).res (kI K F H R) (kE E F H):=q;rw[Dr x,Dr y] at q';exact q'
  | _::_::_::_,_,q=>exact q.elim
theorem lU{elts:List Expr}{x1}{tpos:Pos}(hm:X.mg "zip" = none)(ha:B3 K E X [a,b] tr fr)(hK:X.K=K:=by rfl)(hg:Gl X "zip" :=by rfl)(hs:starEach [a,b] X.env=[(false,eval a X.env),(false,eval b X.env)]:=by rfl)
  (hs2:starEach [b] X.env=[(false,eval b X.env)]:=by rfl):MW K E X (.Tuple elts x1 tpos) (.Call (.Name "zip" p) [a,b] [] pos) (MQ K tr) (mX fr):=by
 subst hK;refine⟨λfO s σ H R I h=>?_,Lr ha.ma⟩;obtain⟨b1,b2,h⟩:=h;exact Nr hg hm ha.pa hs hs2 fO s σ H R I h
theorem lQ(hm:X.mg "range" = none)(ha:B3 K E X [a] tr fr)(hg:Gl X "range" :=by rfl)(hs:starEach [a] X.env=[(false,eval a X.env)]:=by rfl):Ak K E X tg (.Call (.Name "range" p) [a] [] pos) (Hr tr) (lK fr):=⟨FM hg hm ha.pa hs,LW ha.ma⟩
theorem Ak.pim{w:TI}{f:Pe->M (List T)}(h:Ak K E X tg it w f):MW K E X tg it w f:=⟨h.pi,h.mi.mi⟩
section
variable {x:Str}{g:TG}{gs:Co}{m:T->Pe->Option Pe}{ms:List T->Pe->Option Pe}{mo:T->En->Option En}{mos:List T->En->Option En}{n:Nat}
theorem iD(i:Nat)(hN:X.N.Nodup)(hx:G8 X.env.scope x)(hi:X.N[i]? = some x:=by rfl)(hf:X.fn x=true\/X.env.scope.names.lookup x=some .local:=by first | exact .inl rfl | exact .inr rfl | assumption):PR K X (.Name x pos) (kK i) (jo i):=⟨EH hN hi hx hf,Ms⟩
theorem iA(i:Nat)(hN:X.N.Nodup)(hx:G8 X.env.scope x)(hi:X.N[i]? = some x:=by rfl)(hf:X.fn x=true\/X.env.scope.names.lookup x=some .local:=by first | exact .inl rfl | exact .inr rfl | assumption):PD K X (.Name x pos) (kK i) (jF i):=⟨EH hN hi hx hf,Je⟩
theorem lR:Mg K X [] FU o7:=⟨EU,LR⟩
theorem lW:LJ K X [] FU kr:=⟨EU,Ia⟩
theorem iF(h1:PR K X e g m)(h2:Mg K X es gs ms)(hs:(assignEach (e::es) X.env).map (·.2)=assign e X.env::(assignEach es X.env).map (·.2):=by rfl):Mg K X (e::es) (xA g gs) (i8 m ms):=⟨Bv h1.pg h2.pg hs,HM h1.mg h2.mg⟩
theorem iG(h1:PD K X e g mo)(h2:LJ K X es gs mos)(hs:(assignEach (e::es) X.env).map (·.2)=assign e X.env::(assignEach es X.env).map (·.2):=by rfl):LJ K X (e::es) (xA g gs) (g9 mo mos):=⟨Bv h1.pg h2.pg hs,Fm h1.mg h2.mg⟩
theorem oX{k:Nat}(n:Nat)(hc:X.calm=true)(h:Mg K X es gs ms)(hK:X.K=K:=by rfl)(hn:(assignEach es X.env).length=n:=by rfl)(hst:(assignEach es X.env).findIdx? (·.1)=none:=by rfl):PR K X (.Tuple es k pos) (GH K n gs) (o4 n ms):=by subst hK;exact⟨Iv hc h.pg hn hst,Pv h.mg⟩
theorem oW{k:Nat}(n:Nat)(hc:X.calm=true)(h:LJ K X es gs mos)(hK:X.K=K:=by rfl)(hn:(assignEach es X.env).length=n:=by rfl)(hst:(assignEach es X.env).findIdx? (·.1)=none:=by rfl):PD K X (.Tuple es k pos) (GH K n gs) (kD n mos):=by subst hK;exact⟨Iv hc h.pg hn hst,K2 h.mg⟩
end
section
variable {elt iter:Expr}{ifs:List Expr}{scope:Scope}{N:List Str}{ix:List (Option Nat)}{wi:TI}{g:TG}{tt:TT}{fi:Pe->M (List T)}{m:T->Pe->Option Pe}{ft:Pe->M Bool}
theorem iq:KC K E X [] Pb (λ_=>.ok true):=⟨Kp,Ou⟩
theorem l6{t:TT}{f:Pe->M Bool}(h:CU K E X c t f):KC K E X [c] t f:=⟨LH h.pt,h.mt⟩
@[simp] noncomputable def jJ(ix:List (Option Nat))(fi:Pe->M (List T))(m:T->Pe->Option Pe)(ft:Pe->M Bool)(fe:Pe->M T):Pe->M (List T):=λρ=>(fi ρ).bind λits=>(if its.length<sizeLine then pM (qX m ft fe (m9 ix ρ)) its else .bad).noEr
theorem jC(hc:X.calm=true)(hi:MW K E X tg iter wi fi)(L:Be X scope N ix)(hgk:rH ix g)
  (blk:∀C s₃ H ex pn,PR K (oK X N scope C s₃ H ex pn) tg g m/\KC K MB (oK X N scope C s₃ H ex pn) ifs tt ft/\Pm K MB (oK X N scope C s₃ H ex pn) elt te fe)
  (hs:∀x,foldedSetIterable iter X.env x=pure x:=by intro _;rfl):G6 K E X (.ListComp elt [⟨tg,iter,ifs,0⟩] scope pos) (NT ix wi g tt te) (jJ ix fi m ft fe):=by
 obtain⟨b1,b2,b3⟩:=blk 0 X.s₀ X.H₀ [] [];exact⟨QU hc hi.pi L hgk (λC s₃ H ex pn=>⟨(blk C s₃ H ex pn).1.pg,(blk C s₃ H ex pn).2.1.pf,(blk C s₃ H ex pn).2.2.pe⟩) hs,Mz hi.mi b1.mg b2.mt b3.me⟩
end
end
end L3
namespace L3
open PySem L2 PySem.Spec PyProof.Rows
section
variable {K:W.Frag}{E:XK}{X:Cx}{a b c e o tg it:Expr}{es:List Expr}{ta tb tc te to:TE}{fa fb fc fe fo:Pe->M T}{tr:TA}{fr:Pe->M (List T)}{pos pos' p p2 apos:Pos}{st:Stmt}{nR:List Stmt}{t u:TS}{g g':En->O}{ff:Pe->M (List T)}{x:Str}
theorem gw:sV K E X [] G9 gQ:=⟨KQ,Lk⟩
theorem fQ(h:ur K E X st t g):sV K E X [st] t g:=⟨Ek h.ps,h.ms⟩
theorem fN(h:ur K E X st t g)(h':sV K E X nR u g'):sV K E X (st::nR) (L9 t u) (f9 g g'):=⟨BC h.ps h'.ps,Om h.ms h'.ms⟩
theorem sT:ur K E X st Du (λ_=>.bad):=⟨Hi,JB⟩
theorem f6(h:Pm K E X e te fe):ur K E X (.Return (some e) pos) (AD te) (hU fe):=⟨AX h.pe,OX h.me⟩
theorem xc(h:G6 K E X e te ff):ur K E X (.Return (some e) pos) (AD te) (vR ff):=⟨AX h.pe,LB h.mf⟩
theorem sO(i:Nat){x:Str}(h:PE X (.Name x p) (nt i)):ur K E X (.Return (some (.Name x p)) pos) (AD (nt i)) (n5 i):=⟨AX h,GG⟩
theorem gK{tc:TT}{fc:Pe->M Bool}{A B:List Stmt}(hc:CU K E X c tc fc)(h:sV K E X A t g)(h':sV K E X B u g'):ur K E X (.If c A B pos) (Nv tc t u) (kg fc g g'):=⟨Qr hc.pt h.ps h'.ps,QH hc.mt h.ms h'.ms⟩
theorem zM{tc:TT}{fc:Pe->M Bool}{A:List Stmt}(fuel:En->Nat)(hp:PassesOwn (model X.prog X.w) X.A X.env X.xe)(hc:CU K E X c tc fc)(h:sV K E X A t g):ur K E X (.While c A [] pos) (Dl tc t) (λρ=>mj fc g (fuel ρ) ρ):=⟨JM hp hc.pt h.ps,Kc fuel hc.mt h.ms⟩
section
variable {w:TI}{fi:Pe->M (List T)}{gt:TG}{m:T->En->Option En}{A:List Stmt}
theorem ja(hp:PassesOwn (model X.prog X.w) X.A X.env X.xe)(hc:X.calm=true)(hi:MW K E X tg it w fi)(hg:PD K X tg gt m)(hb:sV K E X A t g)(hs:∀x,foldedSetIterable it X.env x=pure x:=by intro _;rfl):ur K E X (.For tg it A [] pos) (Hz w gt t) (mM fi m g):=⟨Jx hp hc hi.pi hg.pg hb.ps hs,OY hi.mi hg.mg hb.ms⟩
theorem oM(hp:PassesOwn (model X.prog X.w) X.A X.env X.xe)(hc:X.calm=true)(hi:Ak K E X tg it w fi)(hg:PD K X tg gt m)(hb:sV K E X A t g)(hs:∀x,foldedSetIterable it X.env x=pure x:=by intro _;rfl):ur K E X (.For tg it A [] pos) (Hz w gt t) (qc fi m g):=⟨Jx hp hc hi.pi hg.pg hb.ps hs,Ln hi.mi hg.mg hb.ms⟩
end
theorem ub{gm:En->O}{elt iter:Expr}{ifs:List Expr}{scope:Scope}{N:List Str}{ix:List (Option Nat)}{wi:TI}{gt:TG}{tt:TT}{fi:Pe->M (List T)}{m:T->Pe->Option Pe}{ft:Pe->M Bool}{spos py:Pos}(i:Nat)(hN:X.N.Nodup)(hx:G8 X.env.scope x)
  (hc:X.calm=true) (hi:MW K E X tg iter wi fi) (L:Be X scope N ix) (hgk:rH ix gt)
  (blk:∀C s₃ H ex pn,PR K (oK X N scope C s₃ H ex pn) tg gt m/\KC K MB (oK X N scope C s₃ H ex pn) ifs tt ft/\Pm K MB (oK X N scope C s₃ H ex pn) elt te fe)
  (hm:MF K E (NT ix wi gt tt te) (jJ ix fi m ft fe)->MS K E (o5 (NT ix wi gt tt te) (kK i)) gm)
  (hy:X.N[i]? = some x:=by rfl) (hf:X.fn x=true\/X.env.scope.names.lookup x=some .local:=by first | exact .inl rfl | exact .inr rfl)
  (hsw:swapsWith (.ListComp elt [⟨tg,iter,ifs,0⟩] scope pos) (some (.Name x py)) spos.line X.env=pure true:=by rfl)
  (hs:∀x,foldedSetIterable iter X.env x=pure x:=by intro _;rfl):ur K E X (.Assign [.Name x py] (.ListComp elt [⟨tg,iter,ifs,0⟩] scope pos) spos) (o5 (NT ix wi gt tt te) (kK i)) gm:=by
 obtain⟨b1,b2,b3⟩:=blk 0 X.s₀ X.H₀ [] [];exact⟨JQ hN hy hx hc hi.pi L hgk (λC s₃ H ex pn=>⟨(blk C s₃ H ex pn).1.pg,(blk C s₃ H ex pn).2.1.pf,(blk C s₃ H ex pn).2.2.pe⟩) hf hsw hs,hm (Mz hi.mi b1.mg b2.mt b3.me)⟩
theorem fY(i:Nat)(hN:X.N.Nodup)(hx:G8 X.env.scope x)(h:Pm K E X e te fe)(hi:X.N[i]? = some x:=by rfl)(hs:swapsWith e (some (.Name x pos')) pos.line X.env=pure false:=by rfl)(hf:X.fn x=true\/X.env.scope.names.lookup x=some .local:=by first | exact .inl rfl | exact .inr rfl | assumption) :
  ur K E X (.Assign [.Name x pos'] e pos) (o5 te (kK i)) (setO i (iK fe)):=⟨zX hN hi hx h.pe hs hf,E5 h.me⟩
theorem qm(i:Nat)(hN:X.N.Nodup)(hx:G8 X.env.scope x)(h:Pm K E X e te fe)(hi:X.N[i]? = some x:=by rfl)(hs:swapsWith e (some (.Name x pos')) pos.line X.env=pure false:=by rfl)(hf:X.fn x=true\/X.env.scope.names.lookup x=some .local:=by first | exact .inl rfl | exact .inr rfl | assumption) :
  ur K E X (.Assign [.Name x pos'] e pos) (o5 te (kK i)) (setO i (m8 fe)):=⟨zX hN hi hx h.pe hs hf,Lj h.me⟩
theorem jY(i:Nat)(hN:X.N.Nodup)(hx:G8 X.env.scope x)(h:G6 K E X e te ff)(hi:X.N[i]? = some x:=by rfl)(hs:swapsWith e (some (.Name x pos')) pos.line X.env=pure false:=by rfl)(hf:X.fn x=true\/X.env.scope.names.lookup x=some .local:=by first | exact .inl rfl | exact .inr rfl | assumption) :
  ur K E X (.Assign [.Name x pos'] e pos) (o5 te (kK i)) (mV i (nU ff)):=⟨zX hN hi hx h.pe hs hf,EB h.mf⟩
theorem rX{i:Nat}(h:MF K E te ff):MS K E (o5 te (kK i)) (setO i (iK λρ=>(ff ρ).bind λts=>.ok (.lst ts))):=E5 h.me
@[simp] noncomputable def Mr(i j:Nat)(fr:Pe->M (List T)):En->O:=λρ=>.of (fr (nV ρ)) λxs=>match xs with
 | [x,y]=>.nx ((ρ.set i (some (.p x))).set j (some (.p y)))
 | _=>.bad
theorem NX{i j:Nat}(h:MA K E tr fr):MS K E (Po i j tr) (Mr i j fr):=λF0 H0 F H σ ρ D r q=>by
 refine h F H σ (nV ρ) _ r.gr.fh r.vars ((O.res_of q).mono (λxs z vs F' H' gr rs=>?_) λC n z=>z.go r.gr);have r':=r.grow gr;cases rs with
 | nil=>exact z.elim
 | cons h1 rs=>
  cases rs with
  | nil=>exact z.elim
  | cons h2 rs=>
   cases rs with
   | nil=>exact⟨_,_,rfl,(z:kN K F0 H0 F D.nx _) F' H' _ gr.ff ((r'.setP h1).setP h2)⟩
   | cons h3 rs=>exact z.elim
theorem LI{i j:Nat}{x y:Str}{px py pt:Pos}{kt k2 pt2}(hc:X.calm=true)(hN:X.N.Nodup)(hi:X.N[i]? = some x)(hj:X.N[j]? = some y)(hij:i≠j)
  (hx:X.env.scope.names.lookup x=some .local) (hy:X.env.scope.names.lookup y=some .local) (ha:B3 K E X [a,b] tr fr)
  (hw:swappedStores [.Tuple [.Name x px,.Name y py] kt pt] (.Tuple [a,b] k2 pt2) X.env=pure (some [x,y]))
  (hs:swapsWithSole [.Tuple [.Name x px,.Name y py] kt pt] (.Tuple [a,b] k2 pt2) pos.line X.env=pure false:=by rfl) :
  ur K E X (.Assign [.Tuple [.Name x px,.Name y py] kt pt] (.Tuple [a,b] k2 pt2) pos) (Po i j tr) (Mr i j fr):=⟨Pr hc hN hi hj hij hx hy ha.pa hw hs,NX ha.ma⟩
theorem Da{l:Addr}{xs:List V}{H:Hp}(h:H l=some (.lst xs)):PL K "list" (.ref l) H:=.inl ⟨rfl,_,k9.of h⟩
theorem oE(i:Nat){x:Str}(hv:PE X (.Name x p) (nt i))(ha:Pm K E X e te fe)(hs:starEach [e] X.env=(false,eval e X.env)::starEach [] X.env:=by rfl)(hK:X.K=K:=by rfl)
  (hbase:attributeBase (.Name x p) "append" X.env (eval (.Name x p) X.env)=eval (.Name x p) X.env:=by rfl)
  (hfew:((backTo pos (starEach [e] X.env)).all (λx=>!x.1)&&(backToKw pos (keywordEach [] X.env)).all (λx=>x.1.isSome)&&decide (([e]:List Expr).length+([]:List Keyword).length+(if ([]:List Keyword).isEmpty then 0 else 1)<30))=true:=by rfl)
  (hline:(apos.endLine == pos.line)=true:=by rfl) (hplain:(backTo pos (starEach [] X.env)).any (·.1)=false:=by rfl) (hsw:swapsWith (.Call (.Attribute (.Name x p) "append" apos) [e] [] pos) none pos'.line X.env=pure false:=by rfl) :
  ur K E X (.Expr (.Call (.Attribute (.Name x p) "append" apos) [e] [] pos) pos') (sN (FR K i te)) (pC i (iK fe)):=by
 subst hK;exact⟨vK (IW PySem.F.plainAttrs_list PySem.F.slot_list_append PySem.F.type_list_append ua hv (pH ha.pe uh hs) hbase hfew hline hs hplain) hsw,Ky (λl xs H h=>Da h) ha.me⟩
theorem IZ(i:Nat){x:Str}(hv:PE X (.Name x p) (nt i))(ha:Pm K E X e te fe)(hs:starEach [e] X.env=(false,eval e X.env)::starEach [] X.env:=by rfl)(hK:X.K=K:=by rfl)
  (hbase:attributeBase (.Name x p) "append" X.env (eval (.Name x p) X.env)=eval (.Name x p) X.env:=by rfl)
  (hfew:((backTo pos (starEach [e] X.env)).all (λx=>!x.1)&&(backToKw pos (keywordEach [] X.env)).all (λx=>x.1.isSome)&&decide (([e]:List Expr).length+([]:List Keyword).length+(if ([]:List Keyword).isEmpty then 0 else 1)<30))=true:=by rfl)
  (hline:(apos.endLine == pos.line)=true:=by rfl) (hplain:(backTo pos (starEach [] X.env)).any (·.1)=false:=by rfl) (hsw:swapsWith (.Call (.Attribute (.Name x p) "append" apos) [e] [] pos) none pos'.line X.env=pure false:=by rfl) :
  ur K E X (.Expr (.Call (.Attribute (.Name x p) "append" apos) [e] [] pos) pos') (sN (FR K i te)) (pC i (m8 fe)):=by
 subst hK;exact⟨vK (IW PySem.F.plainAttrs_list PySem.F.slot_list_append PySem.F.type_list_append ua hv (pH ha.pe uh hs) hbase hfew hline hs hplain) hsw,KD (λl xs H h=>Da h) ha.me⟩
theorem vF(i:Nat){x:Str}(hv:PE X (.Name x p) (nt i))(hk:Pm K E X b tb fb)(h:Pm K E X e te fe)
  (ha:∀v,assign (.Subscript (.Name x p) b p2) X.env v=(do
   let ov <-holding [v] (eval (.Name x p) X.env)
   let iv <-holding [v,ov] (eval b X.env)
   standAt p2
   holding [v,ov,iv] (setItem ov iv v)
   release [v,ov,iv] []):=by intro _;rfl)
  (hs:swapsWithSole [.Subscript (.Name x p) b p2] e pos.line X.env=pure false:=by rfl) (hw:swappedStores [.Subscript (.Name x p) b p2] e X.env=pure none:=by rfl)
  (h1:(assignEach [.Subscript (.Name x p) b p2] X.env).map (·.2)=[assign (.Subscript (.Name x p) b p2) X.env]:=by rfl) :
  ur K E X (.Assign [.Subscript (.Name x p) b p2] e pos) (o5 te (NS (nt i) tb Ex)) (uM i (m8 fb) (m8 fe)):=⟨Ji h.pe (Ow hv hk.pe J0 ha) hs hw h1,NI h.me hk.me⟩
theorem IF(h:Pm K E X e te fe)(hs:swapsWith e none pos.line X.env=pure false:=by rfl):ur K E X (.Expr e pos) (sN te) (Bm (iK fe)):=⟨vK h.pe hs,J8 h.me⟩
end
section
variable {P:Program}{w:World}{K:W.Frag}{mg:Str->Option Value}{base:Heap}{x:Str}{st:Stmt}{N ps:List Str}{k:Nat}{g:En->O}
theorem jt(D:gq K mg x st)(S:f7 N ps (fU st))
  (hb:∀(kV doc pm:Value) (an:Option Addr) (cdv ct:Value) (us:List Value),us.length=ps.length->bindArgs (W.fnOf x x (jQ st) (iP st) (fU st) .none kV doc pm an cdv ct) ⟨us,[]⟩=pure (ps.zip us))
  (hT:∀(f:Addr) (cdv:Value) (A:Around) (outer:List Env) (s:Shared) (H:Hp) (E:XK),ju k (A.deeper (envOfC x (fU st) s.heap.objs.size f cdv))->∃t,sV K E (sC Ay P w K mg base N x (fU st) f cdv A outer s H E).nox (iP st) t g) :
  fV P w K mg base x (k+1) (iE K (lH ps.length N.length g)):=
 EL D S hb (λvs H Q E h=>CJ h) λf cdv A outer s H vs Q E hr h=>let ⟨t,hp⟩:=hT f cdv A outer s H E hr;⟨t,hp.ps,zQ hp.ms h⟩
theorem DE(D:gq K mg x st)(S:f7 N ps (fU st))
  (hb:∀(kV doc pm:Value) (an:Option Addr) (cdv ct:Value) (us:List Value),us.length=ps.length->bindArgs (W.fnOf x x (jQ st) (iP st) (fU st) .none kV doc pm an cdv ct) ⟨us,[]⟩=pure (ps.zip us))
  (hT:∀(f:Addr) (cdv:Value) (A:Around) (outer:List Env) (s:Shared) (H:Hp) (E:XK),ju k (A.deeper (envOfC x (fU st) s.heap.objs.size f cdv))->∃t,sV K E (sC Ay P w K mg base N x (fU st) f cdv A outer s H E).nox (iP st) t g) :
  fV P w K mg base x (k+1) (uu K (B5 ps.length N.length g)):=
 EL D S hb (λvs H Q E h=>E1 h) λf cdv A outer s H vs Q E hr h=>let ⟨t,hp⟩:=hT f cdv A outer s H E hr;⟨t,hp.ps,BB hp.ms h⟩
end
end L3
namespace L3
open PySem L2 PySem.Spec PyProof.Rows
section
variable {K:W.Frag}{E:XK}{X:Cx}{a b c e o tg it:Expr}{es:List Expr}{ta tb tc te to:TE}{fa fb fc fe fo:Pe->M T}{tr:TA}{fr:Pe->M (List T)}{pos p p2 apos:Pos}
@[simp] noncomputable def iO(f:Pe->M (List T)):Pe->M T:=λρ=>(f ρ).bind λts=>.ok (.lst ts)
theorem ir(hK:X.K=K:=by rfl):kU X (.builtin "len") (λxs H Q=>∃x n,xs=[x]/\Nm K x H n/\Q (.int n) H):=hK▸Jm
theorem yK(hc:X.calm=true)(hK:X.K=K:=by rfl):kU X (.builtin "sum") (λxs H Q=>∃(p:Addr) (ns:List Int),xs=[.ref p]/\k9 K H p (ns.map V.int)/\Q (.int ns.sum) H):=hK▸J3 hc
theorem oG(hc:X.calm=true)(hK:X.K=K:=by rfl):kU X (.builtin "all") (λxs H Q=>∃(p:Addr) (bs:List Bool),xs=[.ref p]/\k9 K H p (bs.map V.bl)/\Q (.bl (bs.all id)) H):=hK▸JU hc
theorem yn(hc:X.calm=true)(hK:X.K=K:=by rfl):kU X (.builtin "any") (λxs H Q=>∃(p:Addr) (vs:List V) (bs:List Bool),xs=[.ref p]/\(k9 K H p vs\/mB K H p vs)/\mJ vs=some bs/\Q (.bl (bs.any id)) H):=hK▸F8 hc
theorem iC(hK:X.K=K:=by rfl):kU X (.type "tuple") (λxs H Q=>∃p ys,xs=[.ref p]/\((k9 K H p ys/\∀l,H l=none->Q (.ref l) (jx H l (.tup ys)))\/(mB K H p ys/\Q (.ref p) H))):=hK▸xK
theorem mv(hK:X.K=K:=by rfl):kU X (.type "list") (λxs H Q=>∃p ys,xs=[.ref p]/\(k9 K H p ys\/mB K H p ys)/\∀l,H l=none->Q (.ref l) (jx H l (.lst ys))):=hK▸zN
theorem GI(hK:X.K=K:=by rfl):pY X (compareOp .NotIn) (RP K true):=hK▸AE
def NF:T->Option Bool
 | .bl b=>some b
 | .int i=>some (i != 0)
 | _=>none
def uH:List T->Option (List Bool)
 | []=>some []
 | v::vs=>(NF v).bind λb=>(uH vs).bind λr=>some (b::r)
theorem zW{F:Hp}:∀{vs:List V} {ts:List T},gL K F vs ts->mJ vs=uH ts
 | _,_,.nil=>rfl
 | v::vs,t::ts,.cons h r=>by
  have e:Ci v=NF t:=by cases h<;>rfl
  rw[mJ,uH,zW r,e]
@[simp] theorem PM(ns:List Bool):uH (ns.map T.bl)=some ns:=by
 induction ns with
 | nil=>rfl
 | cons n ns ih=>simp[uH,NF,ih]
@[simp] noncomputable def uA(ts:List T):M T:=match uH ts with
 | some bs=>.ok (.bl (bs.any id))
 | none=>.bad
@[simp] noncomputable def C5:List T->M T
 | [.lst ts]=>uA ts
 | [.tup ts]=>uA ts
 | _=>.bad
theorem Jq(ts:List T):M.NoE (uA ts):=λC n=>by unfold uA;split<;>intro z<;>cases z
theorem KR(xs:List T):M.NoE (C5 xs):=λC n=>by unfold C5;split<;>first | exact Jq _ C n | (intro z;cases z)
theorem IC:MC K (λxs H Q=>∃(p:Addr) (vs:List V) (bs:List Bool),xs=[.ref p]/\(k9 K H p vs\/mB K H p vs)/\mJ vs=some bs/\Q (.bl (bs.any id)) H) C5:=⟨KR,λF H vs xs Q s r q=>by
 cases r with
 | nil=>exact q.elim
 | cons h t=>
  cases t with
  | cons _ _=>cases h<;>exact q.elim
  | nil=>
   cases h with
   | lst h r=>
    rename_i a xs ts;have q':(uA ts).res (kV K F H Q) (λ_ _=>False):=q;unfold uA at q';cases e:uH ts with
    | none=>rw[e] at q';exact q'.elim
    | some bs=>rw[e] at q';exact⟨a,xs,bs,rfl,.inl (k9.of (s _ _ h)),by rw[zW r];exact e,kV.now q' s (.bl _)⟩
   | tup h r=>
    rename_i a xs ts;have q':(uA ts).res (kV K F H Q) (λ_ _=>False):=q;unfold uA at q';cases e:uH ts with
    | none=>rw[e] at q';exact q'.elim
    | some bs=>rw[e] at q';exact⟨a,xs,bs,rfl,.inr (mB.of (s _ _ h)),by rw[zW r];exact e,kV.now q' s (.bl _)⟩
   | _=>exact q.elim⟩
@[simp] noncomputable def HG(neg:Bool):T->T->M T
 | .bl a,.bl b=>.ok (.bl (if neg then !(a == b) else a == b))
 | _,_=>.bad
theorem Mo{neg:Bool}(x y:T):M.NoE (HG neg x y):=λC n=>by unfold HG;split<;>intro z<;>cases z
theorem Gc:MR K (λx y H Q=>∃a b,x=.bl a/\y=.bl b/\Q (.bl (!(a == b))) H) (HG true):=⟨Mo,λF H v w x y Q s ra rb q=>by
 cases ra with
 | bl a=>
  cases rb with
  | bl b=>exact⟨_,_,rfl,rfl,kV.now q s (.bl _)⟩
  | _=>exact q.elim
 | _=>exact q.elim⟩
def nZ(xs:List T):List T:=(xs.zipIdx).map λp=>T.tup [.int (p.2:Int),p.1]
def HD(K:W.Frag)(ta:TA):TI:=λσ H R=>∃b,Jr K b ta σ H R
@[simp] noncomputable def ES(fa:Pe->M (List T)):Pe->M (List T):=λρ=>(fa ρ).bind λxs=>match xs with
 | [x]=>(seqT x).bind λts=>.ok (nZ ts)
 | _=>.bad
theorem Lq{F:Hp}{b:Bool}{l:Addr}{xs:List V}{ts:List T}(h1:∀H,gU F H->vm K H b l xs)(r1:gL K F xs ts):ye K (RM K b l) (nZ ts) F where
 go:=λi H s hi=>by
  have hi':i<ts.length:=by simpa[nZ] using hi
  have e1:xs[i]? = some (xs[i]'(by rw[r1.length];exact hi')):=ag _;exact⟨xs,_,h1 H s,e1⟩
 stop:=λH s=>⟨xs,h1 H s,by simp[nZ,r1.length]⟩
 yld:=λi t F' H x H' s1 s2 e y=>by
  obtain⟨p,x1,rfl,hp,rfl,e1⟩:=y;obtain⟨t1,f1,q1⟩:=r1.at_ (e1 xs (h1 H (s1.trans s2)));have:t=.tup [.int (i:Int),t1]:=by unfold nZ at e;rw[av,List.getElem?_zipIdx,f1] at e;simp at e;exact e.symm
  rw[this];have g:=Gr.new (o:=.tup [.int i,x1]) s2 hp;exact⟨_,g,.tup gC (.cons (.int _) (.cons ((q1.mono s1).mono g.ff) .nil))⟩
noncomputable def DF(b:Bool)(fa:Pe->M (List T)):Pe->M (List T):=λρ=>(fa ρ).bind λxs=>match xs with
 | [x]=>(seqB b x).bind λts=>.ok (nZ ts)
 | _=>.bad
theorem BA{b:Bool}(ha:MA K E tr fr):MI K E (Jr K b tr) (DF b fr):=λF H σ ρ R s V q=>by
 refine ha.run s V q λxs vs F1 H1 g1 r1 q1=>?_;split at q1
 ·rename_i x;cases r1 with
  | cons a c=>
   cases c;cases e1:seqB b x with
   | bad=>rw[e1] at q1;exact q1.elim
   | er C n=>exact absurd e1 zI
   | ok ts=>rw[e1] at q1;obtain⟨a1,x1,rfl,s1,t1⟩:=Ap a e1;exact⟨a1,rfl,⟨x1,s1 _ g1.fh⟩,(q1:kI K F H R _) _ F1 H1 g1 (Lq s1 t1)⟩
 ·exact q1.elim
theorem Mh(ha:MA K E tr fr):MI K E (HD K tr) (ES fr):=λF H σ ρ R s V q=>by
 unfold ES at q;cases e:fr ρ with
 | bad=>rw[e] at q;exact q.elim
 | er C n=>rw[e] at q;exact⟨true,BA ha F H σ ρ R s V (by unfold DF;rw[e];exact q)⟩
 | ok xs=>
  rw[e] at q;match xs,e,q with
  | [],_,q=>exact q.elim
  | [x],e,q=>refine⟨r9 x,BA ha F H σ ρ R s V ?_⟩;unfold DF;rw[e];have q':((seqT x).bind λts=>M.ok (nZ ts)).res (kI K F H R) (kE E F H):=q;rw[Dr x] at q';exact q'
  | _::_::_,_,q=>exact q.elim
theorem Lc{elts:List Expr}{x1}{tpos:Pos}(hm:X.mg "enumerate" = none)(ha:B3 K E X [a] tr fr)(hK:X.K=K:=by rfl)(hg:Gl X "enumerate" :=by rfl)(hs:starEach [a] X.env=[(false,eval a X.env)]:=by rfl) :
  MW K E X (.Tuple elts x1 tpos) (.Call (.Name "enumerate" p) [a] [] pos) (HD K tr) (ES fr):=by
 subst hK;refine⟨λfO s σ H R I h=>?_,Mh ha.ma⟩;obtain⟨b,h⟩:=h;exact JN hg hm ha.pa hs fO s σ H R I h
end
structure Bs(mg:Str->Option Value):Prop where
 abs:mg "abs" = none
 isinstance:mg "isinstance" = none
 int:mg "int" = none
 bool:mg "bool" = none
 len:mg "len" = none
 range:mg "range" = none
 tuple:mg "tuple" = none
 list:mg "list" = none
 str:mg "str" = none
 all:mg "all" = none
 any:mg "any" = none
 sum:mg "sum" = none
 zip:mg "zip" = none
 max:mg "max" = none
 min:mg "min" = none
 enumerate:mg "enumerate" = none
 reversed:mg "reversed" = none
 set:mg "set" = none
 dict:mg "dict" = none
 sorted:mg "sorted" = none
theorem nk:bootBuiltins "list" = some (.type "list"):=by decide +kernel
theorem IG:bootBuiltins "min" = some (.builtin "min"):=by decide +kernel
end L3
namespace L3
open PySem L2
section
variable {α:Type}
theorem yS{k:T->M (Option T)}(enc f:α->T):∀(l:List α),(∀a∈l,k (enc a)=.ok (some (f a)))->pM k (l.map enc)=.ok (l.map f)
 | [],_=>rfl
 | a::l,h=>by rw[bF,pM,h a (by simp),M.bind_ok,yS enc f l λb hb=>h b (by simp[hb])];rfl
theorem si{k:T->M (Option T)}(enc f:α->T)(p:α->Bool):∀(l:List α),(∀a∈l,k (enc a)=.ok (if p a then some (f a) else none))->pM k (l.map enc)=.ok ((l.filter p).map f)
 | [],_=>rfl
 | a::l,h=>by
  rw[bF,pM,h a (by simp),M.bind_ok,si enc f p l λb hb=>h b (by simp[hb])];by_cases hp:p a=true
  ·simp[hp]
  ·simp[hp]
theorem iH{m:T->En->Option En}{g:En->O}(enc:α->T)(P:Nat->En->Prop):∀(l:List α) (k:Nat) (ρ:En),P k ρ->
  (∀i a ρ,l[i]? = some a->P (k+i) ρ->∃ρ1 ρ2,m (enc a) ρ=some ρ1/\(g ρ1=.nx ρ2\/g ρ1=.ct ρ2)/\P (k+i+1) ρ2)->∃ρ',jr m g (l.map enc) ρ=.nx ρ'/\P (k+l.length) ρ'
 | [],k,ρ,h,_=>⟨ρ,rfl,h⟩
 | a::l,k,ρ,h,st=>by
  obtain⟨ρ1,ρ2,e1,e2,h2⟩:=st 0 a ρ rfl h;obtain⟨ρ',e,h'⟩:=iH enc P l (k+1) ρ2 h2 λi b ρ hb hP=>by have:=st (i+1) b ρ (by simpa using hb) (by rw[show k+(i+1)=k+1+i by omega];exact hP);rw[show k+1+i+1=k+(i+1)+1 by omega];exact this
  refine⟨ρ',?_,by rw[ay,show k+(l.length+1)=k+1+l.length by omega];exact h'⟩;rw[bF,jr,e1];rcases e2 with e2 | e2<;>(dsimp only;rw[e2];exact e)
theorem nP{c:Pe->M Bool}{g:En->O}(P:En->Prop)(μ:En->Nat)(R:En->Prop)(st:∀ρ,P ρ->(c (vw ρ)=.ok false/\R ρ)\/(c (vw ρ)=.ok true/\∃ρ2,(g ρ=.nx ρ2\/g ρ=.ct ρ2)/\P ρ2/\μ ρ2<μ ρ)) :
  ∀(n:Nat) (ρ:En),P ρ->μ ρ<n->∃ρ',mj c g n ρ=.nx ρ'/\R ρ'
 | 0,ρ,_,h=>absurd h (cX _)
 | n+1,ρ,hP,hn=>by
  rcases st ρ hP with⟨e,r⟩ | ⟨e,ρ2,e2,hP2,hm⟩
  ·exact⟨ρ,by rw[mj,e];rfl,r⟩
  ·obtain⟨ρ',e',r⟩:=nP P μ R st n ρ2 hP2 (by omega);refine⟨ρ',?_,r⟩;rw[mj,e,O.of_ok,aP rfl];rcases e2 with e2 | e2<;>(rw[e2];exact e')
end
theorem vB{α:Type}{ix:List (Option Nat)}{fi:Pe->M (List T)}{m:T->Pe->Option Pe}{ft:Pe->M Bool}{fe:Pe->M T}{ρ:Pe}(l:List α)(enc f:α->T)(hi:fi ρ=.ok (l.map enc))(hl:l.length<sizeLine)
  (ht:∀a∈l,∃ρ1,m (enc a) (m9 ix ρ)=some ρ1/\ft ρ1=.ok true/\fe ρ1=.ok (f a)):jJ ix fi m ft fe ρ=.ok (l.map f):=by
 have h:=yS (k:=qX m ft fe (m9 ix ρ)) enc f l λa ha=>by obtain⟨ρ1,e1,e2,e3⟩:=ht a ha;unfold qX;rw[e1];dsimp only;rw[e2,M.bind_ok,aP rfl,e3];rfl
 unfold jJ;rw[hi,M.bind_ok,aw,aP hl,h];rfl
theorem Dg{α:Type}{ix:List (Option Nat)}{fi:Pe->M (List T)}{m:T->Pe->Option Pe}{ft:Pe->M Bool}{fe:Pe->M T}{ρ:Pe}(l:List α)(enc f:α->T)(p:α->Bool)(hi:fi ρ=.ok (l.map enc))(hl:l.length<sizeLine)
  (ht:∀a∈l,∃ρ1,m (enc a) (m9 ix ρ)=some ρ1/\ft ρ1=.ok (p a)/\(p a=true->fe ρ1=.ok (f a))):jJ ix fi m ft fe ρ=.ok ((l.filter p).map f):=by
 have h:=si (k:=qX m ft fe (m9 ix ρ)) enc f p l λa ha=>by
  obtain⟨ρ1,e1,e2,e3⟩:=ht a ha;unfold qX;rw[e1];dsimp only;rw[e2,M.bind_ok];cases hp:p a with
  | true=>rw[aP rfl,aP rfl,e3 hp];rfl
  | false=>rw[aQ aG,aQ aG]
 unfold jJ;rw[hi,M.bind_ok,aw,aP hl,h];rfl
theorem jv{α:Type}{ix:List (Option Nat)}{fi:Pe->M (List T)}{m:T->Pe->Option Pe}{ft:Pe->M Bool}{fe:Pe->M T}{ρ:Pe}{ts:List T}(l:List α)(enc f:α->T)(hi:fi ρ=.ok (l.map enc))(hl:l.length<sizeLine)
  (ht:∀a∈l,∃ρ1,m (enc a) (m9 ix ρ)=some ρ1/\ft ρ1=.ok true/\fe ρ1=.ok (f a)) (hr:l.map f=ts):jJ ix fi m ft fe ρ=.ok ts:=by rw[<-hr];exact vB l enc f hi hl ht
theorem pj{α:Type}{ix:List (Option Nat)}{fi:Pe->M (List T)}{m:T->Pe->Option Pe}{ft:Pe->M Bool}{fe:Pe->M T}{ρ:Pe}{ts:List T}(l:List α)(enc f:α->T)(p:α->Bool)(hi:fi ρ=.ok (l.map enc))(hl:l.length<sizeLine)
  (ht:∀a∈l,∃ρ1,m (enc a) (m9 ix ρ)=some ρ1/\ft ρ1=.ok (p a)/\(p a=true->fe ρ1=.ok (f a))) (hr:(l.filter p).map f=ts):jJ ix fi m ft fe ρ=.ok ts:=by rw[<-hr];exact Dg l enc f p hi hl ht
theorem Q0(lo:Int)(n:Nat):Ar lo n=(List.range n).map λ(i:Nat)=>T.int (lo+(i:Int)):=rfl
def tI(ns:List Int):T:=.tup (ns.map T.int)
def tL(ns:List Int):T:=.lst (ns.map T.int)
def fr(p:Int×Int):T:=.tup [.int p.1,.int p.2]
def tS(s:List (Int×Int)):T:=.tup (s.map fr)
theorem xg{α:Type}(l:List α)(i:Int)(h0:0<=i)(h1:i<l.length):∃a,pK l i=some a/\a∈l:=by
 unfold pK xF;rw[aP h0,aP h1];have hn:i.toNat<l.length:=by omega
 exact⟨l[i.toNat],by simp[hn],aU _⟩
theorem iu{i j:Int}(h:PySem.IntMulOk i j):iJ (.int i) (.int j)=.ok (.int (i*j)):=by simp[iJ,lJ,h]
theorem md{i j:Int}(h:j≠0)(h2:Builtin.divisionGoesByPylong i j=false):oJ (.int i) (.int j)=.ok (.int (i.fdiv j)):=by simp[oJ,lJ,h,h2]
theorem qG{i j:Int}(h:j≠0):tW (.int i) (.int j)=.ok (.int (i.fmod j)):=by simp[tW,lJ,h]
@[simp] theorem iU(i j:Int):iV (.int i) (.int j)=.ok (.int (i+j)):=rfl
@[simp] theorem oO(i j:Int):sU (.int i) (.int j)=.ok (.int (i - j)):=rfl
@[simp] theorem pD(i j:Int):Cq (.int i) (.int j)=.ok (.bl (decide (i<j))):=rfl
@[simp] theorem AR(i j:Int):Hk (.int i) (.int j)=.ok (.bl (decide (i<=j))):=rfl
@[simp] theorem sh(i j:Int):A3 (.int i) (.int j)=.ok (.bl (decide (j<i))):=rfl
@[simp] theorem sP(i j:Int):M5 (.int i) (.int j)=.ok (.bl (decide (j<=i))):=rfl
@[simp] theorem iI(i j:Int):gD false (.int i) (.int j)=.ok (.bl (i == j)):=by simp[gD,nO,Cp,qF]
@[simp] theorem l8(i j:Int):gD true (.int i) (.int j)=.ok (.bl (!(i == j))):=by simp[gD,nO,Cp,qF]
theorem tH{i j:Int}(h:i.natAbs<2 ^ 64):PySem.IntMulOk i j:=IntMulOk.of_left (PyProof.Rows.intBits_le h)
theorem rE{i j:Int}(h:j.natAbs<2 ^ 64):PySem.IntMulOk i j:=PySem.IntMulOk.of_right (PyProof.Rows.intBits_le h)
def Bn(n:Nat)(x:Int):Prop:=x.natAbs<2 ^ n
theorem Bn.mono{m n:Nat}{x:Int}(h:Bn m x)(hm:m<=n):Bn n x:=aD h (cY (by decide) hm)
theorem Bn.mul{m n:Nat}{x y:Int}(h:Bn m x)(h':Bn n y):Bn (m+n) (x*y):=by unfold Bn at *;rw[aX,Nat.pow_add];exact Nat.mul_lt_mul'' h h'
theorem Bn.add{m n:Nat}{x y:Int}(h:Bn m x)(h':Bn n y):Bn (max m n+1) (x+y):=by have a:Bn (max m n) x:=h.mono (cZ _ _);have b:Bn (max m n) y:=h'.mono (c6 _ _);unfold Bn at *;rw[c7];have:=c8 x y;omega
theorem Bn.neg{m:Nat}{x:Int}(h:Bn m x):Bn m (-x):=by unfold Bn at *;rw[c9];exact h
theorem Bn.sub{m n:Nat}{x y:Int}(h:Bn m x)(h':Bn n y):Bn (max m n+1) (x - y):=by rw[Int.sub_eq_add_neg];exact h.add h'.neg
theorem Bn.ok{m n:Nat}{x y:Int}(h:Bn m x)(h':Bn n y)(hm:m<=2 ^ 20)(hn:n<=2 ^ 20):PySem.IntMulOk x y:=IntMulOk.of_bits (aM (PyProof.Rows.intBits_le h) hm) (aM (PyProof.Rows.intBits_le h') hn)
theorem Bn.noPy{n:Nat}{x y:Int}(h:Bn n y)(hn:n<=8000):Builtin.divisionGoesByPylong x y=false:=Cu.noPy (PyProof.Rows.intBits_le h) hn
section
variable {a b g:En->O}{ρ ρ':En}{r:O}{fc:Pe->M Bool}{f:Pe->M T}{ff:Pe->M (List T)}{t:T}{ts:List T}{k n i:Nat}
theorem fT(h1:a ρ=.nx ρ')(h2:b ρ'=r):f9 a b ρ=r:=by unfold f9;rw[h1];exact h2
theorem jW(h1:a ρ=.rt t)(hr:.rt t=r):f9 a b ρ=r:=by unfold f9;rw[h1];exact hr
theorem iw(h:fc (vw ρ)=.ok true)(h2:a ρ=r):kg fc a b ρ=r:=by unfold kg;rw[h];exact h2
theorem gY(h:fc (vw ρ)=.ok false)(h2:b ρ=r):kg fc a b ρ=r:=by unfold kg;rw[h];exact h2
theorem gh(h:f (nV ρ)=.ok t)(hr:ρ'=ρ.set i (some (.p t))):setO i (iK f) ρ=.nx ρ':=by unfold setO iK;rw[h,hr];rfl
theorem sG(h:f (vw ρ)=.ok t)(hl:lf t=true)(hr:ρ'=ρ.set i (some (.p t))):setO i (m8 f) ρ=.nx ρ':=by unfold setO m8;rw[h,hr];simp[hl]
theorem mm(h:ff (nV ρ)=.ok ts)(hr:ρ'=ρ.set i (some (.o ts))):mV i (nU ff) ρ=.nx ρ':=by unfold mV nU;rw[h,hr];rfl
theorem Lm(h:ff (vw ρ)=.ok ts)(hl:Gp ts=true)(hr:ρ'=ρ.set i (some (.o ts))):mV i (vO ff) ρ=.nx ρ':=by unfold mV vO;rw[h,hr];simp[hl]
theorem tG{us:List T}(ho:ρ[i]? = some (some (.o us)))(h:f (nV ρ)=.ok t)(hz:us.length<sizeLine)(hr:ρ'=ρ.set i (some (.o (us++[t])))):pC i (iK f) ρ=.nx ρ':=by unfold pC iK mL;rw[ho,h,hr];simp[hz]
theorem Kv{us:List T}(ho:ρ[i]? = some (some (.o us)))(h:f (vw ρ)=.ok t)(hl:lf t=true)(hz:us.length<sizeLine)(hr:ρ'=ρ.set i (some (.o (us++[t])))):pC i (m8 f) ρ=.nx ρ':=by unfold pC m8 mL;rw[ho,h,hr];simp[hz,hl]
theorem AL{us:List T}{fk:Pe->M T}{j:Int}{m:Nat}(ho:ρ[i]? = some (some (.o us)))(h:f (vw ρ)=.ok t)(hl:lf t=true)(hk:fk (vw ρ)=.ok (.int j))(hj:xF us.length j=some m)(hr:ρ'=ρ.set i (some (.o (us.set m t)))):uM i (m8 fk) (m8 f) ρ=.nx ρ':=by unfold uM m8 mL;rw[ho,h,hk,hr];simp[hl,hj]
theorem gB(h:f (vw ρ)=.ok t):hU f ρ=.rt t:=by unfold hU;rw[h];rfl
theorem AB(h:ff (vw ρ)=.ok ts):vR ff ρ=.rf ts:=by unfold vR;rw[h];rfl
theorem KB(h:f (nV ρ)=.ok t):Bm (iK f) ρ=.nx ρ:=by unfold Bm iK;rw[h];rfl
theorem jb{fi:Pe->M (List T)}{m:T->En->Option En}{its:List T}(h:fi (nV ρ)=.ok its)(h2:jr m g its ρ=r):mM fi m g ρ=r:=by unfold mM;rw[h];exact h2
theorem n0{fi:Pe->M (List T)}{m:T->En->Option En}{its:List T}(h:fi (vw ρ)=.ok its)(h2:jr m g its ρ=r):qc fi m g ρ=r:=by unfold qc;rw[h];exact h2
theorem gS(hk:ts.length=k)(h:g (ik n ts)=.rt t):lH k n g ts=.ok t:=by unfold lH;rw[aP hk,h];rfl
theorem QT(hk:ts.length=k)(h:g (ik n ts)=.nx ρ):lH k n g ts=.ok .non:=by unfold lH;rw[aP hk,h];rfl
theorem qi{us:List T}(hk:ts.length=k)(h:g (ik n ts)=.rf us):B5 k n g ts=.ok us:=by unfold B5;rw[aP hk,h];rfl
end
theorem K4(n:Nat):Ar 0 n=(List.range n).map λ(i:Nat)=>T.int (i:Int):=by simp[Ar]
theorem su{α:Type}(f:α->T):∀(l:List α),(∀a∈l,nO (f a)=true)->pO (l.map f)=true
 | [],_=>rfl
 | a::l,h=>by rw[bF,pO,h a (by simp),su f l λb hb=>h b (by simp[hb])];rfl
theorem sr{α:Type}(f:α->T)(n:Nat):∀(l:List α),(∀a∈l,Cp (f a)<=n)->vg (l.map f)<=n
 | [],_=>bH _
 | a::l,h=>by rw[bF,vg];have h1:=h a (by simp);have h2:=sr f n l λb hb=>h b (by simp[hb]);omega
@[simp] theorem PP(ns:List Int):pO (ns.map T.int)=true:=su _ _ λ_ _=>rfl
theorem tJ(ns:List Int):vg (ns.map T.int)<=0:=sr _ _ _ λ_ _=>aJ _
@[simp] theorem Na(ns:List Int):nO (tI ns)=true:=by simp[tI,nO]
theorem Px(ns:List Int):Cp (tI ns)<=1:=by unfold tI;rw[Cp];have:=tJ ns;omega
@[simp] theorem Qq(l:List (List Int)):pO (l.map tI)=true:=su _ _ λ_ _=>Na _
theorem Bj(l:List (List Int)):vg (l.map tI)<=1:=sr _ _ _ λ_ _=>Px _
@[simp] theorem HJ(l:List T):qR l []=l.isEmpty:=by cases l<;>rfl
theorem By{α:Type}(f:α->T)(he:∀a b,qF (f a) (f b)=true↔a=b):∀(l m:List α),qR (l.map f) (m.map f)=true↔l=m
 | [],[]=>by simp[qR]
 | [],b::m=>by simp[qR]
 | a::l,[]=>by simp[qR]
 | a::l,b::m=>by rw[bF,bF,qR,bS,he a b,By f he l m];simp
theorem yQ(l m:List Int):qR (l.map T.int) (m.map T.int)=decide (l=m):=by
 have h:=By T.int (λa b=>by simp[qF]) l m;by_cases e:l=m
 ·rw[aB e];exact h.mpr e
 ·rw[aA e];cases hb:qR (l.map T.int) (m.map T.int) with
  | false=>rfl
  | true=>exact absurd (h.mp hb) e
theorem JJ(neg:Bool)(l m:List Int):gD neg (.tup (l.map T.int)) (.tup (m.map T.int))=.ok (.bl (if neg then !decide (l=m) else decide (l=m))):=by have h:=tJ l;unfold gD;rw[aP (by simp[nO,Cp];omega),qF,yQ]
theorem C7(neg:Bool)(l m:List Int):gD neg (.lst (l.map T.int)) (.lst (m.map T.int))=.ok (.bl (if neg then !decide (l=m) else decide (l=m))):=by have h:=tJ l;unfold gD;rw[aP (by simp[nO,Cp];omega),qF,yQ]
theorem Am(neg:Bool)(ts:List T)(h:pO ts=true)(hd:vg ts<=90):gD neg (.lst ts) (.lst [])=.ok (.bl (if neg then !ts.isEmpty else ts.isEmpty)):=by unfold gD;rw[aP (by simp[nO,Cp,h,pO];omega),qF,HJ]
theorem zu{α:Type}(f:α->T)(l:List α):nZ (l.map f)=l.zipIdx.map λp=>T.tup [.int (p.2:Int),f p.1]:=by unfold nZ;rw[List.zipIdx_map,aH];rfl
theorem HY{α β:Type}(f:α->T)(g:β->T)(l:List α)(m:List β):AK (l.map f) (m.map g)=(l.zip m).map λp=>T.tup [f p.1,g p.2]:=by unfold AK;rw[List.zip_map,aH];rfl
theorem vy{α:Type}(f:α->T):∀(l:List α),(∀a∈l,lf (f a)=true)->Gp (l.map f)=true
 | [],_=>rfl
 | a::l,h=>by rw[bF,Gp,h a (by simp),vy f l λb hb=>h b (by simp[hb])];rfl
@[simp] theorem Ib(ns:List Int):Gp (ns.map T.int)=true:=vy _ _ λ_ _=>rfl
@[simp] theorem Hq(ns:List Int):lf (tI ns)=true:=by simp[tI]
@[simp] theorem Qz(p:Int×Int):lf (fr p)=true:=by simp[fr]
@[simp] theorem Rk(s:List (Int×Int)):Gp (s.map fr)=true:=vy _ _ λ_ _=>Qz _
@[simp] theorem Ml(l:List (List Int)):Gp (l.map tI)=true:=vy _ _ λ_ _=>Hq _
section
variable {α:Type}{fe fd fl:Pe->M T}{ρ:Pe}{ts:List T}{d k:Nat}
theorem zc(l:List α)(d:Nat):pX l none (some (d:Int))=l.take d:=by
 unfold pX;rw[HT.sIx_none,HT.sIx_nat,dc,Nat.sub_zero];by_cases h:d<=l.length
 ·rw[Nat.min_eq_left h]
 ·rw[Nat.min_eq_right (by omega),cx (aJ _),cx (by omega)]
theorem Gu(l:List α)(d:Nat):pX l (some (d:Int)) none=l.drop d:=by
 unfold pX;rw[HT.sIx_none,HT.sIx_nat];by_cases h:d<=l.length
 ·rw[Nat.min_eq_left h,cx (by simp)]
 ·rw[Nat.min_eq_right (by omega),de (aJ _),de (by omega),List.take_nil]
theorem Bc(h:fe ρ=.ok (.tup ts))(hd:fd ρ=.ok (.int (d:Int)))(hl:d<=ts.length):oP fe (λ_=>.ok none) (lb fd) ρ=.ok (.tup (ts.take d)):=by simp only[oP,lb,h,hd,M.bind_ok,zc]
theorem G4(h:fe ρ=.ok (.lst ts))(hd:fd ρ=.ok (.int (d:Int))):oP fe (λ_=>.ok none) (lb fd) ρ=.ok (.lst (ts.take d)):=by simp only[oP,lb,h,hd,M.bind_ok,zc]
theorem nM{o:List T->M T}{lc:Pe->M (List T)}{r:M T}(h:lc ρ=.ok ts)(hr:o [.lst ts]=r):jq o (fK (iO lc) fP) ρ=r:=by simp only[jq,fK,fP,iO,h,M.bind_ok];exact hr
theorem ou{o:List T->M T}{f:Pe->M T}{t:T}{r:M T}(h:f ρ=.ok t)(hr:o [t]=r):jq o (fK f fP) ρ=r:=by simp only[jq,fK,fP,h,M.bind_ok];exact hr
theorem iY{lc:Pe->M (List T)}(h:lc ρ=.ok ts):iO lc ρ=.ok (.lst ts):=by simp only[iO,h,M.bind_ok]
theorem H9(h:fe ρ=.ok (.tup ts)):ig fe ρ=.ok ts:=by simp only[ig,h,M.bind_ok]
theorem Ic(h:fe ρ=.ok (.lst ts)):ig fe ρ=.ok ts:=by simp only[ig,h,M.bind_ok]
theorem gx{b:Bool}(h:fe ρ=.ok (.bl b)):gO fe ρ=.ok b:=by simp only[gO,h,M.bind_ok]
theorem AF{fc:Pe->M Bool}{b r:Bool}(h:fc ρ=.ok b)(hr:(!b)=r):L3.kh fc ρ=.ok r:=by simp only[L3.kh,h,M.bind_ok,hr]
theorem fR{o:T->T->M T}{fa fb:Pe->M T}{x y:T}{r:M T}(ha:fa ρ=.ok x)(hb:fb ρ=.ok y)(hr:o x y=r):fX o fa fb ρ=r:=by simp only[fX,ha,hb,M.bind_ok];exact hr
theorem rh{F:List T->M T}{f:Pe->M T}{x t:T}(h:f ρ=.ok x)(hr:F [x]=.ok t):fW (fK f fP) F ρ=.ok t:=by simp only[fW,fK,fP,h,hr,M.bind_ok];rfl
theorem hW{F:List T->M T}{f g:Pe->M T}{x y t:T}(h:f ρ=.ok x)(h2:g ρ=.ok y)(hr:F [x,y]=.ok t):fW (fK f (fK g fP)) F ρ=.ok t:=by simp only[fW,fK,fP,h,h2,hr,M.bind_ok];rfl
theorem lg{F:List T->M T}{f g k:Pe->M T}{x y z t:T}(h:f ρ=.ok x)(h2:g ρ=.ok y)(h3:k ρ=.ok z)(hr:F [x,y,z]=.ok t):fW (fK f (fK g (fK k fP))) F ρ=.ok t:=by simp only[fW,fK,fP,h,h2,h3,hr,M.bind_ok];rfl
theorem HN{F:List T->M T}{f g k l:Pe->M T}{x y z u t:T}(h:f ρ=.ok x)(h2:g ρ=.ok y)(h3:k ρ=.ok z)(h4:l ρ=.ok u)(hr:F [x,y,z,u]=.ok t):fW (fK f (fK g (fK k (fK l fP)))) F ρ=.ok t:=by simp only[fW,fK,fP,h,h2,h3,h4,hr,M.bind_ok];rfl
end
section
variable {ρ:Pe}{ts:List T}{F:List T->M (List T)}{f g k l:Pe->M T}{x y z u:T}
theorem Pi(h:f ρ=.ok x)(hr:F [x]=.ok ts):jR (fK f fP) F ρ=.ok ts:=by simp only[jR,fK,fP,h,hr,M.bind_ok];rfl
theorem OC(h:f ρ=.ok x)(h2:g ρ=.ok y)(hr:F [x,y]=.ok ts):jR (fK f (fK g fP)) F ρ=.ok ts:=by simp only[jR,fK,fP,h,h2,hr,M.bind_ok];rfl
theorem Ho(h:f ρ=.ok x)(h2:g ρ=.ok y)(h3:k ρ=.ok z)(hr:F [x,y,z]=.ok ts):jR (fK f (fK g (fK k fP))) F ρ=.ok ts:=by simp only[jR,fK,fP,h,h2,h3,hr,M.bind_ok];rfl
theorem Cr(h:f ρ=.ok x)(h2:g ρ=.ok y)(h3:k ρ=.ok z)(h4:l ρ=.ok u)(hr:F [x,y,z,u]=.ok ts):jR (fK f (fK g (fK k (fK l fP)))) F ρ=.ok ts:=by simp only[jR,fK,fP,h,h2,h3,h4,hr,M.bind_ok];rfl
end
theorem oo{α β:Type}{fa fb:Pe->M T}{ρ:Pe}{x y:T}{l:List α}{m:List β}{f:α->T}{g:β->T}(ha:fa ρ=.ok x)(hx:seqT x=.ok (l.map f))(hb:fb ρ=.ok y)(hy:seqT y=.ok (m.map g)) :
  mX (fK fa (fK fb fP)) ρ=.ok ((l.zip m).map λp=>T.tup [f p.1,g p.2]):=by
 rw[<-HY];simp only[mX,fK,fP,ha,hb,M.bind_ok,hx,hy]
end L3
namespace L3
open PySem L2 PySem.Spec PyProof.Rows
section
variable {K:W.Frag}{E:XK}{X:Cx}{a b c e o tg it:Expr}{es:List Expr}{ta tb tc te to:TE}{fa fb fc fe fo:Pe->M T}{tr:TA}{fr:Pe->M (List T)}{pos p p2 apos:Pos}
@[simp] noncomputable def nN:List T->M T
 | [.int i,.int j]=>.ok (.int (if j<i then j else i))
 | _=>.bad
theorem Jo(xs:List T):M.NoE (nN xs):=λC n=>by unfold nN;split<;>intro z<;>cases z
theorem Eh:MC K (λxs H Q=>∃i j,xs=[.int i,.int j]/\Q (.int (if j<i then j else i)) H) nN:=⟨Jo,λF H vs xs Q s r q=>by
 cases r with
 | nil=>exact q.elim
 | cons h t=>
  cases t with
  | nil=>cases h<;>exact q.elim
  | cons h2 t=>
   cases t with
   | cons _ _=>cases h<;>first | exact q.elim | (cases h2<;>exact q.elim)
   | nil=>
    cases h with
    | int i=>
     cases h2 with
     | int j=>exact⟨i,j,rfl,kV.now q s (.int _)⟩
     | _=>exact q.elim
    | _=>exact q.elim⟩
end
section
variable {K:W.Frag}{E:XK}{X:Cx}{F0:Fz}{H0 F H:Hp}{σ:L2.St}{ρ:En}
theorem Sr.freeze{j:Nat}{ts:List T}(r:Sr K F0 H0 F H σ ρ)(e:ρ[j]? = some (some (.o ts))):∃F',gU F F'/\Sr K F0 H0 F' H σ (ρ.set j (some (.p (.lst ts)))):=by
 obtain⟨ad,h1,h2⟩:=r.ov;obtain⟨a,b,c,vs,d,z⟩:=h1 j ts e;have sf:gU F (jx F (ad j) (.lst vs)):=mx b;refine⟨jx F (ad j) (.lst vs),sf,⟨r.gr.ff.trans sf,λp u q=>?_,r.gr.hh,λp hp=>?_⟩,by simp[r.len],λi t q=>?_,⟨ad,λi ss q=>?_,λi k ss ss' q q' hik=>?_⟩,λe' he=>?_,λi l' vs' hlt q=>?_,(r.dv.heap sf λp xs hp fp=>⟨by rw[gA (λz=>by rw[z,d] at hp;cases hp)];exact fp,hp⟩).setR λ_ z=>nomatch z⟩
 ·by_cases hp:p=ad j
  ·subst hp;rw[gC] at q;cases q;exact d
  ·rw[gA hp] at q;exact r.gr.fh p u q
 ·by_cases hq:p=ad j
  ·subst hq;exact .inr (.inl c)
  ·rw[gA hq] at hp;exact r.gr.nw p hp
 ·rcases gE q with⟨rfl,q1⟩ | ⟨hj,q1⟩
  ·cases q1;exact⟨_,a,.lst gC (z.mono sf)⟩
  ·obtain⟨v,x,y⟩:=r.pv i t q1;exact⟨v,x,y.mono sf⟩
 ·rcases gE q with⟨rfl,q1⟩ | ⟨hj,q1⟩
  ·cases q1
  ·obtain⟨a',b',c',vs',d',z'⟩:=h1 i ss q1;exact⟨a',by rw[gA (h2 i j ss ts q1 e hj)];exact b',c',vs',d',z'.mono sf⟩
 ·rcases gE q with⟨rfl,q1⟩ | ⟨hj,q1⟩
  ·cases q1
  ·rcases gE q' with⟨rfl,q2⟩ | ⟨hk,q2⟩
   ·cases q2
   ·exact h2 i k ss ss' q1 q2 hik
 ·have L:=r.lv e' he;have hne:e'.2.1≠ad j:=λw=>L.d j ts e (by rw[w];exact a);refine⟨L.h,by rw[gA hne];exact L.f,L.z,λi ss q=>?_⟩;rcases gE q with⟨rfl,q1⟩ | ⟨hj,q1⟩
  ·cases q1
  ·exact L.d i ss q1
 ·rcases gE q with⟨rfl,q1⟩ | ⟨hj,q1⟩
  ·cases q1
  ·exact r.sl i l' vs' hlt q1
@[simp] noncomputable def PJ(j:Nat)(g:En->O):En->O:=λρ=>match ρ[j]? with
 | some (some (.o ts))=>g (ρ.set j (some (.p (.lst ts))))
 | _=>.bad
theorem QM{t:TS}{g:En->O}(j:Nat)(h:MS K E t g):MS K E t (PJ j g):=λF0 H0 F H σ ρ D r q=>by
 unfold PJ at q;split at q
 ·rename_i ts e;obtain⟨F',s,r'⟩:=r.freeze e;exact h F0 H0 F' H σ _ D r' (q.go s)
 ·exact q.elim
theorem Pt{s:Stmt}{t:TS}{g:En->O}(j:Nat)(h:ur K E X s t g):ur K E X s t (PJ j g):=⟨h.ps,QM j h.ms⟩
theorem P9{j:Nat}{ts:List T}{g:En->O}{r:O}(e:ρ[j]? = some (some (.o ts)))(h:g (ρ.set j (some (.p (.lst ts))))=r):PJ j g ρ=r:=by unfold PJ;rw[e];exact h
end
def Ee(K:W.Frag):Sp:=λvs H Q _=>∃(a:Addr) (ns:List Int),vs=[.ref a]/\k9 K H a (ns.map V.int)/\ns.length<=63/\(∀z∈ns,Builtin.Int.intBits z<=2 ^ 20)/\∀H',Q (.bl true) H'
theorem Ju{K:W.Frag}{F:List T->M T}(h:∀ns:List Int,ns.length<=63->(∀z∈ns,Builtin.Int.intBits z<=2 ^ 20)->F [.scr ns]=.ok (.bl true))(vs:List V)(H:Hp)(Q:VK)(E:XK)(z:Ee K vs H Q E):iE K F vs H Q E:=by obtain⟨a,ns,rfl,hS,hl,hb,hq⟩:=z;refine⟨[.scr ns],H,λ_ _ x=>x,.cons (.scr hS) .nil,?_⟩;rw[h ns hl hb];intro v F' H' g r;cases r;exact hq _
theorem RC{P:Program}{w:World}{K:W.Frag}{mg:Str->Option Value}{base:Heap}{x:Str}{st:Stmt}{N ps:List Str}{k:Nat}{g:En->O}{f:Addr}{fd:FuncData}(F:Kn K x x st f fd)(S:f7 N ps (fU st))
  (hT:∀(f:Addr) (cdv:Value) (A:Around) (outer:List Env) (s:Shared) (H:Hp) (E:XK),ju k (A.deeper (envOfC x (fU st) s.heap.objs.size f cdv))->∃t,sV K E (sC Ay P w K mg base N x (fU st) f cdv A outer s H E).nox (iP st) t g) :
  nT P w K mg base Ay (k+1) f fd ps (iE K (lH ps.length N.length g)):=
 F.ok S (λvs H Q E h=>CJ h) λcdv A outer s H vs Q E hr h=>let ⟨t,hp⟩:=hT f cdv A outer s H E hr;⟨t,hp.ps,zQ hp.ms h⟩
theorem QS{l:W.OpenLaw}{q:Program}{k:Nat}{x:Str}{loose:List Str}{XP:(Str->Option Value)->Heap->Prop}{YP:World->Heap->Prop}{d:DefRec}{K:Params->W.Frag}(hn:l.most=some 63)(hr:ju k callerA)(hdf:d.params.defaults=[])
  (hY:∀(w:World) (h:Heap),YP w h->(K w.params).In h)
  (F:∀(w:World) (mg:Str->Option Value) (fa:Addr) (h:Heap),(K w.params).In h->h.Ns mainGlobals mg->mg d.name=some (.ref fa)->
   ∃fd:FuncData,(∀(s:Shared) (u:Value),BindsTo s fd ⟨[u],[]⟩ [(x,u)])/\∀base:Heap,(K w.params).In base->base.Ns mainGlobals mg->nT l.prog w (K w.params) mg base Ay k fa fd [x] (Ee (K w.params))) :
  W.WalkO q loose XP YP l.row.toRowW d [] (λf vs=>PySem.call f vs):=
 L2.FQ (n:=63) (k:=k) (x:=x) (CX:=Ay) (sp:=Ee) hn (by decide) hdf hr hY F (λ_ _ a ns hl hb _ hS=>⟨a,ns,rfl,hS,hl,hb,λ_=>rfl⟩) λ_ _ _ _ z=>z
end L3
namespace L3
open PySem L2 PySem.Spec PyProof.Rows
section
variable {K:W.Frag}{E:XK}{t:TE}{f:Pe->M T}
def kO(K:W.Frag)(F H:Hp)(x:Addr)(Q:VK)(t:T):Prop:=∀F' H',gU F F'->gU F' H'->(∀a o,a≠x->H a=some o->H' a=some o)->(∀a,F' a≠none->F a≠none\/H a=none\/a=x\/∃xs,H a=some (.tup xs))->lN K F' (.ref x) t->Q .non H'
noncomputable def Gg(K:W.Frag)(C:Addr)(Fn:List T->M T):Sp:=λvs H Q _=>∃x dx us ts F0,vs=.ref x::us/\H x=some (.ins C dx [])/\F0 x=none/\gU F0 H/\gL K F0 us ts/\(Fn ts).noEr.res (kO K F0 H x Q) (λ_ _=>False)
theorem Ka{C:Addr}{tr:TA}{fr:Pe->M (List T)}{Fn:List T->M T}{E':XK}(ha:MA K E tr fr):ME K E (EM C (Gg K C Fn) [] E' tr) (fW fr Fn):=λF H σ ρ Q s V q=>by
 refine ha.run s V q λts vs F1 H1 g1 r1 q1=>?_;intro x dx hx hdx hne;have hx':jx H1 dx (.own x) x=none:=by rw[gA (λz=>hne z.symm)];exact hx
 have s0:gU H1 (jx (jx H1 dx (.own x)) x (.ins C dx [])):=(nF hdx).trans (nF hx');refine⟨x,dx,vs,ts,F1,by rw[bI],gC,gP g1.fh hx,g1.fh.trans s0,r1,?_⟩;cases e:Fn ts with
 | bad=>rw[e] at q1;exact q1.elim
 | er C n=>rw[e] at q1;exact q1.elim
 | ok t=>
  rw[e] at q1;intro F' H' a b c d r;refine⟨rfl,(q1:kV K F H Q t) (.ref x) F' H' ⟨g1.ff.trans a,b,λp o h=>?_,λp hp=>?_⟩ r⟩
  ·have h1:=g1.hh p o h;have hpx:p≠x:=λz=>by rw[z,hx] at h1;cases h1
   exact c p o hpx (s0 p o h1)
  ·rcases d p hp with z | z | z | ⟨xs,z⟩
   ·exact g1.nw p z
   ·exact .inr (.inl (gP g1.hh (gP s0 z)))
   ·rw[z];exact .inr (.inl (gP g1.hh hx))
   ·cases y:H p with
    | none=>exact .inr (.inl rfl)
    | some o=>exact .inr (.inr ⟨xs,by rw[s0 p o (g1.hh p o y)] at z;exact z⟩)
noncomputable def BD(C:Addr)(n:Nat)(f1 f2:Str)(g1 g2:Pe->M T):List T->M T:=λts=>if ts.length=n then (g1 (none::ts.map some)).bind λa=>(g2 (none::ts.map some)).bind λb=>.ok (.obj C [(f1,a),(f2,b)]) else .bad
structure Sj(K:W.Frag)(E:XK)(X:Cx)(body:List Stmt)(f1 f2:Str)(g1 g2:Pe->M T):Prop where
 ex:∃(t1 t2:TE),B8 X body (L9 (Nq K (nt 0) t1 f1) (Nq K (nt 0) t2 f2))/\ME K E t1 g1/\ME K E t2 g2
theorem RS{X:Cx}{o1 o2 a1 a2:Expr}{t1 t2:TE}{g1 g2:Pe->M T}{f1 f2:Str}{p1 p2 q1 q2:Pos}(hK:X.K=K)(o1v:PE X o1 (nt 0))(h1:Pm K E X a1 t1 g1)(o2v:PE X o2 (nt 0))(h2:Pm K E X a2 t2 g2)
  (hs1:swapsWith a1 (some (.Attribute o1 f1 p1)) q1.line X.env=pure false:=by rfl) (hs2:swapsWith a2 (some (.Attribute o2 f2 p2)) q2.line X.env=pure false:=by rfl) :
  Sj K E X [.Assign [.Attribute o1 f1 p1] a1 q1,.Assign [.Attribute o2 f2 p2] a2 q2] f1 f2 g1 g2:=by
 subst hK;exact⟨t1,t2,BC (HI o1v h1.pe hs1) (Ek (HI o2v h2.pe hs2)),h1.me,h2.me⟩
theorem N4{P:Program}{w:World}{mg:Str->Option Value}{base:Heap}{x qual:Str}{C:Addr}{st:Stmt}{N:List Str}{k n:Nat}{f1 f2:Str}{g1 g2:Pe->M T}(cl:Ba K C)(n1:mZ K C f1)(n2:mZ K C f2)(ne:f1≠f2)(D:mw K C "__init__" qual st)(S:f7 N N (fU st))
  (mk:W.makesIn K C=true) (kp:W.keepIn K (.ref C)=true) (hm:mg x=some (.ref C)) (hN:N.length=n+1)
  (hb:∀(kV doc pm:Value) (an:Option Addr) (cdv ct:Value) (us:List Value),us.length=N.length->bindArgs (W.fnOf "__init__" qual (jQ st) (iP st) (fU st) .none kV doc pm an cdv ct) ⟨us,[]⟩=pure (N.zip us))
  (hT:∀(f:Addr) (cdv:Value) (A:Around) (outer:List Env) (s:Shared) (H:Hp) (E:XK),ju k (A.deeper (envOfC qual (fU st) s.heap.objs.size f cdv))->Sj K E (sC Ay P w K mg base N qual (fU st) f cdv A outer s H E).nox (iP st) f1 f2 g1 g2) :
  Bo P w K mg base x C (k+1) (Gg K C (BD C n f1 f2 g1 g2)):=by
 obtain⟨fi,fd,F,Mm⟩:=D.ex;refine⟨⟨fi,fd,N,F.ok S (λvs H Q E h=>?_) (λcdv A outer s H vs Q E hr h=>?_),⟨mk,Mm.at_,Mm.fn,kp⟩,F.binds hb⟩,hm⟩
 ·obtain⟨x,dx,us,ts,F0,rfl,hx,fx,s,r,q⟩:=h;unfold BD at q;by_cases hl:ts.length=n
  ·rw[ay,r.length,hl,hN]
  ·rw[aQ hl] at q;exact q.elim
 ·obtain⟨x,dx,us,ts,F0,rfl,hx,fx,s0,r,q⟩:=h;obtain⟨t1,t2,ps,m1,m2⟩:=(hT fi cdv A outer s H E hr).ex;refine⟨_,ps,?_⟩;unfold BD at q;by_cases hl:ts.length=n
  ·rw[aP hl] at q;have V:lZ K F0 (mW N (.ref x::us)) (none::ts.map some):=λi t e=>by
    cases i with
    | zero=>cases e
    | succ i=>
     rw[List.getElem?_cons_succ,av] at e;cases hq:ts[i]? with
     | none=>rw[hq] at e;cases e
     | some y=>rw[hq] at e;cases e;obtain⟨v,a,b⟩:=r.get hq;refine⟨v,?_,b⟩;unfold L2.mW;rw[List.getElem?_append_left (by rw[aw,ay];exact Nat.succ_lt_succ (aa.mp a).1),av,List.getElem?_cons_succ,a];rfl
   cases e1:g1 (none::ts.map some) with
   | bad=>rw[e1] at q;exact q.elim
   | er C n=>rw[e1] at q;exact q.elim
   | ok a=>
    rw[e1,L3.M.bind_ok] at q;cases e2:g2 (none::ts.map some) with
    | bad=>rw[e2] at q;exact q.elim
    | er C n=>rw[e2] at q;exact q.elim
    | ok b=>
     rw[e2,L3.M.bind_ok] at q;refine m1 F0 H _ _ _ s0 V ?_;rw[e1];intro v F1 H1 gr1 r1;have hx1:=gr1.hh _ _ hx;have fx1:F1 x=none:=by
      cases z:F1 x with
      | none=>rfl
      | some o=>
       rcases gr1.nw x (by rw[z];exact λy=>nomatch y) with y | y | ⟨_,y⟩
       ·exact absurd fx y
       ·rw[hx] at y;cases y
       ·rw[hx] at y;cases y
     refine⟨.ref x,rfl,x,C,dx,[],rfl,hx1,cl,n1,by show 0<1000;decide,?_⟩;have s1:gU F1 (jx H1 x (.ins C dx (oZ f1 v []))):=λp o h=>by
      have hp:p≠x:=λz=>by rw[z,fx1] at h;cases h
      rw[gA hp];exact gr1.fh p o h
     refine m2 F1 _ _ _ _ s1 (V.mono gr1.ff) ?_;rw[e2];intro v2 F2 H3 gr2 r2;have hx3:=gr2.hh x _ gC;have fx2:F2 x=none:=by
      cases z:F2 x with
      | none=>rfl
      | some o=>
       rcases gr2.nw x (by rw[z];exact λy=>nomatch y) with y | y | ⟨_,y⟩
       ·exact absurd fx1 y
       ·rw[gC] at y;cases y
       ·rw[gC] at y;cases y
     refine⟨.ref x,rfl,x,C,dx,_,rfl,hx3,cl,n2,by show 1<1000;decide,?_⟩;have ep:oZ f2 v2 (oZ f1 v [])=[(f1,v),(f2,v2)]:=by show (if f1=f2 then _ else _)=_;rw[aQ ne];rfl
     have sF:gU F2 (jx F2 x (.ins C dx [(f1,v),(f2,v2)])):=nF fx2;refine (q:kO K F0 H x Q _) (jx F2 x (.ins C dx [(f1,v),(f2,v2)])) _ ((gr1.ff.trans gr2.ff).trans sF) (λp o h=>?_) (λp o hp h=>?_) (λp hp=>?_) (.obj gC (.cons (r1.mono (gr2.ff.trans sF)) (.cons (r2.mono sF) .nil)))
     ·by_cases hp:p=x
      ·subst hp;rw[gC] at h;rw[gC,ep];exact h
      ·rw[gA hp] at h ⊢;exact gr2.fh p o h
     ·rw[gA hp];exact gr2.hh p o (by rw[gA hp];exact gr1.hh p o h)
     ·by_cases hpx:p=x
      ·exact .inr (.inr (.inl hpx))
      ·rw[gA hpx] at hp;rcases gr2.nw p hp with z | z | ⟨xs,z⟩
       ·rcases gr1.nw p z with y | y | y
        ·exact .inl y
        ·exact .inr (.inl y)
        ·exact .inr (.inr (.inr y))
       ·rw[gA hpx] at z;exact .inr (.inl (gP gr1.hh z))
       ·rw[gA hpx] at z;cases y:H p with
        | none=>exact .inr (.inl rfl)
        | some o=>exact .inr (.inr (.inr ⟨xs,by rw[gr1.hh p o y] at z;exact z⟩))
  ·rw[aQ hl] at q;exact q.elim
end
section
variable {X:Cx}{K:W.Frag}{E:XK}{x m:Str}{C:Addr}{k:Nat}{Fn:List T->M T}{Ff:List T->M (List T)}{e o:Expr}{es:List Expr}{tr:TA}{fr:Pe->M (List T)}{ta:TE}{fa:Pe->M T}{p pos apos:Pos}
theorem Ew(h:Bo X.prog X.w X.K X.mg X.base x C k (Gg K C Fn))(hr:ju (k+1) X.A)(ha:B3 K E X (e::es) tr fr)(hg:Gl X x:=by rfl)
  (hdb:(x == ("__debug__" : Str))=false:=by decide) (he:starEach (e::es) X.env=(false,eval e X.env)::starEach es X.env:=by rfl) (hpl:(backTo pos (starEach es X.env)).any (·.1)=false:=by rfl) :
  Pm K E X (.Call (.Name x p) (e::es) [] pos) (EM C (Gg K C Fn) [] E0 tr) (fW fr Fn):=⟨Qm h hr ha.pa hg hdb he hpl,Ka ha.ma⟩
theorem Hy{pl:Sem Bool}(h:lC X.prog X.w X.K X.mg X.base C m k (iE K Fn))(hr:ju k X.A)(ho:Pm K E X o ta fa)
  (ht:eval (.Call (.Attribute o m apos) [] [] pos) X.env=(do
   let ov <-eval o X.env
   standAt apos.atName
   let (f,first) <-holding [ov] (getMethod ov m pl)
   callWith pos f first (backTo pos (starEach [] X.env)) (backToKw pos (keywordEach [] X.env))):=by rfl) :
  Pm K E X (.Call (.Attribute o m apos) [] [] pos) (yO C m (iE K Fn) [] E0 ta uT) (uI C m fa fP Fn):=⟨Iu h hr ho.pe ht,II ho.me DI⟩
theorem NA{pl:Sem Bool}(h:lC X.prog X.w X.K X.mg X.base C m k (uu K Ff))(hr:ju k X.A)(ho:Pm K E X o ta fa)
  (ht:eval (.Call (.Attribute o m apos) [] [] pos) X.env=(do
   let ov <-eval o X.env
   standAt apos.atName
   let (f,first) <-holding [ov] (getMethod ov m pl)
   callWith pos f first (backTo pos (starEach [] X.env)) (backToKw pos (keywordEach [] X.env))):=by rfl) :
  G6 K E X (.Call (.Attribute o m apos) [] [] pos) (yO C m (uu K Ff) [] E0 ta uT) (wa C m fa fP Ff):=⟨Iu h hr ho.pe ht,Hw ho.me DI⟩
theorem CB{f:Str}(hK:X.K=K)(cl:Ba K C)(na:mZ K C f)(h:Pm K E X e ta fa)(hb:attributeBase e f X.env (eval e X.env)=eval e X.env:=by rfl):Pm K E X (.Attribute e f pos) (N1 X.K ta f) (A2 C f fa):=by subst hK;exact⟨N7 h.pe hb,NW cl na h.me⟩
@[simp] noncomputable def JK(f:Pe->M T)(m:T->En->Option En):En->O:=λρ=>O.of (iK f ρ) λt=>match m t ρ with
 | some ρ'=>.nx ρ'
 | none=>.bad
theorem Nd{g:TG}{m:T->En->Option En}{f:Pe->M T}{t:TE}(h:ME K E t f)(hg:LQ K g m):MS K E (o5 t g) (JK f m):=λF0 H0 F H σ ρ D r q=>
 h.inH r q λx v F' H' g' rp r' q'=>by
  cases e:m x ρ with
  | none=>rw[e] at q';exact q'.elim
  | some ρ'=>rw[e] at q';exact hg F0 H0 F' H' σ ρ v x ρ' _ r' rp e λσ' s'=>(q':kN K F0 H0 F' D.nx _) F' H' _ (.refl _) s'
theorem LP{tg:Expr}{g:TG}{m:T->En->Option En}{f:Pe->M T}{t:TE}(he:Pm K E X e t f)(hg:PD K X tg g m)(hs:swapsWithSole [tg] e pos.line X.env=pure false:=by rfl)(hw:swappedStores [tg] e X.env=pure none:=by rfl)
  (h1:(assignEach [tg] X.env).map (·.2)=[assign tg X.env]:=by rfl):ur K E X (.Assign [tg] e pos) (o5 t g) (JK f m):=⟨Ji he.pe hg.pg hs hw h1,Nd he.me hg.mg⟩
theorem OG{f:Pe->M T}{m:T->En->Option En}{ρ ρ':En}{t:T}(h:f (nV ρ)=.ok t)(hm:m t ρ=some ρ'):JK f m ρ=.nx ρ':=by unfold JK iK;rw[h];simp[hm]
end
section
variable {P:Program}{w:World}{K:W.Frag}{mg:Str->Option Value}{base:Heap}{C:Addr}{m qual:Str}{st:Stmt}{N ps:List Str}{k:Nat}{g:En->O}
theorem MH(cl:Ba K C)(D:mw K C m qual st)(S:f7 N ps (fU st))
  (hb:∀(kV doc pm:Value) (an:Option Addr) (cdv ct:Value) (us:List Value),us.length=ps.length->bindArgs (W.fnOf m qual (jQ st) (iP st) (fU st) .none kV doc pm an cdv ct) ⟨us,[]⟩=pure (ps.zip us))
  (hT:∀(f:Addr) (cdv:Value) (A:Around) (outer:List Env) (s:Shared) (H:Hp) (E:XK),ju k (A.deeper (envOfC qual (fU st) s.heap.objs.size f cdv))->∃t,sV K E (sC Ay P w K mg base N qual (fU st) f cdv A outer s H E).nox (iP st) t g) :
  lC P w K mg base C m (k+1) (iE K (lH ps.length N.length g)):=
 EG cl D S hb (λvs H Q E h=>CJ h) λf cdv A outer s H vs Q E hr h=>let ⟨t,hp⟩:=hT f cdv A outer s H E hr;⟨t,hp.ps,zQ hp.ms h⟩
theorem P6(cl:Ba K C)(D:mw K C m qual st)(S:f7 N ps (fU st))
  (hb:∀(kV doc pm:Value) (an:Option Addr) (cdv ct:Value) (us:List Value),us.length=ps.length->bindArgs (W.fnOf m qual (jQ st) (iP st) (fU st) .none kV doc pm an cdv ct) ⟨us,[]⟩=pure (ps.zip us))
  (hT:∀(f:Addr) (cdv:Value) (A:Around) (outer:List Env) (s:Shared) (H:Hp) (E:XK),ju k (A.deeper (envOfC qual (fU st) s.heap.objs.size f cdv))->∃t,sV K E (sC Ay P w K mg base N qual (fU st) f cdv A outer s H E).nox (iP st) t g) :
  lC P w K mg base C m (k+1) (uu K (B5 ps.length N.length g)):=
 EG cl D S hb (λvs H Q E h=>E1 h) λf cdv A outer s H vs Q E hr h=>let ⟨t,hp⟩:=hT f cdv A outer s H E hr;⟨t,hp.ps,BB hp.ms h⟩
end
end L3
namespace L3
open PySem L2 PySem.Spec PyProof.Rows
section
variable {K:W.Frag}{E:XK}{X:Cx}{a tg:Expr}{tr:TA}{fr:Pe->M (List T)}{p p2 pos pos2:Pos}{F:Hp}
theorem OH{l:Addr}{xs:List V}{ts:List T}(hs:k9 K F l xs)(r:gL K F xs ts):ye K (Rz K l xs.length) ts.reverse F where
 go:=λi H s hi=>by rw[cD,<-r.length] at hi;exact⟨hi,xs,_,s.seq hs,rfl,ag (by omega)⟩
 stop:=λH s=>⟨by rw[cD,r.length],xs,s.seq hs⟩
 yld:=λi t F' H x H' s1 s2 e y=>by
  obtain⟨rfl,hx⟩:=y;have e':=hx xs ((s1.trans s2).seq hs);obtain⟨t',e'',rp⟩:=r.at_ e';have hi:i<ts.length:=by simpa using (aa.mp e).1
  rw[List.getElem?_reverse hi,<-r.length] at e;rw[e] at e'';cases e'';exact⟨F',.refl s2,rp.mono s1⟩
@[simp] noncomputable def Fy(fa:Pe->M (List T)):Pe->M (List T):=λρ=>(fa ρ).bind λxs=>match xs with
 | [.lst ts]=>.ok ts.reverse
 | _=>.bad
theorem Pl(ha:MA K E tr fr):MI K E (OO K tr) (Fy fr):=λF H σ ρ R s V q=>by
 refine ha.run s V q λxs ws F1 H1 g1 r1 q1=>?_;cases r1 with
 | nil=>exact q1.elim
 | cons h t=>
  cases t with
  | cons _ _=>cases h<;>exact q1.elim
  | nil=>
   cases h with
   | lst h r=>rename_i l ys us;refine⟨l,ys,rfl,k9.of (g1.fh _ _ h),(q1:kI K F H R _) _ F1 H1 g1 (OH (k9.of h) r)⟩
   | _=>exact q1.elim
theorem Ej(hm:X.mg "reversed" = none)(ha:B3 K E X [a] tr fr)(hK:X.K=K:=by rfl)(hg:Gl X "reversed" :=by rfl)(hs:starEach [a] X.env=[(false,eval a X.env)]:=by rfl):MW K E X tg (.Call (.Name "reversed" p) [a] [] pos) (OO K tr) (Fy fr):=by subst hK;exact⟨Kq hg hm ha.pa hs,Pl ha.ma⟩
@[simp] noncomputable def Q1(fa:Pe->M (List T)):Pe->M (List T):=λρ=>(fa ρ).bind λxs=>match xs with
 | [x]=>(seqT x).bind λts=>.ok (nZ ts)
 | _=>.bad
theorem we:∀{vs:List V} {ts:List T},vs.length=ts.length->(∀(i:Nat) t,ts[i]? = some t->∃v,vs[i]? = some v/\lN K F v t)->gL K F vs ts
 | [],[],_,_=>.nil
 | v::vs,t::ts,hl,h=>by obtain⟨v',e,r⟩:=h 0 t rfl;simp at e;subst e;exact .cons r (we (by simpa using hl) λi t ht=>by simpa using h (i+1) t (by simpa using ht))
theorem PQ(ha:MA K E tr fr):MF K E (RI K tr) (Q1 fr):=λF H σ ρ Q s va q=>by
 classical
 refine ha.run s va q λxs ws F1 H1 g1 r1 q1=>?_;have fin:∀(b:Bool) (l:Addr) (ys:List V) (ts:List T),vm K H1 b l ys->gL K F1 ys ts->kF K F H Q (nZ ts)->∃b' l' ys',[V.ref l]=[.ref l']/\vm K H1 b' l' ys'/\∀(p:Addr) (as:List Addr) (H':Hp),gU H1 H'->H1 p=none->H' p=some (.lst (as.map V.ref))->as.length=ys'.length->
   (∀(i:Nat) (a:Addr),as[i]? = some a->H1 a=none/\a≠p/\∃x,ys'[i]? = some x/\H' a=some (.tup [.int (i:Int),x]))->Q (.ref p) H':=λb l ys ts hq r qk=>by
  refine⟨b,l,ys,rfl,hq,λp as H' sm hp hl hal hg=>?_⟩;let F':Hp:=λc=>if c∈as then H' c else F1 c
  have fin_:∀c,c∈as->F' c=H' c:=λc hc=>aP hc;have fout:∀c,c∉as->F' c=F1 c:=λc hc=>aQ hc;have new:∀c,c∈as->H1 c=none:=λc hc=>by obtain⟨i,hi⟩:=df.mp hc;exact (hg i c hi).1
  have sF:gU F1 F':=λc o e=>by rw[fout c (λhc=>by have:=new c hc;rw[g1.fh c o e] at this;cases this)];exact e
  have pn:p∉as:=λhc=>by obtain⟨i,hi⟩:=df.mp hc;exact (hg i p hi).2.1 rfl
  have gr:Gr F1 H1 F' H':=⟨sF,λc o e=>by
   by_cases hc:c∈as
   ·rw[fin_ c hc] at e;exact e
   ·rw[fout c hc] at e;exact sm c o (g1.fh c o e),sm,λc hc=>by
   by_cases hm:c∈as
   ·exact .inr (.inl (new c hm))
   ·rw[fout c hm] at hc;exact .inl hc⟩
  refine qk p (as.map V.ref) F' H' (g1.trans gr) (gP g1.hh hp) (by rw[fout p pn];exact gP g1.fh hp) hl (we (by simp[nZ,hal,r.length]) λi t ht=>?_);unfold nZ at ht;rw[av,List.getElem?_zipIdx] at ht;cases hi:ts[i]? with
  | none=>rw[hi] at ht;cases ht
  | some u=>
   rw[hi] at ht;simp at ht;have hlt:i<as.length:=by rw[hal,r.length];exact (aa.mp hi).1
   obtain⟨h1,h2,x,e1,e2⟩:=hg i _ (ag hlt);obtain⟨x',e3,rx⟩:=r.get hi;rw[e1] at e3;cases e3;refine⟨.ref as[i],by rw[av,ag hlt];rfl,?_⟩;rw[<-ht];exact .tup (by rw[fin_ _ (aU hlt)];exact e2) (.cons (.int _) (.cons (rx.mono sF) .nil))
 cases r1 with
 | nil=>exact q1.elim
 | cons h t=>
  cases t with
  | cons _ _=>cases h<;>exact q1.elim
  | nil=>
   cases h with
   | lst h r=>exact fin false _ _ _ (k9.of (g1.fh _ _ h)) r q1
   | tup h r=>exact fin true _ _ _ (mB.of (g1.fh _ _ h)) r q1
   | scr h=>exact fin false _ _ _ (g1.fh.seq h) (gL.of_ints _) q1
   | _=>exact q1.elim
theorem Qg(hc:X.calm=true)(hm:X.mg "list" = none)(hm2:X.mg "enumerate" = none)(ha:B3 K E X [a] tr fr)(hK:X.K=K:=by rfl)(hg:Gl X "list" :=by rfl)(hg2:Gl X "enumerate" :=by rfl)(hs:starEach [a] X.env=[(false,eval a X.env)]:=by rfl)
  (he:starEach [Expr.Call (.Name "enumerate" p2) [a] [] pos2] X.env=[(false,eval (.Call (.Name "enumerate" p2) [a] [] pos2) X.env)]:=by rfl) :
  G6 K E X (.Call (.Name "list" p) [.Call (.Name "enumerate" p2) [a] [] pos2] [] pos) (RI K tr) (Q1 fr):=by
 subst hK;exact⟨IU hc hg hm hg2 hm2 ha.pa hs he,PQ ha.ma⟩
end
section
variable {K:W.Frag}{E:XK}{X:Cx}{F0:Fz}{H0 F H:Hp}{σ:L2.St}{ρ:En}{x:Str}{e:Expr}{pos pos' p pd:Pos}
def uU(kvs:List (List Int×T))(k:List Int)(v:T):List (List Int×T):=if (kvs.any λkv=>decide (kv.1=k))=true then kvs.map (λkv=>if kv.1=k then (kv.1,v) else kv) else kvs++[(k,v)]
theorem Al:∀{a b:List Int},a.map (Sum.inl:Int->mE)=b.map Sum.inl->a=b
 | [],[],_=>rfl
 | [],_::_,h=>nomatch h
 | _::_,[],h=>nomatch h
 | x::a,y::b,h=>by simp only[bF,List.cons.injEq] at h;rw[Sum.inl.inj h.1,Al h.2]
theorem DR.put{xs:List (List mE×V)}{kvs:List (List Int×T)}(h:DR K F xs kvs)(k:List Int){v:V}{t:T}(r:lN K F v t):DR K F (tZ xs (k.map Sum.inl) v) (uU kvs k t):=by
 have ha:(xs.any λkv=>decide (kv.1=k.map Sum.inl))=kvs.any λkv=>decide (kv.1=k):=by
  induction h with
  | nil=>rfl
  | cons q _ ih=>
   rename_i x y _ _ _;rw[bV,bV,ih];congr 1;by_cases z:y.1=k
   ·rw[aB z,aB (by rw[q.1,z])]
   ·rw[aA z,aA (λw=>z (Al (by rw[<-q.1,w])))]
 unfold tZ uU;rw[ha];generalize (kvs.any λkv=>decide (kv.1=k))=bb;split
 ·clear ha;unfold DR at h ⊢;induction h with
  | nil=>exact .nil
  | cons q _ ih=>
   rename_i x y _ _ _;refine .cons ?_ ih;dsimp only;by_cases z:y.1=k
   ·rw[aP (by rw[q.1,z]),aP z];exact⟨q.1,r⟩
   ·rw[aQ (λw=>z (Al (by rw[<-q.1,w]))),aQ z];exact q
 ·clear ha;unfold DR at h ⊢;induction h with
  | nil=>exact .cons ⟨rfl,r⟩ .nil
  | cons q _ ih=>exact .cons q ih
@[simp] noncomputable def JT(i:Nat):En->O:=λρ=>.nx (ρ.set i (some (.d [])))
theorem Sr.setD{i:Nat}{p:Addr}(r:Sr K F0 H0 F H σ ρ)(hp:H p=none):Sr K F0 H0 F (jx H p (.dT [])) (σ.set i (some (.ref p))) (ρ.set i (some (.d []))):=by
 have hf:F p=none:=gP r.gr.fh hp;have r1:=r.grow (Gr.new' (o:=.dT []) r.gr.fh hp);obtain⟨ad,h1,h2⟩:=r1.ov;refine⟨r1.gr,by simp[r.len],λj t e=>?_,⟨ad,λj us e=>?_,λj k us ws e e' hjk=>?_⟩,λe he=>?_,λj l' vs' hlt q=>?_,⟨λj kvs e=>?_,λj k kvs kvs' e e' hjk=>?_⟩⟩
 ·rcases gE e with⟨rfl,q⟩ | ⟨hj,q⟩
  ·cases q
  ·obtain⟨w,a,b⟩:=r1.pv j t q;exact⟨w,by rw[aq (λz=>hj z.symm)];exact a,b⟩
 ·rcases gE e with⟨rfl,q⟩ | ⟨hj,q⟩
  ·cases q
  ·obtain⟨a,b⟩:=h1 j us q;exact⟨by rw[aq (λz=>hj z.symm)];exact a,b⟩
 ·rcases gE e with⟨rfl,q⟩ | ⟨hj,q⟩
  ·cases q
  ·rcases gE e' with⟨rfl,q'⟩ | ⟨hk,q'⟩
   ·cases q'
   ·exact h2 j k us ws q q' hjk
 ·have L:=r1.lv e he;refine⟨L.h,L.f,L.z,λj ts q=>?_⟩;rcases gE q with⟨rfl,q1⟩ | ⟨hj,q1⟩
  ·cases q1
  ·rw[aq (λz=>hj z.symm)];exact L.d j ts q1
 ·rcases gE q with⟨rfl,q1⟩ | ⟨hj,q1⟩
  ·cases q1
  ·rw[aq (λz=>hj z.symm)];exact r.sl j l' vs' hlt q1
 ·have hln:j<ρ.length:=by simpa using (aa.mp e).1
  rcases gE e with⟨rfl,q⟩ | ⟨hj,q⟩
  ·cases q;exact⟨p,qN (by rw[r.len];exact hln),hf,gP r.gr.hh hp,[],gC,.nil⟩
  ·obtain⟨a,e1,rr⟩:=r1.dv.at_ j kvs q;exact⟨a,by rw[aq (λz=>hj z.symm)];exact e1,rr⟩
 ·have old:∀(m:Nat) kvs,ρ[m]? = some (some (.d kvs))->σ[m]?≠some (some (.ref p)):=λm kvs q w=>by
   obtain⟨a,e1,_,_,xs,e4,_⟩:=r.dv.at_ m kvs q;rw[e1] at w;have:a=p:=by simpa using w
   rw[this,hp] at e4;cases e4
  have hln:∀{m:Nat} {z},(ρ.set i (some (W.d [])))[m]? = some z->m<σ.length:=λ{m z} q=>by rw[r.len];simpa using (aa.mp q).1
  rcases gE e with⟨rfl,q⟩ | ⟨hj,q⟩
  ·rcases gE e' with⟨rfl,q'⟩ | ⟨hk,q'⟩
   ·exact absurd rfl hjk
   ·rw[qN (hln e),aq (λz=>hk z.symm)];exact λw=>old k kvs' q' w.symm
  ·rcases gE e' with⟨rfl,q'⟩ | ⟨hk,q'⟩
   ·rw[qN (hln e'),aq (λz=>hj z.symm)];exact old j kvs q
   ·rw[aq (λz=>hj z.symm),aq (λz=>hk z.symm)];exact r.dv.dj j k kvs kvs' q q' hjk
theorem K5{i:Nat}:MS K E (o5 CH (kK i)) (JT i):=λF0 H0 F H σ ρ D r q p hp=>(q:kN K F0 H0 F D.nx _) F _ _ (.refl _) (r.setD hp)
theorem JD(i:Nat)(hN:X.N.Nodup)(hx:G8 X.env.scope x)(hi:X.N[i]? = some x:=by rfl)(hs:swapsWith (.Dict [] [] pd) (some (.Name x pos')) pos.line X.env=pure false:=by rfl)(hf:X.fn x=true\/X.env.scope.names.lookup x=some .local:=by first | exact .inl rfl | exact .inr rfl | assumption) :
  ur K E X (.Assign [.Name x pos'] (.Dict [] [] pd) pos) (o5 CH (kK i)) (JT i):=⟨zX hN hi hx Jb hs hf,K5⟩
@[simp] noncomputable def ud(ρ:En)(i:Nat):M (List (List Int×T)):=match ρ[i]? with
 | some (some (.d kvs))=>.ok kvs
 | _=>.bad
theorem GJ{i:Nat}{kvs:List (List Int×T)}(h:ud ρ i=.ok kvs):ρ[i]? = some (some (.d kvs)):=by
 unfold ud at h;split at h
 ·rename_i ts' e;cases h;exact e
 ·cases h
noncomputable def Qy(ρ:En)(i:Nat)(kvs:List (List Int×T))(t:T):T->O
 | .tup ks=>match kC ks with
  | some ns=>if kvs.length<sizeLine then .nx (ρ.set i (some (.d (uU kvs ns t)))) else .bad
  | none=>.bad
 | _=>.bad
@[simp] noncomputable def wz(i:Nat)(fk f:En->M T):En->O:=λρ=>.of (ud ρ i) λkvs=>.of (f ρ) λt=>.of (fk ρ) λk=>Qy ρ i kvs t k
theorem Sr.changeD{i:Nat}{kvs kvs':List (List Int×T)}{a:Addr}{xs ys:List (List mE×V)}(r:Sr K F0 H0 F H σ ρ)(e:ρ[i]? = some (some (.d kvs)))(ea:σ[i]? = some (some (.ref a)))(fa:F a=none)(za:H0 a=none)(ha:H a=some (.dT xs))(hy:DR K F ys kvs'):Sr K F0 H0 F (jx H a (.dT ys)) σ (ρ.set i (some (.d kvs'))):=by
 obtain⟨ad,h1,h2⟩:=r.ov;refine⟨⟨r.gr.ff,λp u q=>?_,λp u q=>?_,r.gr.nw⟩,by simp[r.len],λj t q=>?_,⟨ad,λj ss q=>?_,λj k ss ss' q q' hjk=>?_⟩,λe' he=>?_,λj l' vs' hlt q=>?_,⟨λj kv q=>?_,λj k kv kv' q q' hjk=>?_⟩⟩
 ·rw[gA (hC q fa)];exact r.gr.fh p u q
 ·rw[gA (hC q za)];exact r.gr.hh p u q
 ·rcases gE q with⟨rfl,q1⟩ | ⟨hj,q1⟩
  ·cases q1
  ·exact r.pv j t q1
 ·rcases gE q with⟨rfl,q1⟩ | ⟨hj,q1⟩
  ·cases q1
  ·obtain⟨a',b',c',vs',d',z'⟩:=h1 j ss q1;exact⟨a',b',c',vs',by rw[gA (λz=>by rw[z,ha] at d';cases d')];exact d',z'⟩
 ·rcases gE q with⟨rfl,q1⟩ | ⟨hj,q1⟩
  ·cases q1
  ·rcases gE q' with⟨rfl,q2⟩ | ⟨hk,q2⟩
   ·cases q2
   ·exact h2 j k ss ss' q1 q2 hjk
 ·have L:=r.lv e' he;have hne:e'.2.1≠a:=λw=>by have:=L.h;rw[w,ha] at this;cases this
  refine⟨by rw[gA hne];exact L.h,L.f,L.z,λj ss q=>?_⟩;rcases gE q with⟨rfl,q1⟩ | ⟨hj,q1⟩
  ·cases q1
  ·exact L.d j ss q1
 ·rcases gE q with⟨rfl,q1⟩ | ⟨hj,q1⟩
  ·cases q1
  ·exact r.sl j l' vs' hlt q1
 ·rcases gE q with⟨rfl,q1⟩ | ⟨hj,q1⟩
  ·cases q1;exact⟨a,ea,fa,za,ys,gC,hy⟩
  ·obtain⟨b,e1,e2,e3,zs,e4,e5⟩:=r.dv.at_ j kv q1;have:b≠a:=λz=>r.dv.dj j i kv kvs q1 e hj (by rw[e1,ea,z]);exact⟨b,e1,e2,e3,zs,by rw[gA this];exact e4,e5⟩
 ·rcases gE q with⟨rfl,q1⟩ | ⟨hj,q1⟩
  ·rcases gE q' with⟨rfl,q2⟩ | ⟨hk,q2⟩
   ·exact absurd rfl hjk
   ·exact r.dv.dj j k kvs kv' e q2 hjk
  ·rcases gE q' with⟨rfl,q2⟩ | ⟨hk,q2⟩
   ·exact r.dv.dj j k kv kvs q1 e hjk
   ·exact r.dv.dj j k kv kv' q1 q2 hjk
theorem KG{i:Nat}{tk t:TE}{fk f:Pe->M T}(h:ME K E t f)(hk:ME K E tk fk):MS K E (Ig (nt i) tk t) (wz i (m8 fk) (m8 f)):=λF0 H0 F H σ ρ D r q=>by
 unfold wz at q;cases e:ud ρ i with
 | bad=>rw[e] at q;exact q.elim
 | er C n=>unfold ud at e;split at e<;>cases e
 | ok kvs=>
  rw[e] at q;have e':=GJ e;obtain⟨a,ea,_⟩:=r.dv.at_ i kvs e';refine h.inB r q λx v F' H' g rp r' q'=>⟨_,ea,?_⟩;refine hk.inB r' q' λy w F2 H2 g2 rw_ r2 q2=>?_;obtain⟨a2,ea2,fa,za,xs,hx,dr⟩:=r2.dv.at_ i kvs e';rw[ea] at ea2;have:a=a2:=by simpa using ea2
  subst this;cases rw_ with
  | tup h rs=>
   rename_i b vs ts;have q3:(match kC ts with
    | some ns=>if kvs.length<sizeLine then O.nx (ρ.set i (some (.d (uU kvs ns x)))) else .bad
    | none=>.bad).res K E F0 H0 F2 D:=q2
   cases hi:kC ts with
   | none=>rw[hi] at q3;exact q3.elim
   | some ns=>
    rw[hi] at q3;dsimp only at q3;by_cases hl:kvs.length<sizeLine
    ·rw[aP hl] at q3;have et:=rK hi;rw[et] at rs;have ev:=rs.ints;have eb:H2 b=some (.tup ((ns.map (Sum.inl:Int->mE)).map L2.kV)):=by rw[aH,g2.fh _ _ h,ev];rfl
     refine⟨a,_,rfl,Jp.t hx eb (by rw[Paired.length dr];exact hl),?_⟩;exact (q3:kN K F0 H0 F2 D.nx _) F2 _ _ (.refl _) (r2.changeD e' ea fa za hx (dr.put ns (rp.mono g2.ff)))
    ·rw[aQ hl] at q3;exact q3.elim
  | _=>exact q2.elim
theorem Bp{k:Nat}{v i_:Expr}{tk t:TE}{fk f:Pe->M T}(i:Nat)(hr:ju k X.A)(ho:PE X (.Name x p) (nt i))(hk:Pm K E X i_ tk fk)(hv:Pm K E X v t f)(hs:swapsWith v (some (.Subscript (.Name x p) i_ pos')) pos.line X.env=pure false:=by rfl) :
  ur K E X (.Assign [.Subscript (.Name x p) i_ pos'] v pos) (Ig (nt i) tk t) (wz i (m8 fk) (m8 f)):=⟨Kk (QI hr) ho hk.pe hv.pe hs,KG hv.me hk.me⟩
@[simp] noncomputable def sR(i:Nat):En->O:=λρ=>match ρ[i]? with
 | some (some (.d kvs))=>.rf (kvs.map λkv=>tI kv.1)
 | _=>.bad
def MJ:List V->Hp->VK->Prop:=λxs H Q=>∃a kvs,xs=[.ref a]/\H a=some (.dT kvs)/\∀(l:Addr) (bs:List Addr),H l=none->bs.length=kvs.length->
  (∀(i:Nat) (b:Addr),bs[i]? = some b->∃k v,kvs[i]? = some (k,v)/\H b=some (.tup (k.map L2.kV)))->Q (.ref l) (jx H l (.lst (bs.map V.ref)))
theorem CS{i:Nat}:MS K E (AD (IB MJ (rk (nt i) uT))) (sR i):=λF0 H0 F H σ ρ D r q=>by
 classical
 unfold sR at q;split at q
 ·rename_i kvs e;obtain⟨a,ea,fa,za,xs,hx,dr⟩:=r.dv.at_ i kvs e;refine⟨_,ea,a,xs,rfl,hx,λl bs hl hbl hb=>?_⟩;let F':Hp:=λc=>if c∈bs then H c else F c
  have fin_:∀c,c∈bs->F' c=H c:=λc hc=>aP hc;have fout:∀c,c∉bs->F' c=F c:=λc hc=>aQ hc;have tp:∀c,c∈bs->∃ys,H c=some (.tup ys):=λc hc=>by obtain⟨j,hj⟩:=df.mp hc;obtain⟨k,v,_,h⟩:=hb j c hj;exact⟨_,h⟩
  have sF:gU F F':=λc o h=>by
   by_cases hc:c∈bs
   ·rw[fin_ c hc];exact r.gr.fh c o h
   ·rw[fout c hc];exact h
  have ln:l∉bs:=λhc=>by obtain⟨ys,h⟩:=tp l hc;rw[hl] at h;cases h
  have sH:gU H (jx H l (.lst (bs.map V.ref))):=nF hl;refine (q:kF K F0.hp H0 D.rt _) l (bs.map V.ref) F' _ ⟨r.gr.ff.trans sF,λc o h=>?_,r.gr.hh.trans sH,λc hc=>?_⟩ (gP r.gr.hh hl) (by rw[fout l ln];exact gP r.gr.fh hl) gC (we (by simp[hbl,Paired.length dr]) λj t ht=>?_)
  ·by_cases hc:c∈bs
   ·rw[fin_ c hc] at h;exact sH c o h
   ·rw[fout c hc] at h;exact sH c o (r.gr.fh c o h)
  ·by_cases hm:c∈bs
   ·obtain⟨ys,h⟩:=tp c hm;cases z:H0 c with
    | none=>exact .inr (.inl rfl)
    | some o=>exact .inr (.inr ⟨ys,by rw[r.gr.hh c o z] at h;exact h⟩)
   ·rw[fout c hm] at hc;exact r.gr.nw c hc
  ·rw[av] at ht;cases hk:kvs[j]? with
   | none=>rw[hk] at ht;cases ht
   | some kv=>
    rw[hk] at ht;have ht':tI kv.1=t:=by simpa using ht
    have hlt:j<bs.length:=by rw[hbl,Paired.length dr];exact (aa.mp hk).1
    obtain⟨k,v,e1,e2⟩:=hb j _ (ag hlt);obtain⟨kv',e3,e4,_⟩:=tY dr e1;rw[hk] at e3;cases e3;refine⟨.ref bs[j],by rw[av,ag hlt];rfl,?_⟩;rw[<-ht'];have e5:k=kv.1.map Sum.inl:=e4;rw[e5,aH] at e2;exact .tup (xs:=kv.1.map V.int) (by rw[fin_ _ (aU hlt)];exact e2) (gL.of_ints _)
 ·exact q.elim
theorem Hm(i:Nat)(hc:X.calm=true)(hm:X.mg "list" = none)(ho:PE X (.Name x p) (nt i)){p1 pos1:Pos}(hg:Gl X "list" :=by rfl)(hs:starEach [Expr.Name x p] X.env=[(false,eval (.Name x p) X.env)]:=by rfl) :
  ur K E X (.Return (some (.Call (.Name "list" p1) [.Name x p] [] pos1)) pos) (AD (IB MJ (rk (nt i) uT))) (sR i):=
 ⟨AX (tU (DJ hc) hg hm nk (pH ho uh hs) (by decide) (by decide) hs rfl),CS⟩
end
section
variable {K:W.Frag}{E:XK}{X:Cx}{t:TE}
@[simp] noncomputable def yH(i:Nat)(f:En->M (List T)):En->O:=λρ=>.of (mL ρ i) λts=>.of (f ρ) λus=>if ts.length<sizeLine then .nx (ρ.set i (some (.o (ts++[.lst us])))) else .bad
theorem Ja{i:Nat}{f:Pe->M (List T)}(ht:∀l xs H,H l=some (.lst xs)->PL K "list" (.ref l) H)(h:MF K E t f):MS K E (sN (FR K i t)) (yH i (vO f)):=λF0 H0 F H σ ρ D r q=>by
 unfold yH at q;cases e:mL ρ i with
 | bad=>rw[e] at q;exact q.elim
 | er C n=>unfold mL at e;split at e<;>cases e
 | ok ts=>rw[e] at q;have e':=rR e;obtain⟨ad,h1,_⟩:=r.ov;obtain⟨a,_,_,vs,d,_⟩:=h1 i ts e';refine⟨_,a,ht _ _ _ d,?_⟩;refine h.inB r q λus l ws F' H' g hl hf hv hr q'=>?_;have g':Gr F H (jx F' l (.lst ws)) H':=g.take hv hf hl;obtain⟨l',a',q''⟩:=wu (E:=E) (D:=D) (r.grow g') e' (x:=.lst us) (v:=.ref l) (.lst gC (hr.mono (mx hf))) (q'.go (mx hf));rw[a] at a';cases a';exact q''
variable {e:Expr}{te:TE}{ff:Pe->M (List T)}{p apos pos pos':Pos}
theorem Gh(i:Nat){x:Str}(hv:PE X (.Name x p) (nt i))(ha:G6 K E X e te ff)(hs:starEach [e] X.env=(false,eval e X.env)::starEach [] X.env:=by rfl)(hK:X.K=K:=by rfl)
  (hbase:attributeBase (.Name x p) "append" X.env (eval (.Name x p) X.env)=eval (.Name x p) X.env:=by rfl)
  (hfew:((backTo pos (starEach [e] X.env)).all (λx=>!x.1)&&(backToKw pos (keywordEach [] X.env)).all (λx=>x.1.isSome)&&decide (([e]:List Expr).length+([]:List Keyword).length+(if ([]:List Keyword).isEmpty then 0 else 1)<30))=true:=by rfl)
  (hline:(apos.endLine == pos.line)=true:=by rfl) (hplain:(backTo pos (starEach [] X.env)).any (·.1)=false:=by rfl) (hsw:swapsWith (.Call (.Attribute (.Name x p) "append" apos) [e] [] pos) none pos'.line X.env=pure false:=by rfl) :
  ur K E X (.Expr (.Call (.Attribute (.Name x p) "append" apos) [e] [] pos) pos') (sN (FR K i te)) (yH i (vO ff)):=by
 subst hK;exact⟨vK (IW PySem.F.plainAttrs_list PySem.F.slot_list_append PySem.F.type_list_append ua hv (pH ha.pe uh hs) hbase hfew hline hs hplain) hsw,Ja (λl xs H h=>Da h) ha.mf⟩
end
end L3
namespace L3
open PySem L2 PySem.Spec PyProof.Rows
theorem gL.reverse{K:W.Frag}{F:Hp}:∀{vs:List V} {ts:List T},gL K F vs ts->gL K F vs.reverse ts.reverse
 | _,_,.nil=>.nil
 | _,_,.cons q r=>by rw[bW,bW];exact (gL.reverse r).append (.cons q .nil)
@[simp] noncomputable def Pz:T->T->M T
 | .tup ts,.int i=>if i = -1 then .ok (.tup ts.reverse) else .bad
 | .lst ts,.int i=>if i = -1 then .ok (.lst ts.reverse) else .bad
 | _,_=>.bad
section
variable {K:W.Frag}{E:XK}{X:Cx}{e st:Expr}{te ts:TE}{fe fs:Pe->M T}{p2 pos:Pos}
theorem Kb(he:Pm K E X e te fe)(hs:Pm K E X st ts fs)(hK:X.K=K:=by rfl):Pm K E X (.Subscript e (.Slice none none (some st) p2) pos) (R5 K te ts) (fX Pz fe fs):=by
 subst hK;refine⟨OD he.pe hs.pe,λF H σ ρ Q s V q=>?_⟩;refine he.me.run s V q λx v F1 H1 g1 r1 q1=>?_;refine hs.me.run (P:=kV X.K F H Q) g1.fh (V.mono g1.ff) q1 λy v2 F2 H2 g2 r2 q2=>?_;have g:=g1.trans g2;have r3:=r1.mono g2.ff;cases r2 with
 | int=>
  rename_i i;cases r3 with
  | lst h r=>
   have q':(if i = -1 then M.ok (T.lst _) else .bad).res (kV X.K F H Q) (kE E F2 H2):=q2;by_cases hi:i = -1
   ·rw[aP hi] at q';subst hi;exact⟨_,rfl,rfl,.inl ⟨_,_,rfl,k9.of (g2.fh _ _ h),λp hp=>(q':kV X.K F H Q _) (.ref p) _ _ (g.trans (.new g2.fh hp)) (.lst gC (r.reverse.mono (Gr.new g2.fh hp).ff))⟩⟩
   ·rw[aQ hi] at q';exact q'.elim
  | tup h r=>
   have q':(if i = -1 then M.ok (T.tup _) else .bad).res (kV X.K F H Q) (kE E F2 H2):=q2;by_cases hi:i = -1
   ·rw[aP hi] at q';subst hi;exact⟨_,rfl,rfl,.inr ⟨_,_,rfl,mB.of (g2.fh _ _ h),λp hp=>(q':kV X.K F H Q _) (.ref p) _ _ (g.trans (.new g2.fh hp)) (.tup gC (r.reverse.mono (Gr.new g2.fh hp).ff))⟩⟩
   ·rw[aQ hi] at q';exact q'.elim
  | _=>exact q2.elim
 | _=>cases r3<;>exact q2.elim
end
end L3
namespace CL
open PySem L2 L3
structure Cs where
 Cutting:Addr
 Desk:Addr
 CutError:Addr
 NoCutting:Addr
 NoTable:Addr
 NoFraction:Addr
 NoSpot:Addr
 NoSigns:Addr
 NoLand:Addr
 NoFace:Addr
 NoNumber:Addr
 NoText:Addr
 NoDeed:Addr
def sv(c:Cs):En->O:=(f9 (setO 2 (iK (fX tW (fL 0) (fL 1))))
  (f9 (setO 0 (iK (fL 1)))
  (setO 1 (iK (fL 2)))))
def tP(c:Cs):En->O:=(f9 (λρ=>mj (gO (fX (gD true) (fL 1) (cM (.int 0)))) (sv c) ((λρ=>match ρ with | _::some (.p (.int j))::_=>j.natAbs+1 | _=>0) ρ) ρ)
  (hU (jq BR (fK (fL 0) fP))))
def iZ(c:Cs):List T->M T:=lH 2 3 (tP c)
def NQ(c:Cs):En->O:=(f9 (kg (gO (fX (gD false) (fL 1) (cM (.int 0)))) (λ_=>.bad) gQ)
  (f9 (setO 2 (iK (fW (fK (fL 0) (fK (fL 1) fP)) (iZ c))))
  (f9 (kg (gO (fX Cq (fL 1) (cM (.int 0)))) (setO 2 (iK (uG (λi=>.int (-i)) (fL 2)))) gQ)
  (hU (jO (fK (fX oJ (fL 0) (fL 2)) (fK (fX oJ (fL 1) (fL 2)) fP)))))))
def pR(c:Cs):List T->M T:=lH 2 3 (NQ c)
def Of(c:Cs):En->O:=(f9 (kg (gO (fX (gD false) (fX gX (fL 1) (cM (.int 0))) (cM (.int 0)))) (λ_=>.bad) gQ)
  (hU (fW (fK (fX iJ (fX gX (fL 0) (cM (.int 0))) (fX gX (fL 1) (cM (.int 1)))) (fK (fX iJ (fX gX (fL 0) (cM (.int 1))) (fX gX (fL 1) (cM (.int 0)))) fP)) (pR c))))
def rN(c:Cs):List T->M T:=lH 2 2 (Of c)
def n6(c:Cs):En->O:=(f9 (kg (gO (fX Cq (fL 1) (jq jy (fK (fL 0) fP)))) (hU (fX gX (fL 0) (fL 1))) gQ)
  (hU (cM (.int 0))))
def ij(c:Cs):List T->M T:=lH 2 2 (n6 c)
def BF(c:Cs):En->O:=(hU (v9 (oq "int" (fL 0)) (FC (oq "bool" (fL 0)))))
def jj(c:Cs):List T->M T:=lH 1 1 (BF c)
def xJ(c:Cs):En->O:=(Mr 0 1 (fK (fL 1) (fK (fX tW (fL 0) (fL 1)) fP)))
def AA(c:Cs):En->O:=(f9 (setO 0 (iK (jq BR (fK (fL 0) fP))))
  (f9 (setO 1 (iK (jq BR (fK (fL 1) fP))))
  (f9 (λρ=>mj (gO (fX A3 (fL 1) (cM (.int 0)))) (xJ c) ((λρ=>match ρ with | _::some (.p (.int j))::_=>j.natAbs+1 | _=>0) ρ) ρ)
  (hU (fL 0)))))
def jU(c:Cs):List T->M T:=lH 2 2 (AA c)
def rZ(c:Cs):En->O:=(f9 (kg (qg (kh (gO (oq "tuple" (fL 0)))) (qg (gO (fX (gD true) (jq jy (fK (fL 0) fP)) (cM (.int 2)))) (qg (kh (gO (fW (fK (fX gX (fL 0) (cM (.int 0))) fP) (jj c)))) (kh (gO (fW (fK (fX gX (fL 0) (cM (.int 1))) fP) (jj c))))))) (hU (cM (.bl false))) gQ)
  (hU (v9 (fX A3 (fX gX (fL 0) (cM (.int 1))) (cM (.int 0))) (fX (gD false) (fW (fK (fX gX (fL 0) (cM (.int 0))) (fK (fX gX (fL 0) (cM (.int 1))) fP)) (jU c)) (cM (.int 1))))))
def kb(c:Cs):List T->M T:=lH 1 1 (rZ c)
def Mp(c:Cs):En->O:=(hU (fW (fK (fX sU (fX iJ (fX gX (fL 0) (cM (.int 0))) (fX gX (fL 1) (cM (.int 1)))) (fX iJ (fX gX (fL 1) (cM (.int 0))) (fX gX (fL 0) (cM (.int 1))))) (fK (fX iJ (fX gX (fL 0) (cM (.int 1))) (fX gX (fL 1) (cM (.int 1)))) fP)) (pR c)))
def vH(c:Cs):List T->M T:=lH 2 2 (Mp c)
def Kw(c:Cs):En->O:=(hU (fW (fK (fX iJ (fX gX (fL 0) (cM (.int 0))) (fX gX (fL 1) (cM (.int 0)))) (fK (fX iJ (fX gX (fL 0) (cM (.int 1))) (fX gX (fL 1) (cM (.int 1)))) fP)) (pR c)))
def vz(c:Cs):List T->M T:=lH 2 2 (Kw c)
def Oj(c:Cs):En->O:=(hU (fX Cq (fX iJ (fX gX (fL 0) (cM (.int 0))) (fX gX (fL 1) (cM (.int 1)))) (fX iJ (fX gX (fL 1) (cM (.int 0))) (fX gX (fL 0) (cM (.int 1))))))
def kH(c:Cs):List T->M T:=lH 2 2 (Oj c)
def Ab(c:Cs):En->O:=(f9 (setO 2 (iK (fW (fK (fL 0) (fK (fL 1) fP)) (jU c))))
  (hU (jO (fK (fX oJ (fL 0) (fL 2)) (fK (fX oJ (fL 1) (fL 2)) fP)))))
def nu(c:Cs):List T->M T:=lH 2 3 (Ab c)
def CI(c:Cs):En->O:=(hU (fX oJ (fX gX (fL 0) (cM (.int 0))) (fX gX (fL 0) (cM (.int 1)))))
def lE(c:Cs):List T->M T:=lH 1 1 (CI c)
def AG(c:Cs):En->O:=(hU (uG (λi=>.int (-i)) (fX oJ (uG (λi=>.int (-i)) (fX gX (fL 0) (cM (.int 0)))) (fX gX (fL 0) (cM (.int 1))))))
def kS(c:Cs):List T->M T:=lH 1 1 (AG c)
def CF(c:Cs):En->O:=(hU (v9 (oq "int" (fL 0)) (FC (oq "bool" (fL 0)))))
def jH(c:Cs):List T->M T:=lH 1 1 (CF c)
def FB(c:Cs):En->O:=(f9 (kg (gO (fX A3 (fL 0) (cM (.int 0)))) (hU (cM (.int 1))) gQ)
  (f9 (kg (gO (fX Cq (fL 0) (cM (.int 0)))) (hU (uG (λi=>.int (-i)) (cM (.int 1)))) gQ)
  (hU (cM (.int 0)))))
def nC(c:Cs):List T->M T:=lH 1 1 (FB c)
def Gx(c:Cs):En->O:=(hU (v9 (fW (fK (fL 0) fP) (jH c)) (Rj Hk Hk (cM (.int 1)) (fL 0) (cM (.int 3)))))
def oA(c:Cs):List T->M T:=lH 1 1 (Gx c)
def t5(c:Cs):Pe->M T:=(fW (fK (fL 0) fP) (jH c))
def sY(c:Cs):Pe->M T:=(fX (gD true) (fL 0) (cM (.int 0)))
def Hc(c:Cs):En->O:=(f9 (kg (qg (kh (gO (oq "tuple" (fL 1)))) (gO (fX (gD true) (jq jy (fK (fL 1) fP)) (fX iV (fL 0) (cM (.int 1)))))) (hU (cM (.bl false))) gQ)
  (f9 (kg (kh (gO (jq AS (fK (iO (jJ [none] (ig (fL 1)) (jo 0) (λ_=>.ok true) (t5 c))) fP)))) (hU (cM (.bl false))) gQ)
  (hU (jq C5 (fK (iO (jJ [none] (ig (oP (fL 1) (λ_=>.ok none) (lb (fL 0)))) (jo 0) (λ_=>.ok true) (sY c))) fP)))))
def qu(c:Cs):List T->M T:=lH 2 2 (Hc c)
def qq(c:Cs):En->O:=(setO 1 (iK (fX iV (fL 1) (cM (.int 1)))))
def xV(c:Cs):En->O:=(f9 (setO 1 (iK (cM (.int 0))))
  (f9 (λρ=>mj (gO (fX (gD false) (fX gX (fL 0) (fL 1)) (cM (.int 0)))) (qq c) ((λρ=>match ρ with | some (.p (.tup ts))::_=>ts.length+1 | _=>0) ρ) ρ)
  (hU (fL 1))))
def mI(c:Cs):List T->M T:=lH 1 2 (xV c)
def qV(c:Cs):Pe->M T:=(fX (gD false) (fX iJ (fL 0) (fX gX (fL 2) (fL 3))) (fX iJ (fL 1) (fX gX (fL 4) (fL 3))))
def zP(c:Cs):En->O:=(f9 (setO 2 (iK (fW (fK (fL 0) fP) (mI c))))
  (hU (jq AS (fK (iO (jJ [none,none,some 1,some 2,some 0] (mX (fK (fL 0) (fK (fL 1) fP))) (o4 2 (i8 (jo 0) (i8 (jo 1) o7))) (λ_=>.ok true) (qV c))) fP))))
def nv(c:Cs):List T->M T:=lH 2 3 (zP c)
def oU(c:Cs):Pe->M T:=(fW (fK (fL 0) (fK (fL 1) fP)) (nv c))
def Bw(c:Cs):En->O:=(f9 (kg (qg (gO (fX M5 (jq jy (fK (fL 1) fP)) (cM (.int 7)))) (kh (gO (fW (fK (fL 0) (fK (fL 2) fP)) (qu c))))) (hU (cM (.bl false))) gQ)
  (hU (FC (jq C5 (fK (iO (jJ [none,some 2] (ig (fL 1)) (jo 0) (λ_=>.ok true) (oU c))) fP)))))
def mU(c:Cs):List T->M T:=lH 3 3 (Bw c)
def pL(c:Cs):En->O:=(f9 (kg (kh (gO (fW (fK (fL 0) (fK (fL 2) (fK (fL 3) fP))) (mU c)))) (λ_=>.bad) gQ)
  (pC 2 (iK (jq i9 (fK (fL 3) fP)))))
def wW(c:Cs):En->O:=(f9 (kg (qg (kh (gO (fW (fK (fL 0) fP) (oA c)))) (kh (gO (oq "list" (fL 1))))) (λ_=>.bad) gQ)
  (f9 (mV 2 (nU (lstM fP)))
  (f9 (mM (ig (fL 1)) (jF 3) (pL c))
  (hU (jq i9 (fK (fL 2) fP))))))
def ku(c:Cs):List T->M T:=lH 2 4 (wW c)
def jc(c:Cs):List T->M T:=BD c.Cutting 2 "own_cuts" "own_dims" (fW (fK (fL 1) (fK (fL 2) fP)) (ku c)) (fL 1)
def xi(c:Cs):En->O:=(hU (A2 c.Cutting "own_dims" (fL 0)))
def kG(c:Cs):List T->M T:=lH 1 1 (xi c)
def wA(c:Cs):En->O:=(vR (Fi m7 (fK (A2 c.Cutting "own_cuts" (fL 0)) fP)))
def ky(c:Cs):List T->M (List T):=B5 1 1 (wA c)
def wD(c:Cs):En->O:=(hU (jq jy (fK (A2 c.Cutting "own_cuts" (fL 0)) fP)))
def ko(c:Cs):List T->M T:=lH 1 1 (wD c)
def BO(c:Cs):En->O:=(setO 3 (iK (fX oJ (fL 3) (fL 2))))
def DK(c:Cs):En->O:=(f9 (kg (gO (fX M5 (fL 0) (fX rS (cM (.int 10)) (cM (.int 18))))) (f9 (setO 3 (iK (fL 0)))
  (f9 (qc (lK (fK (fL 1) fP)) (jF 4) (BO c))
  (hU (fX tW (fL 3) (fL 2))))) gQ)
  (f9 (setO 5 (iK (fX tW (fX iJ (fX iV (fX iV (fX tW (fL 0) (cM (.int 1000000007))) (fX iJ (cM (.int 1009)) (fL 1))) (cM (.int 17))) (cM (.int 69621))) (cM (.int 2147483647)))))
  (f9 (setO 5 (iK (fX tW (fX iV (fX iV (fX iJ (fL 5) (fL 5)) (fX iJ (cM (.int 40503)) (fL 1))) (cM (.int 5))) (cM (.int 2147483629)))))
  (hU (fX tW (fX oJ (fX tW (fX iJ (fL 5) (cM (.int 48271))) (cM (.int 2147483647))) (cM (.int 32))) (fL 2))))))
def gz(c:Cs):List T->M T:=lH 3 6 (DK c)
def uy(c:Cs):En->O:=(kg (gO (fX (gD true) (fX iJ (fX gX (fL 0) (fL 2)) (fX gX (fL 1) (fL 3))) (fX iJ (fX gX (fL 0) (fL 3)) (fX gX (fL 1) (fL 2))))) (hU (cM (.bl false))) gQ)
def uD(c:Cs):En->O:=(qc (lK (fK (fL 2) fP)) (jF 3) (uy c))
def DO(c:Cs):En->O:=(f9 (qc (lK (fK (jq jy (fK (fL 0) fP)) fP)) (jF 2) (uD c))
  (hU (cM (.bl true))))
def lG(c:Cs):List T->M T:=lH 2 4 (DO c)
def wV(c:Cs):Pe->M T:=(fX sU (fW (fK (fL 1) (fK (fL 0) (fK (cM (.int 7)) fP))) (gz c)) (cM (.int 3)))
def wU(c:Cs):Pe->M T:=(fX iJ (fL 0) (fL 1))
def wQ(c:Cs):Pe->M T:=(fX iJ (fL 0) (fL 1))
def zb(c:Cs):En->O:=(f9 (mV 3 (nU (jJ [none,some 0] (lK (fK (fL 1) fP)) (jo 0) (λ_=>.ok true) (wV c))))
  (f9 (kg (gO (fX (gD false) (fL 3) (iO (uS (iO (lstM (fK (cM (.int 0)) fP))) (fL 1))))) (uM 3 (m8 (fW (fK (fL 0) (fK (cM (.int 4)) (fK (fL 1) fP))) (gz c))) (m8 (fX iV (cM (.int 1)) (fW (fK (fL 0) (fK (cM (.int 5)) (fK (cM (.int 3)) fP))) (gz c))))) gQ)
  (f9 (setO 4 (iK (fX sU (fW (fK (fL 0) (fK (cM (.int 6)) (fK (cM (.int 9)) fP))) (gz c)) (cM (.int 4)))))
  (f9 (setO 5 (iK (fW (fK (fL 0) (fK (cM (.int 7)) (fK (cM (.int 7)) fP))) (gz c))))
  (f9 (kg (kf (gO (fX (gD false) (fL 5) (cM (.int 1)))) (gO (fX (gD true) (fL 2) (iO (lstM fP))))) (mV 3 (nU (Fi m7 (fK (oP (fX gX (fL 2) (fW (fK (fL 0) (fK (cM (.int 8)) (fK (jq jy (fK (fL 2) fP)) fP))) (gz c))) (λ_=>.ok none) (lb (fL 1))) fP)))) gQ)
  (f9 (kg (qg (gO (fX (gD false) (fL 5) (cM (.int 2)))) (gO (fX (gD false) (fL 5) (cM (.int 3))))) (setO 4 (m8 (jq C8 (fK (iO (jJ [none,none] (mX (fK (fL 3) (fK (iO (lstM (fK (cM (.int 1)) (fK (cM (.int 2)) (fK (uG (λi=>.int (-i)) (cM (.int 1))) fP))))) fP))) (o4 2 (i8 (jo 0) (i8 (jo 1) o7))) (λ_=>.ok true) (wU c))) fP)))) gQ)
  (f9 (kg (gO (fX (gD false) (fL 5) (cM (.int 4)))) (f9 (setO 6 (iK (fX iJ (fX iV (cM (.int 1)) (fW (fK (fL 0) (fK (cM (.int 9)) (fK (fX rS (cM (.int 10)) (cM (.int 6))) fP))) (gz c))) (fX gX (iO (lstM (fK (cM (.int 1)) (fK (cM (.int 1)) (fK (fX rS (cM (.int 10)) (cM (.int 18))) fP))))) (fW (fK (fL 0) (fK (cM (.int 11)) (fK (cM (.int 3)) fP))) (gz c))))))
  (f9 (mV 3 (vO (jJ [none,some 6] (ig (fL 3)) (jo 0) (λ_=>.ok true) (wQ c))))
  (setO 4 (iK (fX iV (fX iJ (fL 4) (fL 6)) (fW (fK (fL 0) (fK (cM (.int 10)) (fK (cM (.int 7)) fP))) (gz c))))))) gQ)
  (hU (jq i9 (fK (iO (Ck (fL 3) (iO (lstM (fK (fL 4) fP))))) fP))))))))))
def uf(c:Cs):List T->M T:=lH 3 7 (zb c)
def pU(c:Cs):Pe->M T:=(fL 0)
def uF(c:Cs):En->O:=(f9 (setO 6 (m8 (fW (fK (fW (fK (fL 0) (fK (fX iV (fL 1) (fL 5)) fP)) (ij c)) (fK (fL 2) (fK (fL 4) fP))) (uf c))))
  (kg (gO (fX (gD false) (iO (jJ [none,some 6] (ig (fL 4)) (jo 0) (gO (fW (fK (fL 1) (fK (fL 0) fP)) (lG c))) (pU c))) (iO (lstM fP)))) (pC 4 (iK (fL 6))) gQ))
def C9(c:Cs):En->O:=(f9 (mV 4 (nU (lstM fP)))
  (f9 (qc (lK (fK (fL 3) fP)) (jF 5) (uF c))
  (n5 4)))
def wo(c:Cs):List T->M (List T):=B5 4 7 (C9 c)
def yM(c:Cs):En->O:=(f9 (setO 1 (iK (fW (fK (fL 1) (fK (fL 2) fP)) (iZ c))))
  (kg (gO (fX (gD false) (fL 1) (cM (.int 1)))) (hU (fL 0)) gQ))
def Gm(c:Cs):Pe->M T:=(fX oJ (fL 0) (fL 1))
def Ha(c:Cs):En->O:=(f9 (setO 1 (iK (cM (.int 0))))
  (f9 (mM (ig (fL 0)) (jF 2) (yM c))
  (f9 (kg (gO (fX (gD false) (fL 1) (cM (.int 0)))) (hU (fL 0)) gQ)
  (hU (jq i9 (fK (iO (jJ [none,some 1] (ig (fL 0)) (jo 0) (λ_=>.ok true) (Gm c))) fP))))))
def r6(c:Cs):List T->M T:=lH 1 3 (Ha c)
def CQ(c:Cs):Pe->M T:=(fX iV (fX iJ (fL 2) (fL 0)) (fX iJ (fL 3) (fL 1)))
def FV(c:Cs):En->O:=(f9 (kg (gO (fX (gD false) (fX gX (fL 0) (fL 2)) (cM (.int 0)))) (hU (fL 0)) gQ)
  (f9 (setO 3 (iK (jq BR (fK (fX gX (fL 1) (fL 2)) fP))))
  (f9 (setO 4 (iK (fX iJ (uG (λi=>.int (-i)) (fX gX (fL 0) (fL 2))) (fW (fK (fX gX (fL 1) (fL 2)) fP) (nC c)))))
  (hU (fW (fK (jq i9 (fK (iO (jJ [none,none,some 3,some 4] (mX (fK (fL 0) (fK (fL 1) fP))) (o4 2 (i8 (jo 0) (i8 (jo 1) o7))) (λ_=>.ok true) (CQ c))) fP)) fP) (r6 c))))))
def i6(c:Cs):List T->M T:=lH 3 5 (FV c)
def ux(c:Cs):En->O:=(f9 (mV 4 (nU (uS (iO (lstM (fK (cM (.int 0)) fP))) (jq jy (fK (fL 0) fP)))))
  (f9 (uM 4 (m8 (fL 2)) (m8 (cM (.int 1))))
  (pC 1 (m8 (fX iV (fL 3) (jq i9 (fK (fL 4) fP)))))))
def DS(c:Cs):En->O:=(f9 (mV 1 (nU (lstM fP)))
  (f9 (mM (ES (fK (fL 0) fP)) (kD 2 (g9 (jF 2) (g9 (jF 3) kr))) (ux c))
  (n5 1)))
def pF(c:Cs):List T->M (List T):=B5 1 5 (DS c)
def rJ(c:Cs):En->O:=(setO 0 (iK (fW (fK (fL 0) (fK (fL 3) (fK (fL 2) fP))) (i6 c))))
def Fu(c:Cs):En->O:=(f9 (mM (ig (fL 1)) (kD 2 (g9 (jF 2) (g9 (jF 3) kr))) (rJ c))
  (hU (fL 0)))
def lM(c:Cs):List T->M T:=lH 2 4 (Fu c)
def qY(c:Cs):Pe->M T:=(jO (fK (fL 0) (fK (fW (fK (fL 1) (fK (fL 2) (fK (fL 3) fP))) (i6 c)) fP)))
def Aa(c:Cs):En->O:=(vR (Ck (iO (jJ [none,none,some 1,some 2] (ig (fL 0)) (o4 2 (i8 (jo 0) (i8 (jo 1) o7))) (λ_=>.ok true) (qY c))) (iO (lstM (fK (jO (fK (fL 2) (fK (fL 1) fP))) fP)))))
def lY(c:Cs):List T->M (List T):=B5 3 3 (Aa c)
def nh(c:Cs):Pe->M T:=(fL 0)
def kX(c:Cs):En->O:=(f9 (setO 5 (iK (fW (fK (fL 4) (fK (fL 2) fP)) (lM c))))
  (f9 (setO 6 (iK (iO (jJ [none,some 5] (lK (fK (fL 1) fP)) (jo 0) (gO (fX (gD true) (fX gX (fL 1) (fL 0)) (cM (.int 0)))) (nh c)))))
  (kg (gO (fX (gD false) (fL 6) (iO (lstM fP)))) (pC 3 (iK (fL 5))) (setO 2 (iK (iO (jR (fK (fL 2) (fK (fL 5) (fK (fX gX (fL 6) (cM (.int 0))) fP))) (lY c))))))))
def rO(c:Cs):En->O:=(f9 (setO 2 (iK (iO (lstM fP))))
  (f9 (mV 3 (nU (lstM fP)))
  (f9 (mM (ig (fL 0)) (jF 4) (kX c))
  (hU (jO (fK (fL 2) (fK (fL 3) fP)))))))
def jV(c:Cs):List T->M T:=lH 2 7 (rO c)
def xj(c:Cs):Pe->M T:=(fL 0)
def w9(c:Cs):Pe->M T:=(fL 0)
def xM(c:Cs):En->O:=(f9 (setO 2 (iK (iO (jJ [none,none] (ig (fL 0)) (o4 2 (i8 (jo 0) (i8 (jo 1) o7))) (λ_=>.ok true) (xj c)))))
  (vR (jJ [none,some 2] (lK (fK (fL 1) fP)) (jo 0) (gO (fX (Ht true) (fL 0) (fL 1))) (w9 c))))
def my(c:Cs):List T->M (List T):=B5 2 3 (xM c)
def p9(c:Cs):En->O:=(setO 2 (iK (fW (fK (fL 2) (fK (fW (fK (jO (fK (fL 3) (fK (cM (.int 1)) fP))) (fK (fL 4) fP)) (vz c)) fP)) (vH c))))
def Cv(c:Cs):En->O:=(f9 (setO 2 (iK (jO (fK (fX gX (fL 0) (jq jy (fK (fL 1) fP))) (fK (cM (.int 1)) fP)))))
  (f9 (mM (mX (fK (fL 0) (fK (fL 1) fP))) (kD 2 (g9 (jF 3) (g9 (jF 4) kr))) (p9 c))
  (hU (fL 2))))
def lx(c:Cs):List T->M T:=lH 2 5 (Cv c)
def tM(c:Cs):En->O:=(uM 2 (m8 (fL 3)) (m8 (fW (fK (fW (fK (fL 4) (fK (fL 1) fP)) (lx c)) (fK (jO (fK (fX gX (fL 4) (fL 3)) (fK (cM (.int 1)) fP))) fP)) (rN c))))
def Hu(c:Cs):En->O:=(f9 (mV 2 (nU (Fi m7 (fK (fL 1) fP))))
  (f9 (mM (ig (fL 0)) (kD 2 (g9 (jF 3) (g9 (jF 4) kr))) (tM c))
  (hU (jq i9 (fK (fL 2) fP)))))
def sI(c:Cs):List T->M T:=lH 2 5 (Hu c)
def zS(c:Cs):Pe->M T:=(fX sU (fW (fK (fL 1) (fK (fL 0) (fK (cM (.int 7)) fP))) (gz c)) (cM (.int 3)))
def zy(c:Cs):Pe->M T:=(fX iJ (fL 0) (fL 1))
def AC(c:Cs):Pe->M T:=(fX iJ (fL 0) (fL 1))
def A4(c:Cs):En->O:=(f9 (mV 3 (nU (jJ [none,some 0] (lK (fK (fL 1) fP)) (jo 0) (λ_=>.ok true) (zS c))))
  (f9 (kg (gO (fX (gD false) (fL 3) (iO (uS (iO (lstM (fK (cM (.int 0)) fP))) (fL 1))))) (uM 3 (m8 (fW (fK (fL 0) (fK (cM (.int 4)) (fK (fL 1) fP))) (gz c))) (m8 (fX iV (cM (.int 1)) (fW (fK (fL 0) (fK (cM (.int 5)) (fK (cM (.int 3)) fP))) (gz c))))) gQ)
  (f9 (setO 4 (iK (fX sU (fW (fK (fL 0) (fK (cM (.int 6)) (fK (cM (.int 9)) fP))) (gz c)) (cM (.int 4)))))
  (f9 (setO 5 (iK (fW (fK (fL 0) (fK (cM (.int 7)) (fK (cM (.int 7)) fP))) (gz c))))
  (f9 (kg (kf (gO (fX (gD false) (fL 5) (cM (.int 1)))) (gO (fX (gD true) (fL 2) (iO (lstM fP))))) (mV 3 (nU (Fi m7 (fK (oP (fX gX (fL 2) (fW (fK (fL 0) (fK (cM (.int 8)) (fK (jq jy (fK (fL 2) fP)) fP))) (gz c))) (λ_=>.ok none) (lb (fL 1))) fP)))) gQ)
  (f9 (kg (qg (gO (fX (gD false) (fL 5) (cM (.int 2)))) (gO (fX (gD false) (fL 5) (cM (.int 3))))) (setO 4 (m8 (jq C8 (fK (iO (jJ [none,none] (mX (fK (fL 3) (fK (iO (lstM (fK (cM (.int 1)) (fK (cM (.int 2)) (fK (uG (λi=>.int (-i)) (cM (.int 1))) fP))))) fP))) (o4 2 (i8 (jo 0) (i8 (jo 1) o7))) (λ_=>.ok true) (zy c))) fP)))) gQ)
  (f9 (kg (gO (fX (gD false) (fL 5) (cM (.int 4)))) (f9 (setO 6 (iK (fX iJ (fX iV (cM (.int 1)) (fW (fK (fL 0) (fK (cM (.int 9)) (fK (fX rS (cM (.int 10)) (cM (.int 6))) fP))) (gz c))) (fX gX (iO (lstM (fK (cM (.int 1)) (fK (cM (.int 1)) (fK (fX rS (cM (.int 10)) (cM (.int 18))) fP))))) (fW (fK (fL 0) (fK (cM (.int 11)) (fK (cM (.int 3)) fP))) (gz c))))))
  (f9 (mV 3 (vO (jJ [none,some 6] (ig (fL 3)) (jo 0) (λ_=>.ok true) (AC c))))
  (setO 4 (iK (fX iV (fX iJ (fL 4) (fL 6)) (fW (fK (fL 0) (fK (cM (.int 10)) (fK (cM (.int 7)) fP))) (gz c))))))) gQ)
  (hU (jq i9 (fK (iO (Ck (fL 3) (iO (lstM (fK (fL 4) fP))))) fP))))))))))
def p7(c:Cs):List T->M T:=lH 3 7 (A4 c)
def yc(c:Cs):Pe->M T:=(fL 0)
def xW(c:Cs):En->O:=(f9 (setO 6 (m8 (fW (fK (fW (fK (fL 0) (fK (fX iV (fL 1) (fL 5)) fP)) (ij c)) (fK (fL 2) (fK (fL 4) fP))) (p7 c))))
  (kg (gO (fX (gD false) (iO (jJ [none,some 6] (ig (fL 4)) (jo 0) (gO (fW (fK (fL 1) (fK (fL 0) fP)) (lG c))) (yc c))) (iO (lstM fP)))) (pC 4 (iK (fL 6))) gQ))
def Ag(c:Cs):En->O:=(f9 (mV 4 (nU (lstM fP)))
  (f9 (qc (lK (fK (fL 3) fP)) (jF 5) (xW c))
  (n5 4)))
def ph(c:Cs):List T->M (List T):=B5 4 7 (Ag c)
def j7(c:Cs):En->O:=(f9 (setO 2 (iK (fX iV (fX iJ (fL 2) (fX gX (fL 5) (cM (.int 1)))) (fX iJ (fX iJ (fL 4) (fX gX (fL 5) (cM (.int 0)))) (fL 3)))))
  (setO 3 (iK (fX iJ (fL 3) (fX gX (fL 5) (cM (.int 1)))))))
def zV(c:Cs):En->O:=(f9 (setO 2 (iK (uG (λi=>.int (-i)) (fX gX (fL 0) (uG (λi=>.int (-i)) (cM (.int 1)))))))
  (f9 (setO 3 (iK (cM (.int 1))))
  (f9 (mM (mX (fK (fL 0) (fK (fL 1) fP))) (kD 2 (g9 (jF 4) (g9 (jF 5) kr))) (j7 c))
  (hU (fX sU (jq wd (fK (fX A3 (fL 2) (cM (.int 0))) fP)) (jq wd (fK (fX Cq (fL 2) (cM (.int 0))) fP)))))))
def kQ(c:Cs):List T->M T:=lH 2 6 (zV c)
def qd(c:Cs):Pe->M T:=(fW (fK (fL 0) fP) (kb c))
def xO(c:Cs):En->O:=(f9 (kg (qg (kh (gO (oq "tuple" (fL 0)))) (gO (fX (gD true) (jq jy (fK (fL 0) fP)) (fL 1)))) (hU (cM (.bl false))) gQ)
  (hU (jq AS (fK (iO (jJ [none] (ig (fL 0)) (jo 0) (λ_=>.ok true) (qd c))) fP))))
def jI(c:Cs):List T->M T:=lH 2 2 (xO c)
def qw(c:Cs):Pe->M T:=(fW (fK (fL 0) fP) (jj c))
def xQ(c:Cs):En->O:=(f9 (kg (qg (kh (gO (oq "list" (fL 0)))) (gO (fX (gD true) (jq jy (fK (fL 0) fP)) (fL 1)))) (hU (cM (.bl false))) gQ)
  (hU (jq AS (fK (iO (jJ [none] (ig (fL 0)) (jo 0) (λ_=>.ok true) (qw c))) fP))))
def j6(c:Cs):List T->M T:=lH 2 2 (xQ c)
def pW(c:Cs):Pe->M T:=(v9 (fW (fK (fL 0) fP) (jH c)) (Rj Hk Hk (uG (λi=>.int (-i)) (cM (.int 1))) (fL 0) (cM (.int 1))))
def Dx(c:Cs):En->O:=(f9 (kg (qg (kh (gO (oq "tuple" (fL 1)))) (gO (fX (gD true) (jq jy (fK (fL 1) fP)) (fL 0)))) (hU (cM (.bl false))) gQ)
  (hU (jq AS (fK (iO (jJ [none] (ig (fL 1)) (jo 0) (λ_=>.ok true) (pW c))) fP))))
def pk(c:Cs):List T->M T:=lH 2 2 (Dx c)
def yi(c:Cs):En->O:=(kg (kh (gO (fW (fK (uI c.Cutting "many" (fL 0) fP (ko c)) (fK (fL 1) fP)) (pk c)))) (λ_=>.bad) gQ)
def mC(c:Cs):List T->M T:=lH 2 2 (yi c)
def Gy(c:Cs):Pe->M T:=(fX iJ (fL 1) (fL 0))
def Il(c:Cs):En->O:=(hU (jq i9 (fK (iO (jJ [none,some 1] (ig (fL 0)) (jo 0) (λ_=>.ok true) (Gy c))) fP)))
def ox(c:Cs):List T->M T:=lH 2 2 (Il c)
def zf(c:Cs):En->O:=(kg (gO (fX (gD false) (fX gX (fL 5) (fL 2)) (cM (.int 0)))) (wz 4 (m8 (fL 5)) (m8 (cM (.bl true)))) gQ)
def uc(c:Cs):Pe->M T:=(fL 0)
def tz(c:Cs):Pe->M T:=(fL 0)
def ue(c:Cs):Pe->M T:=(fL 0)
def t6(c:Cs):En->O:=(f9 (setO 8 (iK (fW (fK (fL 6) (fK (fL 7) (fK (fL 2) fP))) (i6 c))))
  (kg (gO (fX Hk (jq jy (fK (iO (jJ [none] (ig (oP (fL 8) (lb (fX iV (fL 1) (cM (.int 1)))) (λ_=>.ok none))) (jo 0) (gO (fX (gD true) (fL 0) (cM (.int 0)))) (ue c))) fP)) (fL 3))) (wz 4 (m8 (fL 8)) (m8 (cM (.bl true)))) gQ))
def yz(c:Cs):En->O:=(mM (ig (iO (jJ [none,some 2] (ig (fL 0)) (jo 0) (gO (fX Cq (fX gX (fL 0) (fL 1)) (cM (.int 0)))) (tz c)))) (jF 7) (t6 c))
def HH(c:Cs):En->O:=(f9 (JT 4)
  (f9 (mM (ig (fL 0)) (jF 5) (zf c))
  (f9 (mM (ig (iO (jJ [none,some 2] (ig (fL 0)) (jo 0) (gO (fX A3 (fX gX (fL 0) (fL 1)) (cM (.int 0)))) (uc c)))) (jF 6) (yz c))
  (sR 4))))
def rV(c:Cs):List T->M (List T):=B5 4 9 (HH c)
def vP(c:Cs):En->O:=(f9 (setO 6 (m8 (fX iV (fX iV (jq jy (fK (fL 4) fP)) (cM (.int 1))) (jq jy (fK (fL 3) fP)))))
  (yH 4 (vO (jR (fK (fX gX (fL 4) (uG (λi=>.int (-i)) (cM (.int 1)))) (fK (fL 1) (fK (fL 5) (fK (fL 6) fP)))) (rV c)))))
def GD(c:Cs):En->O:=(f9 (mV 4 (nU (lstM (fK (fL 0) fP))))
  (f9 (mM (ig (fL 2)) (jF 5) (vP c))
  (n5 4)))
def qK(c:Cs):List T->M (List T):=B5 4 7 (GD c)
def v5(c:Cs):En->O:=(kg (gO (fX (gD true) (fX gX (fL 5) (fL 1)) (cM (.int 0)))) (f9 (setO 6 (iK (fW (fK (fW (fK (fL 5) (fK (fL 2) fP)) (lx c)) (fK (jO (fK (fX gX (fL 5) (fL 1)) (fK (cM (.int 1)) fP))) fP)) (rN c))))
  (f9 (kg (kf (gO (fX A3 (fX gX (fL 5) (fL 1)) (cM (.int 0)))) (qg (gO (fX (jS false) (fL 3) (cM .non))) (gO (fW (fK (fL 3) (fK (fL 6) fP)) (kH c))))) (setO 3 (iK (fL 6))) gQ)
  (kg (kf (gO (fX Cq (fX gX (fL 5) (fL 1)) (cM (.int 0)))) (qg (gO (fX (jS false) (fL 4) (cM .non))) (gO (fW (fK (fL 6) (fK (fL 4) fP)) (kH c))))) (setO 4 (iK (fL 6))) gQ))) gQ)
def FL(c:Cs):En->O:=(f9 (setO 3 (iK (cM .non)))
  (f9 (setO 4 (iK (cM .non)))
  (f9 (mM (ig (fL 0)) (jF 5) (v5 c))
  (hU (jO (fK (fL 3) (fK (fL 4) fP)))))))
def oB(c:Cs):List T->M T:=lH 3 7 (FL c)
def uW(c:Cs):En->O:=(f9 (setO 2 (iK (cM (.int 0))))
  (f9 (kg (kf (gO (fX (jS true) (fL 0) (cM .non))) (gO (fX M5 (fX gX (fL 0) (cM (.int 0))) (cM (.int 0))))) (setO 2 (iK (fX iV (fW (fK (fL 0) fP) (lE c)) (cM (.int 1))))) (kg (kf (gO (fX (jS true) (fL 1) (cM .non))) (gO (fX Hk (fX gX (fL 1) (cM (.int 0))) (cM (.int 0))))) (setO 2 (iK (fX sU (fW (fK (fL 1) fP) (kS c)) (cM (.int 1))))) gQ))
  (f9 (kg (kf (gO (fX (jS true) (fL 0) (cM .non))) (kh (gO (fW (fK (fL 0) (fK (jO (fK (fL 2) (fK (cM (.int 1)) fP))) fP)) (kH c))))) (hU (cM .non)) gQ)
  (f9 (kg (kf (gO (fX (jS true) (fL 1) (cM .non))) (kh (gO (fW (fK (jO (fK (fL 2) (fK (cM (.int 1)) fP))) (fK (fL 1) fP)) (kH c))))) (hU (cM .non)) gQ)
  (hU (fL 2))))))
def j4(c:Cs):List T->M T:=lH 2 3 (uW c)
def lX(c:Cs):En->O:=(f9 (setO 4 (iK (fW (fK (fL 0) fP) (lE c))))
  (f9 (pC 2 (iK (fL 4)))
  (f9 (setO 5 (iK (fX sU (fX gX (fL 0) (cM (.int 0))) (fX iJ (fL 4) (fX gX (fL 0) (cM (.int 1)))))))
  (f9 (setO 6 (iK (Rl (gO (fX (gD false) (fL 5) (cM (.int 0)))) (cM .non) (jO (fK (fX gX (fL 0) (cM (.int 1))) (fK (fL 5) fP))))))
  (f9 (setO 0 (iK (jO (fK (fX gX (fL 1) (cM (.int 1))) (fK (fX sU (fX gX (fL 1) (cM (.int 0))) (fX iJ (fL 4) (fX gX (fL 1) (cM (.int 1))))) fP)))))
  (f9 (setO 1 (iK (fL 6)))
  (setO 3 (iK (fW (fK (fL 0) (fK (fL 1) fP)) (j4 c))))))))))
def mh(c:Cs):En->O:=(setO 7 (iK (jO (fK (fX iV (fX iJ (fL 4) (fX gX (fL 7) (cM (.int 0)))) (fX gX (fL 7) (cM (.int 1)))) (fK (fX gX (fL 7) (cM (.int 0))) fP)))))
def xU(c:Cs):En->O:=(f9 (kg (kf (gO (fX (jS true) (fL 0) (cM .non))) (gO (fX (gD false) (fL 0) (fL 1)))) (hU (fL 0)) gQ)
  (f9 (mV 2 (nU (lstM fP)))
  (f9 (setO 3 (iK (fW (fK (fL 0) (fK (fL 1) fP)) (j4 c))))
  (f9 (λρ=>mj (gO (fX (jS false) (fL 3) (cM .non))) (lX c) ((λρ=>match ρ with | some (.p (.tup [_,.int a]))::some (.p (.tup [_,.int b]))::_=>a.natAbs+b.natAbs+2 | _=>1) ρ) ρ)
  (f9 (setO 7 (iK (jO (fK (fL 3) (fK (cM (.int 1)) fP)))))
  (f9 (PJ 2 (mM (Fy (fK (fL 2) fP)) (jF 4) (mh c)))
  (hU (fL 7))))))))
def lj(c:Cs):List T->M T:=lH 2 8 (xU c)
def pJ(c:Cs):En->O:=(f9 (setO 6 (m8 (fW (fK (fX gX (fL 0) (fL 4)) (fK (fL 5) (fK (fL 3) fP))) (oB c))))
  (uM 3 (m8 (fL 5)) (m8 (fW (fK (fX gX (fL 6) (cM (.int 0))) (fK (fX gX (fL 6) (cM (.int 1))) fP)) (lj c)))))
def wC(c:Cs):En->O:=(f9 (mV 3 (nU (Fi m7 (fK (fL 2) fP))))
  (f9 (mM (Fy (fK (iO (Q1 (fK (fL 1) fP))) fP)) (kD 2 (g9 (jF 4) (g9 (jF 5) kr))) (pJ c))
  (n5 3)))
def l5(c:Cs):List T->M (List T):=B5 3 7 (wC c)
def ni(c:Cs):En->O:=(kg (gO (fX (gD true) (fX gX (fL 2) (fL 1)) (cM (.int 0)))) (hU (iO (Fi m7 (fK (oP (fW (fK (fL 2) (fK (fW (fK (fX gX (fL 2) (fL 1)) fP) (nC c)) fP)) (ox c)) (lb (fX iV (fL 1) (cM (.int 1)))) (λ_=>.ok none)) fP)))) gQ)
def rz(c:Cs):En->O:=(f9 (mM (ig (fL 0)) (jF 2) (ni c))
  (hU (cM .non)))
def i7(c:Cs):List T->M T:=lH 2 3 (rz c)
def ng(c:Cs):Pe->M T:=(fL 0)
def nj(c:Cs):Pe->M T:=(fW (fK (fW (fK (fL 0) (fK (fL 1) fP)) (ox c)) (fK (fL 2) fP)) (lM c))
def kZ(c:Cs):En->O:=(kg (gO (fX M5 (fX gX (fL 10) (fL 1)) (cM (.int 0)))) (hU (jO (fK (cM (.str "paper")) (fK (iO (Fi m7 (fK (oP (fL 10) (lb (fX iV (fL 1) (cM (.int 1)))) (λ_=>.ok none)) fP))) fP)))) gQ)
def lD(c:Cs):En->O:=(f9 (setO 3 (iK (iO (jR (fK (fL 0) fP) (pF c)))))
  (f9 (setO 4 (iK (fW (fK (iO (jJ [none,none] (mX (fK (fL 3) (fK (fL 2) fP))) (o4 2 (i8 (jo 0) (i8 (jo 1) o7))) (gO (fX (gD false) (fL 1) (cM (.int 0)))) (ng c))) (fK (fL 1) fP)) (jV c))))
  (f9 (setO 5 (iK (fW (fK (fX gX (fL 4) (cM (.int 1))) (fK (fL 1) fP)) (i7 c))))
  (f9 (kg (gO (fX (jS true) (fL 5) (cM .non))) (hU (jO (fK (cM (.str "paper")) (fK (fL 5) fP)))) gQ)
  (f9 (setO 6 (iK (fX gX (fL 4) (cM (.int 0)))))
  (f9 (setO 7 (iK (iO (jJ [none,none,some 6] (mX (fK (fL 3) (fK (fL 2) fP))) (o4 2 (i8 (jo 0) (i8 (jo 1) o7))) (gO (fX (gD true) (fL 1) (cM (.int 0)))) (nj c)))))
  (f9 (setO 8 (iK (iO (jR (fK (fL 6) (fK (fL 1) fP)) (my c)))))
  (f9 (setO 9 (iK (iO (jR (fK (fL 7) (fK (fL 1) (fK (fL 8) (fK (fL 6) fP)))) (qK c)))))
  (f9 (mM (ig (fX gX (fL 9) (uG (λi=>.int (-i)) (cM (.int 1))))) (jF 10) (kZ c))
  (hU (jO (fK (cM (.str "spot")) (fK (fW (fK (fL 6) (fK (iO (jR (fK (fL 9) (fK (fL 8) (fK (iO (uS (iO (lstM (fK (jO (fK (cM (.int 0)) (fK (cM (.int 1)) fP))) fP))) (fL 1))) fP))) (l5 c))) fP)) (sI c)) fP)))))))))))))
def iX(c:Cs):List T->M T:=lH 3 11 (lD c)
def NJ(c:Cs):En->O:=(f9 (Bm (iK (fW (fK (fL 0) (fK (fL 1) fP)) (mC c))))
  (hU (fW (fK (iO (wa c.Cutting "cuts" (fL 0) fP (ky c))) (fK (uI c.Cutting "dims" (fL 0) fP (kG c)) (fK (fL 1) fP))) (iX c))))
def jL(c:Cs):List T->M T:=lH 2 2 (NJ c)
def uq(c:Cs):En->O:=(kg (gO (fX Cq (fX iJ (fL 4) (fL 5)) (cM (.int 0)))) (hU (cM (.bl false))) gQ)
def uv(c:Cs):Pe->M T:=(fX iJ (fL 0) (fX gX (fL 1) (fL 2)))
def uz(c:Cs):Pe->M T:=(jq C8 (fK (iO (jJ [none,none,some 0] (mX (fK (fL 1) (fK (fL 2) fP))) (o4 2 (i8 (jo 0) (i8 (jo 1) o7))) (λ_=>.ok true) (uv c))) fP))
def uC(c:Cs):Pe->M T:=(fL 0)
def Dn(c:Cs):En->O:=(f9 (mM (mX (fK (fL 3) (fK (fL 2) fP))) (kD 2 (g9 (jF 4) (g9 (jF 5) kr))) (uq c))
  (f9 (setO 6 (iK (iO (jJ [none,some 3,some 0] (lK (fK (fX iV (fL 1) (cM (.int 1))) fP)) (jo 0) (λ_=>.ok true) (uz c)))))
  (f9 (kg (gO (fX (gD true) (oP (fL 6) (λ_=>.ok none) (lb (fL 1))) (iO (uS (iO (lstM (fK (cM (.int 0)) fP))) (fL 1))))) (hU (cM (.bl false))) gQ)
  (f9 (setO 7 (iK (iO (jJ [none,none] (mX (fK (fL 3) (fK (fL 2) fP))) (o4 2 (i8 (jo 0) (i8 (jo 1) o7))) (gO (fX (gD true) (fX iJ (fL 0) (fL 1)) (cM (.int 0)))) (uC c)))))
  (hU (Ri (fX A3 (fX gX (fL 6) (fL 1)) (cM (.int 0))) (v9 (fX (gD false) (fX gX (fL 6) (fL 1)) (cM (.int 0))) (fX (gD true) (fL 7) (iO (lstM fP))))))))))
def mr(c:Cs):List T->M T:=lH 4 8 (Dn c)
def xR(c:Cs):En->O:=(f9 (setO 3 (iK (fW (fK (fL 0) (fK (fL 1) fP)) (ij c))))
  (f9 (setO 4 (iK (fX iV (cM (.int 1)) (fW (fK (fL 3) (fK (cM (.int 0)) (fK (cM (.int 3)) fP))) (gz c)))))
  (f9 (setO 5 (iK (fW (fK (fL 3) (fK (cM (.int 1)) (fK (fX iV (fL 2) (cM (.int 1))) fP))) (gz c))))
  (f9 (kg (gO (fX (gD false) (fL 4) (cM (.int 3)))) (setO 5 (iK (jq nN (fK (fL 5) (fK (cM (.int 5)) fP))))) gQ)
  (hU (jO (fK (fL 4) (fK (iO (jR (fK (fL 0) (fK (fX iV (fL 1) (cM (.int 1))) (fK (fL 4) (fK (fL 5) fP)))) (ph c))) fP))))))))
def mF(c:Cs):List T->M T:=lH 3 6 (xR c)
def wJ(c:Cs):Pe->M T:=(fX iV (fL 1) (jO (fK (fL 0) fP)))
def vW(c:Cs):En->O:=(setO 4 (iK (iO (Ck (fL 4) (iO (jJ [none,some 5] (ig (fL 0)) (jo 0) (λ_=>.ok true) (wJ c)))))))
def xb(c:Cs):En->O:=(f9 (setO 4 (iK (iO (lstM fP))))
  (f9 (mM (ig (fL 2)) (jF 5) (vW c))
  (setO 2 (iK (fL 4)))))
def GX(c:Cs):En->O:=(f9 (setO 2 (iK (iO (lstM (fK (jO fP) fP)))))
  (f9 (qc (lK (fK (fL 1) fP)) (jF 3) (xb c))
  (hU (fL 2))))
def qB(c:Cs):List T->M T:=lH 2 6 (GX c)
def yb(c:Cs):En->O:=(f9 (setO 3 (iK (fW (fK (fL 0) (fK (fL 1) fP)) (ij c))))
  (f9 (setO 4 (iK (fX iV (cM (.int 1)) (fW (fK (fL 3) (fK (cM (.int 0)) (fK (cM (.int 3)) fP))) (gz c)))))
  (f9 (setO 5 (iK (fW (fK (fL 3) (fK (cM (.int 1)) (fK (fX iV (fL 2) (cM (.int 1))) fP))) (gz c))))
  (f9 (kg (gO (fX (gD false) (fL 4) (cM (.int 3)))) (setO 5 (iK (jq nN (fK (fL 5) (fK (cM (.int 5)) fP))))) gQ)
  (hU (jO (fK (fL 4) (fK (iO (jR (fK (fL 0) (fK (fX iV (fL 1) (cM (.int 1))) (fK (fL 4) (fK (fL 5) fP)))) (wo c))) fP))))))))
def qU(c:Cs):List T->M T:=lH 3 6 (yb c)
def ot(c:Cs):Pe->M T:=(fW (fK (fL 0) (fK (fX gX (fL 1) (cM (.int 1))) fP)) (kQ c))
def zA(c:Cs):En->O:=(f9 (setO 4 (iK (fW (fK (fL 0) (fK (fL 3) fP)) (jL c))))
  (f9 (kg (qg (kh (gO (oq "tuple" (fL 4)))) (gO (fX (gD true) (jq jy (fK (fL 4) fP)) (cM (.int 2))))) (hU (cM .non)) gQ)
  (f9 (kg (kf (gO (fX (gD false) (fX gX (fL 4) (cM (.int 0))) (cM (.str "spot")))) (gO (fW (fK (fX gX (fL 4) (cM (.int 1))) (fK (fL 2) fP)) (jI c)))) (kg (gO (fX (gD false) (jq i9 (fK (iO (jJ [none,some 4] (ig (fL 1)) (jo 0) (λ_=>.ok true) (ot c))) fP)) (fL 3))) (hU (cM (.bl true))) gQ) gQ)
  (f9 (kg (kf (gO (fX (gD false) (fX gX (fL 4) (cM (.int 0))) (cM (.str "paper")))) (kf (gO (fW (fK (fX gX (fL 4) (cM (.int 1))) (fK (jq jy (fK (fL 1) fP)) fP)) (j6 c))) (gO (fW (fK (fL 1) (fK (fL 2) (fK (fL 3) (fK (fX gX (fL 4) (cM (.int 1))) fP)))) (mr c))))) (hU (cM (.bl false))) gQ)
  (hU (cM .non))))))
def jD(c:Cs):List T->M T:=lH 4 5 (zA c)
def pP(c:Cs):En->O:=(pC 2 (iK (fW (fK (fX iV (fX iJ (fX gX (fL 3) (cM (.int 0))) (fX gX (fL 4) (cM (.int 1)))) (fX iJ (fX gX (fL 4) (cM (.int 0))) (fX gX (fL 3) (cM (.int 1))))) (fK (fX iJ (fX iJ (cM (.int 2)) (fX gX (fL 3) (cM (.int 1)))) (fX gX (fL 4) (cM (.int 1)))) fP)) (nu c))))
def yd(c:Cs):En->O:=(f9 (mV 2 (nU (lstM fP)))
  (f9 (mM (mX (fK (fL 0) (fK (fL 1) fP))) (kD 2 (g9 (jF 3) (g9 (jF 4) kr))) (pP c))
  (hU (jq i9 (fK (fL 2) fP)))))
def mD(c:Cs):List T->M T:=lH 2 5 (yd c)
def yE(c:Cs):Pe->M T:=(uG (λi=>.int (-i)) (fL 0))
def zr(c:Cs):Pe->M T:=(jq i9 (fK (iO (jJ [none] (ig (fL 0)) (jo 0) (λ_=>.ok true) (yE c))) fP))
def yW(c:Cs):Pe->M T:=(fX iJ (fX iV (cM (.int 2)) (fL 1)) (fL 0))
def yo(c:Cs):Pe->M T:=(jq i9 (fK (iO (jJ [none,some 0] (ig (fX gX (fL 1) (fL 0))) (jo 0) (λ_=>.ok true) (yW c))) fP))
def t7(c:Cs):Pe->M T:=(uG (λi=>.int (-i)) (fL 0))
def rL(c:Cs):Pe->M T:=(fX (gD false) (fX (gD false) (fX gX (fL 0) (cM (.int 0))) (cM (.str "spot"))) (fL 1))
def tT(c:Cs):En->O:=(f9 (setO 9 (iK (fW (fK (fL 3) (fK (fL 2) (fK (fL 1) (fK (fL 8) fP)))) (jD c))))
  (f9 (kg (gO (fX (jS false) (fL 9) (cM .non))) (hU (cM (.bl false))) gQ)
  (f9 (setO 10 (iK (iO (lstM (fK (fW (fK (fL 4) (fK (jq i9 (fK (iO (jJ [none] (ig (fL 8)) (jo 0) (λ_=>.ok true) (t7 c))) fP)) fP)) (jL c)) (fK (fW (fK (fL 5) (fK (fX Pz (fL 8) (uG (λi=>.int (-i)) (cM (.int 1)))) fP)) (jL c)) (fK (fW (fK (fL 6) (fK (fL 8) fP)) (jL c)) fP)))))))
  (f9 (kg (gO (fX (gD true) (iO (jJ [none,some 9] (ig (fL 10)) (jo 0) (λ_=>.ok true) (rL c))) (iO (lstM (fK (cM (.bl true)) (fK (cM (.bl true)) (fK (cM (.bl true)) fP))))))) (hU (cM (.bl false))) gQ)
  (kg (gO (fL 9)) (pC 7 (iK (fX gX (fW (fK (fL 3) (fK (fL 8) fP)) (jL c)) (cM (.int 1))))) gQ)))))
def wG(c:Cs):Pe->M T:=(fW (fK (fL 0) (fK (fL 1) fP)) (kQ c))
def yZ(c:Cs):En->O:=(f9 (setO 12 (iK (fW (fK (fL 0) (fK (fX iV (cM (.int 6)) (fL 11)) fP)) (ij c))))
  (f9 (setO 13 (m8 (fW (fK (fX gX (fL 7) (fW (fK (fL 12) (fK (cM (.int 0)) (fK (jq jy (fK (fL 7) fP)) fP))) (gz c))) (fK (fX gX (fL 7) (fW (fK (fL 12) (fK (cM (.int 1)) (fK (jq jy (fK (fL 7) fP)) fP))) (gz c))) fP)) (mD c))))
  (kg (gO (fX (HG true) (fW (fK (fL 3) (fK (fL 2) (fK (fL 1) (fK (jq i9 (fK (iO (jJ [none,some 13] (ig (fL 2)) (jo 0) (λ_=>.ok true) (wG c))) fP)) fP)))) (jD c)) (cM (.bl true)))) (hU (cM (.bl false))) gQ)))
def Jt(c:Cs):En->O:=(f9 (JK (fW (fK (fL 0) (fK (cM (.int 0)) (fK (cM (.int 4)) fP))) (mF c)) (kD 2 (g9 (jF 1) (g9 (jF 2) kr))))
  (f9 (setO 3 (iK (fW (fK (fL 1) (fK (fL 2) fP)) (jc c))))
  (f9 (setO 4 (iK (fW (fK (fL 1) (fK (iO (jJ [none] (ig (fL 2)) (jo 0) (λ_=>.ok true) (zr c))) fP)) (jc c))))
  (f9 (setO 5 (iK (fW (fK (fL 1) (fK (fX Pz (fL 2) (uG (λi=>.int (-i)) (cM (.int 1)))) fP)) (jc c))))
  (f9 (setO 6 (iK (fW (fK (fL 1) (fK (iO (jJ [none,some 2] (lK (fK (jq jy (fK (fL 2) fP)) fP)) (jo 0) (λ_=>.ok true) (yo c))) fP)) (jc c))))
  (f9 (mV 7 (nU (lstM fP)))
  (f9 (mM (ig (fW (fK (jO (fK (uG (λi=>.int (-i)) (cM (.int 1))) (fK (cM (.int 0)) (fK (cM (.int 1)) fP)))) (fK (jq jy (fK (fL 2) fP)) fP)) (qB c))) (jF 8) (tT c))
  (f9 (qc (lK (fK (jq nN (fK (cM (.int 6)) (fK (jq jy (fK (fL 7) fP)) fP))) fP)) (jF 11) (yZ c))
  (hU (cM (.bl true)))))))))))
def BL(c:Cs):List T->M T:=lH 1 14 (Jt c)
variable {c:Cs}
theorem pA(ns:List Int)(k:Nat):∃v,ij c [.scr ns,.int k]=.ok (.int v)/\(v=0\/v∈ns):=by
 by_cases h:(k:Int)<ns.length
 ·obtain⟨a,e,hm⟩:=xg ns k (by omega) h;exact⟨a,by simp[ij,n6,h,e],.inr hm⟩
 ·exact⟨0,by simp[ij,n6,h],.inl rfl⟩
theorem jM{i j:Int}(h:i.natAbs<2 ^ 64):iJ (.int i) (.int j)=.ok (.int (i*j)):=iu (tH h)
theorem Mt(cell:Int)(k:Nat)(b:Int)(hb:0<b)(hb2:b<2 ^ 62)(hk:k<=1000000):∃d,gz c [.int cell,.int (k:Int),.int b]=.ok (.int d)/\0<=d/\d<b:=by
 have hbn:b≠0:=by omega
 have fm:∀x:Int,0<=x.fmod b/\x.fmod b<b:=λx=>⟨cI x hb,cJ x hb⟩;have e18:rS (.int 10) (.int 18)=.ok (.int 1000000000000000000):=by simp[rS,lJ]
 by_cases h:(1000000000000000000:Int)<=cell
 ·obtain⟨ρ,e,v,w,rfl⟩:=iH (m:=jF 4) (g:=setO 3 (iK (fX oJ (fL 3) (fL 2)))) (λ(i:Nat)=>T.int (i:Int)) (λ_ ρ=>∃v w,ρ=[some (.p (.int cell)),some (.p (.int k)),some (.p (.int b)),some (.p (.int v)),w,none])
   (List.range k) 0 [some (.p (.int cell)),some (.p (.int k)),some (.p (.int b)),some (.p (.int cell)),none,none] ⟨_,_,rfl⟩ (by rintro i a ρ ha ⟨v,w,rfl⟩;have hd:Builtin.divisionGoesByPylong v b=false:=Bn.noPy (n:=62) (by unfold Bn;omega) (by decide);exact⟨_,_,rfl,.inl (gh (by simp[md hbn hd];rfl) rfl),_,_,rfl⟩)
  refine⟨v.fmod b,gS rfl ?_,fm v⟩;have hr':G5 (k:Int)=true:=nE (by omega);refine jW (iw (by simp[e18,h]) (fT (gh (by simp) rfl) (fT (n0 (by simp[hr',K4]) e) (gB (by simp[qG hbn]))))) rfl
 ·have m1:∀x y:Int,0<y->0<=x.fmod y/\x.fmod y<y:=λx y hy=>⟨cI x hy,cJ x hy⟩;have a1:=m1 cell 1000000007 (by decide);have a2:=m1 ((cell.fmod 1000000007+1009*k+17)*69621) 2147483647 (by decide);generalize hs1:((cell.fmod 1000000007+1009*k+17)*69621).fmod 2147483647=s1 at a2;have a3:=m1 (s1*s1+40503*k+5) 2147483629 (by decide);generalize hs2:(s1*s1+40503*k+5).fmod 2147483629=s2 at a3;have hp:Builtin.divisionGoesByPylong ((s2*48271).fmod 2147483647) 32=false:=Bn.noPy (n:=62) (by unfold Bn;decide) (by decide);refine⟨(((s2*48271).fmod 2147483647).fdiv 32).fmod b,gS rfl ?_,fm _⟩;refine fT (gY (by simp[e18,h]) rfl) (fT (gh (t:=.int s1) ?_ rfl) (fT (gh (t:=.int s2) ?_ rfl) (gB ?_)))
  ·rw[<-hs1];simp[qG,jM (i:=1009) (j:=k) (by decide),jM (i:=cell.fmod 1000000007+1009*k+17) (j:=69621) (by omega)]
  ·rw[<-hs2];simp[qG,jM (i:=40503) (j:=k) (by decide),jM (i:=s1) (j:=s1) (by omega)]
  ·simp[qG,hbn,md (j:=32) (by decide) hp,jM (i:=s2) (j:=48271) (by omega)]
def dr(c:Cs)(cell k b:Int):Int:=match gz c [.int cell,.int k,.int b] with
 | .ok (.int d)=>d
 | _=>0
theorem kc(cell k b:Int)(hb:0<b)(hb2:b<2 ^ 62)(h0:0<=k)(hk:k<=1000000):gz c [.int cell,.int k,.int b]=.ok (.int (dr c cell k b))/\0<=dr c cell k b/\dr c cell k b<b:=by
 obtain⟨d,e,h1,h2⟩:=Mt (c:=c) cell k.toNat b hb hb2 (by omega);rw[Int.toNat_of_nonneg h0] at e;have:dr c cell k b=d:=by unfold dr;rw[e]
 rw[this];exact⟨e,h1,h2⟩
theorem KF(l:List Int)(i:Int)(h0:0<=i)(h1:i<l.length):∃w,gX (.lst (l.map T.int)) (.int i)=.ok (.int w)/\w∈l:=by obtain⟨a,e,hm⟩:=xg l i h0 h1;exact⟨a,by simp[o9,e],hm⟩
theorem K1(i:Int):(if i<0 then -i else i)=(i.natAbs:Int):=by split<;>omega
theorem nY(a b:Int):iZ c [.int a,.int b]=.ok (.int (Cu.G a b)):=by
 obtain⟨ρ,e,x,w,rfl,hx⟩:=nP (c:=gO (fX (gD true) (fL 1) (cM (.int 0)))) (g:=f9 (setO 2 (iK (fX tW (fL 0) (fL 1)))) (f9 (setO 0 (iK (fL 1))) (setO 1 (iK (fL 2)))))
  (λρ=>∃x y w,ρ=[some (.p (.int x)),some (.p (.int y)),w]/\Cu.G x y=Cu.G a b) (λρ=>match ρ with | _::some (.p (.int j))::_=>j.natAbs | _=>0)
  (λρ=>∃x w,ρ=[some (.p (.int x)),some (.p (.int 0)),w]/\Cu.G x 0=Cu.G a b) (by
   rintro ρ ⟨x,y,w,rfl,h⟩;by_cases hy:y=0
   ·subst hy;exact .inl ⟨by simp,_,_,rfl,h⟩
   ·refine .inr ⟨by simp[hy],_,.inl (fT (gh (t:=.int (x.fmod y)) (by simp[qG hy]) rfl) (fT (gh (t:=.int y) (by simp) rfl) (gh (t:=.int (x.fmod y)) (by simp) rfl))),⟨y,x.fmod y,_,rfl,?_⟩,?_⟩
    ·rw[<-h];exact Cu.Ai x y
    ·exact Cu.yy x y hy)
  (b.natAbs+1) [some (.p (.int a)),some (.p (.int b)),none] ⟨a,b,none,rfl,rfl⟩ (bG _)
 refine gS rfl (fT (ρ':=[some (.p (.int x)),some (.p (.int 0)),w]) e (gB ?_));rw[Cu.Cy] at hx;simp[K1,hx]
theorem rd(a b:Int):jU c [.int a,.int b]=.ok (.int (Cu.G a b)):=by
 obtain⟨ρ,e,x,rfl,hx0,hx⟩:=nP (c:=gO (fX A3 (fL 1) (cM (.int 0)))) (g:=Mr 0 1 (fK (fL 1) (fK (fX tW (fL 0) (fL 1)) fP)))
  (λρ=>∃x y:Int,ρ=[some (.p (.int x)),some (.p (.int y))]/\0<=x/\0<=y/\Cu.G x y=Cu.G a b) (λρ=>match ρ with | _::some (.p (.int j))::_=>j.natAbs | _=>0)
  (λρ=>∃x:Int,ρ=[some (.p (.int x)),some (.p (.int 0))]/\0<=x/\Cu.G x 0=Cu.G a b) (by
   rintro ρ ⟨x,y,rfl,hx0,hy0,h⟩;by_cases hy:y=0
   ·subst hy;exact .inl ⟨by simp,_,rfl,hx0,h⟩
   ·have hp:0<y:=by omega
    refine .inr ⟨by simp[hp],_,.inl (by simp[qG hy]),⟨y,x.fmod y,rfl,hy0,cI x hp,?_⟩,?_⟩
    ·rw[<-h];exact Cu.Ai x y
    ·exact Cu.yy x y hy)
  ((b.natAbs:Int).natAbs+1) [some (.p (.int (a.natAbs:Int))),some (.p (.int (b.natAbs:Int)))] ⟨_,_,rfl,by omega,by omega,Cu.QE a b⟩ (bG _)
 refine gS rfl (fT (gh (t:=.int (a.natAbs:Int)) (by simp[K1]) rfl) (fT (gh (t:=.int (b.natAbs:Int)) (by simp[K1]) rfl) (fT (ρ':=[some (.p (.int x)),some (.p (.int 0))]) e (gB ?_))));rw[Cu.Cy] at hx;have:x=Cu.G a b:=by omega
 simp[this]
theorem r0{t g:Int}(hg:g ∣ t)(h0:g≠0):(t.fdiv g).natAbs<=t.natAbs:=by obtain⟨k,rfl⟩:=hg;rw[cQ k h0,aX];exact Nat.le_mul_of_pos_left _ (by omega)
def PH:T->Bool
 | .scr _=>false
 | .obj _ _=>false
 | _=>true
def isInt:T->Bool
 | .int _=>true
 | _=>false
theorem B2(x:T)(h:PH x=true):jH c [x]=.ok (.bl (isInt x)):=by cases x<;>first | (simp[PH] at h;done) | rfl
theorem KA(x:T)(h:PH x=true):NV "tuple" x=.ok (.bl (r9 x)):=by cases x<;>first | (simp[PH] at h;done) | rfl
def qt(x:Int):Int:=if 0<x then 1 else if x<0 then -1 else 0
theorem GB(x:Int):-1<=qt x/\qt x<=1:=by unfold qt;split<;>(try split)<;>omega
theorem vT(x:Int):nC c [.int x]=.ok (.int (qt x)):=by
 unfold qt;by_cases h:0<x
 ·rw[aP h];exact gS rfl (jW (iw (by simp[h]) (gB (by simp))) rfl)
 ·rw[aQ h];by_cases h2:x<0
  ·rw[aP h2];exact gS rfl (fT (gY (by simp[h]) rfl) (jW (iw (by simp[h2]) (gB (by simp))) rfl))
  ·rw[aQ h2];exact gS rfl (fT (gY (by simp[h]) rfl) (fT (gY (by simp[h2]) rfl) (gB (by simp))))
theorem qI(bs:List Bool):AS [.lst (bs.map T.bl)]=.ok (.bl (bs.all id)):=by simp
theorem EY(bs:List Bool):C5 [.lst (bs.map T.bl)]=.ok (.bl (bs.any id)):=by simp
def rq(d:Nat):T->Bool
 | .tup ts=>decide (ts.length=d+1)&&ts.all isInt&&(match kC ts with | some ns=>(ns.take d).any (· != 0) | none=>false)
 | _=>false
theorem Bk:∀(ts:List T),ts.all isInt=true->∃ns:List Int,ts=ns.map T.int
 | [],_=>⟨[],rfl⟩
 | t::ts,h=>by
  rw[bU,bS] at h;obtain⟨ns,e⟩:=Bk ts h.2;cases t with
  | int i=>exact⟨i::ns,by rw[e];rfl⟩
  | _=>simp[isInt] at h
theorem Fw(d:Nat)(hd:d<=10)(x:T)(hx:PH x=true)(hs:∀ts,x=.tup ts->ts.length<1000/\∀t∈ts,PH t=true):qu c [.int d,x]=.ok (.bl (rq d x)):=by
 have sz:1000<sizeLine:=by decide
 by_cases ht:r9 x=true
 ·cases x with
  | tup ts=>
   obtain⟨hl,hk⟩:=hs ts rfl;by_cases hn:ts.length=d+1
   ·have e1:jJ [none] (ig (fL 1)) (jo 0) (λ_=>.ok true) (t5 c) (vw (ik 2 [.int d,.tup ts]))=.ok ((ts.map isInt).map T.bl):=by rw[vB ts id (λt=>T.bl (isInt t)) (by simp) (by omega) λt ht=>⟨_,rfl,rfl,by simp[t5,B2 t (hk t ht)]⟩];simp
    have e0:(L3.qg (L3.kh (gO (oq "tuple" (fL 1)))) (gO (fX (gD true) (jq jy (fK (fL 1) fP)) (fX iV (fL 0) (cM (.int 1)))))) (vw (ik 2 [.int d,.tup ts]))=.ok false:=by simp[hn]
    by_cases ha:ts.all isInt=true
    ·obtain⟨ns,rfl⟩:=Bk ts ha;have hns:ns.length=d+1:=by simpa using hn
     have hb:rq d (.tup (ns.map T.int))=(ns.take d).any (· != 0):=by simp[rq,hns,ha]
     rw[hb];have e2:jJ [none] (ig (oP (fL 1) (λ_=>.ok none) (lb (fL 0)))) (jo 0) (λ_=>.ok true) (sY c) (vw (ik 2 [.int d,.tup (ns.map T.int)]))=.ok (((ns.take d).map λn=>n != 0).map T.bl):=by rw[vB (ns.take d) T.int (λn=>T.bl (n != 0)) (H9 (by rw[cW];exact Bc rfl rfl (by simp;omega))) (by simp;omega) λn hn=>⟨_,rfl,rfl,by simp[sY,bne]⟩];rw[aH];rfl
     refine gS rfl (fT (gY e0 rfl) (fT (gY (AF (gx (nM e1 (qI _))) ?_) rfl) (gB (nM e2 ?_))))
     ·rw[cv];simpa using ha
     ·rw[EY,cw];rfl
    ·have hb:rq d (.tup ts)=false:=by simp[rq,ha]
     rw[hb];refine gS rfl (fT (gY e0 rfl) (jW (iw (AF (gx (nM e1 (qI _))) ?_) (gB rfl)) rfl));rw[cv];simpa using ha
   ·have hb:rq d (.tup ts)=false:=by simp[rq,hn]
    rw[hb];refine gS rfl (jW (iw ?_ (gB rfl)) rfl);have:¬((ts.length:Int)=(d:Int)+1):=by omega
    simp[this]
  | _=>simp[r9] at ht
 ·have hb:rq d x=false:=by cases x<;>first | rfl | (simp[r9] at ht;done)
  rw[hb];refine gS rfl (jW (iw ?_ (gB rfl)) rfl);have hf:r9 x=false:=by simpa using ht
  have:=KA x hx;rw[hf] at this;simp only[L3.qg,L3.kh,gO,oq,fL,vw,ik,bF,b6,List.cons_append,List.nil_append,List.getElem?_cons_succ,List.getElem?_cons_zero,R4,M.bind_ok,this];rfl
theorem Nf{α:Type}(l:List α)(h:l≠[]):pK l (-1)=l.getLast?:=by obtain⟨m,a,rfl⟩:∃m a,l=m++[a]:=⟨l.dropLast,l.getLast h,(dg h).symm⟩;rw[L2.IR];simp
theorem DP(d:Nat)(h:1<=d/\d<=3):oA c [.int d]=.ok (.bl true):=by
 have w:jH c [.int d]=.ok (.bl true):=rfl;have h1:(1:Int)<=d:=by omega
 have h2:(d:Int)<=3:=by omega
 exact gS rfl (gB (by simp[w,h1,h2]))
theorem BN(n:Nat)(r:List Int)(hl:r.length=n)(hn:n<=100)(h:∀x∈r,-1<=x/\x<=1):pk c [.int n,tI r]=.ok (.bl true):=by
 have sz:1000<sizeLine:=by decide
 have w:∀i:Int,jH c [.int i]=.ok (.bl true):=λi=>rfl;have e1:jJ [none] (ig (fL 1)) (jo 0) (λ_=>.ok true) (pW c) (vw (ik 2 [.int n,tI r]))=.ok ((r.map λ_=>true).map T.bl):=by rw[vB r T.int (λ_=>T.bl true) rfl (by omega) λx hx=>⟨_,rfl,rfl,by simp[pW,w,(h x hx).1,(h x hx).2]⟩];simp
 refine gS rfl (fT (gY (by simp[tI,hl]) rfl) (gB (nM e1 ?_)));rw[qI];simp
theorem RZ(n:Nat):(List.replicate n [T.int 0]).flatten=(List.replicate n (0:Int)).map T.int:=by
 induction n with
 | zero=>rfl
 | succ n ih=>rw[bX,bY,ih,bX];rfl
theorem JP(n:Nat)(hn:n<=1000){f:Pe->M T}{ρ:Pe}(h:f ρ=.ok (.int (n:Int))):iO (uS (iO (lstM (fK (cM (.int 0)) fP))) f) ρ=.ok (.lst ((List.replicate n (0:Int)).map T.int)):=by
 have sz:1000<sizeLine:=by decide
 have hr:G5 (n:Int)=true:=nE (by omega);have h1:1<=sizeLine:=by decide
 have h2:n<=sizeLine:=by omega
 simp[h,hr,h1,h2,RZ]
end CL
namespace L3
open PySem L2
theorem o6{α:Type}{m:T->En->Option En}{g:En->O}(enc:α->T)(P:En->Prop)(p:α->Bool)(t:T):∀(l:List α) (ρ:En),P ρ->
  (∀a∈l,∀ρ,P ρ->∃ρ1,m (enc a) ρ=some ρ1/\(p a=true->∃ρ2,g ρ1=.nx ρ2/\P ρ2)/\(p a=false->g ρ1=.rt t))->
  (l.all p=true->∃ρ',jr m g (l.map enc) ρ=.nx ρ'/\P ρ')/\(l.all p=false->jr m g (l.map enc) ρ=.rt t)
 | [],ρ,h,_=>⟨λ_=>⟨ρ,rfl,h⟩,λh=>by simp at h⟩
 | a::l,ρ,h,st=>by
  obtain⟨ρ1,e1,h1,h2⟩:=st a (by simp) ρ h;rw[bF,jr,e1];dsimp only;cases hp:p a with
  | true=>obtain⟨ρ2,e2,q2⟩:=h1 hp;rw[e2];have ih:=o6 enc P p t l ρ2 q2 λb hb ρ hP=>st b (by simp[hb]) ρ hP;rw[bU,hp,dh];exact ih
  | false=>rw[h2 hp,bU,hp,Bool.false_and];exact⟨λz=>(by cases z),λ_=>rfl⟩
end L3
namespace CL
open PySem L2 L3
variable {c:Cs}
theorem J6{n:Nat}:Bn (n+1) 1:=by unfold Bn;rw[c7];have:=dk n;show 1<_;omega
def FS(s w:Int):Bool:=s == 0||(w == 0||qt w == s)
theorem BQ(ns:List Int):kC (ns.map T.int)=some ns:=by simp
theorem Hf(ws:List Int):C8 [.lst (ws.map T.int)]=.ok (.int ws.sum):=by simp
end CL
namespace L3
open PySem L2
theorem sS{α:Type}{m:T->En->Option En}{g:En->O}(enc:α->T)(P:Nat->En->Prop)(R:T->Prop):∀(l:List α) (k:Nat) (ρ:En),P k ρ->
  (∀i a ρ,l[i]? = some a->P (k+i) ρ->∃ρ1,m (enc a) ρ=some ρ1/\((∃ρ2,g ρ1=.nx ρ2/\P (k+i+1) ρ2)\/∃t,g ρ1=.rt t/\R t))->
  (∃ρ',jr m g (l.map enc) ρ=.nx ρ'/\P (k+l.length) ρ')\/∃t,jr m g (l.map enc) ρ=.rt t/\R t
 | [],k,ρ,h,_=>.inl ⟨ρ,rfl,h⟩
 | a::l,k,ρ,h,st=>by
  obtain⟨ρ1,e1,h1⟩:=st 0 a ρ rfl h;rw[bF,jr,e1];dsimp only;rcases h1 with⟨ρ2,e2,h2⟩ | ⟨t,e2,h2⟩
  ·rw[e2];rw[ay,show k+(l.length+1)=k+1+l.length by omega];exact sS enc P R l (k+1) ρ2 h2 λi b ρ hb hP=>by have:=st (i+1) b ρ (by simpa using hb) (by rw[show k+(i+1)=k+1+i by omega];exact hP);rw[show k+1+i+1=k+(i+1)+1 by omega];exact this
  ·rw[e2];exact .inr ⟨t,rfl,h2⟩
end L3
namespace CL
open PySem L2 L3
variable {c:Cs}
theorem JH{α:Type}(l:List α)(k:Nat)(h:k<l.length):pK l (k:Int)=some l[k]:=by unfold pK xF;rw[aP (by omega),aP (by omega)];simp[h]
theorem Fg(l:List Int)(k:Nat)(h:k<l.length):pK l (k:Int)=some (l.getD k 0):=by rw[JH l k h,af,ag h];rfl
theorem lp(l:List Int)(k:Nat)(h:k<l.length):l.getD k 0∈l:=by rw[af,ag h];exact aU h
theorem An(l:List Int)(k:Nat)(h:k<l.length):gX (.lst (l.map T.int)) (.int (k:Int))=.ok (.int (l.getD k 0)):=by simp[o9,Fg l k h]
theorem jT(l:List Int)(k:Nat)(h:k<l.length):gX (tI l) (.int (k:Int))=.ok (.int (l.getD k 0)):=by simp[tI,o9,Fg l k h]
theorem Q6(x:T)(xs:List T):gX (.lst (x::xs)) (.int 0)=.ok x:=by have h:=JH (x::xs) 0 (by simp);have h':pK (x::xs) (0:Int)=some x:=h;show (match pK (x::xs) (0:Int) with | some t=>M.ok t | none=>.bad)=_;rw[h']
theorem P3{ρ:Pe}{f1 f2 f3:Pe->M T}{a1 a2 a3:T}(h1:f1 ρ=.ok a1)(h2:f2 ρ=.ok a2)(h3:f3 ρ=.ok a3):iO (lstM (fK f1 (fK f2 (fK f3 fP)))) ρ=.ok (.lst [a1,a2,a3]):=by
 have hz:3<=sizeLine:=by decide
 simp only[iO,lstM,fK,fP,h1,h2,h3,M.bind_ok,AH,ay,cA,hz,if_true]
theorem Se(n:Nat)(x:T):(List.replicate n [x]).flatten=List.replicate n x:=by
 induction n with
 | zero=>rfl
 | succ n ih=>rw[bX,bY,ih,bX];rfl
end CL
namespace CL
abbrev Vc:=Nat->Int
inductive Qs(P:Vc->Prop):Vc->Prop
 | of {x:Vc}:P x->Qs P x
 | zero:Qs P λ_=>0
 | lin {x y z:Vc} {s a b:Int}:Qs P x->Qs P y->s≠0->(∀i,s*z i=a*x i+b*y i)->Qs P z
theorem Qs.sub{P P':Vc->Prop}(h:∀x,P x->Qs P' x){z:Vc}(q:Qs P z):Qs P' z:=by
 induction q with
 | of p=>exact h _ p
 | zero=>exact .zero
 | lin _ _ s e i1 i2=>exact .lin i1 i2 s e
theorem Qs.mono{P P':Vc->Prop}(h:∀x,P x->P' x){z:Vc}(q:Qs P z):Qs P' z:=q.sub λx p=>.of (h x p)
theorem Qs.comb{P:Vc->Prop}{x y:Vc}(a b:Int)(hx:Qs P x)(hy:Qs P y):Qs P λi=>a*x i+b*y i:=.lin (s:=1) hx hy (by decide) λi=>by rw[dm]
end CL
namespace CL
open PySem L2 L3
variable {c:Cs}
def vc(l:List Int):Vc:=λi=>l.getD i 0
theorem vQ(l:List Int)(i:Nat)(h:l.length<=i):vc l i=0:=by unfold vc;rw[af,List.getElem?_eq_none h];rfl
theorem sM(l:List Int)(i:Nat)(h:i<l.length):vc l i=l[i]:=by unfold vc;rw[af,ag h];rfl
def Q2(ah:List (Nat×List Int)):Vc->Prop:=λx=>∃p∈ah,x=vc p.2
theorem jk{α:Type}(l:List α)(k:Nat)(v:α)(h:l[k]? = some v):l.take (k+1)=l.take k++[v]:=by rw[List.take_succ,h];rfl
theorem tR{f:Pe->M T}{ρ:Pe}{i:Int}(h:f ρ=.ok (.int i)):uG (λi=>.int (-i)) f ρ=.ok (.int (-i)):=by simp only[uG,h,M.bind_ok]
theorem EE{n:Nat}:Bn n 0:=by unfold Bn;exact dk _
theorem GM(N:Nat)(hN:N<=8000)(row:List Int)(hl:row.length<1000)(hb:∀x∈row,Bn N x):∃(g:Int) (ys:List Int),0<g/\r6 c [tI row]=.ok (tI ys)/\ys.length=row.length/\(∀i,vc row i=g*vc ys i)/\∀y∈ys,Bn N y:=by
 have sz:1000<sizeLine:=by decide
 have main:=sS (m:=jF 2) (g:=yM c) T.int
  (λk ρ=>∃(dv:Int) (x2:Option W),ρ=[some (.p (tI row)),some (.p (.int dv)),x2]/\0<=dv/\Bn N dv/\∀x∈row.take k,dv ∣ x)
  (λt=>t=tI row) row 0 _ ⟨0,none,rfl,by decide,EE,λx hx=>by simp at hx⟩ (by
   rintro i x ρ hi ⟨dv,x2,rfl,h1,h2,h3⟩;rw[aF] at h3 ⊢;have hxm:=au hi;refine⟨_,rfl,?_⟩;have e1:setO 1 (iK (fW (fK (fL 1) (fK (fL 2) fP)) (iZ c))) [some (.p (tI row)),some (.p (.int dv)),some (.p (.int x))]=.nx [some (.p (tI row)),some (.p (.int (Cu.G dv x))),some (.p (.int x))]:=gh (hW rfl rfl (nY dv x)) rfl;by_cases h:Cu.G dv x=1
   ·right;exact⟨_,fT e1 (iw (gx (fR rfl rfl (by rw[iI,h];rfl))) (gB rfl)),rfl⟩
   ·left;refine⟨_,fT e1 (gY (gx (fR rfl rfl (by rw[iI];simp[h]))) rfl),_,_,rfl,Cu.wX _ _,?_,λz hz=>?_⟩
    ·by_cases hx0:x=0
     ·rw[hx0,Cu.Cy];exact b7 (by omega) h2
     ·have q1:=Cu.Pp dv x hx0;have q2:=Cu.wX dv x;exact b7 (by omega) (hb x hxm)
    ·rw[jk row i x hi] at hz;rcases ai.mp hz with q | q
     ·exact Int.dvd_trans (Cu.nJ dv x) (h3 z q)
     ·rw[aj.mp q];exact Cu.lI dv x)
 rcases main with⟨ρ',e,dv,x2,rfl,h1,h2,h3⟩ | ⟨t,e,rfl⟩
 ·rw[aF,du] at h3;by_cases h0:dv=0
  ·exact⟨1,row,by decide,gS rfl (fT (gh (t:=.int 0) rfl rfl) (fT (jb rfl e) (jW (iw (gx (fR rfl rfl (by rw[iI,h0];rfl))) (gB rfl)) rfl))),rfl,λi=>by rw[dm],hb⟩
  ·refine⟨dv,row.map (λx=>x.fdiv dv),by omega,gS rfl (fT (gh (t:=.int 0) rfl rfl) (fT (jb rfl e) (fT (gY (gx (fR rfl rfl (by rw[iI];simp[h0]))) rfl) (gB ?_)))),by simp,λi=>?_,λy hy=>?_⟩
   ·exact ou (t:=.lst ((row.map (λx=>x.fdiv dv)).map T.int)) (iY (jv row T.int (λx=>T.int (x.fdiv dv)) rfl (by omega) (λx hx=>⟨_,rfl,rfl,fR rfl rfl (md h0 (h2.noPy hN))⟩) (by rw[aH];rfl))) rfl
   ·by_cases hi:i<row.length
    ·rw[sM row i hi,sM _ i (by simpa using hi),dw];obtain⟨q,hq⟩:=h3 _ (aU hi);rw[hq,cQ q h0]
    ·rw[vQ row i (by omega),vQ _ i (by simp;omega),dy]
   ·obtain⟨x,hx,rfl⟩:=aC.mp hy;exact b7 (r0 (h3 x hx) h0) (hb x hx)
 ·exact⟨1,row,by decide,gS rfl (fT (gh (t:=.int 0) rfl rfl) (jW (jb rfl e) rfl)),rfl,λi=>by rw[dm],hb⟩
theorem t8{g x:Int}(hg:g≠0)(h:g*x=0):x=0:=by
 rcases dz.mp h with z | z
 ·exact absurd z hg
 ·exact z
theorem KH(o:Int):qt o*o=(o.natAbs:Int):=by
 unfold qt;split
 ·rw[dm];omega
 ·split
  ·rw[dA,dm];omega
  ·rw[dB];omega
def lO(p:Nat×List Int):T:=.tup [.int (p.1:Int),tI p.2]
def sm:Nat->(Nat->Int)->Int
 | 0,_=>0
 | n+1,f=>f 0+sm n λi=>f (i+1)
theorem kL:∀(n:Nat) (f g:Nat->Int),(∀i,i<n->f i=g i)->sm n f=sm n g
 | 0,_,_,_=>rfl
 | n+1,f,g,h=>by rw[sm,sm,h 0 (by omega),kL n _ _ λi hi=>h (i+1) (by omega)]
theorem zC(a b:Int):∀(n:Nat) (f g:Nat->Int),sm n (λi=>a*f i+b*g i)=a*sm n f+b*sm n g
 | 0,_,_=>by simp[sm]
 | n+1,f,g=>by rw[sm,sm,sm,zC a b n (λi=>f (i+1)) λi=>g (i+1),dC,dC];omega
theorem wY(a:Int):∀(n:Nat) (f:Nat->Int),sm n (λi=>a*f i)=a*sm n f
 | 0,_=>by simp[sm]
 | n+1,f=>by rw[sm,sm,wY a n λi=>f (i+1),dC]
theorem vv:∀n:Nat,sm n (λ_=>0)=0
 | 0=>rfl
 | n+1=>by rw[sm,vv n];rfl
theorem AV:∀(n k:Nat) (f:Nat->Int),k<n->sm n (λi=>(if i=k then 1 else 0)*f i)=f k
 | 0,k,f,h=>absurd h (cX _)
 | n+1,0,f,h=>by rw[sm,aP rfl,dm,kL n _ (λ_=>0) (λi _=>by rw[aQ (by omega),dB]),vv,dD]
 | n+1,k+1,f,h=>by rw[sm,aQ (by omega),dB,Int.zero_add,kL n _ (λi=>(if i=k then 1 else 0)*f (i+1)) (λi _=>by simp),AV n k (λi=>f (i+1)) (by omega)]
theorem Qs.at0{P:Vc->Prop}{k:Nat}(h:∀x,P x->x k=0){z:Vc}(q:Qs P z):z k=0:=by
 induction q with
 | of p=>exact h _ p
 | zero=>rfl
 | lin _ _ hs e i1 i2=>exact t8 hs (by rw[e k,i1,i2,dy,dy];rfl)
theorem wg:∀(m:Nat) (l:List Nat),l.Nodup->(∀x∈l,x<m)->l.length<=m
 | 0,[],_,_=>aJ _
 | 0,x::l,_,h=>absurd (h x (bj ..)) (cX _)
 | m+1,l,hn,h=>by
  have h1:=wg m (l.erase m) (hn.erase m) λx hx=>by have q:=(hn.mem_erase_iff).mp hx;have:=h x q.2;have:=q.1;omega
  by_cases hm:m∈l
  ·rw[dE hm] at h1;omega
  ·rw[List.erase_of_not_mem hm] at h1;omega
theorem Ae{ρ:Pe}{fa fb:Pe->M T}{a b:List T}(ha:fa ρ=.ok (.lst a))(hb:fb ρ=.ok (.lst b))(hz:a.length+b.length<=sizeLine):Ck fa fb ρ=.ok (a++b):=by simp only[Ck,ha,hb,M.bind_ok];rw[aP hz]
theorem Ie{ρ:Pe}{f:Pe->M T}{a:T}(h:f ρ=.ok a):iO (lstM (fK f fP)) ρ=.ok (.lst [a]):=by
 have hz:1<=sizeLine:=by decide
 simp only[iO,lstM,fK,fP,h,M.bind_ok,AH,ay,cA,hz,if_true]
theorem RF{ρ:Pe}{f:Pe->M T}{a:T}(h:f ρ=.ok a):jO (fK f fP) ρ=.ok (.tup [a]):=by
 have hz:1<=sizeLine:=by decide
 simp only[jO,fK,fP,h,M.bind_ok,AH,ay,cA,hz,if_true]
theorem oj{ρ:Pe}{f g:Pe->M T}{a b:T}(h:f ρ=.ok a)(h2:g ρ=.ok b):jO (fK f (fK g fP)) ρ=.ok (.tup [a,b]):=by
 have hz:2<=sizeLine:=by decide
 simp only[jO,fK,fP,h,h2,M.bind_ok,AH,ay,cA,hz,if_true]
theorem Hl{ρ:Pe}{f:Pe->M (List T)}{ts:List T}(h:iO f ρ=.ok (.lst ts)):f ρ=.ok ts:=by
 unfold iO at h;cases hf:f ρ with
 | ok us=>rw[hf] at h;cases h;rfl
 | bad=>rw[hf] at h;cases h
 | er a b=>rw[hf] at h;cases h
theorem KL(a b:List T)(h:a.length+b.length<=sizeLine):iV (.tup a) (.tup b)=.ok (.tup (a++b)):=by unfold iV;exact aP h
theorem Jk(a b:List Int)(h:a.length+b.length<=1000):iV (tI a) (tI b)=.ok (tI (a++b)):=by
 have sz:1000<sizeLine:=by decide
 unfold tI;rw[KL _ _ (by simp;omega),aY]
theorem xY(pv:List (Nat×List Int))(left:List Int)(a:Nat)(f:Nat×List Int->List Int)(hl:pv.length<=100)(hf:∀p∈pv,i6 c [tI p.2,tI left,.int (a:Int)]=.ok (tI (f p))) :
  lY c [.lst (pv.map lO),tI left,.int (a:Int)]=.ok ((pv.map (λp=>(p.1,f p))++[(a,left)]).map lO):=by
 have sz:1000<sizeLine:=by decide
 have e1:jJ [none,none,some 1,some 2] (ig (fL 0)) (o4 2 (i8 (jo 0) (i8 (jo 1) o7))) (λ_=>.ok true) (qY c) (vw (ik 3 [.lst (pv.map lO),tI left,.int (a:Int)]))=.ok ((pv.map (λp=>(p.1,f p))).map lO):=jv pv lO (λp=>lO (p.1,f p)) rfl (by omega) (λp hp=>⟨_,rfl,rfl,oj rfl (lg rfl rfl rfl (hf p hp))⟩) (by rw[aH];rfl)
 refine qi rfl (AB ?_);rw[aY];exact Ae (iY e1) (Ie (oj rfl rfl)) (by simp;omega)
theorem tK{α β:Type}[Inhabited β]{P:α->β->Prop}(l:List α)(h:∀a∈l,∃b,P a b):∃f:α->β,∀a∈l,P a (f a):=⟨λa=>Classical.epsilon λb=>P a b,λa ha=>Classical.epsilon_spec (h a ha)⟩
theorem BM(rows:List (List Int))(hn:rows.length<=8)(hl:∀r∈rows,r.length<=100):pF c [.lst (rows.map tI)]=.ok ((rows.zipIdx.map λp=>p.1++(List.replicate rows.length (0:Int)).set p.2 1).map tI):=by
 have sz:1000<sizeLine:=by decide
 obtain⟨ρ,e,x2,x3,x4,rfl⟩:=iH (m:=kD 2 (g9 (jF 2) (g9 (jF 3) kr))) (g:=ux c) (λ(p:List Int×Nat)=>T.tup [.int (p.2:Int),tI p.1])
  (λk ρ=>∃x2 x3 x4:Option W,ρ=[some (.p (.lst (rows.map tI))),some (.o (((rows.zipIdx.take k).map λp=>p.1++(List.replicate rows.length (0:Int)).set p.2 1).map tI)),x2,x3,x4])
  rows.zipIdx 0 _ ⟨none,none,none,rfl⟩ (by
   rintro i ⟨r,k⟩ ρ hi ⟨x2,x3,x4,rfl⟩;rw[aF];have hmem:=au hi;have hj2:=List.mem_zipIdx hmem;have hkl:k<rows.length:=by omega
   have hrl:r.length<=100:=hl r (by rw[hj2.2.2];exact aU _);have hil:i<rows.length:=by have:=(aa.mp hi).1;simpa using this
   have hix:xF ((List.replicate rows.length (0:Int)).map T.int).length (k:Int)=some k:=by unfold xF;rw[aP (by omega),aP (by rw[aw,bN];omega)];simp
   refine⟨_,_,rfl,.inl (fT (mm (ts:=(List.replicate rows.length (0:Int)).map T.int) (Hl (JP rows.length (by omega) (ou rfl (by simp)))) rfl) (fT (AL (us:=(List.replicate rows.length (0:Int)).map T.int) (t:=.int 1) (j:=(k:Int)) (m:=k) rfl rfl rfl rfl hix rfl) (Kv (t:=tI (r++(List.replicate rows.length (0:Int)).set k 1)) rfl ?_ (by simp) (by simp;omega) rfl))),some (.p (.int (k:Int))),some (.p (tI r)),some (.o (((List.replicate rows.length (0:Int)).map T.int).set k (.int 1))),?_⟩
   ·refine fR (x:=tI r) (y:=tI ((List.replicate rows.length (0:Int)).set k 1)) rfl (ou (t:=.lst (((List.replicate rows.length (0:Int)).set k 1).map T.int)) ?_ rfl) (Jk _ _ (by simp;omega));show (M.ok (T.lst (((List.replicate rows.length (0:Int)).map T.int).set k (.int 1))))=_;rw[<-dF]
   ·rw[jk _ i (r,k) hi,aY,aY];rfl)
 rw[aF,du] at e;refine qi rfl (fT (mm (ts:=[]) (by simp) rfl) (fT (jb ?_ e) rfl));rw[<-zu];rfl
end CL
namespace CL
def jf(m:Nat)(A u:Vc):Int:=sm m λi=>A i*u i
theorem pE{m:Nat}{A x y z:Vc}{s a b:Int}(h:∀i,s*z i=a*x i+b*y i):s*jf m A z=a*jf m A x+b*jf m A y:=by
 unfold jf;rw[<-wY,<-zC];refine kL m _ _ λi _=>?_;have:=h i;calc s*(A i*z i)=A i*(s*z i):=by rw[Int.mul_left_comm]
  _=A i*(a*x i+b*y i):=by rw[this]
  _=a*(A i*x i)+b*(A i*y i):=by grind
structure kq(m:Nat)(As:List Vc)(u:Vc):Prop where
 nn:∀i,0<=u i
 out:∀i,m<=i->u i=0
 ne:∃i,u i≠0
 eq:∀A∈As,jf m A u=0
def cs(m:Nat)(u:Vc):Nat:=(List.range m).countP λi=>decide (u i≠0)
theorem Qp{m:Nat}{u v:Vc}(h:∀i,i<m->v i=0->u i=0):cs m u<=cs m v:=by unfold cs;refine dG λi hi q=>?_;have hi':=aR.mp hi;simp only[decide_eq_true_eq] at q ⊢;exact λz=>q (h i hi' z)
theorem yR{α:Type}{p q:α->Bool}:∀{l:List α},(∀a∈l,p a=true->q a=true)->(∃a∈l,q a=true/\p a=false)->l.countP p<l.countP q
 | [],_,⟨_,h,_⟩=>by cases h
 | a::l,h,⟨b,hb,h1,h2⟩=>by
  rw[List.countP_cons,List.countP_cons];have mono:l.countP p<=l.countP q:=dG λc hc=>h c (by simp[hc]);rcases aE.mp hb with rfl | hb
  ·rw[h1,h2];simp;omega
  ·have ih:=yR (λc hc=>h c (by simp[hc])) ⟨b,hb,h1,h2⟩;cases hp:p a with
   | true=>rw[h a (by simp) hp];simp;omega
   | false=>cases hq:q a<;>simp<;>omega
theorem BH{m:Nat}{u v:Vc}(h:∀i,i<m->v i=0->u i=0){k:Nat}(hk:k<m)(h1:v k≠0)(h2:u k=0):cs m u<cs m v:=by unfold cs;refine yR (λi hi q=>?_) ⟨k,aR.mpr hk,by simpa using h1,by simpa using h2⟩;have hi':=aR.mp hi;simp only[decide_eq_true_eq] at q ⊢;exact λz=>q (h i hi' z)
theorem M6(u v:Vc):∀m,(∃j,j<m/\0<v j)->∃k,k<m/\0<v k/\∀i,i<m->0<v i->u k*v i<=u i*v k
 | 0,⟨_,h,_⟩=>absurd h (cX _)
 | m+1,⟨j,hj,hv⟩=>by
  by_cases he:∃j,j<m/\0<v j
  ·obtain⟨k,hk,h1,h2⟩:=M6 u v m he;by_cases hm:0<v m
   ·by_cases hc:u k*v m<=u m*v k
    ·refine⟨k,by omega,h1,λi hi hvi=>?_⟩;by_cases e:i=m
     ·subst e;exact hc
     ·exact h2 i (by omega) hvi
    ·refine⟨m,by omega,hm,λi hi hvi=>?_⟩;by_cases e:i=m
     ·subst e;exact dH _
     ·have a:=h2 i (by omega) hvi;have hc':u m*v k<=u k*v m:=az (Int.not_le.mp hc);have e1:u m*v i*v k<=u i*v m*v k:=by
       have x1:=aI hc' (az hvi);have x2:=aI a (az hm);have y1:u m*v i*v k=u m*v k*v i:=by grind
       have y2:u k*v m*v i=u k*v i*v m:=by grind
       have y3:u i*v m*v k=u i*v k*v m:=by grind
       rw[y1,y3];rw[y2] at x1;exact dI x1 x2
      exact Int.le_of_mul_le_mul_right e1 h1
   ·refine⟨k,by omega,h1,λi hi hvi=>?_⟩;by_cases e:i=m
    ·subst e;exact absurd hvi hm
    ·exact h2 i (by omega) hvi
  ·have jm:j=m:=by
    rcases dJ j m with h | h
    ·exact absurd ⟨j,h,hv⟩ he
    ·omega
   subst jm;refine⟨j,by omega,hv,λi hi hvi=>?_⟩;by_cases e:i=j
   ·subst e;exact dH _
   ·exact absurd ⟨i,by omega,hvi⟩ he
theorem xu{m:Nat}{As:List Vc}{u v:Vc}(hu:kq m As u)(vo:∀i,m<=i->v i=0)(ve:∀A∈As,jf m A v=0)(vp:∃j,j<m/\0<v j)(vs:∀i,u i=0->v i=0) :
  ∃k,k<m/\0<v k/\0<u k/\(∀i,0<=v k*u i - u k*v i)/\(∀i,m<=i->v k*u i - u k*v i=0)/\(∀A∈As,jf m A (λi=>v k*u i - u k*v i)=0)/\cs m (λi=>v k*u i - u k*v i)<cs m u:=by
 obtain⟨k,hk,h1,h2⟩:=M6 u v m vp;have uk:u k≠0:=λz=>by rw[vs k z] at h1;exact absurd h1 (by decide)
 have uk0:0<u k:=by have:=hu.nn k;omega
 refine⟨k,hk,h1,uk0,λi=>?_,λi hi=>?_,λA hA=>?_,?_⟩
 ·by_cases hi:i<m
  ·by_cases hv:0<v i
   ·have:=h2 i hi hv;rw[cP (v k)];omega
   ·have a:0<=v k*u i:=aO (az h1) (hu.nn i);have b:u k*v i<=0:=Int.mul_nonpos_of_nonneg_of_nonpos (az uk0) (by omega);omega
  ·rw[hu.out i (by omega),vo i (by omega)];simp
 ·rw[hu.out i hi,vo i hi];simp
 ·have:=pE (m:=m) (A:=A) (x:=u) (y:=v) (z:=λi=>v k*u i - u k*v i) (s:=1) (a:=v k) (b:=-u k) (λi=>by grind);rw[hu.eq A hA,ve A hA] at this;simpa using this
 ·refine BH (λi _ z=>?_) hk uk ?_
  ·rw[z,vs i z];simp
  ·rw[cP];omega
theorem xh(m:Nat):∀(As:List Vc) (T:List Nat),T.Nodup->(∀t∈T,t<m)->As.length<T.length->∃v:Vc,(∃i,v i≠0)/\(∀i,i∉T->v i=0)/\∀A∈As,jf m A v=0
 | [],T,nd,ht,hl=>by
  cases T with
  | nil=>cases hl
  | cons t T=>refine⟨λi=>if i=t then 1 else 0,⟨t,by simp⟩,λi hi=>?_,λA hA=>nomatch hA⟩;have:i≠t:=λz=>hi (by simp[z]);simp[this]
 | A::As,T,nd,ht,hl=>by
  cases T with
  | nil=>cases hl
  | cons t T=>
   obtain⟨nd1,nd2⟩:=bK.mp nd;have hl':As.length<T.length:=by simp at hl;exact hl
   obtain⟨v1,⟨j,hj⟩,o1,e1⟩:=xh m As T nd2 (λx hx=>ht x (by simp[hx])) hl';have hjT:j∈T:=aN λz=>hj (o1 j z);have lt2:As.length<((t::T).erase j).length:=by have hm:j∈t::T:=bu _ hjT;rw[dE hm,ay];exact hl'
   obtain⟨v2,⟨k,hk⟩,o2,e2⟩:=xh m As ((t::T).erase j) (nd.erase j) (λx hx=>ht x (dM hx)) lt2;have v2j:v2 j=0:=o2 j (λz=>by rw[List.Nodup.mem_erase_iff nd] at z;exact z.1 rfl);by_cases hA:jf m A v2=0
   ·exact⟨v2,⟨k,hk⟩,λi hi=>o2 i (λz=>hi (dM z)),λB hB=>by
     rcases aE.mp hB with rfl | hB
     ·exact hA
     ·exact e2 B hB⟩
   ·refine⟨λi=>jf m A v2*v1 i - jf m A v1*v2 i,⟨j,?_⟩,λi hi=>?_,λB hB=>?_⟩
    ·dsimp only;rw[v2j];simp[hA,hj]
    ·show jf m A v2*v1 i - jf m A v1*v2 i=0;rw[o1 i (λz=>hi (by simp[z])),o2 i (λz=>hi (dM z))];simp
    ·have:=pE (m:=m) (A:=B) (x:=v1) (y:=v2) (z:=λi=>jf m A v2*v1 i - jf m A v1*v2 i) (s:=1) (a:=jf m A v2) (b:=-jf m A v1) (λi=>by grind);rcases aE.mp hB with rfl | hB
     ·rw[dm] at this;rw[this];grind
     ·rw[e1 B hB,e2 B hB] at this;simpa using this
def Oy(m:Nat)(As:List Vc)(u:Vc):Prop:=kq m As u/\∀v,kq m As v->(∀i,u i=0->v i=0)->∀i,v i=0->u i=0
theorem Iw{m:Nat}{As:List Vc}{u:Vc}(h:Oy m As u):cs m u<=As.length+1:=by
 obtain⟨hu,hm⟩:=h;refine Nat.le_of_not_lt λhlt=>?_;let S:=(List.range m).filter λi=>decide (u i≠0);have hS:S.length=cs m u:=by show (List.filter _ _).length=_;unfold cs;rw[dN]
 have mS:∀i,i∈S↔i<m/\u i≠0:=λi=>by show i∈List.filter _ _↔_;simp
 have ndS:S.Nodup:=List.Pairwise.filter _ dO;cases hSc:S with
 | nil=>rw[hSc] at hS;simp at hS;omega
 | cons t T=>
  rw[hSc] at hS ndS;simp only[ay] at hS;obtain⟨nd1,nd2⟩:=bK.mp ndS;have mT:∀i∈T,i<m/\u i≠0:=λi hi=>(mS i).mp (by rw[hSc];simp[hi]);obtain⟨v0,⟨j,hj⟩,o0,e0⟩:=xh m As T nd2 (λi hi=>(mT i hi).1) (by omega);obtain⟨v,vo,ve,vp,vt⟩:∃v:Vc,(∀i,i∉T->v i=0)/\(∀A∈As,jf m A v=0)/\(∃j,j<m/\0<v j)/\v t=0:=by
   have hjT:j∈T:=aN λz=>hj (o0 j z);by_cases hp:0<v0 j
   ·exact⟨v0,o0,e0,⟨j,(mT j hjT).1,hp⟩,o0 t nd1⟩
   ·refine⟨λi=>-v0 i,λi hi=>by show -v0 i=0;rw[o0 i hi];rfl,λA hA=>?_,⟨j,(mT j hjT).1,by show 0 < -v0 j;omega⟩,by show -v0 t=0;rw[o0 t nd1];rfl⟩;have:=pE (m:=m) (A:=A) (x:=v0) (y:=v0) (z:=λi=>-v0 i) (s:=1) (a:=-1) (b:=0) (λi=>by grind);rw[e0 A hA] at this;simpa using this
  have tu:t<m/\u t≠0:=(mS t).mp (by rw[hSc];simp);obtain⟨k,hk,a1,a2,a3,a4,a5,a6⟩:=xu hu (λi hi=>vo i (λz=>by have:=(mT i z).1;omega)) ve vp (λi z=>vo i (λw=>(mT i w).2 z));have cn:kq m As (λi=>v k*u i - u k*v i):=⟨a3,a4,⟨t,by rw[vt];simp;exact⟨by omega,tu.2⟩⟩,a5⟩;have uk:=hm _ cn (λi z=>by rw[z,vo i (λw=>(mT i w).2 z)];simp) k (by rw[cP];omega);omega
theorem E3{m:Nat}{As Bs:List Vc}{u:Vc}(h:kq m Bs u)(hs:∀A∈As,A∈Bs):kq m As u:=⟨h.nn,h.out,h.ne,λA hA=>h.eq A (hs A hA)⟩
inductive Cn(P:Vc->Prop):Vc->Prop
 | of {x:Vc}:P x->Cn P x
 | lin {x y z:Vc} {s a b:Int}:Cn P x->Cn P y->0<s->0<=a->0<=b->0<a+b->(∀i,s*z i=a*x i+b*y i)->Cn P z
theorem Cn.mono{P P':Vc->Prop}(h:∀x,P x->P' x){z:Vc}(q:Cn P z):Cn P' z:=by
 induction q with
 | of q=>exact .of (h _ q)
 | lin _ _ hs ha hb hab e i1 i2=>exact .lin i1 i2 hs ha hb hab e
theorem Cn.parts{P:Vc->Prop}(hP:∀x,P x->∀i,0<=x i){f:Vc->Int}(hf:∀x y z s a b,(∀i,s*z i=a*x i+b*y i)->s*f z=a*f x+b*f y){z:Vc}(h:Cn P z) :
  (∀i,0<=z i)/\(0<f z->∃g,P g/\(∀i,z i=0->g i=0)/\0<f g)/\(f z<0->∃g,P g/\(∀i,z i=0->g i=0)/\f g<0)/\
   (f z=0->(∃g,P g/\(∀i,z i=0->g i=0)/\f g=0)\/∃g g',P g/\P g'/\(∀i,z i=0->g i=0)/\(∀i,z i=0->g' i=0)/\0<f g/\f g'<0):=by
 induction h with
 | of h=>rename_i x;exact⟨hP _ h,λq=>⟨x,h,λ_ z=>z,q⟩,λq=>⟨x,h,λ_ z=>z,q⟩,λq=>.inl ⟨x,h,λ_ z=>z,q⟩⟩
 | lin _ _ hs ha hb hab e i1 i2=>
  rename_i x y z s a b _ _;obtain⟨n1,p1,m1,z1⟩:=i1;obtain⟨n2,p2,m2,z2⟩:=i2;have q:=hf _ _ _ _ _ _ e;have nz:∀i,0<=z i:=λi=>by
   have h1:=aO ha (n1 i);have h2:=aO hb (n2 i);have h3:0<=s*z i:=by rw[e i];omega
   exact Int.le_of_mul_le_mul_left (a:=s) (by simpa using h3) hs
  have sx:0<a->∀i,z i=0->x i=0:=λha' i zi=>by
   have:=e i;rw[zi,dy] at this;have h1:=aO ha (n1 i);have h2:=aO hb (n2 i);have h3:a*x i=0:=by omega
   rcases dz.mp h3 with h | h
   ·omega
   ·exact h
  have sy:0<b->∀i,z i=0->y i=0:=λhb' i zi=>by
   have:=e i;rw[zi,dy] at this;have h1:=aO ha (n1 i);have h2:=aO hb (n2 i);have h3:b*y i=0:=by omega
   rcases dz.mp h3 with h | h
   ·omega
   ·exact h
  have up:∀{g w:Vc},(∀i,z i=0->w i=0)->(∀i,w i=0->g i=0)->∀i,z i=0->g i=0:=λh1 h2 i zi=>h2 i (h1 i zi);have fa:0<a->(0<f x->0<a*f x)/\(f x<0->a*f x<0):=λha'=>⟨λh=>aW ha' h,λh=>dP ha' h⟩;have fb:0<b->(0<f y->0<b*f y)/\(f y<0->b*f y<0):=λhb'=>⟨λh=>aW hb' h,λh=>dP hb' h⟩;have fs:(0<f z->0<s*f z)/\(f z<0->s*f z<0):=⟨λh=>aW hs h,λh=>dP hs h⟩;by_cases a0:a=0
  ·subst a0;have hb':0<b:=by omega
   rw[dB,Int.zero_add] at q;refine⟨nz,λh=>?_,λh=>?_,λh=>?_⟩
   ·have h1:=fs.1 h;have h2:0<f y:=by
     rcases dQ 0 (f y) with h3 | h3 | h3
     ·exact h3
     ·rw[<-h3] at q;omega
     ·have:=(fb hb').2 h3;omega
    obtain⟨g,g1,g2,g3⟩:=p2 h2;exact⟨g,g1,up (sy hb') g2,g3⟩
   ·have h1:=fs.2 h;have h2:f y<0:=by
     rcases dQ 0 (f y) with h3 | h3 | h3
     ·have:=(fb hb').1 h3;omega
     ·rw[<-h3] at q;omega
     ·exact h3
    obtain⟨g,g1,g2,g3⟩:=m2 h2;exact⟨g,g1,up (sy hb') g2,g3⟩
   ·rw[h,dy] at q;have h2:f y=0:=by rcases dz.mp q.symm with h | h<;>omega
    rcases z2 h2 with⟨g,g1,g2,g3⟩ | ⟨g,g',g1,g2,g3,g4,g5⟩
    ·exact .inl ⟨g,g1,up (sy hb') g2,g3⟩
    ·exact .inr ⟨g,g',g1,g2,up (sy hb') g3,up (sy hb') g4,g5⟩
  ·have ha':0<a:=by omega
   by_cases b0:b=0
   ·subst b0;rw[dB,dD] at q;refine⟨nz,λh=>?_,λh=>?_,λh=>?_⟩
    ·have h1:=fs.1 h;have h2:0<f x:=by
      rcases dQ 0 (f x) with h3 | h3 | h3
      ·exact h3
      ·rw[<-h3] at q;omega
      ·have:=(fa ha').2 h3;omega
     obtain⟨g,g1,g2,g3⟩:=p1 h2;exact⟨g,g1,up (sx ha') g2,g3⟩
    ·have h1:=fs.2 h;have h2:f x<0:=by
      rcases dQ 0 (f x) with h3 | h3 | h3
      ·have:=(fa ha').1 h3;omega
      ·rw[<-h3] at q;omega
      ·exact h3
     obtain⟨g,g1,g2,g3⟩:=m1 h2;exact⟨g,g1,up (sx ha') g2,g3⟩
    ·rw[h,dy] at q;have h2:f x=0:=by rcases dz.mp q.symm with h | h<;>omega
     rcases z1 h2 with⟨g,g1,g2,g3⟩ | ⟨g,g',g1,g2,g3,g4,g5⟩
     ·exact .inl ⟨g,g1,up (sx ha') g2,g3⟩
     ·exact .inr ⟨g,g',g1,g2,up (sx ha') g3,up (sx ha') g4,g5⟩
   ·have hb':0<b:=by omega
    have A1:=fa ha';have B1:=fb hb';have a00:f x=0->a*f x=0:=λh=>by rw[h,dy]
    have b00:f y=0->b*f y=0:=λh=>by rw[h,dy]
    refine⟨nz,λh=>?_,λh=>?_,λh=>?_⟩
    ·have h1:=fs.1 h;by_cases hx:0<f x
     ·obtain⟨g,g1,g2,g3⟩:=p1 hx;exact⟨g,g1,up (sx ha') g2,g3⟩
     ·have hy:0<f y:=by
       rcases dQ 0 (f y) with h3 | h3 | h3
       ·exact h3
       ·have:=b00 h3.symm;rcases dQ 0 (f x) with h4 | h4 | h4
        ·omega
        ·have:=a00 h4.symm;omega
        ·have:=A1.2 h4;omega
       ·have:=B1.2 h3;rcases dQ 0 (f x) with h4 | h4 | h4
        ·omega
        ·have:=a00 h4.symm;omega
        ·have:=A1.2 h4;omega
      obtain⟨g,g1,g2,g3⟩:=p2 hy;exact⟨g,g1,up (sy hb') g2,g3⟩
    ·have h1:=fs.2 h;by_cases hx:f x<0
     ·obtain⟨g,g1,g2,g3⟩:=m1 hx;exact⟨g,g1,up (sx ha') g2,g3⟩
     ·have hy:f y<0:=by
       rcases dQ 0 (f y) with h3 | h3 | h3
       ·have:=B1.1 h3;rcases dQ 0 (f x) with h4 | h4 | h4
        ·have:=A1.1 h4;omega
        ·have:=a00 h4.symm;omega
        ·omega
       ·have:=b00 h3.symm;rcases dQ 0 (f x) with h4 | h4 | h4
        ·have:=A1.1 h4;omega
        ·have:=a00 h4.symm;omega
        ·omega
       ·exact h3
      obtain⟨g,g1,g2,g3⟩:=m2 hy;exact⟨g,g1,up (sy hb') g2,g3⟩
    ·rw[h,dy] at q;rcases dQ 0 (f x) with h4 | h4 | h4
     ·have h5:=A1.1 h4;have hy:f y<0:=by
       rcases dQ 0 (f y) with h3 | h3 | h3
       ·have:=B1.1 h3;omega
       ·have:=b00 h3.symm;omega
       ·exact h3
      obtain⟨g,g1,g2,g3⟩:=p1 h4;obtain⟨k,k1,k2,k3⟩:=m2 hy;exact .inr ⟨g,k,g1,k1,up (sx ha') g2,up (sy hb') k2,g3,k3⟩
     ·rcases z1 h4.symm with⟨g,g1,g2,g3⟩ | ⟨g,g',g1,g2,g3,g4,g5⟩
      ·exact .inl ⟨g,g1,up (sx ha') g2,g3⟩
      ·exact .inr ⟨g,g',g1,g2,up (sx ha') g3,up (sx ha') g4,g5⟩
     ·have h5:=A1.2 h4;have hy:0<f y:=by
       rcases dQ 0 (f y) with h3 | h3 | h3
       ·exact h3
       ·have:=b00 h3.symm;omega
       ·have:=B1.2 h3;omega
      obtain⟨g,g1,g2,g3⟩:=m1 h4;obtain⟨k,k1,k2,k3⟩:=p2 hy;exact .inr ⟨k,g,k1,g1,up (sy hb') k2,up (sx ha') g2,k3,g3⟩
theorem GT{m:Nat}{As:List Vc}{u z:Vc}(hu:Oy m As u)(hz:kq m As z)(hs:∀i,u i=0->z i=0):∃s a:Int,0<s/\0<a/\∀i,s*u i=a*z i:=by
 obtain⟨j,hj⟩:=hz.ne;have jm:j<m:=by
  rcases dJ j m with h | h
  ·exact h
  ·exact absurd (hz.out j h) hj
 have jp:0<z j:=by have:=hz.nn j;omega
 obtain⟨k,hk,a1,a2,a3,a4,a5,a6⟩:=xu hu.1 hz.out hz.eq ⟨j,jm,jp⟩ hs;refine⟨z k,u k,a1,a2,λi=>?_⟩;refine aN λhne=>?_;have cn:kq m As (λi=>z k*u i - u k*z i):=⟨a3,a4,⟨i,by omega⟩,a5⟩;have:=hu.2 _ cn (λi z=>by rw[z,hs i z];simp) k (by rw[cP];omega);omega
theorem NP(m:Nat)(A:Vc):∀(x y z:Vc) (s a b:Int),(∀i,s*z i=a*x i+b*y i)->s*jf m A z=a*jf m A x+b*jf m A y:=λ_ _ _ _ _ _ h=>pE h
theorem OB{m:Nat}{As:List Vc}{A:Vc}{P P':Vc->Prop}(hP:∀x,P x->kq m As x)(gen:∀u,kq m As u->Cn P u)(h0:∀x,P x->jf m A x=0->P' x)
  (h1:∀x y,P x->P y->0<jf m A x->jf m A y<0->cs m (λi=>(-jf m A y)*x i+jf m A x*y i)<=As.length+2->P' (λi=>(-jf m A y)*x i+jf m A x*y i)) :
  ∀(n:Nat) (u:Vc),cs m u<=n->kq m (A::As) u->Cn P' u:=by
 intro n;induction n with
 | zero=>
  intro u hn hu;obtain⟨i,hi⟩:=hu.ne;have im:i<m:=by
   rcases dJ i m with h | h
   ·exact h
   ·exact absurd (hu.out i h) hi
  have:=BH (m:=m) (u:=λ_=>0) (v:=u) (λ_ _ _=>rfl) im hi rfl;omega
 | succ n ih=>
  intro u hn hu;by_cases hm:Oy m (A::As) u
  ·have hu':kq m As u:=E3 hu λB hB=>by simp[hB]
   have hz:∃z,P' z/\kq m (A::As) z/\∀i,u i=0->z i=0:=by
    obtain⟨_,_,_,hp⟩:=(gen u hu').parts (λx hx=>(hP x hx).nn) (NP m A);rcases hp (hu.eq A (by simp)) with⟨g,g1,g2,g3⟩ | ⟨g,g',g1,g2,g3,g4,g5,g6⟩
    ·exact⟨g,h0 g g1 g3,⟨(hP g g1).nn,(hP g g1).out,(hP g g1).ne,λB hB=>by
      rcases aE.mp hB with rfl | hB
      ·exact g3
      ·exact (hP g g1).eq B hB⟩,g2⟩
    ·have c1:=hP g g1;have c2:=hP g' g2;have lin:∀B,jf m B (λi=>(-jf m A g')*g i+jf m A g*g' i)=(-jf m A g')*jf m B g+jf m A g*jf m B g':=λB=>by have:=pE (m:=m) (A:=B) (x:=g) (y:=g') (z:=λi=>(-jf m A g')*g i+jf m A g*g' i) (s:=1) (a:=-jf m A g') (b:=jf m A g) (λi=>by grind);simpa using this
     have p1:0 < -jf m A g':=by omega
     obtain⟨j,hj⟩:=c1.ne;have cz:kq m (A::As) (λi=>(-jf m A g')*g i+jf m A g*g' i):=by
      refine⟨λi=>?_,λi hi=>?_,⟨j,?_⟩,λB hB=>?_⟩
      ·have x1:=aO (az p1) (c1.nn i);have x2:=aO (az g5) (c2.nn i);omega
      ·rw[c1.out i hi,c2.out i hi];simp
      ·have gj:0<g j:=by have:=c1.nn j;omega
       have x1:=aW p1 gj;have x2:=aO (az g5) (c2.nn j);omega
      ·rw[lin B];rcases aE.mp hB with rfl | hB
       ·grind
       ·rw[c1.eq B hB,c2.eq B hB];simp
     have sz:∀i,u i=0->(-jf m A g')*g i+jf m A g*g' i=0:=λi hi=>by rw[g3 i hi,g4 i hi];simp
     refine⟨_,h1 g g' g1 g2 g5 g6 ?_,cz,sz⟩;have f1:=Iw hm;have f2:cs m (λi=>(-jf m A g')*g i+jf m A g*g' i)<=cs m u:=Qp λi _ z=>sz i z;simp only[ay] at f1;omega
   obtain⟨z,pz,cz,sz⟩:=hz;obtain⟨s,a,hs,ha,e⟩:=GT hm cz sz;exact .lin (.of pz) (.of pz) hs (az ha) (dH 0) (by omega) λi=>by rw[e i];simp
  ·obtain⟨v,hv,vs,k,vk,uk⟩:∃v,kq m (A::As) v/\(∀i,u i=0->v i=0)/\∃k,v k=0/\u k≠0:=by refine aN λhne=>hm ⟨hu,λv hv vs i vi=>aN λui=>hne ⟨v,hv,vs,i,vi,ui⟩⟩
   have km:k<m:=by
    rcases dJ k m with h | h
    ·exact h
    ·exact absurd (hu.out k h) uk
   obtain⟨j,hj⟩:=hv.ne;have jm:j<m:=by
    rcases dJ j m with h | h
    ·exact h
    ·exact absurd (hv.out j h) hj
   have jp:0<v j:=by have:=hv.nn j;omega
   obtain⟨t,ht,a1,a2,a3,a4,a5,a6⟩:=xu hu hv.out hv.eq ⟨j,jm,jp⟩ vs;have kp:0<u k:=by have:=hu.nn k;omega
   have cn:kq m (A::As) (λi=>v t*u i - u t*v i):=⟨a3,a4,⟨k,by rw[vk];simp;exact⟨by omega,uk⟩⟩,a5⟩;have l1:=BH (m:=m) (u:=v) (v:=u) (λi _ z=>vs i z) km uk vk;exact .lin (ih _ (by omega) cn) (ih v (by omega) hv) a1 (by decide:(0:Int)<=1) (az a2) (by omega) λi=>by grind
end CL
namespace CL
open PySem L2 L3
variable {c:Cs}
def qv(p:Int×Int):Rat:=(p.1:Rat) / (p.2:Rat)
structure GF(A B:Nat)(p:Int×Int):Prop where
 pos:0<p.2
 one:Cu.G p.1 p.2=1
 b1:Bn A p.1
 b2:Bn B p.2
theorem GF.mono{A B A' B':Nat}{p:Int×Int}(h:GF A B p)(h1:A<=A')(h2:B<=B'):GF A' B' p:=⟨h.pos,h.one,h.b1.mono h1,h.b2.mono h2⟩
theorem nS{i:Int}(h:0<i):(0:Rat)<(i:Rat):=by have:=(dR (a:=0) (b:=i)).mpr h;simpa using this
theorem Li{i:Int}(h:i≠0):(i:Rat)≠0:=λz=>by
 have e:(i:Rat)=((0:Int):Rat):=by simpa using z
 exact h (Rat.intCast_inj.mp e)
theorem JE(a:Int):Cu.G a 1=1:=by simp[Cu.G]
@[simp] theorem lP(p:Int×Int):gX (fr p) (.int 0)=.ok (.int p.1):=rfl
@[simp] theorem j5(p:Int×Int):gX (fr p) (.int 1)=.ok (.int p.2):=rfl
theorem xy(A B:Nat)(t b:Int)(hb:b≠0)(h1:Bn A t)(h2:Bn B b)(hB:B<=8000):∃p,pR c [.int t,.int b]=.ok (fr p)/\GF A B p/\qv p=(t:Rat) / (b:Rat):=by
 have hG:=Cu.J9 t b hb;have hle:=Cu.Pp t b hb;have hsm:∀x:Int,Builtin.divisionGoesByPylong x (if b<0 then -Cu.G t b else Cu.G t b)=false:=λx=>by refine Bn.noPy (n:=B) ?_ hB;unfold Bn at *;refine b7 ?_ h2;split<;>omega
 have hn:(if b<0 then -Cu.G t b else Cu.G t b)≠0:=by split<;>omega
 have hd1:(if b<0 then -Cu.G t b else Cu.G t b) ∣ t:=by split<;>first | exact Int.neg_dvd.mpr (Cu.nJ t b) | exact Cu.nJ t b
 have hd2:(if b<0 then -Cu.G t b else Cu.G t b) ∣ b:=by split<;>first | exact Int.neg_dvd.mpr (Cu.lI t b) | exact Cu.lI t b
 have hl:=Cu.BP t b hb;refine⟨(t.fdiv (if b<0 then -Cu.G t b else Cu.G t b),b.fdiv (if b<0 then -Cu.G t b else Cu.G t b)),gS rfl (fT (gY (gx (fR rfl rfl (by rw[iI];simp[hb]))) rfl) (fT (gh (hW rfl rfl (nY t b)) rfl) (fT (ρ':=[some (.p (.int t)),some (.p (.int b)),some (.p (.int (if b<0 then -Cu.G t b else Cu.G t b)))]) ?_ (gB (oj (fR rfl rfl (md hn (hsm t))) (fR rfl rfl (md hn (hsm b)))))))),⟨hl.pos,hl.one,b7 (r0 hd1 hn) h1,b7 (r0 hd2 hn) h2⟩,?_⟩
 ·by_cases h:b<0
  ·exact iw (gx (fR rfl rfl (by rw[pD];simp[h]))) (gh (t:=.int (-Cu.G t b)) (tR rfl) (by simp[h]))
  ·exact gY (gx (fR rfl rfl (by rw[pD];simp[h]))) (by simp[h])
 ·have e:=hl.is;generalize t.fdiv (if b<0 then -Cu.G t b else Cu.G t b)=x at *;generalize hy:b.fdiv (if b<0 then -Cu.G t b else Cu.G t b)=y at *;have hp:0<y:=hl.pos;have e':(x:Rat)*(b:Rat)=(t:Rat)*(y:Rat):=by rw[<-dS,<-dS,e]
  have n1:=Li hb;have n2:(y:Rat)≠0:=Li (by omega);show (x:Rat) / (y:Rat)=_;grind
theorem Gq{A B A' B':Nat}{p r:Int×Int}(hp:GF A B p)(hr:GF A' B' r)(hB:B+B'<=8000)(hA:A<=20000)(hA':A'<=20000):∃s,vH c [fr p,fr r]=.ok (fr s)/\GF (max (A+B') (A'+B)+1) (B+B') s/\qv s=qv p - qv r:=by have hpp:=hp.pos;have hrp:=hr.pos;obtain⟨s,e,g,q⟩:=xy (c:=c) (max (A+B') (A'+B)+1) (B+B') (p.1*r.2 - r.1*p.2) (p.2*r.2) (dU (by omega) (by omega)) ((hp.b1.mul hr.b2).sub (hr.b1.mul hp.b2)) (hp.b2.mul hr.b2) hB;refine⟨s,gS rfl (gB (hW (fR (fR (fR rfl rfl (lP p)) (fR rfl rfl (j5 r)) (iu (hp.b1.ok hr.b2 (by omega) (by omega)))) (fR (fR rfl rfl (lP r)) (fR rfl rfl (j5 p)) (iu (hr.b1.ok hp.b2 (by omega) (by omega)))) (oO _ _)) (fR (fR rfl rfl (j5 p)) (fR rfl rfl (j5 r)) (iu (hp.b2.ok hr.b2 (by omega) (by omega)))) e)),g,?_⟩;rw[q];have n1:(p.2:Rat)≠0:=Li (by omega);have n2:(r.2:Rat)≠0:=Li (by omega);unfold qv;simp only[Rat.intCast_sub,dS];grind
theorem DQ{N A B:Nat}{k:Int}{r:Int×Int}(hk:Bn N k)(hr:GF A B r)(hB:B<=8000)(hN:N<=20000)(hA:A<=20000):∃s,vz c [fr (k,1),fr r]=.ok (fr s)/\GF (N+A) B s/\qv s=(k:Rat)*qv r:=by have hrp:=hr.pos;obtain⟨s,e,g,q⟩:=xy (c:=c) (N+A) B (k*r.1) (1*r.2) (by omega) (hk.mul hr.b1) (by rw[dm];exact hr.b2) hB;refine⟨s,gS rfl (gB (hW (fR (fR rfl rfl (lP (k,1))) (fR rfl rfl (lP r)) (iu (hk.ok hr.b1 (by omega) (by omega)))) (fR (fR rfl rfl (j5 (k,1))) (fR rfl rfl (j5 r)) (iu (tH (show (1:Int).natAbs<2 ^ 64 by decide)))) e)),g,?_⟩;rw[q,dm];have n2:(r.2:Rat)≠0:=Li (by omega);unfold qv;simp only[dS];grind
theorem yr{N A B:Nat}{k:Int}{r:Int×Int}(h0:k≠0)(hk:Bn N k)(hr:GF A B r)(hB:B+N<=8000)(hA:A<=20000):∃s,rN c [fr r,fr (k,1)]=.ok (fr s)/\GF A (B+N) s/\qv s=qv r / (k:Rat):=by have hrp:=hr.pos;obtain⟨s,e,g,q⟩:=xy (c:=c) A (B+N) (r.1*1) (r.2*k) (dU (by omega) h0) (by rw[bA];exact hr.b1) (hr.b2.mul hk) hB;refine⟨s,gS rfl (fT (gY (gx (fR (fR rfl rfl (lP (k,1))) rfl (by rw[iI];simp[h0]))) rfl) (gB (hW (fR (fR rfl rfl (lP r)) (fR rfl rfl (j5 (k,1))) (iu (rE (show (1:Int).natAbs<2 ^ 64 by decide)))) (fR (fR rfl rfl (j5 r)) (fR rfl rfl (lP (k,1))) (iu (hr.b2.ok hk (by omega) (by omega)))) e))),g,?_⟩;rw[q,bA];have n1:=Li h0;have n2:(r.2:Rat)≠0:=Li (by omega);unfold qv;simp only[dS];grind
theorem EI{p r:Int×Int}(hp:0<p.2)(hr:0<r.2):qv p<qv r↔p.1*r.2<r.1*p.2:=by
 have a:=nS hp;have b:=nS hr;have n1:(p.2:Rat)≠0:=Li (by omega);have n2:(r.2:Rat)≠0:=Li (by omega);have e1:qv p*((p.2:Rat)*(r.2:Rat))=((p.1*r.2:Int):Rat):=by unfold qv;rw[dS];grind
 have e2:qv r*((p.2:Rat)*(r.2:Rat))=((r.1*p.2:Int):Rat):=by unfold qv;rw[dS];grind
 have ab:=dW a b;rw[<-dR,<-e1,<-e2];exact⟨λh=>dX h ab,λh=>dY h (dZ ab)⟩
theorem wZ{p r:Int×Int}(hp:0<p.2)(hr:0<r.2)(m1:IntMulOk p.1 r.2)(m2:IntMulOk r.1 p.2):kH c [fr p,fr r]=.ok (.bl (decide (qv p<qv r))):=by
 refine gS rfl (gB (fR (fR (fR rfl rfl (lP p)) (fR rfl rfl (j5 r)) (iu m1)) (fR (fR rfl rfl (lP r)) (fR rfl rfl (j5 p)) (iu m2)) ?_));rw[pD];have:=EI hp hr;by_cases h:p.1*r.2<r.1*p.2
 ·rw[aB h,aB (this.mpr h)]
 ·rw[aA h,aA (λz=>h (this.mp z))]
def nb(x:Int):Nat:=x.natAbs.log2+1
theorem yV(x:Int):Bn (nb x) x:=Nat.lt_log2_self
theorem yx{E:Nat}{x:Int}(h:Bn E x)(hE:1<=E):nb x<=E:=by
 unfold nb Bn at *;by_cases h0:x.natAbs=0
 ·rw[h0];simp;exact hE
 ·have:=(Nat.log2_lt h0).mpr h;omega
def wt(p:Int×Int):Nat:=max (nb p.1) (nb p.2)
def wts(s:List (Int×Int)):Nat:=(s.map wt).sum
structure Fq(p:Int×Int):Prop where
 pos:0<p.2
 one:Cu.G p.1 p.2=1
theorem Fq.gf{p:Int×Int}(h:Fq p):GF (wt p) (wt p) p:=⟨h.pos,h.one,(yV _).mono (cZ _ _),(yV _).mono (c6 _ _)⟩
theorem GF.fq{A B:Nat}{p:Int×Int}(h:GF A B p):Fq p:=⟨h.pos,h.one⟩
theorem GF.wt{A B E:Nat}{p:Int×Int}(h:GF A B p)(h1:A<=E)(h2:B<=E)(h3:1<=E):wt p<=E:=d8.mpr ⟨yx (h.b1.mono h1) h3,yx (h.b2.mono h2) h3⟩
def ID(p:Int×(Int×Int)):T:=.tup [.int p.1,fr p.2]
theorem yU(x0 x1:Option W)(N:Nat)(hN:N<=8000):∀(ps:List (Int×(Int×Int))) (left:Int×Int) (B j:Nat) (x3 x4:Option W),j+ps.length<=100->(∀p∈ps,Bn N p.1/\Fq p.2)->B+wts (ps.map Prod.snd)<=8000->GF (N+B+j) B left->
  ∃(s:Int×Int) (y3 y4:Option W),jr (kD 2 (g9 (jF 3) (g9 (jF 4) kr))) (p9 c) (ps.map ID) [x0,x1,some (.p (fr left)),x3,x4]=.nx [x0,x1,some (.p (fr s)),y3,y4]/\GF (N+(B+wts (ps.map Prod.snd))+(j+ps.length)) (B+wts (ps.map Prod.snd)) s/\
   qv s=qv left - (ps.map λp=>(p.1:Rat)*qv p.2).sum
 | [],left,B,j,x3,x4,_,_,_,hg=>⟨left,x3,x4,rfl,by simpa[wts] using hg,by simp;grind⟩
 | p::ps,left,B,j,x3,x4,hj,hp,hB,hg=>by
  obtain⟨h1,h2⟩:=hp p (by simp);have hB':B+wt p.2+wts (ps.map Prod.snd)<=8000:=by simp[wts] at hB ⊢;omega
  obtain⟨t,e1,g1,q1⟩:=DQ (c:=c) h1 h2.gf (by omega) (by omega) (by omega);simp at hj;obtain⟨l2,e2,g2,q2⟩:=Gq (c:=c) hg g1 (by omega) (by omega) (by omega);have g3:GF (N+(B+wt p.2)+(j+1)) (B+wt p.2) l2:=g2.mono (by omega) (by omega);obtain⟨s,y3,y4,e,g,q⟩:=yU x0 x1 N hN ps l2 (B+wt p.2) (j+1) (some (.p (.int p.1))) (some (.p (fr p.2))) (by omega) (λr hr=>hp r (by simp[hr])) hB' g3;refine⟨s,y3,y4,?_,?_,?_⟩
  ·rw[bF,jr];have s1:(kD 2 (g9 (jF 3) (g9 (jF 4) kr))) (ID p) [x0,x1,some (.p (fr left)),x3,x4]=some [x0,x1,some (.p (fr left)),some (.p (.int p.1)),some (.p (fr p.2))]:=rfl;rw[s1];have s2:p9 c [x0,x1,some (.p (fr left)),some (.p (.int p.1)),some (.p (fr p.2))]=.nx [x0,x1,some (.p (fr l2)),some (.p (.int p.1)),some (.p (fr p.2))]:=gh (hW (x:=fr left) (y:=fr t) rfl (hW (x:=fr (p.1,1)) (y:=fr p.2) (oj rfl rfl) rfl e1) e2) rfl;dsimp only;rw[s2];exact e
  ·have e1:B+wt p.2+wts (ps.map Prod.snd)=B+wts ((p::ps).map Prod.snd):=by simp[wts];omega
   rw[e1] at g;exact g.mono (by simp;omega) (aJ _)
  ·rw[q,q2,q1];simp only[bF,eg];grind
def FI(row:List Int)(s:List (Int×Int)):Rat:=((row.zip s).map λp=>(p.1:Rat)*qv p.2).sum
theorem uL(N:Nat)(hN:N<=8000)(h1:1<=N)(row:List Int)(s:List (Int×Int))(hl:s.length<row.length)(hs:s.length<=10)(hb:∀x∈row,Bn N x)(hq:∀p∈s,Fq p)(hB:1+wts s<=8000) :
  ∃r,lx c [tI row,.lst (s.map fr)]=.ok (fr r)/\GF (N+wts s+20) (1+wts s) r/\qv r=(vc row s.length:Rat) - FI row s:=by
 have sz:1000<sizeLine:=by decide
 have ix:gX (tI row) (.int (s.length:Int))=.ok (.int (vc row s.length)):=jT row s.length hl;have em:(row.zip s).map Prod.snd=s:=by rw[List.map_snd_zip];omega
 have hc:Bn N (vc row s.length):=hb _ (lp row s.length hl);obtain⟨r,y3,y4,e,g,q⟩:=yU (c:=c) (some (.p (tI row))) (some (.p (.lst (s.map fr)))) N hN (row.zip s) (vc row s.length,1) 1 0 none none (by simp;omega) (λp hp=>⟨hb _ (aV hp).1,hq _ (aV hp).2⟩) (by rw[em];exact hB) ⟨show (0:Int)<1 by decide,JE _,hc.mono (by omega),show Bn 1 1 by unfold Bn;decide⟩;rw[em] at g;refine⟨r,gS rfl (fT (gh (t:=fr (vc row s.length,1)) (oj (fR rfl (ou (t:=.lst (s.map fr)) (r:=.ok (.int (s.length:Int))) rfl (by simp)) ?_) rfl) rfl) (fT (jb (oo (f:=T.int) (g:=fr) rfl rfl rfl rfl) e) (gB rfl))),g.mono (by simp;omega) (aJ _),?_⟩
 ·exact ix
 ·rw[q];unfold FI;have:qv (vc row s.length,1)=(vc row s.length:Rat):=by unfold qv;simp;grind
  rw[this]
def oT:Option (Int×Int)->T
 | none=>.non
 | some p=>fr p
def oC(lo:Option (Int×Int))(q:Rat):Prop:=∀p,lo=some p->qv p<q
def oz(hi:Option (Int×Int))(q:Rat):Prop:=∀r,hi=some r->q<qv r
def LM:Option (Int×Int)->Int
 | some r=>if r.1<=0 then -((-r.1).fdiv r.2) - 1 else 0
 | none=>0
def wb(lo hi:Option (Int×Int)):Int:=match lo with
 | some p=>if 0<=p.1 then p.1.fdiv p.2+1 else LM hi
 | none=>LM hi
instance (lo:Option (Int×Int)) (q:Rat):Decidable (oC lo q):=match lo with
 | none=>.isTrue λ_ h=>nomatch h
 | some p=>if h:qv p<q then .isTrue λr e=>by cases e;exact h else .isFalse λz=>h (z p rfl)
instance (hi:Option (Int×Int)) (q:Rat):Decidable (oz hi q):=match hi with
 | none=>.isTrue λ_ h=>nomatch h
 | some p=>if h:q<qv p then .isTrue λr e=>by cases e;exact h else .isFalse λz=>h (z p rfl)
def G7(lo hi:Option (Int×Int)):T:=if oC lo (wb lo hi:Rat)/\oz hi (wb lo hi:Rat) then .int (wb lo hi) else .non
def Oe(E:Nat)(o:Option (Int×Int)):Prop:=∀p,o=some p->0<p.2/\Bn E p.1/\Bn E p.2
theorem GA(i:Int):qv (i,1)=(i:Rat):=by unfold qv;simp;grind
theorem rn(a b:Int)(hb:0<b):a.fdiv b*b<=a/\a<(a.fdiv b+1)*b:=by
 have e:=Int.fmod_def a b;have h1:=cI a hb;have h2:=cJ a hb;have h3:b*a.fdiv b=a.fdiv b*b:=cP _ _;constructor
 ·omega
 ·have h4:(a.fdiv b+1)*b=a.fdiv b*b+b:=by grind
  omega
theorem Aw(a b:Int)(hb:0<b):(a.fdiv b).natAbs<=a.natAbs:=by
 obtain⟨h1,h2⟩:=rn a b hb;rcases Int.le_total 0 a with h | h
 ·have h3:0<=a.fdiv b:=ek h (az hb);have h4:a.fdiv b<=a.fdiv b*b:=by have:=eA (show (1:Int)<=b by omega) h3;omega
  omega
 ·have h3:a.fdiv b+1<=1:=by
   refine eB.mp λz=>?_;have h4:1<=a.fdiv b:=by omega
   have:=aI h4 (az hb);omega
  have h5:a.fdiv b<=0:=by omega
  by_cases h0:a=0
  ·subst h0;simp
  ·have h6:a<=a.fdiv b:=by
    refine eB.mp λz=>?_;have h7:a.fdiv b+1<=a:=by omega
    have h8:(a.fdiv b+1)*b<=a*b:=aI h7 (az hb);have h9:a*b<=a*1:=Int.mul_le_mul_of_nonpos_left h (by omega);omega
   omega
theorem MU{E:Nat}{lo hi:Option (Int×Int)}(h1:Oe E lo)(h2:Oe E hi):(wb lo hi).natAbs<2 ^ E+1:=by
 have p0:0<2 ^ E:=dk E;have hh:(LM hi).natAbs<2 ^ E+1:=by
  cases e:hi with
  | none=>simp[LM]
  | some r=>
   obtain⟨a,b,_⟩:=h2 r e;show (if r.1<=0 then -((-r.1).fdiv r.2) - 1 else (0:Int)).natAbs<2 ^ E+1;split
   ·have:=Aw (-r.1) r.2 a;unfold Bn at b;rw[c9] at this;omega
   ·simp
 unfold wb;cases e:lo with
 | none=>exact hh
 | some p=>
  obtain⟨a,b,_⟩:=h1 p e;dsimp only;split
  ·have:=Aw p.1 p.2 a;unfold Bn at b;omega
  ·exact hh
theorem pN(neg:Bool)(o:Option (Int×Int)):jS neg (oT o) .non=.ok (.bl (if neg then o.isSome else o.isNone)):=by cases o<;>cases neg<;>rfl
theorem Kz{E:Nat}{p:Int×Int}{i:Int}(hp:0<p.2/\Bn E p.1/\Bn E p.2)(hE:E<=8000)(hi:Bn (E+1) i):kH c [fr p,fr (i,1)]=.ok (.bl (decide (qv p<(i:Rat)))):=by have:=wZ (c:=c) (p:=p) (r:=(i,1)) hp.1 (by decide:(0:Int)<1) (hp.2.1.ok (n:=1) (show Bn 1 1 by unfold Bn;decide) (by omega) (by omega)) (hi.ok hp.2.2 (by omega) (by omega));rw[GA] at this;exact this
theorem Lx{E:Nat}{p:Int×Int}{i:Int}(hp:0<p.2/\Bn E p.1/\Bn E p.2)(hE:E<=8000)(hi:Bn (E+1) i):kH c [fr (i,1),fr p]=.ok (.bl (decide ((i:Rat)<qv p))):=by have:=wZ (c:=c) (p:=(i,1)) (r:=p) (by decide:(0:Int)<1) hp.1 (hi.ok hp.2.2 (by omega) (by omega)) (hp.2.1.ok (n:=1) (show Bn 1 1 by unfold Bn;decide) (by omega) (by omega));rw[GA] at this;exact this
theorem pV{ρ:Pe}{fc fd:Pe->M Bool}(h:fc ρ=.ok false):kf fc fd ρ=.ok false:=by simp only[L3.kf,h,M.bind_ok];rfl
theorem l9{ρ:Pe}{fc fd:Pe->M Bool}{b:Bool}(h:fc ρ=.ok true)(h2:fd ρ=.ok b):kf fc fd ρ=.ok b:=by simp only[L3.kf,h,h2,M.bind_ok];rfl
theorem Js{ρ:Pe}{fc:Pe->M Bool}{b:Bool}(h:fc ρ=.ok b):kh fc ρ=.ok (!b):=by simp only[L3.kh,h,M.bind_ok]
theorem HF{E:Nat}{p:Int×Int}(hp:0<p.2/\Bn E p.1/\Bn E p.2)(hE:E<=8000):lE c [fr p]=.ok (.int (p.1.fdiv p.2)):=by have:=hp.1;exact gS rfl (gB (fR (fR rfl rfl (lP p)) (fR rfl rfl (j5 p)) (md (by omega) (hp.2.2.noPy hE))))
theorem QL{E:Nat}{p:Int×Int}(hp:0<p.2/\Bn E p.1/\Bn E p.2)(hE:E<=8000):kS c [fr p]=.ok (.int (-((-p.1).fdiv p.2))):=by have:=hp.1;exact gS rfl (gB (tR (fR (tR (fR rfl rfl (lP p))) (fR rfl rfl (j5 p)) (md (by omega) (hp.2.2.noPy hE)))))
theorem oF(E:Nat)(hE:E<=8000)(lo hi:Option (Int×Int))(h1:Oe E lo)(h2:Oe E hi):j4 c [oT lo,oT hi]=.ok (G7 lo hi):=by
 have hw:=MU h1 h2;have bw:Bn (E+1) (wb lo hi):=by unfold Bn;have:0<2 ^ E:=dk E;rw[c7];omega
 let R (w:Option W):En:=[some (.p (oT lo)),some (.p (oT hi)),w];have s1:setO 2 (iK (cM (.int 0))) (R none)=.nx (R (some (.p (.int 0)))):=gh (t:=.int 0) rfl rfl;have lead:kg (kf (gO (fX (jS true) (fL 0) (cM .non))) (gO (fX M5 (fX gX (fL 0) (cM (.int 0))) (cM (.int 0))))) (setO 2 (iK (fX iV (fW (fK (fL 0) fP) (lE c)) (cM (.int 1))))) (kg (kf (gO (fX (jS true) (fL 1) (cM .non))) (gO (fX Hk (fX gX (fL 1) (cM (.int 0))) (cM (.int 0))))) (setO 2 (iK (fX sU (fW (fK (fL 1) fP) (kS c)) (cM (.int 1))))) gQ) (R (some (.p (.int 0))))=.nx (R (some (.p (.int (wb lo hi))))):=by
  have hiP:∀w',(w'=LM hi)->(kg (kf (gO (fX (jS true) (fL 1) (cM .non))) (gO (fX Hk (fX gX (fL 1) (cM (.int 0))) (cM (.int 0))))) (setO 2 (iK (fX sU (fW (fK (fL 1) fP) (kS c)) (cM (.int 1))))) gQ) (R (some (.p (.int 0))))=.nx (R (some (.p (.int w')))):=λw' hw'=>by
   cases e:hi with
   | none=>rw[e,LM] at hw';subst hw';exact gY (pV (gx (fR rfl rfl (by show jS true (oT hi) .non=_;rw[pN,e];rfl)))) rfl
   | some r=>
    rw[e,LM] at hw';have is1:jS true (oT hi) .non=.ok (.bl true):=by rw[pN,e];rfl
    have ix1:gX (oT hi) (.int 0)=.ok (.int r.1):=by rw[e];rfl
    by_cases hr:r.1<=0
    ·rw[aP hr] at hw';subst hw';exact iw (l9 (gx (fR rfl rfl is1)) (gx (fR (fR rfl rfl ix1) rfl (by rw[AR];simp[hr])))) (gh (fR (rh (x:=oT hi) rfl (by rw[e];exact QL (h2 r e) hE)) rfl (oO _ _)) rfl)
    ·rw[aQ hr] at hw';subst hw';exact gY (l9 (gx (fR rfl rfl is1)) (gx (fR (fR rfl rfl ix1) rfl (by rw[AR];simp[hr])))) rfl
  cases e:lo with
  | none=>exact gY (pV (gx (fR rfl rfl (by show jS true (oT lo) .non=_;rw[pN,e];rfl)))) (hiP _ rfl)
  | some p=>
   have is1:jS true (oT lo) .non=.ok (.bl true):=by rw[pN,e];rfl
   have ix1:gX (oT lo) (.int 0)=.ok (.int p.1):=by rw[e];rfl
   by_cases hp:0<=p.1
   ·refine iw (l9 (gx (fR rfl rfl is1)) (gx (fR (fR rfl rfl ix1) rfl (by rw[sP];simp[hp])))) (gh (fR (rh (x:=oT lo) rfl (by rw[e];exact HF (h1 p e) hE)) rfl (iU _ _)) ?_);simp[wb,hp,R]
   ·exact gY (l9 (gx (fR rfl rfl is1)) (gx (fR (fR rfl rfl ix1) rfl (by rw[sP];simp[hp])))) (hiP _ (by simp[wb,hp]))
 have testlo:kf (gO (fX (jS true) (fL 0) (cM .non))) (kh (gO (fW (fK (fL 0) (fK (jO (fK (fL 2) (fK (cM (.int 1)) fP))) fP)) (kH c)))) (vw (R (some (.p (.int (wb lo hi))))))=.ok (!decide (oC lo (wb lo hi:Rat))):=by
  cases e:lo with
  | none=>have:oC none (wb none hi:Rat):=λ_ z=>nomatch z;rw[<-e,aB (by rw[e];exact this)];exact pV (gx (fR rfl rfl (by show jS true (oT lo) .non=_;rw[pN,e];rfl)))
  | some p=>
   have is1:jS true (oT lo) .non=.ok (.bl true):=by rw[pN,e];rfl
   rw[<-e];refine l9 (gx (fR rfl rfl is1)) (Js (gx (hW (x:=oT lo) (y:=fr (wb lo hi,1)) rfl (oj rfl rfl) ?_)));have q:=Kz (c:=c) (i:=wb lo hi) (h1 p e) hE bw;have hd:decide (oC lo (wb lo hi:Rat))=decide (qv p<(wb lo hi:Rat)):=by
    by_cases z:qv p<(wb lo hi:Rat)
    ·rw[aB z,aB];intro r er;rw[e] at er;cases er;exact z
    ·rw[aA z,aA];exact λy=>z (y p e)
   rw[hd];rw[show oT lo=fr p by rw[e];rfl];exact q
 have testhi:kf (gO (fX (jS true) (fL 1) (cM .non))) (kh (gO (fW (fK (jO (fK (fL 2) (fK (cM (.int 1)) fP))) (fK (fL 1) fP)) (kH c)))) (vw (R (some (.p (.int (wb lo hi))))))=.ok (!decide (oz hi (wb lo hi:Rat))):=by
  cases e:hi with
  | none=>have:oz none (wb lo none:Rat):=λ_ z=>nomatch z;rw[<-e,aB (by rw[e];exact this)];exact pV (gx (fR rfl rfl (by show jS true (oT hi) .non=_;rw[pN,e];rfl)))
  | some p=>
   have is1:jS true (oT hi) .non=.ok (.bl true):=by rw[pN,e];rfl
   rw[<-e];refine l9 (gx (fR rfl rfl is1)) (Js (gx (hW (x:=fr (wb lo hi,1)) (y:=oT hi) (oj rfl rfl) rfl ?_)));have q:=Lx (c:=c) (i:=wb lo hi) (h2 p e) hE bw;have hd:decide (oz hi (wb lo hi:Rat))=decide ((wb lo hi:Rat)<qv p):=by
    by_cases z:(wb lo hi:Rat)<qv p
    ·rw[aB z,aB];intro r er;rw[e] at er;cases er;exact z
    ·rw[aA z,aA];exact λy=>z (y p e)
   rw[hd];rw[show oT hi=fr p by rw[e];rfl];exact q
 refine gS rfl (fT s1 (fT lead ?_));unfold G7;by_cases l:oC lo (wb lo hi:Rat)
 ·rw[aB l] at testlo;refine fT (gY testlo rfl) ?_;by_cases h:oz hi (wb lo hi:Rat)
  ·rw[aB h] at testhi;rw[aP ⟨l,h⟩];exact fT (gY testhi rfl) (gB rfl)
  ·rw[aA h] at testhi;rw[aQ (λz=>h z.2)];exact jW (iw testhi (gB rfl)) rfl
 ·rw[aA l] at testlo;rw[aQ (λz=>l z.1)];exact jW (iw testlo (gB rfl)) rfl
theorem nr{i:Int}:0<((i,1):Int×Int).2:=by show (0:Int)<1;decide
def rb(fs:List Int)(x:Int×Int):Int×Int:=fs.foldr (λf x=>(f*x.1+x.2,x.1)) x
structure Rn(lo hi:Option (Int×Int))(f:Int)(lo1 hi1:Option (Int×Int)):Prop where
 ex:∃p r:Int×Int,lo=some p/\hi=some r/\f=p.1.fdiv p.2/\lo1=some (r.2,r.1 - f*r.2)/\hi1=(if p.1 - f*p.2=0 then none else some (p.2,p.1 - f*p.2))/\0<p.2/\0<r.2/\p.1*r.2<r.1*p.2/\r.1<=(f+1)*r.2
inductive ya:Option (Int×Int)->Option (Int×Int)->List Int->Option (Int×Int)->Option (Int×Int)->Prop
 | nil {lo hi:Option (Int×Int)}:ya lo hi [] lo hi
 | cons {lo hi lo1 hi1 lo2 hi2:Option (Int×Int)} {f:Int} {fs:List Int}:Rn lo hi f lo1 hi1->ya lo1 hi1 fs lo2 hi2->ya lo hi (f::fs) lo2 hi2
theorem ya.snoc{lo hi lo1 hi1 lo2 hi2:Option (Int×Int)}{f:Int}{fs:List Int}(h:ya lo hi fs lo1 hi1)(s:Rn lo1 hi1 f lo2 hi2):ya lo hi (fs++[f]) lo2 hi2:=by
 induction h with
 | nil=>exact .cons s .nil
 | cons s' _ ih=>exact .cons s' (ih s)
structure Gd(lo hi:Option (Int×Int))(x:Int×Int):Prop where
 lo:oC lo (qv x)
 hi:oz hi (qv x)
 pos:0<x.2
 one:Cu.G x.1 x.2=1
def tp:Option (Int×Int)->Int
 | some p=>p.1
 | none=>1
def bt:Option (Int×Int)->Int
 | some p=>p.2
 | none=>0
theorem K3(f a b:Int):Cu.G (f*a+b) a=Cu.G b a:=by
 have h:=Cu.Ai (f*a+b) a;have h2:=Cu.Ai b a;have e:(f*a+b).fmod a=b.fmod a:=by rw[Int.add_comm];have:=Int.add_mul_fmod_self_right b f a;exact this
 rw[<-h,e,h2]
theorem NL(a b:Int):Cu.G a b=Cu.G b a:=by unfold Cu.G;rw[Int.gcd_comm]
theorem EX{lo hi lo1 hi1:Option (Int×Int)}{f:Int}{x:Int×Int}(s:Rn lo hi f lo1 hi1)(h:Gd lo1 hi1 x)(hx:0<x.1):Gd lo hi (f*x.1+x.2,x.1):=by
 obtain⟨p,r,rfl,rfl,hf,rfl,rfl,hp,hr,hlt,hle⟩:=s.ex;obtain⟨hl,hh,h2,h1⟩:=h;obtain⟨fl1,fl2⟩:=rn p.1 p.2 hp;rw[<-hf] at fl1 fl2;have hrf:0<r.1 - f*r.2:=by
  have a1:f*p.2*r.2<=p.1*r.2:=aI fl1 (az hr);have a2:f*r.2*p.2<r.1*p.2:=by
   have:f*r.2*p.2=f*p.2*r.2:=by grind
   omega
  have:=eC a2 (az hp);omega
 have q1:=(EI (p:=(r.2,r.1 - f*r.2)) (r:=x) hrf h2).mp (hl _ rfl);dsimp only at q1;refine⟨λp' e=>?_,λr' e=>?_,hx,?_⟩
 ·cases e;rw[EI hp hx];dsimp only;by_cases h0:p.1 - f*p.2=0
  ·have:p.1=f*p.2:=by omega
   rw[this];have:=aW h2 hp;have e3:(f*x.1+x.2)*p.2=f*p.2*x.1+x.2*p.2:=by grind
   omega
  ·have q2:=hh (p.2,p.1 - f*p.2) (by rw[aQ h0]);have hb:0<p.1 - f*p.2:=by omega
   have q3:=(EI (p:=x) (r:=(p.2,p.1 - f*p.2)) h2 hb).mp q2;dsimp only at q3;have e3:(f*x.1+x.2)*p.2=f*x.1*p.2+p.2*x.2:=by grind
   have e4:x.1*(p.1 - f*p.2)=p.1*x.1 - f*x.1*p.2:=by grind
   omega
 ·cases e;rw[EI hx hr];dsimp only;have e3:(f*x.1+x.2)*r.2=f*r.2*x.1+r.2*x.2:=by grind
  have e4:x.1*(r.1 - f*r.2)=r.1*x.1 - f*r.2*x.1:=by grind
  omega
 ·show Cu.G (f*x.1+x.2) x.1=1;rw[K3,NL];exact h1
theorem J1{lo hi:Option (Int×Int)}{p:Int×Int}(e:lo=some p)(hp:0<p.2)(h0:0<p.1)(hr:∀r,hi=some r->0<r.2)(hl:oC lo (wb lo hi:Rat))(hh:oz hi (wb lo hi:Rat)) :
  Gd lo hi (wb lo hi,1)/\0<wb lo hi/\wb lo hi<=tp lo+tp hi/\1<=bt lo+bt hi:=by
 have ew:wb lo hi=p.1.fdiv p.2+1:=by unfold wb;rw[e];simp;omega
 have f0:0<=p.1.fdiv p.2:=ek (by omega) (by omega);have fa:=Aw p.1 p.2 hp;refine⟨⟨by rw[GA];exact hl,by rw[GA];exact hh,nr,JE _⟩,by omega,?_,?_⟩
 ·cases eh:hi with
  | none=>rw[eh] at ew;rw[e];show wb (some p) none<=p.1+1;rw[<-e];omega
  | some r=>have h1:=hr r eh;have h2:=hh r eh;rw[<-GA,EI nr h1] at h2;dsimp only at h2;rw[<-eh,e];show wb (some p) hi<=p.1+tp hi;rw[eh];show wb (some p) (some r)<=p.1+r.1;rw[<-e,<-eh];have h3:wb lo hi*1<=wb lo hi*r.2:=eA (by omega) (by omega);omega
 ·rw[e];show 1<=p.2+bt hi;have:0<=bt hi:=by
   cases eh:hi with
   | none=>exact dH _
   | some r=>have:=hr r eh;show 0<=r.2;omega
  omega
theorem Jg{lo hi lo2 hi2:Option (Int×Int)}{fs:List Int}(h:ya lo hi fs lo2 hi2):∀p,lo=some p->0<p.2->0<p.1->(∀r,hi=some r->0<r.2)->(∀r,hi2=some r->0<r.2)->oC lo2 (wb lo2 hi2:Rat)->oz hi2 (wb lo2 hi2:Rat)->
  Gd lo hi (rb fs (wb lo2 hi2,1))/\0<(rb fs (wb lo2 hi2,1)).1/\(rb fs (wb lo2 hi2,1)).1<=tp lo+tp hi/\(rb fs (wb lo2 hi2,1)).2<=bt lo+bt hi:=by
 induction h with
 | nil=>intro p e hp h0 hr _ hl hh;exact J1 e hp h0 hr hl hh
 | cons s _ ih=>
  rename_i lo hi lo1 hi1 lo2 hi2 f fs _;intro p e hp h0 hr hr2 hl hh;obtain⟨p',r,e1,e2,hf,e3,e4,g1,g2,g3,g4⟩:=s.ex;rw[e] at e1;cases e1;obtain⟨fl1,fl2⟩:=rn p.1 p.2 hp;rw[<-hf] at fl1 fl2;have f0:0<=f:=by rw[hf];exact ek (by omega) (by omega)
  have hrf:0<r.1 - f*r.2:=by
   have a1:f*p.2*r.2<=p.1*r.2:=aI fl1 (az g2);have a2:f*r.2*p.2<r.1*p.2:=by
    have:f*r.2*p.2=f*p.2*r.2:=by grind
    omega
   have:=eC a2 (az hp);omega
  have hr1:∀r',hi1=some r'->0<r'.2:=λr' e'=>by
   rw[e4] at e';split at e'
   ·cases e'
   ·cases e';dsimp only;omega
  obtain⟨i1,i2,i3,i4⟩:=ih (r.2,r.1 - f*r.2) e3 hrf g2 hr1 hr2 hl hh;refine⟨EX s i1 i2,?_,?_,?_⟩
  ·show 0<f*(rb fs (wb lo2 hi2,1)).1+(rb fs (wb lo2 hi2,1)).2;have:=i1.pos;have:=aO f0 (az i2);omega
  ·show f*(rb fs (wb lo2 hi2,1)).1+(rb fs (wb lo2 hi2,1)).2<=_;rw[e,e2];show _<=p.1+r.1;have t1:tp lo1+tp hi1<=r.2+p.2:=by
    rw[e3,e4];split
    ·show r.2+1<=_;omega
    ·exact dH _
   have t2:bt lo1+bt hi1=(r.1 - f*r.2)+(p.1 - f*p.2):=by
    rw[e3,e4];split
    ·rename_i z;rw[z];rfl
    ·rfl
   have m1:f*(rb fs (wb lo2 hi2,1)).1<=f*(r.2+p.2):=eA (by omega) f0;have m2:f*(r.2+p.2)=f*r.2+f*p.2:=dC _ _ _;omega
  ·show (rb fs (wb lo2 hi2,1)).1<=_;rw[e,e2];show _<=p.2+r.2;have t1:tp lo1+tp hi1<=r.2+p.2:=by
    rw[e3,e4];split
    ·show r.2+1<=_;omega
    ·exact dH _
   omega
theorem JL{lo hi:Option (Int×Int)}(h1:∀p,lo=some p->0<p.2)(h2:∀r,hi=some r->0<r.2)(hlt:∀p r,lo=some p->hi=some r->qv p<qv r)(hn:¬(oC lo (wb lo hi:Rat)/\oz hi (wb lo hi:Rat))) :
  ∃p r,lo=some p/\hi=some r/\p.1*r.2<r.1*p.2/\r.1<=(p.1.fdiv p.2+1)*r.2:=by
 have up:∀p:Int×Int,lo=some p->qv p<((p.1.fdiv p.2+1:Int):Rat):=λp e=>by rw[<-GA,EI (h1 p e) nr];have:=(rn p.1 p.2 (h1 p e)).2;dsimp only;omega
 have dn:∀r:Int×Int,hi=some r->((-((-r.1).fdiv r.2) - 1:Int):Rat)<qv r:=λr e=>by
  rw[<-GA,EI nr (h2 r e)];have:=(rn (-r.1) r.2 (h2 r e)).2;dsimp only;have e3:(-((-r.1).fdiv r.2) - 1)*r.2 = -(((-r.1).fdiv r.2+1)*r.2):=by grind
  omega
 have up0:∀p:Int×Int,lo=some p->p.1<0->qv p<((0:Int):Rat):=λp e z=>by rw[<-GA,EI (h1 p e) nr];dsimp only;omega
 have dn0:∀r:Int×Int,hi=some r->0<r.1->((0:Int):Rat)<qv r:=λr e z=>by rw[<-GA,EI nr (h2 r e)];dsimp only;omega
 cases el:lo with
 | none=>
  exfalso;refine hn ⟨λp e=>(by rw[el] at e;cases e),λr e=>?_⟩;have ew:wb lo hi=if r.1<=0 then -((-r.1).fdiv r.2) - 1 else 0:=by unfold wb;rw[el,e];rfl
  rw[ew];split
  ·exact dn r e
  ·exact dn0 r e (by omega)
 | some p=>
  cases eh:hi with
  | none=>
   exfalso;refine hn ⟨λp' e=>?_,λr e=>(by rw[eh] at e;cases e)⟩;rw[el] at e;cases e;have ew:wb lo hi=if 0<=p.1 then p.1.fdiv p.2+1 else 0:=by unfold wb;rw[el,eh];rfl
   rw[ew];split
   ·exact up p el
   ·exact up0 p el (by omega)
  | some r=>
   have lt:=(EI (h1 p el) (h2 r eh)).mp (hlt p r el eh);refine⟨p,r,rfl,rfl,lt,?_⟩;by_cases hp:0<=p.1
   ·have ew:wb lo hi=p.1.fdiv p.2+1:=by unfold wb;rw[el];simp[hp]
    refine eB.mp λz=>hn ⟨λp' e=>?_,λr' e=>?_⟩
    ·rw[el] at e;cases e;rw[ew];exact up p el
    ·rw[eh] at e;cases e;rw[ew,<-GA,EI nr (h2 r eh)];dsimp only;omega
   ·by_cases hr:r.1<=0
    ·have ew:wb lo hi = -((-r.1).fdiv r.2) - 1:=by unfold wb;rw[el,eh];simp[hp,LM,hr]
     refine eB.mp λz=>hn ⟨λp' e=>?_,λr' e=>?_⟩
     ·rw[el] at e;cases e;rw[ew,<-GA,EI (h1 p el) nr];dsimp only;have c1:=(rn (-r.1) r.2 (h2 r eh)).1;have c2:=(rn p.1 p.2 (h1 p el)).2;have hr2:=h2 r eh;have e3:-((-r.1).fdiv r.2)*r.2 = -((-r.1).fdiv r.2*r.2):=by grind
      have c3:(p.1.fdiv p.2+1)*r.2 < -((-r.1).fdiv r.2)*r.2:=by omega
      have c4:=eC c3 (az hr2);have c5:(p.1.fdiv p.2+1)*p.2<=(-((-r.1).fdiv r.2) - 1)*p.2:=aI (by omega) (az (h1 p el));omega
     ·rw[eh] at e;cases e;rw[ew];exact dn r eh
    ·have ew:wb lo hi=0:=by unfold wb;rw[el,eh];simp[hp,LM,hr]
     exfalso;refine hn ⟨λp' e=>?_,λr' e=>?_⟩
     ·rw[el] at e;cases e;rw[ew];exact up0 p el (by omega)
     ·rw[eh] at e;cases e;rw[ew];exact dn0 r eh (by omega)
def PF:En->Nat:=λρ=>match ρ with | some (.p (.tup [_,.int a]))::some (.p (.tup [_,.int b]))::_=>a.natAbs+b.natAbs+2 | _=>1
def Cm:En->Nat:=λρ=>match ρ with | some (.p (.tup [_,.int a]))::some (.p (.tup [_,.int b]))::_::some (.p .non)::_=>a.natAbs+b.natAbs+1 | _=>0
def vC(lo hi:Option (Int×Int))(fs:List Int)(x4 x5 x6:Option W):En:=[some (.p (oT lo)),some (.p (oT hi)),some (.o (fs.map T.int)),some (.p (G7 lo hi)),x4,x5,x6,none]
structure M8(E:Nat)(lo hi:Option (Int×Int))(fs:List Int)(lo' hi':Option (Int×Int)):Prop where
 path:ya lo hi fs lo' hi'
 l:Oe E lo'
 h:Oe E hi'
 lt:∀p r,lo'=some p->hi'=some r->qv p<qv r
 fb:∀f∈fs,Bn E f
 few:fs≠[]->∃p,lo'=some p/\p.2<=p.1/\∀r,hi'=some r->0<r.1/\4 ^ (fs.length - 1)*(p.1*p.2*(r.1*r.2))<=2 ^ (4*E)
theorem q9{E:Nat}{x:Int}(h:Bn E x):x<2 ^ E/\-(2 ^ E)<x:=by
 unfold Bn at h;have:((2 ^ E:Nat):Int)=2 ^ E:=by simp
 omega
theorem sA{E:Nat}{x:Int}(h1:x<2 ^ E)(h2:-(2 ^ E)<x):Bn E x:=by
 unfold Bn;have:((2 ^ E:Nat):Int)=2 ^ E:=by simp
 omega
theorem HQ{E:Nat}{lo hi lo' hi':Option (Int×Int)}{fs:List Int}(h:M8 E lo hi fs lo' hi')(hn:¬(oC lo' (wb lo' hi':Rat)/\oz hi' (wb lo' hi':Rat))) :
  ∃(p r:Int×Int) (f:Int),p.1.fdiv p.2=f/\lo'=some p/\hi'=some r/\fs.length<=2*E+1/\0<p.2/\0<r.2/\0<r.1 - f*r.2/\r.1 - f*r.2<=r.2/\0<=p.1 - f*p.2/\p.1 - f*p.2<p.2/\Bn E (f)/\
   M8 E lo hi (fs++[f]) (some (r.2,r.1 - f*r.2)) (if p.1 - f*p.2=0 then none else some (p.2,p.1 - f*p.2)):=by
 obtain⟨p,r,e1,e2,lt,le⟩:=JL (λp e=>(h.l p e).1) (λr e=>(h.h r e).1) h.lt hn;obtain⟨p2,pb1,pb2⟩:=h.l p e1;obtain⟨r2,rb1,rb2⟩:=h.h r e2;obtain⟨fl1,fl2⟩:=rn p.1 p.2 p2;have fb:Bn E (p.1.fdiv p.2):=b7 (Aw p.1 p.2 p2) pb1;generalize hf:p.1.fdiv p.2=f at *;have g4:(f+1)*r.2=f*r.2+r.2:=by grind
 have g5:(f+1)*p.2=f*p.2+p.2:=by grind
 have hrf:0<r.1 - f*r.2:=by
  have a1:f*p.2*r.2<=p.1*r.2:=aI fl1 (az r2);have a2:f*r.2*p.2<r.1*p.2:=by
   have:f*r.2*p.2=f*p.2*r.2:=by grind
   omega
  have:=eC a2 (az p2);omega
 have st:Rn lo' hi' f (some (r.2,r.1 - f*r.2)) (if p.1 - f*p.2=0 then none else some (p.2,p.1 - f*p.2)):=⟨p,r,e1,e2,hf.symm,rfl,rfl,p2,r2,lt,le⟩;have rlt:=(q9 rb2).1;have plt:=(q9 pb2).1;have few:fs.length<=2*E+1:=by
  by_cases hz:fs=[]
  ·subst hz;simp
  ·obtain⟨p',q1,q2,q3⟩:=h.few hz;rw[e1] at q1;cases q1;obtain⟨q4,q5⟩:=q3 r e2;have m1:1<=p.1*p.2:=by have:=aW (show 0<p.1 by omega) p2;omega
   have m2:1<=r.1*r.2:=by have:=aW q4 r2;omega
   have m3:1<=p.1*p.2*(r.1*r.2):=by have:=aW (show 0<p.1*p.2 by omega) (show 0<r.1*r.2 by omega);omega
   have m4:(4:Int) ^ (fs.length - 1)*1<=2 ^ (4*E):=dI (eA m3 (az (eD (by decide)))) q5;have m5:(4:Nat) ^ (fs.length - 1)<=2 ^ (4*E):=by
    have:(((4:Nat) ^ (fs.length - 1):Nat):Int)<=((2 ^ (4*E):Nat):Int):=by push_cast;omega
    exact Int.ofNat_le.mp this
   rw[show (4:Nat)=2 ^ 2 by decide,<-Nat.pow_mul] at m5;have m6:=(Nat.pow_le_pow_iff_right (show 1<2 by decide)).mp m5;omega
 refine⟨p,r,f,hf,e1,e2,few,p2,r2,hrf,by omega,by omega,by omega,fb,h.path.snoc st,λp' e=>?_,λr' e=>?_,λp' r' e e'=>?_,λg hg=>?_,λ_=>⟨_,rfl,?_,λr' e'=>?_⟩⟩
 ·cases e;exact⟨hrf,rb2,sA (by dsimp only;omega) (by dsimp only;omega)⟩
 ·split at e
  ·cases e
  ·cases e;exact⟨by dsimp only;omega,pb2,sA (by dsimp only;omega) (by dsimp only;omega)⟩
 ·cases e;split at e'
  ·cases e'
  ·cases e';rw[EI hrf (by dsimp only;omega)];dsimp only;have x1:r.2*(p.1 - f*p.2)=p.1*r.2 - f*r.2*p.2:=by grind
   have x2:p.2*(r.1 - f*r.2)=r.1*p.2 - f*r.2*p.2:=by grind
   omega
 ·rcases ai.mp hg with hg | hg
  ·exact h.fb g hg
  ·rw[aj.mp hg];exact fb
 ·dsimp only;omega
 ·split at e'
  ·cases e'
  ·rename_i hR;cases e';refine⟨p2,?_⟩;dsimp only;rw[aS,b4,Nat.add_sub_cancel];by_cases hz:fs=[]
   ·subst hz;simp only[cA,Int.pow_zero,dm];have E2:(2:Int) ^ (4*E)=2 ^ E*2 ^ E*(2 ^ E*2 ^ E):=by rw[show 4*E=E+E+(E+E) by omega,Int.pow_add,Int.pow_add]
    rw[E2];have P0:(0:Int)<=2 ^ E:=az (eD (by decide));have y1:r.2*(r.1 - f*r.2)<=2 ^ E*2 ^ E:=eE (by omega) (by omega) (by omega) P0;have y2:p.2*(p.1 - f*p.2)<=2 ^ E*2 ^ E:=eE (by omega) (by omega) (by omega) P0;exact eE y1 y2 (aO (by omega) (by omega)) (aO P0 P0)
   ·obtain⟨p',q1,q2,q3⟩:=h.few hz;rw[e1] at q1;cases q1;obtain⟨q4,q5⟩:=q3 r e2;have f1:1<=f:=by
     refine eB.mp λz=>?_;have:f+1<=1:=by omega
     have:=aI this (az p2);omega
    have z1:p.2<=f*p.2:=by have:=aI f1 (az p2);omega
    have z2:r.2<=f*r.2:=by have:=aI f1 (az r2);omega
    have w1:r.2*(2*(r.1 - f*r.2))<=r.2*r.1:=eA (by omega) (by omega);have w2:p.2*(2*(p.1 - f*p.2))<=p.2*p.1:=eA (by omega) (by omega);have w3:=eE w1 w2 (aO (by omega) (by omega)) (aO (by omega) (by omega));have l1:fs.length=fs.length - 1+1:=by
     cases fs with
     | nil=>exact absurd rfl hz
     | cons _ _=>simp
    rw[l1,eF];refine dI ?_ q5;have P4:(0:Int)<=4 ^ (fs.length - 1):=az (eD (by decide));have w4:r.2*(r.1 - f*r.2)*(p.2*(p.1 - f*p.2))*4=r.2*(2*(r.1 - f*r.2))*(p.2*(2*(p.1 - f*p.2))):=by grind
    have w5:r.2*r.1*(p.2*p.1)=p.1*p.2*(r.1*r.2):=by grind
    rw[cO,cP 4];refine eA ?_ P4;rw[w4,<-w5];exact w3
theorem vx{lo hi:Option (Int×Int)}(h:¬(oC lo (wb lo hi:Rat)/\oz hi (wb lo hi:Rat))):G7 lo hi=.non:=aQ h
theorem vI{lo hi:Option (Int×Int)}(h:oC lo (wb lo hi:Rat)/\oz hi (wb lo hi:Rat)):G7 lo hi=.int (wb lo hi):=aP h
theorem L8(E:Nat)(hE:E<=7000)(lo hi:Option (Int×Int)):∀ρ,(∃lo' hi' fs x4 x5 x6,ρ=vC lo' hi' fs x4 x5 x6/\M8 E lo hi fs lo' hi')->
  (gO (fX (jS false) (fL 3) (cM .non)) (vw ρ)=.ok false/\∃lo' hi' fs x4 x5 x6,ρ=vC lo' hi' fs x4 x5 x6/\M8 E lo hi fs lo' hi'/\oC lo' (wb lo' hi':Rat)/\oz hi' (wb lo' hi':Rat))\/
  (gO (fX (jS false) (fL 3) (cM .non)) (vw ρ)=.ok true/\∃ρ2,(lX c ρ=.nx ρ2\/lX c ρ=.ct ρ2)/\(∃lo' hi' fs x4 x5 x6,ρ2=vC lo' hi' fs x4 x5 x6/\M8 E lo hi fs lo' hi')/\Cm ρ2<Cm ρ):=by
 rintro ρ ⟨lo',hi',fs,x4,x5,x6,rfl,h⟩;by_cases hn:oC lo' (wb lo' hi':Rat)/\oz hi' (wb lo' hi':Rat)
 ·left;refine⟨gx (fR rfl rfl ?_),lo',hi',fs,x4,x5,x6,rfl,h,hn⟩;show jS false (G7 lo' hi') .non=_;rw[vI hn];rfl
 ·right;have sz:20000<sizeLine:=by decide
  refine⟨gx (fR rfl rfl (by show jS false (G7 lo' hi') .non=_;rw[vx hn];rfl)),?_⟩;obtain⟨p,r,f,hf,e1,e2,few,p2,r2,a1,a2,a3,a4,fb,h'⟩:=HQ h hn;obtain⟨_,pb1,pb2⟩:=h.l p e1;obtain⟨_,rb1,rb2⟩:=h.h r e2;subst e1 e2;have wn:=vx hn;let hi1:Option (Int×Int):=if p.1 - f*p.2=0 then none else some (p.2,p.1 - f*p.2)
  have e6:Rl (gO (fX (gD false) (fL 5) (cM (.int 0)))) (cM .non) (jO (fK (fX gX (fL 0) (cM (.int 1))) (fK (fL 5) fP))) (nV [some (.p (fr p)),some (.p (fr r)),some (.o ((fs++[f]).map T.int)),some (.p (G7 (some p) (some r))),some (.p (.int f)),some (.p (.int (p.1 - f*p.2))),x6,none])=.ok (oT hi1):=by
   by_cases h0:p.1 - f*p.2=0
   ·have:hi1=none:=aP h0;rw[this,h0];rfl
   ·have:hi1=some (p.2,p.1 - f*p.2):=aQ h0;rw[this];have t1:gO (fX (gD false) (fL 5) (cM (.int 0))) (nV [some (.p (fr p)),some (.p (fr r)),some (.o ((fs++[f]).map T.int)),some (.p (G7 (some p) (some r))),some (.p (.int f)),some (.p (.int (p.1 - f*p.2))),x6,none])=.ok false:=gx (fR rfl rfl (by rw[iI];simp[h0]));show (gO _ _).bind _=_;rw[t1];show jO (fK (fX gX (fL 0) (cM (.int 1))) (fK (fL 5) fP)) (nV [some (.p (fr p)),some (.p (fr r)),some (.o ((fs++[f]).map T.int)),some (.p (G7 (some p) (some r))),some (.p (.int f)),some (.p (.int (p.1 - f*p.2))),x6,none])=_;exact oj (fR rfl rfl (j5 p)) rfl
  have e7:=oF (c:=c) E (by omega) (some (r.2,r.1 - f*r.2)) hi1 h'.l h'.h;refine⟨vC (some (r.2,r.1 - f*r.2)) hi1 (fs++[f]) (some (.p (.int f))) (some (.p (.int (p.1 - f*p.2)))) (some (.p (oT hi1))),.inl ?_,⟨_,_,_,_,_,_,rfl,h'⟩,?_⟩
  ·refine fT (gh (t:=.int f) (rh rfl (by rw[<-hf];exact HF ⟨p2,pb1,pb2⟩ (by omega))) rfl) ?_;refine fT (tG (us:=fs.map T.int) rfl (t:=.int f) rfl (by simp;omega) rfl) ?_;refine fT (gh (t:=.int (p.1 - f*p.2)) (fR (fR rfl rfl (lP p)) (fR rfl (fR rfl rfl (j5 p)) (iu (fb.ok pb2 (by omega) (by omega)))) (oO _ _)) rfl) ?_;refine fT (gh (t:=oT hi1) ?_ rfl) ?_
   ·have:=e6;rw[aY] at this;exact this
   refine fT (gh (t:=fr (r.2,r.1 - f*r.2)) (oj (fR rfl rfl (j5 r)) (fR (fR rfl rfl (lP r)) (fR rfl (fR rfl rfl (j5 r)) (iu (fb.ok rb2 (by omega) (by omega)))) (oO _ _))) rfl) ?_;refine fT (gh (t:=oT hi1) rfl rfl) ?_;refine gh (hW rfl rfl e7) ?_;unfold vC;rw[aY];rfl
  ·have m0:Cm (vC (some p) (some r) fs x4 x5 x6)=p.2.natAbs+r.2.natAbs+1:=by unfold vC Cm;rw[wn];rfl
   rw[m0];by_cases hw:oC (some (r.2,r.1 - f*r.2)) (wb (some (r.2,r.1 - f*r.2)) hi1:Rat)/\oz hi1 (wb (some (r.2,r.1 - f*r.2)) hi1:Rat)
   ·have:Cm (vC (some (r.2,r.1 - f*r.2)) hi1 (fs++[f]) (some (.p (.int f))) (some (.p (.int (p.1 - f*p.2)))) (some (.p (oT hi1))))=0:=by unfold vC Cm;rw[vI hw];cases hi1<;>rfl
    rw[this];omega
   ·by_cases h0:p.1 - f*p.2=0
    ·have:hi1=none:=aP h0;have h0':Cm (vC (some (r.2,r.1 - f*r.2)) hi1 (fs++[f]) (some (.p (.int f))) (some (.p (.int (p.1 - f*p.2)))) (some (.p (oT hi1))))=0:=by unfold vC Cm;rw[this];rfl
     rw[h0'];omega
    ·have:hi1=some (p.2,p.1 - f*p.2):=aQ h0;have h0':Cm (vC (some (r.2,r.1 - f*r.2)) hi1 (fs++[f]) (some (.p (.int f))) (some (.p (.int (p.1 - f*p.2)))) (some (.p (oT hi1))))=(r.1 - f*r.2).natAbs+(p.1 - f*p.2).natAbs+1:=by unfold vC Cm;rw[vx hw,this];rfl
     rw[h0'];omega
theorem zk{E:Nat}{lo hi lo2 hi2:Option (Int×Int)}{fs:List Int}(h:ya lo hi fs lo2 hi2)(p:Int×Int)(e:lo=some p)(hp:0<p.2)(h0:0<p.1)(hl:Oe E lo)(hh:Oe E hi)(hh2:Oe E hi2)(l2:oC lo2 (wb lo2 hi2:Rat))(u2:oz hi2 (wb lo2 hi2:Rat)) :
  Gd lo hi (rb fs (wb lo2 hi2,1))/\0<(rb fs (wb lo2 hi2,1)).1/\Bn (E+1) (rb fs (wb lo2 hi2,1)).1/\Bn (E+1) (rb fs (wb lo2 hi2,1)).2:=by
 obtain⟨g,a1,a2,a3⟩:=Jg h p e hp h0 (λr er=>(hh r er).1) (λr er=>(hh2 r er).1) l2 u2;have P:(2:Int) ^ (E+1)=2*2 ^ E:=by rw[eF,cP]
 have P1:(1:Int)<=2 ^ E:=by have:=eD (n:=2) (m:=E) (by decide);omega
 have b1:=q9 (hl p e).2.1;have b2:=q9 (hl p e).2.2;have tl:tp lo=p.1:=by rw[e];rfl
 have bl:bt lo=p.2:=by rw[e];rfl
 have th:tp hi<=2 ^ E/\bt hi<=2 ^ E:=by
  cases eh:hi with
  | none=>exact⟨P1,by show (0:Int)<=_;omega⟩
  | some r=>have c1:=q9 (hh r eh).2.1;have c2:=q9 (hh r eh).2.2;exact⟨by show r.1<=_;omega,by show r.2<=_;omega⟩
 have gp:=g.pos;exact⟨g,a1,sA (by omega) (by omega),sA (by omega) (by omega)⟩
def QX(z:Int×Int)(f:Int):Int×Int:=(f*z.1+z.2,z.1)
theorem Cd(E:Nat)(hE:E<=7000)(x0 x1 x2 x3 x5 x6:Option W):∀(gs:List Int) (z:Int×Int) (x4:Option W),(∀f∈gs,Bn E f)->(∀k,k<=gs.length->Bn (2*E+10) ((gs.take k).foldl QX z).1)->
  ∃y4,jr (jF 4) (mh c) (gs.map T.int) [x0,x1,x2,x3,x4,x5,x6,some (.p (fr z))]=.nx [x0,x1,x2,x3,y4,x5,x6,some (.p (fr (gs.foldl QX z)))]
 | [],z,x4,_,_=>⟨x4,rfl⟩
 | f::gs,z,x4,hf,hb=>by
  have fB:Bn E f:=hf f (by simp);have zB:Bn (2*E+10) z.1:=by simpa using hb 0 (bH _)
  obtain⟨y4,e⟩:=Cd E hE x0 x1 x2 x3 x5 x6 gs (QX z f) (some (.p (.int f))) (λg hg=>hf g (by simp[hg])) (λk hk=>by simpa using hb (k+1) (by simpa using hk));refine⟨y4,?_⟩;have s1:mh c [x0,x1,x2,x3,some (.p (.int f)),x5,x6,some (.p (fr z))]=.nx [x0,x1,x2,x3,some (.p (.int f)),x5,x6,some (.p (fr (QX z f)))]:=gh (oj (fR (fR rfl (fR rfl rfl (lP z)) (iu (fB.ok zB (by omega) (by omega)))) (fR rfl rfl (j5 z)) (iU _ _)) (fR rfl rfl (lP z))) rfl
  rw[bF,jr];have s0:jF 4 (.int f) [x0,x1,x2,x3,x4,x5,x6,some (.p (fr z))]=some [x0,x1,x2,x3,some (.p (.int f)),x5,x6,some (.p (fr z))]:=rfl;rw[s0];dsimp only;rw[s1];exact e
theorem BE(fs:List Int)(y:Int×Int):fs.reverse.foldl QX y=rb fs y:=by rw[List.foldl_reverse];rfl
theorem Kl(E:Nat)(hE:E<=7000)(x0 x1 x2 x3 x5 x6:Option W)(fs:List Int)(y:Int×Int)(x4:Option W)(hf:∀f∈fs,Bn E f)(hb:∀k,k<=fs.length->Bn (2*E+10) (rb (fs.drop k) y).1) :
  ∃y4,jr (jF 4) (mh c) (fs.reverse.map T.int) [x0,x1,x2,x3,x4,x5,x6,some (.p (fr y))]=.nx [x0,x1,x2,x3,y4,x5,x6,some (.p (fr (rb fs y)))]:=by
 obtain⟨y4,e⟩:=Cd (c:=c) E hE x0 x1 x2 x3 x5 x6 fs.reverse y x4 (λf hf'=>hf f (by simpa using hf')) (λk hk=>by
  have h2:fs.reverse.take k=(fs.drop (fs.length - k)).reverse:=by rw[List.take_reverse]
  rw[h2,BE];exact hb _ (by omega))
 rw[BE] at e;exact⟨y4,e⟩
theorem Nw(p r:Int×Int):gD false (fr p) (fr r)=.ok (.bl (decide (p=r))):=by
 have:=JJ false [p.1,p.2] [r.1,r.2];have e:decide ([p.1,p.2]=[r.1,r.2])=decide (p=r):=by
  by_cases h:p=r
  ·rw[aB h,aB (by rw[h])]
  ·rw[aA h,aA];intro z;simp at z;exact h (Prod.ext z.1 z.2)
 simp only[b9,if_false] at this;rw[e] at this;exact this
theorem wH(E:Nat)(hE:E<=7000)(lo hi:Option (Int×Int))(h1:Oe E lo)(h2:Oe E hi)(hlt:∀p r,lo=some p->hi=some r->qv p<qv r) :
  ∃x,lj c [oT lo,oT hi]=.ok (fr x)/\Gd lo hi x/\Bn (2*E+4) x.1/\Bn (E+1) x.2:=by
 have w0:=oF (c:=c) E (by omega) lo hi h1 h2;have i0:M8 E lo hi [] lo hi:=⟨.nil,h1,h2,hlt,λf hf=>(nomatch hf),λz=>absurd rfl z⟩;have fu:Cm (vC lo hi [] none none none)<PF (vC lo hi [] none none none):=by
  cases el:lo with
  | none=>cases eh:hi<;>(unfold vC Cm PF oT;simp)
  | some p=>
   cases eh:hi with
   | none=>unfold vC Cm PF oT;simp[fr]
   | some r=>
    by_cases hw:oC (some p) (wb (some p) (some r):Rat)/\oz (some r) (wb (some p) (some r):Rat)
    ·unfold vC Cm PF oT;rw[vI hw];simp[fr]
    ·unfold vC Cm PF oT;rw[vx hw];simp[fr]
 obtain⟨ρ',e,lo',hi',fs,x4,x5,x6,rfl,hO,hl,hh⟩:=nP (g:=lX c) (λρ=>∃lo' hi' fs x4 x5 x6,ρ=vC lo' hi' fs x4 x5 x6/\M8 E lo hi fs lo' hi') Cm
  (λρ=>∃lo' hi' fs x4 x5 x6,ρ=vC lo' hi' fs x4 x5 x6/\M8 E lo hi fs lo' hi'/\oC lo' (wb lo' hi':Rat)/\oz hi' (wb lo' hi':Rat)) (L8 E hE lo hi) (PF (vC lo hi [] none none none)) (vC lo hi [] none none none) ⟨lo,hi,[],none,none,none,rfl,i0⟩ fu
 have wi:=vI ⟨hl,hh⟩;have P:(2:Int) ^ (E+1)=2*2 ^ E:=by rw[eF,cP]
 have P1:(1:Int)<=2 ^ E:=by have:=eD (n:=2) (m:=E) (by decide);omega
 have wB:Bn (E+1) (wb lo' hi'):=by have:=MU hO.l hO.h;unfold Bn;have p0:0<2 ^ E:=dk E;rw[c7];omega
 have fin:Gd lo hi (rb fs (wb lo' hi',1))/\Bn (2*E+4) (rb fs (wb lo' hi',1)).1/\Bn (E+1) (rb fs (wb lo' hi',1)).2/\∀k,k<=fs.length->Bn (2*E+10) (rb (fs.drop k) (wb lo' hi',1)).1:=by
  have hp:=hO.path;have hfb:=hO.fb;cases hp with
  | nil=>exact⟨⟨by show oC lo (qv (wb lo hi,1));rw[GA];exact hl,by show oz hi (qv (wb lo hi,1));rw[GA];exact hh,nr,JE _⟩,wB.mono (by omega),by show Bn (E+1) 1;exact sA (by omega) (by omega),λk _=>by rw[List.drop_nil];exact wB.mono (by omega)⟩
  | cons s hp=>
   rename_i lo1 hi1 f fs';obtain⟨p,r,e1,e2,hf,e3,e4,p2,r2,g3,g4⟩:=s.ex;obtain⟨fl1,fl2⟩:=rn p.1 p.2 p2;rw[<-hf] at fl1 fl2;have q4:(f+1)*r.2=f*r.2+r.2:=by grind
   have q5:(f+1)*p.2=f*p.2+p.2:=by grind
   have hrf:0<r.1 - f*r.2:=by
    have a1:f*p.2*r.2<=p.1*r.2:=aI fl1 (az r2);have a2:f*r.2*p.2<r.1*p.2:=by
     have:f*r.2*p.2=f*p.2*r.2:=by grind
     omega
    have:=eC a2 (az p2);omega
   have bp:=q9 (h1 p e1).2.2;have br:=q9 (h2 r e2).2.2;have ol:Oe E lo1:=λp' e'=>by rw[e3] at e';cases e';exact⟨hrf,(h2 r e2).2.2,sA (by dsimp only;omega) (by dsimp only;omega)⟩
   have oh:Oe E hi1:=λr' e'=>by
    rw[e4] at e';split at e'
    ·cases e'
    ·cases e';exact⟨by dsimp only;omega,(h1 p e1).2.2,sA (by dsimp only;omega) (by dsimp only;omega)⟩
   obtain⟨g,a1,a2,a3⟩:=zk hp (r.2,r.1 - f*r.2) e3 hrf r2 ol oh hO.h hl hh;have fB:Bn E f:=hfb f (by simp);have gJ:Bn (2*E+4) (f*(rb fs' (wb lo' hi',1)).1+(rb fs' (wb lo' hi',1)).2):=((fB.mul a2).add a3).mono (by omega);refine⟨EX s g a1,gJ,a2,λk hk=>?_⟩;have sm:∀(fs:List Int) (lo1 hi1:Option (Int×Int)),ya lo1 hi1 fs lo' hi'->(∃p,lo1=some p/\0<p.2/\0<p.1)->Oe E lo1->Oe E hi1->∀k,k<=fs.length->Bn (2*E+10) (rb (fs.drop k) (wb lo' hi',1)).1:=by
    intro fs;induction fs with
    | nil=>intro _ _ _ _ _ _ k _;rw[List.drop_nil];exact wB.mono (by omega)
    | cons f2 fs2 ih=>
     rintro lo1 hi1 hp ⟨p,e,c1,c2⟩ ol oh k hk;cases k with
     | zero=>obtain⟨_,_,b2,_⟩:=zk hp p e c1 c2 ol oh hO.h hl hh;rw[dc];exact b2.mono (by omega)
     | succ k=>
      cases hp with
      | cons s2 hp2=>
       obtain⟨p',r',e1',e2',hf',e3',e4',p2',r2',g3',g4'⟩:=s2.ex;obtain⟨fl1',fl2'⟩:=rn p'.1 p'.2 p2';rw[<-hf'] at fl1' fl2';have q4':(f2+1)*r'.2=f2*r'.2+r'.2:=by grind
       have q5':(f2+1)*p'.2=f2*p'.2+p'.2:=by grind
       have hrf':0<r'.1 - f2*r'.2:=by
        have a1:f2*p'.2*r'.2<=p'.1*r'.2:=aI fl1' (az r2');have a2:f2*r'.2*p'.2<r'.1*p'.2:=by
         have:f2*r'.2*p'.2=f2*p'.2*r'.2:=by grind
         omega
        have:=eC a2 (az p2');omega
       have bp':=q9 (ol p' e1').2.2;have br':=q9 (oh r' e2').2.2;have:=ih _ _ hp2 ⟨_,e3',hrf',r2'⟩ (λp'' e'=>by rw[e3'] at e';cases e';exact⟨hrf',(oh r' e2').2.2,sA (by dsimp only;omega) (by dsimp only;omega)⟩) (λr'' e'=>by
        rw[e4'] at e';split at e'
        ·cases e'
        ·cases e';exact⟨by dsimp only;omega,(ol p' e1').2.2,sA (by dsimp only;omega) (by dsimp only;omega)⟩) k (by simpa using hk)
       simpa using this
   cases k with
   | zero=>rw[dc];exact gJ.mono (by omega)
   | succ k=>simpa using sm fs' lo1 hi1 hp ⟨_,e3,hrf,r2⟩ ol oh k (by simpa using hk)
 obtain⟨f1,f2,f3,f4⟩:=fin;obtain⟨y4,eb⟩:=Kl (c:=c) E hE (some (.p (oT lo'))) (some (.p (oT hi'))) (some (.p (.lst (fs.map T.int)))) (some (.p (G7 lo' hi'))) x5 x6 fs (wb lo' hi',1) x4 hO.fb f4;refine⟨rb fs (wb lo' hi',1),?_,f1,f2,f3⟩;have t0:L3.kf (gO (fX (jS true) (fL 0) (cM .non))) (gO (fX (gD false) (fL 0) (fL 1))) (vw (ik 8 [oT lo,oT hi]))=.ok false:=by
  cases el:lo with
  | none=>exact pV (gx (fR rfl rfl rfl))
  | some p=>
   cases eh:hi with
   | none=>exact l9 (gx (fR rfl rfl rfl)) (gx (fR rfl rfl (by show gD false (fr p) .non=_;rfl)))
   | some r=>refine l9 (gx (fR rfl rfl rfl)) (gx (fR rfl rfl ?_));show gD false (fr p) (fr r)=_;rw[Nw,aA];intro z;have:=hlt p r el eh;rw[z] at this;exact absurd this (by grind)
 refine gS rfl (fT (gY t0 rfl) (fT (mm (ts:=[]) rfl rfl) (fT (gh (t:=G7 lo hi) (hW rfl rfl w0) rfl) (fT (ρ':=vC lo' hi' fs x4 x5 x6) e (fT (gh (t:=fr (wb lo' hi',1)) (oj (by show fL 3 _=.ok (.int (wb lo' hi'));rw[<-wi];rfl) rfl) rfl) (fT (P9 (ts:=fs.map T.int) rfl (jb (its:=fs.reverse.map T.int) (by rw[eG];rfl) eb)) (gB rfl)))))))
theorem xx(N M:Nat)(row other:List Int)(a:Nat)(ha:a<row.length)(hl:other.length=row.length)(hs:row.length<1000)(hN:N+M+1<=8000)(hb:∀x∈row,Bn N x)(ho:∀x∈other,Bn M x)(hne:vc other a≠0) :
  ∃r,i6 c [tI row,tI other,.int (a:Int)]=.ok (tI r)/\r.length=row.length/\(∀x∈r,Bn (N+M+1) x)/\vc r a=0/\∃g s b:Int,0<g/\0<s/\(∀i,g*vc r i=s*vc row i+b*vc other i)/\(vc row a≠0->s=((vc other a).natAbs:Int)/\b = -vc row a*qt (vc other a)):=by
 have sz:1000<sizeLine:=by decide
 have i1:gX (tI row) (.int (a:Int))=.ok (.int (vc row a)):=jT row a ha;have i2:gX (tI other) (.int (a:Int))=.ok (.int (vc other a)):=jT other a (by omega);have b1:Bn N (vc row a):=hb _ (lp row a ha);have b2:Bn M (vc other a):=ho _ (lp other a (by omega));by_cases h0:vc row a=0
 ·exact⟨row,gS rfl (jW (iw (gx (fR (fR rfl rfl i1) rfl (by rw[iI,h0];rfl))) (gB rfl)) rfl),rfl,λx hx=>(hb x hx).mono (by omega),h0,1,1,0,by decide,by decide,λi=>by omega,λz=>absurd h0 z⟩
 ·generalize hO:vc other a=o at *;generalize hX:vc row a=x0 at *;have ab:BR [.int o]=.ok (.int (o.natAbs:Int)):=by simp[K1]
  let w:Int:=-x0*qt o;have hsg:=GB o;have bw:Bn N w:=by
   refine b7 ?_ b1;show (-x0*qt o).natAbs<=_;rw[aX,c9];have:(qt o).natAbs<=1:=by omega
   exact aM (eI _ this) (by omega)
  have bo:Bn M (o.natAbs:Int):=b7 (by omega) b2;let ys:List Int:=(row.zip other).map λp=>(o.natAbs:Int)*p.1+w*p.2;have hyl:ys.length=row.length:=by simp[ys,hl]
  have hyb:∀y∈ys,Bn (N+M+1) y:=λy hy=>by obtain⟨p,hp,rfl⟩:=aC.mp hy;exact ((bo.mul (hb _ (aV hp).1)).add (bw.mul (ho _ (aV hp).2))).mono (by omega)
  have hyv:∀i,vc ys i=(o.natAbs:Int)*vc row i+w*vc other i:=λi=>by
   by_cases hi:i<row.length
   ·rw[sM ys i (by omega),sM row i hi,sM other i (by omega)];simp[ys]
   ·rw[vQ ys i (by omega),vQ row i (by omega),vQ other i (by omega),dy,dy];rfl
  obtain⟨g,r,hg,er,hrl,hrv,hrb⟩:=GM (c:=c) (N+M+1) hN ys (by omega) hyb;refine⟨r,gS rfl (fT (gY (gx (fR (fR rfl rfl i1) rfl (by rw[iI];simp[h0]))) rfl) (fT (gh (t:=.int (o.natAbs:Int)) (ou (fR rfl rfl i2) ab) rfl) (fT (gh (t:=.int w) ?_ rfl) (gB (rh (x:=tI ys) ?_ er))))),by omega,hrb,?_,g,(o.natAbs:Int),w,hg,by omega,λi=>by rw[<-hrv i,hyv i],λ_=>⟨rfl,rfl⟩⟩
  ·refine fR (x:=.int (-x0)) (y:=.int (qt o)) ?_ (rh (fR rfl rfl i2) (vT o)) (iu ((b1.neg).ok (n:=2) ?_ (by omega) (by decide)))
   ·exact tR (fR rfl rfl i1)
   ·unfold Bn;show _<4;omega
  ·refine ou (t:=.lst (ys.map T.int)) (iY (jv (row.zip other) (λp=>T.tup [.int p.1,.int p.2]) (λp=>T.int ((o.natAbs:Int)*p.1+w*p.2)) (oo rfl rfl rfl rfl) (by simp;omega) (λp hp=>⟨_,rfl,rfl,?_⟩) (by rw[aH];rfl))) rfl;exact fR (fR rfl rfl (iu (bo.ok (hb _ (aV hp).1) (by omega) (by omega)))) (fR rfl rfl (iu (bw.ok (ho _ (aV hp).2) (by omega) (by omega)))) (iU _ _)
  ·refine t8 (g:=g) (by omega) ?_;rw[<-hrv a,hyv a,hO,hX];show _ + -x0*qt o*o=_;rw[cO,KH,dA,cP x0];omega
theorem rg(P:Vc->Prop)(x1:Option W)(L M:Nat)(hL:L<1000):∀(pv:List (Nat×List Int)) (row:List Int) (N:Nat) (x2 x3:Option W),N+pv.length*(M+1)<=8000->row.length=L->(∀x∈row,Bn N x)->(∀p∈pv,p.1<L/\p.2.length=L/\vc p.2 p.1≠0/\(∀x∈p.2,Bn M x)/\P (vc p.2))->pv.Pairwise (λp q=>vc q.2 p.1=0)->
  ∃(r:List Int) (y2 y3:Option W),jr (kD 2 (g9 (jF 2) (g9 (jF 3) kr))) (rJ c) (pv.map lO) [some (.p (tI row)),x1,x2,x3]=.nx [some (.p (tI r)),x1,y2,y3]/\r.length=L/\(∀x∈r,Bn (N+pv.length*(M+1)) x)/\
   (∃(g s:Int) (y:Vc),0<g/\0<s/\Qs P y/\∀i,g*vc r i=s*vc row i+1*y i)/\(∀k,vc row k=0->(∀p∈pv,vc p.2 k=0)->vc r k=0)/\∀p∈pv,vc r p.1=0
 | [],row,N,x2,x3,_,hl,hb,_,_=>⟨row,x2,x3,rfl,hl,λx hx=>(hb x hx).mono (by omega),⟨1,1,λ_=>0,by decide,by decide,.zero,λi=>by show 1*vc row i=1*vc row i+1*0;omega⟩,λk hk _=>hk,λp hp=>nomatch hp⟩
 | (a,prow)::pv,row,N,x2,x3,hN,hl,hb,hA,hw=>by
  obtain⟨h1,h2,h3,h4,h5⟩:=hA (a,prow) (bj ..);dsimp only at h1 h2 h3 h4 h5;obtain⟨w1,w2⟩:=List.pairwise_cons.mp hw;rw[ay,b5] at hN;obtain⟨r1,e1,c1,b1,z0,g1,s1,q1,hg1,hs1,v1,_⟩:=xx (c:=c) N M row prow a (by omega) (by omega) (by omega) (by omega) hb h4 h3;obtain⟨r,y2,y3,e,hrl,hrb,⟨g2,s2,y,hg2,hs2,hy,v2⟩,z1,z2⟩:=rg P x1 L M hL pv r1 (N+M+1) (some (.p (.int (a:Int)))) (some (.p (tI prow))) (by omega) (by rw[c1,hl]) b1 (λp hp=>hA p (bu _ hp)) w2;refine⟨r,y2,y3,?_,hrl,λx hx=>(hrb x hx).mono (by rw[ay,b5];omega),⟨g1*g2,s2*s1,_,aW hg1 hg2,aW hs2 hs1,Qs.comb (s2*q1) g1 (.of h5) hy,λi=>?_⟩,λk hk hp=>?_,λp hp=>?_⟩
  ·rw[bF,jr];have s1:(kD 2 (g9 (jF 2) (g9 (jF 3) kr))) (lO (a,prow)) [some (.p (tI row)),x1,x2,x3]=some [some (.p (tI row)),x1,some (.p (.int (a:Int))),some (.p (tI prow))]:=rfl;rw[s1];have s2:rJ c [some (.p (tI row)),x1,some (.p (.int (a:Int))),some (.p (tI prow))]=.nx [some (.p (tI r1)),x1,some (.p (.int (a:Int))),some (.p (tI prow))]:=gh (lg rfl rfl rfl e1) rfl;dsimp only;rw[s2];exact e
  ·calc g1*g2*vc r i=g1*(g2*vc r i):=by ac_rfl
    _=s2*(g1*vc r1 i)+g1*y i:=by rw[v2 i,dm,dC];congr 1;ac_rfl
    _=_:=by rw[v1 i,dC];simp only[dm,cO,Int.add_assoc]
  ·refine z1 k (t8 (g:=g1) (by omega) ?_) λp hp'=>hp p (bu _ hp');have:=hp (a,prow) (bj ..);dsimp only at this;rw[v1 k,hk,this,dy,dy];rfl
  ·rcases aE.mp hp with rfl | hp
   ·exact z1 _ z0 λq hq=>w1 q hq
   ·exact z2 p hp
theorem B7(P:Vc->Prop)(L M N:Nat)(hL:L<1000)(pv:List (Nat×List Int))(row:List Int)(hN:N+pv.length*(M+1)<=8000)(hl:row.length=L)(hb:∀x∈row,Bn N x)(hp:∀p∈pv,p.1<L/\p.2.length=L/\vc p.2 p.1≠0/\(∀x∈p.2,Bn M x)/\P (vc p.2))(hw:pv.Pairwise (λp q=>vc q.2 p.1=0)) :
  ∃r:List Int,lM c [tI row,.lst (pv.map lO)]=.ok (tI r)/\r.length=L/\(∀x∈r,Bn (N+pv.length*(M+1)) x)/\
   (∃(g s:Int) (y:Vc),0<g/\0<s/\Qs P y/\∀i,g*vc r i=s*vc row i+1*y i)/\∀p∈pv,vc r p.1=0:=by
 obtain⟨r,y2,y3,e,h1,h2,h3,-,h4⟩:=rg (c:=c) P (some (.p (.lst (pv.map lO)))) L M hL pv row N none none hN hl hb hp hw;exact⟨r,gS rfl (fT (jb rfl e) (gB rfl)),h1,h2,h3,h4⟩
def lF(us:List (List Int))(d:Nat)(x:Vc):Prop:=∀k,k<=d->x k=sm us.length λi=>x (d+1+i)*vc (us.getD i []) k
theorem lF.comb{us:List (List Int)}{d:Nat}{x y z:Vc}{g a b:Int}(hg:g≠0)(hx:lF us d x)(hy:lF us d y)(e:∀i,g*z i=a*x i+b*y i):lF us d z:=λk hk=>by refine eJ hg ?_;rw[e k,hx k hk,hy k hk,<-zC,<-wY];refine kL _ _ _ λi _=>?_;have:=e (d+1+i);rw[<-cO g,this];grind
theorem lF.zero{us:List (List Int)}{d:Nat}:lF us d λ_=>0:=λk _=>by
 have:(λi=>(0:Int)*vc (us.getD i []) k)=λ_=>0:=by funext i;simp
 rw[this,vv]
theorem lF.qs{us:List (List Int)}{d:Nat}{P:Vc->Prop}(h:∀x,P x->lF us d x){z:Vc}(q:Qs P z):lF us d z:=by
 induction q with
 | zero=>exact .zero
 | of p=>exact h _ p
 | lin _ _ hs e i1 i2=>exact i1.comb hs i2 e
def wr(us:List (List Int))(k:Nat):List Int:=us.getD k []++(List.replicate us.length (0:Int)).set k 1
theorem Bh(us:List (List Int))(d k:Nat)(hk:k<us.length)(hl:∀u∈us,u.length=d+1)(i:Nat):vc (wr us k) i=if i<d+1 then vc (us.getD k []) i else if i - (d+1)=k then 1 else 0:=by
 have hm:us.getD k []∈us:=by rw[af,ag hk];exact aU hk
 have kT:=hl _ hm;unfold wr;generalize us.getD k []=u at *;unfold vc;rw[af,List.getElem?_append,kT];split
 ·rw[af]
 ·rw[List.getElem?_set];split
  ·rename_i h;rw[aP h.symm];rw[bN];rw[aP (by omega)];rfl
  ·rename_i h;rw[aQ (λz=>h z.symm),List.getElem?_replicate];split<;>rfl
theorem DT(us:List (List Int))(d k:Nat)(hk:k<us.length)(hl:∀u∈us,u.length=d+1):(wr us k).length=d+1+us.length:=by
 have hm:us.getD k []∈us:=by rw[af,ag hk];exact aU hk
 have kT:=hl _ hm;unfold wr;generalize us.getD k []=u at *;simp[kT]
theorem M4{B:Nat}(hB:1<=B)(us:List (List Int))(k:Nat)(hk:k<us.length)(hb:∀u∈us,∀x∈u,Bn B x):∀x∈wr us k,Bn B x:=λx hx=>by
 have hm:us.getD k []∈us:=by rw[af,ag hk];exact aU hk
 rcases ai.mp hx with h | h
 ·exact hb _ hm x h
 ·rcases eK h with h | h
  ·rw[a9 h];exact EE
  ·rw[h];have:Bn 1 1:=by unfold Bn;decide
   exact this.mono hB
theorem IK(us:List (List Int))(d k:Nat)(hk:k<us.length)(hl:∀u∈us,u.length=d+1):lF us d (vc (wr us k)):=λp hp=>by
 rw[Bh us d k hk hl p,aP (by omega)];have:(λi=>vc (wr us k) (d+1+i)*vc (us.getD i []) p)=λi=>(if i=k then 1 else 0)*vc (us.getD i []) p:=by funext i;rw[Bh us d k hk hl (d+1+i),aQ (by omega),show d+1+i - (d+1)=i by omega]
 rw[this,AV _ k _ hk]
def Pq(B:Nat):Nat->Nat
 | 0=>0
 | k+1=>Pq B k+(B+k*(Pq B k+1))+1
theorem KM(B:Nat)(k:Nat):Pq B k<=Pq B (k+1):=by show _<=Pq B k+(B+k*(Pq B k+1))+1;omega
structure PV(us:List (List Int))(d B:Nat)(dn:List Nat)(pv:List (Nat×List Int))(rs:List (List Int))(ix:List Nat):Prop where
 len:pv.length=ix.length
 pl:∀p∈pv,p.1<d/\p.2.length=d+1+us.length/\vc p.2 p.1≠0/\(∀x∈p.2,Bn (Pq B pv.length) x)/\lF us d (vc p.2)/\∀i,i∉ix->vc p.2 (d+1+i)=0
 pw:pv.Pairwise λp q=>p.1≠q.1/\vc q.2 p.1=0/\vc p.2 q.1=0
 rr:∀r∈rs,r.length=d+1+us.length/\(∀k,k<d->vc r k=0)/\lF us d (vc r)/\(∀i,i∉dn->vc r (d+1+i)=0)/\∀x∈r,Bn (B+d*(Pq B d+1)) x
 sub:∀i∈ix,i∈dn
 sp:∀z∈dn,Qs (λx=>(∃p∈pv,x=vc p.2)\/∃r∈rs,x=vc r) (vc (wr us z))
theorem PV.short{us:List (List Int)}{d B:Nat}{dn:List Nat}{pv:List (Nat×List Int)}{rs:List (List Int)}{ix:List Nat}(h:PV us d B dn pv rs ix):pv.length<=d:=by
 have nd:(pv.map Prod.fst).Nodup:=eL.mpr (h.pw.imp λq=>q.1);have:=wg d (pv.map Prod.fst) nd λx hx=>by obtain⟨p,hp,rfl⟩:=aC.mp hx;exact (h.pl p hp).1
 simpa using this
theorem MP{B k d:Nat}(h:k<=d):Pq B k<=Pq B d:=by
 induction h with
 | refl=>exact aJ _
 | step _ ih=>exact aM ih (KM B _)
theorem Qs.at_zero{P:Vc->Prop}{k:Nat}(h:∀x,P x->x k=0){z:Vc}(q:Qs P z):z k=0:=Qs.at0 h q
theorem LS{us:List (List Int)}{d B:Nat}{dn:List Nat}{pv:List (Nat×List Int)}{rs:List (List Int)}{ix:List Nat}(h:PV us d B dn pv rs ix){z:Nat}{left:List Int}(hz:lF us d (vc (wr us z)))(hw:∀i,i≠z->vc (wr us z) (d+1+i)=0){g s:Int}{y:Vc}(hg:0<g)(hs:0<s)(hy:Qs (Q2 pv) y)(e:∀i,g*vc left i=s*vc (wr us z) i+1*y i)
  (hl:left.length=d+1+us.length) (h0:∀k,k<d->vc left k=0) (hb:∀x∈left,Bn (B+d*(Pq B d+1)) x):PV us d B (dn++[z]) pv (rs++[left]) ix:=by
 have ly:lF us d y:=lF.qs (λx ⟨p,hp,ex⟩=>by rw[ex];exact (h.pl p hp).2.2.2.2.1) hy;refine⟨h.len,h.pl,h.pw,λr hr=>?_,λi hi=>ax _ (h.sub i hi),λz' hz'=>?_⟩
 ·rcases ai.mp hr with hr | hr
  ·obtain⟨a1,a2,a3,a4,a5⟩:=h.rr r hr;exact⟨a1,a2,a3,λi hi=>a4 i (λq=>hi (ax _ q)),a5⟩
  ·rw[aj.mp hr];refine⟨hl,h0,hz.comb (by omega) ly e,λi hi=>?_,hb⟩;refine t8 (g:=g) (by omega) ?_;rw[e,hw i (λq=>hi (by simp[q]))];have:y (d+1+i)=0:=Qs.at_zero (λx ⟨p,hp,ex⟩=>by rw[ex];exact (h.pl p hp).2.2.2.2.2 i (λq=>hi (ax _ (h.sub i q)))) hy;rw[this];simp
 ·rcases ai.mp hz' with q | q
  ·exact (h.sp z' q).mono λx hx=>by
    rcases hx with⟨p,hp,ex⟩ | ⟨r,hr,ex⟩
    ·exact .inl ⟨p,hp,ex⟩
    ·exact .inr ⟨r,ax _ hr,ex⟩
  ·rw[aj.mp q];exact .lin (s:=s) (a:=g) (b:=-1) (.of (.inr ⟨left,by simp,rfl⟩)) (hy.mono λx ⟨p,hp,ex⟩=>.inl ⟨p,hp,ex⟩) (by omega) λi=>by have:=e i;omega
theorem J5{us:List (List Int)}{d B:Nat}{dn:List Nat}{pv:List (Nat×List Int)}{rs:List (List Int)}{ix:List Nat}(h:PV us d B dn pv rs ix){z:Nat}{left:List Int}(hz:lF us d (vc (wr us z)))(hw:∀i,i≠z->vc (wr us z) (d+1+i)=0){g s:Int}{y:Vc}(hg:0<g)(hs:0<s)(hy:Qs (Q2 pv) y)(e:∀i,g*vc left i=s*vc (wr us z) i+1*y i)
  (hl:left.length=d+1+us.length) (hp0:∀p∈pv,vc left p.1=0) (hb:∀x∈left,Bn (B+pv.length*(Pq B pv.length+1)) x) {a:Nat} (ha:a<d) (hna:vc left a≠0) (f:Nat×List Int->List Int)
  (hf:∀p∈pv,(f p).length=p.2.length/\(∀x∈f p,Bn (Pq B (pv.length+1)) x)/\vc (f p) a=0/\∃g s b:Int,0<g/\0<s/\∀i,g*vc (f p) i=s*vc p.2 i+b*vc left i) :
  PV us d B (dn++[z]) (pv.map (λp=>(p.1,f p))++[(a,left)]) rs (ix++[z]):=by
 have ly:lF us d y:=lF.qs (λx ⟨p,hp,ex⟩=>by rw[ex];exact (h.pl p hp).2.2.2.2.1) hy;have ll:lF us d (vc left):=hz.comb (by omega) ly e;have wl:∀i,i∉ix++[z]->vc left (d+1+i)=0:=λi hi=>by refine t8 (g:=g) (by omega) ?_;rw[e,hw i (λq=>hi (by simp[q]))];have:y (d+1+i)=0:=Qs.at_zero (λx ⟨p,hp,ex⟩=>by rw[ex];exact (h.pl p hp).2.2.2.2.2 i (λq=>hi (ax _ q))) hy;rw[this];simp
 have ne:∀p∈pv,p.1≠a:=λp hp q=>hna (q▸hp0 p hp);refine⟨by simp[h.len],λp hp=>?_,?_,λr hr=>?_,λi hi=>?_,λz' hz'=>?_⟩
 ·simp only[aS,aw,b4];rcases ai.mp hp with hp | hp
  ·obtain⟨p',hp',rfl⟩:=aC.mp hp;obtain⟨a1,a2,a3,a4,a5,a6⟩:=h.pl p' hp';obtain⟨f1,f2,f3,g1,s1,b1,hg1,hs1,v1⟩:=hf p' hp';refine⟨a1,by rw[f1,a2],λq=>a3 ?_,f2,a5.comb (by omega) ll v1,λi hi=>?_⟩
   ·have:=v1 p'.1;rw[q,hp0 p' hp',dy,dy,dD] at this;exact t8 (g:=s1) (by omega) this.symm
   ·refine t8 (g:=g1) (by omega) ?_;rw[v1,a6 i (λq=>hi (ax _ q)),wl i hi];simp
  ·rw[aj.mp hp];exact⟨ha,hl,hna,λx hx=>(hb x hx).mono (by show _<=Pq B pv.length+(B+pv.length*(Pq B pv.length+1))+1;omega),ll,wl⟩
 ·refine eO.mpr ⟨eL.mpr (h.pw.imp_of_mem λ{p q} hp hq r=>?_),eP _ _,λp hp q hq=>?_⟩
  ·obtain⟨r1,r2,r3⟩:=r;obtain⟨_,_,_,g1,s1,b1,hg1,hs1,v1⟩:=hf p hp;obtain⟨_,_,_,g2,s2,b2,hg2,hs2,v2⟩:=hf q hq;refine⟨r1,t8 (g:=g2) (by omega) ?_,t8 (g:=g1) (by omega) ?_⟩
   ·rw[v2,r2,hp0 p hp];simp
   ·rw[v1,r3,hp0 q hq];simp
  ·obtain⟨p',hp',rfl⟩:=aC.mp hp;rw[aj.mp hq];exact⟨ne p' hp',hp0 p' hp',(hf p' hp').2.2.1⟩
 ·obtain⟨a1,a2,a3,a4,a5⟩:=h.rr r hr;exact⟨a1,a2,a3,λi hi=>a4 i (λq=>hi (ax _ q)),a5⟩
 ·rcases ai.mp hi with hi | hi
  ·exact ax _ (h.sub i hi)
  ·exact bC _ hi
 ·let Pn:Vc->Prop:=λx=>(∃p∈pv.map (λp=>(p.1,f p))++[(a,left)],x=vc p.2)\/∃r∈rs,x=vc r;have ql:Qs Pn (vc left):=.of (.inl ⟨(a,left),by simp,rfl⟩);have qp:∀p∈pv,Qs Pn (vc p.2):=λp hp=>by obtain⟨_,_,_,g1,s1,b1,hg1,hs1,v1⟩:=hf p hp;exact .lin (s:=s1) (a:=g1) (b:=-b1) (.of (.inl ⟨(p.1,f p),ax _ (aC.mpr ⟨p,hp,rfl⟩),rfl⟩)) ql (by omega) λi=>by have:=v1 i;have e2:-b1*vc left i = -(b1*vc left i):=dA _ _;dsimp only at this ⊢;omega
  rcases ai.mp hz' with q | q
  ·exact (h.sp z' q).sub λx hx=>by
    rcases hx with⟨p,hp,ex⟩ | ⟨r,hr,ex⟩
    ·rw[ex];exact qp p hp
    ·exact .of (.inr ⟨r,hr,ex⟩)
  ·rw[aj.mp q];exact .lin (s:=s) (a:=g) (b:=-1) ql (hy.sub λx ⟨p,hp,ex⟩=>by rw[ex];exact qp p hp) (by omega) λi=>by have:=e i;omega
structure RN(d B:Nat):Prop where
 b1:1<=B
 le:∀k,k<=d->B+k*(Pq B k+1)<=8000
 pq:Pq B d<=8000
theorem Qd(us:List (List Int))(d k:Nat)(hk:k<us.length)(hl:∀u∈us,u.length=d+1):∀i,i≠k->vc (wr us k) (d+1+i)=0:=λi hi=>by rw[Bh us d k hk hl,aQ (by omega),aQ (by omega)]
theorem CM(us:List (List Int))(d B:Nat)(hd:d<=4)(hn:us.length<=8)(hl:∀u∈us,u.length=d+1)(hb:∀u∈us,∀x∈u,Bn B x)(hB:RN d B)(zs:List Nat)(hz:∀z∈zs,z<us.length)(hzl:zs.length<=8) :
  ∃pv rs ix,jV c [.lst ((zs.map (wr us)).map tI),.int (d:Int)]=.ok (.tup [.lst (pv.map lO),.lst (rs.map tI)])/\PV us d B zs pv rs ix/\rs.length<=8:=by
 have sz:1000<sizeLine:=by decide
 have hrm:G5 (d:Int)=true:=nE (by omega);obtain⟨ρ,e,pv,rs,ix,x4,x5,x6,rfl,hI,hrs⟩:=iH (m:=jF 4) (g:=kX c) (λz=>tI (wr us z))
  (λk ρ=>∃(pv:List (Nat×List Int)) (rs:List (List Int)) (ix:List Nat) (x4 x5 x6:Option W),ρ=[some (.p (.lst ((zs.map (wr us)).map tI))),some (.p (.int (d:Int))),some (.p (.lst (pv.map lO))),some (.o (rs.map tI)),x4,x5,x6]/\PV us d B (zs.take k) pv rs ix/\rs.length<=k)
  zs 0 _ ⟨[],[],[],none,none,none,rfl,⟨rfl,(λp hp=>nomatch hp),List.Pairwise.nil,(λp hp=>nomatch hp),(λp hp=>nomatch hp),(λz hz=>by simp at hz)⟩,aJ _⟩ (by
   rintro k z ρ hi ⟨pv,rs,ix,x4,x5,x6,rfl,hI,hrs⟩;rw[aF] at hI hrs ⊢;have hzk:=hz z (au hi);have hkl:k<zs.length:=(aa.mp hi).1;have hpl:=hI.short;have hlin:=IK us d z hzk hl;have hww:=Qd us d z hzk hl;have hbb:=hB.le pv.length hpl;obtain⟨left,el,hll,hlb,⟨g,s,y,hg,hs,hy,ey⟩,h0⟩:=B7 (c:=c) (Q2 pv) (d+1+us.length) (Pq B pv.length) B (by omega) pv (wr us z) hbb (DT us d z hzk hl) (M4 hB.b1 us z hzk hb) (λp hp=>by obtain⟨q1,q2,q3,q4,_⟩:=hI.pl p hp;exact⟨by omega,q2,q3,q4,p,hp,rfl⟩) (hI.pw.imp λh=>h.2.1)
   let pl:List Nat:=(List.range d).filter λj=>left.getD j 0 != 0;let R:En:=[some (.p (.lst ((zs.map (wr us)).map tI))),some (.p (.int (d:Int))),some (.p (.lst (pv.map lO))),some (.o (rs.map tI)),some (.p (tI (wr us z))),some (.p (tI left)),some (.p (.lst (pl.map λ(j:Nat)=>T.int (j:Int))))];have e4:jJ [none,some 5] (lK (fK (fL 1) fP)) (jo 0) (gO (fX (gD true) (fX gX (fL 1) (fL 0)) (cM (.int 0)))) (nh c) (nV [some (.p (.lst ((zs.map (wr us)).map tI))),some (.p (.int (d:Int))),some (.p (.lst (pv.map lO))),some (.o (rs.map tI)),some (.p (tI (wr us z))),some (.p (tI left)),x6])=.ok (pl.map λ(j:Nat)=>T.int (j:Int)):=pj (List.range d) (λ(j:Nat)=>T.int (j:Int)) (λ(j:Nat)=>T.int (j:Int)) (λj=>left.getD j 0 != 0) (by simp[hrm,K4]) (by simp;omega) (λj hj=>⟨_,rfl,gx (fR (fR rfl rfl (jT left j (by have:=aR.mp hj;omega))) rfl (l8 _ _)),λ_=>rfl⟩) rfl
   have hlays:pO (pl.map λ(j:Nat)=>T.int (j:Int))=true:=su _ _ λ_ _=>rfl;have hdeps:vg (pl.map λ(j:Nat)=>T.int (j:Int))<=90:=aM (sr _ 0 _ λ_ _=>aJ _) (by decide);have hcond:gO (fX (gD false) (fL 6) (iO (lstM fP))) (vw R)=.ok pl.isEmpty:=by refine gx (fR (x:=.lst (pl.map λ(j:Nat)=>T.int (j:Int))) (y:=.lst []) rfl (by simp) ?_);rw[Am false _ hlays hdeps];simp
   have pre:∀r,(kg (gO (fX (gD false) (fL 6) (iO (lstM fP)))) (pC 3 (iK (fL 5))) (setO 2 (iK (iO (jR (fK (fL 2) (fK (fL 5) (fK (fX gX (fL 6) (cM (.int 0))) fP))) (lY c)))))) R=r->
     kX c [some (.p (.lst ((zs.map (wr us)).map tI))),some (.p (.int (d:Int))),some (.p (.lst (pv.map lO))),some (.o (rs.map tI)),some (.p (tI (wr us z))),x5,x6]=r:=λr hr=>
    fT (gh (t:=tI left) (hW rfl rfl el) rfl) (fT (gh (t:=.lst (pl.map λ(j:Nat)=>T.int (j:Int))) (iY e4) rfl) hr)
   have mono:B+pv.length*(Pq B pv.length+1)<=B+d*(Pq B d+1):=b8 (eQ hpl (Nat.add_le_add_right (MP hpl) 1)) _;have tk:zs.take (k+1)=zs.take k++[z]:=jk zs k z hi;cases hle:pl with
   | nil=>refine⟨_,_,rfl,.inl (pre _ (iw (by rw[hcond,hle];rfl) (tG (t:=tI left) rfl rfl (by simp;omega) rfl))),pv,rs++[left],ix,_,_,_,by rw[aY];rfl,?_,by simp;omega⟩;rw[tk];refine LS hI hlin hww hg hs hy ey hll (λi him=>?_) (λx hx=>(hlb x hx).mono mono);refine aN λhc=>?_;have:i∈pl:=aT.mpr ⟨aR.mpr him,by simpa[vc] using hc⟩;rw[hle] at this;exact nomatch this
   | cons j0 js=>
    have hj0:j0∈pl:=by rw[hle];exact bj ..
    have hj0m:j0<d:=aR.mp (aT.mp hj0).1;have hj0n:vc left j0≠0:=by have:=(aT.mp hj0).2;simpa[vc] using this
    have hroom:pv.length+1<=d:=by
     have nd:(j0::pv.map Prod.fst).Nodup:=bK.mpr ⟨λhm=>by obtain⟨p,hp,ep⟩:=aC.mp hm;exact hj0n (ep▸h0 p hp),eL.mpr (hI.pw.imp λq=>q.1)⟩
     have:=wg d _ nd λx hx=>by
      rcases aE.mp hx with rfl | hx
      ·exact hj0m
      ·obtain⟨p,hp,rfl⟩:=aC.mp hx;exact (hI.pl p hp).1
     simpa using this
    have hP:Pq B (pv.length+1)<=8000:=aM (MP hroom) hB.pq;obtain⟨f,hf⟩:=tK (P:=λ(p:Nat×List Int) (r:List Int)=>i6 c [tI p.2,tI left,.int (j0:Int)]=.ok (tI r)/\r.length=p.2.length/\(∀x∈r,Bn (Pq B (pv.length+1)) x)/\vc r j0=0/\∃g s b:Int,0<g/\0<s/\∀i,g*vc r i=s*vc p.2 i+b*vc left i) pv λp hp=>by obtain⟨q1,q2,q3,q4,_⟩:=hI.pl p hp;obtain⟨r,a1,a2,a3,a4,g,s,b,a5,a6,a7,_⟩:=xx (c:=c) (Pq B pv.length) (B+pv.length*(Pq B pv.length+1)) p.2 left j0 (by omega) (by omega) (by omega) hP q4 hlb hj0n;exact⟨r,a1,a2,a3,a4,g,s,b,a5,a6,a7⟩
    have i0:fX gX (fL 6) (cM (.int 0)) (nV R)=.ok (.int (j0:Int)):=fR (x:=.lst (pl.map λ(j:Nat)=>T.int (j:Int))) rfl rfl (by rw[hle];exact Q6 _ _);have e5:=xY (c:=c) pv left j0 f (by omega) λp hp=>(hf p hp).1;refine⟨_,_,rfl,.inl (pre _ (gY (by rw[hcond,hle];rfl) (gh (iY (Ho rfl rfl i0 e5)) rfl))),_,rs,ix++[z],_,_,_,rfl,?_,by omega⟩;rw[tk];exact J5 hI hlin hww hg hs hy ey hll h0 hlb hj0m hj0n f λp hp=>(hf p hp).2)
 rw[aF,du] at hI;rw[aF] at hrs;refine⟨pv,rs,ix,gS rfl (fT (gh (t:=.lst []) (by simp) rfl) (fT (mm (ts:=[]) (by simp) rfl) (fT (jb (by rw[aH];rfl) e) (gB (oj rfl rfl))))),hI,by omega⟩
def nW(pv:List (Nat×List Int))(d:Nat):List Nat:=(List.range d).filter λk=>!(pv.map Prod.fst).contains k
theorem Ip(neg:Bool)(k:Nat)(l:List Nat):Ht neg (.int (k:Int)) (.lst (l.map λ(j:Nat)=>T.int (j:Int)))=.ok (.bl (if neg then !l.contains k else l.contains k)):=by
 have h1:(l.map λ(j:Nat)=>T.int (j:Int)).all j9=true:=cy.mpr λx hx=>by obtain⟨y,-,rfl⟩:=aC.mp hx;rfl
 have h2:uP (.int (k:Int)) (l.map λ(j:Nat)=>T.int (j:Int))=l.contains k:=by
  unfold uP;rw[cw,eR];congr 1;funext a;show qF (T.int (a:Int)) (T.int (k:Int))=(k == a);rw[qF];by_cases h:k=a
  ·subst h;simp
  ·have h':¬((a:Int)=(k:Int)):=by omega
   rw[beq_eq_false_iff_ne.mpr h',beq_eq_false_iff_ne.mpr h]
 show (if j9 (T.int (k:Int))&&(l.map λ(j:Nat)=>T.int (j:Int)).all j9 then _ else _)=_;rw[h1,h2];rfl
theorem xv(pv:List (Nat×List Int))(d:Nat)(hd:d<=10)(hp:pv.length<=100):my c [.lst (pv.map lO),.int (d:Int)]=.ok ((nW pv d).map λ(j:Nat)=>T.int (j:Int)):=by
 have sz:1000<sizeLine:=by decide
 have hrm:G5 (d:Int)=true:=nE (by omega);refine qi rfl (fT (gh (t:=.lst ((pv.map Prod.fst).map λ(j:Nat)=>T.int (j:Int))) (iY (jv pv lO (λp=>T.int (p.1:Int)) rfl (by omega) (λp hp=>⟨_,rfl,rfl,rfl⟩) (by rw[aH];rfl))) rfl) (AB ?_));exact pj (List.range d) (λ(j:Nat)=>T.int (j:Int)) (λ(j:Nat)=>T.int (j:Int)) (λk=>!(pv.map Prod.fst).contains k) (by simp[hrm,K4]) (by simp;omega) (λj hj=>⟨_,rfl,gx (fR rfl rfl (Ip true j _)),λ_=>rfl⟩) rfl
structure Jn(a:Nat)(x y r:List Int):Prop where
 len:r.length=x.length
 at0:vc r a=0
 ex:∃g:Int,0<g/\∀i,g*vc r i = -vc y a*vc x i+vc x a*vc y i
theorem GY(N:Nat)(x y:List Int)(a:Nat)(ha:a<x.length)(hl:y.length=x.length)(hs:x.length<1000)(hN:2*N+1<=8000)(hx:∀i∈x,Bn N i)(hy:∀i∈y,Bn N i)(hp:0<vc x a)(hn:vc y a<0) :
  ∃r,i6 c [tI x,tI y,.int (a:Int)]=.ok (tI r)/\Jn a x y r/\∀i∈r,Bn (2*N+1) i:=by
 obtain⟨r,e,l,b,z,g,s,w,hg,hs',v,q⟩:=xx (c:=c) N N x y a ha hl hs (by omega) hx hy (by omega);obtain⟨q1,q2⟩:=q (by omega);have sg:qt (vc y a) = -1:=by unfold qt;rw[aQ (by omega),aP hn]
 refine⟨r,e,⟨l,z,g,hg,λi=>?_⟩,λi hi=>(b i hi).mono (by omega)⟩;have e1:s = -vc y a:=by omega
 have e2:w=vc x a:=by rw[q2,sg];omega
 rw[v i,e1,e2]
def Gk(d:Nat)(r:List Int):Nat:=((r.drop (d+1)).filter λw=>w != 0).length
theorem Bf(kvs:List (List Int×T))(k:List Int)(t:T):(uU kvs k t).map Prod.fst=if (kvs.map Prod.fst).contains k then kvs.map Prod.fst else kvs.map Prod.fst++[k]:=by
 have h:(kvs.any λkv=>decide (kv.1=k))=(kvs.map Prod.fst).contains k:=by
  rw[eR,cw];congr 1;funext kv;by_cases q:kv.1=k
  ·simp[q]
  ·have:¬(k=kv.1):=λz=>q z.symm;simp[q,this]
 unfold uU;rw[h];split
 ·rw[aH];refine cE λkv _=>?_;show (if kv.1=k then (kv.1,t) else kv).1=kv.1;split<;>rfl
 ·simp
theorem E7{kvs:List (List Int×T)}{k r:List Int}{t:T}:r∈(uU kvs k t).map Prod.fst↔r∈kvs.map Prod.fst\/r=k:=by
 rw[Bf];split
 ·rename_i h;constructor
  ·exact .inl
  ·rintro (q | rfl)
   ·exact q
   ·simpa using h
 ·simp
theorem Et(kvs:List (List Int×T))(k:List Int)(t:T):(uU kvs k t).length<=kvs.length+1:=by have:=congrArg List.length (Bf kvs k t);rw[aw] at this;rw[this];split<;>simp
theorem rQ(r:List Int)(d:Nat){f:Pe->M T}{ρ:Pe}(h:f ρ=.ok (tI r)){fd:Pe->M T}(hd:fd ρ=.ok (.int (d:Int))):oP f (lb (fX iV fd (cM (.int 1)))) (λ_=>.ok none) ρ=.ok (tI (r.drop (d+1))):=by
 have e1:lb (fX iV fd (cM (.int 1))) ρ=.ok (some ((d+1:Nat):Int)):=by have:fX iV fd (cM (.int 1)) ρ=.ok (.int ((d+1:Nat):Int)):=fR hd rfl (by rw[iU];simp);simp only[lb,this,M.bind_ok]
 simp only[oP,h,e1,M.bind_ok,tI];rw[Gu,List.map_drop]
theorem EA{f:Pe->M T}{ρ:Pe}{r:List Int}(h:f ρ=.ok (tI r)):ig f ρ=.ok (r.map T.int):=by unfold ig;rw[h];rfl
structure Sh(d a:Nat)(rows:List (List Int))(most N:Nat)(ks:List (List Int)):Prop where
 from_:∀r∈ks,(r∈rows/\vc r a=0)\/∃x∈rows,∃y∈rows,0<vc x a/\vc y a<0/\Jn a x y r
 bn:∀r∈ks,∀i∈r,Bn (2*N+1) i
theorem El{i:Nat}{ρ:En}{fk f:Pe->M T}{kvs:List (List Int×T)}{k:List Int}{t:T}(ho:ρ[i]? = some (some (.d kvs)))(hk:fk (vw ρ)=.ok (tI k))(hf:f (vw ρ)=.ok t)(hl:lf t=true)(hz:kvs.length<sizeLine):wz i (m8 fk) (m8 f) ρ=.nx (ρ.set i (some (.d (uU kvs k t)))):=by
 unfold wz ud m8;rw[ho,hk,hf];have hl2:lf (tI k)=true:=Hq k;simp only[M.bind_ok,hl,hl2,if_true,O.of_ok];show (match kC (k.map T.int) with
  | some ns=>if kvs.length<sizeLine then O.nx (ρ.set i (some (.d (uU kvs ns t)))) else .bad
  | none=>.bad)=_
 rw[Gv];simp only[hz,if_true]
theorem FY(d a most N:Nat)(L:Nat)(hL:L<1000)(hd:d<L)(ha:a<L)(hN:2*N+1<=8000)(rows:List (List Int))(hrl:rows.length<=2000)(hr:∀r∈rows,r.length=L/\∀i∈r,Bn N i) :
  ∃ks:List (List Int),rV c [.lst (rows.map tI),.int (d:Int),.int (a:Int),.int (most:Int)]=.ok (ks.map tI)/\Sh d a rows most N ks/\(∀m,4<=m->rows.length<=m->4*ks.length<=m*m)/\(∀r∈rows,vc r a=0->r∈ks)/\∀x∈rows,∀y∈rows,0<vc x a->vc y a<0->∃r,Jn a x y r/\(Gk d r<=most->r∈ks):=by
 have sz:10000000<sizeLine:=by decide
 have ixr:∀r∈rows,gX (tI r) (.int (a:Int))=.ok (.int (vc r a)):=λr hr'=>jT r a (by rw[(hr r hr').1];exact ha);let R0 (kvs:List (List Int×T)) (x5 x6 x7 x8:Option W):En:=[some (.p (.lst (rows.map tI))),some (.p (.int (d:Int))),some (.p (.int (a:Int))),some (.p (.int (most:Int))),some (.d kvs),x5,x6,x7,x8];obtain⟨ρ1,e1,kvs1,x5,rfl,h1,h1l⟩:=iH (m:=jF 5) (g:=zf c) tI
  (λk ρ=>∃(kvs:List (List Int×T)) (x5:Option W),ρ=R0 kvs x5 none none none/\(∀r,r∈kvs.map Prod.fst↔r∈rows.take k/\vc r a=0)/\kvs.length<=((rows.take k).filter λr=>decide (vc r a=0)).length)
  rows 0 (R0 [] none none none none) ⟨[],none,rfl,λr=>by simp,by simp⟩ (by
   rintro k r ρ hi ⟨kvs,x5,rfl,h,hk⟩;rw[aF] at h hk ⊢;have hm:=au hi;have hkr:k<rows.length:=(aa.mp hi).1;have tk:rows.take (k+1)=rows.take k++[r]:=jk rows k r hi;have tl:((rows.take k).filter λr=>decide (vc r a=0)).length<=k:=aM (eS _ _) (by simp;omega);by_cases h0:vc r a=0
   ·refine⟨_,_,rfl,.inl (iw (gx (fR (fR rfl rfl (ixr r hm)) rfl (by rw[iI,h0];rfl))) (El (k:=r) (t:=.bl true) rfl rfl rfl rfl (by omega))),uU kvs r (.bl true),some (.p (tI r)),rfl,λr'=>?_,aM (Et _ _ _) (by rw[tk,eT,aS];simp[h0];exact hk)⟩;rw[E7,h,tk];constructor
    ·rintro (⟨q1,q2⟩ | rfl)
     ·exact⟨ax _ q1,q2⟩
     ·exact⟨by simp,h0⟩
    ·rintro⟨q1,q2⟩;rcases ai.mp q1 with q | q
     ·exact .inl ⟨q,q2⟩
     ·exact .inr (aj.mp q)
   ·refine⟨_,_,rfl,.inl (gY (gx (fR (fR rfl rfl (ixr r hm)) rfl (by rw[iI];simp[h0]))) rfl),kvs,some (.p (tI r)),rfl,λr'=>?_,aM hk (by rw[tk,eT,aS];omega)⟩;rw[h,tk];constructor
    ·rintro⟨q1,q2⟩;exact⟨ax _ q1,q2⟩
    ·rintro⟨q1,q2⟩;rcases ai.mp q1 with q | q
     ·exact⟨q,q2⟩
     ·rw[aj.mp q] at q2;exact absurd q2 h0)
 rw[aF,du] at h1 h1l;have zl:(rows.filter λr=>decide (vc r a=0)).length<=rows.length:=eS _ _;let ps:=rows.filter λr=>decide (0<vc r a);let ns:=rows.filter λr=>decide (vc r a<0);have mp:∀x,x∈ps↔x∈rows/\0<vc x a:=λx=>by show x∈List.filter _ _↔_;simp
 have mn:∀x,x∈ns↔x∈rows/\vc x a<0:=λx=>by show x∈List.filter _ _↔_;simp
 have pl:ps.length<=rows.length:=eS _ _;have nl:ns.length<=rows.length:=eS _ _;obtain⟨J,hJ⟩:∃J:List Int×List Int->List Int,∀p∈(ps.flatMap λx=>ns.map λy=>(x,y)),i6 c [tI p.1,tI p.2,.int (a:Int)]=.ok (tI (J p))/\Jn a p.1 p.2 (J p)/\∀i∈J p,Bn (2*N+1) i:=tK (P:=λ(p:List Int×List Int) (r:List Int)=>i6 c [tI p.1,tI p.2,.int (a:Int)]=.ok (tI r)/\Jn a p.1 p.2 r/\∀i∈r,Bn (2*N+1) i) _ λp hp=>by obtain⟨x,hx,hp⟩:=eU.mp hp;obtain⟨y,hy,rfl⟩:=aC.mp hp;obtain⟨x1,x2⟩:=(mp x).mp hx;obtain⟨y1,y2⟩:=(mn y).mp hy;exact GY (c:=c) N x y a (by rw[(hr x x1).1];exact ha) (by rw[(hr x x1).1,(hr y y1).1]) (by rw[(hr x x1).1];exact hL) hN (hr x x1).2 (hr y y1).2 x2 y2
 have hJm:∀x∈ps,∀y∈ns,i6 c [tI x,tI y,.int (a:Int)]=.ok (tI (J (x,y)))/\Jn a x y (J (x,y))/\∀i∈J (x,y),Bn (2*N+1) i:=λx hx y hy=>hJ (x,y) (eU.mpr ⟨x,hx,aC.mpr ⟨y,hy,rfl⟩⟩);have ePs:∀ρ:En,ρ[0]? = some (some (.p (.lst (rows.map tI))))->ρ[2]? = some (some (.p (.int (a:Int))))->True:=λ_ _ _=>trivial;have inner:∀(x:List Int),x∈ps->∀(kvs:List (List Int×T)) (x5 x7 x8:Option W),kvs.length+ns.length<=9000000->∃(kvs':List (List Int×T)) (y7 y8:Option W),jr (jF 7) (t6 c) (ns.map tI) (R0 kvs x5 (some (.p (tI x))) x7 x8)=.nx (R0 kvs' x5 (some (.p (tI x))) y7 y8)/\
   (∀r,r∈kvs'.map Prod.fst↔r∈kvs.map Prod.fst\/∃y∈ns,r=J (x,y)/\Gk d (J (x,y))<=most)/\kvs'.length<=kvs.length+ns.length:=by
  intro x hx kvs x5 x7 x8 hsz;obtain⟨ρ2,e2,kvs',y7,y8,rfl,h2,h2l⟩:=iH (m:=jF 7) (g:=t6 c) tI
   (λk ρ=>∃(kvs':List (List Int×T)) (y7 y8:Option W),ρ=R0 kvs' x5 (some (.p (tI x))) y7 y8/\(∀r,r∈kvs'.map Prod.fst↔r∈kvs.map Prod.fst\/∃y∈ns.take k,r=J (x,y)/\Gk d (J (x,y))<=most)/\kvs'.length<=kvs.length+k)
   ns 0 (R0 kvs x5 (some (.p (tI x))) x7 x8) ⟨kvs,x7,x8,rfl,λr=>by simp,aJ _⟩ (by
    rintro k y ρ hi ⟨kvs',y7,y8,rfl,h,hk⟩;rw[aF] at h hk ⊢;have hm:=au hi;have hkr:k<ns.length:=(aa.mp hi).1;have tk:ns.take (k+1)=ns.take k++[y]:=jk ns k y hi;obtain⟨f1,f2,f3⟩:=hJm x hx y hm;have sl:oP (fL 8) (lb (fX iV (fL 1) (cM (.int 1)))) (λ_=>.ok none) (vw (R0 kvs' x5 (some (.p (tI x))) (some (.p (tI y))) (some (.p (tI (J (x,y)))))))=.ok (tI ((J (x,y)).drop (d+1))):=rQ (J (x,y)) d rfl rfl;have lenJ:(J (x,y)).length=L:=by rw[f2.len,(hr x ((mp x).mp hx).1).1]
    have lc:jJ [none] (ig (oP (fL 8) (lb (fX iV (fL 1) (cM (.int 1)))) (λ_=>.ok none))) (jo 0) (gO (fX (gD true) (fL 0) (cM (.int 0)))) (ue c) (vw (R0 kvs' x5 (some (.p (tI x))) (some (.p (tI y))) (some (.p (tI (J (x,y)))))))=.ok ((((J (x,y)).drop (d+1)).filter λw=>w != 0).map T.int):=pj ((J (x,y)).drop (d+1)) T.int T.int (λw=>w != 0) (EA sl) (by simp;omega) (λw hw=>⟨_,rfl,gx (fR rfl rfl (by rw[l8];rfl)),λ_=>rfl⟩) rfl
    have cond:gO (fX Hk (jq jy (fK (iO (jJ [none] (ig (oP (fL 8) (lb (fX iV (fL 1) (cM (.int 1)))) (λ_=>.ok none))) (jo 0) (gO (fX (gD true) (fL 0) (cM (.int 0)))) (ue c))) fP)) (fL 3)) (vw (R0 kvs' x5 (some (.p (tI x))) (some (.p (tI y))) (some (.p (tI (J (x,y)))))))=.ok (decide (Gk d (J (x,y))<=most)):=by
     refine gx (fR (x:=.int (Gk d (J (x,y)):Int)) (y:=.int (most:Int)) (ou (iY lc) (by simp[Gk])) rfl ?_);rw[AR];by_cases q:Gk d (J (x,y))<=most
     ·rw[aB q,aB (by omega)]
     ·rw[aA q,aA (by omega)]
    have st1:setO 8 (iK (fW (fK (fL 6) (fK (fL 7) (fK (fL 2) fP))) (i6 c))) (R0 kvs' x5 (some (.p (tI x))) (some (.p (tI y))) y8)=.nx (R0 kvs' x5 (some (.p (tI x))) (some (.p (tI y))) (some (.p (tI (J (x,y)))))):=gh (lg rfl rfl rfl f1) rfl;by_cases q:Gk d (J (x,y))<=most
    ·refine⟨_,_,rfl,.inl (fT st1 (iw (by rw[cond,aB q]) (El (k:=J (x,y)) (t:=.bl true) rfl rfl rfl rfl (by omega)))),uU kvs' (J (x,y)) (.bl true),some (.p (tI y)),some (.p (tI (J (x,y)))),rfl,λr=>?_,aM (Et _ _ _) (by omega)⟩;rw[E7,h,tk];constructor
     ·rintro ((q1 | ⟨y',q1,q2⟩) | rfl)
      ·exact .inl q1
      ·exact .inr ⟨y',ax _ q1,q2⟩
      ·exact .inr ⟨y,by simp,rfl,q⟩
     ·rintro (q1 | ⟨y',q1,q2⟩)
      ·exact .inl (.inl q1)
      ·rcases ai.mp q1 with q3 | q3
       ·exact .inl (.inr ⟨y',q3,q2⟩)
       ·rw[aj.mp q3] at q2;exact .inr q2.1
    ·refine⟨_,_,rfl,.inl (fT st1 (gY (by rw[cond,aA q]) rfl)),kvs',some (.p (tI y)),some (.p (tI (J (x,y)))),rfl,λr=>?_,by omega⟩;rw[h,tk];constructor
     ·rintro (q1 | ⟨y',q1,q2⟩)
      ·exact .inl q1
      ·exact .inr ⟨y',ax _ q1,q2⟩
     ·rintro (q1 | ⟨y',q1,q2⟩)
      ·exact .inl q1
      ·rcases ai.mp q1 with q3 | q3
       ·exact .inr ⟨y',q3,q2⟩
       ·rw[aj.mp q3] at q2;exact absurd q2.2 q)
  rw[aF,du] at h2;rw[aF] at h2l;exact⟨kvs',y7,y8,e2,h2,h2l⟩
 have sq:rows.length*rows.length<=2000*2000:=eQ hrl hrl;obtain⟨ρ3,e3,kvs3,y6,y7,y8,rfl,h3,h3l⟩:=iH (m:=jF 6) (g:=yz c) tI
  (λk ρ=>∃(kvs:List (List Int×T)) (y6 y7 y8:Option W),ρ=R0 kvs x5 y6 y7 y8/\(∀r,r∈kvs.map Prod.fst↔(r∈rows/\vc r a=0)\/∃x∈ps.take k,∃y∈ns,r=J (x,y)/\Gk d (J (x,y))<=most)/\kvs.length<=(rows.filter λr=>decide (vc r a=0)).length+k*ns.length)
  ps 0 (R0 kvs1 x5 none none none) ⟨kvs1,none,none,none,rfl,λr=>by rw[h1];simp,by rw[Nat.zero_mul];exact h1l⟩ (by
   rintro k x ρ hi ⟨kvs,y6,y7,y8,rfl,h,hk⟩;rw[aF] at h hk ⊢;have hm:=au hi;have hkr:k<ps.length:=(aa.mp hi).1;have tk:ps.take (k+1)=ps.take k++[x]:=jk ps k x hi;have kn:(k+1)*ns.length<=rows.length*rows.length:=eQ (by omega) nl;have kn':(k+1)*ns.length=k*ns.length+ns.length:=b5 _ _;obtain⟨kvs',z7,z8,e,h',hl'⟩:=inner x hm kvs x5 y7 y8 (by omega);have it:ig (iO (jJ [none,some 2] (ig (fL 0)) (jo 0) (gO (fX Cq (fX gX (fL 0) (fL 1)) (cM (.int 0)))) (tz c))) (nV (R0 kvs x5 (some (.p (tI x))) y7 y8))=.ok (ns.map tI):=by
    have:jJ [none,some 2] (ig (fL 0)) (jo 0) (gO (fX Cq (fX gX (fL 0) (fL 1)) (cM (.int 0)))) (tz c) (nV (R0 kvs x5 (some (.p (tI x))) y7 y8))=.ok (ns.map tI):=pj rows tI tI (λr=>decide (vc r a<0)) rfl (by omega) (λr hr'=>⟨_,rfl,gx (fR (fR rfl rfl (ixr r hr')) rfl (by rw[pD])),λ_=>rfl⟩) rfl
    simp only[ig,iO,this,M.bind_ok]
   refine⟨_,_,rfl,.inl (jb it e),kvs',some (.p (tI x)),z7,z8,rfl,λr=>?_,by omega⟩;rw[h',h,tk];constructor
   ·rintro ((q1 | ⟨x',q1,q2⟩) | ⟨y,q1,q2⟩)
    ·exact .inl q1
    ·exact .inr ⟨x',ax _ q1,q2⟩
    ·exact .inr ⟨x,by simp,y,q1,q2⟩
   ·rintro (q1 | ⟨x',q1,y,q2,q3⟩)
    ·exact .inl (.inl q1)
    ·rcases ai.mp q1 with q4 | q4
     ·exact .inl (.inr ⟨x',q4,y,q2,q3⟩)
     ·rw[aj.mp q4] at q3;exact .inr ⟨y,q2,q3⟩)
 rw[aF,du] at h3;rw[aF] at h3l;have it:ig (iO (jJ [none,some 2] (ig (fL 0)) (jo 0) (gO (fX A3 (fX gX (fL 0) (fL 1)) (cM (.int 0)))) (uc c))) (nV (R0 kvs1 x5 none none none))=.ok (ps.map tI):=by
  have:jJ [none,some 2] (ig (fL 0)) (jo 0) (gO (fX A3 (fX gX (fL 0) (fL 1)) (cM (.int 0)))) (uc c) (nV (R0 kvs1 x5 none none none))=.ok (ps.map tI):=pj rows tI tI (λr=>decide (0<vc r a)) rfl (by omega) (λr hr'=>⟨_,rfl,gx (fR (fR rfl rfl (ixr r hr')) rfl (by rw[sh])),λ_=>rfl⟩) rfl
  simp only[ig,iO,this,M.bind_ok]
 have kl:ps.length*ns.length<=rows.length*rows.length:=eQ pl nl;refine⟨kvs3.map Prod.fst,?_,⟨λr hr'=>?_,λr hr'=>?_⟩,λm hm hrm=>?_,λr hr' h0=>(h3 r).mpr (.inl ⟨hr',h0⟩),λx hx y hy px ny=>⟨J (x,y),(hJm x ((mp x).mpr ⟨hx,px⟩) y ((mn y).mpr ⟨hy,ny⟩)).2.1,λq=>(h3 _).mpr (.inr ⟨x,(mp x).mpr ⟨hx,px⟩,y,(mn y).mpr ⟨hy,ny⟩,rfl,q⟩)⟩⟩
 ·refine qi rfl (fT (ρ':=R0 [] none none none none) rfl (fT (jb rfl e1) (fT (jb it e3) ?_)));show O.rf _=O.rf _;rw[aH];rfl
 ·rcases (h3 r).mp hr' with q | ⟨x,qx,y,qy,rfl,_⟩
  ·exact .inl q
  ·exact .inr ⟨x,((mp x).mp qx).1,y,((mn y).mp qy).1,((mp x).mp qx).2,((mn y).mp qy).2,(hJm x qx y qy).2.1⟩
 ·rcases (h3 r).mp hr' with q | ⟨x,qx,y,qy,rfl,_⟩
  ·exact λi hi=>((hr r q.1).2 i hi).mono (by omega)
  ·exact (hJm x qx y qy).2.2
 ·have cnt3:(rows.filter λr=>decide (vc r a=0)).length+ps.length+ns.length=rows.length:=by
   show (List.filter _ _).length+(List.filter _ _).length+(List.filter _ _).length=_;clear hrl hr ixr R0 e1 h1 h1l hJ hJm inner sq e3 h3 h3l it kl mp mn pl nl zl hrm ePs;induction rows with
   | nil=>rfl
   | cons r rows ih=>
    simp only[List.filter_cons,ay];rcases dQ (vc r a) 0 with q | q | q
    ·have q1:¬vc r a=0:=by omega
     have q2:¬0<vc r a:=by omega
     simp only[q,q1,q2,decide_true,decide_false,if_true,if_false,ay,b9];omega
    ·have q1:¬vc r a<0:=by omega
     have q2:¬0<vc r a:=by omega
     simp only[q,q1,q2,decide_true,decide_false,if_true,if_false,ay,b9];simp only[Int.lt_irrefl,decide_false,if_false,b9];omega
    ·have q1:¬vc r a<0:=by omega
     have q2:¬vc r a=0:=by omega
     simp only[q,q1,q2,decide_true,decide_false,if_true,if_false,ay,b9];omega
  rw[aw];generalize (rows.filter λr=>decide (vc r a=0)).length=z at *;generalize ps.length=p at *;generalize ns.length=n at *;refine aM (eI 4 h3l) ?_;have a1:4*(p*n)<=(p+n)*(p+n):=by
   have h1:(4*(p*n):Int)<=((p:Int)+n)*(p+n):=by
    have:0<=((p:Int) - n)*(p - n):=by
     rcases Int.le_total (p:Int) n with q | q
     ·exact Int.mul_nonneg_of_nonpos_of_nonpos (by omega) (by omega)
     ·exact aO (by omega) (by omega)
    grind
   have:((4*(p*n):Nat):Int)<=(((p+n)*(p+n):Nat):Int):=by push_cast;exact h1
   exact Int.ofNat_le.mp this
  have a2:4*z+(p+n)*(p+n)<=m*m:=by
   have e:∃k,m=z+(p+n)+k:=⟨m - (z+(p+n)),by omega⟩;obtain⟨k,rfl⟩:=e;have e2:(z+(p+n)+k)*(z+(p+n)+k)=(p+n)*(p+n)+(z+k)*(z+k+2*(p+n)):=by grind
   rw[e2];have:4*z<=(z+k)*(z+k+2*(p+n)):=by
    by_cases h0:z+k+2*(p+n)<4
    ·have:p+n=0\/p+n=1:=by omega
     rcases this with q | q
     ·rw[q];have hz:4<=z+k:=by omega
      have:=eQ (cm z k) (show 4<=z+k+2*0 by omega);omega
     ·exfalso;omega
    ·have:=eQ (cm z k) (show 4<=z+k+2*(p+n) by omega);omega
   omega
  omega
structure Re(d k j a:Nat)(G G':List (List Int)):Prop where
 from_:∀r∈G',(r∈G/\vc r a=0)\/∃x∈G,∃y∈G,0<vc x a/\vc y a<0/\Jn a x y r
 stay:∀r∈G,vc r a=0->r∈G'
 join:∀x∈G,∀y∈G,0<vc x a->vc y a<0->∃r,Jn a x y r/\(Gk d r<=j+2+k->r∈G')
inductive Kf(d k:Nat):Nat->List (List Int)->List Nat->List (List (List Int))->Prop
 | nil {j:Nat} {G:List (List Int)}:Kf d k j G [] [G]
 | cons {j a:Nat} {G G':List (List Int)} {pls:List Nat} {ls:List (List (List Int))}:Re d k j a G G'->Kf d k (j+1) G' pls ls->Kf d k j G (a::pls) (G::ls)
theorem Kf.snoc{d k j:Nat}{G0 G G':List (List Int)}{pls:List Nat}{ls:List (List (List Int))}{a:Nat}(h:Kf d k j G0 pls (ls++[G]))(s:Re d k (j+pls.length) a G G'):Kf d k j G0 (pls++[a]) (ls++[G,G']):=by
 generalize hm:ls++[G]=m at h;induction h generalizing ls with
 | nil=>
  rename_i j G1;cases ls with
  | nil=>simp at hm;subst hm;exact .cons s .nil
  | cons x ls=>simp at hm
 | cons s' h' ih=>
  cases ls with
  | nil=>simp at hm;obtain⟨rfl,rfl⟩:=hm;cases h'
  | cons x ls=>simp at hm;obtain⟨rfl,hm⟩:=hm;refine .cons s' (ih ?_ hm);rw[ay] at s;rw[Nat.add_assoc,Nat.add_comm 1];exact s
def Nb(N:Nat):Nat->Nat
 | 0=>N
 | j+1=>2*Nb N j+1
def Mb:Nat->Nat
 | 0=>8
 | j+1=>Mb j*Mb j / 4
theorem Fd(N:Nat){i j:Nat}(h:i<=j):Nb N i<=Nb N j:=by
 induction h with
 | refl=>exact aJ _
 | step _ ih=>exact aM ih (by show _<=2*Nb N _+1;omega)
theorem Ls{i:Nat}{ρ ρ':En}{us ts:List T}{f:Pe->M (List T)}(ho:ρ[i]? = some (some (.o us)))(h:f (vw ρ)=.ok ts)(hl:Gp ts=true)(hz:us.length<sizeLine)(hr:ρ'=ρ.set i (some (.o (us++[.lst ts])))):yH i (vO f) ρ=.nx ρ':=by unfold yH vO mL;rw[ho,h,hr];simp[hz,hl]
theorem E4(xs:List T)(x:T):gX (.lst (xs++[x])) (.int (-1))=.ok x:=by
 have h:pK (xs++[x]) (-1)=some x:=by
  unfold pK xF;have h1:¬((0:Int)<=-1):=by decide
  have h2:1<=(xs.length:Int)+1:=by omega
  have h3:(-1+((xs.length:Int)+1)).toNat=xs.length:=by omega
  simp[h2,h3]
 simp[gX,h]
theorem Q7{ρ:Pe}{f:Pe->M T}{a:T}(h:f ρ=.ok a):lstM (fK f fP) ρ=.ok [a]:=Hl (Ie h)
theorem DU(d L N:Nat)(hL:L<1000)(hd:d<L)(rows:List (List Int))(hrl:rows.length<=8)(hr:∀r∈rows,r.length=L/\∀i∈r,Bn N i)(pv:List (Nat×List Int))(hp:pv.length<=100)(pls:List Nat)(hpl:pls.length<=4)(ha:∀a∈pls,a<L)(hN:Nb N pls.length<=8000) :
  ∃ls,qK c [.lst (rows.map tI),.int (d:Int),.lst (pls.map λ(j:Nat)=>T.int (j:Int)),.lst (pv.map lO)]=.ok (ls.map λg=>T.lst (g.map tI))/\Kf d pv.length 0 rows pls ls/\∀(i:Nat) G,ls[i]? = some G->∀r∈G,r.length=L/\∀x∈r,Bn (Nb N i) x:=by
 have sz:1000<sizeLine:=by decide
 let R (ls:List (List (List Int))) (x5 x6:Option W):En:=[some (.p (.lst (rows.map tI))),some (.p (.int (d:Int))),some (.p (.lst (pls.map λ(j:Nat)=>T.int (j:Int)))),some (.p (.lst (pv.map lO))),some (.o (ls.map λg=>T.lst (g.map tI))),x5,x6];obtain⟨ρ,e,ls,G,x5,x6,rfl,h1,h2,h3,h4⟩:=iH (m:=jF 5) (g:=vP c) (λ(j:Nat)=>T.int (j:Int))
  (λk ρ=>∃(ls:List (List (List Int))) (G:List (List Int)) (x5 x6:Option W),ρ=R (ls++[G]) x5 x6/\Kf d pv.length 0 rows (pls.take k) (ls++[G])/\ls.length=k/\G.length<=Mb k/\∀(i:Nat) H,(ls++[G])[i]? = some H->∀r∈H,r.length=L/\∀x∈r,Bn (Nb N i) x)
  pls 0 (R [rows] none none) ⟨[],rows,none,none,rfl,.nil,rfl,hrl,λi H hi=>by
   cases i with
   | zero=>simp at hi;subst hi;exact hr
   | succ i=>simp at hi⟩ (by
   rintro k a ρ hi ⟨ls,G,x5,x6,rfl,h1,h2,h3,h4⟩;rw[aF] at h1 h2 h3 ⊢;have hm:=au hi;have hk:k<pls.length:=(aa.mp hi).1;have tk:pls.take (k+1)=pls.take k++[a]:=jk pls k a hi;have hG:∀r∈G,r.length=L/\∀x∈r,Bn (Nb N k) x:=h4 k G (by rw[List.getElem?_append_right (by omega),h2];simp);have hM:Mb k<=1024/\4<=Mb k:=by
    have:k=0\/k=1\/k=2\/k=3:=by omega
    rcases this with rfl | rfl | rfl | rfl<;>decide
   have hNk:2*Nb N k+1<=8000:=aM (Fd N (show k+1<=pls.length by omega)) hN;obtain⟨G',f1,f2,f3,f4,f5⟩:=FY (c:=c) d a (k+2+pv.length) (Nb N k) L hL hd (ha a hm) hNk G (by omega) hG;have hlenls:(ls++[G]).length=k+1:=by simp[h2]
   have step:Re d pv.length (0+(pls.take k).length) a G G':=⟨f2.from_,f4,λx hx y hy px ny=>by obtain⟨r,q1,q2⟩:=f5 x hx y hy px ny;refine⟨r,q1,λq=>q2 ?_⟩;rw[bM] at q;omega⟩
   have e6:fX iV (fX iV (jq jy (fK (fL 4) fP)) (cM (.int 1))) (jq jy (fK (fL 3) fP)) (vw (R (ls++[G]) (some (.p (.int (a:Int)))) x6))=.ok (.int ((k+2+pv.length:Nat):Int)):=by refine fR (x:=.int ((k+2:Nat):Int)) (y:=.int (pv.length:Int)) (fR (x:=.int ((k+1:Nat):Int)) (ou (t:=.lst ((ls++[G]).map λg=>T.lst (g.map tI))) rfl (by simp[h2])) rfl (by rw[iU];congr 2)) (ou (t:=.lst (pv.map lO)) rfl (by simp)) (by rw[iU];congr 2)
   have e7:gX (.lst ((ls++[G]).map λg=>T.lst (g.map tI))) (.int (-1))=.ok (.lst (G.map tI)):=by rw[aY];exact E4 _ _
   refine⟨_,_,rfl,.inl (fT (sG e6 rfl rfl) (Ls (us:=(ls++[G]).map λg=>T.lst (g.map tI)) rfl (ts:=G'.map tI) (Cr (x:=.lst (G.map tI)) (fR rfl (tR rfl) e7) rfl rfl rfl f1) (Ml _) (by simp[h2];omega) rfl)),ls++[G],G',some (.p (.int (a:Int))),some (.p (.int ((k+2+pv.length:Nat):Int))),?_,?_,by simp[h2],?_,λi H hH r hr'=>?_⟩
   ·show List.set _ _ _=_;simp[R]
   ·rw[tk];have:=h1.snoc step;simpa using this
   ·have:=f3 (Mb k) hM.2 h3;show _<=Mb k*Mb k / 4;omega
   ·by_cases hik:i<(ls++[G]).length
    ·rw[List.getElem?_append_left hik] at hH;exact h4 i H hH r hr'
    ·rw[List.getElem?_append_right (by omega)] at hH;have hi0:i - (ls++[G]).length=0:=by
      rcases cS (i - (ls++[G]).length) with q | q
      ·exact q
      ·rw[List.getElem?_eq_none (by simp;omega)] at hH;cases hH
     rw[hi0] at hH;simp at hH;subst hH;have hik':i=k+1:=by omega
     subst hik';refine⟨?_,f2.bn r hr'⟩;rcases f2.from_ r hr' with q | ⟨x,hx,y,hy,_,_,hj⟩
     ·exact (hG r q.1).1
     ·rw[hj.len];exact (hG x hx).1)
 rw[aF,du] at h1;exact⟨ls++[G],qi rfl (fT (mm (ts:=[.lst (rows.map tI)]) (Q7 rfl) rfl) (fT (jb rfl e) rfl)),h1,h4⟩
end CL
namespace CL
theorem Cn.posQ{P:Vc->Prop}{f:Vc->Rat}(hf:∀x y z (s a b:Int),(∀i,s*z i=a*x i+b*y i)->(s:Rat)*f z=(a:Rat)*f x+(b:Rat)*f y)(hp:∀x,P x->0<f x){z:Vc}(h:Cn P z):0<f z:=by
 induction h with
 | of h=>exact hp _ h
 | lin _ _ hs ha hb hab e i1 i2=>
  rename_i x y z s a b _ _;have q:=hf _ _ _ _ _ _ e;have s0:(0:Rat)<(s:Rat):=nS hs;have:0<(a:Rat)*f x+(b:Rat)*f y:=by
   by_cases h0:a=0
   ·subst h0;have hb':(0:Rat)<(b:Rat):=nS (by omega);have:=dW hb' i2;simp;grind
   ·have ha':(0:Rat)<(a:Rat):=nS (by omega);have h1:=dW ha' i1;by_cases b0:b=0
    ·subst b0;simp;grind
    ·have hb':(0:Rat)<(b:Rat):=nS (by omega);have h2:=dW hb' i2;grind
  rw[<-q] at this;refine eV (c:=(s:Rat)) ?_ (dZ s0);simpa using this
def Lt(m:Nat)(g:Nat->Vc)(t:Vc):Vc:=λq=>sm m λj=>t j*g j q
theorem Iq{m:Nat}{g:Nat->Vc}{x y z:Vc}{s a b:Int}(h:∀i,s*z i=a*x i+b*y i)(q:Nat):s*Lt m g z q=a*Lt m g x q+b*Lt m g y q:=by unfold Lt;rw[<-wY,<-zC];refine kL m _ _ λi _=>?_;rw[<-cO,h i];grind
theorem Hx(m:Nat)(g:Nat->Vc)(t:Vc)(p:Nat):jf m (λi=>g i p) t=Lt m g t p:=by unfold jf Lt;exact kL m _ _ λi _=>cP _ _
def oY(i:Nat):Vc:=λj=>if j=i then 1 else 0
theorem vG(m:Nat)(g:Nat->Vc)(i:Nat)(hi:i<m)(q:Nat):Lt m g (oY i) q=g i q:=by unfold Lt oY;exact AV m i (λj=>g j q) hi
theorem yA(m:Nat):∀(n:Nat) (u:Vc),cs m u<=n->kq m [] u->Cn (λx=>∃i,i<m/\x=oY i) u:=by
 intro n;induction n with
 | zero=>
  intro u hn hu;obtain⟨i,hi⟩:=hu.ne;have im:i<m:=by
   rcases dJ i m with h | h
   ·exact h
   ·exact absurd (hu.out i h) hi
  have:=BH (m:=m) (u:=λ_=>0) (v:=u) (λ_ _ _=>rfl) im hi rfl;omega
 | succ n ih=>
  intro u hn hu;obtain⟨i,hi⟩:=hu.ne;have im:i<m:=by
   rcases dJ i m with h | h
   ·exact h
   ·exact absurd (hu.out i h) hi
  have ip:0<u i:=by have:=hu.nn i;omega
  by_cases he:∃j,j≠i/\u j≠0
  ·obtain⟨j,hj,uj⟩:=he;have cn:kq m [] (λk=>if k=i then 0 else u k):=⟨λk=>by split;exact dH _;exact hu.nn k,λk hk=>by split;rfl;exact hu.out k hk,⟨j,by simp[hj,uj]⟩,λA hA=>nomatch hA⟩;have l:=BH (m:=m) (u:=λk=>if k=i then 0 else u k) (v:=u) (λk _ z=>by split;rfl;exact z) im hi (by simp);refine .lin (s:=1) (a:=u i) (b:=1) (.of ⟨i,im,rfl⟩) (ih _ (by omega) cn) (by decide) (by omega) (by decide) (by omega) λk=>?_;unfold oY;by_cases q:k=i
   ·subst q;simp
   ·simp[q]
  ·refine .lin (s:=1) (a:=u i) (b:=0) (.of ⟨i,im,rfl⟩) (.of ⟨i,im,rfl⟩) (by decide) (by omega) (by decide) (by omega) λk=>?_;unfold oY;by_cases q:k=i
   ·subst q;simp
   ·have:u k=0:=aN λz=>he ⟨k,q,z⟩;simp[q,this]
theorem vE{α:Type}[DecidableEq α]:∀{l m:List α},l.Nodup->(∀x∈l,x∈m)->l.length<=m.length
 | [],_,_,_=>bH _
 | a::l,m,nd,h=>by
  obtain⟨n1,n2⟩:=bK.mp nd;have hm:a∈m:=h a (by simp);have:=vE (m:=m.erase a) n2 λx hx=>by have ne:x≠a:=λz=>n1 (z▸hx);exact (List.mem_erase_of_ne ne).mpr (h x (by simp[hx]))
  rw[dE hm] at this;have:0<m.length:=List.length_pos_of_mem hm;simp only[ay];omega
structure Lo(d n:Nat)(ss ix:List Nat)(sd:List (List Int)):Prop where
 len:sd.length=ss.length
 nd:ss.Nodup
 lt:∀i∈ss,i<n
 l:∀r∈sd,r.length=d+1+n
 own:∀j,j<sd.length->vc (sd.getD j []) (d+1+ss.getD j 0)≠0
 oth:∀j,j<sd.length->∀i,i∉ix->i≠ss.getD j 0->vc (sd.getD j []) (d+1+i)=0
def Pf(sd:List (List Int))(As:List Vc)(G:List (List Int))(t:Vc):Prop:=kq sd.length As t/\∃r∈G,∃s:Int,0<s/\∀q,s*vc r q=Lt sd.length (λj=>vc (sd.getD j [])) t q
theorem NR{d n:Nat}{ss ix:List Nat}{sd:List (List Int)}(h:Lo d n ss ix sd){r:List Int}(hl:r.length=d+1+n){t:Vc}{s:Int}(hs:0<s)(e:∀q,s*vc r q=Lt sd.length (λj=>vc (sd.getD j [])) t q):Gk d r<=cs sd.length t+ix.length:=by
 let A:=((List.range sd.length).filter λj=>decide (t j≠0)).map λj=>ss.getD j 0;have hA:A.length=cs sd.length t:=by show (List.map _ _).length=_;rw[aw];unfold cs;rw[dN]
 let I:=(List.range n).filter λi=>decide (vc r (d+1+i)≠0);have hI:Gk d r=I.length:=by
  unfold Gk;have:r.drop (d+1)=(List.range n).map λi=>vc r (d+1+i):=by refine eW (by simp[hl]) λi h1 h2=>?_;simp at h1;rw[List.getElem_drop,dw,eX,sM r (d+1+i) (by omega)]
  rw[this,List.filter_map,aw];congr 2;funext i;simp[bne];rfl
 rw[hI,<-hA,<-aS];refine vE (List.Pairwise.filter _ dO) λi hi=>?_;have hi':i<n/\vc r (d+1+i)≠0:=by have:i∈List.filter _ _:=hi;simpa using this
 refine aN λhne=>hi'.2 ?_;have n1:i∉A:=λz=>hne (ax _ z);have n2:i∉ix:=λz=>hne (bC _ z);refine t8 (g:=s) (by omega) ?_;rw[e];show sm sd.length (λj=>t j*vc (sd.getD j []) (d+1+i))=0;rw[kL sd.length _ (λ_=>0) λj hj=>?_,vv];by_cases tj:t j=0
 ·rw[tj,dB]
 ·have:i≠ss.getD j 0:=λz=>n1 (by show i∈List.map _ _;exact aC.mpr ⟨j,aT.mpr ⟨aR.mpr hj,by simpa using tj⟩,z.symm⟩)
  rw[h.oth j hj i n2 this,dy]
theorem F9{d n:Nat}{ss ix:List Nat}{sd:List (List Int)}(h:Lo d n ss ix sd){a:Nat}{As:List Vc}{G G':List (List Int)}(hG:∀r∈G,r.length=d+1+n/\∃t,kq sd.length As t/\∃s:Int,0<s/\∀q,s*vc r q=Lt sd.length (λj=>vc (sd.getD j [])) t q)
  (gen:∀u,kq sd.length As u->Cn (Pf sd As G) u) (st:Re d ix.length As.length a G G') :
  (∀r∈G',r.length=d+1+n/\∃t,kq sd.length ((λj=>vc (sd.getD j []) a)::As) t/\∃s:Int,0<s/\∀q,s*vc r q=Lt sd.length (λj=>vc (sd.getD j [])) t q)/\
  ∀u,kq sd.length ((λj=>vc (sd.getD j []) a)::As) u->Cn (Pf sd ((λj=>vc (sd.getD j []) a)::As) G') u:=by
 let A:Vc:=λj=>vc (sd.getD j []) a;have la:∀t,jf sd.length A t=Lt sd.length (λj=>vc (sd.getD j [])) t a:=λt=>Hx sd.length (λj=>vc (sd.getD j [])) t a;have joinP:∀{x y r:List Int} {t t':Vc} {s s':Int},0<s->0<s'->(∀q,s*vc x q=Lt sd.length (λj=>vc (sd.getD j [])) t q)->(∀q,s'*vc y q=Lt sd.length (λj=>vc (sd.getD j [])) t' q)->Jn a x y r->
   ∃s2:Int,0<s2/\∀q,s2*vc r q=Lt sd.length (λj=>vc (sd.getD j [])) (λi=>(-jf sd.length A t')*t i+jf sd.length A t*t' i) q:=by
  intro x y r t t' s s' hs hs' e e' hj;obtain⟨g,hg,v⟩:=hj.ex;refine⟨s*s'*g,aW (aW hs hs') hg,λq=>?_⟩;have l1:=Iq (m:=sd.length) (g:=λj=>vc (sd.getD j [])) (x:=t) (y:=t') (z:=λi=>(-jf sd.length A t')*t i+jf sd.length A t*t' i) (s:=1) (a:=-jf sd.length A t') (b:=jf sd.length A t) (λi=>by grind) q;rw[dm] at l1;rw[l1,la,la,<-e a,<-e' a,<-e q,<-e' q];have:=v q;calc s*s'*g*vc r q=s*s'*(g*vc r q):=by grind
   _=s*s'*(-vc y a*vc x q+vc x a*vc y q):=by rw[this]
   _=_:=by grind
 have coneJ:∀{t t':Vc},kq sd.length As t->kq sd.length As t'->0<jf sd.length A t->jf sd.length A t'<0->kq sd.length (A::As) (λi=>(-jf sd.length A t')*t i+jf sd.length A t*t' i):=by
  intro t t' c1 c2 p1 p2;have lin:∀B,jf sd.length B (λi=>(-jf sd.length A t')*t i+jf sd.length A t*t' i)=(-jf sd.length A t')*jf sd.length B t+jf sd.length A t*jf sd.length B t':=λB=>by have:=pE (m:=sd.length) (A:=B) (x:=t) (y:=t') (z:=λi=>(-jf sd.length A t')*t i+jf sd.length A t*t' i) (s:=1) (a:=-jf sd.length A t') (b:=jf sd.length A t) (λi=>by grind);simpa using this
  obtain⟨j,hj⟩:=c1.ne;have q1:0 < -jf sd.length A t':=by omega
  refine⟨λi=>?_,λi hi=>?_,⟨j,?_⟩,λB hB=>?_⟩
  ·have x1:=aO (az q1) (c1.nn i);have x2:=aO (az p1) (c2.nn i);omega
  ·rw[c1.out i hi,c2.out i hi];simp
  ·have gj:0<t j:=by have:=c1.nn j;omega
   have x1:=aW q1 gj;have x2:=aO (az p1) (c2.nn j);omega
  ·rw[lin B];rcases aE.mp hB with rfl | hB
   ·grind
   ·rw[c1.eq B hB,c2.eq B hB];simp
 have sgnA:∀{r:List Int} {t:Vc} {s:Int},0<s->(∀q,s*vc r q=Lt sd.length (λj=>vc (sd.getD j [])) t q)->(0<vc r a↔0<jf sd.length A t)/\(vc r a<0↔jf sd.length A t<0)/\(vc r a=0↔jf sd.length A t=0):=λ{r t s} hs e=>by
  rw[la,<-e a];refine⟨⟨λq=>aW hs q,λq=>?_⟩,⟨λq=>dP hs q,λq=>?_⟩,⟨λq=>by rw[q,dy],λq=>t8 (by omega) q⟩⟩
  ·exact eY (a:=s) (by simpa using q) (az hs)
  ·exact eY (a:=s) (by simpa using q) (az hs)
 refine⟨λr hr=>?_,λu hu=>?_⟩
 ·rcases st.from_ r hr with⟨h1,h2⟩ | ⟨x,hx,y,hy,px,ny,hj⟩
  ·obtain⟨l,t,ct,s,hs,e⟩:=hG r h1;exact⟨l,t,⟨ct.nn,ct.out,ct.ne,λB hB=>by
    rcases aE.mp hB with rfl | hB
    ·exact (sgnA hs e).2.2.mp h2
    ·exact ct.eq B hB⟩,s,hs,e⟩
  ·obtain⟨l,t,ct,s,hs,e⟩:=hG x hx;obtain⟨_,t',ct',s',hs',e'⟩:=hG y hy;obtain⟨s2,h2,e2⟩:=joinP hs hs' e e' hj;exact⟨by rw[hj.len,l],_,coneJ ct ct' ((sgnA hs e).1.mp px) ((sgnA hs' e').2.1.mp ny),s2,h2,e2⟩
 ·refine OB (A:=A) (P:=Pf sd As G) (P':=Pf sd (A::As) G') (λx hx=>hx.1) gen (λt ⟨ct,r,hr,s,hs,e⟩ h0=>?_) (λt t' ⟨ct,x,hx,s,hs,e⟩ ⟨ct',y,hy,s',hs',e'⟩ p1 p2 hcs=>?_) (cs sd.length u) u (aJ _) hu
  ·exact⟨⟨ct.nn,ct.out,ct.ne,λB hB=>by
    rcases aE.mp hB with rfl | hB
    ·exact h0
    ·exact ct.eq B hB⟩,r,st.stay r hr ((sgnA hs e).2.2.mpr h0),s,hs,e⟩
  ·obtain⟨r,hj,hk⟩:=st.join x hx y hy ((sgnA hs e).1.mpr p1) ((sgnA hs' e').2.1.mpr p2);obtain⟨s2,h2,e2⟩:=joinP hs hs' e e' hj;have rl:r.length=d+1+n:=by rw[hj.len,(hG x hx).1]
   have cl:=NR h rl h2 e2;exact⟨coneJ ct ct' p1 p2,r,hk (by omega),s2,h2,e2⟩
end CL
namespace CL
open PySem L2 L3
variable {c:Cs}
def sX:Nat->(Nat->Rat)->Rat
 | 0,_=>0
 | n+1,f=>f 0+sX n λi=>f (i+1)
theorem nB:∀(n:Nat) (f g:Nat->Rat),(∀i,i<n->f i=g i)->sX n f=sX n g
 | 0,_,_,_=>rfl
 | n+1,f,g,h=>by unfold sX;rw[h 0 (by omega),nB n _ _ λi hi=>h (i+1) (by omega)]
theorem AW(a b:Rat):∀(n:Nat) (f g:Nat->Rat),sX n (λi=>a*f i+b*g i)=a*sX n f+b*sX n g
 | 0,_,_=>by unfold sX;grind
 | n+1,f,g=>by unfold sX;rw[AW a b n (λi=>f (i+1)) λi=>g (i+1)];grind
theorem BI:∀n:Nat,sX n (λ_=>0)=0
 | 0=>rfl
 | n+1=>by unfold sX;rw[BI n];grind
theorem La(x X:Nat->Rat)(v:Rat):∀(n a:Nat),a<n->sX n (λi=>x i*(if i=a then v else X i))=sX n (λi=>x i*X i)+x a*(v - X a):=by
 intro n;induction n generalizing x X with
 | zero=>intro a h;cases h
 | succ n ih=>
  intro a ha;unfold sX;cases a with
  | zero=>
   have:sX n (λi=>x (i+1)*(if i+1=0 then v else X (i+1)))=sX n (λi=>x (i+1)*X (i+1)):=nB n _ _ λi _=>by simp
   rw[this];simp;grind
  | succ a=>
   have:=ih (λi=>x (i+1)) (λi=>X (i+1)) a (by omega);have e:sX n (λi=>x (i+1)*(if i+1=a+1 then v else X (i+1)))=sX n (λi=>x (i+1)*(if i=a then v else X (i+1))):=nB n _ _ λi _=>by simp
   rw[e,this];simp;grind
def jX(d:Nat)(X:Nat->Rat)(x:Vc):Rat:=sX d (λp=>(x p:Rat)*X p) - (x d:Rat)
theorem qE{d:Nat}{X:Nat->Rat}(x y z:Vc)(s a b:Int)(h:∀i,s*z i=a*x i+b*y i):(s:Rat)*jX d X z=(a:Rat)*jX d X x+(b:Rat)*jX d X y:=by
 have hq:∀i,(s:Rat)*(z i:Rat)=(a:Rat)*(x i:Rat)+(b:Rat)*(y i:Rat):=λi=>by
  have:=h i;have e:((s*z i:Int):Rat)=((a*x i+b*y i:Int):Rat):=by rw[this]
  simpa using e
 unfold jX;have e1:(s:Rat)*sX d (λp=>(z p:Rat)*X p)=(a:Rat)*sX d (λp=>(x p:Rat)*X p)+(b:Rat)*sX d (λp=>(y p:Rat)*X p):=by
  have:=AW (s:Rat) 0 d (λp=>(z p:Rat)*X p) (λ_=>0);have t2:=AW (a:Rat) (b:Rat) d (λp=>(x p:Rat)*X p) (λp=>(y p:Rat)*X p);have t3:sX d (λi=>(s:Rat)*((z i:Rat)*X i)+0*0)=sX d (λi=>(a:Rat)*((x i:Rat)*X i)+(b:Rat)*((y i:Rat)*X i)):=nB d _ _ λi _=>by have:=hq i;grind
  rw[t3,t2] at this;grind
 have:=hq d;grind
theorem EN{d a:Nat}(ha:a<d)(X:Nat->Rat)(v:Rat)(x:Vc):jX d (λq=>if q=a then v else X q) x=jX d X x+(x a:Rat)*(v - X a):=by unfold jX;have:=La (λi=>(x i:Rat)) X v d a ha;rw[this];grind
theorem pQ{d:Nat}{X:Nat->Rat}{x:Vc}(h:∀p,p<d->x p=0):jX d X x = -(x d:Rat):=by
 unfold jX;have e:sX d (λp=>(x p:Rat)*X p)=0:=by rw[nB d _ (λ_=>0) λp hp=>by rw[h p hp];simp];exact BI d
 rw[e];grind
def Xs(s:List (Int×Int)):Nat->Rat:=λq=>qv (s.getD q (0,1))
theorem HU(s:List (Int×Int))(a:Nat)(f:Int×Int)(ha:a<s.length):Xs (s.set a f)=λq=>if q=a then qv f else Xs s q:=by
 funext q;unfold Xs;rw[af,List.getElem?_set];by_cases h:q=a
 ·subst h;simp[ha]
 ·rw[aQ (λz=>h z.symm),aQ h,af]
theorem Sf:qv (0,1)=0:=by unfold qv;simp;grind
theorem xo(d:Nat):∀(s:List (Int×Int)) (row:List Int),s.length=d->d<=row.length->FI row s=sX d (λp=>(vc row p:Rat)*Xs s p):=by
 induction d with
 | zero=>intro s row h1 _;have:s=[]:=eZ.mp h1;subst this;simp[FI,sX]
 | succ d ih=>
  intro s row h1 h2;cases s with
  | nil=>cases h1
  | cons p s=>
   cases row with
   | nil=>simp at h2
   | cons x row=>have:=ih s row (by simpa using h1) (by simpa using h2);unfold FI at this ⊢;rw[List.zip_cons_cons,bF,eg,this];rfl
def pS(d:Nat)(X:Nat->Rat)(a:Nat)(r:List Int):Rat:=-(jX d X (vc r)) / (vc r a:Rat)
structure MK(d:Nat)(X:Nat->Rat)(a E:Nat)(G:List (List Int))(lo hi:Option (Int×Int)):Prop where
 l:Oe E lo
 h:Oe E hi
 lo1:∀r∈G,0<vc r a->∃p,lo=some p/\pS d X a r<=qv p
 lo2:∀p,lo=some p->∃r∈G,0<vc r a/\qv p=pS d X a r
 hi1:∀r∈G,vc r a<0->∃p,hi=some p/\qv p<=pS d X a r
 hi2:∀p,hi=some p->∃r∈G,vc r a<0/\qv p=pS d X a r
theorem EC{ρ:Pe}{fc fd:Pe->M Bool}{b:Bool}(h:fc ρ=.ok false)(h2:fd ρ=.ok b):L3.qg fc fd ρ=.ok b:=by simp only[L3.qg,h,h2,M.bind_ok];rfl
theorem Jw{ρ:Pe}{fc fd:Pe->M Bool}(h:fc ρ=.ok true):L3.qg fc fd ρ=.ok true:=by simp only[L3.qg,h,M.bind_ok];rfl
theorem E6{E:Nat}{p r:Int×Int}(hp:0<p.2/\Bn E p.1/\Bn E p.2)(hr:0<r.2/\Bn E r.1/\Bn E r.2)(hE:E<=8000):kH c [fr p,fr r]=.ok (.bl (decide (qv p<qv r))):=wZ hp.1 hr.1 (hp.2.1.ok hr.2.2 (by omega) (by omega)) (hr.2.1.ok hp.2.2 (by omega) (by omega))
theorem De(d a N L:Nat)(hL:d<L)(had:a<d)(hd:d<=10)(h1:1<=N)(s:List (Int×Int))(hs:s.length=d)(hq:∀p∈s,Fq p)(hE:N+wts s+20<=8000)(G:List (List Int))(hG:∀r∈G,r.length=L/\∀x∈r,Bn N x) :
  ∃lo hi,oB c [.lst (G.map tI),.int (a:Int),.lst (s.map fr)]=.ok (.tup [oT lo,oT hi])/\MK d (Xs s) a (N+wts s+20) G lo hi:=by
 let R (lo hi:Option (Int×Int)) (x5 x6:Option W):En:=[some (.p (.lst (G.map tI))),some (.p (.int (a:Int))),some (.p (.lst (s.map fr))),some (.p (oT lo)),some (.p (oT hi)),x5,x6];obtain⟨ρ,e,lo,hi,x5,x6,rfl,hI⟩:=iH (m:=jF 5) (g:=v5 c) tI
  (λk ρ=>∃(lo hi:Option (Int×Int)) (x5 x6:Option W),ρ=R lo hi x5 x6/\MK d (Xs s) a (N+wts s+20) (G.take k) lo hi)
  G 0 (R none none none none) ⟨none,none,none,none,rfl,⟨(λ_ z=>nomatch z),(λ_ z=>nomatch z),λr hr=>by simp at hr,(λ_ z=>nomatch z),λr hr=>by simp at hr,(λ_ z=>nomatch z)⟩⟩ (by
   rintro k r ρ hi' ⟨lo,hi,x5,x6,rfl,I⟩;rw[aF] at I ⊢;have hm:=au hi';have tk:G.take (k+1)=G.take k++[r]:=jk G k r hi';obtain⟨rl,rb⟩:=hG r hm;have ix:gX (tI r) (.int (a:Int))=.ok (.int (vc r a)):=jT r a (by omega);by_cases h0:vc r a=0
   ·refine⟨_,_,rfl,.inl (gY (gx (fR (fR rfl rfl ix) rfl (by rw[l8,h0];rfl))) rfl),lo,hi,some (.p (tI r)),x6,rfl,?_⟩;rw[tk];refine⟨I.l,I.h,λr' hr' p'=>?_,λp e=>?_,λr' hr' p'=>?_,λp e=>?_⟩
    ·rcases ai.mp hr' with q | q
     ·exact I.lo1 r' q p'
     ·rw[aj.mp q] at p';omega
    ·obtain⟨r',q1,q2⟩:=I.lo2 p e;exact⟨r',ax _ q1,q2⟩
    ·rcases ai.mp hr' with q | q
     ·exact I.hi1 r' q p'
     ·rw[aj.mp q] at p';omega
    ·obtain⟨r',q1,q2⟩:=I.hi2 p e;exact⟨r',ax _ q1,q2⟩
   ·obtain⟨left,el,gl,ql⟩:=uL (c:=c) N (by omega) h1 r s (by omega) (by omega) rb hq (by omega);have ra:Bn N (vc r a):=rb _ (lp r a (by omega));obtain⟨en,ee,ge,qe⟩:=yr (c:=c) h0 ra gl (by omega) (by omega);have eq:qv en=pS d (Xs s) a r:=by rw[qe,ql,hs,xo d s r hs (by omega)];unfold pS jX;congr 1;grind
    have oe:0<en.2/\Bn (N+wts s+20) en.1/\Bn (N+wts s+20) en.2:=⟨ge.pos,ge.b1,ge.b2.mono (by omega)⟩;have s1:∀x6,setO 6 (iK (fW (fK (fW (fK (fL 5) (fK (fL 2) fP)) (lx c)) (fK (jO (fK (fX gX (fL 5) (fL 1)) (fK (cM (.int 1)) fP))) fP)) (rN c))) (R lo hi (some (.p (tI r))) x6)=.nx (R lo hi (some (.p (tI r))) (some (.p (fr en)))):=λx6=>gh (hW (x:=fr left) (y:=fr (vc r a,1)) (hW rfl rfl el) (oj (fR rfl rfl ix) rfl) ee) rfl;obtain⟨lo',s2,M1,M2,M3⟩:∃lo':Option (Int×Int),kg (L3.kf (gO (fX A3 (fX gX (fL 5) (fL 1)) (cM (.int 0)))) (L3.qg (gO (fX (jS false) (fL 3) (cM .non))) (gO (fW (fK (fL 3) (fK (fL 6) fP)) (kH c))))) (setO 3 (iK (fL 6))) gQ (R lo hi (some (.p (tI r))) (some (.p (fr en))))=.nx (R lo' hi (some (.p (tI r))) (some (.p (fr en))))/\
      Oe (N+wts s+20) lo'/\(∀r'∈G.take k++[r],0<vc r' a->∃p,lo'=some p/\pS d (Xs s) a r'<=qv p)/\(∀p,lo'=some p->∃r'∈G.take k++[r],0<vc r' a/\qv p=pS d (Xs s) a r'):=by
     by_cases hp:0<vc r a
     ·have g1:gO (fX A3 (fX gX (fL 5) (fL 1)) (cM (.int 0))) (vw (R lo hi (some (.p (tI r))) (some (.p (fr en)))))=.ok true:=gx (fR (fR rfl rfl ix) rfl (by rw[sh];simp[hp]));have new:∀(_:∀p,lo=some p->qv p<qv en),Oe (N+wts s+20) (some en)/\(∀r'∈G.take k++[r],0<vc r' a->∃p,some en=some p/\pS d (Xs s) a r'<=qv p)/\(∀p,some en=some p->∃r'∈G.take k++[r],0<vc r' a/\qv p=pS d (Xs s) a r'):=λhlt=>by
       refine⟨λp z=>by cases z;exact oe,λr' hr' p'=>⟨en,rfl,?_⟩,λp z=>by cases z;exact⟨r,by simp,hp,eq⟩⟩;rcases ai.mp hr' with q | q
       ·obtain⟨p,e1,e2⟩:=I.lo1 r' q p';have:=hlt p e1;grind
       ·rw[aj.mp q,eq];grind
      cases el':lo with
      | none=>refine⟨some en,?_,new λp z=>by rw[el'] at z;cases z⟩;rw[<-el'];refine iw (l9 g1 (Jw (gx (fR rfl rfl ?_)))) (gh (t:=fr en) rfl rfl);show jS false (oT lo) .non=_;rw[pN,el'];rfl
      | some p=>
       have is1:jS false (oT lo) .non=.ok (.bl false):=by rw[pN,el'];rfl
       have ls:kH c [oT lo,fr en]=.ok (.bl (decide (qv p<qv en))):=by rw[el'];exact E6 (I.l p el') oe hE
       by_cases hlt:qv p<qv en
       ·refine⟨some en,?_,new λp' z=>by rw[el'] at z;cases z;exact hlt⟩;rw[<-el'];exact iw (l9 g1 (EC (gx (fR rfl rfl is1)) (gx (hW rfl rfl (by rw[ls,aB hlt]))))) (gh (t:=fr en) rfl rfl)
       ·refine⟨lo,?_,I.l,λr' hr' p'=>?_,λp' z=>?_⟩
        ·rw[<-el'];exact gY (l9 g1 (EC (gx (fR rfl rfl is1)) (gx (hW rfl rfl (by rw[ls,aA hlt]))))) rfl
        ·rcases ai.mp hr' with q | q
         ·exact I.lo1 r' q p'
         ·rw[aj.mp q,<-eq];exact⟨p,el',by grind⟩
        ·obtain⟨r',q1,q2⟩:=I.lo2 p' z;exact⟨r',ax _ q1,q2⟩
     ·refine⟨lo,gY (pV (gx (fR (fR rfl rfl ix) rfl (by rw[sh];simp[hp])))) rfl,I.l,λr' hr' p'=>?_,λp' z=>?_⟩
      ·rcases ai.mp hr' with q | q
       ·exact I.lo1 r' q p'
       ·rw[aj.mp q] at p';exact absurd p' hp
      ·obtain⟨r',q1,q2⟩:=I.lo2 p' z;exact⟨r',ax _ q1,q2⟩
    obtain⟨hi',s3,H1,H2,H3⟩:∃hi':Option (Int×Int),kg (L3.kf (gO (fX Cq (fX gX (fL 5) (fL 1)) (cM (.int 0)))) (L3.qg (gO (fX (jS false) (fL 4) (cM .non))) (gO (fW (fK (fL 6) (fK (fL 4) fP)) (kH c))))) (setO 4 (iK (fL 6))) gQ (R lo' hi (some (.p (tI r))) (some (.p (fr en))))=.nx (R lo' hi' (some (.p (tI r))) (some (.p (fr en))))/\
      Oe (N+wts s+20) hi'/\(∀r'∈G.take k++[r],vc r' a<0->∃p,hi'=some p/\qv p<=pS d (Xs s) a r')/\(∀p,hi'=some p->∃r'∈G.take k++[r],vc r' a<0/\qv p=pS d (Xs s) a r'):=by
     by_cases hp:vc r a<0
     ·have g1:gO (fX Cq (fX gX (fL 5) (fL 1)) (cM (.int 0))) (vw (R lo' hi (some (.p (tI r))) (some (.p (fr en)))))=.ok true:=gx (fR (fR rfl rfl ix) rfl (by rw[pD];simp[hp]));have new:∀(_:∀p,hi=some p->qv en<qv p),Oe (N+wts s+20) (some en)/\(∀r'∈G.take k++[r],vc r' a<0->∃p,some en=some p/\qv p<=pS d (Xs s) a r')/\(∀p,some en=some p->∃r'∈G.take k++[r],vc r' a<0/\qv p=pS d (Xs s) a r'):=λhlt=>by
       refine⟨λp z=>by cases z;exact oe,λr' hr' p'=>⟨en,rfl,?_⟩,λp z=>by cases z;exact⟨r,by simp,hp,eq⟩⟩;rcases ai.mp hr' with q | q
       ·obtain⟨p,e1,e2⟩:=I.hi1 r' q p';have:=hlt p e1;grind
       ·rw[aj.mp q,eq];grind
      cases el':hi with
      | none=>refine⟨some en,?_,new λp z=>by rw[el'] at z;cases z⟩;rw[<-el'];refine iw (l9 g1 (Jw (gx (fR rfl rfl ?_)))) (gh (t:=fr en) rfl rfl);show jS false (oT hi) .non=_;rw[pN,el'];rfl
      | some p=>
       have is1:jS false (oT hi) .non=.ok (.bl false):=by rw[pN,el'];rfl
       have ls:kH c [fr en,oT hi]=.ok (.bl (decide (qv en<qv p))):=by rw[el'];exact E6 oe (I.h p el') hE
       by_cases hlt:qv en<qv p
       ·refine⟨some en,?_,new λp' z=>by rw[el'] at z;cases z;exact hlt⟩;rw[<-el'];exact iw (l9 g1 (EC (gx (fR rfl rfl is1)) (gx (hW rfl rfl (by rw[ls,aB hlt]))))) (gh (t:=fr en) rfl rfl)
       ·refine⟨hi,?_,I.h,λr' hr' p'=>?_,λp' z=>?_⟩
        ·rw[<-el'];exact gY (l9 g1 (EC (gx (fR rfl rfl is1)) (gx (hW rfl rfl (by rw[ls,aA hlt]))))) rfl
        ·rcases ai.mp hr' with q | q
         ·exact I.hi1 r' q p'
         ·rw[aj.mp q,<-eq];exact⟨p,el',by grind⟩
        ·obtain⟨r',q1,q2⟩:=I.hi2 p' z;exact⟨r',ax _ q1,q2⟩
     ·refine⟨hi,gY (pV (gx (fR (fR rfl rfl ix) rfl (by rw[pD];simp[hp])))) rfl,I.h,λr' hr' p'=>?_,λp' z=>?_⟩
      ·rcases ai.mp hr' with q | q
       ·exact I.hi1 r' q p'
       ·rw[aj.mp q] at p';exact absurd p' hp
      ·obtain⟨r',q1,q2⟩:=I.hi2 p' z;exact⟨r',ax _ q1,q2⟩
    refine⟨_,_,rfl,.inl (iw (gx (fR (fR rfl rfl ix) rfl (by rw[l8];simp[h0]))) (fT (s1 x6) (fT s2 s3))),lo',hi',some (.p (tI r)),some (.p (fr en)),rfl,?_⟩;rw[tk];exact⟨M1,H1,M2,M3,H2,H3⟩)
 rw[aF,du] at hI;exact⟨lo,hi,gS rfl (fT (gh (t:=.non) rfl rfl) (fT (gh (t:=.non) rfl rfl) (fT (jb rfl e) (gB (oj rfl rfl))))),hI⟩
theorem um{d:Nat}{X:Nat->Rat}{r y:Vc}{s:Int}(e:∀q,s*r q=y q):(s:Rat)*jX d X r=jX d X y:=by have:=qE (d:=d) (X:=X) y y r s 1 0 (λi=>by rw[e i];omega);have h1:((1:Int):Rat)=1:=rfl;have h0:((0:Int):Rat)=0:=rfl;rw[h1,h0] at this;grind
theorem Jz{d n:Nat}{ss ix:List Nat}{sd:List (List Int)}(h:Lo d n ss ix sd){j:Nat}{G:List (List Int)}{pls:List Nat}{ls:List (List (List Int))}(hy:Kf d ix.length j G pls ls) :
  ∀(As:List Vc),As.length=j->(∀r∈G,r.length=d+1+n/\∃t,kq sd.length As t/\∃s:Int,0<s/\∀q,s*vc r q=Lt sd.length (λj=>vc (sd.getD j [])) t q)->(∀u,kq sd.length As u->Cn (Pf sd As G) u)->∀(Z:Nat->Prop),(∀r∈G,∀p,Z p->vc r p=0)->
  (∀(i a:Nat),pls[i]? = some a->∃Gi Gi',ls[i]? = some Gi/\ls[i+1]? = some Gi'/\(∀r∈Gi,vc r a=0->r∈Gi')/\∀X:Nat->Rat,(∀r∈Gi',0<jX d X (vc r))->∀x∈Gi,∀y∈Gi,0<vc x a->vc y a<0->0 < -(vc y a:Rat)*jX d X (vc x)+(vc x a:Rat)*jX d X (vc y))/\
  ∃Gl,ls[pls.length]? = some Gl/\ls.getLast? = some Gl/\(∀r∈Gl,∀p,(Z p\/p∈pls)->vc r p=0)/\∀r∈Gl,r.length=d+1+n/\∃t,kq sd.length [] t/\∃s:Int,0<s/\∀q,s*vc r q=Lt sd.length (λj=>vc (sd.getD j [])) t q:=by
 induction hy with
 | nil=>
  rename_i j G;intro As hA hG gen Z hz;refine⟨λi a q=>by simp at q,G,rfl,rfl,λr hr p hp=>?_,λr hr=>?_⟩
  ·rcases hp with hp | hp
   ·exact hz r hr p hp
   ·cases hp
  ·obtain⟨l,t,ct,q⟩:=hG r hr;exact⟨l,t,E3 ct λA hA=>(nomatch hA),q⟩
 | cons st hy ih=>
  rename_i j a G G' pls ls;intro As hA hG gen Z hz;subst hA;obtain⟨hG',gen'⟩:=F9 h hG gen st;obtain⟨i1,Gl,i2,i3,i4,i5⟩:=ih ((λj=>vc (sd.getD j []) a)::As) (by simp) hG' gen' (λp=>Z p\/p=a) (λr hr p hp=>by
   rcases st.from_ r hr with⟨q1,q2⟩ | ⟨x,hx,y,hy,px,ny,hj⟩
   ·rcases hp with hp | rfl
    ·exact hz r q1 p hp
    ·exact q2
   ·rcases hp with hp | rfl
    ·obtain⟨g,hg,v⟩:=hj.ex;refine t8 (g:=g) (by omega) ?_;rw[v p,hz x hx p hp,hz y hy p hp];simp
    ·exact hj.at0)
  have l0:ls[0]? = some G':=by cases hy<;>rfl
  have lne:ls≠[]:=λz=>by rw[z] at l0;cases l0
  refine⟨λi b q=>?_,Gl,?_,?_,λr hr p hp=>i4 r hr p ?_,i5⟩
  ·cases i with
   | zero=>
    simp at q;subst q;refine⟨G,G',rfl,by simpa using l0,st.stay,λX hX x hx y hy' px ny=>?_⟩;obtain⟨_,t,ct,s,hs,e⟩:=hG x hx;obtain⟨_,t',ct',s',hs',e'⟩:=hG y hy';let A:Vc:=λj=>vc (sd.getD j []) a;have la:∀t,jf sd.length A t=Lt sd.length (λj=>vc (sd.getD j [])) t a:=λt=>Hx sd.length (λj=>vc (sd.getD j [])) t a;have p1:0<jf sd.length A t:=by rw[la,<-e a];exact aW hs px
    have p2:jf sd.length A t'<0:=by rw[la,<-e' a];exact dP hs' ny
    have cz:kq sd.length (A::As) (λi=>(-jf sd.length A t')*t i+jf sd.length A t*t' i):=by
     have lin:∀B,jf sd.length B (λi=>(-jf sd.length A t')*t i+jf sd.length A t*t' i)=(-jf sd.length A t')*jf sd.length B t+jf sd.length A t*jf sd.length B t':=λB=>by have:=pE (m:=sd.length) (A:=B) (x:=t) (y:=t') (z:=λi=>(-jf sd.length A t')*t i+jf sd.length A t*t' i) (s:=1) (a:=-jf sd.length A t') (b:=jf sd.length A t) (λi=>by grind);simpa using this
     obtain⟨j,hj⟩:=ct.ne;have q1:0 < -jf sd.length A t':=by omega
     refine⟨λi=>?_,λi hi=>?_,⟨j,?_⟩,λB hB=>?_⟩
     ·have x1:=aO (az q1) (ct.nn i);have x2:=aO (az p1) (ct'.nn i);omega
     ·rw[ct.out i hi,ct'.out i hi];simp
     ·have gj:0<t j:=by have:=ct.nn j;omega
      have x1:=aW q1 gj;have x2:=aO (az p1) (ct'.nn j);omega
     ·rw[lin B];rcases aE.mp hB with rfl | hB
      ·grind
      ·rw[ct.eq B hB,ct'.eq B hB];simp
    have hf:∀x y z (s a b:Int),(∀i,s*z i=a*x i+b*y i)->(s:Rat)*jX d X (Lt sd.length (λj=>vc (sd.getD j [])) z)=(a:Rat)*jX d X (Lt sd.length (λj=>vc (sd.getD j [])) x)+(b:Rat)*jX d X (Lt sd.length (λj=>vc (sd.getD j [])) y):=λx y z s a b hh=>qE _ _ _ s a b λi=>Iq hh i;have pos:=Cn.posQ hf (λu ⟨_,r,hr,s2,hs2,e2⟩=>by rw[<-um (λq=>e2 q)];exact dW (nS hs2) (hX r hr)) (gen' _ cz)
    have lz:=hf t t' (λi=>(-jf sd.length A t')*t i+jf sd.length A t*t' i) 1 (-jf sd.length A t') (jf sd.length A t) (λi=>by grind);have e1:=um (d:=d) (X:=X) (λq=>e q);have e2:=um (d:=d) (X:=X) (λq=>e' q);have a1:(jf sd.length A t:Rat)=(s:Rat)*(vc x a:Rat):=by rw[la,<-e a];simp
    have a2:(jf sd.length A t':Rat)=(s':Rat)*(vc y a:Rat):=by rw[la,<-e' a];simp
    have ss0:(0:Rat)<(s:Rat)*(s':Rat):=dW (nS hs) (nS hs');refine eV (c:=(s:Rat)*(s':Rat)) ?_ (dZ ss0);have ev:jX d X (Lt sd.length (λj=>vc (sd.getD j [])) (λi=>(-jf sd.length A t')*t i+jf sd.length A t*t' i))=(s:Rat)*(s':Rat)*(-(vc y a:Rat)*jX d X (vc x)+(vc x a:Rat)*jX d X (vc y)):=by
     have l2:(1:Rat)*jX d X (Lt sd.length (λj=>vc (sd.getD j [])) (λi=>(-jf sd.length A t')*t i+jf sd.length A t*t' i))=(-(jf sd.length A t':Rat))*jX d X (Lt sd.length (λj=>vc (sd.getD j [])) t)+(jf sd.length A t:Rat)*jX d X (Lt sd.length (λj=>vc (sd.getD j [])) t'):=by simpa using lz
     rw[<-e1,<-e2,a1,a2] at l2;grind
    rw[<-ev];simpa using pos
   | succ i=>obtain⟨Gi,Gi',q1,q2,q3⟩:=i1 i b (by simpa using q);exact⟨Gi,Gi',by simpa using q1,by simpa using q2,q3⟩
  ·simpa using i2
  ·rw[List.getLast?_cons_of_ne_nil lne];exact i3
  ·rcases hp with hp | hp
   ·exact .inl (.inl hp)
   ·rcases aE.mp hp with hp | hp
    ·exact .inl (.inr hp)
    ·exact .inr hp
def Sb(N d m:Nat):Nat->Nat
 | 0=>d
 | i+1=>3*Sb N d m i+2*Nb N (m - 1 - i)+44
theorem EW(s:List (Int×Int))(a:Nat)(f:Int×Int):wts (s.set a f)<=wts s+wt f:=by
 induction s generalizing a with
 | nil=>simp[wts]
 | cons p s ih=>
  cases a with
  | zero=>simp[wts];omega
  | succ a=>
   have:=ih a;have e1:wts ((p::s).set (a+1) f)=wt p+wts (s.set a f):=by rw[List.set_cons_succ];simp[wts]
   have e2:wts (p::s)=wt p+wts s:=by simp[wts]
   omega
theorem xB(n k:Nat)(h:k<n):xF n (k:Int)=some k:=by unfold xF;rw[aP (by omega),aP (by omega)];simp
theorem MY(l:List T)(k:Nat)(t:T)(h:l[k]? = some t):gX (.lst l) (.int (k:Int))=.ok t:=by
 have hl:=(aa.mp h).1;have:pK l (k:Int)=some t:=by unfold pK;rw[xB _ _ hl];exact h
 simp[this]
theorem B9{l:List Nat}(h:l.Nodup){i j a:Nat}(hi:l[i]? = some a)(hj:l[j]? = some a):i=j:=by
 obtain⟨i1,i2⟩:=aa.mp hi;obtain⟨j1,j2⟩:=aa.mp hj;have hp:=cC.mp h;rcases cB i j with q | q | q
 ·exact absurd (i2.trans j2.symm) (hp i j i1 j1 q)
 ·exact q
 ·exact absurd (j2.trans i2.symm) (hp j i j1 i1 q)
theorem uY{d n:Nat}{ss ix:List Nat}{sd:List (List Int)}(h:Lo d n ss ix sd)(N:Nat)(h1N:1<=N)(hd:d<=10){pls:List Nat}{ls:List (List (List Int))}(hy:Kf d ix.length 0 sd pls ls)(hpm:pls.length<=10)(hpd:∀a∈pls,a<d)(hnd:pls.Nodup)(hb:∀(i:Nat) G,ls[i]? = some G->∀r∈G,r.length=d+1+n/\∀x∈r,Bn (Nb N i) x)
  (Z:Nat->Prop) (hZ:∀r∈sd,∀p,Z p->vc r p=0) (AY:∀p,p<d->Z p\/p∈pls) (Kd:∀Gl,ls.getLast? = some Gl->∀r∈Gl,vc r d<0) (hE:∀i,i<pls.length->Nb N (pls.length - 1 - i)+Sb N d pls.length i+20<=7000) (V:Nat) (h1V:1<=V) (hV:∀i,i<pls.length->Nb N (pls.length - 1 - i)+Sb N d pls.length i+21<=V) :
  ∃s:List (Int×Int),l5 c [.lst (ls.map λg=>T.lst (g.map tI)),.lst (pls.map λ(j:Nat)=>T.int (j:Int)),.lst ((List.replicate d ((0,1):Int×Int)).map fr)]=.ok (s.map fr)/\s.length=d/\(∀p∈s,Fq p/\Bn V p.2)/\wts s<=Sb N d pls.length pls.length/\(∀p,p<d->p∉pls->s.getD p (0,1)=(0,1))/\∀r∈sd,0<jX d (Xs s) (vc r):=by
 have sz:1000<sizeLine:=by decide
 have g0:∀r∈sd,r.length=d+1+n/\∃t,kq sd.length [] t/\∃s:Int,0<s/\∀q,s*vc r q=Lt sd.length (λj=>vc (sd.getD j [])) t q:=λr hr=>by
  obtain⟨j,hj⟩:=df.mp hr;have jl:j<sd.length:=(aa.mp hj).1;have ej:sd.getD j []=r:=by rw[af,hj];rfl
  refine⟨h.l r hr,oY j,⟨λi=>by unfold oY;split<;>omega,λi hi=>by unfold oY;rw[aQ (by omega)],⟨j,by simp[oY]⟩,λA hA=>(nomatch hA)⟩,1,by decide,λq=>?_⟩;rw[vG sd.length _ j jl q,ej,dm]
 have gen0:∀u,kq sd.length [] u->Cn (Pf sd [] sd) u:=λu hu=>(yA sd.length (cs sd.length u) u (aJ _) hu).mono λx ⟨i,hi,ex⟩=>by
  subst ex;have hm:sd.getD i []∈sd:=by rw[af,ag hi];exact aU hi
  refine⟨⟨λk=>by unfold oY;split<;>omega,λk hk=>by unfold oY;rw[aQ (by omega)],⟨i,by simp[oY]⟩,λA hA=>(nomatch hA)⟩,sd.getD i [],hm,1,by decide,λq=>?_⟩;rw[vG sd.length _ i hi q,dm]
 obtain⟨at_,Gl,la1,la2,la3,la4⟩:=Jz h hy [] rfl g0 gen0 Z hZ;let m:=pls.length;let s0:List (Int×Int):=List.replicate d (0,1);let R (s:List (Int×Int)) (x4 x5 x6:Option W):En:=[some (.p (.lst (ls.map λg=>T.lst (g.map tI)))),some (.p (.lst (pls.map λ(j:Nat)=>T.int (j:Int)))),some (.p (.lst (s0.map fr))),some (.o (s.map fr)),x4,x5,x6];have fq0:Fq (0,1):=⟨by decide,by decide⟩;obtain⟨ρ,e,s,x4,x5,x6,rfl,k1,k2,k3,k4,G,k5,k6⟩:=iH (m:=kD 2 (g9 (jF 4) (g9 (jF 5) kr))) (g:=pJ c) (λ(p:Nat×Nat)=>T.tup [.int (p.2:Int),.int (p.1:Int)])
  (λi ρ=>∃(s:List (Int×Int)) (x4 x5 x6:Option W),ρ=R s x4 x5 x6/\s.length=d/\(∀p∈s,Fq p/\Bn V p.2)/\wts s<=Sb N d m i/\(∀p,p<d->p∉pls.drop (m - i)->s.getD p (0,1)=(0,1))/\∃G,ls[m - i]? = some G/\∀r∈G,0<jX d (Xs s) (vc r))
  pls.zipIdx.reverse 0 (R s0 none none none) ⟨s0,none,none,none,rfl,by simp[s0],λp hp=>by rw[a9 hp];exact⟨fq0,(J6 (n:=0)).mono (by omega)⟩,by
   show wts (List.replicate d (0,1))<=d;have w1:wt (0,1)=1:=by decide
   simp[wts,w1],λp hp _=>by
   show (List.replicate d ((0,1):Int×Int)).getD p (0,1)=(0,1);rw[af,List.getElem?_replicate];split<;>rfl,Gl,by simpa[m] using la1,λr hr=>by
   rw[pQ λp hp=>la3 r hr p (AY p hp)];have:=Kd Gl la2 r hr;have q:=nS (show 0 < -vc r d by omega);simpa using q⟩ (by
   rintro i ⟨a,jn⟩ ρ hi ⟨s,x4,x5,x6,rfl,k1,k2,k3,k4,G',k5,k6⟩;rw[aF] at k3 k4 k5 ⊢;have il:i<m:=by have:=(aa.mp hi).1;simpa[m] using this
   rw[List.getElem?_reverse (by simpa[m] using il)] at hi;have hz:pls.zipIdx.length - 1 - i=m - 1 - i:=by simp[m]
   rw[hz,List.getElem?_zipIdx] at hi;have hpl:pls[m - 1 - i]? = some a/\jn=m - 1 - i:=by
    cases q:pls[m - 1 - i]? with
    | none=>rw[q] at hi;cases hi
    | some a'=>rw[q] at hi;simp at hi;exact⟨by rw[hi.1],hi.2.symm⟩
   obtain⟨hpa,hjn⟩:=hpl;subst hjn;have am:a∈pls:=au hpa;have ad:=hpd a am;obtain⟨G,G2,q1,q2,q3,q4⟩:=at_ (m - 1 - i) a hpa;have e2:m - 1 - i+1=m - i:=by omega
   rw[e2,k5] at q2;cases q2;have hGb:=hb (m - 1 - i) G q1;have hEi:Nb N (m - 1 - i)+Sb N d m i+20<=7000:=hE i il;have k3':wts s<=Sb N d m i:=k3;have hE2:Nb N (m - 1 - i)+wts s+20<=7000:=by show Nb N (m - 1 - i)+wts s+20<=7000;omega
   have n1:1<=Nb N (m - 1 - i):=aM h1N (Fd N (bH _));obtain⟨lo,hi',ee,E_⟩:=De (c:=c) d a (Nb N (m - 1 - i)) (d+1+n) (by omega) ad hd n1 s k1 (λp hp=>(k2 p hp).1) (by omega) G hGb;have sa:s.getD a (0,1)=(0,1):=k4 a ad λhm=>by obtain⟨q,hq⟩:=df.mp hm;rw[List.getElem?_drop] at hq;have:=B9 hnd hpa hq;omega
   have Xa:Xs s a=0:=by unfold Xs;rw[sa,Sf]
   have lt:∀p r,lo=some p->hi'=some r->qv p<qv r:=λp r ep er=>by
    obtain⟨x,hx,px,ex⟩:=E_.lo2 p ep;obtain⟨y,hy',ny,ey⟩:=E_.hi2 r er;have key:=q4 (Xs s) k6 x hx y hy' px ny;rw[ex,ey];unfold pS;have a1:(0:Rat)<(vc x a:Rat):=nS px;have a2:(0:Rat) < -(vc y a:Rat):=by have:=nS (show 0 < -vc y a by omega);simpa using this
    generalize jX d (Xs s) (vc x)=e1 at *;generalize jX d (Xs s) (vc y)=e2 at *;generalize (vc x a:Rat)=u at *;generalize (vc y a:Rat)=v at *;refine dY (c:=u * -v) ?_ (dZ (dW a1 a2));have u0:u≠0:=by grind
    have v0:v≠0:=by grind
    have t1:-e1 / u*(u * -v)=e1*v:=by grind
    have t2:-e2 / v*(u * -v)=e2*u:=by grind
    rw[t1,t2];grind
   obtain⟨x,ex,gd,bx1,bx2⟩:=wH (c:=c) (Nb N (m - 1 - i)+wts s+20) hE2 lo hi' E_.l E_.h lt;have wx:wt x<=2*(Nb N (m - 1 - i)+wts s+20)+4:=d8.mpr ⟨yx bx1 (by omega),yx (bx2.mono (by omega)) (by omega)⟩;have ixl:gX (.lst (ls.map λg=>T.lst (g.map tI))) (.int ((m - 1 - i:Nat):Int))=.ok (.lst (G.map tI)):=by
    have q:(ls.map λg=>T.lst (g.map tI))[m - 1 - i]? = some (T.lst (G.map tI)):=by rw[av,q1];rfl
    exact MY _ _ _ q
   have s1:setO 6 (m8 (fW (fK (fX gX (fL 0) (fL 4)) (fK (fL 5) (fK (fL 3) fP))) (oB c))) (R s (some (.p (.int ((m - 1 - i:Nat):Int)))) (some (.p (.int (a:Int)))) x6)=.nx (R s (some (.p (.int ((m - 1 - i:Nat):Int)))) (some (.p (.int (a:Int)))) (some (.p (.tup [oT lo,oT hi'])))):=by refine sG (lg (x:=.lst (G.map tI)) (fR rfl rfl ixl) rfl rfl ee) ?_ rfl;cases lo<;>cases hi'<;>rfl
   have s2:uM 3 (m8 (fL 5)) (m8 (fW (fK (fX gX (fL 6) (cM (.int 0))) (fK (fX gX (fL 6) (cM (.int 1))) fP)) (lj c))) (R s (some (.p (.int ((m - 1 - i:Nat):Int)))) (some (.p (.int (a:Int)))) (some (.p (.tup [oT lo,oT hi']))))=.nx (R (s.set a x) (some (.p (.int ((m - 1 - i:Nat):Int)))) (some (.p (.int (a:Int)))) (some (.p (.tup [oT lo,oT hi'])))):=by
    refine AL (us:=s.map fr) rfl (hW (x:=oT lo) (y:=oT hi') (fR rfl rfl rfl) (fR rfl rfl rfl) ex) rfl (j:=(a:Int)) (m:=a) rfl ?_ ?_
    ·rw[aw];exact xB _ _ (by omega)
    ·show _=List.set _ _ _;simp[R,dF]
   refine⟨_,_,rfl,.inl (fT s1 s2),s.set a x,some (.p (.int ((m - 1 - i:Nat):Int))),some (.p (.int (a:Int))),some (.p (.tup [oT lo,oT hi'])),rfl,by rw[bT,k1],λp hp=>?_,?_,λp hp hn=>?_,G,by rw[show m - (i+1)=m - 1 - i by omega];exact q1,λr hr=>?_⟩
   ·rcases eK hp with q | q
    ·exact k2 p q
    ·rw[q];exact⟨⟨gd.pos,gd.one⟩,bx2.mono (by have:Nb N (m - 1 - i)+Sb N d m i+21<=V:=hV i il;omega)⟩
   ·have:=EW s a x;show _<=3*Sb N d m i+2*Nb N (m - 1 - i)+44;omega
   ·rw[show m - (i+1)=m - 1 - i by omega] at hn;have dr:pls.drop (m - 1 - i)=a::pls.drop (m - i):=by have hlt:=(aa.mp hpa).1;rw[cU hlt,e2];congr 1;exact (aa.mp hpa).2
    rw[dr] at hn;have pa:p≠a:=λz=>hn (by simp[z]);rw[af,aq (λz=>pa z.symm),<-af];exact k4 p hp λz=>hn (by simp[z])
   ·rw[HU s a x (by omega),EN ad,Xa];have nx:(0:Rat)<jX d (Xs s) (vc r)+(vc r a:Rat)*(qv x - 0):=by
     rcases dQ (vc r a) 0 with q | q | q
     ·obtain⟨p,ep,le⟩:=E_.hi1 r hr q;have lt2:=gd.hi p ep;unfold pS at le;have a2:(0:Rat) < -(vc r a:Rat):=by have:=nS (show 0 < -vc r a by omega);simpa using this
      generalize jX d (Xs s) (vc r)=e1 at *;generalize (vc r a:Rat)=v at *;have v0:v≠0:=by grind
      have t:qv x < -e1 / v:=by grind
      have:=dX t a2;have t1:-e1 / v * -v=e1:=by grind
      rw[t1] at this;grind
     ·have:=k6 r (q3 r hr q);rw[q];simp;grind
     ·obtain⟨p,ep,le⟩:=E_.lo1 r hr q;have lt2:=gd.lo p ep;unfold pS at le;have a2:(0:Rat)<(vc r a:Rat):=nS q;generalize jX d (Xs s) (vc r)=e1 at *;generalize (vc r a:Rat)=v at *;have v0:v≠0:=by grind
      have t:-e1 / v<qv x:=by grind
      have:=dX t a2;have t1:-e1 / v*v = -e1:=by grind
      rw[t1] at this;grind
    exact nx)
 have fl:(pls.zipIdx.reverse).length=m:=by simp[m]
 rw[aF,fl] at k3 k4 k5;rw[Nat.sub_self] at k4 k5;have G0:ls[0]? = some sd:=by cases hy<;>rfl
 rw[G0] at k5;cases k5;have ito:Fy (fK (iO (Q1 (fK (fL 1) fP))) fP) (nV (R s0 none none none))=.ok (pls.zipIdx.reverse.map λ(p:Nat×Nat)=>T.tup [.int (p.2:Int),.int (p.1:Int)]):=by have le:Q1 (fK (fL 1) fP) (nV (R s0 none none none))=.ok (nZ (pls.map λ(j:Nat)=>T.int (j:Int))):=rfl;simp only[Fy,fK,fP,iO,le,M.bind_ok];rw[zu,eG]
 refine⟨s,qi rfl (fT (mm (ts:=s0.map fr) rfl rfl) (fT (jb ito e) rfl)),k1,k2,k3,λp hp hn=>k4 p hp (by simpa using hn),k6⟩
theorem FX(d M L:Nat)(hdL:d<L)(hd:d<=10)(hM:1<=M)(pv:List (Nat×List Int))(s:List (Int×Int))(hs:s.length=d)(V:Nat)(hq:∀p∈s,Fq p/\Bn V p.2)(hp:∀p∈pv,p.1<d/\p.2.length=L/\vc p.2 p.1≠0/\∀x∈p.2,Bn M x)(hw:pv.Pairwise λp q=>p.1≠q.1/\vc q.2 p.1=0/\vc p.2 q.1=0)(h0:∀p∈pv,s.getD p.1 (0,1)=(0,1))(hE:pv≠[]->M+wts s+20<=8000)(hV:pv≠[]->M+wts s+1<=V) :
  ∃s',sI c [.lst (pv.map lO),.lst (s.map fr)]=.ok (tS s')/\s'.length=d/\(∀p∈s',Fq p/\Bn V p.2)/\wts s'<=wts s+pv.length*(M+wts s+20)/\(∀p∈pv,jX d (Xs s') (vc p.2)=0)/\∀r:Vc,(∀p∈pv,r p.1=0)->jX d (Xs s') r=jX d (Xs s) r:=by
 have sz:1000<sizeLine:=by decide
 let R (s':List (Int×Int)) (x3 x4:Option W):En:=[some (.p (.lst (pv.map lO))),some (.p (.lst (s.map fr))),some (.o (s'.map fr)),x3,x4];obtain⟨ρ,e,s',x3,x4,rfl,k1,k2,k3,k4,k5,k6⟩:=iH (m:=kD 2 (g9 (jF 3) (g9 (jF 4) kr))) (g:=tM c) lO
  (λi ρ=>∃(s':List (Int×Int)) (x3 x4:Option W),ρ=R s' x3 x4/\s'.length=d/\(∀p∈s',Fq p/\Bn V p.2)/\wts s'<=wts s+i*(M+wts s+20)/\(∀p∈pv.take i,jX d (Xs s') (vc p.2)=0)/\(∀r:Vc,(∀p∈pv.take i,r p.1=0)->jX d (Xs s') r=jX d (Xs s) r)/\∀q,(∀p∈pv.take i,p.1≠q)->s'.getD q (0,1)=s.getD q (0,1))
  pv 0 (R s none none) ⟨s,none,none,rfl,hs,hq,by omega,λp hp=>by simp at hp,λr _=>rfl,λq _=>rfl⟩ (by
   rintro i ⟨a,pr⟩ ρ hi ⟨s',x3,x4,rfl,k1,k2,k3,k4,k5,k6⟩;rw[aF] at k3 k4 k5 k6 ⊢;have hm:=au hi;have hV:=hV (λz=>by rw[z] at hm;cases hm);have hE:=hE (λz=>by rw[z] at hm;cases hm);obtain⟨ha,hl,hne,hb⟩:=hp _ hm;simp only at ha hl hne hb;have il:=(aa.mp hi).1;have hpre:∀p∈pv.take i,p.1≠a/\vc pr p.1=0/\vc p.2 a=0:=λp hp'=>by
    obtain⟨j,hj⟩:=df.mp hp';rw[List.getElem?_take] at hj;split at hj
    ·rename_i jl;have h1:=aa.mp hj;have h2:=aa.mp hi;have:=cC.mp hw j i h1.1 h2.1 jl;rw[h1.2,h2.2] at this;exact this
    ·cases hj
   obtain⟨r,e1,g1,v1⟩:=uL (c:=c) M (by omega) hM pr s (by omega) (by omega) hb (λp hp=>(hq p hp).1) (by omega);obtain⟨o,e2,g2,v2⟩:=yr (c:=c) (k:=vc pr a) hne (hb _ (by unfold vc;rw[af,ag (show a<pr.length by omega)];exact aU _)) g1 (by omega) (by omega)
   have st:tM c (R s' (some (.p (.int (a:Int)))) (some (.p (tI pr))))=.nx (R (s'.set a o) (some (.p (.int (a:Int)))) (some (.p (tI pr)))):=by
    refine AL (us:=s'.map fr) rfl (hW (x:=fr r) (y:=fr (vc pr a,1)) (hW rfl rfl e1) (oj (fR rfl rfl (jT pr a (by omega))) rfl) e2) rfl (j:=(a:Int)) (m:=a) rfl ?_ ?_
    ·rw[aw];exact xB _ _ (by omega)
    ·simp[R,dF]
   have Xa:Xs s' a=0:=by have h1:=k6 a λp hp'=>(hpre p hp').1;have h2:=h0 _ hm;simp only at h2;unfold Xs;rw[h1,h2,Sf]
   have ev:∀r:Vc,jX d (Xs (s'.set a o)) r=jX d (Xs s') r+(r a:Rat)*qv o:=λr=>by rw[HU s' a o (by omega),EN ha,Xa];grind
   have tk:=jk _ i (a,pr) hi;refine⟨_,_,rfl,.inl st,s'.set a o,_,_,rfl,by rw[bT,k1],λp hp'=>?_,?_,?_,?_,?_⟩
   ·rcases eK hp' with q | q
    ·exact k2 p q
    ·rw[q];exact⟨g2.fq,g2.b2.mono (by omega)⟩
   ·have w1:=EW s' a o;have w2:wt o<=M+wts s+20:=g2.wt (by omega) (by omega) (by omega);rw[Nat.add_mul];omega
   ·intro p hp';rw[tk] at hp';rw[ev];rcases ai.mp hp' with q | q
    ·rw[k4 p q,(hpre p q).2.2];simp;grind
    ·have:p=(a,pr):=by simpa using q
     subst this;simp only;rw[k5 (vc pr) λp hp'=>(hpre p hp').2.1,v2,v1];have dq:=xo d s pr hs (by omega);rw[dq,hs];unfold jX;have ne:(vc pr a:Rat)≠0:=by intro z;exact hne (by exact_mod_cast z)
     generalize sX d (λp=>(vc pr p:Rat)*Xs s p)=A;generalize (vc pr a:Rat)=v at *;grind
   ·intro r hr;rw[ev,hr (a,pr) (by rw[tk];simp),k5 r λp hp'=>hr p (by rw[tk];simp[hp'])];simp;grind
   ·intro q hq';have qa:a≠q:=hq' (a,pr) (by rw[tk];simp);rw[af,aq qa,<-af];exact k6 q λp hp'=>hq' p (by rw[tk];simp[hp']))
 rw[aF,du] at k4 k5;rw[aF] at k3;exact⟨s',gS rfl (fT (mm (ts:=s.map fr) rfl rfl) (fT (jb rfl e) (gB rfl))),k1,k2,k3,k4,k5⟩
theorem yN(row:List Int)(s:Int)(hs:s.natAbs<=1)(hl:row.length<=1000):ox c [tI row,.int s]=.ok (tI (row.map λx=>s*x)):=by
 have sz:1000<sizeLine:=by decide
 refine gS rfl (gB (ou (t:=.lst ((row.map λx=>s*x).map T.int)) (iY (jv row T.int (λx=>T.int (s*x)) rfl (by omega) (λx hx=>⟨_,rfl,rfl,fR rfl rfl (iu (tH (by omega)))⟩) (by rw[aH];rfl))) rfl))
theorem mN(row:List Int)(s:Int)(i:Nat):vc (row.map λx=>s*x) i=s*vc row i:=by unfold vc;rw[af,af,av];cases row[i]?<;>simp
theorem My{N:Nat}{s x:Int}(hs:s.natAbs<=1)(h:Bn N x):Bn N (s*x):=by unfold Bn at *;rw[aX];refine b7 ?_ h;exact aM (Nat.mul_le_mul_right _ hs) (by omega)
theorem Ey{f:Pe->M T}{ρ:Pe}{ys:List Int}(h:f ρ=.ok (tI ys)):iO (Fi m7 (fK f fP)) ρ=.ok (tL ys):=by simp only[iO,Fi,fK,fP,h,M.bind_ok];rfl
theorem CY(d L:Nat)(hdL:d<L)(hL:L<=1000)(rs:List (List Int))(hr:∀r∈rs,r.length=L) :
  (i7 c [.lst (rs.map tI),.int (d:Int)]=.ok .non/\∀r∈rs,vc r d=0)\/
  ∃r∈rs,vc r d≠0/\i7 c [.lst (rs.map tI),.int (d:Int)]=.ok (tL ((r.map λx=>qt (vc r d)*x).drop (d+1))):=by
 have main:=sS (m:=jF 2) (g:=ni c) tI
  (λk ρ=>∃(x2:Option W),ρ=[some (.p (.lst (rs.map tI))),some (.p (.int (d:Int))),x2]/\∀r∈rs.take k,vc r d=0)
  (λt=>∃r∈rs,vc r d≠0/\t=tL ((r.map λx=>qt (vc r d)*x).drop (d+1))) rs 0 _ ⟨none,rfl,λr h=>by simp at h⟩ (by
   rintro i r ρ hi ⟨x2,rfl,h⟩;rw[aF] at h ⊢;have hm:=au hi;have hl:=hr r hm;refine⟨_,rfl,?_⟩;have hix:gX (tI r) (.int (d:Int))=.ok (.int (vc r d)):=jT r d (by omega);by_cases h0:vc r d=0
   ·left;refine⟨_,gY (gx (fR (fR rfl rfl hix) rfl (by rw[l8,h0];rfl))) rfl,_,rfl,λr' hr'=>?_⟩;rw[jk _ i r hi] at hr';rcases ai.mp hr' with q | q
    ·exact h r' q
    ·rw[aj.mp q];exact h0
   ·right;have sg1:(qt (vc r d)).natAbs<=1:=by unfold qt;split<;>(try split)<;>simp
    exact⟨_,iw (gx (fR (fR rfl rfl hix) rfl (by rw[l8];simp[h0]))) (gB (Ey (rQ _ d (hW (x:=tI r) (y:=.int (qt (vc r d))) rfl (rh (fR rfl rfl hix) (vT _)) (yN r _ sg1 (by omega))) rfl))),r,hm,h0,rfl⟩)
 rcases main with⟨ρ,e,x2,rfl,h⟩ | ⟨t,e,r,hm,h0,rfl⟩
 ·left;rw[aF,du] at h;exact⟨gS rfl (fT (jb rfl e) (gB rfl)),h⟩
 ·right;exact⟨r,hm,h0,gS rfl (jW (jb rfl e) rfl)⟩
theorem Ld(us:List (List Int)):(us.zipIdx.map λp=>p.1++(List.replicate us.length (0:Int)).set p.2 1)=(List.range us.length).map (wr us):=by
 apply eW
 ·simp
 ·intro i h1 h2;simp only[aw,List.length_zipIdx] at h1;simp[wr,List.getElem_zipIdx,h1]
theorem Df{n:Nat}{sg:List Int}{k:Nat}{s:Int}:(k,s)∈(List.range n).zip sg↔k<n/\sg[k]? = some s:=by
 rw[df];constructor
 ·rintro⟨i,hi⟩;rw[List.getElem?_zip_eq_some] at hi;obtain⟨h1,h2⟩:=hi;simp only at h1 h2;have:=aa.mp h1;simp at this;obtain⟨a,b⟩:=this;subst b;exact⟨a,h2⟩
 ·rintro⟨h1,h2⟩;exact⟨k,List.getElem?_zip_eq_some.mpr ⟨by simp[h1],h2⟩⟩
structure Az(n:Nat)(sg:List Int):Prop where
 len:sg.length=n
 one:∀x∈sg,x.natAbs<=1
def zer(n:Nat)(sg:List Int):List Nat:=(((List.range n).zip sg).filter λp=>p.2 == 0).map Prod.fst
def vD(n:Nat)(sg:List Int):List (Nat×Int):=((List.range n).zip sg).filter λp=>p.2 != 0
theorem qH{n:Nat}{sg:List Int}{k:Nat}:k∈zer n sg↔k<n/\sg[k]? = some 0:=by
 unfold zer;rw[aC];constructor
 ·rintro⟨⟨k',s⟩,h,rfl⟩;obtain⟨h1,h2⟩:=aT.mp h;have:=Df.mp h1;have e:s=0:=by simpa using h2
  subst e;exact this
 ·rintro⟨h1,h2⟩;exact⟨(k,0),aT.mpr ⟨Df.mpr ⟨h1,h2⟩,by simp⟩,rfl⟩
theorem o8{n:Nat}{sg:List Int}{k:Nat}{s:Int}:(k,s)∈vD n sg↔k<n/\sg[k]? = some s/\s≠0:=by unfold vD;rw[aT,Df];simp[and_assoc]
theorem qh{α β:Type}:∀(a:List α) (b:List β),((a.zip b).map Prod.fst).Sublist a
 | [],_=>by simp
 | _::_,[]=>by simp
 | x::a,y::b=>by simp[qh a b]
theorem Ni{g v:Int}(hg:0<g)(h:0<g*v):0<v:=aN λq=>by have:=eA (show v<=0 by omega) (az hg);rw[dy] at this;omega
theorem Jl(n:Nat)(sg:List Int):((vD n sg).map Prod.fst).Nodup:=by have h1:((vD n sg).map Prod.fst).Sublist (((List.range n).zip sg).map Prod.fst):=(fg).map _;have h2:(((List.range n).zip sg).map Prod.fst).Sublist (List.range n):=qh _ _;exact (dO).sublist (h1.trans h2)
theorem GP{d:Nat}{X:Nat->Rat}{x y:Vc}(h:∀i,i<=d->x i=y i):jX d X x=jX d X y:=by unfold jX;rw[nB d _ (λp=>(y p:Rat)*X p) λp hp=>by rw[h p (by omega)],h d (aJ _)]
theorem Qs.evl0{d:Nat}{X:Nat->Rat}{P:Vc->Prop}(h:∀x,P x->jX d X x=0){z:Vc}(q:Qs P z):jX d X z=0:=by
 induction q with
 | of p=>exact h _ p
 | zero=>rw[pQ λ_ _=>rfl];simp
 | lin hx hy hs e i1 i2=>
  rename_i x y z s a b;have:=qE (d:=d) (X:=X) x y z s a b e;rw[i1,i2] at this;have s0:(s:Rat)≠0:=by intro z;exact hs (by exact_mod_cast z)
  grind
structure Ro(us:List (List Int))(d N:Nat)(pv:List (Nat×List Int))(ix:List Nat)(k:Nat)(s:Int)(r:List Int):Prop where
 len:r.length=d+1+us.length
 own:0<s*vc r (d+1+k)
 oth:∀i,i∉ix->i≠k->vc r (d+1+i)=0
 lin:lF us d (vc r)
 zer:∀p∈pv,vc r p.1=0
 ex:∃(g s':Int) (y:Vc),0<g/\0<s'/\Qs (Q2 pv) y/\∀i,g*vc r i=s'*(s*vc (wr us k) i)+1*y i
 bn:∀x∈r,Bn N x
theorem Iz{us:List (List Int)}{d B:Nat}{zs:List Nat}{pv:List (Nat×List Int)}{rs:List (List Int)}{ix:List Nat}(hd:d<=4)(hn:us.length<=8)(hl:∀u∈us,u.length=d+1)(hb:∀u∈us,∀x∈u,Bn B x)(hB:RN d B)(h:PV us d B zs pv rs ix){k:Nat}{s:Int}(hk:k<us.length)(hkz:k∉zs)(hs:s.natAbs<=1)(h0:s≠0) :
  ∃r,lM c [tI ((wr us k).map λx=>s*x),.lst (pv.map lO)]=.ok (tI r)/\Ro us d (B+pv.length*(Pq B pv.length+1)) pv ix k s r:=by
 have wl:=DT us d k hk hl;have kx:k∉ix:=λz=>hkz (h.sub k z);have hle:=hB.le pv.length h.short;obtain⟨r,e,l,b,⟨g,s',y,hg,hs',hy,ey⟩,z⟩:=B7 (c:=c) (Q2 pv) (d+1+us.length) (Pq B pv.length) B (by omega) pv ((wr us k).map λx=>s*x) hle (by rw[aw,wl]) (λx hx=>by
  obtain⟨x',hx',rfl⟩:=aC.mp hx;exact My hs (M4 hB.b1 us k hk hb x' hx')) (λp hp=>by
  obtain⟨q1,q2,q3,q4,-⟩:=h.pl p hp;exact⟨by omega,q2,q3,q4,⟨p,hp,rfl⟩⟩) (h.pw.imp λq=>q.2.1)
 have ey':∀i,g*vc r i=s'*(s*vc (wr us k) i)+1*y i:=λi=>by rw[ey i,mN]
 have yw:∀i,i∉ix->y (d+1+i)=0:=λi hi=>Qs.at0 (λx ⟨p,hp,ex⟩=>by rw[ex];exact (h.pl p hp).2.2.2.2.2 i hi) hy;refine⟨r,e,l,?_,λi hi hik=>?_,?_,z,⟨g,s',y,hg,hs',hy,ey'⟩,b⟩
 ·have q:=ey' (d+1+k);rw[yw k kx,Bh us d k hk hl,aQ (by omega),aP (by omega)] at q;have ss:s*s=1:=by
   have:s=1\/s = -1:=by omega
   rcases this with e | e<;>rw[e]<;>decide
  have q2:g*(s*vc r (d+1+k))=s':=by
   have:g*(s*vc r (d+1+k))=s*(g*vc r (d+1+k)):=by grind
   rw[this,q];grind
  exact Ni hg (by omega)
 ·have q:=ey' (d+1+i);rw[yw i hi,Qd us d k hk hl i hik] at q;exact t8 (g:=g) (by omega) (by rw[q];simp)
 ·have ly:lF us d y:=lF.qs (λx ⟨p,hp,ex⟩=>by rw[ex];exact (h.pl p hp).2.2.2.2.1) hy;exact lF.comb (g:=g) (a:=s'*s) (b:=1) (by omega) (IK us d k hk hl) ly λi=>by rw[ey' i];grind
structure Kg(us:List (List Int))(d:Nat)(sg ws:List Int):Prop where
 len:ws.length=us.length
 may:∀i s,sg[i]? = some s->0<=s*vc ws i
 zer:∀k,k<d->sm us.length (λi=>vc ws i*vc (us.getD i []) k)=0
 fin:0<sm us.length (λi=>vc ws i*vc (us.getD i []) d)\/(sm us.length (λi=>vc ws i*vc (us.getD i []) d)=0/\∃i s,sg[i]? = some s/\s*vc ws i≠0)
theorem EV(r:List Int)(k i:Nat):vc (r.drop k) i=vc r (k+i):=by unfold vc;rw[af,af,List.getElem?_drop]
theorem Ed{us:List (List Int)}{d:Nat}:∀(m:Nat) (g:Nat->Vc) (t:Vc),(∀j,j<m->lF us d (g j))->lF us d (Lt m g t)
 | 0,g,t,_=>by have:Lt 0 g t=λ_=>0:=rfl;rw[this];exact lF.zero
 | m+1,g,t,h=>by refine lF.comb (g:=1) (a:=t 0) (b:=1) (by decide) (h 0 (by omega)) (Ed m (λj=>g (j+1)) (λj=>t (j+1)) λj hj=>h (j+1) (by omega)) λi=>?_;show 1*(t 0*g 0 i+sm m λj=>t (j+1)*g (j+1) i)=t 0*g 0 i+1*(sm m λj=>t (j+1)*g (j+1) i);omega
theorem Ly(m j0:Nat)(hj:j0<m)(f:Nat->Int)(h:∀j,j<m->j≠j0->f j=0):sm m f=f j0:=by
 rw[<-AV m j0 f hj];refine kL m _ _ λj hj'=>?_;by_cases q:j=j0
 ·rw[aP q];omega
 ·rw[aQ q,h j hj' q];rfl
theorem Nh{us:List (List Int)}{d N:Nat}{sg:List Int}{pv:List (Nat×List Int)}{ix:List Nat}(hsg:Az us.length sg)(hix:∀i∈ix,i∈zer us.length sg){f:Nat×Int->List Int}(hf:∀p∈vD us.length sg,Ro us d N pv ix p.1 p.2 (f p)){r:List Int}(hl:r.length=d+1+us.length){t:Vc}(ct:kq ((vD us.length sg).map f).length [] t){s:Int}(hs:0<s)(e:∀q,s*vc r q=Lt ((vD us.length sg).map f).length (λj=>vc (((vD us.length sg).map f).getD j [])) t q)
  (h0:∀k,k<d->vc r k=0) (hd:0<=vc r d):Kg us d sg (r.drop (d+1)):=by
 generalize hsd:(vD us.length sg).map f=sd at *;have gj:∀j,j<sd.length->∃p,(vD us.length sg)[j]? = some p/\sd.getD j []=f p:=λj hj=>by subst hsd;rw[aw] at hj;refine⟨_,ag hj,?_⟩;rw[af,av,ag hj];rfl
 have lr:lF us d (vc r):=by
  have:lF us d (Lt sd.length (λj=>vc (sd.getD j [])) t):=Ed _ _ _ λj hj=>by obtain⟨p,h1,h2⟩:=gj j hj;rw[h2];exact (hf p (au h1)).lin
  exact lF.comb (g:=s) (a:=1) (b:=0) (by omega) this lF.zero λi=>by rw[e i];omega
 have key:∀j k s',(vD us.length sg)[j]? = some (k,s')->j<sd.length/\s*(s'*vc r (d+1+k))=t j*(s'*vc (sd.getD j []) (d+1+k))/\0<s'*vc (sd.getD j []) (d+1+k):=λj k s' h=>by
  have hm:=au h;have hj:j<sd.length:=by rw[<-hsd,aw];exact (aa.mp h).1
  have ej:sd.getD j []=f (k,s'):=by obtain⟨p,h1,h2⟩:=gj j hj;rw[h1] at h;cases h;exact h2
  obtain⟨k1,k2,k3⟩:=o8.mp hm;have kx:k∉ix:=λz=>by have:=(qH.mp (hix k z)).2;rw[k2] at this;exact k3 (Option.some.inj this)
  refine⟨hj,?_,by rw[ej];exact (hf _ hm).own⟩;have q:=e (d+1+k);have:Lt sd.length (λj=>vc (sd.getD j [])) t (d+1+k)=t j*vc (sd.getD j []) (d+1+k):=Ly sd.length j hj _ λj' hj' hne=>by
   obtain⟨p,h1,h2⟩:=gj j' hj';have:p.1≠k:=λz=>by
    have nd:=Jl us.length sg;refine hne (B9 nd (a:=k) ?_ ?_)
    ·rw[av,h1];simp[z]
    ·rw[av,h];rfl
   show t j'*vc (sd.getD j' []) (d+1+k)=0;rw[h2,(hf p (au h1)).oth k kx (λz=>this z.symm)];simp
  rw[this] at q;grind
 have vd:∀i,vc (r.drop (d+1)) i=vc r (d+1+i):=λi=>EV r (d+1) i;have Ke:∀k,k<=d->sm us.length (λi=>vc (r.drop (d+1)) i*vc (us.getD i []) k)=vc r k:=λk hk=>by rw[lr k hk];exact kL _ _ _ λi _=>by rw[vd]
 refine⟨by rw[bR];omega,λi s' hi=>?_,λk hk=>by rw[Ke k (by omega),h0 k hk],?_⟩
 ·rw[vd];by_cases z:s'=0
  ·rw[z];simp
  ·have il:i<us.length:=by rw[<-hsg.len];exact (aa.mp hi).1
   have hm:(i,s')∈vD us.length sg:=o8.mpr ⟨il,hi,z⟩;obtain⟨j,hj⟩:=df.mp hm;obtain⟨-,k2,k3⟩:=key j i s' hj;have:=aO (ct.nn j) (az k3);rw[<-k2] at this;exact aN λq=>by have:=dP hs (show s'*vc r (d+1+i)<0 by omega);omega
 ·rw[Ke d (aJ _)];rcases Int.lt_or_eq_of_le hd with q | q
  ·exact .inl q
  ·right;refine⟨q.symm,?_⟩;obtain⟨j,hj⟩:=ct.ne;have jl:j<sd.length:=by
    rcases dJ j sd.length with h | h
    ·exact h
    ·exact absurd (ct.out j h) hj
   obtain⟨⟨k,s'⟩,h1,-⟩:=gj j jl;obtain⟨-,k2,k3⟩:=key j k s' h1;have kk:=o8.mp (au h1);refine⟨k,s',kk.2.1,λz=>?_⟩;rw[vd] at z;rw[z,dy] at k2;have:=aW (show 0<t j by have:=ct.nn j;omega) k3;omega
theorem HA{us:List (List Int)}{d B:Nat}{sg:List Int}{pv:List (Nat×List Int)}{rs:List (List Int)}{ix:List Nat}(hsg:Az us.length sg)(h:PV us d B (zer us.length sg) pv rs ix){r:List Int}(hr:r∈rs)(h0:vc r d≠0):Kg us d sg ((r.map λx=>qt (vc r d)*x).drop (d+1)):=by
 obtain⟨l,z,lin,w,-⟩:=h.rr r hr;have vd:∀i,vc ((r.map λx=>qt (vc r d)*x).drop (d+1)) i=qt (vc r d)*vc r (d+1+i):=λi=>by rw[EV,mN]
 have Ke:∀k,k<=d->sm us.length (λi=>vc ((r.map λx=>qt (vc r d)*x).drop (d+1)) i*vc (us.getD i []) k)=qt (vc r d)*vc r k:=λk hk=>by rw[lin k hk,<-wY];exact kL _ _ _ λi _=>by rw[vd];grind
 refine⟨by rw[bR,aw];omega,λi s' hi=>?_,λk hk=>by rw[Ke k (by omega),z k hk];simp,.inl ?_⟩
 ·by_cases q:s'=0
  ·rw[q];simp
  ·rw[vd,w i λhz=>?_]
   ·simp
   ·have:=(qH.mp hz).2;rw[hi] at this;exact q (Option.some.inj this)
 ·rw[Ke d (aJ _)];unfold qt;split
  ·omega
  ·split
   ·omega
   ·omega
structure Rp(us:List (List Int))(d Wb V:Nat)(sg:List Int)(s:List (Int×Int)):Prop where
 len:s.length=d
 fq:∀p∈s,Fq p/\Bn V p.2
 wts:wts s<=Wb
 side:∀(i:Nat) (v:Int),sg[i]? = some v->(v=0->jX d (Xs s) (vc (us.getD i []))=0)/\(v≠0->0<(v:Rat)*jX d (Xs s) (vc (us.getD i [])))
def Ns(B k:Nat):Nat:=B+k*(Pq B k+1)
structure Bg(d B Wb V:Nat):Prop where
 sml:RN d B
 v1:1<=V
 vs:∀k m,k+m<=d->(∀i,i<m->Nb (Ns B k) (m - 1 - i)+Sb (Ns B k) d m i+21<=V)/\(k≠0->Pq B k+Sb (Ns B k) d m m+2<=V)
 ok:∀k m,k+m<=d->Nb (Ns B k) m<=8000/\(∀i,i<m->Nb (Ns B k) (m - 1 - i)+Sb (Ns B k) d m i+20<=7000)/\(k≠0->Pq B k+Sb (Ns B k) d m m+21<=8000)/\Sb (Ns B k) d m m+k*(Pq B k+Sb (Ns B k) d m m+21)<=Wb
theorem nG{pv:List (Nat×List Int)}{d k:Nat}:k∈nW pv d↔k<d/\∀p∈pv,p.1≠k:=by
 unfold nW;rw[aT,aR];simp;intro _;constructor
 ·intro h a b hm z;subst z;exact h b hm
 ·intro h x hm;exact h k x hm rfl
theorem B4(pv:List (Nat×List Int))(d:Nat):(nW pv d).Nodup:=(dO).sublist fg
theorem GQ{us:List (List Int)}{d B:Nat}{dn:List Nat}{pv:List (Nat×List Int)}{rs:List (List Int)}{ix:List Nat}(h:PV us d B dn pv rs ix):pv.length+(nW pv d).length<=d:=by
 have nd:(pv.map Prod.fst++nW pv d).Nodup:=by rw[List.nodup_append];refine⟨eL.mpr (h.pw.imp λq=>q.1),B4 pv d,λa ha b hb z=>?_⟩;obtain⟨p,hp,rfl⟩:=aC.mp ha;exact (nG.mp hb).2 p hp z
 have:=vE (m:=List.range d) nd λx hx=>by
  rcases ai.mp hx with q | q
  ·obtain⟨p,hp,rfl⟩:=aC.mp q;exact aR.mpr (h.pl p hp).1
  ·exact aR.mpr (nG.mp q).1
 simpa using this
theorem Qo(n:Nat)(hn:n<=1000){f:Pe->M T}{ρ:Pe}(h:f ρ=.ok (.int (n:Int))):iO (uS (iO (lstM (fK (jO (fK (cM (.int 0)) (fK (cM (.int 1)) fP))) fP))) f) ρ=.ok (.lst ((List.replicate n ((0,1):Int×Int)).map fr)):=by
 have sz:1000<sizeLine:=by decide
 have hr:G5 (n:Int)=true:=nE (by omega);have h1:1<=sizeLine:=by decide
 have h3:2<=sizeLine:=by decide
 have h2:n<=sizeLine:=by omega
 have e:(List.replicate n [T.tup [T.int 0,T.int 1]]).flatten=(List.replicate n ((0,1):Int×Int)).map fr:=by
  clear h hr h2 hn;induction n with
  | zero=>rfl
  | succ n ih=>rw[bX,bY,ih,bX];rfl
 have e0:iO (lstM (fK (jO (fK (cM (.int 0)) (fK (cM (.int 1)) fP))) fP)) ρ=.ok (.lst [T.tup [T.int 0,T.int 1]]):=Ie (oj rfl rfl);refine iY ?_;unfold uS;rw[e0,h];simp[hr,h2];exact .inr rfl
theorem Lo.g0{d n:Nat}{ss ix:List Nat}{sd:List (List Int)}(h:Lo d n ss ix sd):∀r∈sd,r.length=d+1+n/\∃t,kq sd.length [] t/\∃s:Int,0<s/\∀q,s*vc r q=Lt sd.length (λj=>vc (sd.getD j [])) t q:=λr hr=>by
 obtain⟨j,hj⟩:=df.mp hr;have jl:j<sd.length:=(aa.mp hj).1;have ej:sd.getD j []=r:=by rw[af,hj];rfl
 refine⟨h.l r hr,oY j,⟨λi=>by unfold oY;split<;>omega,λi hi=>by unfold oY;rw[aQ (by omega)],⟨j,by simp[oY]⟩,λA hA=>(nomatch hA)⟩,1,by decide,λq=>?_⟩;rw[vG sd.length _ j jl q,ej,dm]
theorem Lo.gen0{d n:Nat}{ss ix:List Nat}{sd:List (List Int)}(_:Lo d n ss ix sd):∀u,kq sd.length [] u->Cn (Pf sd [] sd) u:=λu hu=>(yA sd.length (cs sd.length u) u (aJ _) hu).mono λx ⟨i,hi,ex⟩=>by
 subst ex;have hm:sd.getD i []∈sd:=by rw[af,ag hi];exact aU hi
 refine⟨⟨λk=>by unfold oY;split<;>omega,λk hk=>by unfold oY;rw[aQ (by omega)],⟨i,by simp[oY]⟩,λA hA=>(nomatch hA)⟩,sd.getD i [],hm,1,by decide,λq=>?_⟩;rw[vG sd.length _ i hi q,dm]
theorem Pa{us:List (List Int)}{d N:Nat}{sg:List Int}{pv:List (Nat×List Int)}{ix:List Nat}{f:Nat×Int->List Int}(hf:∀p∈vD us.length sg,Ro us d N pv ix p.1 p.2 (f p)):Lo d us.length ((vD us.length sg).map Prod.fst) ix ((vD us.length sg).map f):=by
 have gj:∀j,j<((vD us.length sg).map f).length->∃p,p∈vD us.length sg/\((vD us.length sg).map f).getD j []=f p/\((vD us.length sg).map Prod.fst).getD j 0=p.1:=λj hj=>by
  rw[aw] at hj;refine⟨_,aU hj,?_,?_⟩
  ·rw[af,av,ag hj];rfl
  ·rw[af,av,ag hj];rfl
 refine⟨by simp,Jl _ _,λi hi=>?_,λr hr=>?_,λj hj=>?_,λj hj i hi hne=>?_⟩
 ·obtain⟨⟨k,s⟩,hp,rfl⟩:=aC.mp hi;exact (o8.mp hp).1
 ·obtain⟨p,hp,rfl⟩:=aC.mp hr;exact (hf p hp).len
 ·obtain⟨p,hp,e1,e2⟩:=gj j hj;rw[e1,e2];intro z;have:=(hf p hp).own;rw[z] at this;simp at this
 ·obtain⟨p,hp,e1,e2⟩:=gj j hj;rw[e2] at hne;rw[e1];exact (hf p hp).oth i hi hne
theorem qP(us:List (List Int))(d B Wb V:Nat)(hd:d<=4)(hn:us.length<=8)(hl:∀u∈us,u.length=d+1)(hb:∀u∈us,∀x∈u,Bn B x)(hB:Bg d B Wb V)(sg:List Int)(hsg:Az us.length sg) :
  (∃ws,iX c [.lst (us.map tI),.int (d:Int),tI sg]=.ok (.tup [.str "paper",tL ws])/\Kg us d sg ws/\∀x∈ws,Bn 8000 x)\/∃s,iX c [.lst (us.map tI),.int (d:Int),tI sg]=.ok (.tup [.str "spot",tS s])/\Rp us d Wb V sg s:=by
 have sz:1000<sizeLine:=by decide
 obtain⟨pv,rs,ix,e4,hP,hrs⟩:=CM (c:=c) us d B hd hn hl hb hB.sml (zer us.length sg) (λz hz=>(qH.mp hz).1) (by
  have:=vE (m:=List.range us.length) (l:=zer us.length sg) (by have h1:(zer us.length sg).Sublist (((List.range us.length).zip sg).map Prod.fst):=(fg).map _;exact (dO).sublist (h1.trans (qh _ _))) λx hx=>aR.mpr (qH.mp hx).1
  rw[fj] at this;omega)
 have ew:=BM (c:=c) us hn (λr hr=>by have:=hl r hr;omega);rw[Ld] at ew;let vs:T:=.lst (((List.range us.length).map (wr us)).map tI);let R (x4 x5 x6 x7 x8 x9 x10:Option W):En:=[some (.p (.lst (us.map tI))),some (.p (.int (d:Int))),some (.p (tI sg)),some (.p vs),x4,x5,x6,x7,x8,x9,x10];have zo:∀x4 x5 x6 x7 x8 x9 x10,mX (fK (fL 3) (fK (fL 2) fP)) (nV (R x4 x5 x6 x7 x8 x9 x10))=.ok (((List.range us.length).zip sg).map λp=>T.tup [tI (wr us p.1),.int p.2]):=λx4 x5 x6 x7 x8 x9 x10=>oo (x:=vs) (y:=tI sg) (l:=List.range us.length) (m:=sg) (f:=λk=>tI (wr us k)) (g:=T.int) rfl (by show M.ok _=_;rw[aH];rfl) rfl rfl
 have zl:((List.range us.length).zip sg).length<sizeLine:=by rw[fv,fj];omega
 have lc1:jJ [none,none] (mX (fK (fL 3) (fK (fL 2) fP))) (o4 2 (i8 (jo 0) (i8 (jo 1) o7))) (gO (fX (gD false) (fL 1) (cM (.int 0)))) (ng c) (nV (R none none none none none none none))=.ok (((zer us.length sg).map (wr us)).map tI):=pj _ _ (λp=>tI (wr us p.1)) (λp=>p.2 == 0) (zo _ _ _ _ _ _ _) zl (λp hp=>⟨_,rfl,gx (fR rfl rfl (iI _ _)),λ_=>rfl⟩) (by unfold zer;rw[aH,aH];rfl)
 let fo:T:=.tup [.lst (pv.map lO),.lst (rs.map tI)];have Ec:∀{o:O},(f9 (setO 5 (iK (fW (fK (fX gX (fL 4) (cM (.int 1))) (fK (fL 1) fP)) (i7 c)))) _) (R (some (.p fo)) none none none none none none)=o->lD c (ik 11 [.lst (us.map tI),.int (d:Int),tI sg])=o:=λ{o} h=>fT (ρ':=R none none none none none none none) (gh (iY (Pi rfl ew)) rfl) (fT (ρ':=R (some (.p fo)) none none none none none none) (gh (hW (iY lc1) rfl e4) rfl) h)
 have hlr:∀r∈rs,r.length=d+1+us.length:=λr hr=>(hP.rr r hr).1;rcases CY (c:=c) d (d+1+us.length) (by omega) (by omega) rs hlr with⟨e5,hz⟩ | ⟨r,hr,h0,e5⟩
 case inr=>
  left;refine⟨_,gS rfl (Ec (fT (ρ':=R (some (.p fo)) (some (.p (tL ((r.map λx=>qt (vc r d)*x).drop (d+1))))) none none none none none) (gh (hW (fR rfl rfl rfl) rfl e5) rfl) (jW (iw (gx (fR rfl rfl rfl)) (gB (oj rfl rfl))) rfl))),HA hsg hP hr h0,λx hx=>?_⟩;obtain⟨y,hy,rfl⟩:=aC.mp (fw hx);have b:=(hP.rr r hr).2.2.2.2 y hy;have sg1:(qt (vc r d)).natAbs<=1:=by unfold qt;split<;>(try split)<;>simp
  exact My sg1 (b.mono (hB.sml.le d (aJ _)))
 obtain⟨f,hf⟩:=tK (P:=λ(p:Nat×Int) r=>lM c [tI ((wr us p.1).map λx=>p.2*x),.lst (pv.map lO)]=.ok (tI r)/\Ro us d (Ns B pv.length) pv ix p.1 p.2 r) (vD us.length sg) λp hp=>by obtain⟨k,s⟩:=p;obtain⟨k1,k2,k3⟩:=o8.mp hp;exact Iz hd hn hl hb hB.sml hP k1 (λz=>by have:=(qH.mp z).2;rw[k2] at this;exact k3 (Option.some.inj this)) (hsg.one s (au k2)) k3
 have hf2:=λp hp=>(hf p hp).2;generalize hsd:(vD us.length sg).map f=sd;have hS:=Pa hf2;rw[hsd] at hS;have sdl:sd.length<=8:=by rw[<-hsd,aw];have:(vD us.length sg).length<=((List.range us.length).zip sg).length:=eS _ _;rw[fv,fj] at this;omega
 have sdr:∀r∈sd,r.length=d+1+us.length/\∀x∈r,Bn (Ns B pv.length) x:=λr hr=>by rw[<-hsd] at hr;obtain⟨p,hp,rfl⟩:=aC.mp hr;exact⟨(hf2 p hp).len,(hf2 p hp).bn⟩
 let xf:Option W:=some (.p fo);let xn:Option W:=some (.p .non);let xp:Option W:=some (.p (.lst (pv.map lO)));have lc2:jJ [none,none,some 6] (mX (fK (fL 3) (fK (fL 2) fP))) (o4 2 (i8 (jo 0) (i8 (jo 1) o7))) (gO (fX (gD true) (fL 1) (cM (.int 0)))) (nj c) (nV (R xf xn xp none none none none))=.ok (sd.map tI):=pj _ _ (λp=>tI (f p)) (λp=>p.2 != 0) (zo _ _ _ _ _ _ _) zl (λp hp=>⟨_,rfl,gx (fR rfl rfl (l8 _ _)),λhne=>by have hm:p∈vD us.length sg:=aT.mpr ⟨hp,hne⟩;have km:=o8.mp (show (p.1,p.2)∈_ from hm);refine hW (x:=tI ((wr us p.1).map λx=>p.2*x)) (y:=.lst (pv.map lO)) (hW rfl rfl (yN _ _ (hsg.one _ (au km.2.1)) ?_)) rfl (hf p hm).1;rw[DT us d p.1 km.1 hl];omega⟩) (by rw[<-hsd,aH];rfl)
 have fl:=GQ hP;obtain⟨ok1,ok2,ok3,ok4⟩:=hB.ok pv.length (nW pv d).length fl;have e8:=xv (c:=c) pv d (by omega) (by omega);obtain⟨ls,e9,hy,hbl⟩:=DU (c:=c) d (d+1+us.length) (Ns B pv.length) (by omega) (by omega) sd sdl sdr pv (by omega) (nW pv d) (by omega) (λa ha=>by have:=(nG.mp ha).1;omega) ok1;rw[hP.len] at hy;let Z:Nat->Prop:=λp=>∃q∈pv,q.1=p;have hZ:∀r∈sd,∀p,Z p->vc r p=0:=λr hr p ⟨q,hq,e⟩=>by rw[<-hsd] at hr;obtain⟨p',hp',rfl⟩:=aC.mp hr;rw[<-e];exact (hf2 p' hp').zer q hq
 have AY:∀p,p<d->Z p\/p∈nW pv d:=λp hp=>by
  by_cases q:Z p
  ·exact .inl q
  ·exact .inr (nG.mpr ⟨hp,λp' hp' e=>q ⟨p',hp',e⟩⟩)
 obtain⟨-,Gl,la1,la2,la3,la4⟩:=Jz hS hy [] rfl hS.g0 hS.gen0 Z hZ;let xs:Option W:=some (.p (.lst (sd.map tI)));let xq:Option W:=some (.p (.lst ((nW pv d).map λ(j:Nat)=>T.int (j:Int))));let xl:Option W:=some (.p (.lst (ls.map λg=>T.lst (g.map tI))));have Ra:∀{o:O},(f9 (mM (ig (fX gX (fL 9) (uG (λi=>.int (-i)) (cM (.int 1))))) (jF 10) (kZ c)) _) (R xf xn xp xs xq xl none)=o->lD c (ik 11 [.lst (us.map tI),.int (d:Int),tI sg])=o:=λ{o} h=>Ec (fT (ρ':=R xf xn none none none none none) (gh (hW (fR rfl rfl rfl) rfl e5) rfl) (fT (ρ':=R xf xn none none none none none) (gY (gx (fR rfl rfl rfl)) rfl) (fT (ρ':=R xf xn xp none none none none) (gh (fR rfl rfl rfl) rfl) (fT (ρ':=R xf xn xp xs none none none) (gh (iY lc2) rfl) (fT (ρ':=R xf xn xp xs xq none none) (gh (iY (OC rfl rfl e8)) rfl) (fT (ρ':=R xf xn xp xs xq xl none) (gh (iY (Cr rfl rfl rfl rfl e9)) rfl) h))))))
 have glast:ig (fX gX (fL 9) (uG (λi=>.int (-i)) (cM (.int 1)))) (nV (R xf xn xp xs xq xl none))=.ok (Gl.map tI):=by
  have e1:ls.map (λg=>T.lst (g.map tI))=(ls.dropLast.map λg=>T.lst (g.map tI))++[T.lst (Gl.map tI)]:=by
   have hne:ls≠[]:=λz=>by rw[z] at la2;cases la2
   have h1:=dg hne;have h2:ls.getLast hne=Gl:=by rw[List.getLast?_eq_getLast hne] at la2;exact Option.some.inj la2
   rw[h2] at h1;conv=>lhs;rw[<-h1]
   rw[aY];rfl
  have e2:fX gX (fL 9) (uG (λi=>.int (-i)) (cM (.int 1))) (nV (R xf xn xp xs xq xl none))=.ok (T.lst (Gl.map tI)):=fR (x:=.lst (ls.map λg=>T.lst (g.map tI))) (y:=.int (-1)) rfl rfl (by rw[e1];exact E4 _ _);unfold ig;rw[e2];rfl
 have gll:∀r∈Gl,r.length=d+1+us.length:=λr hr=>(la4 r hr).1;have main:=sS (m:=jF 10) (g:=kZ c) tI
  (λk ρ=>∃(x10:Option W),ρ=R xf xn xp xs xq xl x10/\∀r∈Gl.take k,vc r d<0)
  (λt=>∃r∈Gl,0<=vc r d/\t=.tup [.str "paper",tL (r.drop (d+1))]) Gl 0 _ ⟨none,rfl,λr h=>by simp at h⟩ (by
   rintro i r ρ hi ⟨x10,rfl,h⟩;rw[aF] at h ⊢;have hm:=au hi;have hix:gX (tI r) (.int (d:Int))=.ok (.int (vc r d)):=jT r d (by have:=gll r hm;omega);refine⟨_,rfl,?_⟩;by_cases h0:0<=vc r d
   ·right;exact⟨_,iw (gx (fR (fR rfl rfl hix) rfl (by rw[sP];simp[h0]))) (gB (oj rfl (Ey (rQ _ d rfl rfl)))),r,hm,h0,rfl⟩
   ·left;refine⟨_,gY (gx (fR (fR rfl rfl hix) rfl (by rw[sP];simp[h0]))) rfl,_,rfl,λr' hr'=>?_⟩;rw[jk _ i r hi] at hr';rcases ai.mp hr' with q | q
    ·exact h r' q
    ·rw[aj.mp q];omega)
 rcases main with⟨ρ,e,x10,rfl,h⟩ | ⟨t,e,r,hm,h0,rfl⟩
 ·right;rw[aF,du] at h;have n1:1<=Ns B pv.length:=aM hB.sml.b1 (cm _ _);obtain⟨s,p1,p2,p3,p4,p5,p6⟩:=uY (c:=c) hS (Ns B pv.length) n1 (by omega) hy (by omega) (λa ha=>(nG.mp ha).1) (B4 pv d) hbl Z hZ AY (λG hG r hr=>by rw[la2] at hG;cases hG;exact h r hr) ok2 V hB.v1 (hB.vs pv.length (nW pv d).length fl).1;obtain⟨s',q1,q2,q3,q4,q5,q6⟩:=FX (c:=c) d (Pq B pv.length+1) (d+1+us.length) (by omega) (by omega) (by omega) pv s p2 V p3 (λp hp=>by
   obtain⟨h1,h2,h3,h4,-⟩:=hP.pl p hp;exact⟨h1,h2,h3,λx hx=>(h4 x hx).mono (by omega)⟩) hP.pw (λp hp=>p5 p.1 (hP.pl p hp).1 λz=>(nG.mp z).2 p hp rfl) (λhne=>by
   have:pv.length≠0:=λz=>hne (eZ.mp z);have:=ok3 this;omega) (λhne=>by
   have:pv.length≠0:=λz=>hne (eZ.mp z);have:=(hB.vs pv.length (nW pv d).length fl).2 this;omega)
  refine⟨s',gS rfl (Ra (fT (jb glast e) (gB (oj rfl (hW (x:=.lst (pv.map lO)) rfl (iY (Ho rfl rfl (Qo d (by omega) rfl) p1)) q1))))),q2,q3,?_,λi v hi=>?_⟩
  ·have m1:pv.length*(Pq B pv.length+1+wts s+20)<=pv.length*(Pq B pv.length+Sb (Ns B pv.length) d (nW pv d).length (nW pv d).length+21):=eI _ (by omega);omega
  ·have il:i<us.length:=by rw[<-hsg.len];exact (aa.mp hi).1
   have ew':jX d (Xs s') (vc (wr us i))=jX d (Xs s') (vc (us.getD i [])):=GP λk hk=>by rw[Bh us d i il hl,aP (by omega)]
   rw[<-ew'];refine⟨λhv=>?_,λhv=>?_⟩
   ·subst hv;refine Qs.evl0 (λx hx=>?_) (hP.sp i (qH.mpr ⟨il,hi⟩));rcases hx with⟨p,hp,rfl⟩ | ⟨r,hr,rfl⟩
    ·exact q5 p hp
    ·rw[pQ (hP.rr r hr).2.1,hz r hr];simp
   ·have hm:(i,v)∈vD us.length sg:=o8.mpr ⟨il,hi,hv⟩;have S:=hf2 _ hm;obtain⟨g,s2,y,hg,hs2,hy',ey⟩:=S.ex;have y0:jX d (Xs s') y=0:=Qs.evl0 (λx ⟨p,hp,ex⟩=>by rw[ex];exact q5 p hp) hy';have rp:0<jX d (Xs s') (vc (f (i,v))):=by rw[q6 _ λp hp=>S.zer p hp];exact p6 _ (by rw[<-hsd];exact aC.mpr ⟨_,hm,rfl⟩)
    have l:=qE (d:=d) (X:=Xs s') (vc (wr us i)) y (vc (f (i,v))) g (s2*v) 1 (λj=>by rw[ey j];grind);rw[y0] at l;have a1:=dW (nS hg) rp;rw[l] at a1;have c1:((s2*v:Int):Rat)=(s2:Rat)*(v:Rat):=by simp
    rw[c1] at a1;have a2:=nS hs2;refine eV (c:=(s2:Rat)) ?_ (dZ a2);grind
 ·left;obtain⟨l4,t,ct,s,hs,e3⟩:=la4 r hm;have hix:∀i∈ix,i∈zer us.length sg:=hP.sub;subst hsd;refine⟨_,gS rfl (Ra (jW (jb glast e) rfl)),Nh hsg hix hf2 l4 ct hs e3 (λk hk=>la3 r hm k (AY k hk)) h0,λx hx=>?_⟩;exact ((hbl _ Gl la1 r hm).2 x (fw hx)).mono ok1
def GL(d B:Nat)(ns:List Int):Prop:=ns.length=d+1/\∀x∈ns,Bn B x
structure GC(d B:Nat)(ns:List Int):Prop where
 gl:GL d B ns
 re:∃p,p<d/\vc ns p≠0
theorem GL.mono{d B B':Nat}{ns:List Int}(h:GL d B ns)(hB:B<=B'):GL d B' ns:=⟨h.1,λx hx=>(h.2 x hx).mono hB⟩
theorem N3(ns:List Int)(k:Nat)(v:Int)(i:Nat)(hk:k<ns.length):vc (ns.set k v) i=if k=i then v else vc ns i:=by
 unfold vc;rw[af,List.getElem?_set];by_cases h:k=i
 ·subst h;rw[aP rfl,aP rfl,aP hk];rfl
 ·rw[aQ h,aQ h,<-af]
theorem Lh(n k:Nat)(h:k<n):xF n (k:Int)=some k:=by unfold xF;rw[aP (by omega),aP (by omega)];simp
theorem pT(n:Nat)(h:n<=1000){f:Pe->M T}{ρ:Pe}(hf:f ρ=.ok (.int (n:Int))):lK (fK f fP) ρ=.ok ((List.range n).map λ(i:Nat)=>T.int (i:Int)):=by have hr:G5 (n:Int)=true:=nE (by omega);rw[<-K4];simp[hf,hr]
def ke(a b:List Int):Bool:=(List.range a.length).all λk=>(List.range k).all λj=>vc a k*vc b j == vc a j*vc b k
theorem BY(n B:Nat)(a b:List Int)(ha:a.length=n)(hb:b.length=n)(hn:n<=10)(hB:B<=1000)(ba:∀x∈a,Bn B x)(bb:∀x∈b,Bn B x):lG c [tI a,tI b]=.ok (.bl (ke a b)):=by
 have sz:1000<sizeLine:=by decide
 have hout:=o6 (m:=jF 2) (g:=uD c) (λ(k:Nat)=>T.int (k:Int)) (λρ=>∃x2 x3,ρ=[some (.p (tI a)),some (.p (tI b)),x2,x3]) (λk=>(List.range k).all λj=>vc a k*vc b j == vc a j*vc b k) (.bl false) (List.range n) [some (.p (tI a)),some (.p (tI b)),none,none] ⟨none,none,rfl⟩ (by
  rintro k hk ρ ⟨x2,x3,rfl⟩;have hkn:=aR.mp hk;refine⟨_,rfl,?_⟩;have hin:=o6 (m:=jF 3) (g:=uy c) (λ(j:Nat)=>T.int (j:Int)) (λρ=>∃x3,ρ=[some (.p (tI a)),some (.p (tI b)),some (.p (.int (k:Int))),x3]) (λj=>vc a k*vc b j == vc a j*vc b k) (.bl false) (List.range k) [some (.p (tI a)),some (.p (tI b)),some (.p (.int (k:Int))),x3] ⟨x3,rfl⟩ (by
   rintro j hj ρ ⟨x3,rfl⟩;have hjk:=aR.mp hj;have i1:gX (tI a) (.int (k:Int))=.ok (.int (vc a k)):=jT a k (by omega);have i2:gX (tI b) (.int (j:Int))=.ok (.int (vc b j)):=jT b j (by omega);have i3:gX (tI a) (.int (j:Int))=.ok (.int (vc a j)):=jT a j (by omega);have i4:gX (tI b) (.int (k:Int))=.ok (.int (vc b k)):=jT b k (by omega);have m1:iJ (.int (vc a k)) (.int (vc b j))=.ok (.int (vc a k*vc b j)):=iu ((ba _ (lp a k (by omega))).ok (bb _ (lp b j (by omega))) (by omega) (by omega));have m2:iJ (.int (vc a j)) (.int (vc b k))=.ok (.int (vc a j*vc b k)):=iu ((ba _ (lp a j (by omega))).ok (bb _ (lp b k (by omega))) (by omega) (by omega));have hc:gO (fX (gD true) (fX iJ (fX gX (fL 0) (fL 2)) (fX gX (fL 1) (fL 3))) (fX iJ (fX gX (fL 0) (fL 3)) (fX gX (fL 1) (fL 2)))) (vw [some (.p (tI a)),some (.p (tI b)),some (.p (.int (k:Int))),some (.p (.int (j:Int)))])=.ok (!(vc a k*vc b j == vc a j*vc b k)):=gx (fR (fR (fR rfl rfl i1) (fR rfl rfl i2) m1) (fR (fR rfl rfl i3) (fR rfl rfl i4) m2) (l8 _ _))
   refine⟨_,rfl,λh=>⟨_,gY (hc.trans (by rw[h];rfl)) rfl,_,rfl⟩,λh=>iw (hc.trans (by rw[h];rfl)) (gB rfl)⟩)
  have hr:=pT (f:=fL 2) (ρ:=vw [some (.p (tI a)),some (.p (tI b)),some (.p (.int (k:Int))),x3]) k (by omega) rfl;refine⟨λh=>?_,λh=>n0 hr (hin.2 h)⟩;obtain⟨ρ',e,x3',rfl⟩:=hin.1 h;exact⟨_,n0 hr e,_,_,rfl⟩)
 have hr:=pT (f:=jq jy (fK (fL 0) fP)) (ρ:=vw (ik 4 [tI a,tI b])) n (by omega) (ou (t:=tI a) rfl (by simp[tI,ha]));have hs:ke a b=((List.range n).all λk=>(List.range k).all λj=>vc a k*vc b j == vc a j*vc b k):=by unfold ke;rw[ha]
 cases h:ke a b with
 | true=>obtain⟨ρ',e,x2,x3,rfl⟩:=hout.1 (by rw[<-hs];exact h);exact gS rfl (fT (n0 hr e) (gB rfl))
 | false=>exact gS rfl (jW (n0 hr (hout.2 (by rw[<-hs];exact h))) rfl)
theorem GC.mono{d B B':Nat}{ns:List Int}(h:GC d B ns)(hB:B<=B'):GC d B' ns:=⟨h.gl.mono hB,h.re⟩
theorem xw(a:List Int)(hl:a.length<=100)(h:∃p,p<a.length/\vc a p≠0):∃p:Nat,mI c [tI a]=.ok (.int (p:Int))/\p<a.length/\vc a p≠0:=by
 obtain⟨q,hq,hq0⟩:=h;obtain⟨ρ,e,p,rfl,hp1,hp2⟩:=nP (c:=gO (fX (gD false) (fX gX (fL 0) (fL 1)) (cM (.int 0)))) (g:=qq c)
  (λρ=>∃k:Nat,ρ=[some (.p (tI a)),some (.p (.int (k:Int)))]/\k<=q) (λρ=>match ρ with | _::some (.p (.int j))::_=>q - j.toNat | _=>0)
  (λρ=>∃k:Nat,ρ=[some (.p (tI a)),some (.p (.int (k:Int)))]/\k<a.length/\vc a k≠0) (by
   rintro ρ ⟨k,rfl,hk⟩;have i1:gX (tI a) (.int (k:Int))=.ok (.int (vc a k)):=jT a k (by omega);by_cases h0:vc a k=0
   ·have hne:k≠q:=λz=>hq0 (by rw[<-z];exact h0);refine .inr ⟨gx (fR (fR rfl rfl i1) rfl (by rw[iI,h0];rfl)),_,.inl (gh (t:=.int ((k+1:Nat):Int)) (fR rfl rfl (by rw[iU];simp)) rfl),⟨k+1,rfl,by omega⟩,?_⟩;show q - (((k+1:Nat):Int)).toNat<q - ((k:Int)).toNat;omega
   ·exact .inl ⟨gx (fR (fR rfl rfl i1) rfl (by rw[iI];simp[h0])),k,rfl,by omega,h0⟩)
  ((a.map T.int).length+1) [some (.p (tI a)),some (.p (.int ((0:Nat):Int)))] ⟨0,rfl,by omega⟩ (by show q - _<_;rw[aw];omega)
 exact⟨p,gS rfl (fT (gh (t:=.int 0) rfl rfl) (fT e (gB rfl))),hp1,hp2⟩
theorem xP(d B:Nat)(a b:List Int)(hd:d<=3)(hB:B<=1000)(ga:GC d B a)(gb:GL d B b)(h:ke a b=false):nv c [tI a,tI b]=.ok (.bl false):=by
 have sz:1000<sizeLine:=by decide
 have hal:=ga.gl.1;have hbl:=gb.1;obtain⟨q,hq,hq0⟩:=ga.re;obtain⟨p,ep,hp,hp0⟩:=xw (c:=c) a (by omega) ⟨q,by omega,hq0⟩;have i1:gX (tI b) (.int (p:Int))=.ok (.int (vc b p)):=jT b p (by omega);have i2:gX (tI a) (.int (p:Int))=.ok (.int (vc a p)):=jT a p hp;have e1:jJ [none,none,some 1,some 2,some 0] (mX (fK (fL 0) (fK (fL 1) fP))) (o4 2 (i8 (jo 0) (i8 (jo 1) o7))) (λ_=>.ok true) (qV c) (vw [some (.p (tI a)),some (.p (tI b)),some (.p (.int (p:Int)))])=.ok (((a.zip b).map λx=>x.1*vc b p == x.2*vc a p).map T.bl):=jv (a.zip b) (λx=>T.tup [.int x.1,.int x.2]) (λx=>T.bl (x.1*vc b p == x.2*vc a p)) (oo rfl rfl rfl rfl) (by rw[fv];omega) (λx hx=>⟨_,rfl,rfl,by have h1:=ga.gl.2 _ (aV hx).1;have h2:=gb.2 _ (aV hx).2;have h3:=gb.2 _ (lp b p (by omega));have h4:=ga.gl.2 _ (lp a p hp);exact fR (fR rfl (fR rfl rfl i1) (iu (h1.ok h3 (by omega) (by omega)))) (fR rfl (fR rfl rfl i2) (iu (h2.ok h4 (by omega) (by omega)))) (iI _ _)⟩) (by rw[aH];rfl)
 refine gS rfl (fT (gh (t:=.int (p:Int)) (rh rfl ep) rfl) (gB (nM e1 ?_)));rw[qI];congr 2;cases AY:((a.zip b).map λx=>x.1*vc b p == x.2*vc a p).all id with
 | false=>rfl
 | true=>
  exfalso;rw[cy] at AY;have hpar:C4.Par a b:=C4.par_of_place hp0 λi hi=>by
   have hz:(a.zip b)[i]? = some (a[i],b[i]'(by omega)):=by rw[List.getElem?_zip_eq_some];exact⟨ag hi,ag (by omega)⟩
   have:=AY _ (aC.mpr ⟨_,au hz,rfl⟩);have h':a[i]*vc b p=(b[i]'(by omega))*vc a p:=by simpa using this
   show vc a i*vc b p=vc b i*vc a p;rw[sM a i hi,sM b i (by omega)];exact h'
  have:ke a b=true:=by unfold ke;refine cy.mpr λk hk=>cy.mpr λj hj=>?_;have hk':=aR.mp hk;have hj':=aR.mp hj;have:=hpar k j hk' (by omega);simpa[vc] using this
  rw[h] at this;cases this
structure zd(d B:Nat)(cs:List (List Int)):Prop where
 gc:∀f∈cs,GC d B f
 few:cs.length<=7
 pw:cs.Pairwise λa b=>ke a b=false
theorem HB{d B:Nat}{ns:List Int}(h:GC d B ns):rq d (tI ns)=true:=by
 obtain⟨p,hp,hp0⟩:=h.re;have hl:=h.gl.1;unfold tI rq;have h1:(ns.map T.int).length=d+1:=by simp[hl]
 have h2:(ns.map T.int).all isInt=true:=cy.mpr λx hx=>by obtain⟨y,-,rfl⟩:=aC.mp hx;rfl
 show (decide ((ns.map T.int).length=d+1)&&(ns.map T.int).all isInt&&(match kC (ns.map T.int) with | some ns=>(ns.take d).any (· != 0) | none=>false))=true;rw[aB h1,h2,BQ];show (ns.take d).any (· != 0)=true;refine fz.mpr ⟨vc ns p,?_,by simpa using hp0⟩;rw[sM ns p (by omega)];refine au (i:=p) ?_;rw[List.getElem?_take,aP hp,ag (by omega)]
theorem AJ(d B:Nat)(ah:List (List Int))(ns:List Int)(hd:1<=d/\d<=3)(hB:B<=1000)(hl:ah.length<7)(ha:∀f∈ah,GC d B f)(hn:GC d B ns)(hs:∀f∈ah,ke f ns=false):mU c [.int d,.lst (ah.map tI),tI ns]=.ok (.bl true):=by
 have sz:1000<sizeLine:=by decide
 have ic:=Fw (c:=c) d (by omega) (tI ns) rfl λts e=>by cases e;refine⟨by rw[aw,hn.gl.1];omega,λt ht=>by obtain⟨y,-,rfl⟩:=aC.mp ht;rfl⟩
 rw[HB hn] at ic;have e1:jJ [none,some 2] (ig (fL 1)) (jo 0) (λ_=>.ok true) (oU c) (vw (ik 3 [.int d,.lst (ah.map tI),tI ns]))=.ok ((ah.map λ_=>false).map T.bl):=jv ah tI (λ_=>T.bl false) rfl (by omega) (λf hf=>⟨_,rfl,rfl,hW rfl rfl (xP (c:=c) d B f ns hd.2 hB (ha f hf) hn.gl (hs f hf))⟩) (by rw[aH];rfl)
 have q1:gO (fX M5 (jq jy (fK (fL 1) fP)) (cM (.int 7))) (vw (ik 3 [.int d,.lst (ah.map tI),tI ns]))=.ok false:=gx (fR (x:=.int (ah.length:Int)) (ou (t:=.lst (ah.map tI)) rfl (by simp)) rfl (by rw[sP];congr 2;exact aA (by omega)))
 have q2:gO (fW (fK (fL 0) (fK (fL 2) fP)) (qu c)) (vw (ik 3 [.int d,.lst (ah.map tI),tI ns]))=.ok true:=gx (hW rfl rfl ic);refine gS rfl (fT (gY ?_ rfl) (gB ?_))
 ·simp only[L3.qg,L3.kh,q1,q2,M.bind_ok];rfl
 ·have q3:jq C5 (fK (iO (jJ [none,some 2] (ig (fL 1)) (jo 0) (λ_=>.ok true) (oU c))) fP) (vw (ik 3 [.int d,.lst (ah.map tI),tI ns]))=.ok (.bl false):=by
   refine nM e1 ?_;rw[EY];congr 2;induction ah with
   | nil=>rfl
   | cons a l ih=>simp
  have q4:=gx q3;simp only[FC,q4,M.bind_ok];rfl
theorem CN(d B:Nat)(cs:List (List Int))(hd:1<=d/\d<=3)(hB:B<=1000)(h:zd d B cs):ku c [.int d,.lst (cs.map tI)]=.ok (.tup (cs.map tI)):=by
 have sz:1000<sizeLine:=by decide
 have hf:=h.few;obtain⟨ρ,e,x3,rfl⟩:=iH (m:=jF 3) (g:=pL c) tI
  (λk ρ=>∃x3:Option W,ρ=[some (.p (.int d)),some (.p (.lst (cs.map tI))),some (.o ((cs.take k).map tI)),x3])
  cs 0 _ ⟨none,rfl⟩ (by
   rintro k ns ρ hi ⟨x3,rfl⟩;rw[aF];have hkl:k<cs.length:=(aa.mp hi).1;have hst:=AJ (c:=c) d B (cs.take k) ns hd hB (by rw[bM];omega) (λf hf=>h.gc f (fC hf)) (h.gc ns (au hi)) λf hf=>by have hp:=h.pw;rw[<-List.take_append_drop k cs,eO] at hp;refine hp.2.2 f hf ns ?_;refine au (i:=0) ?_;rw[List.getElem?_drop,Nat.add_zero];exact hi
   have q:gO (fW (fK (fL 0) (fK (fL 2) (fK (fL 3) fP))) (mU c)) (vw [some (.p (.int d)),some (.p (.lst (cs.map tI))),some (.o ((cs.take k).map tI)),some (.p (tI ns))])=.ok true:=gx (lg (y:=.lst ((cs.take k).map tI)) (z:=tI ns) rfl rfl rfl hst);refine⟨_,_,rfl,.inl (fT (gY (AF q rfl) rfl) (tG (us:=(cs.take k).map tI) (t:=tI ns) rfl (ou (t:=tI ns) rfl rfl) (by rw[aw,bM];omega) rfl)),some (.p (tI ns)),?_⟩;rw[jk cs k ns hi,aY];rfl)
 rw[aF,du] at e;have q1:gO (fW (fK (fL 0) fP) (oA c)) (vw (ik 4 [.int d,.lst (cs.map tI)]))=.ok true:=gx (rh rfl (DP d hd));have q2:gO (oq "list" (fL 1)) (vw (ik 4 [.int d,.lst (cs.map tI)]))=.ok true:=rfl;refine gS rfl (fT (gY ?_ rfl) (fT (mm (ts:=[]) (by simp) rfl) (fT (jb rfl e) (gB rfl))));simp only[L3.qg,L3.kh,q1,q2,M.bind_ok];rfl
def kY(c:Cs)(d:Nat)(cs:List (List Int)):T:=.obj c.Cutting [("own_cuts",.tup (cs.map tI)),("own_dims",.int d)]
theorem vJ(d B:Nat)(cs:List (List Int))(hd:1<=d/\d<=3)(hB:B<=1000)(h:zd d B cs):jc c [.int d,.lst (cs.map tI)]=.ok (kY c d cs):=by have e:=CN (c:=c) d B cs hd hB h;have q:fW (fK (fL 1) (fK (fL 2) fP)) (ku c) (none::[T.int d,.lst (cs.map tI)].map some)=.ok (.tup (cs.map tI)):=hW rfl rfl e;unfold jc BD;rw[aP (show [T.int (d:Int),T.lst (cs.map tI)].length=2 from rfl),q];rfl
theorem Di{C:Addr}{x:Str}{fs:List (Str×T)}{t:T}{f:Pe->M T}{ρ:Pe}(h:f ρ=.ok (.obj C fs))(hl:fs.lookup x=some t):A2 C x f ρ=.ok t:=by unfold A2;rw[h,M.bind_ok];show (if C=C then (match fs.lookup x with | some t=>M.ok t | none=>.bad) else .bad)=_;rw[aP rfl,hl]
theorem L4(d:Nat)(cs:List (List Int)){f:Pe->M T}{ρ:Pe}(hf:f ρ=.ok (kY c d cs)):uI c.Cutting "dims" f fP (kG c) ρ=.ok (.int d):=by
 have h1:sZ c.Cutting "dims" (kY c d cs)=.ok ():=by unfold sZ kY;exact aP ⟨rfl,rfl⟩
 have h2:kG c [kY c d cs]=.ok (.int d):=gS rfl (gB (Di (C:=c.Cutting) (x:= "own_dims") (fs:=[("own_cuts",.tup (cs.map tI)),("own_dims",.int d)]) rfl rfl));simp only[uI,hf,M.bind_ok,h1,fP,h2,M.noEr_ok]
theorem KO(d:Nat)(cs:List (List Int)){f:Pe->M T}{ρ:Pe}(hf:f ρ=.ok (kY c d cs)):wa c.Cutting "cuts" f fP (ky c) ρ=.ok (cs.map tI):=by
 have h1:sZ c.Cutting "cuts" (kY c d cs)=.ok ():=by unfold sZ kY;exact aP ⟨rfl,rfl⟩
 have h2:ky c [kY c d cs]=.ok (cs.map tI):=qi rfl (AB (by have:A2 c.Cutting "own_cuts" (fL 0) (vw (ik 1 [kY c d cs]))=.ok (.tup (cs.map tI)):=Di (C:=c.Cutting) (x:= "own_cuts") (fs:=[("own_cuts",.tup (cs.map tI)),("own_dims",.int d)]) rfl rfl;simp only[Fi,fK,fP,this,M.bind_ok];rfl))
 simp only[wa,hf,M.bind_ok,h1,fP,h2,M.noEr_ok]
theorem RG{ρ:Pe}{f g h:Pe->M T}{a b e:T}(h1:f ρ=.ok a)(h2:g ρ=.ok b)(h3:h ρ=.ok e):jO (fK f (fK g (fK h fP))) ρ=.ok (.tup [a,b,e]):=by
 have hz:3<=sizeLine:=by decide
 simp only[jO,fK,fP,h1,h2,h3,M.bind_ok,AH,ay,cA,hz,if_true]
theorem ND(w:Int){f:Pe->M T}{ρ:Pe}(h:f ρ=.ok (.int w)):fX sU (jq wd (fK (fX A3 f (cM (.int 0))) fP)) (jq wd (fK (fX Cq f (cM (.int 0))) fP)) ρ=.ok (.int (qt w)):=by
 unfold qt;by_cases h1:0<w
 ·have h2:¬w<0:=by omega
  simp[h,h1,h2]
 ·by_cases h2:w<0
  ·simp[h,h1,h2]
  ·simp[h,h1,h2]
theorem zZ{d:Nat}{ns:List Int}{v:Int}(hl:ns.length=d)(hb:∀x∈ns,Bn 84 x)(hv:Bn 84 v)(hr:∃p,p<d/\vc ns p≠0):GC d 84 (ns++[v]):=by
 refine⟨⟨by simp[hl],λx hx=>?_⟩,?_⟩
 ·rcases ai.mp hx with q | q
  ·exact hb x q
  ·rw[aj.mp q];exact hv
 ·obtain⟨p,hp,h⟩:=hr;refine⟨p,hp,?_⟩;unfold vc at *;rw[af,List.getElem?_append_left (by omega),<-af];exact h
theorem LL{d:Nat}{ns:List Int}(hl:ns.length=d)(h:ns≠List.replicate d 0):∃p,p<d/\vc ns p≠0:=by
 refine aN λhc=>h (fE.mpr ⟨hl,λb hb=>?_⟩);obtain⟨i,hi⟩:=List.getElem?_of_mem hb;have hil:i<d:=by have:=(aa.mp hi).1;omega
 refine aN λhb0=>hc ⟨i,hil,?_⟩;unfold vc;rw[af,hi];exact hb0
theorem Pc(ns:List Int)(hb:∀x∈ns,x.natAbs<=3):(((ns.zip [1,2,(-1:Int)]).map λ(p:Int×Int)=>p.1*p.2).sum).natAbs<=1000:=by
 match ns,hb with
 | [],_=>simp
 | [a],b1=>have:=b1 a (by simp);show ((a*1+0).natAbs)<=1000;omega
 | [a,b],b1=>have h1:=b1 a (by simp);have h2:=b1 b (by simp);show ((a*1+(b*2+0)).natAbs)<=1000;omega
 | a::b::e::l,b1=>
  have h1:=b1 a (by simp);have h2:=b1 b (by simp);have h3:=b1 e (by simp);have:((a::b::e::l).zip [1,2,(-1:Int)])=[(a,1),(b,2),(e,-1)]:=by cases l<;>rfl
  rw[this];show ((a*1+(b*2+(e * -1+0))).natAbs)<=1000;omega
theorem Dj(cell:Int)(d:Nat)(fs:List (List Int))(hd:1<=d/\d<=3)(hf:∀f∈fs,GC d 84 f)(hfl:fs.length<=10) :
  ∃ns,uf c [.int cell,.int d,.lst (fs.map tI)]=.ok (tI ns)/\GC d 84 ns:=by
 have sz:1000<sizeLine:=by decide
 let ns0:List Int:=(List.range d).map λ(j:Nat)=>dr c cell j 7 - 3;have l0:ns0.length=d:=by simp[ns0]
 have b0:∀x∈ns0,x.natAbs<=3:=λx hx=>by obtain⟨j,hj,rfl⟩:=aC.mp hx;have hj':=aR.mp hj;obtain⟨_,a1,a2⟩:=kc (c:=c) cell j 7 (by omega) (by omega) (by omega) (by omega);omega
 obtain⟨d6,d6a,d6b⟩:=kc (c:=c) cell 6 9 (by decide) (by decide) (by omega) (by omega);obtain⟨d7,d7a,d7b⟩:=kc (c:=c) cell 7 7 (by decide) (by decide) (by omega) (by omega);generalize dr c cell 6 9=c0 at d6 d6a d6b;generalize dr c cell 7 7=way at d7 d7a d7b;let St:List Int->Option W->Option W->Option W->En:=λns x4 x5 x6=>[some (.p (.int cell)),some (.p (.int d)),some (.p (.lst (fs.map tI))),some (.o (ns.map T.int)),x4,x5,x6];have e0:jJ [none,some 0] (lK (fK (fL 1) fP)) (jo 0) (λ_=>.ok true) (wV c) (nV [some (.p (.int cell)),some (.p (.int d)),some (.p (.lst (fs.map tI))),none,none,none,none])=.ok (ns0.map T.int):=by refine jv (List.range d) (λ(j:Nat)=>T.int (j:Int)) (λ(j:Nat)=>T.int (dr c cell j 7 - 3)) (pT d (by omega) rfl) (by simp;omega) (λj hj=>⟨_,rfl,rfl,?_⟩) (by rw[aH];rfl);have hj':=aR.mp hj;obtain⟨e,_,_⟩:=kc (c:=c) cell j 7 (by omega) (by omega) (by omega) (by omega);exact fR (lg rfl rfl rfl e) rfl (oO _ _)
 obtain⟨ns1,e1,l1,b1,r1⟩:∃ns1,(kg (gO (fX (gD false) (fL 3) (iO (uS (iO (lstM (fK (cM (.int 0)) fP))) (fL 1))))) (uM 3 (m8 (fW (fK (fL 0) (fK (cM (.int 4)) (fK (fL 1) fP))) (gz c))) (m8 (fX iV (cM (.int 1)) (fW (fK (fL 0) (fK (cM (.int 5)) (fK (cM (.int 3)) fP))) (gz c))))) gQ) (St ns0 none none none)=.nx (St ns1 none none none)/\ns1.length=d/\(∀x∈ns1,x.natAbs<=3)/\∃p,p<d/\vc ns1 p≠0:=by
  have ec:gO (fX (gD false) (fL 3) (iO (uS (iO (lstM (fK (cM (.int 0)) fP))) (fL 1)))) (vw (St ns0 none none none))=.ok (decide (ns0=List.replicate d 0)):=gx (fR (x:=.lst (ns0.map T.int)) (y:=.lst ((List.replicate d (0:Int)).map T.int)) rfl (JP d (by omega) rfl) (by rw[C7];rfl))
  by_cases hz:ns0=List.replicate d 0
  ·obtain⟨d4,d4a,d4b⟩:=kc (c:=c) cell 4 d (by omega) (by omega) (by omega) (by omega);obtain⟨d5,d5a,d5b⟩:=kc (c:=c) cell 5 3 (by omega) (by omega) (by omega) (by omega);obtain⟨p,hp⟩:∃p:Nat,dr c cell 4 d=(p:Int):=⟨(dr c cell 4 d).toNat,by omega⟩;rw[hp] at d4 d4b;refine⟨ns0.set p (1+dr c cell 5 3),iw (by rw[ec,aB hz]) (AL (us:=ns0.map T.int) (t:=.int (1+dr c cell 5 3)) (j:=(p:Int)) (m:=p) rfl (fR rfl (lg rfl rfl rfl d5) (iU _ _)) rfl (lg rfl rfl rfl d4) (Lh _ _ (by rw[aw];omega)) ?_),by rw[bT];exact l0,λx hx=>?_,p,by omega,?_⟩
   ·simp only[St,dF];rfl
   ·rcases eK hx with q | q
    ·exact b0 x q
    ·rw[q];omega
   ·rw[N3 _ _ _ _ (by omega),aP rfl];omega
  ·exact⟨ns0,gY (by rw[ec,aA hz]) rfl,l0,b0,LL l0 hz⟩
 have sm84:∀x:Int,x.natAbs<=1000->Bn 84 x:=λx hx=>Bn.mono (m:=10) (by unfold Bn;omega) (by decide);have hfe:∀neg,gD neg (.lst (fs.map tI)) (.lst [])=.ok (.bl (if neg then !fs.isEmpty else fs.isEmpty)):=λneg=>by rw[Am neg (fs.map tI) (by simp) (aM (Bj fs) (by decide))];simp
 let x4:Int->Option W:=λv=>some (.p (.int v));let x5:Option W:=some (.p (.int way));have Ec:∀{o:O},(f9 (kg (kf (gO (fX (gD false) (fL 5) (cM (.int 1)))) (gO (fX (gD true) (fL 2) (iO (lstM fP))))) (mV 3 (nU (Fi m7 (fK (oP (fX gX (fL 2) (fW (fK (fL 0) (fK (cM (.int 8)) (fK (jq jy (fK (fL 2) fP)) fP))) (gz c))) (λ_=>.ok none) (lb (fL 1))) fP)))) gQ) _) (St ns1 (x4 (c0 - 4)) x5 none)=o->zb c (ik 7 [.int cell,.int d,.lst (fs.map tI)])=o:=λ{o} h=>fT (ρ':=St ns0 none none none) (mm e0 rfl) (fT (ρ':=St ns1 none none none) e1 (fT (ρ':=St ns1 (x4 (c0 - 4)) none none) (gh (fR (lg rfl rfl rfl d6) rfl (oO _ _)) rfl) (fT (ρ':=St ns1 (x4 (c0 - 4)) x5 none) (gh (lg rfl rfl rfl d7) rfl) h)))
 have q1:gO (fX (gD false) (fL 5) (cM (.int 1))) (vw (St ns1 (x4 (c0 - 4)) x5 none))=.ok (way == 1):=gx (fR (x:=.int way) rfl rfl (iI _ _));have q2:gO (fX (gD true) (fL 2) (iO (lstM fP))) (vw (St ns1 (x4 (c0 - 4)) x5 none))=.ok (!fs.isEmpty):=gx (fR (x:=.lst (fs.map tI)) (y:=.lst []) rfl (by simp) (by rw[hfe];rfl));have wq:∀(ns:List Int) (v k:Int) x6,gO (fX (gD false) (fL 5) (cM (.int k))) (vw (St ns (x4 v) x5 x6))=.ok (way == k):=λns v k x6=>gx (fR (x:=.int way) rfl rfl (iI _ _));have retq:∀(ns:List Int) (v:Int) x6,ns.length=d->hU (jq i9 (fK (iO (Ck (fL 3) (iO (lstM (fK (fL 4) fP))))) fP)) (St ns (x4 v) x5 x6)=.rt (tI (ns++[v])):=λns v x6 hl=>gB (ou (t:=.lst (ns.map T.int++[.int v])) (iY (Ae (a:=ns.map T.int) (b:=[.int v]) rfl (Ie rfl) (by simp;omega))) (by simp[tI]))
 have or23:∀(ns:List Int) (v:Int) x6,(L3.qg (gO (fX (gD false) (fL 5) (cM (.int 2)))) (gO (fX (gD false) (fL 5) (cM (.int 3))))) (vw (St ns (x4 v) x5 x6))=.ok (way == 2||way == 3):=λns v x6=>by simp only[L3.qg,wq,M.bind_ok];cases way == 2<;>rfl
 have noA:¬(way=1/\fs≠[])->(L3.kf (gO (fX (gD false) (fL 5) (cM (.int 1)))) (gO (fX (gD true) (fL 2) (iO (lstM fP))))) (vw (St ns1 (x4 (c0 - 4)) x5 none))=.ok false:=λhc=>by
  simp only[L3.kf,q1,q2,M.bind_ok];by_cases h1:way=1
  ·have hn:fs=[]:=by
    by_cases hn:fs=[]
    ·exact hn
    ·exact absurd ⟨h1,hn⟩ hc
   rw[h1,hn];rfl
  ·have:(way == 1)=false:=by simpa using h1
   rw[this];rfl
 by_cases hA:way=1/\fs≠[]
 ·obtain⟨h1,hne⟩:=hA;have hlp:0<fs.length:=List.length_pos_iff.mpr hne;obtain⟨d3,d3a,d3b⟩:=kc (c:=c) cell 8 fs.length (by omega) (by omega) (by omega) (by omega);obtain⟨f,ef,hfm⟩:=xg fs (dr c cell 8 fs.length) d3a d3b;have gf:=hf f hfm;have tl:(f.take d).length=d:=by rw[bM,gf.gl.1];omega
  have nd:∀k:Int,k≠1->(way == k)=false:=λk hk=>by simp[h1];omega
  refine⟨f.take d++[c0 - 4],gS rfl (Ec (fT (ρ':=St (f.take d) (x4 (c0 - 4)) x5 none) (iw ?_ (mm (ts:=(f.take d).map T.int) ?_ rfl)) (fT (gY (by rw[or23,nd 2 (by decide),nd 3 (by decide)];rfl) rfl) (fT (gY (by rw[wq,nd 4 (by decide)]) rfl) (retq _ _ _ tl))))),zZ tl (λx hx=>gf.gl.2 x (fC hx)) (sm84 _ (by omega)) ?_⟩
  ·simp only[L3.kf,q1,q2,M.bind_ok];rw[h1];simp[hne]
  ·have:=Bc (fe:=fX gX (fL 2) (fW (fK (fL 0) (fK (cM (.int 8)) (fK (jq jy (fK (fL 2) fP)) fP))) (gz c))) (fd:=fL 1) (d:=d) (ts:=f.map T.int) (ρ:=nV (St ns1 (x4 (c0 - 4)) x5 none)) (fR (x:=.lst (fs.map tI)) (y:=.int (dr c cell 8 fs.length)) rfl (lg (z:=.int (fs.length:Int)) rfl rfl (ou rfl (by simp)) d3) (by simp[o9,ef,tI])) rfl (by rw[aw,gf.gl.1];omega);simp only[Fi,fK,fP,this,M.bind_ok];rw[cW];rfl
  ·obtain⟨p,hp,h⟩:=gf.re;refine⟨p,hp,?_⟩;unfold vc at *;rw[af,List.getElem?_take,aP hp,<-af];exact h
 ·have b84:∀x∈ns1,Bn 84 x:=λx hx=>sm84 x (by have:=b1 x hx;omega);by_cases h23:way=2\/way=3
  ·have t23:(way == 2||way == 3)=true:=by rcases h23 with h | h<;>rw[h]<;>rfl
   have n4:(way == 4)=false:=by rcases h23 with h | h<;>rw[h]<;>rfl
   let v:Int:=((ns1.zip [1,2,-1]).map λp=>p.1*p.2).sum;have ez:jJ [none,none] (mX (fK (fL 3) (fK (iO (lstM (fK (cM (.int 1)) (fK (cM (.int 2)) (fK (uG (λi=>.int (-i)) (cM (.int 1))) fP))))) fP))) (o4 2 (i8 (jo 0) (i8 (jo 1) o7))) (λ_=>.ok true) (wU c) (vw (St ns1 (x4 (c0 - 4)) x5 none))=.ok (((ns1.zip [1,2,-1]).map λp=>p.1*p.2).map T.int):=jv (ns1.zip [1,2,-1]) (λp=>T.tup [.int p.1,.int p.2]) (λp=>T.int (p.1*p.2)) (oo (x:=.lst (ns1.map T.int)) (y:=.lst ([1,2,-1].map T.int)) rfl rfl (iY rfl) rfl) (by rw[fv];omega) (λp hp=>⟨_,rfl,rfl,fR rfl rfl (jM (by have:=b1 _ (aV hp).1;omega))⟩) (by rw[aH];rfl)
   have vb:v.natAbs<=1000:=Pc ns1 b1;exact⟨ns1++[v],gS rfl (Ec (fT (gY (noA hA) rfl) (fT (ρ':=St ns1 (x4 v) x5 none) (iw (by rw[or23,t23]) (sG (nM ez (Hf _)) rfl rfl)) (fT (gY (by rw[wq,n4]) rfl) (retq _ _ _ l1))))),zZ l1 b84 (sm84 _ vb) r1⟩
  ·have f23:(way == 2||way == 3)=false:=by have h2:¬way=2:=λz=>h23 (.inl z);have h3:¬way=3:=λz=>h23 (.inr z);simp[h2,h3]
   by_cases h4:way=4
   ·obtain⟨d9,d9a,d9b⟩:=kc (c:=c) cell 9 1000000 (by decide) (by decide) (by omega) (by omega);obtain⟨d11,d11a,d11b⟩:=kc (c:=c) cell 11 3 (by decide) (by decide) (by omega) (by omega);obtain⟨d10,d10a,d10b⟩:=kc (c:=c) cell 10 7 (by decide) (by decide) (by omega) (by omega);obtain⟨w,ew,hw⟩:=KF [1,1,1000000000000000000] (dr c cell 11 3) d11a (by simpa using d11b);have e18:rS (.int 10) (.int 18)=.ok (.int 1000000000000000000):=by simp[rS,lJ]
    have e6:rS (.int 10) (.int 6)=.ok (.int 1000000):=by simp[rS,lJ]
    generalize dr c cell 9 1000000=f0 at d9 d9a d9b;generalize dr c cell 10 7=g0 at d10 d10a d10b;let far:Int:=(1+f0)*w;have hw':1<=w/\w<=1000000000000000000:=by simp only[aE,cV,or_false] at hw;omega
    have hfar:far.natAbs<=1000000*1000000000000000000:=by show ((1+f0)*w).natAbs<=_;rw[aX];exact eQ (by omega) (by omega)
    have hfar1:1<=far:=by have:0<(1+f0)*w:=aW (by omega) (by omega);show 1<=(1+f0)*w;omega
    have hl3:iO (lstM (fK (cM (.int 1)) (fK (cM (.int 1)) (fK (fX rS (cM (.int 10)) (cM (.int 18))) fP)))) (nV (St ns1 (x4 (c0 - 4)) x5 none))=.ok (.lst ([1,1,1000000000000000000].map T.int)):=by
     have o:fX rS (cM (.int 10)) (cM (.int 18)) (nV (St ns1 (x4 (c0 - 4)) x5 none))=.ok (.int 1000000000000000000):=fR rfl rfl e18;have h3:3<=sizeLine:=by decide
     simp only[iO,lstM,fK,fP,cM,o,M.bind_ok];rfl
    let ns2:List Int:=ns1.map λx=>x*far;have es:jJ [none,some 6] (ig (fL 3)) (jo 0) (λ_=>.ok true) (wQ c) (vw (St ns1 (x4 (c0 - 4)) x5 (some (.p (.int far)))))=.ok (ns2.map T.int):=jv ns1 T.int (λx=>T.int (x*far)) rfl (by omega) (λx hx=>⟨_,rfl,rfl,fR rfl rfl (jM (by have:=b1 x hx;omega))⟩) (by rw[aH];rfl)
    refine⟨ns2++[(c0 - 4)*far+g0],gS rfl (Ec (fT (gY (noA hA) rfl) (fT (gY (by rw[or23,f23]) rfl) (fT (ρ':=St ns2 (x4 ((c0 - 4)*far+g0)) x5 (some (.p (.int far)))) (iw (by rw[wq,h4];rfl) (fT (ρ':=St ns1 (x4 (c0 - 4)) x5 (some (.p (.int far)))) (gh (fR (fR rfl (lg (z:=.int 1000000) rfl rfl (fR rfl rfl e6) d9) (iU _ _)) (fR (x:=.lst ([1,1,1000000000000000000].map T.int)) (y:=.int (dr c cell 11 3)) hl3 (lg rfl rfl rfl d11) ew) (jM (by omega))) rfl) (fT (ρ':=St ns2 (x4 (c0 - 4)) x5 (some (.p (.int far)))) (Lm es (Ib _) rfl) (gh (fR (fR rfl rfl (jM (by omega))) (lg rfl rfl rfl d10) (iU _ _)) rfl)))) (retq _ _ _ (by simp[ns2,l1])))))),zZ (by simp[ns2,l1]) (λx hx=>?_) ?_ ?_⟩
    ·obtain⟨y,hy,rfl⟩:=aC.mp hx;have:=b1 y hy;unfold Bn;rw[aX];refine b7 (eQ this hfar) (by decide)
    ·unfold Bn;have h1:((c0 - 4)*far).natAbs<=5*(1000000*1000000000000000000):=by rw[aX];exact eQ (by omega) hfar
     have h2:=c8 ((c0 - 4)*far) g0;refine b7 (aM h2 (Nat.add_le_add h1 (show g0.natAbs<=7 by omega))) (by decide)
    ·obtain⟨p,hp,h⟩:=r1;refine⟨p,hp,?_⟩;have:vc ns2 p=vc ns1 p*far:=by unfold vc;rw[af,af,av];cases ns1[p]?<;>simp
     rw[this];exact dU h (by omega)
   ·exact⟨ns1++[c0 - 4],gS rfl (Ec (fT (gY (noA hA) rfl) (fT (gY (by rw[or23,f23]) rfl) (fT (gY (by rw[wq];simp[h4]) rfl) (retq _ _ _ l1))))),zZ l1 b84 (sm84 _ (by omega)) r1⟩
theorem wK{a b:List Int}(h:a.length=b.length):ke a b=ke b a:=by
 unfold ke;rw[h];congr 1;funext k;congr 1;funext j;rw[cP (vc a k),cP (vc a j)];by_cases q:vc b j*vc a k=vc b k*vc a j
 ·rw[beq_iff_eq.mpr q,beq_iff_eq.mpr q.symm]
 ·rw[beq_eq_false_iff_ne.mpr q,beq_eq_false_iff_ne.mpr λz=>q z.symm]
theorem Bz(ns:List Int)(k0 d many:Nat)(hd:1<=d/\d<=3)(hm:many<=7):∃cs:List (List Int),wo c [.scr ns,.int k0,.int d,.int many]=.ok (cs.map tI)/\zd d 84 cs/\cs.length<=many:=by
 have sz:1000<sizeLine:=by decide
 obtain⟨ρ,e,cs,x5,x6,rfl,hl,hg,hp⟩:=iH (m:=jF 5) (g:=uF c) (λ(i:Nat)=>T.int (i:Int))
  (λk ρ=>∃(cs:List (List Int)) (x5 x6:Option W),ρ=[some (.p (.scr ns)),some (.p (.int k0)),some (.p (.int d)),some (.p (.int many)),some (.o (cs.map tI)),x5,x6]/\cs.length<=k/\(∀f∈cs,GC d 84 f)/\cs.Pairwise λa b=>ke a b=false)
  (List.range many) 0 _ ⟨[],none,none,rfl,aJ _,(λf hf=>nomatch hf),List.Pairwise.nil⟩ (by
   rintro i k ρ hi ⟨cs,x5,x6,rfl,hl,hg,hp⟩;rw[aF] at hl ⊢;have hin:i<many:=by simpa using (aa.mp hi).1
   have hki:k=i:=by rw[List.getElem?_range hin] at hi;cases hi;rfl
   subst hki;obtain⟨v,ev,-⟩:=pA (c:=c) ns (k0+k);obtain⟨nx,en,gn⟩:=Dj (c:=c) v d cs hd hg (by omega);let R:En:=[some (.p (.scr ns)),some (.p (.int k0)),some (.p (.int d)),some (.p (.int many)),some (.o (cs.map tI)),some (.p (.int (k:Int))),some (.p (tI nx))];have e1:jJ [none,some 6] (ig (fL 4)) (jo 0) (gO (fW (fK (fL 1) (fK (fL 0) fP)) (lG c))) (pU c) (vw R)=.ok ((cs.filter λf=>ke nx f).map tI):=pj cs tI tI (λf=>ke nx f) rfl (by omega) (λf hf=>⟨_,rfl,gx (hW rfl rfl (BY (c:=c) (d+1) 84 nx f gn.gl.1 (hg f hf).gl.1 (by omega) (by omega) gn.gl.2 (hg f hf).gl.2)),λ_=>rfl⟩) rfl
   have hc:gO (fX (gD false) (iO (jJ [none,some 6] (ig (fL 4)) (jo 0) (gO (fW (fK (fL 1) (fK (fL 0) fP)) (lG c))) (pU c))) (iO (lstM fP))) (vw R)=.ok (cs.filter λf=>ke nx f).isEmpty:=by refine gx (fR (x:=.lst ((cs.filter λf=>ke nx f).map tI)) (y:=.lst []) (iY e1) (by simp) ?_);rw[Am false _ (by simp) (aM (Bj _) (by decide))];simp
   have s1:setO 6 (m8 (fW (fK (fW (fK (fL 0) (fK (fX iV (fL 1) (fL 5)) fP)) (ij c)) (fK (fL 2) (fK (fL 4) fP))) (uf c))) [some (.p (.scr ns)),some (.p (.int k0)),some (.p (.int d)),some (.p (.int many)),some (.o (cs.map tI)),some (.p (.int (k:Int))),x6]=.nx R:=sG (t:=tI nx) (lg (hW (x:=.scr ns) (y:=.int ((k0+k:Nat):Int)) rfl (fR rfl rfl (by rw[iU];simp)) ev) rfl rfl en) (Hq nx) rfl
   by_cases he:(cs.filter λf=>ke nx f)=[]
   ·refine⟨_,_,rfl,.inl (fT s1 (iw (hc.trans (by rw[he];rfl)) (tG (us:=cs.map tI) (t:=tI nx) rfl rfl (by simp;omega) rfl))),cs++[nx],_,_,by rw[aY];rfl,by simp;omega,λf hf=>?_,eO.mpr ⟨hp,eP _ _,λf hf g hg'=>?_⟩⟩
    ·rcases ai.mp hf with q | q
     ·exact hg f q
     ·rw[aj.mp q];exact gn
    ·rw[aj.mp hg',wK (by rw[(hg f hf).gl.1,gn.gl.1])];cases hs:ke nx f with
     | false=>rfl
     | true=>have:f∈cs.filter λf=>ke nx f:=aT.mpr ⟨hf,hs⟩;rw[he] at this;exact nomatch this
   ·refine⟨_,_,rfl,.inl (fT s1 (gY (hc.trans (by
     cases hq:(cs.filter λf=>ke nx f) with
     | nil=>exact absurd hq he
     | cons a l=>rfl)) rfl)),cs,_,_,rfl,by omega,hg,hp⟩)
 rw[aF,fj] at hl;exact⟨cs,qi rfl (fT (mm (ts:=[]) (by simp) rfl) (fT (n0 (pT many (by omega) rfl) e) rfl)),⟨hg,by omega,hp⟩,hl⟩
theorem FE(ns:List Int)(most:Nat)(hm:most<=7):∃(d:Nat) (cs:List (List Int)),qU c [.scr ns,.int 0,.int most]=.ok (.tup [.int d,.lst (cs.map tI)])/\(1<=d/\d<=3)/\zd d 84 cs/\cs.length<=most:=by
 obtain⟨v,ev,-⟩:=pA (c:=c) ns 0;obtain⟨d1,d1a,d1b⟩:=kc (c:=c) v 0 3 (by decide) (by decide) (by decide) (by decide);obtain⟨d2,d2a,d2b⟩:=kc (c:=c) v 1 (most+1) (by omega) (by omega) (by decide) (by decide);obtain⟨d,hd⟩:∃d:Nat,1+dr c v 0 3=(d:Int):=⟨(1+dr c v 0 3).toNat,by omega⟩;obtain⟨m,hmm⟩:∃d:Nat,dr c v 1 (most+1)=(d:Int):=⟨(dr c v 1 (most+1)).toNat,by omega⟩;have hd':1<=d/\d<=3:=by omega
 rw[hmm] at d2 d2b;let R (m:Nat):En:=[some (.p (.scr ns)),some (.p (.int 0)),some (.p (.int most)),some (.p (.int v)),some (.p (.int d)),some (.p (.int m))];obtain⟨m',hm',e5⟩:∃m':Nat,m'<=most/\(kg (gO (fX (gD false) (fL 4) (cM (.int 3)))) (setO 5 (iK (jq nN (fK (fL 5) (fK (cM (.int 5)) fP))))) gQ) (R m)=.nx (R m'):=by
  by_cases h3:d=3
  ·refine⟨min m 5,by omega,iw (gx (fR rfl rfl (by rw[iI,h3];rfl))) (gh (t:=.int (min m 5:Nat)) ?_ rfl)⟩;show jq nN _ _=_;have:nN [.int (m:Int),.int 5]=.ok (.int ((min m 5:Nat):Int)):=by simp[nN];omega
   simpa[jq,fK,fP,R] using this
  ·exact⟨m,by omega,gY (gx (fR rfl rfl (by rw[iI];simp;omega))) rfl⟩
 obtain⟨cs,ec,gc,cl⟩:=Bz (c:=c) ns 1 d m' hd' (by omega);refine⟨d,cs,gS rfl (fT (gh (t:=.int v) (hW rfl rfl ev) rfl) (fT (gh (t:=.int d) (fR rfl (lg rfl rfl rfl d1) (by rw[iU,hd])) rfl) (fT (ρ':=R m) (gh (t:=.int m) (lg (z:=.int ((most:Int)+1)) rfl rfl (fR rfl rfl (iU _ _)) d2) rfl) (fT e5 (gB (oj rfl (iY (Cr (y:=.int 1) rfl (fR rfl rfl rfl) rfl rfl ec)))))))),hd',gc,by omega⟩
theorem RH(d:Nat)(hd:d<=3):Bg d 84 9000 3900:=by
 have k1:∀d,d<4->∀k,k<4->k<=d->84+k*(Pq 84 k+1)<=8000:=by decide
 have k2:∀d,d<4->Pq 84 d<=8000:=by decide
 have k3:∀d,d<4->∀k,k<4->∀m,m<4->k+m<=d->Nb (Ns 84 k) m<=8000:=by decide
 have k4:∀d,d<4->∀k,k<4->∀m,m<4->k+m<=d->∀i,i<m->Nb (Ns 84 k) (m - 1 - i)+Sb (Ns 84 k) d m i+21<=3900:=by decide
 have k5:∀d,d<4->∀k,k<4->∀m,m<4->k+m<=d->1<=k->Pq 84 k+Sb (Ns 84 k) d m m+2<=3900:=by decide
 have k6:∀d,d<4->∀k,k<4->∀m,m<4->k+m<=d->Sb (Ns 84 k) d m m+k*(Pq 84 k+Sb (Ns 84 k) d m m+21)<=9000:=by decide
 refine⟨⟨by decide,λk hk=>k1 d (by omega) k (by omega) hk,k2 d (by omega)⟩,by decide,λk m h=>⟨k4 d (by omega) k (by omega) m (by omega) h,λhk=>k5 d (by omega) k (by omega) m (by omega) h (by omega)⟩,λk m h=>⟨k3 d (by omega) k (by omega) m (by omega) h,λi hi=>?_,λhk=>?_,k6 d (by omega) k (by omega) m (by omega) h⟩⟩
 ·have:=k4 d (by omega) k (by omega) m (by omega) h i hi;omega
 ·have:=k5 d (by omega) k (by omega) m (by omega) h (by omega);omega
theorem RW(d:Nat)(hd:d<=3):Bg d 88 9000 3900:=by
 have k1:∀d,d<4->∀k,k<4->k<=d->88+k*(Pq 88 k+1)<=8000:=by decide
 have k2:∀d,d<4->Pq 88 d<=8000:=by decide
 have k3:∀d,d<4->∀k,k<4->∀m,m<4->k+m<=d->Nb (Ns 88 k) m<=8000:=by decide
 have k4:∀d,d<4->∀k,k<4->∀m,m<4->k+m<=d->∀i,i<m->Nb (Ns 88 k) (m - 1 - i)+Sb (Ns 88 k) d m i+21<=3900:=by decide
 have k5:∀d,d<4->∀k,k<4->∀m,m<4->k+m<=d->1<=k->Pq 88 k+Sb (Ns 88 k) d m m+2<=3900:=by decide
 have k6:∀d,d<4->∀k,k<4->∀m,m<4->k+m<=d->Sb (Ns 88 k) d m m+k*(Pq 88 k+Sb (Ns 88 k) d m m+21)<=9000:=by decide
 refine⟨⟨by decide,λk hk=>k1 d (by omega) k (by omega) hk,k2 d (by omega)⟩,by decide,λk m h=>⟨k4 d (by omega) k (by omega) m (by omega) h,λhk=>k5 d (by omega) k (by omega) m (by omega) h (by omega)⟩,λk m h=>⟨k3 d (by omega) k (by omega) m (by omega) h,λi hi=>?_,λhk=>?_,k6 d (by omega) k (by omega) m (by omega) h⟩⟩
 ·have:=k4 d (by omega) k (by omega) m (by omega) h i hi;omega
 ·have:=k5 d (by omega) k (by omega) m (by omega) h (by omega);omega
theorem Mj(d:Nat)(us:List (List Int)){f:Pe->M T}{ρ:Pe}(hf:f ρ=.ok (kY c d us)):uI c.Cutting "many" f fP (ko c) ρ=.ok (.int us.length):=by
 have h1:sZ c.Cutting "many" (kY c d us)=.ok ():=by unfold sZ kY;exact aP ⟨rfl,rfl⟩
 have h2:ko c [kY c d us]=.ok (.int us.length):=gS rfl (gB (ou (Di (C:=c.Cutting) (x:= "own_cuts") (fs:=[("own_cuts",.tup (us.map tI)),("own_dims",.int d)]) rfl rfl) (by simp)));simp only[uI,hf,M.bind_ok,h1,fP,h2,M.noEr_ok]
theorem xr(d:Nat)(us:List (List Int))(hn:us.length<=7)(sg:List Int)(hs:Az us.length sg):mC c [kY c d us,tI sg]=.ok .non:=QT rfl (gY (AF (gx (hW (Mj d us rfl) rfl (BN us.length sg hs.len (by omega) λx hx=>by have:=hs.one x hx;omega))) rfl) rfl)
theorem Em{B:Nat}(hB:B<=1000)(d:Nat)(hg:Bg d B 9000 3900)(us:List (List Int))(hd:1<=d/\d<=3)(h:zd d B us)(sg:List Int)(hs:Az us.length sg) :
  (∃ws,jL c [kY c d us,tI sg]=.ok (.tup [.str "paper",tL ws])/\Kg us d sg ws/\∀x∈ws,Bn 8000 x)\/∃s,jL c [kY c d us,tI sg]=.ok (.tup [.str "spot",tS s])/\Rp us d 9000 3900 sg s:=by
 have hn:=h.few;have key:=qP (c:=c) us d B 9000 3900 (by omega) (by omega) (λu hu=>(h.gc u hu).gl.1) (λu hu=>(h.gc u hu).gl.2) hg sg hs;have run:∀t,iX c [.lst (us.map tI),.int (d:Int),tI sg]=.ok t->jL c [kY c d us,tI sg]=.ok t:=λt ht=>gS rfl (fT (KB (hW rfl rfl (xr d us hn sg hs))) (gB (lg (iY (KO d us rfl)) (L4 d us rfl) rfl ht)))
 rcases key with⟨ws,e,p,b⟩ | ⟨s,e,p⟩
 ·exact .inl ⟨ws,run _ e,p,b⟩
 ·exact .inr ⟨s,run _ e,p⟩
theorem Mc(d:Nat)(us:List (List Int))(hd:1<=d/\d<=3)(h:zd d 84 us)(sg:List Int)(hs:Az us.length sg) :
  (∃ws,jL c [kY c d us,tI sg]=.ok (.tup [.str "paper",tL ws])/\Kg us d sg ws/\∀x∈ws,Bn 8000 x)\/∃s,jL c [kY c d us,tI sg]=.ok (.tup [.str "spot",tS s])/\Rp us d 9000 3900 sg s:=Em (by decide) d (RH d hd.2) us hd h sg hs
def xE(us:List (List Int))(ws:List Int)(k:Nat):Int:=((ws.zip us).map λp=>p.1*vc p.2 k).sum
def EZ(us:List (List Int))(d:Nat)(sg ws:List Int):Bool:=((sg.zip ws).all λp=>FS p.1 p.2)&&((decide ((List.range d).map (xE us ws)=List.replicate d 0))&&(if xE us ws d=0 then (sg.zip ws).any λp=>p.1 != 0&&p.2 != 0 else decide (0<xE us ws d)))
theorem zJ{s w:Int}(hs:s.natAbs<=1):FS s w=!decide (w*s<0):=by
 unfold FS qt;have:s=0\/s=1\/s = -1:=by omega
 rcases this with rfl | rfl | rfl
 ·simp
 ·rcases dQ w 0 with h | h | h
  ·have h1:¬(0<w):=by omega
   have h2:w≠0:=by omega
   simp[h,h1,h2]
  ·subst h;simp
  ·have h2:w≠0:=by omega
   have h3:¬w<0:=by omega
   simp[h,h2,h3]
 ·rcases dQ w 0 with h | h | h
  ·have h1:¬(0<w):=by omega
   have h2:w≠0:=by omega
   have h4:¬(w * -1<0):=by omega
   simp[h,h1,h2,h4]
  ·subst h;simp
  ·have h2:w≠0:=by omega
   have h3:¬w<0:=by omega
   have h4:(w * -1<0):=by omega
   simp[h,h2,h4]
theorem IT(p:Int->Int->Bool):∀a b:List Int,(a.zip b).any (λx=>p x.1 x.2)=(b.zip a).any (λx=>p x.2 x.1)
 | [],b=>by simp
 | _::_,[]=>by simp
 | x::a,y::b=>by simp[IT p a b]
theorem Jf(p:Int->Int->Bool):∀a b:List Int,(a.zip b).all (λx=>p x.1 x.2)=(b.zip a).all (λx=>p x.2 x.1)
 | [],b=>by simp
 | _::_,[]=>by simp
 | x::a,y::b=>by simp[Jf p a b]
theorem Gz(us:List (List Int))(ws:List Int)(d:Nat):((List.range (d+1)).map (xE us ws)).take d=(List.range d).map (xE us ws):=by rw[List.range_succ,aY,List.take_left' (by simp)]
theorem KI(us:List (List Int))(ws:List Int)(d:Nat):gX (.lst (((List.range (d+1)).map (xE us ws)).map T.int)) (.int (d:Int))=.ok (.int (xE us ws d)):=by rw[An _ d (by simp)];congr 2;rw[af,av,List.getElem?_range (by omega)];rfl
theorem Bi(d:Nat)(us:List (List Int))(hd:1<=d/\d<=3)(h:zd d 84 us)(sg:List Int)(hs:Az us.length sg)(ws:List Int)(hw:ws.length=us.length)(hwb:∀x∈ws,Bn 9000 x):mr c [.lst (us.map tI),.int d,tI sg,tL ws]=.ok (.bl (EZ us d sg ws)):=by
 have sz:1000<sizeLine:=by decide
 have hn:=h.few;let R (x4 x5 x6 x7:Option W):En:=[some (.p (.lst (us.map tI))),some (.p (.int d)),some (.p (tI sg)),some (.p (tL ws)),x4,x5,x6,x7];have Py:=o6 (m:=kD 2 (g9 (jF 4) (g9 (jF 5) kr))) (g:=uq c) (λ(p:Int×Int)=>T.tup [.int p.1,.int p.2]) (λρ=>∃x4 x5,ρ=R x4 x5 none none)
  (λp=>!decide (p.1*p.2<0)) (.bl false) (ws.zip sg) (R none none none none) ⟨none,none,rfl⟩ (by rintro⟨w,s⟩ hp ρ ⟨x4,x5,rfl⟩;have hs1:=hs.one s (aV hp).2;have hc:gO (fX Cq (fX iJ (fL 4) (fL 5)) (cM (.int 0))) (vw (R (some (.p (.int w))) (some (.p (.int s))) none none))=.ok (decide (w*s<0)):=gx (fR (fR rfl rfl (iu (rE (by omega)))) rfl (pD _ _));refine⟨_,rfl,λhq=>⟨_,gY (hc.trans (by simpa using hq)) rfl,_,_,rfl⟩,λhq=>iw (hc.trans (by simpa using hq)) (gB rfl)⟩)
 have eall:((ws.zip sg).all λp=>!decide (p.1*p.2<0))=((sg.zip ws).all λp=>FS p.1 p.2):=by rw[Jf (λa b=>!decide (a*b<0)) ws sg,Bool.eq_iff_iff,cy,cy];exact⟨λq p hp=>by rw[zJ (hs.one _ (aV hp).1)];exact q p hp,λq p hp=>by have:=q p hp;rw[zJ (hs.one _ (aV hp).1)] at this;exact this⟩
 rw[eall] at Py;have zi:mX (fK (fL 3) (fK (fL 2) fP)) (nV (R none none none none))=.ok ((ws.zip sg).map λp=>T.tup [.int p.1,.int p.2]):=oo rfl rfl rfl rfl;unfold EZ;cases h1:((sg.zip ws).all λp=>FS p.1 p.2) with
 | false=>exact gS rfl (jW (jb zi (Py.2 h1)) rfl)
 | true=>
  obtain⟨ρ,e,x4,x5,rfl⟩:=Py.1 h1;let xt:Option W:=some (.p (.lst (((List.range (d+1)).map (xE us ws)).map T.int)));have e6:jJ [none,some 3,some 0] (lK (fK (fX iV (fL 1) (cM (.int 1))) fP)) (jo 0) (λ_=>.ok true) (uz c) (nV (R x4 x5 none none))=.ok (((List.range (d+1)).map (xE us ws)).map T.int):=by
   refine jv (List.range (d+1)) (λ(k:Nat)=>T.int (k:Int)) (λk=>T.int (xE us ws k)) (pT (d+1) (by omega) (fR rfl rfl (by rw[iU];simp))) (by simp;omega) (λk hk=>⟨_,rfl,rfl,?_⟩) (by rw[aH];rfl);have hk':=aR.mp hk;have e7:jJ [none,none,some 0] (mX (fK (fL 1) (fK (fL 2) fP))) (o4 2 (i8 (jo 0) (i8 (jo 1) o7))) (λ_=>.ok true) (uv c) [some (.int (k:Int)),some (tL ws),some (.lst (us.map tI))]=.ok (((ws.zip us).map λp=>p.1*vc p.2 k).map T.int):=jv (ws.zip us) (λp=>T.tup [.int p.1,tI p.2]) (λp=>T.int (p.1*vc p.2 k)) (oo rfl rfl rfl rfl) (by rw[fv];omega) (λp hp=>⟨_,rfl,rfl,fR rfl (fR rfl rfl (jT p.2 k (by rw[(h.gc _ (aV hp).2).gl.1];omega))) (iu ((hwb _ (aV hp).1).ok (n:=84) (by refine (h.gc _ (aV hp).2).gl.2 _ ?_;rw[af,ag (show k<p.2.length by rw[(h.gc _ (aV hp).2).gl.1];omega)];exact aU _) (by omega) (by decide)))⟩) (by rw[aH];rfl)
   exact nM e7 (Hf _)
  let ps:List Int:=((ws.zip sg).filter λp=>p.1*p.2 != 0).map Prod.fst;have e8:jJ [none,none] (mX (fK (fL 3) (fK (fL 2) fP))) (o4 2 (i8 (jo 0) (i8 (jo 1) o7))) (gO (fX (gD true) (fX iJ (fL 0) (fL 1)) (cM (.int 0)))) (uC c) (nV (R x4 x5 xt none))=.ok (ps.map T.int):=pj (ws.zip sg) (λp=>T.tup [.int p.1,.int p.2]) (λp=>T.int p.1) (λp=>p.1*p.2 != 0) (oo rfl rfl rfl rfl) (by rw[fv];omega) (λp hp=>⟨_,rfl,gx (fR (fR rfl rfl (iu (rE (by have:=hs.one _ (aV hp).2;omega)))) rfl (l8 _ _)),λ_=>rfl⟩) (by rw[aH];rfl)
  have ips:(!decide (ps=[]))=((sg.zip ws).any λp=>p.1 != 0&&p.2 != 0):=by
   rw[IT (λa b=>a != 0&&b != 0) sg ws];by_cases q:ps=[]
   ·rw[aB q];have:(ws.zip sg).filter (λp=>p.1*p.2 != 0)=[]:=List.map_eq_nil_iff.mp q;rw[List.filter_eq_nil_iff] at this;symm;rw[Bool.not_true,bE];intro p hp z;refine this p hp ?_;simp at z ⊢;exact⟨z.2,z.1⟩
   ·rw[aA q,Bool.not_false];symm;obtain⟨x,hx⟩:=List.exists_mem_of_ne_nil _ q;obtain⟨p,hp,-⟩:=aC.mp hx;obtain⟨hp1,hp2⟩:=aT.mp hp;rw[fz];refine⟨p,hp1,?_⟩;simp at hp2 ⊢;exact⟨hp2.2,hp2.1⟩
  refine gS rfl (fT (jb zi e) (fT (ρ':=R x4 x5 xt none) (gh (iY e6) rfl) ?_));have e9:gO (fX (gD true) (oP (fL 6) (λ_=>.ok none) (lb (fL 1))) (iO (uS (iO (lstM (fK (cM (.int 0)) fP))) (fL 1)))) (vw (R x4 x5 xt none))=.ok (!decide ((List.range d).map (xE us ws)=List.replicate d 0)):=by refine gx (fR (x:=.lst (((List.range d).map (xE us ws)).map T.int)) (y:=.lst ((List.replicate d (0:Int)).map T.int)) ?_ (JP d (by omega) rfl) (by rw[C7];rfl));have:=G4 (fe:=fL 6) (fd:=fL 1) (d:=d) (ts:=((List.range (d+1)).map (xE us ws)).map T.int) (ρ:=vw (R x4 x5 xt none)) rfl rfl;rw[<-cW,Gz] at this;exact this
  cases h2:decide ((List.range d).map (xE us ws)=List.replicate d 0) with
  | false=>exact jW (iw (by rw[e9,h2];rfl) (gB rfl)) rfl
  | true=>
   let xp:Option W:=some (.p (.lst (ps.map T.int)));refine fT (gY (by rw[e9,h2];rfl) rfl) (fT (ρ':=R x4 x5 xt xp) (gh (iY e8) rfl) (gB ?_));have ix:=KI us ws d;have g1:fX A3 (fX gX (fL 6) (fL 1)) (cM (.int 0)) (vw (R x4 x5 xt xp))=.ok (.bl (decide (0<xE us ws d))):=fR (fR rfl rfl ix) rfl (sh _ _);have g2:fX (gD false) (fX gX (fL 6) (fL 1)) (cM (.int 0)) (vw (R x4 x5 xt xp))=.ok (.bl (xE us ws d == 0)):=fR (fR rfl rfl ix) rfl (iI _ _);have g3:fX (gD true) (fL 7) (iO (lstM fP)) (vw (R x4 x5 xt xp))=.ok (.bl (!decide (ps=[]))):=fR (x:=.lst (ps.map T.int)) (y:=.lst (([]:List Int).map T.int)) rfl (by simp) (by rw[C7];rfl);simp only[Ri,v9,gO,g1,g2,g3,M.bind_ok,ips];by_cases h3:xE us ws d=0
   ·rw[aP h3,h3];rfl
   ·rw[aQ h3];have:(xE us ws d == 0)=false:=by simpa using h3
    rw[this];cases decide (0<xE us ws d)<;>rfl
def mR:Nat->List (List Int)
 | 0=>[[]]
 | k+1=>(mR k).flatMap λs=>[-1,0,1].map λx=>s++[x]
theorem sD:∀k,(mR k).length=3 ^ k
 | 0=>rfl
 | k+1=>by
  show ((mR k).flatMap λs=>[-1,0,1].map λx=>s++[x]).length=_;rw[fF];have:(mR k).map (λa=>([-1,0,1].map λ(x:Int)=>a++[x]).length)=List.replicate (mR k).length 3:=by apply fE.mpr;refine⟨by simp,λb hb=>?_⟩;obtain⟨s,-,rfl⟩:=aC.mp hb;rfl
  rw[this];simp[sD k,c7]
theorem vZ:∀k,∀s∈mR k,Az k s
 | 0,s,h=>by
  have:s=[]:=by simpa[mR] using h
  subst this;exact⟨rfl,λx hx=>nomatch hx⟩
 | k+1,s,h=>by
  obtain⟨s',h1,h2⟩:=eU.mp h;obtain⟨x,hx,rfl⟩:=aC.mp h2;have:=vZ k s' h1;refine⟨by simp[this.len],λy hy=>?_⟩;rcases ai.mp hy with q | q
  ·exact this.one y q
  ·rw[aj.mp q];simp only[aE,cV,or_false] at hx;omega
theorem zO{α β:Type}(f:α->List β)(l:List α)(a:α):(l++[a]).flatMap f=l.flatMap f++f a:=by simp
theorem CC(m:Nat)(hm:m<=5):qB c [tI [-1,0,1],.int m]=.ok (.lst ((mR m).map tI)):=by
 have sz:1000<sizeLine:=by decide
 let R (f:List (List Int)) (x3 x4 x5:Option W):En:=[some (.p (tI [-1,0,1])),some (.p (.int m)),some (.p (.lst (f.map tI))),x3,x4,x5];obtain⟨ρ,e,x3,x4,x5,rfl⟩:=iH (m:=jF 3) (g:=xb c) (λ(i:Nat)=>T.int (i:Int))
  (λk ρ=>∃x3 x4 x5:Option W,ρ=R (mR k) x3 x4 x5) (List.range m) 0 (R [[]] none none none) ⟨none,none,none,rfl⟩ (by
   rintro k k' ρ hi ⟨x3,x4,x5,rfl⟩;rw[aF];have hin:k<m:=by simpa using (aa.mp hi).1
   have hl3:(mR k).length<=81:=by rw[sD];exact aM (cY (by decide) (show k<=4 by omega)) (by decide)
   let G:List Int->List (List Int):=λs=>[-1,0,1].map λx=>s++[x];obtain⟨ρ,e,y5,rfl⟩:=iH (m:=jF 5) (g:=vW c) tI
    (λj ρ=>∃y5:Option W,ρ=R (mR k) (some (.p (.int k'))) (some (.p (.lst ((((mR k).take j).flatMap G).map tI)))) y5) (mR k) 0 (R (mR k) (some (.p (.int k'))) (some (.p (.lst []))) x5) ⟨x5,rfl⟩ (by
     rintro j s ρ hj ⟨y5,rfl⟩;rw[aF];have jl:j<(mR k).length:=(aa.mp hj).1;have sl:=(vZ k s (au hj)).len;have e1:jJ [none,some 5] (ig (fL 0)) (jo 0) (λ_=>.ok true) (wJ c) (nV (R (mR k) (some (.p (.int k'))) (some (.p (.lst ((((mR k).take j).flatMap G).map tI)))) (some (.p (tI s)))))=.ok ((G s).map tI):=jv [-1,0,1] T.int (λx=>tI (s++[x])) rfl (by show 3<_;omega) (λx hx=>⟨_,rfl,rfl,fR (x:=tI s) (y:=tI [x]) rfl (RF rfl) (Jk _ _ (by simp;omega))⟩) (by rw[aH];rfl)
     have ln:(((mR k).take j).flatMap G).length<=3*j:=by
      rw[fF];have:((mR k).take j).map (λa=>(G a).length)=List.replicate ((mR k).take j).length 3:=by apply fE.mpr;refine⟨by simp,λb hb=>?_⟩;obtain⟨s,-,rfl⟩:=aC.mp hb;rfl
      rw[this];simp;omega
     refine⟨_,_,rfl,.inl (gh (iY (Ae (a:=(((mR k).take j).flatMap G).map tI) (b:=(G s).map tI) rfl (iY e1) (by simp only[aw];show _+3<=_;omega))) rfl),some (.p (tI s)),?_⟩;rw[jk _ j s hj,zO,aY];rfl)
   rw[aF,du] at e;exact⟨_,_,rfl,.inl (fT (ρ':=R (mR k) (some (.p (.int k'))) (some (.p (.lst []))) x5) (gh (by simp) rfl) (fT (jb rfl e) (gh (t:=.lst ((mR (k+1)).map tI)) rfl rfl))),_,_,_,rfl⟩)
 rw[aF,fj] at e;exact gS rfl (fT (ρ':=R [[]] none none none) (gh (Ie rfl) rfl) (fT (n0 (pT m (by omega) rfl) e) (gB rfl)))
theorem RD(a b:Str)(ha:(PyData.str a).canLay0=true)(hb:(PyData.str b).canLay0=true):gD false (.str a) (.str b)=.ok (.bl (a == b)):=by simp[gD,nO,Cp,qF,ha,hb]
theorem C3:(PyData.str "paper").canLay0=true:=by rw[PyData.canLay0];decide +kernel
theorem Dq:(PyData.str "spot").canLay0=true:=by rw[PyData.canLay0];decide +kernel
theorem Ol:gD false (.str "paper") (.str "paper")=.ok (.bl true):=by rw[RD _ _ C3 C3];congr 2
theorem Jy:gD false (.str "paper") (.str "spot")=.ok (.bl false):=by rw[RD _ _ C3 Dq];congr 2
theorem Ik:gD false (.str "spot") (.str "spot")=.ok (.bl true):=by rw[RD _ _ Dq Dq];congr 2
theorem yP{d:Nat}{X:Nat->Rat}:∀(n:Nat) (g:Nat->Vc) (t:Vc),(∀i,i<n->0<=(t i:Rat)*jX d X (g i))->0<=jX d X (Lt n g t)/\((∃i,i<n/\0<(t i:Rat)*jX d X (g i))->0<jX d X (Lt n g t))
 | 0,g,t,_=>by
  have e:jX d X (Lt 0 g t)=0:=by have z:Lt 0 g t=λ_=>0:=rfl;rw[z,pQ λ_ _=>rfl];simp
  rw[e];exact⟨Rat.le_refl,λ⟨i,hi,_⟩=>absurd hi (cX i)⟩
 | n+1,g,t,h=>by
  obtain⟨q1,q2⟩:=yP n (λj=>g (j+1)) (λj=>t (j+1)) λi hi=>h (i+1) (by omega);have l:=qE (d:=d) (X:=X) (g 0) (Lt n (λj=>g (j+1)) (λj=>t (j+1))) (Lt (n+1) g t) 1 (t 0) 1 (λi=>by show 1*(t 0*g 0 i+sm n λj=>t (j+1)*g (j+1) i)=t 0*g 0 i+1*(sm n λj=>t (j+1)*g (j+1) i);omega)
  have h1:((1:Int):Rat)=1:=rfl;rw[h1] at l;have h0:=h 0 (by omega);refine⟨by grind,λ⟨i,hi,hp⟩=>?_⟩;cases i with
  | zero=>grind
  | succ i=>have:=q2 ⟨i,by omega,hp⟩;grind
def F7(us:List (List Int))(d:Nat)(sg:List Int)(X:Nat->Rat):Prop:=∀(i:Nat) (v:Int),sg[i]? = some v->(v=0->jX d X (vc (us.getD i []))=0)/\(v≠0->0<(v:Rat)*jX d X (vc (us.getD i [])))
theorem zY{us:List (List Int)}{d:Nat}{sg ws:List Int}{X:Nat->Rat}(hs:Az us.length sg)(h:F7 us d sg X)(p:Kg us d sg ws):False:=by
 have term:∀i,i<us.length->∀v,sg[i]? = some v->0<=(vc ws i:Rat)*jX d X (vc (us.getD i []))/\(v*vc ws i≠0->0<(vc ws i:Rat)*jX d X (vc (us.getD i []))):=λi hi v hv=>by
  obtain⟨a,b⟩:=h i v hv;have m:=p.may i v hv;have o:=hs.one v (au hv);generalize jX d X (vc (us.getD i []))=e at a b;generalize vc ws i=w at m ⊢;have:v=0\/v=1\/v = -1:=by omega
  rcases this with rfl | rfl | rfl
  ·rw[a rfl];simp
  ·have hb:=b (by decide);have h1:((1:Int):Rat)=1:=rfl;rw[h1] at hb;have e0:(0:Rat)<e:=by grind
   have w0:0<=w:=by omega
   have wq:(0:Rat)<=(w:Rat):=by exact_mod_cast w0
   refine⟨Rat.mul_nonneg wq (dZ e0),λz=>dW (nS (by omega)) e0⟩
  ·have hb:=b (by decide);have h1:((-1:Int):Rat) = -1:=rfl;rw[h1] at hb;have e0:(0:Rat) < -e:=by grind
   have w0:0<=-w:=by omega
   have wq:(0:Rat)<=((-w:Int):Rat):=by exact_mod_cast w0
   have k1:=Rat.mul_nonneg wq (dZ e0);have c1:((-w:Int):Rat) = -(w:Rat):=by simp
   rw[c1] at k1;refine⟨by grind,λz=>?_⟩;have k2:=dW (nS (show 0 < -w by omega)) e0;rw[c1] at k2;grind
 have all:∀i,i<us.length->0<=(vc ws i:Rat)*jX d X (vc (us.getD i [])):=λi hi=>by
  have:i<sg.length:=by rw[hs.len];exact hi
  exact (term i hi _ (ag this)).1
 obtain⟨g1,g2⟩:=yP us.length (λi=>vc (us.getD i [])) (vc ws) all;have z:jX d X (Lt us.length (λi=>vc (us.getD i [])) (vc ws)) = -((Lt us.length (λi=>vc (us.getD i [])) (vc ws) d:Int):Rat):=pQ λk hk=>p.zer k hk;rcases p.fin with q | ⟨q,i,v,hv,hne⟩
 ·have:=nS (show 0<Lt us.length (λi=>vc (us.getD i [])) (vc ws) d from q);grind
 ·have il:i<us.length:=by rw[<-hs.len];exact (aa.mp hv).1
  have:=g2 ⟨i,il,(term i il v hv).2 hne⟩;rw[z] at this;have e:Lt us.length (λi=>vc (us.getD i [])) (vc ws) d=0:=q;rw[e] at this;simp at this
theorem yG(x0 x1:Option W)(N:Nat)(hN:N<=1000):∀(ps:List (Int×(Int×Int))) (gJ bot:Int) (A B:Nat) (v:Rat) (x4 x5:Option W),(∀p∈ps,Bn N p.1/\Fq p.2)->ps.length<=10->A+B+2*ps.length+2*wts (ps.map Prod.snd)<=500000->N+B<=A->Bn A gJ->Bn B bot->0<bot->(gJ:Rat)=(bot:Rat)*v->
  ∃(top' bot':Int) (y4 y5:Option W),jr (kD 2 (g9 (jF 4) (g9 (jF 5) kr))) (j7 c) (ps.map ID) [x0,x1,some (.p (.int gJ)),some (.p (.int bot)),x4,x5]=.nx [x0,x1,some (.p (.int top')),some (.p (.int bot')),y4,y5]/\0<bot'/\(top':Rat)=(bot':Rat)*(v+(ps.map λp=>(p.1:Rat)*qv p.2).sum)
 | [],gJ,bot,A,B,v,x4,x5,_,_,_,_,_,_,hb,e=>⟨gJ,bot,x4,x5,rfl,hb,by rw[e];simp;grind⟩
 | (n,p)::ps,gJ,bot,A,B,v,x4,x5,hp,hl,hA,hAB,b1,b2,hb,e=>by
  obtain⟨hn,hq⟩:=hp (n,p) (by simp);simp only at hn hq;have hw:wts (((n,p)::ps).map Prod.snd)=wt p+wts (ps.map Prod.snd):=by simp[wts]
  rw[hw] at hA;rw[ay] at hA hl;have p1:Bn (wt p) p.1:=(yV _).mono (cZ _ _);have p2:Bn (wt p) p.2:=(yV _).mono (c6 _ _);have m1:iJ (.int gJ) (.int p.2)=.ok (.int (gJ*p.2)):=iu (b1.ok p2 (by omega) (by omega));have m2:iJ (.int n) (.int p.1)=.ok (.int (n*p.1)):=iu (hn.ok p1 (by omega) (by omega));have m3:iJ (.int (n*p.1)) (.int bot)=.ok (.int (n*p.1*bot)):=iu ((hn.mul p1).ok b2 (by omega) (by omega));have m4:iJ (.int bot) (.int p.2)=.ok (.int (bot*p.2)):=iu (b2.ok p2 (by omega) (by omega));have bt:Bn (A+wt p+1) (gJ*p.2+n*p.1*bot):=((b1.mul p2).add ((hn.mul p1).mul b2)).mono (by omega);have bb:Bn (B+wt p) (bot*p.2):=b2.mul p2;have pp:=hq.pos;have p0:(p.2:Rat)≠0:=by
   intro z;have:p.2=0:=by exact_mod_cast z
   omega
  have e':((gJ*p.2+n*p.1*bot:Int):Rat)=((bot*p.2:Int):Rat)*(v+(n:Rat)*qv p):=by
   have c1:((gJ*p.2+n*p.1*bot:Int):Rat)=(gJ:Rat)*(p.2:Rat)+(n:Rat)*(p.1:Rat)*(bot:Rat):=by simp
   have c2:((bot*p.2:Int):Rat)=(bot:Rat)*(p.2:Rat):=by simp
   rw[c1,c2,e];unfold qv;grind
  obtain⟨top',bot',y4,y5,el,hb',ev⟩:=yG x0 x1 N hN ps (gJ*p.2+n*p.1*bot) (bot*p.2) (A+wt p+1) (B+wt p) (v+(n:Rat)*qv p) (some (.p (.int n))) (some (.p (fr p))) (λq hq=>hp q (by simp[hq])) (by omega) (by omega) (by omega) bt bb (aW hb pp) e';refine⟨top',bot',y4,y5,?_,hb',?_⟩
  ·rw[bF,jr];have s1:j7 c [x0,x1,some (.p (.int gJ)),some (.p (.int bot)),some (.p (.int n)),some (.p (fr p))]=.nx [x0,x1,some (.p (.int (gJ*p.2+n*p.1*bot))),some (.p (.int (bot*p.2))),some (.p (.int n)),some (.p (fr p))]:=
    fT (gh (fR (fR rfl (fR rfl rfl (j5 p)) m1) (fR (fR rfl (fR rfl rfl (lP p)) m2) rfl m3) (iU _ _)) rfl) (gh (fR rfl (fR rfl rfl (j5 p)) m4) rfl)
   show (match j7 c [x0,x1,some (.p (.int gJ)),some (.p (.int bot)),some (.p (.int n)),some (.p (fr p))] with | .nx ρ2=>jr (kD 2 (g9 (jF 4) (g9 (jF 5) kr))) (j7 c) (ps.map ID) ρ2 | .ct ρ2=>jr (kD 2 (g9 (jF 4) (g9 (jF 5) kr))) (j7 c) (ps.map ID) ρ2 | .bk ρ2=>.nx ρ2 | o=>o)=_;rw[s1];exact el
  ·rw[ev,bF,eg];grind
def Gf(x:Rat):Int:=if 0<x then 1 else if x<0 then -1 else 0
theorem NB{gJ bot:Int}{v:Rat}(hb:0<bot)(e:(gJ:Rat)=(bot:Rat)*v):qt gJ=Gf v:=by
 have bq:=nS hb;unfold qt Gf;rcases dQ gJ 0 with h | h | h
 ·have t0:(gJ:Rat)<0:=by exact_mod_cast h
  have v0:v<0:=by refine eV (c:=(bot:Rat)) ?_ (dZ bq);grind
  rw[aQ (by omega),aP h,aQ (by grind),aP v0]
 ·have t0:(gJ:Rat)=0:=by rw[h];rfl
  have v0:v=0:=by grind
  rw[aQ (by omega),aQ (by omega),aQ (by grind),aQ (by grind)]
 ·have t0:(0:Rat)<(gJ:Rat):=nS h;have v0:0<v:=by refine eV (c:=(bot:Rat)) ?_ (dZ bq);grind
  rw[aP h,aP v0]
theorem A7{B:Nat}(hB:B<=900)(d:Nat)(u:List Int)(hu:GL d B u)(hd:d<=3)(s:List (Int×Int))(hs:s.length=d)(hq:∀p∈s,Fq p)(hw:wts s<=200000):kQ c [tI u,tS s]=.ok (.int (Gf (jX d (Xs s) (vc u)))):=by
 have sz:1000<sizeLine:=by decide
 have hl:=hu.1;have Kd:gX (tI u) (.int (-1))=.ok (.int (vc u d)):=by
  have hne:u≠[]:=λz=>by rw[z] at hl;simp at hl
  have:pK (u.map T.int) (-1)=some (.int (vc u d)):=by
   rw[Nf _ (by simpa using hne),List.getLast?_map,List.getLast?_eq_getElem?];have e:u.length - 1=d:=by omega
   rw[e,ag (by omega)];unfold vc;rw[af,ag (by omega)];rfl
  simp[tI,this]
 have bc:Bn B (vc u d):=by refine hu.2 _ ?_;unfold vc;rw[af,ag (by omega)];exact aU _
 have em:(u.zip s).map Prod.snd=s:=by rw[List.map_snd_zip];omega
 obtain⟨gJ,bot,y4,y5,e,hb,ev⟩:=yG (c:=c) (some (.p (tI u))) (some (.p (tS s))) B (by omega) (u.zip s) (-(vc u d)) 1 (B+1) 1 (-(vc u d:Rat)) none none (λp hp=>⟨hu.2 _ (aV hp).1,hq _ (aV hp).2⟩) (by rw[fv];omega) (by rw[em,fv];omega) (by omega) (bc.neg.mono (by omega)) J6 (by decide) (by
  have c1:((-(vc u d):Int):Rat) = -(vc u d:Rat):=by simp
  have c2:((1:Int):Rat)=1:=rfl;rw[c1,c2];grind)
 have evv:-(vc u d:Rat)+((u.zip s).map λp=>(p.1:Rat)*qv p.2).sum=jX d (Xs s) (vc u):=by have:=xo d s u hs (by omega);unfold FI at this;rw[this];unfold jX;grind
 rw[evv] at ev;have sg:=NB hb ev;rw[<-sg];exact gS rfl (fT (gh (t:=.int (-(vc u d))) (tR (fR rfl rfl Kd)) rfl) (fT (gh (t:=.int 1) rfl rfl) (fT (jb (oo (l:=u) (m:=s) (f:=T.int) (g:=fr) rfl rfl rfl rfl) e) (gB (ND gJ rfl)))))
theorem DW(p:Int×Int)(h:Fq p):kb c [fr p]=.ok (.bl true):=by have w:∀i:Int,jj c [.int i]=.ok (.bl true):=λi=>rfl;have h1:(L3.qg (L3.kh (gO (oq "tuple" (fL 0)))) (L3.qg (gO (fX (gD true) (jq jy (fK (fL 0) fP)) (cM (.int 2)))) (L3.qg (L3.kh (gO (fW (fK (fX gX (fL 0) (cM (.int 0))) fP) (jj c)))) (L3.kh (gO (fW (fK (fX gX (fL 0) (cM (.int 1))) fP) (jj c))))))) (vw (ik 1 [fr p]))=.ok false:=rfl;refine gS rfl (fT (gY h1 rfl) (gB ?_));have g1:fX A3 (fX gX (fL 0) (cM (.int 1))) (cM (.int 0)) (vw (ik 1 [fr p]))=.ok (.bl true):=fR (fR rfl rfl (j5 p)) rfl (by rw[sh];simp[h.pos]);have g2:fX (gD false) (fW (fK (fX gX (fL 0) (cM (.int 0))) (fK (fX gX (fL 0) (cM (.int 1))) fP)) (jU c)) (cM (.int 1)) (vw (ik 1 [fr p]))=.ok (.bl true):=fR (hW (fR rfl rfl (lP p)) (fR rfl rfl (j5 p)) (rd p.1 p.2)) rfl (by rw[iI,h.one];rfl);show v9 _ _ (vw (ik 1 [fr p]))=_;have g1':=gx g1;simp only[v9,g1',g2,M.bind_ok];rfl
theorem G3(d:Nat)(s:List (Int×Int))(hl:s.length=d)(hd:d<=3)(hq:∀p∈s,Fq p):jI c [tS s,.int d]=.ok (.bl true):=by
 have sz:1000<sizeLine:=by decide
 have e1:jJ [none] (ig (fL 0)) (jo 0) (λ_=>.ok true) (qd c) (vw (ik 2 [tS s,.int d]))=.ok ((s.map λ_=>true).map T.bl):=jv s fr (λ_=>T.bl true) rfl (by omega) (λp hp=>⟨_,rfl,rfl,rh rfl (DW p (hq p hp))⟩) (by simp)
 have e0:(L3.qg (L3.kh (gO (oq "tuple" (fL 0)))) (gO (fX (gD true) (jq jy (fK (fL 0) fP)) (fL 1)))) (vw (ik 2 [tS s,.int d]))=.ok false:=by simp[tS,hl]
 exact gS rfl (fT (gY e0 rfl) (gB (nM e1 (by rw[qI];simp))))
theorem C0(n:Nat)(ws:List Int)(hl:ws.length=n)(hn:n<=8):j6 c [tL ws,.int n]=.ok (.bl true):=by
 have sz:1000<sizeLine:=by decide
 have w:∀i:Int,jj c [.int i]=.ok (.bl true):=λi=>rfl;have e1:jJ [none] (ig (fL 0)) (jo 0) (λ_=>.ok true) (qw c) (vw (ik 2 [tL ws,.int n]))=.ok ((ws.map λ_=>true).map T.bl):=jv ws T.int (λ_=>T.bl true) rfl (by omega) (λp hp=>⟨_,rfl,rfl,rh rfl (w p)⟩) (by simp)
 have e0:(L3.qg (L3.kh (gO (oq "list" (fL 0)))) (gO (fX (gD true) (jq jy (fK (fL 0) fP)) (fL 1)))) (vw (ik 2 [tL ws,.int n]))=.ok false:=by simp[tL,hl]
 exact gS rfl (fT (gY e0 rfl) (gB (nM e1 (by rw[qI];simp))))
theorem IE(k:Nat):∀(ws:List Int) (us:List (List Int)),ws.length=us.length->xE us ws k=sm us.length (λi=>vc ws i*vc (us.getD i []) k)
 | [],[],_=>rfl
 | w::ws,u::us,h=>by have:=IE k ws us (by simpa using h);show w*vc u k+xE us ws k=vc (w::ws) 0*vc ((u::us).getD 0 []) k+sm us.length (λi=>vc (w::ws) (i+1)*vc ((u::us).getD (i+1) []) k);rw[this];rfl
theorem Gn{us:List (List Int)}{d:Nat}{sg ws:List Int}(hs:Az us.length sg)(p:Kg us d sg ws):EZ us d sg ws=true:=by
 have t:=λk=>IE k ws us p.len;unfold EZ;have h1:((sg.zip ws).all λq=>FS q.1 q.2)=true:=cy.mpr λq hq=>by
  obtain⟨i,hi⟩:=df.mp hq;rw[List.getElem?_zip_eq_some] at hi;rw[zJ (hs.one _ (aV hq).1)];have:=p.may i q.1 hi.1;have e:vc ws i=q.2:=by unfold vc;rw[af,hi.2];rfl
  rw[e,cP] at this;simp;omega
 have h2:(List.range d).map (xE us ws)=List.replicate d 0:=fE.mpr ⟨by simp,λx hx=>by obtain⟨k,hk,rfl⟩:=aC.mp hx;rw[t k];exact p.zer k (aR.mp hk)⟩
 rw[h1,aB h2,dh,dh];rcases p.fin with q | ⟨q,i,v,hv,hne⟩
 ·rw[<-t d] at q;rw[aQ (by omega),aB q]
 ·rw[<-t d] at q;rw[aP q,fz];have il:i<ws.length:=by rw[p.len,<-hs.len];exact (aa.mp hv).1
  refine⟨(v,vc ws i),df.mpr ⟨i,List.getElem?_zip_eq_some.mpr ⟨hv,?_⟩⟩,?_⟩
  ·unfold vc;rw[af,ag il];rfl
  ·have:v≠0/\vc ws i≠0:=⟨λz=>hne (by rw[z];simp),λz=>hne (by rw[z];simp)⟩;simp[this.1,this.2]
theorem Ll{us:List (List Int)}{d:Nat}{sg:List Int}{X:Nat->Rat}(hs:Az us.length sg)(h:F7 us d sg X):(us.map λu=>Gf (jX d X (vc u)))=sg:=by
 apply eW
 ·simp[hs.len]
 ·intro i h1 h2;rw[aw] at h1;obtain⟨a,b⟩:=h i sg[i] (ag h2);have o:=hs.one _ (aU h2);have eu:us.getD i []=us[i]:=by rw[af,ag h1];rfl
  rw[eu] at a b;rw[dw];generalize jX d X (vc us[i])=e at a b;generalize sg[i]=v at a b o;have:v=0\/v=1\/v = -1:=by omega
  unfold Gf;rcases this with rfl | rfl | rfl
  ·rw[a rfl,aQ (by grind),aQ (by grind)]
  ·have hb:=b (by decide);have h1:((1:Int):Rat)=1:=rfl;rw[h1] at hb;rw[aP (by grind)]
  ·have hb:=b (by decide);have h1:((-1:Int):Rat) = -1:=rfl;rw[h1] at hb;rw[aQ (by grind),aP (by grind)]
theorem sE(d:Nat)(us:List (List Int))(hd:1<=d/\d<=3)(h:zd d 84 us)(sg:List Int)(hs:Az us.length sg) :
  (∃ws,jL c [kY c d us,tI sg]=.ok (.tup [.str "paper",tL ws])/\Kg us d sg ws/\jD c [kY c d us,.lst (us.map tI),.int d,tI sg]=.ok (.bl false))\/
  ∃s,jL c [kY c d us,tI sg]=.ok (.tup [.str "spot",tS s])/\Rp us d 9000 3900 sg s/\jD c [kY c d us,.lst (us.map tI),.int d,tI sg]=.ok (.bl true):=by
 have sz:1000<sizeLine:=by decide
 have hn:=h.few;let R (x4:Option W):En:=[some (.p (kY c d us)),some (.p (.lst (us.map tI))),some (.p (.int d)),some (.p (tI sg)),x4];rcases Mc (c:=c) d us hd h sg hs with⟨ws,e,p,b⟩ | ⟨s,e,p⟩
 ·left;let x4:Option W:=some (.p (.tup [.str "paper",tL ws]));have c1:(L3.qg (L3.kh (gO (oq "tuple" (fL 4)))) (gO (fX (gD true) (jq jy (fK (fL 4) fP)) (cM (.int 2))))) (vw (R x4))=.ok false:=rfl;have c2:(L3.kf (gO (fX (gD false) (fX gX (fL 4) (cM (.int 0))) (cM (.str "spot")))) (gO (fW (fK (fX gX (fL 4) (cM (.int 1))) (fK (fL 2) fP)) (jI c)))) (vw (R x4))=.ok false:=pV (gx (fR (x:=.str "paper") (fR rfl rfl rfl) rfl Jy));have q1:gO (fX (gD false) (fX gX (fL 4) (cM (.int 0))) (cM (.str "paper"))) (vw (R x4))=.ok true:=gx (fR (x:=.str "paper") (fR rfl rfl rfl) rfl Ol);have q2:gO (fW (fK (fX gX (fL 4) (cM (.int 1))) (fK (jq jy (fK (fL 1) fP)) fP)) (j6 c)) (vw (R x4))=.ok true:=gx (hW (x:=tL ws) (fR rfl rfl rfl) (ou rfl (by simp)) (C0 us.length ws p.len (by omega)));have q3:gO (fW (fK (fL 1) (fK (fL 2) (fK (fL 3) (fK (fX gX (fL 4) (cM (.int 1))) fP)))) (mr c)) (vw (R x4))=.ok true:=by have:=Bi (c:=c) d us hd h sg hs ws p.len (λx hx=>(b x hx).mono (by omega));rw[Gn hs p] at this;exact gx (HN (u:=tL ws) rfl rfl rfl (fR rfl rfl rfl) this)
  have c3:(L3.kf (gO (fX (gD false) (fX gX (fL 4) (cM (.int 0))) (cM (.str "paper")))) (L3.kf (gO (fW (fK (fX gX (fL 4) (cM (.int 1))) (fK (jq jy (fK (fL 1) fP)) fP)) (j6 c))) (gO (fW (fK (fL 1) (fK (fL 2) (fK (fL 3) (fK (fX gX (fL 4) (cM (.int 1))) fP)))) (mr c))))) (vw (R x4))=.ok true:=by simp only[L3.kf,q1,q2,q3,M.bind_ok];rfl
  exact⟨ws,e,p,gS rfl (fT (ρ':=R x4) (gh (hW rfl rfl e) rfl) (fT (gY c1 rfl) (fT (gY c2 rfl) (jW (iw c3 (gB rfl)) rfl))))⟩
 ·right;let x4:Option W:=some (.p (.tup [.str "spot",tS s]));have c1:(L3.qg (L3.kh (gO (oq "tuple" (fL 4)))) (gO (fX (gD true) (jq jy (fK (fL 4) fP)) (cM (.int 2))))) (vw (R x4))=.ok false:=rfl;have q1:gO (fX (gD false) (fX gX (fL 4) (cM (.int 0))) (cM (.str "spot"))) (vw (R x4))=.ok true:=gx (fR (x:=.str "spot") (fR rfl rfl rfl) rfl Ik);have q2:gO (fW (fK (fX gX (fL 4) (cM (.int 1))) (fK (fL 2) fP)) (jI c)) (vw (R x4))=.ok true:=gx (hW (x:=tS s) (fR rfl rfl rfl) rfl (G3 d s p.len hd.2 λq hq=>(p.fq q hq).1));have c2:(L3.kf (gO (fX (gD false) (fX gX (fL 4) (cM (.int 0))) (cM (.str "spot")))) (gO (fW (fK (fX gX (fL 4) (cM (.int 1))) (fK (fL 2) fP)) (jI c)))) (vw (R x4))=.ok true:=by simp only[L3.kf,q1,q2,M.bind_ok];rfl
  have e1:jJ [none,some 4] (ig (fL 1)) (jo 0) (λ_=>.ok true) (ot c) (vw (R x4))=.ok (sg.map T.int):=by refine jv us tI (λu=>T.int (Gf (jX d (Xs s) (vc u)))) rfl (by omega) (λu hu=>⟨_,rfl,rfl,hW (y:=tS s) rfl (fR rfl rfl rfl) (A7 (B:=84) (by omega) d u (h.gc u hu).gl hd.2 s p.len (λq hq=>(p.fq q hq).1) (by have:=p.wts;omega))⟩) ?_;rw[<-Ll hs p.side,aH];rfl
  have c3:gO (fX (gD false) (jq i9 (fK (iO (jJ [none,some 4] (ig (fL 1)) (jo 0) (λ_=>.ok true) (ot c))) fP)) (fL 3)) (vw (R x4))=.ok true:=gx (fR (x:=tI sg) (y:=tI sg) (nM e1 rfl) rfl (by have:=JJ false sg sg;unfold tI;rw[this];simp))
  exact⟨s,e,p,gS rfl (fT (ρ':=R x4) (gh (hW rfl rfl e) rfl) (fT (gY c1 rfl) (jW (iw c2 (iw c3 (gB rfl))) rfl)))⟩
theorem xN(t b:Int)(hb:0<b)(h8:Bn 8000 b):∃p,nu c [.int t,.int b]=.ok (fr p)/\Fq p/\p.1.natAbs<=t.natAbs/\p.2.natAbs<=b.natAbs:=by
 have hb0:b≠0:=by omega
 have hG:=Cu.J9 t b hb0;have hle:=Cu.Pp t b hb0;have hn:Cu.G t b≠0:=by omega
 have hsm:∀x:Int,Builtin.divisionGoesByPylong x (Cu.G t b)=false:=λx=>by refine Bn.noPy (n:=8000) ?_ (by decide);unfold Bn at *;refine b7 ?_ h8;omega
 have hl:=Cu.BP t b hb0;rw[aQ (by omega)] at hl;refine⟨(t.fdiv (Cu.G t b),b.fdiv (Cu.G t b)),gS rfl (fT (gh (hW rfl rfl (rd t b)) rfl) (gB (oj (fR rfl rfl (md hn (hsm t))) (fR rfl rfl (md hn (hsm b)))))),⟨hl.pos,hl.one⟩,r0 (Cu.nJ t b) hn,r0 (Cu.lI t b) hn⟩
structure RU(d:Nat)(s:List (Int×Int)):Prop where
 len:s.length=d
 fq:∀p∈s,Fq p/\Bn 3900 p.2
 wts:wts s<=9000
theorem yt{s:List (Int×Int)}{p:Int×Int}(h:p∈s):wt p<=wts s:=by
 induction s with
 | nil=>cases h
 | cons q s ih=>
  have e:wts (q::s)=wt q+wts s:=by simp[wts]
  rcases aE.mp h with rfl | h
  ·omega
  ·have:=ih h;omega
theorem OZ{s:List (Int×Int)}{n:Nat}(h:∀p∈s,wt p<=n):wts s<=s.length*n:=by
 induction s with
 | nil=>simp[wts]
 | cons q s ih=>
  have e:wts (q::s)=wt q+wts s:=by simp[wts]
  have:=ih λp hp=>h p (by simp[hp]);have:=h q (by simp);rw[ay,Nat.add_mul];omega
theorem Mw(d:Nat)(hd:d<=3)(a b:List (Int×Int))(ha:RU d a)(hb:RU d b):∃s,mD c [tS a,tS b]=.ok (tS s)/\s.length=d/\(∀p∈s,Fq p)/\wts s<=200000:=by
 have sz:1000<sizeLine:=by decide
 let R (s:List (Int×Int)) (x3 x4:Option W):En:=[some (.p (tS a)),some (.p (tS b)),some (.o (s.map fr)),x3,x4];obtain⟨ρ,e,s,x3,x4,rfl,k1,k2⟩:=iH (m:=kD 2 (g9 (jF 3) (g9 (jF 4) kr))) (g:=pP c) (λ(q:(Int×Int)×(Int×Int))=>T.tup [fr q.1,fr q.2])
  (λi ρ=>∃(s:List (Int×Int)) (x3 x4:Option W),ρ=R s x3 x4/\s.length=i/\∀p∈s,Fq p/\wt p<=30000) (a.zip b) 0 (R [] none none) ⟨[],none,none,rfl,rfl,λp hp=>nomatch hp⟩ (by
   rintro i ⟨f,l⟩ ρ hi ⟨s,x3,x4,rfl,k1,k2⟩;rw[aF] at k1 ⊢;have hm:=au hi;have il:=(aa.mp hi).1;rw[fv] at il;obtain⟨qf,bf⟩:=ha.fq f (aV hm).1;obtain⟨ql,bl⟩:=hb.fq l (aV hm).2;have wf:wt f<=9000:=aM (yt (aV hm).1) ha.wts;have wl:wt l<=9000:=aM (yt (aV hm).2) hb.wts;have f1:Bn 9000 f.1:=((yV _).mono (cZ _ _)).mono wf;have l1:Bn 9000 l.1:=((yV _).mono (cZ _ _)).mono wl;have b2:Bn 2 (2:Int):=by unfold Bn;decide
   have bb:Bn 8000 (2*f.2*l.2):=((b2.mul bf).mul bl).mono (by omega);have bt:Bn 13000 (f.1*l.2+l.1*f.2):=((f1.mul bl).add (l1.mul bf)).mono (by omega);have m1:iJ (.int f.1) (.int l.2)=.ok (.int (f.1*l.2)):=iu (f1.ok bl (by decide) (by decide));have m2:iJ (.int l.1) (.int f.2)=.ok (.int (l.1*f.2)):=iu (l1.ok bf (by decide) (by decide));have m3:iJ (.int 2) (.int f.2)=.ok (.int (2*f.2)):=jM (by decide);have m4:iJ (.int (2*f.2)) (.int l.2)=.ok (.int (2*f.2*l.2)):=iu ((b2.mul bf).ok bl (by decide) (by decide));obtain⟨p,ep,fp,p1,p2⟩:=xN (c:=c) (f.1*l.2+l.1*f.2) (2*f.2*l.2) (aW (aW (by decide) qf.pos) ql.pos) bb;have wp:wt p<=30000:=d8.mpr ⟨yx (Bn.mono (m:=13000) (b7 p1 bt) (by decide)) (by decide),yx (Bn.mono (m:=8000) (b7 p2 bb) (by decide)) (by decide)⟩;refine⟨_,_,rfl,.inl (tG (us:=s.map fr) (t:=fr p) rfl (hW (fR (fR (fR rfl rfl (lP f)) (fR rfl rfl (j5 l)) m1) (fR (fR rfl rfl (lP l)) (fR rfl rfl (j5 f)) m2) (iU _ _)) (fR (fR rfl (fR rfl rfl (j5 f)) m3) (fR rfl rfl (j5 l)) m4) ep) (by rw[aw];have:=ha.len;omega) rfl),s++[p],some (.p (fr f)),some (.p (fr l)),by simp[R],by simp[k1],λq hq=>?_⟩;rcases ai.mp hq with z | z
   ·exact k2 q z
   ·rw[aj.mp z];exact⟨fp,wp⟩)
 rw[aF,fv,ha.len,hb.len,Nat.min_self] at k1;refine⟨s,gS rfl (fT (mm (ts:=[]) (by simp) rfl) (fT (jb (oo (l:=a) (m:=b) (f:=fr) (g:=fr) rfl rfl rfl rfl) e) (gB rfl))),k1,λp hp=>(k2 p hp).1,?_⟩;have:=OZ λp hp=>(k2 p hp).2;rw[k1] at this;exact aM this (by omega)
theorem IQ{d:Nat}{X:Nat->Rat}(u:List Int)(k:Int):jX d X (vc (u.map λx=>k*x))=(k:Rat)*jX d X (vc u):=by have:=qE (d:=d) (X:=X) (vc u) (vc u) (vc (u.map λx=>k*x)) 1 k 0 (λi=>by rw[mN];omega);have h1:((1:Int):Rat)=1:=rfl;have h0:((0:Int):Rat)=0:=rfl;rw[h1,h0] at this;grind
theorem Es{us:List (List Int)}{d:Nat}{sg:List Int}{X:Nat->Rat}(h:F7 us d sg X)(hl:sg.length=us.length):F7 (us.map λu=>u.map λx=>-1*x) d (sg.map λx=>-x) X:=λi v hv=>by
 rw[av] at hv;cases q:sg[i]? with
 | none=>rw[q] at hv;cases hv
 | some w=>
  rw[q] at hv;have e:v = -w:=by simpa using hv.symm
  subst e;obtain⟨a,b⟩:=h i w q;have il:i<us.length:=by rw[<-hl];exact (aa.mp q).1
  have eu:((us.map λu=>u.map λx=>-1*x).getD i [])=(us.getD i []).map λx=>-1*x:=by rw[af,af,av,ag il];rfl
  rw[eu,IQ];have h1:((-1:Int):Rat) = -1:=rfl;have h2:((-w:Int):Rat) = -(w:Rat):=by simp
  rw[h1,h2];refine⟨λz=>by rw[a (by omega)];grind,λz=>?_⟩;have:=b (by omega);grind
theorem Fk{us:List (List Int)}{d:Nat}{sg:List Int}{X:Nat->Rat}(h:F7 us d sg X)(hl:sg.length=us.length):F7 us.reverse d sg.reverse X:=λi v hv=>by
 have il:i<sg.length:=by have:=(aa.mp hv).1;simpa using this
 rw[List.getElem?_reverse il] at hv;have eu:us.reverse.getD i []=us.getD (sg.length - 1 - i) []:=by rw[af,af,List.getElem?_reverse (by omega),hl]
 rw[eu];exact h _ v hv
def vf(us:List (List Int)):List (List Int):=(List.range us.length).map λ(k:Nat)=>(us.getD k []).map λx=>(2+(k:Int))*x
theorem LF{us:List (List Int)}{i:Nat}(hi:i<us.length):(vf us).getD i []=(us.getD i []).map λx=>(2+(i:Int))*x:=by unfold vf;rw[af,av,List.getElem?_range hi];rfl
theorem K9{us:List (List Int)}{d:Nat}{sg:List Int}{X:Nat->Rat}(hl:sg.length=us.length):F7 us d sg X↔F7 (vf us) d sg X:=by
 have key:∀(i:Nat) (v:Int),sg[i]? = some v->jX d X (vc ((vf us).getD i []))=((2+(i:Int):Int):Rat)*jX d X (vc (us.getD i []))/\(0:Rat)<((2+(i:Int):Int):Rat):=λi v hv=>by
  have il:i<us.length:=by rw[<-hl];exact (aa.mp hv).1
  rw[LF il,IQ];exact⟨rfl,nS (by omega)⟩
 constructor
 ·intro h i v hv;obtain⟨e,p⟩:=key i v hv;obtain⟨a,b⟩:=h i v hv;rw[e];generalize ((2+(i:Int):Int):Rat)=k at p ⊢;refine⟨λz=>by rw[a z];grind,λz=>?_⟩;have:=dW p (b z);grind
 ·intro h i v hv;obtain⟨e,p⟩:=key i v hv;obtain⟨a,b⟩:=h i v hv;rw[e] at a b;generalize ((2+(i:Int):Int):Rat)=k at p a b;refine⟨λz=>?_,λz=>?_⟩
  ·have:=a z;grind
  ·have:=b z;refine eV (c:=k) ?_ (dZ p);grind
def Nz(k:Nat->Int)(us:List (List Int)):List (List Int):=(List.range us.length).map λi=>(us.getD i []).map λx=>k i*x
theorem Iy(a b:List Int){k m:Int}(hk:k≠0)(hm:m≠0):ke (a.map λx=>k*x) (b.map λx=>m*x)=ke a b:=by
 unfold ke;rw[aw];congr 1;funext i;congr 1;funext j;rw[mN,mN,mN,mN];have e1:k*vc a i*(m*vc b j)=(k*m)*(vc a i*vc b j):=by grind
 have e2:k*vc a j*(m*vc b i)=(k*m)*(vc a j*vc b i):=by grind
 rw[e1,e2];have km:k*m≠0:=dU hk hm;by_cases q:vc a i*vc b j=vc a j*vc b i
 ·rw[q,beq_self_eq_true,beq_self_eq_true]
 ·rw[beq_eq_false_iff_ne.mpr q,beq_eq_false_iff_ne.mpr λz=>q (eJ km z)]
theorem Jj{d B:Nat}{us:List (List Int)}(h:zd d B us)(k:Nat->Int)(hk:∀i,i<us.length->k i≠0/\(k i).natAbs<8):zd d (B+3) (Nz k us):=by
 refine⟨λf hf=>?_,by unfold Nz;rw[aw,fj];exact h.few,?_⟩
 ·obtain⟨i,hi,rfl⟩:=aC.mp hf;have il:=aR.mp hi;obtain⟨k0,k8⟩:=hk i il;have eu:us.getD i []=us[i]:=by rw[af,ag il];rfl
  rw[eu];have g:=h.gc _ (aU il);refine⟨⟨by rw[aw];exact g.gl.1,λx hx=>?_⟩,?_⟩
  ·obtain⟨y,hy,rfl⟩:=aC.mp hx;exact (Bn.mul (m:=3) (by unfold Bn;exact k8) (g.gl.2 y hy)).mono (by omega)
  ·obtain⟨p,hp,hne⟩:=g.re;exact⟨p,hp,by rw[mN];exact dU k0 hne⟩
 ·rw[cC];intro i j hi hj hij;unfold Nz at hi hj ⊢;rw[aw,fj] at hi hj;rw[dw,dw,eX,eX,Iy _ _ (hk i hi).1 (hk j hj).1];have e1:us.getD i []=us[i]:=by rw[af,ag hi];rfl
  have e2:us.getD j []=us[j]:=by rw[af,ag hj];rfl
  rw[e1,e2];exact cC.mp h.pw i j hi hj hij
theorem KJ{d B:Nat}{us:List (List Int)}(h:zd d B us):zd d B us.reverse:=by refine⟨λf hf=>h.gc f (List.mem_reverse.mp hf),by rw[cD];exact h.few,?_⟩;rw[List.pairwise_reverse,cC];intro i j hi hj hij;rw[wK (by rw[(h.gc _ (aU hj)).gl.1,(h.gc _ (aU hi)).gl.1])];exact cC.mp h.pw i j hi hj hij
theorem zd.mono{d B B':Nat}{us:List (List Int)}(h:zd d B us)(hB:B<=B'):zd d B' us:=⟨λf hf=>(h.gc f hf).mono hB,h.few,h.pw⟩
theorem LN(us:List (List Int)):vf us=Nz (λk=>2+(k:Int)) us:=rfl
theorem Ot(us:List (List Int)):(us.map λu=>u.map λx=>-1*x)=Nz (λ_=>-1) us:=by
 apply eW
 ·simp[Nz]
 ·intro i h1 h2;rw[aw] at h1;simp[Nz,h1]
theorem Lf{n:Nat}{sg:List Int}(h:Az n sg):Az n (sg.map λx=>-x):=⟨by rw[aw];exact h.len,λx hx=>by obtain⟨y,hy,rfl⟩:=aC.mp hx;have:=h.one y hy;omega⟩
theorem LZ{n:Nat}{sg:List Int}(h:Az n sg):Az n sg.reverse:=⟨by rw[cD];exact h.len,λx hx=>h.one x (List.mem_reverse.mp hx)⟩
theorem HE(us:List (List Int)):((us.map λu=>u.map λx=>-1*x).map λu=>u.map λx=>-1*x)=us:=by
 rw[aH];conv=>rhs;rw[<-fG us]
 refine cE λu _=>?_;show (u.map λx=>-1*x).map (λx=>-1*x)=u;rw[aH];conv=>rhs;rw[<-fG u]
 refine cE λx _=>?_;show -1*(-1*x)=x;omega
theorem zx{d:Nat}{us us':List (List Int)}{sg sg':List Int}(hd:1<=d/\d<=3)(h':zd d 88 us')(hs':Az us'.length sg')(hs:Az us.length sg)(tr:∀X,F7 us d sg X↔F7 us' d sg' X)(b:Bool)(hb:if b=true then ∃X,F7 us d sg X else ∃ws,Kg us d sg ws) :
  ∃x,jL c [kY c d us',tI sg']=.ok (.tup [.str (if b=true then "spot" else "paper"),x]):=by
 rcases Em (c:=c) (B:=88) (by decide) d (RW d hd.2) us' hd h' sg' hs' with⟨ws,e,p,-⟩ | ⟨s,e,p⟩
 ·cases b with
  | false=>exact⟨_,e⟩
  | true=>rw[aP rfl] at hb;obtain⟨X,hX⟩:=hb;exact (zY hs' ((tr X).mp hX) p).elim
 ·cases b with
  | true=>exact⟨_,e⟩
  | false=>rw[aQ (by decide)] at hb;obtain⟨ws,hp⟩:=hb;exact (zY hs ((tr _).mpr p.side) hp).elim
theorem GW:mF c=qU c:=rfl
theorem Sm(a b:Bool):gD false (.bl a) (.bl b)=.ok (.bl (a == b)):=by cases a<;>cases b<;>rfl
theorem RJ:gD true (.lst [.bl true,.bl true,.bl true]) (.lst [.bl true,.bl true,.bl true])=.ok (.bl false):=by simp[gD,nO,pO,Cp,vg,qF,qR]
theorem Qv:HG true (.bl true) (.bl true)=.ok (.bl false):=rfl
theorem LG{us:List (List Int)}{d:Nat}{X:Nat->Rat}:F7 us d (us.map λu=>Gf (jX d X (vc u))) X:=λi v hv=>by
 rw[av] at hv;cases q:us[i]? with
 | none=>rw[q] at hv;cases hv
 | some u=>
  rw[q] at hv;have e:v=Gf (jX d X (vc u)):=by simpa using hv.symm
  have eu:us.getD i []=u:=by rw[af,q];rfl
  rw[eu,e];generalize jX d X (vc u)=x;unfold Gf;by_cases h1:0<x
  ·rw[aP h1];have o:((1:Int):Rat)=1:=rfl;exact⟨λz=>absurd z (by decide),λ_=>by rw[o];grind⟩
  ·rw[aQ h1];by_cases h2:x<0
   ·rw[aP h2];have o:((-1:Int):Rat) = -1:=rfl;exact⟨λz=>absurd z (by decide),λ_=>by rw[o];grind⟩
   ·rw[aQ h2];exact⟨λ_=>by grind,λz=>absurd rfl z⟩
theorem Mv(x:Rat):(Gf x).natAbs<=1:=by unfold Gf;split<;>(try split)<;>simp
theorem Ox(xs:List (List Int)):Pz (.lst (xs.map tI)) (.int (-1))=.ok (.lst (xs.reverse.map tI)):=by simp[eG]
theorem QJ(xs:List Int):Pz (tI xs) (.int (-1))=.ok (tI xs.reverse):=by simp[tI,eG]
theorem NK(sg:List Int):(sg.map λx=>-x).map (λx=>-x)=sg:=by
 rw[aH];conv=>rhs;rw[<-fG sg]
 exact cE λx _=>by simp
theorem FH(ns:List Int):BL c [.scr ns]=.ok (.bl true):=by
 have sz:1000<sizeLine:=by decide
 obtain⟨d,us,ed,hd,gu,lu⟩:=FE (c:=c) ns 4 (by omega);rw[<-GW] at ed;let n:=us.length;let usN:=us.map λu=>u.map λx=>-1*x;have gN:zd d 88 usN:=by show zd d 88 (us.map λu=>u.map λx=>-1*x);rw[Ot];exact (Jj gu (λ_=>-1) λi _=>⟨by decide,by decide⟩).mono (by decide)
 have gR:zd d 88 us.reverse:=(KJ gu).mono (by decide);have gM:zd d 88 (vf us):=by rw[LN];exact (Jj gu _ λi hi=>⟨by omega,by omega⟩).mono (by decide)
 let cN:Option W:=some (.p (kY c d usN));let cR:Option W:=some (.p (kY c d us.reverse));let cM':Option W:=some (.p (kY c d (vf us)));let R0 (x3 x4 x5 x6:Option W):En:=[some (.p (.scr ns)),some (.p (.int d)),some (.p (.lst (us.map tI))),x3,x4,x5,x6,none,none,none,none,none,none,none];let x3:Option W:=some (.p (kY c d us));let R (S:List (List (Int×Int))) (x8 x9 x10 x11 x12 x13:Option W):En:=[some (.p (.scr ns)),some (.p (.int d)),some (.p (.lst (us.map tI))),x3,cN,cR,cM',some (.o (S.map tS)),x8,x9,x10,x11,x12,x13];have i3:=vJ (c:=c) d 84 us hd (by decide) gu;have iN:=vJ (c:=c) d 88 usN hd (by decide) gN;have iR:=vJ (c:=c) d 88 us.reverse hd (by decide) gR;have iM:=vJ (c:=c) d 88 (vf us) hd (by decide) gM;have ul:∀u∈us,u.length<=4:=λu hu=>by have:=(gu.gc u hu).gl.1;omega
 have eN:jJ [none] (ig (fL 2)) (jo 0) (λ_=>.ok true) (zr c) (nV (R0 x3 none none none))=.ok (usN.map tI):=by
  refine jv us tI (λu=>tI (u.map λx=>-1*x)) rfl (by omega) (λu hu=>⟨_,rfl,rfl,?_⟩) (by simp[usN]);have:jJ [none] (ig (fL 0)) (jo 0) (λ_=>.ok true) (yE c) [some (tI u)]=.ok ((u.map λx=>-1*x).map T.int):=jv u T.int (λx=>T.int (-1*x)) rfl (by have:=ul u hu;omega) (λx hx=>⟨_,rfl,rfl,by show M.ok (T.int (-x))=_;rw[show -1*x = -x by omega]⟩) (by rw[aH];rfl)
  exact nM this rfl
 have eM:jJ [none,some 2] (lK (fK (jq jy (fK (fL 2) fP)) fP)) (jo 0) (λ_=>.ok true) (yo c) (nV (R0 x3 cN cR none))=.ok ((vf us).map tI):=by
  refine jv (List.range n) (λ(k:Nat)=>T.int (k:Int)) (λk=>tI ((us.getD k []).map λx=>(2+(k:Int))*x)) (pT n (by omega) (ou rfl (by simp[n]))) (by simp;omega) (λk hk=>⟨_,rfl,rfl,?_⟩) (by unfold vf;rw[aH];rfl);have kl:=aR.mp hk;have eu:us.getD k []=us[k]:=by rw[af,ag kl];rfl
  have hu:us.getD k []∈us:=by rw[eu];exact aU kl
  have ix:gX (.lst (us.map tI)) (.int (k:Int))=.ok (tI (us.getD k [])):=MY _ _ _ (by rw[av,ag kl,eu];rfl);have:jJ [none,some 0] (ig (fX gX (fL 1) (fL 0))) (jo 0) (λ_=>.ok true) (yW c) [some (.int (k:Int)),some (.lst (us.map tI))]=.ok (((us.getD k []).map λx=>(2+(k:Int))*x).map T.int):=jv (us.getD k []) T.int (λx=>T.int ((2+(k:Int))*x)) (EA (fR rfl rfl ix)) (by have:=ul _ hu;omega) (λx hx=>⟨_,rfl,rfl,fR (fR rfl rfl (iU _ _)) rfl (jM (by omega))⟩) (by rw[aH];rfl)
  exact nM this rfl
 have el:=CC (c:=c) n (by omega);obtain⟨ρ,e,S,x8,x9,x10,rfl,hS,lS⟩:=iH (m:=jF 8) (g:=tT c) tI
  (λk ρ=>∃(S:List (List (Int×Int))) (x8 x9 x10:Option W),ρ=R S x8 x9 x10 none none none/\(∀s∈S,RU d s)/\S.length<=k) (mR n) 0 (R [] none none none none none none) ⟨[],none,none,none,rfl,(λs hs=>nomatch hs),aJ _⟩ (by
   rintro k sg ρ hi ⟨S,x8,x9,x10,rfl,hS,lS⟩;rw[aF] at lS ⊢;have hs:=vZ n sg (au hi);have kl:=(aa.mp hi).1;have al:(mR n).length<=81:=by rw[sD];exact aM (cY (by decide) (show n<=4 by omega)) (by decide)
   let y8:Option W:=some (.p (tI sg));have body:∀(b:Bool) (fo:T) (S':List (List (Int×Int))),jL c [kY c d us,tI sg]=.ok fo->jD c [kY c d us,.lst (us.map tI),.int d,tI sg]=.ok (.bl b)->(if b=true then ∃X,F7 us d sg X else ∃ws,Kg us d sg ws)->(b=true->∃s,fo=.tup [.str "spot",tS s]/\S'=S++[s])->(b=false->S'=S)->∃z9 z10,tT c (R S y8 x9 x10 none none none)=.nx (R S' y8 z9 z10 none none none):=λb fo S' eh e2 hb h1 h0=>by
    obtain⟨t1,e1⟩:=zx (c:=c) hd gN (by rw[show usN.length=n by simp[usN,n]];exact Lf hs) hs (λX=>⟨λh=>Es h hs.len,λh=>by have:=Es h (by rw[aw,hs.len];simp[usN,n]);rw[HE,NK] at this;exact this⟩) b hb
    obtain⟨t2,e3⟩:=zx (c:=c) (sg':=sg.reverse) hd gR (by rw[cD];exact LZ hs) hs (λX=>⟨λh=>Fk h hs.len,λh=>by have:=Fk h (by rw[cD,cD];exact hs.len);rw[fH,fH] at this;exact this⟩) b hb
    obtain⟨t3,e4⟩:=zx (c:=c) (sg':=sg) hd gM (by rw[show (vf us).length=n by simp[vf,n]];exact hs) hs (λX=>K9 hs.len) b hb;let st:T:=.str (if b=true then "spot" else "paper");let L:List T:=[.tup [st,t1],.tup [st,t2],.tup [st,t3]];let y9:Option W:=some (.p (.bl b));let y10:Option W:=some (.p (.lst L));have n9:jJ [none] (ig (fL 8)) (jo 0) (λ_=>.ok true) (t7 c) (nV (R S y8 y9 x10 none none none))=.ok ((sg.map λx=>-x).map T.int):=jv sg T.int (λx=>T.int (-x)) rfl (by rw[hs.len];omega) (λx hx=>⟨_,rfl,rfl,rfl⟩) (by rw[aH];rfl)
    have s10:iO (lstM (fK (fW (fK (fL 4) (fK (jq i9 (fK (iO (jJ [none] (ig (fL 8)) (jo 0) (λ_=>.ok true) (t7 c))) fP)) fP)) (jL c)) (fK (fW (fK (fL 5) (fK (fX Pz (fL 8) (uG (λi=>.int (-i)) (cM (.int 1)))) fP)) (jL c)) (fK (fW (fK (fL 6) (fK (fL 8) fP)) (jL c)) fP)))) (nV (R S y8 y9 x10 none none none))=.ok (.lst L):=P3 (hW (y:=tI (sg.map λx=>-x)) rfl (nM n9 rfl) e1) (hW (y:=tI sg.reverse) rfl (fR (x:=tI sg) (y:=.int (-1)) rfl rfl (QJ sg)) e3) (hW rfl rfl e4)
    have es:gD false st (.str "spot")=.ok (.bl b):=by cases b with | true=>exact Ik | false=>exact Jy
    have l10:jJ [none,some 9] (ig (fL 10)) (jo 0) (λ_=>.ok true) (rL c) (vw (R S y8 y9 y10 none none none))=.ok [.bl true,.bl true,.bl true]:=by refine jv [t1,t2,t3] (λt=>T.tup [st,t]) (λ_=>T.bl true) rfl (by show 3<_;omega) (λt ht=>⟨_,rfl,rfl,fR (fR (x:=st) (fR rfl rfl rfl) rfl es) rfl (by rw[Sm];simp)⟩) rfl
    have c1:gO (fX (jS false) (fL 9) (cM .non)) (vw (R S y8 y9 x10 none none none))=.ok false:=rfl;have c2:gO (fX (gD true) (iO (jJ [none,some 9] (ig (fL 10)) (jo 0) (λ_=>.ok true) (rL c))) (iO (lstM (fK (cM (.bl true)) (fK (cM (.bl true)) (fK (cM (.bl true)) fP)))))) (vw (R S y8 y9 y10 none none none))=.ok false:=gx (fR (iY l10) (P3 rfl rfl rfl) RJ);refine⟨y9,y10,fT (ρ':=R S y8 y9 x10 none none none) (gh (HN rfl rfl rfl rfl e2) rfl) (fT (gY c1 rfl) (fT (ρ':=R S y8 y9 y10 none none none) (gh s10 rfl) (fT (gY c2 rfl) ?_)))⟩;cases b with
    | false=>rw[h0 rfl];exact gY rfl rfl
    | true=>obtain⟨s,hfo,hS'⟩:=h1 rfl;rw[hS'];refine iw rfl (tG (us:=S.map tS) (t:=tS s) rfl (fR (x:=.tup [.str "spot",tS s]) (hW rfl rfl (by rw[<-hfo];exact eh)) rfl rfl) (by rw[aw];omega) (by simp[R]))
   rcases sE (c:=c) d us hd gu sg hs with⟨ws,eh,p,e2⟩ | ⟨s,eh,p,e2⟩
   ·obtain⟨z9,z10,eb⟩:=body false _ S eh e2 (by rw[aQ (by decide)];exact⟨ws,p⟩) (λz=>by cases z) (λ_=>rfl);exact⟨_,_,rfl,.inl eb,S,_,_,_,rfl,hS,by omega⟩
   ·obtain⟨z9,z10,eb⟩:=body true _ (S++[s]) eh e2 (by rw[aP rfl];exact⟨_,p.side⟩) (λ_=>⟨s,rfl,rfl⟩) (λz=>by cases z);refine⟨_,_,rfl,.inl eb,S++[s],_,_,_,rfl,λq hq=>?_,by simp;omega⟩;rcases ai.mp hq with z | z
    ·exact hS q z
    ·rw[aj.mp z];exact⟨p.len,p.fq,p.wts⟩)
 have al:(mR n).length<=81:=by rw[sD];exact aM (cY (by decide) (show n<=4 by omega)) (by decide)
 rw[aF] at lS;let m6:=min 6 S.length;obtain⟨cell,hcell⟩:∃cell:Nat->Int,∀k:Nat,ij c [.scr ns,.int (k:Int)]=.ok (.int (cell k)):=⟨λk=>Classical.choose (pA (c:=c) ns k),λk=>(Classical.choose_spec (pA (c:=c) ns k)).1⟩;obtain⟨ρ,e',y11,y12,y13,rfl⟩:=iH (m:=jF 11) (g:=yZ c) (λ(k:Nat)=>T.int (k:Int))
  (λ_ ρ=>∃y11 y12 y13:Option W,ρ=R S x8 x9 x10 y11 y12 y13) (List.range m6) 0 (R S x8 x9 x10 none none none) ⟨none,none,none,rfl⟩ (by
   rintro k k' ρ hi ⟨y11,y12,y13,rfl⟩;have hin:k<m6:=by simpa using (aa.mp hi).1
   have hki:k'=k:=by rw[List.getElem?_range hin] at hi;cases hi;rfl
   subst hki;have sp:0<S.length:=by omega
   let v:=cell (6+k');obtain⟨d1,d1a,d1b⟩:=kc (c:=c) v 0 S.length (by omega) (by omega) (by decide) (by decide);obtain⟨d2,d2a,d2b⟩:=kc (c:=c) v 1 S.length (by omega) (by omega) (by decide) (by decide);obtain⟨a,ea,ha⟩:=xg S _ d1a d1b;obtain⟨b,eb,hb⟩:=xg S _ d2a d2b;obtain⟨s,es,l1,l2,l3⟩:=Mw (c:=c) d hd.2 a b (hS a ha) (hS b hb);let z11:Option W:=some (.p (.int k'));let z12:Option W:=some (.p (.int v));let z13:Option W:=some (.p (tS s));let sg:=us.map λu=>Gf (jX d (Xs s) (vc u));have hsg:Az us.length sg:=⟨by simp[sg],λx hx=>by obtain⟨u,-,rfl⟩:=aC.mp hx;exact Mv _⟩;have e1:jJ [none,some 13] (ig (fL 2)) (jo 0) (λ_=>.ok true) (wG c) (vw (R S x8 x9 x10 z11 z12 z13))=.ok (sg.map T.int):=jv us tI (λu=>T.int (Gf (jX d (Xs s) (vc u)))) rfl (by omega) (λu hu=>⟨_,rfl,rfl,hW rfl rfl (A7 (B:=84) (by omega) d u (gu.gc u hu).gl hd.2 s l1 l2 l3)⟩) (by simp[sg])
   have et:jD c [kY c d us,.lst (us.map tI),.int d,tI sg]=.ok (.bl true):=by
    rcases sE (c:=c) d us hd gu sg hsg with⟨ws,-,p,-⟩ | ⟨_,-,-,e2⟩
    ·exact (zY hsg LG p).elim
    ·exact e2
   have ixa:gX (.lst (S.map tS)) (.int (dr c v 0 S.length))=.ok (tS a):=by simp[o9,ea]
   have ixb:gX (.lst (S.map tS)) (.int (dr c v 1 S.length))=.ok (tS b):=by simp[o9,eb]
   have ln:∀ρ,(fL 7) ρ=.ok (.lst (S.map tS))->jq jy (fK (fL 7) fP) ρ=.ok (.int (S.length:Int)):=λρ h=>ou h (by simp);refine⟨_,_,rfl,.inl (fT (ρ':=R S x8 x9 x10 z11 z12 y13) (gh (hW (x:=.scr ns) (y:=.int ((6+k':Nat):Int)) rfl (fR rfl rfl (by rw[iU];simp)) (hcell _)) rfl) (fT (ρ':=R S x8 x9 x10 z11 z12 z13) (sG (t:=tS s) (hW (x:=tS a) (y:=tS b) (fR (x:=.lst (S.map tS)) rfl (lg rfl rfl (ln _ rfl) d1) ixa) (fR (x:=.lst (S.map tS)) rfl (lg rfl rfl (ln _ rfl) d2) ixb) es) (by simp[tS]) rfl) (gY (gx (fR (HN (u:=tI sg) rfl rfl rfl (nM e1 rfl) et) rfl Qv)) rfl))),_,_,_,rfl⟩)
 have R1:jq nN (fK (cM (.int 6)) (fK (jq jy (fK (fL 7) fP)) fP)) (vw (R S x8 x9 x10 none none none))=.ok (.int (m6:Int)):=by
  have h:jq jy (fK (fL 7) fP) (vw (R S x8 x9 x10 none none none))=.ok (.int (S.length:Int)):=ou (t:=.lst (S.map tS)) rfl (by simp);have:nN [.int 6,.int (S.length:Int)]=.ok (.int (m6:Int)):=by simp[nN,m6];omega
  have step:∀(f:Pe->M T) (ρ:Pe) (a b r:T),f ρ=.ok b->nN [a,b]=.ok r->jq nN (fK (cM a) (fK f fP)) ρ=.ok r:=λf ρ a b r h1 h2=>by simp only[jq,fK,fP,cM,h1,M.bind_ok,h2]
  exact step _ _ _ _ _ h this
 exact gS rfl (fT (OG (t:=.tup [.int d,.lst (us.map tI)]) (ρ':=R0 none none none none) (lg rfl rfl rfl ed) rfl) (fT (ρ':=R0 x3 none none none) (gh (hW rfl rfl i3) rfl) (fT (ρ':=R0 x3 cN none none) (gh (hW rfl (iY eN) iN) rfl) (fT (ρ':=R0 x3 cN cR none) (gh (hW (y:=.lst (us.reverse.map tI)) rfl (fR (x:=.lst (us.map tI)) (y:=.int (-1)) rfl rfl (Ox us)) iR) rfl) (fT (ρ':=R0 x3 cN cR cM') (gh (hW rfl (iY eM) iM) rfl) (fT (ρ':=R [] none none none none none none) (mm (ts:=[]) (by simp) rfl) (fT (jb (Ic (hW (x:=tI [-1,0,1]) (RG rfl rfl rfl) (ou rfl (by simp[n])) el)) e) (fT (n0 (pT m6 (by omega) R1) e') (gB rfl)))))))))
end CL
namespace K14
open PySem L2 L3 CL
def gJ(i:Nat):Stmt:=PySem.Challenge.pw_cutlands_k14_whole_all_signs.main.body.getD i (.Pass ⟨0,0,0,0⟩)
structure Er(c:Cs)(K:W.Frag)(mg:Str->Option Value):Prop where
 here:True
 cl_Cutting:Ba K c.Cutting
 na_Cutting_own_cuts:mZ K c.Cutting "own_cuts"
 na_Cutting_own_dims:mZ K c.Cutting "own_dims"
 mk_Cutting:W.makesIn K c.Cutting=true
 kp_Cutting:W.keepIn K (.ref c.Cutting)=true
 mg_Cutting:mg "Cutting" = some (.ref c.Cutting)
 k_MOST_CUTS:∃t,mg "MOST_CUTS" = some (.int 7 t)
 k_MOST_DIMS:∃t,mg "MOST_DIMS" = some (.int 3 t)
section
variable {P:Program}{w:World}{K:W.Frag}{mg:Str->Option Value}{base:Heap}{c:Cs}
theorem Ca:f7 ["thing"] ["thing"] (fU (gJ 8)):=by constructor<;>first|rfl|decide +kernel
theorem Bd(D:gq K mg "is_whole" (gJ 8))(B:Bs mg)(ER:Er c K mg):fV P w K mg base "is_whole" 1 (iE K (jH c)):=jt D Ca (fun | _,_,_,_,_,_,[_],_=>rfl) λf cdv A outer s H E hr=>⟨_,(fQ (f6 (tf (nI "int" (by decide) B.isinstance B.int Av (fJ 0)) (rF (DL (nI "bool" (by decide) B.isinstance B.bool ED (fJ 0)))))))⟩
theorem CT:f7 ["number"] ["number"] (fU (gJ 10)):=by constructor<;>first|rfl|decide +kernel
theorem CV(D:gq K mg "sign_of" (gJ 10))(B:Bs mg)(ER:Er c K mg):fV P w K mg base "sign_of" 1 (iE K (nC c)):=
 jt D CT (fun | _,_,_,_,_,_,[_],_=>rfl) λf cdv A outer s H E hr=>⟨_,(fN (gK (iz xk wc (fJ 0) fS) (fQ (f6 fS)) gw)
  (fN (gK (iz uJ uE (fJ 0) fS) (fQ (f6 (kW fS))) gw)
  (fQ (f6 fS))))⟩
theorem ka:f7 ["one", "other", "rest"] ["one", "other"] (fU (gJ 11)):=by constructor<;>first|rfl|decide +kernel
theorem rW(D:gq K mg "common_divisor" (gJ 11))(B:Bs mg)(ER:Er c K mg):fV P w K mg base "common_divisor" 1 (iE K (iZ c)):=
 jt D ka (fun | _,_,_,_,_,_,[_,_],_=>rfl) λf cdv A outer s H E hr=>⟨_,(fN (zM (λρ=>match ρ with | _::some (.p (.int j))::_=>j.natAbs+1 | _=>0) PassesOwn.never (ki hr (fJ 1) fS) (fN (fY 2 ka.nd (Or.inl rfl) (qb (fJ 0) (fJ 1)))
  (fN (fY 0 ka.nd (Or.inl rfl) (fJ 1))
  (fQ (fY 1 ka.nd (Or.inl rfl) (fJ 2))))))
  (fQ (f6 (gF sk zH (by rfl) B.abs zR (fI (fJ 0) fM)))))⟩
theorem Md:f7 ["one", "other"] ["one", "other"] (fU (gJ 19)):=by constructor<;>first|rfl|decide +kernel
theorem KP(D:gq K mg "less" (gJ 19))(B:Bs mg)(ER:Er c K mg):fV P w K mg base "less" 1 (iE K (kH c)):=jt D Md (fun | _,_,_,_,_,_,[_,_],_=>rfl) λf cdv A outer s H E hr=>⟨_,(fQ (f6 (rM uJ uE (ie (gy (fJ 0) fS) (gy (fJ 1) fS)) (ie (gy (fJ 1) fS) (gy (fJ 0) fS)))))⟩
theorem Cf:f7 ["one"] ["one"] (fU (gJ 20)):=by constructor<;>first|rfl|decide +kernel
theorem Bb(D:gq K mg "floor_of" (gJ 20))(B:Bs mg)(ER:Er c K mg):fV P w K mg base "floor_of" 1 (iE K (lE c)):=jt D Cf (fun | _,_,_,_,_,_,[_],_=>rfl) λf cdv A outer s H E hr=>⟨_,(fQ (f6 (nq (gy (fJ 0) fS) (gy (fJ 0) fS))))⟩
theorem ym:f7 ["one"] ["one"] (fU (gJ 21)):=by constructor<;>first|rfl|decide +kernel
theorem yj(D:gq K mg "ceiling_of" (gJ 21))(B:Bs mg)(ER:Er c K mg):fV P w K mg base "ceiling_of" 1 (iE K (kS c)):=jt D ym (fun | _,_,_,_,_,_,[_],_=>rfl) λf cdv A outer s H E hr=>⟨_,(fQ (f6 (kW (nq (kW (gy (fJ 0) fS)) (gy (fJ 0) fS)))))⟩
theorem mK:f7 ["cuts", "rows", "k", "cut", "weights"] ["cuts"] (fU (gJ 23)):=by constructor<;>first|rfl|decide +kernel
theorem B0(D:gq K mg "weighted" (gJ 23))(B:Bs mg)(ER:Er c K mg):fV P w K mg base "weighted" 1 (uu K (pF c)):=
 DE D mK (fun | _,_,_,_,_,_,[_],_=>rfl) λf cdv A outer s H E hr=>⟨_,(fN (jY 1 mK.nd (Or.inl rfl) (jg fM))
  (fN (ja PassesOwn.never rfl (Lc B.enumerate (fI (fJ 0) fM)) (oW 2 rfl (iG (iA 2 mK.nd (Or.inl rfl)) (iG (iA 3 mK.nd (Or.inl rfl)) lW))) (fN (jY 4 mK.nd (Or.inl rfl) (Au (gZ (jg (fI fS fM))) (gF (ir (K:=K)) jA (by rfl) B.len jz (fI (fJ 0) fM))))
  (fN (vF 4 (pv 4) (fJ 2) fS)
  (fQ (IZ 1 (pv 1) (iT (fJ 3) (iS (iC (K:=K)) jd (by rfl) B.tuple iQ (fI (fJ 4) fM))))))))
  (fQ (sO 1 (pv 1)))))⟩
theorem pZ:f7 ["pivots", "dims", "taken"] ["pivots", "dims"] (fU (gJ 27)):=by constructor<;>first|rfl|decide +kernel
theorem vN(D:gq K mg "free_places" (gJ 27))(B:Bs mg)(ER:Er c K mg):fV P w K mg base "free_places" 1 (uu K (my c)):=
 DE D pZ (fun | _,_,_,_,_,_,[_,_],_=>rfl) λf cdv A outer s H E hr=>⟨_,(fN (fY 2 pZ.nd (Or.inr rfl) (gZ (jC (N:=["place", "pivot"]) (ix:=[none,none]) rfl (gW (fJ 0)) (jZ (N:=["place", "pivot"]) (ix:=[none,none]) (λ_ h=>gG h) (by rfl)) (jP rfl rfl) (λ_ _ _ _ _=>⟨(oX 2 rfl (iF (iD 0 (show List.Nodup (α:=Str) ["place", "pivot"] by decide) (Or.inl rfl)) (iF (iD 1 (show List.Nodup (α:=Str) ["place", "pivot"] by decide) (Or.inl rfl)) lR))),iq,(fJ 0)⟩))))
  (fQ (xc (jC (N:=["place", "taken"]) (ix:=[none,some 2]) rfl (Ak.pim (lQ B.range (fI (fJ 1) fM))) (jZ (N:=["place", "taken"]) (ix:=[none,some 2]) (λ_ h=>gG h) (by rfl)) (gI rfl) (λ_ _ _ _ _=>⟨(iD 0 (show List.Nodup (α:=Str) ["place", "taken"] by decide) (Or.inl rfl)),(l6 (iz (GI (K:=K)) (QP true) (fJ 0) (fJ 1) (by rfl))),(fJ 0)⟩)))))⟩
theorem Fv:f7 ["row", "sign"] ["row", "sign"] (fU (gJ 33)):=by constructor<;>first|rfl|decide +kernel
theorem GK(D:gq K mg "turned" (gJ 33))(B:Bs mg)(ER:Er c K mg):fV P w K mg base "turned" 1 (iE K (ox c)):=jt D Fv (fun | _,_,_,_,_,_,[_,_],_=>rfl) λf cdv A outer s H E hr=>⟨_,(fQ (f6 (iS (iC (K:=K)) jd (by rfl) B.tuple iQ (fI (gZ (jC (N:=["number", "sign"]) (ix:=[none,some 1]) rfl (gW (fJ 0)) (jZ (N:=["number", "sign"]) (ix:=[none,some 1]) (λ_ h=>gG h) (by rfl)) (gI rfl) (λ_ _ _ _ _=>⟨(iD 0 (show List.Nodup (α:=Str) ["number", "sign"] by decide) (Or.inl rfl)),iq,(ie (fJ 1) (fJ 0))⟩))) fM))))⟩
theorem nK:f7 ["cut", "place"] ["cut"] (fU (gJ 48)):=by constructor<;>first|rfl|decide +kernel
theorem wO(D:gq K mg "first_place" (gJ 48))(B:Bs mg)(ER:Er c K mg):fV P w K mg base "first_place" 1 (iE K (mI c)):=
 jt D nK (fun | _,_,_,_,_,_,[_],_=>rfl) λf cdv A outer s H E hr=>⟨_,(fN (fY 1 nK.nd (Or.inl rfl) fS)
  (fN (zM (λρ=>match ρ with | some (.p (.tup ts))::_=>ts.length+1 | _=>0) PassesOwn.never (jE hr (gy (fJ 0) (fJ 1)) fS) (fQ (fY 1 nK.nd (Or.inl rfl) (iT (fJ 1) fS))))
  (fQ (f6 (fJ 1)))))⟩
theorem vn:f7 ["self"] ["self"] (fU (lq (gJ 52) 1)):=by constructor<;>first|rfl|decide +kernel
theorem uV(D:mw K c.Cutting "dims" "Cutting.dims" (lq (gJ 52) 1))(B:Bs mg)(ER:Er c K mg):lC P w K mg base c.Cutting "dims" 1 (iE K (kG c)):=MH ER.cl_Cutting D vn (fun | _,_,_,_,_,_,[_],_=>rfl) λf cdv A outer s H E hr=>⟨_,(fQ (f6 (CB rfl ER.cl_Cutting ER.na_Cutting_own_dims (fJ 0))))⟩
theorem uR:f7 ["self"] ["self"] (fU (lq (gJ 52) 2)):=by constructor<;>first|rfl|decide +kernel
theorem uQ(D:mw K c.Cutting "cuts" "Cutting.cuts" (lq (gJ 52) 2))(B:Bs mg)(ER:Er c K mg):lC P w K mg base c.Cutting "cuts" 1 (uu K (ky c)):=P6 ER.cl_Cutting D uR (fun | _,_,_,_,_,_,[_],_=>rfl) λf cdv A outer s H E hr=>⟨_,(fQ (xc (nH (mv (K:=K)) oN (by rfl) B.list nk (fI (CB rfl ER.cl_Cutting ER.na_Cutting_own_cuts (fJ 0)) fM))))⟩
theorem uX:f7 ["self"] ["self"] (fU (lq (gJ 52) 3)):=by constructor<;>first|rfl|decide +kernel
theorem vh(D:mw K c.Cutting "many" "Cutting.many" (lq (gJ 52) 3))(B:Bs mg)(ER:Er c K mg):lC P w K mg base c.Cutting "many" 1 (iE K (ko c)):=MH ER.cl_Cutting D uX (fun | _,_,_,_,_,_,[_],_=>rfl) λf cdv A outer s H E hr=>⟨_,(fQ (f6 (gF (ir (K:=K)) jA (by rfl) B.len jz (fI (CB rfl ER.cl_Cutting ER.na_Cutting_own_cuts (fJ 0)) fM))))⟩
theorem vU:f7 ["_law_script", "_law_k"] ["_law_script", "_law_k"] (fU (gJ 54)):=by constructor<;>first|rfl|decide +kernel
theorem wj(D:gq K mg "_law_cell_at" (gJ 54))(B:Bs mg)(ER:Er c K mg):fV P w K mg base "_law_cell_at" 1 (iE K (ij c)):=
 jt D vU (fun | _,_,_,_,_,_,[_,_],_=>rfl) λf cdv A outer s H E hr=>⟨_,(fN (gK (iz uJ uE (fJ 1) (gF (ir (K:=K)) jA (by rfl) B.len jz (fI (fJ 0) fM))) (fQ (f6 (gy (fJ 0) (fJ 1)))) gw)
  (fQ (f6 fS)))⟩
theorem lL:f7 ["_law_cell", "_law_k", "_law_bound", "_law_left", "_law_j", "_law_stir"] ["_law_cell", "_law_k", "_law_bound"] (fU (gJ 55)):=by constructor<;>first|rfl|decide +kernel
theorem Cc(D:gq K mg "_law_draw" (gJ 55))(B:Bs mg)(ER:Er c K mg):fV P w K mg base "_law_draw" 1 (iE K (gz c)):=
 jt D lL (fun | _,_,_,_,_,_,[_,_,_],_=>rfl) λf cdv A outer s H E hr=>⟨_,(fN (gK (iz EF Ez (fJ 0) (Dh fS fS)) (fN (fY 3 lL.nd (Or.inl rfl) (fJ 0))
  (fN (oM PassesOwn.never rfl (lQ B.range (fI (fJ 1) fM)) (iA 4 lL.nd (Or.inl rfl)) (fQ (fY 3 lL.nd (Or.inl rfl) (nq (fJ 3) (fJ 2)))))
  (fQ (f6 (qb (fJ 3) (fJ 2)))))) gw)
  (fN (fY 5 lL.nd (Or.inl rfl) (qb (ie (iT (iT (qb (fJ 0) fS) (ie fS (fJ 1))) fS) fS) fS))
  (fN (fY 5 lL.nd (Or.inl rfl) (qb (iT (iT (ie (fJ 5) (fJ 5)) (ie fS (fJ 1))) fS) fS))
  (fQ (f6 (qb (nq (qb (ie (fJ 5) fS) fS) fS) (fJ 2)))))))⟩
theorem Aq:f7 ["_law_found"] ["_law_found"] (fU (gJ 56)):=by constructor<;>first|rfl|decide +kernel
theorem Ao(D:gq K mg "_law_whole" (gJ 56))(B:Bs mg)(ER:Er c K mg):fV P w K mg base "_law_whole" 1 (iE K (jj c)):=jt D Aq (fun | _,_,_,_,_,_,[_],_=>rfl) λf cdv A outer s H E hr=>⟨_,(fQ (f6 (tf (nI "int" (by decide) B.isinstance B.int Av (fJ 0)) (rF (DL (nI "bool" (by decide) B.isinstance B.bool ED (fJ 0)))))))⟩
theorem mG:f7 ["_law_one", "_law_other"] ["_law_one", "_law_other"] (fU (gJ 57)):=by constructor<;>first|rfl|decide +kernel
theorem xI(D:gq K mg "_law_common" (gJ 57))(B:Bs mg)(ER:Er c K mg):fV P w K mg base "_law_common" 1 (iE K (jU c)):=
 jt D mG (fun | _,_,_,_,_,_,[_,_],_=>rfl) λf cdv A outer s H E hr=>⟨_,(fN (fY 0 mG.nd (Or.inl rfl) (gF sk zH (by rfl) B.abs zR (fI (fJ 0) fM)))
  (fN (fY 1 mG.nd (Or.inl rfl) (gF sk zH (by rfl) B.abs zR (fI (fJ 1) fM)))
  (fN (zM (λρ=>match ρ with | _::some (.p (.int j))::_=>j.natAbs+1 | _=>0) PassesOwn.never (iz xk wc (fJ 1) fS) (fQ (LI (i:=0) (j:=1) rfl mG.nd rfl rfl (by decide) rfl rfl (fI (fJ 1) (fI (qb (fJ 0) (fJ 1)) fM)) (by rfl))))
  (fQ (f6 (fJ 0))))))⟩
theorem qA:f7 ["_law_one", "_law_other", "_law_k", "_law_j"] ["_law_one", "_law_other"] (fU (gJ 60)):=by constructor<;>first|rfl|decide +kernel
theorem BV(D:gq K mg "_law_same" (gJ 60))(B:Bs mg)(ER:Er c K mg):fV P w K mg base "_law_same" 1 (iE K (lG c)):=
 jt D qA (fun | _,_,_,_,_,_,[_,_],_=>rfl) λf cdv A outer s H E hr=>⟨_,(fN (oM PassesOwn.never rfl (lQ B.range (fI (gF (ir (K:=K)) jA (by rfl) B.len jz (fI (fJ 0) fM)) fM)) (iA 2 qA.nd (Or.inl rfl)) (fQ (oM PassesOwn.never rfl (lQ B.range (fI (fJ 2) fM)) (iA 3 qA.nd (Or.inl rfl)) (fQ (gK (ki hr (ie (gy (fJ 0) (fJ 2)) (gy (fJ 1) (fJ 3))) (ie (gy (fJ 0) (fJ 3)) (gy (fJ 1) (fJ 2)))) (fQ (f6 kJ)) gw)))))
  (fQ (f6 kJ)))⟩
theorem jG:f7 ["_law_cut_here", "_law_spot", "_law_top", "_law_bottom", "_law_number", "_law_part"] ["_law_cut_here", "_law_spot"] (fU (gJ 63)):=by constructor<;>first|rfl|decide +kernel
theorem xS(D:gq K mg "_law_side" (gJ 63))(B:Bs mg)(ER:Er c K mg):fV P w K mg base "_law_side" 1 (iE K (kQ c)):=
 jt D jG (fun | _,_,_,_,_,_,[_,_],_=>rfl) λf cdv A outer s H E hr=>⟨_,(fN (fY 2 jG.nd (Or.inl rfl) (kW (gy (fJ 0) (kW fS))))
  (fN (fY 3 jG.nd (Or.inl rfl) fS)
  (fN (ja PassesOwn.never rfl (lU B.zip (fI (fJ 0) (fI (fJ 1) fM))) (oW 2 rfl (iG (iA 4 jG.nd (Or.inl rfl)) (iG (iA 5 jG.nd (Or.inl rfl)) lW))) (fN (fY 2 jG.nd (Or.inl rfl) (iT (ie (fJ 2) (gy (fJ 5) fS)) (ie (ie (fJ 4) (gy (fJ 5) fS)) (fJ 3))))
  (fQ (fY 3 jG.nd (Or.inl rfl) (ie (fJ 3) (gy (fJ 5) fS))))))
  (fQ (f6 (rG (iS yL Fj (by rfl) B.int Av (fI (rM xk wc (fJ 2) fS) fM)) (iS yL Fj (by rfl) B.int Av (fI (rM uJ uE (fJ 2) fS) fM))))))))⟩
theorem mO:f7 ["_law_cuts_here", "_law_dims", "_law_signs", "_law_weights", "_law_weight", "_law_sign", "_law_totals", "_law_pushing"] ["_law_cuts_here", "_law_dims", "_law_signs", "_law_weights"] (fU (gJ 65)):=by constructor<;>first|rfl|decide +kernel
theorem Bt(D:gq K mg "_law_none" (gJ 65))(B:Bs mg)(ER:Er c K mg):fV P w K mg base "_law_none" 1 (iE K (mr c)):=
 jt D mO (fun | _,_,_,_,_,_,[_,_,_,_],_=>rfl) λf cdv A outer s H E hr=>⟨_,(fN (ja PassesOwn.never rfl (lU B.zip (fI (fJ 3) (fI (fJ 2) fM))) (oW 2 rfl (iG (iA 4 mO.nd (Or.inl rfl)) (iG (iA 5 mO.nd (Or.inl rfl)) lW))) (fQ (gK (iz uJ uE (ie (fJ 4) (fJ 5)) fS) (fQ (f6 kJ)) gw)))
  (fN (ub (N:=["_law_k", "_law_weights", "_law_cuts_here"]) (ix:=[none,some 3,some 0]) 6 mO.nd (Or.inl rfl) rfl (Ak.pim (lQ B.range (fI (iT (fJ 1) fS) fM))) (jZ (N:=["_law_k", "_law_weights", "_law_cuts_here"]) (ix:=[none,some 3,some 0]) (λ_ h=>gG h) (by rfl)) (gI rfl) (λ_ _ _ _ _=>⟨(iD 0 (show List.Nodup (α:=Str) ["_law_k", "_law_weights", "_law_cuts_here"] by decide) (Or.inr rfl)),iq,(gF (yK (K:=K) rfl) JA (by rfl) B.sum JC (fI (gZ (jC (N:=["_law_weight", "_law_cut_here", "_law_k"]) (ix:=[none,none,some 0]) rfl (lU B.zip (fI (fJ 1) (fI (fJ 2) fM))) (jZ (N:=["_law_weight", "_law_cut_here", "_law_k"]) (ix:=[none,none,some 0]) (Ds (jZ (N:=["_law_k", "_law_weights", "_law_cuts_here"]) (ix:=[none,some 3,some 0]) (λ_ h=>gG h) (by rfl))) (by rfl)) (jP rfl rfl) (λ_ _ _ _ _=>⟨(oX 2 rfl (iF (iD 0 (show List.Nodup (α:=Str) ["_law_weight", "_law_cut_here", "_law_k"] by decide) (Or.inl rfl)) (iF (iD 1 (show List.Nodup (α:=Str) ["_law_weight", "_law_cut_here", "_law_k"] by decide) (Or.inl rfl)) lR))),iq,(ie (fJ 0) (gy (fJ 1) (fJ 2)))⟩))) fM))⟩) rX)
  (fN (gK (ki hr (oS (fJ 6) tE (s9 (fJ 1))) (gZ (Au (gZ (jg (fI fS fM))) (fJ 1)))) (fQ (f6 kJ)) gw)
  (fN (ub (N:=["_law_weight", "_law_sign"]) (ix:=[none,none]) 7 mO.nd (Or.inl rfl) rfl (lU B.zip (fI (fJ 3) (fI (fJ 2) fM))) (jZ (N:=["_law_weight", "_law_sign"]) (ix:=[none,none]) (λ_ h=>gG h) (by rfl)) (jP rfl rfl) (λ_ _ _ _ _=>⟨(oX 2 rfl (iF (iD 0 (show List.Nodup (α:=Str) ["_law_weight", "_law_sign"] by decide) (Or.inl rfl)) (iF (iD 1 (show List.Nodup (α:=Str) ["_law_weight", "_law_sign"] by decide) (Or.inl rfl)) lR))),(l6 (ki hr (ie (fJ 0) (fJ 1)) fS)),(fJ 0)⟩) rX)
  (fQ (f6 (PU (rM xk wc (gy (fJ 6) (fJ 1)) fS) (rF (tf (BX hr (gy (fJ 6) (fJ 1)) fS) (rF (M7 hr (fJ 7) (gZ (jg fM)))))))))))))⟩
theorem lA:f7 ["_law_kinds", "_law_many", "_law_found", "_law_k", "_law_longer", "_law_signs"] ["_law_kinds", "_law_many"] (fU (gJ 68)):=by constructor<;>first|rfl|decide +kernel
theorem CG(D:gq K mg "_law_all" (gJ 68))(B:Bs mg)(ER:Er c K mg):fV P w K mg base "_law_all" 1 (iE K (qB c)):=
 jt D lA (fun | _,_,_,_,_,_,[_,_],_=>rfl) λf cdv A outer s H E hr=>⟨_,(fN (fY 2 lA.nd (Or.inl rfl) (gZ (jg (fI (ji fM) fM))))
  (fN (oM PassesOwn.never rfl (lQ B.range (fI (fJ 1) fM)) (iA 3 lA.nd (Or.inl rfl)) (fN (fY 4 lA.nd (Or.inl rfl) (gZ (jg fM)))
  (fN (ja PassesOwn.never rfl (gW (fJ 2)) (iA 5 lA.nd (Or.inr rfl)) (fQ (fY 4 lA.nd (Or.inl rfl) (gZ (Ct (fJ 4) (gZ (jC (N:=["_law_kind", "_law_signs"]) (ix:=[none,some 5]) rfl (gW (fJ 0)) (jZ (N:=["_law_kind", "_law_signs"]) (ix:=[none,some 5]) (λ_ h=>gG h) (by rfl)) (gI rfl) (λ_ _ _ _ _=>⟨(iD 0 (show List.Nodup (α:=Str) ["_law_kind", "_law_signs"] by decide) (Or.inl rfl)),iq,(iT (fJ 1) (ji (fI (fJ 0) fM)))⟩))))))))
  (fQ (fY 2 lA.nd (Or.inl rfl) (fJ 4))))))
  (fQ (f6 (fJ 2)))))⟩
theorem qM:f7 ["row", "divisor", "number"] ["row"] (fU (gJ 12)):=by constructor<;>first|rfl|decide +kernel
theorem GV(D:gq K mg "lowest" (gJ 12))(B:Bs mg)(ER:Er c K mg)(C_common_divisor:fV P w K mg base "common_divisor" 1 (iE K (iZ c))):fV P w K mg base "lowest" 2 (iE K (r6 c)):=
 jt D qM (fun | _,_,_,_,_,_,[_],_=>rfl) λf cdv A outer s H E hr=>⟨_,(fN (fY 1 qM.nd (Or.inr rfl) fS)
  (fN (ja PassesOwn.never rfl (gW (fJ 0)) (iA 2 qM.nd (Or.inl rfl)) (fN (fY 1 qM.nd (Or.inr rfl) (fZ C_common_divisor hr (fI (fJ 1) (fI (fJ 2) fM))))
  (fQ (gK (jE hr (fJ 1) fS) (fQ (f6 (fJ 0))) gw))))
  (fN (gK (jE hr (fJ 1) fS) (fQ (f6 (fJ 0))) gw)
  (fQ (f6 (iS (iC (K:=K)) jd (by rfl) B.tuple iQ (fI (gZ (jC (N:=["number", "divisor"]) (ix:=[none,some 1]) rfl (gW (fJ 0)) (jZ (N:=["number", "divisor"]) (ix:=[none,some 1]) (λ_ h=>gG h) (by rfl)) (gI rfl) (λ_ _ _ _ _=>⟨(iD 0 (show List.Nodup (α:=Str) ["number", "divisor"] by decide) (Or.inl rfl)),iq,(nq (fJ 0) (fJ 1))⟩))) fM)))))))⟩
theorem AN:f7 ["top", "bottom", "divisor"] ["top", "bottom"] (fU (gJ 15)):=by constructor<;>first|rfl|decide +kernel
theorem Mu(D:gq K mg "made" (gJ 15))(B:Bs mg)(ER:Er c K mg)(C_common_divisor:fV P w K mg base "common_divisor" 1 (iE K (iZ c))):fV P w K mg base "made" 2 (iE K (pR c)):=
 jt D AN (fun | _,_,_,_,_,_,[_,_],_=>rfl) λf cdv A outer s H E hr=>⟨_,(fN (gK (jE hr (fJ 1) fS) (fQ sT) gw)
  (fN (fY 2 AN.nd (Or.inl rfl) (fZ C_common_divisor hr (fI (fJ 0) (fI (fJ 1) fM))))
  (fN (gK (iz uJ uE (fJ 1) fS) (fQ (fY 2 AN.nd (Or.inl rfl) (kW (fJ 2)))) gw)
  (fQ (f6 (ji (fI (nq (fJ 0) (fJ 2)) (fI (nq (fJ 1) (fJ 2)) fM))))))))⟩
theorem Bx:f7 ["many", "thing"] ["many", "thing"] (fU (gJ 31)):=by constructor<;>first|rfl|decide +kernel
theorem Bq(D:gq K mg "is_signs" (gJ 31))(B:Bs mg)(ER:Er c K mg)(C_is_whole:fV P w K mg base "is_whole" 1 (iE K (jH c))):fV P w K mg base "is_signs" 2 (iE K (pk c)):=
 jt D Bx (fun | _,_,_,_,_,_,[_,_],_=>rfl) λf cdv A outer s H E hr=>⟨_,(fN (gK (om (ml (jK (kz (nI "tuple" (by decide) B.isinstance B.tuple iQ (fJ 1)))) (lV (ki hr (gF (ir (K:=K)) jA (by rfl) B.len jz (fI (fJ 1) fM)) (fJ 0))))) (fQ (f6 kJ)) gw)
  (fQ (f6 (gF (oG (K:=K) rfl) wM (by rfl) B.all wy (fI (gZ (jC (N:=["sign"]) (ix:=[none]) rfl (gW (fJ 1)) (jZ (N:=["sign"]) (ix:=[none]) (λ_ h=>gG h) (by rfl)) (gI rfl) (λ_ _ _ _ _=>⟨(iD 0 (show List.Nodup (α:=Str) ["sign"] by decide) (Or.inl rfl)),iq,(tf (fZ C_is_whole hr (fI (fJ 0) fM)) (rF (A5 yJ yI yJ yI (kW fS) (fJ 0) fS)))⟩))) fM)))))⟩
theorem kR:f7 ["low", "high", "whole"] ["low", "high"] (fU (gJ 37)):=by constructor<;>first|rfl|decide +kernel
theorem t9(D:gq K mg "whole_between" (gJ 37))(B:Bs mg)(ER:Er c K mg)(C_floor_of:fV P w K mg base "floor_of" 1 (iE K (lE c)))(C_less:fV P w K mg base "less" 1 (iE K (kH c)))(C_ceiling_of:fV P w K mg base "ceiling_of" 1 (iE K (kS c))):fV P w K mg base "whole_between" 2 (iE K (j4 c)):=
 jt D kR (fun | _,_,_,_,_,_,[_,_],_=>rfl) λf cdv A outer s H E hr=>⟨_,(fN (fY 2 kR.nd (Or.inl rfl) fS)
  (fN (gK (om (l7 (iz qL qC (fJ 0) j8) (lh (iz EF Ez (gy (fJ 0) fS) fS)))) (fQ (fY 2 kR.nd (Or.inl rfl) (iT (fZ C_floor_of hr (fI (fJ 0) fM)) fS))) (fQ (gK (om (l7 (iz qL qC (fJ 1) j8) (lh (iz yJ yI (gy (fJ 1) fS) fS)))) (fQ (fY 2 kR.nd (Or.inl rfl) (rG (fZ C_ceiling_of hr (fI (fJ 1) fM)) fS))) gw)))
  (fN (gK (om (l7 (iz qL qC (fJ 0) j8) (lh (jK (kz (fZ C_less hr (fI (fJ 0) (fI (ji (fI (fJ 2) (fI fS fM))) fM)))))))) (fQ (f6 j8)) gw)
  (fN (gK (om (l7 (iz qL qC (fJ 1) j8) (lh (jK (kz (fZ C_less hr (fI (ji (fI (fJ 2) (fI fS fM))) (fI (fJ 1) fM)))))))) (fQ (f6 j8)) gw)
  (fQ (f6 (fJ 2)))))))⟩
theorem nc:f7 ["rests", "dims", "rest"] ["rests", "dims"] (fU (gJ 40)):=by constructor<;>first|rfl|decide +kernel
theorem qT(D:gq K mg "paper_of_noughts" (gJ 40))(B:Bs mg)(ER:Er c K mg)(C_turned:fV P w K mg base "turned" 1 (iE K (ox c)))(C_sign_of:fV P w K mg base "sign_of" 1 (iE K (nC c))):fV P w K mg base "paper_of_noughts" 2 (iE K (i7 c)):=
 jt D nc (fun | _,_,_,_,_,_,[_,_],_=>rfl) λf cdv A outer s H E hr=>⟨_,(fN (ja PassesOwn.never rfl (gW (fJ 0)) (iA 2 nc.nd (Or.inl rfl)) (fQ (gK (ki hr (gy (fJ 2) (fJ 1)) fS) (fQ (f6 (gZ (nH (mv (K:=K)) oN (by rfl) B.list nk (fI (oS (fZ C_turned hr (fI (fJ 2) (fI (fZ C_sign_of hr (fI (gy (fJ 2) (fJ 1)) fM)) fM))) (s9 (iT (fJ 1) fS)) tE) fM))))) gw)))
  (fQ (f6 j8)))⟩
theorem C1:f7 ["thing"] ["thing"] (fU (gJ 46)):=by constructor<;>first|rfl|decide +kernel
theorem CP(D:gq K mg "is_dims" (gJ 46))(B:Bs mg)(ER:Er c K mg)(C_is_whole:fV P w K mg base "is_whole" 1 (iE K (jH c))):fV P w K mg base "is_dims" 2 (iE K (oA c)):=jt D C1 (fun | _,_,_,_,_,_,[_],_=>rfl) λf cdv A outer s H E hr=>⟨_,(fQ (f6 (tf (fZ C_is_whole hr (fI (fJ 0) fM)) (rF (A5 yJ yI yJ yI fS (fJ 0) (BW 3 ER.k_MOST_DIMS))))))⟩
theorem FP:f7 ["dims", "thing"] ["dims", "thing"] (fU (gJ 47)):=by constructor<;>first|rfl|decide +kernel
theorem FW(D:gq K mg "is_cut" (gJ 47))(B:Bs mg)(ER:Er c K mg)(C_is_whole:fV P w K mg base "is_whole" 1 (iE K (jH c))):fV P w K mg base "is_cut" 2 (iE K (qu c)):=
 jt D FP (fun | _,_,_,_,_,_,[_,_],_=>rfl) λf cdv A outer s H E hr=>⟨_,(fN (gK (om (ml (jK (kz (nI "tuple" (by decide) B.isinstance B.tuple iQ (fJ 1)))) (lV (ki hr (gF (ir (K:=K)) jA (by rfl) B.len jz (fI (fJ 1) fM)) (iT (fJ 0) fS))))) (fQ (f6 kJ)) gw)
  (fN (gK (jK (kz (gF (oG (K:=K) rfl) wM (by rfl) B.all wy (fI (gZ (jC (N:=["number"]) (ix:=[none]) rfl (gW (fJ 1)) (jZ (N:=["number"]) (ix:=[none]) (λ_ h=>gG h) (by rfl)) (gI rfl) (λ_ _ _ _ _=>⟨(iD 0 (show List.Nodup (α:=Str) ["number"] by decide) (Or.inl rfl)),iq,(fZ C_is_whole hr (fI (fJ 0) fM))⟩))) fM)))) (fQ (f6 kJ)) gw)
  (fQ (f6 (gF (yn (K:=K) rfl) IC (by rfl) B.any JO (fI (gZ (jC (N:=["number"]) (ix:=[none]) rfl (gW (oS (fJ 1) tE (s9 (fJ 0)))) (jZ (N:=["number"]) (ix:=[none]) (λ_ h=>gG h) (by rfl)) (gI rfl) (λ_ _ _ _ _=>⟨(iD 0 (show List.Nodup (α:=Str) ["number"] by decide) (Or.inl rfl)),iq,(M7 hr (fJ 0) fS)⟩))) fM))))))⟩
theorem rm:f7 ["one", "other", "place"] ["one", "other"] (fU (gJ 49)):=by constructor<;>first|rfl|decide +kernel
theorem yh(D:gq K mg "same_spots" (gJ 49))(B:Bs mg)(ER:Er c K mg)(C_first_place:fV P w K mg base "first_place" 1 (iE K (mI c))):fV P w K mg base "same_spots" 2 (iE K (nv c)):=
 jt D rm (fun | _,_,_,_,_,_,[_,_],_=>rfl) λf cdv A outer s H E hr=>⟨_,(fN (fY 2 rm.nd (Or.inr rfl) (fZ C_first_place hr (fI (fJ 0) fM)))
  (fQ (f6 (gF (oG (K:=K) rfl) wM (by rfl) B.all wy (fI (gZ (jC (N:=["mine", "theirs", "other", "place", "one"]) (ix:=[none,none,some 1,some 2,some 0]) rfl (lU B.zip (fI (fJ 0) (fI (fJ 1) fM))) (jZ (N:=["mine", "theirs", "other", "place", "one"]) (ix:=[none,none,some 1,some 2,some 0]) (λ_ h=>gG h) (by rfl)) (jP rfl rfl) (λ_ _ _ _ _=>⟨(oX 2 rfl (iF (iD 0 (show List.Nodup (α:=Str) ["mine", "theirs", "other", "place", "one"] by decide) (Or.inl rfl)) (iF (iD 1 (show List.Nodup (α:=Str) ["mine", "theirs", "other", "place", "one"] by decide) (Or.inl rfl)) lR))),iq,(BX hr (ie (fJ 0) (gy (fJ 2) (fJ 3))) (ie (fJ 1) (gy (fJ 4) (fJ 3))))⟩))) fM)))))⟩
theorem qW:f7 ["_law_top", "_law_bottom", "_law_share"] ["_law_top", "_law_bottom"] (fU (gJ 58)):=by constructor<;>first|rfl|decide +kernel
theorem yl(D:gq K mg "_law_lowest" (gJ 58))(B:Bs mg)(ER:Er c K mg)(C_law_common:fV P w K mg base "_law_common" 1 (iE K (jU c))):fV P w K mg base "_law_lowest" 2 (iE K (nu c)):=
 jt D qW (fun | _,_,_,_,_,_,[_,_],_=>rfl) λf cdv A outer s H E hr=>⟨_,(fN (fY 2 qW.nd (Or.inl rfl) (fZ C_law_common hr (fI (fJ 0) (fI (fJ 1) fM))))
  (fQ (f6 (ji (fI (nq (fJ 0) (fJ 2)) (fI (nq (fJ 1) (fJ 2)) fM))))))⟩
theorem rP:f7 ["_law_found"] ["_law_found"] (fU (gJ 59)):=by constructor<;>first|rfl|decide +kernel
theorem rC(D:gq K mg "_law_is_fraction" (gJ 59))(B:Bs mg)(ER:Er c K mg)(C_law_whole:fV P w K mg base "_law_whole" 1 (iE K (jj c)))(C_law_common:fV P w K mg base "_law_common" 1 (iE K (jU c))):fV P w K mg base "_law_is_fraction" 2 (iE K (kb c)):=
 jt D rP (fun | _,_,_,_,_,_,[_],_=>rfl) λf cdv A outer s H E hr=>⟨_,(fN (gK (om (ml (jK (kz (nI "tuple" (by decide) B.isinstance B.tuple iQ (fJ 0)))) (ml (ki hr (gF (ir (K:=K)) jA (by rfl) B.len jz (fI (fJ 0) fM)) fS) (ml (jK (kz (fZ C_law_whole hr (fI (gy (fJ 0) fS) fM)))) (lV (jK (kz (fZ C_law_whole hr (fI (gy (fJ 0) fS) fM))))))))) (fQ (f6 kJ)) gw)
  (fQ (f6 (tf (rM xk wc (gy (fJ 0) fS) fS) (rF (BX hr (fZ C_law_common hr (fI (gy (fJ 0) fS) (fI (gy (fJ 0) fS) fM))) fS))))))⟩
theorem jh:f7 ["_law_cell", "_law_dims", "_law_ahead", "_law_numbers_here", "_law_c", "_law_way", "_law_far"] ["_law_cell", "_law_dims", "_law_ahead"] (fU (gJ 61)):=by constructor<;>first|rfl|decide +kernel
theorem Ah(D:gq K mg "_law_cut" (gJ 61))(B:Bs mg)(ER:Er c K mg)(C_law_draw:fV P w K mg base "_law_draw" 1 (iE K (gz c))):fV P w K mg base "_law_cut" 2 (iE K (p7 c)):=
 jt D jh (fun | _,_,_,_,_,_,[_,_,_],_=>rfl) λf cdv A outer s H E hr=>⟨_,(fN (ub (N:=["_law_j", "_law_cell"]) (ix:=[none,some 0]) 3 jh.nd (Or.inl rfl) rfl (Ak.pim (lQ B.range (fI (fJ 1) fM))) (jZ (N:=["_law_j", "_law_cell"]) (ix:=[none,some 0]) (λ_ h=>gG h) (by rfl)) (gI rfl) (λ_ _ _ _ _=>⟨(iD 0 (show List.Nodup (α:=Str) ["_law_j", "_law_cell"] by decide) (Or.inl rfl)),iq,(rG (fZ C_law_draw hr (fI (fJ 1) (fI (fJ 0) (fI fS fM)))) fS)⟩) EB)
  (fN (gK (jE hr (fJ 3) (gZ (Au (gZ (jg (fI fS fM))) (fJ 1)))) (fQ (vF 3 (pv 3) (fZ C_law_draw hr (fI (fJ 0) (fI fS (fI (fJ 1) fM)))) (iT fS (fZ C_law_draw hr (fI (fJ 0) (fI fS (fI fS fM))))))) gw)
  (fN (fY 4 jh.nd (Or.inl rfl) (rG (fZ C_law_draw hr (fI (fJ 0) (fI fS (fI fS fM)))) fS))
  (fN (fY 5 jh.nd (Or.inl rfl) (fZ C_law_draw hr (fI (fJ 0) (fI fS (fI fS fM)))))
  (fN (gK (om (l7 (jE hr (fJ 5) fS) (lh (ki hr (fJ 2) (gZ (jg fM)))))) (fQ (jY 3 jh.nd (Or.inl rfl) (nH (mv (K:=K)) oN (by rfl) B.list nk (fI (oS (gy (fJ 2) (fZ C_law_draw hr (fI (fJ 0) (fI fS (fI (gF (ir (K:=K)) jA (by rfl) B.len jz (fI (fJ 2) fM)) fM))))) tE (s9 (fJ 1))) fM)))) gw)
  (fN (gK (om (ml (jE hr (fJ 5) fS) (lV (jE hr (fJ 5) fS)))) (fQ (qm 4 jh.nd (Or.inl rfl) (gF (yK (K:=K) rfl) JA (by rfl) B.sum JC (fI (gZ (jC (N:=["_law_number", "_law_part"]) (ix:=[none,none]) rfl (lU B.zip (fI (fJ 3) (fI (gZ (jg (fI fS (fI fS (fI (kW fS) fM))))) fM))) (jZ (N:=["_law_number", "_law_part"]) (ix:=[none,none]) (λ_ h=>gG h) (by rfl)) (jP rfl rfl) (λ_ _ _ _ _=>⟨(oX 2 rfl (iF (iD 0 (show List.Nodup (α:=Str) ["_law_number", "_law_part"] by decide) (Or.inl rfl)) (iF (iD 1 (show List.Nodup (α:=Str) ["_law_number", "_law_part"] by decide) (Or.inl rfl)) lR))),iq,(ie (fJ 0) (fJ 1))⟩))) fM)))) gw)
  (fN (gK (jE hr (fJ 5) fS) (fN (fY 6 jh.nd (Or.inr rfl) (ie (iT fS (fZ C_law_draw hr (fI (fJ 0) (fI fS (fI (Dh fS fS) fM))))) (gy (gZ (jg (fI fS (fI fS (fI (Dh fS fS) fM))))) (fZ C_law_draw hr (fI (fJ 0) (fI fS (fI fS fM)))))))
  (fN (ub (N:=["_law_number", "_law_far"]) (ix:=[none,some 6]) 3 jh.nd (Or.inl rfl) rfl (gW (fJ 3)) (jZ (N:=["_law_number", "_law_far"]) (ix:=[none,some 6]) (λ_ h=>gG h) (by rfl)) (gI rfl) (λ_ _ _ _ _=>⟨(iD 0 (show List.Nodup (α:=Str) ["_law_number", "_law_far"] by decide) (Or.inl rfl)),iq,(ie (fJ 0) (fJ 1))⟩) Lz)
  (fQ (fY 4 jh.nd (Or.inl rfl) (iT (ie (fJ 4) (fJ 6)) (fZ C_law_draw hr (fI (fJ 0) (fI fS (fI fS fM))))))))) gw)
  (fQ (f6 (iS (iC (K:=K)) jd (by rfl) B.tuple iQ (fI (gZ (Ct (fJ 3) (gZ (jg (fI (fJ 4) fM))))) fM)))))))))))⟩
theorem xm:f7 ["_law_found", "_law_many"] ["_law_found", "_law_many"] (fU (gJ 66)):=by constructor<;>first|rfl|decide +kernel
theorem xa(D:gq K mg "_law_numbers" (gJ 66))(B:Bs mg)(ER:Er c K mg)(C_law_whole:fV P w K mg base "_law_whole" 1 (iE K (jj c))):fV P w K mg base "_law_numbers" 2 (iE K (j6 c)):=
 jt D xm (fun | _,_,_,_,_,_,[_,_],_=>rfl) λf cdv A outer s H E hr=>⟨_,(fN (gK (om (ml (jK (kz (nI "list" (by decide) B.isinstance B.list nk (fJ 0)))) (lV (ki hr (gF (ir (K:=K)) jA (by rfl) B.len jz (fI (fJ 0) fM)) (fJ 1))))) (fQ (f6 kJ)) gw)
  (fQ (f6 (gF (oG (K:=K) rfl) wM (by rfl) B.all wy (fI (gZ (jC (N:=["_law_one"]) (ix:=[none]) rfl (gW (fJ 0)) (jZ (N:=["_law_one"]) (ix:=[none]) (λ_ h=>gG h) (by rfl)) (gI rfl) (λ_ _ _ _ _=>⟨(iD 0 (show List.Nodup (α:=Str) ["_law_one"] by decide) (Or.inl rfl)),iq,(fZ C_law_whole hr (fI (fJ 0) fM))⟩))) fM)))))⟩
theorem rD:f7 ["row", "other", "place", "often", "other_often"] ["row", "other", "place"] (fU (gJ 13)):=by constructor<;>first|rfl|decide +kernel
theorem C2(D:gq K mg "cleared" (gJ 13))(B:Bs mg)(ER:Er c K mg)(C_lowest:fV P w K mg base "lowest" 2 (iE K (r6 c)))(C_sign_of:fV P w K mg base "sign_of" 2 (iE K (nC c))):fV P w K mg base "cleared" 3 (iE K (i6 c)):=
 jt D rD (fun | _,_,_,_,_,_,[_,_,_],_=>rfl) λf cdv A outer s H E hr=>⟨_,(fN (gK (jE hr (gy (fJ 0) (fJ 2)) fS) (fQ (f6 (fJ 0))) gw)
  (fN (fY 3 rD.nd (Or.inr rfl) (gF sk zH (by rfl) B.abs zR (fI (gy (fJ 1) (fJ 2)) fM)))
  (fN (fY 4 rD.nd (Or.inr rfl) (ie (kW (gy (fJ 0) (fJ 2))) (fZ C_sign_of hr (fI (gy (fJ 1) (fJ 2)) fM))))
  (fQ (f6 (fZ C_lowest hr (fI (iS (iC (K:=K)) jd (by rfl) B.tuple iQ (fI (gZ (jC (N:=["mine", "theirs", "often", "other_often"]) (ix:=[none,none,some 3,some 4]) rfl (lU B.zip (fI (fJ 0) (fI (fJ 1) fM))) (jZ (N:=["mine", "theirs", "often", "other_often"]) (ix:=[none,none,some 3,some 4]) (λ_ h=>gG h) (by rfl)) (jP rfl rfl) (λ_ _ _ _ _=>⟨(oX 2 rfl (iF (iD 0 (show List.Nodup (α:=Str) ["mine", "theirs", "often", "other_often"] by decide) (Or.inl rfl)) (iF (iD 1 (show List.Nodup (α:=Str) ["mine", "theirs", "often", "other_often"] by decide) (Or.inl rfl)) lR))),iq,(iT (ie (fJ 2) (fJ 0)) (ie (fJ 3) (fJ 1)))⟩))) fM)) fM)))))))⟩
theorem JS:f7 ["one", "other"] ["one", "other"] (fU (gJ 16)):=by constructor<;>first|rfl|decide +kernel
theorem HL(D:gq K mg "minus" (gJ 16))(B:Bs mg)(ER:Er c K mg)(C_made:fV P w K mg base "made" 2 (iE K (pR c))):fV P w K mg base "minus" 3 (iE K (vH c)):=jt D JS (fun | _,_,_,_,_,_,[_,_],_=>rfl) λf cdv A outer s H E hr=>⟨_,(fQ (f6 (fZ C_made hr (fI (rG (ie (gy (fJ 0) fS) (gy (fJ 1) fS)) (ie (gy (fJ 1) fS) (gy (fJ 0) fS))) (fI (ie (gy (fJ 0) fS) (gy (fJ 1) fS)) fM)))))⟩
theorem Ij:f7 ["one", "other"] ["one", "other"] (fU (gJ 17)):=by constructor<;>first|rfl|decide +kernel
theorem HS(D:gq K mg "times" (gJ 17))(B:Bs mg)(ER:Er c K mg)(C_made:fV P w K mg base "made" 2 (iE K (pR c))):fV P w K mg base "times" 3 (iE K (vz c)):=jt D Ij (fun | _,_,_,_,_,_,[_,_],_=>rfl) λf cdv A outer s H E hr=>⟨_,(fQ (f6 (fZ C_made hr (fI (ie (gy (fJ 0) fS) (gy (fJ 1) fS)) (fI (ie (gy (fJ 0) fS) (gy (fJ 1) fS)) fM)))))⟩
theorem KZ:f7 ["one", "other"] ["one", "other"] (fU (gJ 18)):=by constructor<;>first|rfl|decide +kernel
theorem Kr(D:gq K mg "over" (gJ 18))(B:Bs mg)(ER:Er c K mg)(C_made:fV P w K mg base "made" 2 (iE K (pR c))):fV P w K mg base "over" 3 (iE K (rN c)):=
 jt D KZ (fun | _,_,_,_,_,_,[_,_],_=>rfl) λf cdv A outer s H E hr=>⟨_,(fN (gK (jE hr (gy (fJ 1) fS) fS) (fQ sT) gw)
  (fQ (f6 (fZ C_made hr (fI (ie (gy (fJ 0) fS) (gy (fJ 1) fS)) (fI (ie (gy (fJ 0) fS) (gy (fJ 1) fS)) fM))))))⟩
theorem w6:f7 ["cutting", "thing"] ["cutting", "thing"] (fU (gJ 32)):=by constructor<;>first|rfl|decide +kernel
theorem vS(D:gq K mg "check_signs" (gJ 32))(B:Bs mg)(ER:Er c K mg)(C_is_signs:fV P w K mg base "is_signs" 2 (iE K (pk c)))(C_Cutting_many:lC P w K mg base c.Cutting "many" 2 (iE K (ko c))):fV P w K mg base "check_signs" 3 (iE K (mC c)):=jt D w6 (fun | _,_,_,_,_,_,[_,_],_=>rfl) λf cdv A outer s H E hr=>⟨_,(fQ (gK (jK (kz (fZ C_is_signs hr (fI (Hy C_Cutting_many hr (fJ 0)) (fI (fJ 1) fM))))) (fQ sT) gw))⟩
theorem iy:f7 ["low", "high", "floors", "whole", "floor", "rest", "over_rest", "found"] ["low", "high"] (fU (gJ 38)):=by constructor<;>first|rfl|decide +kernel
theorem v7(D:gq K mg "one_between" (gJ 38))(B:Bs mg)(ER:Er c K mg)(C_whole_between:fV P w K mg base "whole_between" 2 (iE K (j4 c)))(C_floor_of:fV P w K mg base "floor_of" 2 (iE K (lE c))):fV P w K mg base "one_between" 3 (iE K (lj c)):=
 jt D iy (fun | _,_,_,_,_,_,[_,_],_=>rfl) λf cdv A outer s H E hr=>⟨_,(fN (gK (om (l7 (iz qL qC (fJ 0) j8) (lh (jE hr (fJ 0) (fJ 1))))) (fQ (f6 (fJ 0))) gw)
  (fN (jY 2 iy.nd (Or.inl rfl) (jg fM))
  (fN (fY 3 iy.nd (Or.inl rfl) (fZ C_whole_between hr (fI (fJ 0) (fI (fJ 1) fM))))
  (fN (zM (λρ=>match ρ with | some (.p (.tup [_,.int a]))::some (.p (.tup [_,.int b]))::_=>a.natAbs+b.natAbs+2 | _=>1) PassesOwn.never (iz Ac Af (fJ 3) j8) (fN (fY 4 iy.nd (Or.inl rfl) (fZ C_floor_of hr (fI (fJ 0) fM)))
  (fN (oE 2 (pv 2) (fJ 4))
  (fN (fY 5 iy.nd (Or.inl rfl) (rG (gy (fJ 0) fS) (ie (fJ 4) (gy (fJ 0) fS))))
  (fN (fY 6 iy.nd (Or.inl rfl) (QF (jE hr (fJ 5) fS) j8 (ji (fI (gy (fJ 0) fS) (fI (fJ 5) fM)))))
  (fN (fY 0 iy.nd (Or.inl rfl) (ji (fI (gy (fJ 1) fS) (fI (rG (gy (fJ 1) fS) (ie (fJ 4) (gy (fJ 1) fS))) fM))))
  (fN (fY 1 iy.nd (Or.inl rfl) (fJ 6))
  (fQ (fY 3 iy.nd (Or.inl rfl) (fZ C_whole_between hr (fI (fJ 0) (fI (fJ 1) fM))))))))))))
  (fN (fY 7 iy.nd (Or.inl rfl) (ji (fI (fJ 3) (fI fS fM))))
  (fN (Pt 2 (ja PassesOwn.never rfl (Ej B.reversed (fI (fJ 2) fM)) (iA 4 iy.nd (Or.inl rfl)) (fQ (fY 7 iy.nd (Or.inl rfl) (ji (fI (iT (ie (fJ 4) (gy (fJ 7) fS)) (gy (fJ 7) fS)) (fI (gy (fJ 7) fS) fM)))))))
  (fQ (f6 (fJ 7)))))))))⟩
theorem AI:f7 ["dims", "ahead", "thing"] ["dims", "ahead", "thing"] (fU (gJ 50)):=by constructor<;>first|rfl|decide +kernel
theorem zF(D:gq K mg "can_stand" (gJ 50))(B:Bs mg)(ER:Er c K mg)(C_is_cut:fV P w K mg base "is_cut" 2 (iE K (qu c)))(C_same_spots:fV P w K mg base "same_spots" 2 (iE K (nv c))):fV P w K mg base "can_stand" 3 (iE K (mU c)):=
 jt D AI (fun | _,_,_,_,_,_,[_,_,_],_=>rfl) λf cdv A outer s H E hr=>⟨_,(fN (gK (om (ml (iz EF Ez (gF (ir (K:=K)) jA (by rfl) B.len jz (fI (fJ 1) fM)) (BW 7 ER.k_MOST_CUTS)) (lV (jK (kz (fZ C_is_cut hr (fI (fJ 0) (fI (fJ 2) fM)))))))) (fQ (f6 kJ)) gw)
  (fQ (f6 (DL (gF (yn (K:=K) rfl) IC (by rfl) B.any JO (fI (gZ (jC (N:=["cut", "thing"]) (ix:=[none,some 2]) rfl (gW (fJ 1)) (jZ (N:=["cut", "thing"]) (ix:=[none,some 2]) (λ_ h=>gG h) (by rfl)) (gI rfl) (λ_ _ _ _ _=>⟨(iD 0 (show List.Nodup (α:=Str) ["cut", "thing"] by decide) (Or.inl rfl)),iq,(fZ C_same_spots hr (fI (fJ 0) (fI (fJ 1) fM)))⟩))) fM))))))⟩
theorem mH:f7 ["_law_script", "_law_at", "_law_dims", "_law_many", "_law_found", "_law_k", "_law_cut_here"] ["_law_script", "_law_at", "_law_dims", "_law_many"] (fU (gJ 62)):=by constructor<;>first|rfl|decide +kernel
theorem yk(D:gq K mg "_law_cuts" (gJ 62))(B:Bs mg)(ER:Er c K mg)(C_law_cut_2:fV P w K mg base "_law_cut" 2 (iE K (p7 c)))(C_law_cell_at:fV P w K mg base "_law_cell_at" 2 (iE K (ij c)))(C_law_same:fV P w K mg base "_law_same" 2 (iE K (lG c))):fV P w K mg base "_law_cuts" 3 (uu K (ph c)):=
 DE D mH (fun | _,_,_,_,_,_,[_,_,_,_],_=>rfl) λf cdv A outer s H E hr=>⟨_,(fN (jY 4 mH.nd (Or.inl rfl) (jg fM))
  (fN (oM PassesOwn.never rfl (lQ B.range (fI (fJ 3) fM)) (iA 5 mH.nd (Or.inl rfl)) (fN (qm 6 mH.nd (Or.inr rfl) (fZ C_law_cut_2 hr (fI (fZ C_law_cell_at hr (fI (fJ 0) (fI (iT (fJ 1) (fJ 5)) fM))) (fI (fJ 2) (fI (fJ 4) fM)))))
  (fQ (gK (jE hr (gZ (jC (N:=["_law_other", "_law_cut_here"]) (ix:=[none,some 6]) rfl (gW (fJ 4)) (jZ (N:=["_law_other", "_law_cut_here"]) (ix:=[none,some 6]) (λ_ h=>gG h) (by rfl)) (gI rfl) (λ_ _ _ _ _=>⟨(iD 0 (show List.Nodup (α:=Str) ["_law_other", "_law_cut_here"] by decide) (Or.inl rfl)),(l6 (kz (fZ C_law_same hr (fI (fJ 1) (fI (fJ 0) fM))))),(fJ 0)⟩))) (gZ (jg fM))) (fQ (oE 4 (pv 4) (fJ 6))) gw))))
  (fQ (sO 4 (pv 4)))))⟩
theorem wI:f7 ["_law_found", "_law_dims"] ["_law_found", "_law_dims"] (fU (gJ 64)):=by constructor<;>first|rfl|decide +kernel
theorem vV(D:gq K mg "_law_is_spot" (gJ 64))(B:Bs mg)(ER:Er c K mg)(C_law_is_fraction:fV P w K mg base "_law_is_fraction" 2 (iE K (kb c))):fV P w K mg base "_law_is_spot" 3 (iE K (jI c)):=
 jt D wI (fun | _,_,_,_,_,_,[_,_],_=>rfl) λf cdv A outer s H E hr=>⟨_,(fN (gK (om (ml (jK (kz (nI "tuple" (by decide) B.isinstance B.tuple iQ (fJ 0)))) (lV (ki hr (gF (ir (K:=K)) jA (by rfl) B.len jz (fI (fJ 0) fM)) (fJ 1))))) (fQ (f6 kJ)) gw)
  (fQ (f6 (gF (oG (K:=K) rfl) wM (by rfl) B.all wy (fI (gZ (jC (N:=["_law_part"]) (ix:=[none]) rfl (gW (fJ 0)) (jZ (N:=["_law_part"]) (ix:=[none]) (λ_ h=>gG h) (by rfl)) (gI rfl) (λ_ _ _ _ _=>⟨(iD 0 (show List.Nodup (α:=Str) ["_law_part"] by decide) (Or.inl rfl)),iq,(fZ C_law_is_fraction hr (fI (fJ 0) fM))⟩))) fM)))))⟩
theorem lT:f7 ["_law_one", "_law_other", "_law_found", "_law_first", "_law_last"] ["_law_one", "_law_other"] (fU (gJ 70)):=by constructor<;>first|rfl|decide +kernel
theorem vM(D:gq K mg "_law_halfway" (gJ 70))(B:Bs mg)(ER:Er c K mg)(C_law_lowest:fV P w K mg base "_law_lowest" 2 (iE K (nu c))):fV P w K mg base "_law_halfway" 3 (iE K (mD c)):=
 jt D lT (fun | _,_,_,_,_,_,[_,_],_=>rfl) λf cdv A outer s H E hr=>⟨_,(fN (jY 2 lT.nd (Or.inl rfl) (jg fM))
  (fN (ja PassesOwn.never rfl (lU B.zip (fI (fJ 0) (fI (fJ 1) fM))) (oW 2 rfl (iG (iA 3 lT.nd (Or.inl rfl)) (iG (iA 4 lT.nd (Or.inl rfl)) lW))) (fQ (oE 2 (pv 2) (fZ C_law_lowest hr (fI (iT (ie (gy (fJ 3) fS) (gy (fJ 4) fS)) (ie (gy (fJ 4) fS) (gy (fJ 3) fS))) (fI (ie (ie fS (gy (fJ 3) fS)) (gy (fJ 4) fS)) fM))))))
  (fQ (f6 (iS (iC (K:=K)) jd (by rfl) B.tuple iQ (fI (fJ 2) fM))))))⟩
theorem pb:f7 ["row", "pivots", "place", "pivot"] ["row", "pivots"] (fU (gJ 24)):=by constructor<;>first|rfl|decide +kernel
theorem CA(D:gq K mg "settled" (gJ 24))(B:Bs mg)(ER:Er c K mg)(C_cleared:fV P w K mg base "cleared" 3 (iE K (i6 c))):fV P w K mg base "settled" 4 (iE K (lM c)):=
 jt D pb (fun | _,_,_,_,_,_,[_,_],_=>rfl) λf cdv A outer s H E hr=>⟨_,(fN (ja PassesOwn.never rfl (gW (fJ 1)) (oW 2 rfl (iG (iA 2 pb.nd (Or.inl rfl)) (iG (iA 3 pb.nd (Or.inl rfl)) lW))) (fQ (fY 0 pb.nd (Or.inl rfl) (fZ C_cleared hr (fI (fJ 0) (fI (fJ 3) (fI (fJ 2) fM)))))))
  (fQ (f6 (fJ 0))))⟩
theorem xX:f7 ["pivots", "row", "place"] ["pivots", "row", "place"] (fU (gJ 25)):=by constructor<;>first|rfl|decide +kernel
theorem xH(D:gq K mg "with_pivot" (gJ 25))(B:Bs mg)(ER:Er c K mg)(C_cleared:fV P w K mg base "cleared" 3 (iE K (i6 c))):fV P w K mg base "with_pivot" 4 (uu K (lY c)):=DE D xX (fun | _,_,_,_,_,_,[_,_,_],_=>rfl) λf cdv A outer s H E hr=>⟨_,(fQ (xc (Ct (gZ (jC (N:=["other_place", "pivot", "row", "place"]) (ix:=[none,none,some 1,some 2]) rfl (gW (fJ 0)) (jZ (N:=["other_place", "pivot", "row", "place"]) (ix:=[none,none,some 1,some 2]) (λ_ h=>gG h) (by rfl)) (jP rfl rfl) (λ_ _ _ _ _=>⟨(oX 2 rfl (iF (iD 0 (show List.Nodup (α:=Str) ["other_place", "pivot", "row", "place"] by decide) (Or.inl rfl)) (iF (iD 1 (show List.Nodup (α:=Str) ["other_place", "pivot", "row", "place"] by decide) (Or.inl rfl)) lR))),iq,(ji (fI (fJ 0) (fI (fZ C_cleared hr (fI (fJ 1) (fI (fJ 2) (fI (fJ 3) fM)))) fM)))⟩))) (gZ (jg (fI (ji (fI (fJ 2) (fI (fJ 1) fM))) fM))))))⟩
theorem mP:f7 ["row", "parts", "left", "number", "part"] ["row", "parts"] (fU (gJ 28)):=by constructor<;>first|rfl|decide +kernel
theorem BJ(D:gq K mg "left_for" (gJ 28))(B:Bs mg)(ER:Er c K mg)(C_minus:fV P w K mg base "minus" 3 (iE K (vH c)))(C_times:fV P w K mg base "times" 3 (iE K (vz c))):fV P w K mg base "left_for" 4 (iE K (lx c)):=
 jt D mP (fun | _,_,_,_,_,_,[_,_],_=>rfl) λf cdv A outer s H E hr=>⟨_,(fN (fY 2 mP.nd (Or.inl rfl) (ji (fI (gy (fJ 0) (gF (ir (K:=K)) jA (by rfl) B.len jz (fI (fJ 1) fM))) (fI fS fM))))
  (fN (ja PassesOwn.never rfl (lU B.zip (fI (fJ 0) (fI (fJ 1) fM))) (oW 2 rfl (iG (iA 3 mP.nd (Or.inl rfl)) (iG (iA 4 mP.nd (Or.inl rfl)) lW))) (fQ (fY 2 mP.nd (Or.inl rfl) (fZ C_minus hr (fI (fJ 2) (fI (fZ C_times hr (fI (ji (fI (fJ 3) (fI fS fM))) (fI (fJ 4) fM))) fM))))))
  (fQ (f6 (fJ 2)))))⟩
theorem nA:f7 ["rows", "dims", "place", "most", "told", "row", "one", "other", "joined"] ["rows", "dims", "place", "most"] (fU (gJ 34)):=by constructor<;>first|rfl|decide +kernel
theorem FZ(D:gq K mg "shadow" (gJ 34))(B:Bs mg)(ER:Er c K mg)(C_cleared:fV P w K mg base "cleared" 3 (iE K (i6 c))):fV P w K mg base "shadow" 4 (uu K (rV c)):=
 DE D nA (fun | _,_,_,_,_,_,[_,_,_,_],_=>rfl) λf cdv A outer s H E hr=>⟨_,(fN (JD 4 nA.nd (Or.inl rfl))
  (fN (ja PassesOwn.never rfl (gW (fJ 0)) (iA 5 nA.nd (Or.inl rfl)) (fQ (gK (jE hr (gy (fJ 5) (fJ 2)) fS) (fQ (Bp 4 hr (pv 4) (fJ 5) kJ)) gw)))
  (fN (ja PassesOwn.never rfl (gW (gZ (jC (N:=["row", "place"]) (ix:=[none,some 2]) rfl (gW (fJ 0)) (jZ (N:=["row", "place"]) (ix:=[none,some 2]) (λ_ h=>gG h) (by rfl)) (gI rfl) (λ_ _ _ _ _=>⟨(iD 0 (show List.Nodup (α:=Str) ["row", "place"] by decide) (Or.inl rfl)),(l6 (iz xk wc (gy (fJ 0) (fJ 1)) fS)),(fJ 0)⟩)))) (iA 6 nA.nd (Or.inl rfl)) (fQ (ja PassesOwn.never rfl (gW (gZ (jC (N:=["row", "place"]) (ix:=[none,some 2]) rfl (gW (fJ 0)) (jZ (N:=["row", "place"]) (ix:=[none,some 2]) (λ_ h=>gG h) (by rfl)) (gI rfl) (λ_ _ _ _ _=>⟨(iD 0 (show List.Nodup (α:=Str) ["row", "place"] by decide) (Or.inl rfl)),(l6 (iz uJ uE (gy (fJ 0) (fJ 1)) fS)),(fJ 0)⟩)))) (iA 7 nA.nd (Or.inl rfl)) (fN (fY 8 nA.nd (Or.inl rfl) (fZ C_cleared hr (fI (fJ 6) (fI (fJ 7) (fI (fJ 2) fM)))))
  (fQ (gK (iz yJ yI (gF (ir (K:=K)) jA (by rfl) B.len jz (fI (gZ (jC (N:=["weight"]) (ix:=[none]) rfl (gW (oS (fJ 8) (s9 (iT (fJ 1) fS)) tE)) (jZ (N:=["weight"]) (ix:=[none]) (λ_ h=>gG h) (by rfl)) (gI rfl) (λ_ _ _ _ _=>⟨(iD 0 (show List.Nodup (α:=Str) ["weight"] by decide) (Or.inl rfl)),(l6 (ki hr (fJ 0) fS)),(fJ 0)⟩))) fM)) (fJ 3)) (fQ (Bp 4 hr (pv 4) (fJ 8) kJ)) gw))))))
  (fQ (Hm 4 rfl B.list (pv 4))))))⟩
theorem mY:f7 ["dims", "things", "ahead", "thing"] ["dims", "things"] (fU (gJ 51)):=by constructor<;>first|rfl|decide +kernel
theorem vj(D:gq K mg "checked_cuts" (gJ 51))(B:Bs mg)(ER:Er c K mg)(C_is_dims:fV P w K mg base "is_dims" 3 (iE K (oA c)))(C_can_stand:fV P w K mg base "can_stand" 3 (iE K (mU c))):fV P w K mg base "checked_cuts" 4 (iE K (ku c)):=
 jt D mY (fun | _,_,_,_,_,_,[_,_],_=>rfl) λf cdv A outer s H E hr=>⟨_,(fN (gK (om (ml (jK (kz (fZ C_is_dims hr (fI (fJ 0) fM)))) (lV (jK (kz (nI "list" (by decide) B.isinstance B.list nk (fJ 1))))))) (fQ sT) gw)
  (fN (jY 2 mY.nd (Or.inl rfl) (jg fM))
  (fN (ja PassesOwn.never rfl (gW (fJ 1)) (iA 3 mY.nd (Or.inl rfl)) (fN (gK (jK (kz (fZ C_can_stand hr (fI (fJ 0) (fI (fJ 2) (fI (fJ 3) fM)))))) (fQ sT) gw)
  (fQ (oE 2 (pv 2) (iS (iC (K:=K)) jd (by rfl) B.tuple iQ (fI (fJ 3) fM))))))
  (fQ (f6 (iS (iC (K:=K)) jd (by rfl) B.tuple iQ (fI (fJ 2) fM)))))))⟩
theorem kM:f7 ["_law_script", "_law_at", "_law_most", "_law_cell", "_law_dims", "_law_many"] ["_law_script", "_law_at", "_law_most"] (fU (gJ 69)):=by constructor<;>first|rfl|decide +kernel
theorem wL(D:gq K mg "_law_drawn" (gJ 69))(B:Bs mg)(ER:Er c K mg)(C_law_cell_at:fV P w K mg base "_law_cell_at" 3 (iE K (ij c)))(C_law_draw:fV P w K mg base "_law_draw" 3 (iE K (gz c)))(C_law_cuts_2:fV P w K mg base "_law_cuts" 3 (uu K (ph c))):fV P w K mg base "_law_drawn" 4 (iE K (mF c)):=
 jt D kM (fun | _,_,_,_,_,_,[_,_,_],_=>rfl) λf cdv A outer s H E hr=>⟨_,(fN (fY 3 kM.nd (Or.inl rfl) (fZ C_law_cell_at hr (fI (fJ 0) (fI (fJ 1) fM))))
  (fN (fY 4 kM.nd (Or.inl rfl) (iT fS (fZ C_law_draw hr (fI (fJ 3) (fI fS (fI fS fM))))))
  (fN (fY 5 kM.nd (Or.inl rfl) (fZ C_law_draw hr (fI (fJ 3) (fI fS (fI (iT (fJ 2) fS) fM)))))
  (fN (gK (jE hr (fJ 4) fS) (fQ (fY 5 kM.nd (Or.inl rfl) (gF (yu rfl) Eh (by rfl) B.min IG (fI (fJ 5) (fI fS fM))))) gw)
  (fQ (f6 (ji (fI (fJ 4) (fI (gZ (oV C_law_cuts_2 hr (fI (fJ 0) (fI (iT (fJ 1) fS) (fI (fJ 4) (fI (fJ 5) fM)))))) fM)))))))))⟩
theorem iB:f7 ["rows", "dims", "pivots", "rests", "row", "left", "places"] ["rows", "dims"] (fU (gJ 26)):=by constructor<;>first|rfl|decide +kernel
theorem qQ(D:gq K mg "pivots_and_rests" (gJ 26))(B:Bs mg)(ER:Er c K mg)(C_settled:fV P w K mg base "settled" 4 (iE K (lM c)))(C_with_pivot:fV P w K mg base "with_pivot" 4 (uu K (lY c))):fV P w K mg base "pivots_and_rests" 5 (iE K (jV c)):=
 jt D iB (fun | _,_,_,_,_,_,[_,_],_=>rfl) λf cdv A outer s H E hr=>⟨_,(fN (fY 2 iB.nd (Or.inl rfl) (gZ (jg fM)))
  (fN (jY 3 iB.nd (Or.inl rfl) (jg fM))
  (fN (ja PassesOwn.never rfl (gW (fJ 0)) (iA 4 iB.nd (Or.inl rfl)) (fN (fY 5 iB.nd (Or.inr rfl) (fZ C_settled hr (fI (fJ 4) (fI (fJ 2) fM))))
  (fN (ub (N:=["place", "left"]) (ix:=[none,some 5]) 6 iB.nd (Or.inl rfl) rfl (Ak.pim (lQ B.range (fI (fJ 1) fM))) (jZ (N:=["place", "left"]) (ix:=[none,some 5]) (λ_ h=>gG h) (by rfl)) (gI rfl) (λ_ _ _ _ _=>⟨(iD 0 (show List.Nodup (α:=Str) ["place", "left"] by decide) (Or.inl rfl)),(l6 (ki hr (gy (fJ 1) (fJ 0)) fS)),(fJ 0)⟩) rX)
  (fQ (gK (jE hr (fJ 6) (gZ (jg fM))) (fQ (oE 3 (pv 3) (fJ 5))) (fQ (fY 2 iB.nd (Or.inl rfl) (gZ (oV C_with_pivot hr (fI (fJ 2) (fI (fJ 5) (fI (gy (fJ 6) fS) fM))))))))))))
  (fQ (f6 (ji (fI (fJ 2) (fI (fJ 3) fM))))))))⟩
theorem qD:f7 ["pivots", "parts", "spot", "place", "pivot"] ["pivots", "parts"] (fU (gJ 29)):=by constructor<;>first|rfl|decide +kernel
theorem GO(D:gq K mg "filled" (gJ 29))(B:Bs mg)(ER:Er c K mg)(C_over:fV P w K mg base "over" 4 (iE K (rN c)))(C_left_for:fV P w K mg base "left_for" 4 (iE K (lx c))):fV P w K mg base "filled" 5 (iE K (sI c)):=
 jt D qD (fun | _,_,_,_,_,_,[_,_],_=>rfl) λf cdv A outer s H E hr=>⟨_,(fN (jY 2 qD.nd (Or.inl rfl) (nH (mv (K:=K)) oN (by rfl) B.list nk (fI (fJ 1) fM)))
  (fN (ja PassesOwn.never rfl (gW (fJ 0)) (oW 2 rfl (iG (iA 3 qD.nd (Or.inl rfl)) (iG (iA 4 qD.nd (Or.inl rfl)) lW))) (fQ (vF 2 (pv 2) (fJ 3) (fZ C_over hr (fI (fZ C_left_for hr (fI (fJ 4) (fI (fJ 1) fM))) (fI (ji (fI (gy (fJ 4) (fJ 3)) (fI fS fM))) fM))))))
  (fQ (f6 (iS (iC (K:=K)) jd (by rfl) B.tuple iQ (fI (fJ 2) fM))))))⟩
theorem pB:f7 ["rows", "dims", "places", "pivots", "layers", "place", "most"] ["rows", "dims", "places", "pivots"] (fU (gJ 35)):=by constructor<;>first|rfl|decide +kernel
theorem DY(D:gq K mg "shadows" (gJ 35))(B:Bs mg)(ER:Er c K mg)(C_shadow:fV P w K mg base "shadow" 4 (uu K (rV c))):fV P w K mg base "shadows" 5 (uu K (qK c)):=
 DE D pB (fun | _,_,_,_,_,_,[_,_,_,_],_=>rfl) λf cdv A outer s H E hr=>⟨_,(fN (jY 4 pB.nd (Or.inl rfl) (jg (fI (fJ 0) fM)))
  (fN (ja PassesOwn.never rfl (gW (fJ 2)) (iA 5 pB.nd (Or.inl rfl)) (fN (qm 6 pB.nd (Or.inl rfl) (iT (iT (gF (ir (K:=K)) jA (by rfl) B.len jz (fI (fJ 4) fM)) fS) (gF (ir (K:=K)) jA (by rfl) B.len jz (fI (fJ 3) fM))))
  (fQ (Gh 4 (pv 4) (oV C_shadow hr (fI (gy (fJ 4) (kW fS)) (fI (fJ 1) (fI (fJ 5) (fI (fJ 6) fM)))))))))
  (fQ (sO 4 (pv 4)))))⟩
theorem lB:f7 ["rows", "place", "parts", "low", "high", "row", "end"] ["rows", "place", "parts"] (fU (gJ 36)):=by constructor<;>first|rfl|decide +kernel
theorem Dk(D:gq K mg "ends_at" (gJ 36))(B:Bs mg)(ER:Er c K mg)(C_over:fV P w K mg base "over" 4 (iE K (rN c)))(C_left_for:fV P w K mg base "left_for" 4 (iE K (lx c)))(C_less:fV P w K mg base "less" 4 (iE K (kH c))):fV P w K mg base "ends_at" 5 (iE K (oB c)):=
 jt D lB (fun | _,_,_,_,_,_,[_,_,_],_=>rfl) λf cdv A outer s H E hr=>⟨_,(fN (fY 3 lB.nd (Or.inl rfl) j8)
  (fN (fY 4 lB.nd (Or.inl rfl) j8)
  (fN (ja PassesOwn.never rfl (gW (fJ 0)) (iA 5 lB.nd (Or.inl rfl)) (fQ (gK (ki hr (gy (fJ 5) (fJ 1)) fS) (fN (fY 6 lB.nd (Or.inl rfl) (fZ C_over hr (fI (fZ C_left_for hr (fI (fJ 5) (fI (fJ 2) fM))) (fI (ji (fI (gy (fJ 5) (fJ 1)) (fI fS fM))) fM))))
  (fN (gK (om (l7 (iz xk wc (gy (fJ 5) (fJ 1)) fS) (lh (om (ml (iz Ac Af (fJ 3) j8) (lV (kz (fZ C_less hr (fI (fJ 3) (fI (fJ 6) fM)))))))))) (fQ (fY 3 lB.nd (Or.inl rfl) (fJ 6))) gw)
  (fQ (gK (om (l7 (iz uJ uE (gy (fJ 5) (fJ 1)) fS) (lh (om (ml (iz Ac Af (fJ 4) j8) (lV (kz (fZ C_less hr (fI (fJ 6) (fI (fJ 4) fM)))))))))) (fQ (fY 4 lB.nd (Or.inl rfl) (fJ 6))) gw)))) gw)))
  (fQ (f6 (ji (fI (fJ 3) (fI (fJ 4) fM))))))))⟩
theorem uZ:f7 ["self", "dims", "cuts"] ["self", "dims", "cuts"] (fU (lq (gJ 52) 0)):=by constructor<;>first|rfl|decide +kernel
theorem uN(D:mw K c.Cutting "__init__" "Cutting.__init__" (lq (gJ 52) 0))(B:Bs mg)(ER:Er c K mg)(C_checked_cuts:fV P w K mg base "checked_cuts" 4 (iE K (ku c))):Bo P w K mg base "Cutting" c.Cutting 5 (Gg K c.Cutting (jc c)):=N4 ER.cl_Cutting ER.na_Cutting_own_cuts ER.na_Cutting_own_dims (by decide) D uZ ER.mk_Cutting ER.kp_Cutting ER.mg_Cutting rfl (fun | _,_,_,_,_,_,[_,_,_],_=>rfl) λf cdv A outer s H E hr=>RS rfl (pv 0) (fZ C_checked_cuts hr (fI (fJ 1) (fI (fJ 2) fM))) (pv 0) (fJ 1)
theorem j3:f7 ["layers", "places", "parts", "chosen", "number", "place", "ends"] ["layers", "places", "parts"] (fU (gJ 39)):=by constructor<;>first|rfl|decide +kernel
theorem uO(D:gq K mg "parts_within" (gJ 39))(B:Bs mg)(ER:Er c K mg)(C_ends_at:fV P w K mg base "ends_at" 5 (iE K (oB c)))(C_one_between:fV P w K mg base "one_between" 5 (iE K (lj c))):fV P w K mg base "parts_within" 6 (uu K (l5 c)):=
 DE D j3 (fun | _,_,_,_,_,_,[_,_,_],_=>rfl) λf cdv A outer s H E hr=>⟨_,(fN (jY 3 j3.nd (Or.inl rfl) (nH (mv (K:=K)) oN (by rfl) B.list nk (fI (fJ 2) fM)))
  (fN (ja PassesOwn.never rfl (Ej B.reversed (fI (gZ (Qg rfl B.list B.enumerate (fI (fJ 1) fM))) fM)) (oW 2 rfl (iG (iA 4 j3.nd (Or.inl rfl)) (iG (iA 5 j3.nd (Or.inl rfl)) lW))) (fN (qm 6 j3.nd (Or.inl rfl) (fZ C_ends_at hr (fI (gy (fJ 0) (fJ 4)) (fI (fJ 5) (fI (fJ 3) fM)))))
  (fQ (vF 3 (pv 3) (fJ 5) (fZ C_one_between hr (fI (gy (fJ 6) fS) (fI (gy (fJ 6) fS) fM)))))))
  (fQ (sO 3 (pv 3)))))⟩
theorem ia:f7 ["cuts", "dims", "signs", "rows", "found", "paper", "pivots", "sided", "places", "layers", "row"] ["cuts", "dims", "signs"] (fU (gJ 41)):=by constructor<;>first|rfl|decide +kernel
theorem qS(D:gq K mg "parts_or_weights" (gJ 41))(B:Bs mg)(ER:Er c K mg)(C_weighted:fV P w K mg base "weighted" 6 (uu K (pF c)))(C_pivots_and_rests:fV P w K mg base "pivots_and_rests" 6 (iE K (jV c)))(C_paper_of_noughts:fV P w K mg base "paper_of_noughts" 6 (iE K (i7 c)))(C_free_places:fV P w K mg base "free_places" 6 (uu K (my c)))(C_shadows:fV P w K mg base "shadows" 6 (uu K (qK c)))(C_settled:fV P w K mg base "settled" 6 (iE K (lM c)))(C_filled:fV P w K mg base "filled" 6 (iE K (sI c)))(C_turned:fV P w K mg base "turned" 6 (iE K (ox c)))(C_parts_within:fV P w K mg base "parts_within" 6 (uu K (l5 c))):fV P w K mg base "parts_or_weights" 7 (iE K (iX c)):=
 jt D ia (fun | _,_,_,_,_,_,[_,_,_],_=>rfl) λf cdv A outer s H E hr=>⟨_,(fN (fY 3 ia.nd (Or.inl rfl) (gZ (oV C_weighted hr (fI (fJ 0) fM))))
  (fN (fY 4 ia.nd (Or.inl rfl) (fZ C_pivots_and_rests hr (fI (gZ (jC (N:=["row", "sign"]) (ix:=[none,none]) rfl (lU B.zip (fI (fJ 3) (fI (fJ 2) fM))) (jZ (N:=["row", "sign"]) (ix:=[none,none]) (λ_ h=>gG h) (by rfl)) (jP rfl rfl) (λ_ _ _ _ _=>⟨(oX 2 rfl (iF (iD 0 (show List.Nodup (α:=Str) ["row", "sign"] by decide) (Or.inl rfl)) (iF (iD 1 (show List.Nodup (α:=Str) ["row", "sign"] by decide) (Or.inl rfl)) lR))),(l6 (jE hr (fJ 1) fS)),(fJ 0)⟩))) (fI (fJ 1) fM))))
  (fN (fY 5 ia.nd (Or.inl rfl) (fZ C_paper_of_noughts hr (fI (gy (fJ 4) fS) (fI (fJ 1) fM))))
  (fN (gK (iz qL qC (fJ 5) j8) (fQ (f6 (ji (fI tX (fI (fJ 5) fM))))) gw)
  (fN (fY 6 ia.nd (Or.inr rfl) (gy (fJ 4) fS))
  (fN (ub (N:=["row", "sign", "pivots"]) (ix:=[none,none,some 6]) 7 ia.nd (Or.inl rfl) rfl (lU B.zip (fI (fJ 3) (fI (fJ 2) fM))) (jZ (N:=["row", "sign", "pivots"]) (ix:=[none,none,some 6]) (λ_ h=>gG h) (by rfl)) (jP rfl rfl) (λ_ _ _ _ _=>⟨(oX 2 rfl (iF (iD 0 (show List.Nodup (α:=Str) ["row", "sign", "pivots"] by decide) (Or.inl rfl)) (iF (iD 1 (show List.Nodup (α:=Str) ["row", "sign", "pivots"] by decide) (Or.inl rfl)) lR))),(l6 (ki hr (fJ 1) fS)),(fZ C_settled hr (fI (fZ C_turned hr (fI (fJ 0) (fI (fJ 1) fM))) (fI (fJ 2) fM)))⟩) rX)
  (fN (fY 8 ia.nd (Or.inl rfl) (gZ (oV C_free_places hr (fI (fJ 6) (fI (fJ 1) fM)))))
  (fN (fY 9 ia.nd (Or.inl rfl) (gZ (oV C_shadows hr (fI (fJ 7) (fI (fJ 1) (fI (fJ 8) (fI (fJ 6) fM)))))))
  (fN (ja PassesOwn.never rfl (gW (gy (fJ 9) (kW fS))) (iA 10 ia.nd (Or.inl rfl)) (fQ (gK (iz EF Ez (gy (fJ 10) (fJ 1)) fS) (fQ (f6 (ji (fI tX (fI (gZ (nH (mv (K:=K)) oN (by rfl) B.list nk (fI (oS (fJ 10) (s9 (iT (fJ 1) fS)) tE) fM))) fM))))) gw)))
  (fQ (f6 (ji (fI tX (fI (fZ C_filled hr (fI (fJ 6) (fI (gZ (oV C_parts_within hr (fI (fJ 9) (fI (fJ 8) (fI (gZ (Au (gZ (jg (fI (ji (fI fS (fI fS fM))) fM))) (fJ 1))) fM))))) fM))) fM))))))))))))))⟩
theorem Mx:f7 ["cutting", "signs"] ["cutting", "signs"] (fU (gJ 42)):=by constructor<;>first|rfl|decide +kernel
theorem KN(D:gq K mg "held" (gJ 42))(B:Bs mg)(ER:Er c K mg)(C_check_signs:fV P w K mg base "check_signs" 7 (iE K (mC c)))(C_parts_or_weights:fV P w K mg base "parts_or_weights" 7 (iE K (iX c)))(C_Cutting_cuts:lC P w K mg base c.Cutting "cuts" 7 (uu K (ky c)))(C_Cutting_dims:lC P w K mg base c.Cutting "dims" 7 (iE K (kG c))):fV P w K mg base "held" 8 (iE K (jL c)):=
 jt D Mx (fun | _,_,_,_,_,_,[_,_],_=>rfl) λf cdv A outer s H E hr=>⟨_,(fN (IF (fZ C_check_signs hr (fI (fJ 0) (fI (fJ 1) fM))))
  (fQ (f6 (fZ C_parts_or_weights hr (fI (gZ (NA C_Cutting_cuts hr (fJ 0))) (fI (Hy C_Cutting_dims hr (fJ 0)) (fI (fJ 1) fM)))))))⟩
theorem q0:f7 ["_law_cutting", "_law_cuts_here", "_law_dims", "_law_signs", "_law_found"] ["_law_cutting", "_law_cuts_here", "_law_dims", "_law_signs"] (fU (gJ 67)):=by constructor<;>first|rfl|decide +kernel
theorem yg(D:gq K mg "_law_held" (gJ 67))(B:Bs mg)(ER:Er c K mg)(C_held:fV P w K mg base "held" 8 (iE K (jL c)))(C_law_is_spot:fV P w K mg base "_law_is_spot" 8 (iE K (jI c)))(C_law_numbers:fV P w K mg base "_law_numbers" 8 (iE K (j6 c)))(C_law_none:fV P w K mg base "_law_none" 8 (iE K (mr c)))(C_law_side_2:fV P w K mg base "_law_side" 8 (iE K (kQ c))):fV P w K mg base "_law_held" 9 (iE K (jD c)):=
 jt D q0 (fun | _,_,_,_,_,_,[_,_,_,_],_=>rfl) λf cdv A outer s H E hr=>⟨_,(fN (fY 4 q0.nd (Or.inr rfl) (fZ C_held hr (fI (fJ 0) (fI (fJ 3) fM))))
  (fN (gK (om (ml (jK (kz (nI "tuple" (by decide) B.isinstance B.tuple iQ (fJ 4)))) (lV (ki hr (gF (ir (K:=K)) jA (by rfl) B.len jz (fI (fJ 4) fM)) fS)))) (fQ (f6 j8)) gw)
  (fN (gK (om (l7 (jE hr (gy (fJ 4) fS) tX) (lh (kz (fZ C_law_is_spot hr (fI (gy (fJ 4) fS) (fI (fJ 2) fM))))))) (fQ (gK (jE hr (iS (iC (K:=K)) jd (by rfl) B.tuple iQ (fI (gZ (jC (N:=["_law_cut_here", "_law_found"]) (ix:=[none,some 4]) rfl (gW (fJ 1)) (jZ (N:=["_law_cut_here", "_law_found"]) (ix:=[none,some 4]) (λ_ h=>gG h) (by rfl)) (gI rfl) (λ_ _ _ _ _=>⟨(iD 0 (show List.Nodup (α:=Str) ["_law_cut_here", "_law_found"] by decide) (Or.inl rfl)),iq,(fZ C_law_side_2 hr (fI (fJ 0) (fI (gy (fJ 1) fS) fM)))⟩))) fM)) (fJ 3)) (fQ (f6 kJ)) gw)) gw)
  (fN (gK (om (l7 (jE hr (gy (fJ 4) fS) tX) (l7 (kz (fZ C_law_numbers hr (fI (gy (fJ 4) fS) (fI (gF (ir (K:=K)) jA (by rfl) B.len jz (fI (fJ 1) fM)) fM)))) (lh (kz (fZ C_law_none hr (fI (fJ 1) (fI (fJ 2) (fI (fJ 3) (fI (gy (fJ 4) fS) fM)))))))))) (fQ (f6 kJ)) gw)
  (fQ (f6 j8))))))⟩
theorem je:f7 ["_law_script", "_law_dims", "_law_cuts_here", "_law_cutting", "_law_other_way", "_law_back", "_law_often", "_law_spots", "_law_signs", "_law_due", "_law_other", "_law_k", "_law_cell", "_law_place"] ["_law_script"] (fU (gJ 71)):=by constructor<;>first|rfl|decide +kernel
theorem GU{f0:Addr}{fd:FuncData}(D:Kn K "law" "law" (gJ 71) f0 fd)(B:Bs mg)(ER:Er c K mg)(C_law_drawn_2:fV P w K mg base "_law_drawn" 9 (iE K (mF c)))(C_Cutting_init:Bo P w K mg base "Cutting" c.Cutting 8 (Gg K c.Cutting (jc c)))(C_law_all:fV P w K mg base "_law_all" 9 (iE K (qB c)))(C_law_held_2:fV P w K mg base "_law_held" 9 (iE K (jD c)))(C_law_cell_at:fV P w K mg base "_law_cell_at" 9 (iE K (ij c)))(C_law_halfway:fV P w K mg base "_law_halfway" 9 (iE K (mD c)))(C_held:fV P w K mg base "held" 9 (iE K (jL c)))(C_law_draw:fV P w K mg base "_law_draw" 9 (iE K (gz c)))(C_law_side_2:fV P w K mg base "_law_side" 9 (iE K (kQ c))):nT P w K mg base Ay 10 f0 fd ["_law_script"] (iE K (BL c)):=
 RC D je λf cdv A outer s H E hr=>⟨_,(fN (LP (fZ C_law_drawn_2 hr (fI (fJ 0) (fI fS (fI fS fM)))) (oW 2 rfl (iG (iA 1 je.nd (Or.inl rfl)) (iG (iA 2 je.nd (Or.inr rfl)) lW))))
  (fN (fY 3 je.nd (Or.inl rfl) (Ew C_Cutting_init hr (fI (fJ 1) (fI (fJ 2) fM))))
  (fN (fY 4 je.nd (Or.inl rfl) (Ew C_Cutting_init hr (fI (fJ 1) (fI (gZ (jC (N:=["_law_cut_here"]) (ix:=[none]) rfl (gW (fJ 2)) (jZ (N:=["_law_cut_here"]) (ix:=[none]) (λ_ h=>gG h) (by rfl)) (gI rfl) (λ_ _ _ _ _=>⟨(iD 0 (show List.Nodup (α:=Str) ["_law_cut_here"] by decide) (Or.inl rfl)),iq,(iS (iC (K:=K)) jd (by rfl) B.tuple iQ (fI (gZ (jC (N:=["_law_number"]) (ix:=[none]) rfl (gW (fJ 0)) (jZ (N:=["_law_number"]) (ix:=[none]) (Ds (jZ (N:=["_law_cut_here"]) (ix:=[none]) (λ_ h=>gG h) (by rfl))) (by rfl)) (gI rfl) (λ_ _ _ _ _=>⟨(iD 0 (show List.Nodup (α:=Str) ["_law_number"] by decide) (Or.inl rfl)),iq,(kW (fJ 0))⟩))) fM))⟩))) fM))))
  (fN (fY 5 je.nd (Or.inl rfl) (Ew C_Cutting_init hr (fI (fJ 1) (fI (Kb (fJ 2) (kW fS)) fM))))
  (fN (fY 6 je.nd (Or.inl rfl) (Ew C_Cutting_init hr (fI (fJ 1) (fI (gZ (jC (N:=["_law_k", "_law_cuts_here"]) (ix:=[none,some 2]) rfl (Ak.pim (lQ B.range (fI (gF (ir (K:=K)) jA (by rfl) B.len jz (fI (fJ 2) fM)) fM))) (jZ (N:=["_law_k", "_law_cuts_here"]) (ix:=[none,some 2]) (λ_ h=>gG h) (by rfl)) (gI rfl) (λ_ _ _ _ _=>⟨(iD 0 (show List.Nodup (α:=Str) ["_law_k", "_law_cuts_here"] by decide) (Or.inr rfl)),iq,(iS (iC (K:=K)) jd (by rfl) B.tuple iQ (fI (gZ (jC (N:=["_law_number", "_law_k"]) (ix:=[none,some 0]) rfl (gW (gy (fJ 1) (fJ 0))) (jZ (N:=["_law_number", "_law_k"]) (ix:=[none,some 0]) (Ds (jZ (N:=["_law_k", "_law_cuts_here"]) (ix:=[none,some 2]) (λ_ h=>gG h) (by rfl))) (by rfl)) (gI rfl) (λ_ _ _ _ _=>⟨(iD 0 (show List.Nodup (α:=Str) ["_law_number", "_law_k"] by decide) (Or.inl rfl)),iq,(ie (iT fS (fJ 1)) (fJ 0))⟩))) fM))⟩))) fM))))
  (fN (jY 7 je.nd (Or.inl rfl) (jg fM))
  (fN (ja PassesOwn.never rfl (gW (fZ C_law_all hr (fI (ji (fI (kW fS) (fI fS (fI fS fM)))) (fI (gF (ir (K:=K)) jA (by rfl) B.len jz (fI (fJ 2) fM)) fM)))) (iA 8 je.nd (Or.inl rfl)) (fN (fY 9 je.nd (Or.inr rfl) (fZ C_law_held_2 hr (fI (fJ 3) (fI (fJ 2) (fI (fJ 1) (fI (fJ 8) fM))))))
  (fN (gK (iz Ac Af (fJ 9) j8) (fQ (f6 kJ)) gw)
  (fN (fY 10 je.nd (Or.inl rfl) (gZ (jg (fI (fZ C_held hr (fI (fJ 4) (fI (iS (iC (K:=K)) jd (by rfl) B.tuple iQ (fI (gZ (jC (N:=["_law_sign"]) (ix:=[none]) rfl (gW (fJ 8)) (jZ (N:=["_law_sign"]) (ix:=[none]) (λ_ h=>gG h) (by rfl)) (gI rfl) (λ_ _ _ _ _=>⟨(iD 0 (show List.Nodup (α:=Str) ["_law_sign"] by decide) (Or.inl rfl)),iq,(kW (fJ 0))⟩))) fM)) fM))) (fI (fZ C_held hr (fI (fJ 5) (fI (Kb (fJ 8) (kW fS)) fM))) (fI (fZ C_held hr (fI (fJ 6) (fI (fJ 8) fM))) fM))))))
  (fN (gK (ki hr (gZ (jC (N:=["_law_told", "_law_due"]) (ix:=[none,some 9]) rfl (gW (fJ 10)) (jZ (N:=["_law_told", "_law_due"]) (ix:=[none,some 9]) (λ_ h=>gG h) (by rfl)) (gI rfl) (λ_ _ _ _ _=>⟨(iD 0 (show List.Nodup (α:=Str) ["_law_told", "_law_due"] by decide) (Or.inl rfl)),iq,(BX hr (BX hr (gy (fJ 0) fS) tX) (fJ 1))⟩))) (gZ (jg (fI kJ (fI kJ (fI kJ fM)))))) (fQ (f6 kJ)) gw)
  (fQ (gK (kz (fJ 9)) (fQ (oE 7 (pv 7) (gy (fZ C_held hr (fI (fJ 3) (fI (fJ 8) fM))) fS))) gw)))))))
  (fN (oM PassesOwn.never rfl (lQ B.range (fI (gF (yu rfl) Eh (by rfl) B.min IG (fI fS (fI (gF (ir (K:=K)) jA (by rfl) B.len jz (fI (fJ 7) fM)) fM))) fM)) (iA 11 je.nd (Or.inl rfl)) (fN (fY 12 je.nd (Or.inl rfl) (fZ C_law_cell_at hr (fI (fJ 0) (fI (iT fS (fJ 11)) fM))))
  (fN (qm 13 je.nd (Or.inr rfl) (fZ C_law_halfway hr (fI (gy (fJ 7) (fZ C_law_draw hr (fI (fJ 12) (fI fS (fI (gF (ir (K:=K)) jA (by rfl) B.len jz (fI (fJ 7) fM)) fM))))) (fI (gy (fJ 7) (fZ C_law_draw hr (fI (fJ 12) (fI fS (fI (gF (ir (K:=K)) jA (by rfl) B.len jz (fI (fJ 7) fM)) fM))))) fM))))
  (fQ (gK (iz Fs Gc (fZ C_law_held_2 hr (fI (fJ 3) (fI (fJ 2) (fI (fJ 1) (fI (iS (iC (K:=K)) jd (by rfl) B.tuple iQ (fI (gZ (jC (N:=["_law_cut_here", "_law_place"]) (ix:=[none,some 13]) rfl (gW (fJ 2)) (jZ (N:=["_law_cut_here", "_law_place"]) (ix:=[none,some 13]) (λ_ h=>gG h) (by rfl)) (gI rfl) (λ_ _ _ _ _=>⟨(iD 0 (show List.Nodup (α:=Str) ["_law_cut_here", "_law_place"] by decide) (Or.inl rfl)),iq,(fZ C_law_side_2 hr (fI (fJ 0) (fI (fJ 1) fM)))⟩))) fM)) fM))))) kJ) (fQ (f6 kJ)) gw)))))
  (fQ (f6 kJ))))))))))⟩
end
end K14
namespace K14
open PySem L2 L3 CL
theorem Qt{K:W.Frag}{h:Heap}{mg:Str->Option Value}{aCutting:Addr}{tMOST_CUTS tMOST_DIMS:_}(X:K.In h)(G:h.Ns mainGlobals mg)(e:W.nsIn K mainGlobals "Cutting" = some (some (.ref aCutting)))(pg:W.plainGet K aCutting Str.empty=true)(hd:W.hasDictIn K aCutting=true)(po:W.plainOver K aCutting=true)(sa:W.findIn K (.ref aCutting) "__setattr__" = some (some (.builtin "object.__setattr__")))(own_cuts:W.findIn K (.ref aCutting) "own_cuts" = some none)(own_dims:W.findIn K (.ref aCutting) "own_dims" = some none)(mk:W.makesIn K aCutting=true)(kp:W.keepIn K (.ref aCutting)=true)(uMOST_CUTS:W.nsIn K mainGlobals "MOST_CUTS" = some (some (.int 7 tMOST_CUTS)))(uMOST_DIMS:W.nsIn K mainGlobals "MOST_DIMS" = some (some (.int 3 tMOST_DIMS))):Er ⟨aCutting,0,0,0,0,0,0,0,0,0,0,0,0⟩ K mg:=⟨trivial,⟨pg,hd,po,sa⟩,own_cuts,own_dims,mk,kp,W.mg_of X G e,⟨_,W.mg_of X G uMOST_CUTS⟩,⟨_,W.mg_of X G uMOST_DIMS⟩⟩
theorem QA{K:W.Frag}{a g:Addr}{m q:Str}{st:Stmt}{oc kV doc pm cdv ct:Value}{od an:Option Addr}{osl:Array (Option Value)}(gf:W.findIn K (.ref a) m=some (some (.ref g)))(gi:W.isFn K (.ref g)=true)(l:K.lookup g=some ⟨oc,od,.func (W.fnOf m q (jQ st) (iP st) (fU st) .none kV doc pm an cdv ct),osl⟩)(gc:W.codeIn K cdv q=true)(gk:W.keepIn K (.ref g)=true):mw K a m q st:=⟨_,_,Dp l gc gk,gf,gi,gk⟩
theorem On{l:W.OpenLaw}{w:World}{K:W.Frag}{h:Heap}{mg:Str->Option Value}{c:Cs}{fa f:Addr}{oc kV doc pm cdv ct:Value}{od an:Option Addr}{osl:Array (Option Value)}(X:K.In h)(G:h.Ns mainGlobals mg)(hfa:mg "law" = some (.ref fa))
  (a:W.nsIn K mainGlobals "law" = some (some (.ref f))) (lk:K.lookup f=some ⟨oc,od,.func (W.fnOf "law" "law" (jQ (gJ 71)) (iP (gJ 71)) (fU (gJ 71)) .none kV doc pm an cdv ct),osl⟩) (cc:W.codeIn K cdv "law" = true) (kk:W.keepIn K (.ref f)=true)
  (B:Bs mg) (ER:Er c K mg) (D0:gq K mg "is_whole" (gJ 8)) (D1:gq K mg "sign_of" (gJ 10)) (D2:gq K mg "common_divisor" (gJ 11)) (D3:gq K mg "less" (gJ 19)) (D4:gq K mg "floor_of" (gJ 20)) (D5:gq K mg "ceiling_of" (gJ 21)) (D6:gq K mg "weighted" (gJ 23)) (D7:gq K mg "free_places" (gJ 27)) (D8:gq K mg "turned" (gJ 33)) (D9:gq K mg "first_place" (gJ 48)) (D10:gq K mg "_law_cell_at" (gJ 54)) (D11:gq K mg "_law_draw" (gJ 55)) (D12:gq K mg "_law_whole" (gJ 56)) (D13:gq K mg "_law_common" (gJ 57)) (D14:gq K mg "_law_same" (gJ 60)) (D15:gq K mg "_law_side" (gJ 63)) (D16:gq K mg "_law_none" (gJ 65)) (D17:gq K mg "_law_all" (gJ 68)) (D18:gq K mg "lowest" (gJ 12)) (D19:gq K mg "made" (gJ 15)) (D20:gq K mg "is_signs" (gJ 31)) (D21:gq K mg "whole_between" (gJ 37)) (D22:gq K mg "paper_of_noughts" (gJ 40)) (D23:gq K mg "is_dims" (gJ 46)) (D24:gq K mg "is_cut" (gJ 47)) (D25:gq K mg "same_spots" (gJ 49)) (D26:gq K mg "_law_lowest" (gJ 58)) (D27:gq K mg "_law_is_fraction" (gJ 59)) (D28:gq K mg "_law_cut" (gJ 61)) (D29:gq K mg "_law_numbers" (gJ 66)) (D30:gq K mg "cleared" (gJ 13)) (D31:gq K mg "minus" (gJ 16)) (D32:gq K mg "times" (gJ 17)) (D33:gq K mg "over" (gJ 18)) (D34:gq K mg "check_signs" (gJ 32)) (D35:gq K mg "one_between" (gJ 38)) (D36:gq K mg "can_stand" (gJ 50)) (D37:gq K mg "_law_cuts" (gJ 62)) (D38:gq K mg "_law_is_spot" (gJ 64)) (D39:gq K mg "_law_halfway" (gJ 70)) (D40:gq K mg "settled" (gJ 24)) (D41:gq K mg "with_pivot" (gJ 25)) (D42:gq K mg "left_for" (gJ 28)) (D43:gq K mg "shadow" (gJ 34)) (D44:gq K mg "checked_cuts" (gJ 51)) (D45:gq K mg "_law_drawn" (gJ 69)) (D46:gq K mg "pivots_and_rests" (gJ 26)) (D47:gq K mg "filled" (gJ 29)) (D48:gq K mg "shadows" (gJ 35)) (D49:gq K mg "ends_at" (gJ 36)) (D50:gq K mg "parts_within" (gJ 39)) (D51:gq K mg "parts_or_weights" (gJ 41)) (D52:gq K mg "held" (gJ 42)) (D53:gq K mg "_law_held" (gJ 67)) (M0:mw K c.Cutting "dims" "Cutting.dims" (lq (gJ 52) 1)) (M1:mw K c.Cutting "cuts" "Cutting.cuts" (lq (gJ 52) 2)) (M2:mw K c.Cutting "many" "Cutting.many" (lq (gJ 52) 3)) (M3:mw K c.Cutting "__init__" "Cutting.__init__" (lq (gJ 52) 0)) :
  ∃fd:FuncData,(∀(s:Shared) (v:Value),BindsTo s fd ⟨[v],[]⟩ [("_law_script",v)])/\∀base:Heap,K.In base->base.Ns mainGlobals mg->nT l.prog w K mg base Ay 10 fa fd ["_law_script"] (Ee K):=by
 have e:=hfa.symm.trans (W.mg_of X G a);cases e;refine⟨W.fnOf "law" "law" (jQ (gJ 71)) (iP (gJ 71)) (fU (gJ 71)) .none kV doc pm an cdv ct,?bnd,λbase _ _=>?main⟩
 case main=>have O0:=@Bd l.prog w _ _ base _ D0 B ER;have O1:=@CV l.prog w _ _ base _ D1 B ER;have O2:=@rW l.prog w _ _ base _ D2 B ER;have O3:=@KP l.prog w _ _ base _ D3 B ER;have O4:=@Bb l.prog w _ _ base _ D4 B ER;have O5:=@yj l.prog w _ _ base _ D5 B ER;have O6:=@B0 l.prog w _ _ base _ D6 B ER;have O7:=@vN l.prog w _ _ base _ D7 B ER;have O8:=@GK l.prog w _ _ base _ D8 B ER;have O9:=@wO l.prog w _ _ base _ D9 B ER;have O10:=@uV l.prog w _ _ base _ M0 B ER;have O11:=@uQ l.prog w _ _ base _ M1 B ER;have O12:=@vh l.prog w _ _ base _ M2 B ER;have O13:=@wj l.prog w _ _ base _ D10 B ER;have O14:=@Cc l.prog w _ _ base _ D11 B ER;have O15:=@Ao l.prog w _ _ base _ D12 B ER;have O16:=@xI l.prog w _ _ base _ D13 B ER;have O17:=@BV l.prog w _ _ base _ D14 B ER;have O18:=@xS l.prog w _ _ base _ D15 B ER;have O19:=@Bt l.prog w _ _ base _ D16 B ER;have O20:=@CG l.prog w _ _ base _ D17 B ER;have O21:=@GV l.prog w _ _ base _ D18 B ER (O2.mono (by decide));have O22:=@Mu l.prog w _ _ base _ D19 B ER (O2.mono (by decide));have O23:=@Bq l.prog w _ _ base _ D20 B ER (O0.mono (by decide));have O24:=@t9 l.prog w _ _ base _ D21 B ER (O4.mono (by decide)) (O3.mono (by decide)) (O5.mono (by decide));have O25:=@qT l.prog w _ _ base _ D22 B ER (O8.mono (by decide)) (O1.mono (by decide));have O26:=@CP l.prog w _ _ base _ D23 B ER (O0.mono (by decide));have O27:=@FW l.prog w _ _ base _ D24 B ER (O0.mono (by decide));have O28:=@yh l.prog w _ _ base _ D25 B ER (O9.mono (by decide));have O29:=@yl l.prog w _ _ base _ D26 B ER (O16.mono (by decide));have O30:=@rC l.prog w _ _ base _ D27 B ER (O15.mono (by decide)) (O16.mono (by decide));have O31:=@Ah l.prog w _ _ base _ D28 B ER (O14.mono (by decide));have O32:=@xa l.prog w _ _ base _ D29 B ER (O15.mono (by decide));have O33:=@C2 l.prog w _ _ base _ D30 B ER (O21.mono (by decide)) (O1.mono (by decide));have O34:=@HL l.prog w _ _ base _ D31 B ER (O22.mono (by decide));have O35:=@HS l.prog w _ _ base _ D32 B ER (O22.mono (by decide));have O36:=@Kr l.prog w _ _ base _ D33 B ER (O22.mono (by decide));have O37:=@vS l.prog w _ _ base _ D34 B ER (O23.mono (by decide)) (O12.mono (by decide));have O38:=@v7 l.prog w _ _ base _ D35 B ER (O24.mono (by decide)) (O4.mono (by decide));have O39:=@zF l.prog w _ _ base _ D36 B ER (O27.mono (by decide)) (O28.mono (by decide));have O40:=@yk l.prog w _ _ base _ D37 B ER (O31.mono (by decide)) (O13.mono (by decide)) (O17.mono (by decide));have O41:=@vV l.prog w _ _ base _ D38 B ER (O30.mono (by decide));have O42:=@vM l.prog w _ _ base _ D39 B ER (O29.mono (by decide));have O43:=@CA l.prog w _ _ base _ D40 B ER (O33.mono (by decide));have O44:=@xH l.prog w _ _ base _ D41 B ER (O33.mono (by decide));have O45:=@BJ l.prog w _ _ base _ D42 B ER (O34.mono (by decide)) (O35.mono (by decide));have O46:=@FZ l.prog w _ _ base _ D43 B ER (O33.mono (by decide));have O47:=@vj l.prog w _ _ base _ D44 B ER (O26.mono (by decide)) (O39.mono (by decide));have O48:=@wL l.prog w _ _ base _ D45 B ER (O13.mono (by decide)) (O14.mono (by decide)) (O40.mono (by decide));have O49:=@qQ l.prog w _ _ base _ D46 B ER (O43.mono (by decide)) (O44.mono (by decide));have O50:=@GO l.prog w _ _ base _ D47 B ER (O36.mono (by decide)) (O45.mono (by decide));have O51:=@DY l.prog w _ _ base _ D48 B ER (O46.mono (by decide));have O52:=@Dk l.prog w _ _ base _ D49 B ER (O36.mono (by decide)) (O45.mono (by decide)) (O3.mono (by decide));have O53:=@uN l.prog w _ _ base _ M3 B ER (O47.mono (by decide));have O54:=@uO l.prog w _ _ base _ D50 B ER (O52.mono (by decide)) (O38.mono (by decide));have O55:=@qS l.prog w _ _ base _ D51 B ER (O6.mono (by decide)) (O49.mono (by decide)) (O25.mono (by decide)) (O7.mono (by decide)) (O51.mono (by decide)) (O43.mono (by decide)) (O50.mono (by decide)) (O8.mono (by decide)) (O54.mono (by decide));have O56:=@KN l.prog w _ _ base _ D52 B ER (O37.mono (by decide)) (O55.mono (by decide)) (O11.mono (by decide)) (O10.mono (by decide));have O57:=@yg l.prog w _ _ base _ D53 B ER (O56.mono (by decide)) (O41.mono (by decide)) (O32.mono (by decide)) (O19.mono (by decide)) (O18.mono (by decide));exact (GU (P:=l.prog) (w:=w) (base:=base) (Dp (st:=gJ 71) lk cc kk) B ER (O48.mono (by decide)) (O53.mono (by decide)) (O20.mono (by decide)) (O57.mono (by decide)) (O13.mono (by decide)) (O42.mono (by decide)) (O56.mono (by decide)) (O14.mono (by decide)) (O18.mono (by decide))).imp (Ju (λns _ _=>FH ns))
 case bnd=>exact λs v=>.of_eq rfl
end K14
namespace PySem.Challenge.cw_cutlands_k14_whole_all_signs_holds
theorem tw17203765996535411381:0=0:=rfl
theorem tw7066310925925443142:0=0:=rfl
theorem tw4493536692389167905:0=0:=rfl
theorem tw966538113624804294:0=0:=rfl
theorem tw4489402887054944725:0=0:=rfl
theorem tw8287400884788734046:0=0:=rfl
theorem tw2727297729093249125:0=0:=rfl
theorem tw16953759141214246370:0=0:=rfl
theorem tw10605937001788780459:0=0:=rfl
theorem tw14099921687399414119:0=0:=rfl
theorem tw10787407162343361216:0=0:=rfl
theorem tw3776894510757245722:0=0:=rfl
theorem tw5357468191944105778:0=0:=rfl
theorem tw13579966003506524291:0=0:=rfl
theorem tw12032790206187799221:0=0:=rfl
theorem tw5454346096796384072:0=0:=rfl
theorem tw6767210105618501782:0=0:=rfl
theorem tw8844939687978881426:0=0:=rfl
theorem tw12257469003965133702:0=0:=rfl
theorem tw13991347648762154193:0=0:=rfl
theorem tw4098129460261869996:0=0:=rfl
theorem tw7958707912931594419:0=0:=rfl
theorem tw1024083991324931857:0=0:=rfl
theorem tw1700079782618575923:0=0:=rfl
theorem tw5702476343111392783:0=0:=rfl
theorem tw15718878715249292117:0=0:=rfl
theorem tw6086715122497690082:0=0:=rfl
theorem tw10224615234459896251:0=0:=rfl
theorem tw17475610772742832381:0=0:=rfl
theorem tw1357774263525649411:0=0:=rfl
theorem tw727002194316446375:0=0:=rfl
theorem tw2679527507700754260:0=0:=rfl
theorem tw5310696952142659789:0=0:=rfl
theorem tw10367596047641636511:0=0:=rfl
theorem tw14764118364475306522:0=0:=rfl
theorem tw17632397735048899307:0=0:=rfl
theorem tw13675779011779296497:0=0:=rfl
theorem tw6069991896715742439:0=0:=rfl
theorem tw1389655379934334877:0=0:=rfl
theorem tw5783762997405658855:0=0:=rfl
theorem tw14728138711539324070:0=0:=rfl
theorem tw9682130844761267221:0=0:=rfl
theorem tw9158511213283993756:0=0:=rfl
theorem tw4688503723998190293:0=0:=rfl
theorem tw8305099147161473661:0=0:=rfl
theorem tw5138194143937366043:0=0:=rfl
theorem tw12376104000195978477:0=0:=rfl
theorem tw12779154085432219350:0=0:=rfl
theorem tw10943725147388758106:0=0:=rfl
theorem tw6501906194725437260:0=0:=rfl
theorem tw17770802706285184533:0=0:=rfl
theorem tw4135063236120098652:0=0:=rfl
theorem tw17214390326577592602:0=0:=rfl
theorem tw5540390335542980096:0=0:=rfl
theorem tw14762063484254316205:0=0:=rfl
theorem tw17011006901519704617:0=0:=rfl
theorem tw15914239438073940334:0=0:=rfl
theorem tw13210869827745672814:0=0:=rfl
theorem tw3388949781432432507:0=0:=rfl
theorem tw5758417062826653186:0=0:=rfl
theorem tw9878349424399251298:0=0:=rfl
theorem tw2004024925032542063:0=0:=rfl
theorem tw3161951703203433157:0=0:=rfl
theorem tw829590416070968580:0=0:=rfl
theorem tw7309520152404329261:0=0:=rfl
theorem tw3253659542035132865:0=0:=rfl
theorem tw11101432992963673165:0=0:=rfl
theorem tw9184041581857533014:0=0:=rfl
theorem tw14454066476106456673:0=0:=rfl
theorem tw10881233385709006929:0=0:=rfl
theorem tw5023429509661709555:0=0:=rfl
theorem tw3475934486778320179:0=0:=rfl
theorem tw10268268048630309557:0=0:=rfl
theorem tw2649051221847611059:0=0:=rfl
theorem tw3120181193771936223:0=0:=rfl
theorem tw7366182217667272393:0=0:=rfl
theorem tw9839233156917100781:0=0:=rfl
theorem tw15687086730098187937:0=0:=rfl
theorem tw11510920282401997685:0=0:=rfl
theorem tw2095408311350553712:0=0:=rfl
theorem tw1805564716062349036:0=0:=rfl
theorem tw12836751016476504889:0=0:=rfl
theorem tw8489759458383459311:0=0:=rfl
theorem tw6804452589201421844:0=0:=rfl
theorem tw15253533722752694842:0=0:=rfl
theorem tw790573910125480342:0=0:=rfl
theorem tw8421458834973084966:0=0:=rfl
theorem tw8906700169983306032:0=0:=rfl
theorem tw892578096475982700:0=0:=rfl
theorem tw9640518848004011448:0=0:=rfl
theorem tw14007138774078070462:0=0:=rfl
theorem tw3468458942883474140:0=0:=rfl
theorem tw6715768443232772265:0=0:=rfl
theorem tw8948145166457881030:0=0:=rfl
theorem tw9555200898255476959:0=0:=rfl
theorem tw5004391480251650081:0=0:=rfl
theorem tw14554504446607206057:0=0:=rfl
theorem tw8572421141307724434:0=0:=rfl
theorem tw12771233233249617553:0=0:=rfl
theorem tw16047758434042097210:0=0:=rfl
theorem tw3797182921880968872:0=0:=rfl
theorem tw10399230476310407595:0=0:=rfl
theorem tw18249370799051654920:0=0:=rfl
theorem tw11594339646287218745:0=0:=rfl
theorem tw5239264595913979946:0=0:=rfl
theorem tw8237816213602413759:0=0:=rfl
theorem tw9788711098370043733:0=0:=rfl
theorem tw4726598154828000087:0=0:=rfl
theorem tw17787323221639143938:0=0:=rfl
theorem tw4034961978613597180:0=0:=rfl
theorem tw10485117352952370100:0=0:=rfl
theorem tw3124023048525940440:0=0:=rfl
theorem tw1069359213261063937:0=0:=rfl
theorem tw1024748159592073621:0=0:=rfl
theorem tw15803244931043416792:0=0:=rfl
theorem tw15808791776631205919:0=0:=rfl
theorem tw7946991414942202982:0=0:=rfl
theorem tw7401532795711780589:0=0:=rfl
theorem tw16190714404509249655:0=0:=rfl
theorem tw15909584130053907179:0=0:=rfl
theorem tw11440735652726528125:0=0:=rfl
theorem tw194695714618756494:0=0:=rfl
theorem tw10634935491555082639:0=0:=rfl
theorem tw14635995654483756093:0=0:=rfl
theorem tw8699948775694941589:0=0:=rfl
theorem tw6266843813594632219:0=0:=rfl
theorem tw9169754128284925023:0=0:=rfl
theorem tw12012366834892459872:0=0:=rfl
theorem tw6824470996223626810:0=0:=rfl
theorem tw13848502409994113295:0=0:=rfl
theorem tw15232096703075563301:0=0:=rfl
theorem tw13399862920400710363:0=0:=rfl
theorem tw14438127095209221115:0=0:=rfl
theorem tw11399928556743037382:0=0:=rfl
theorem tw11120873138454161953:0=0:=rfl
theorem tw17507268356332175565:0=0:=rfl
theorem tw13125734739514452345:0=0:=rfl
theorem tw3349284484998493945:0=0:=rfl
theorem tw16893407030182527107:0=0:=rfl
theorem tw11851861031659683166:0=0:=rfl
theorem tw5436678902705661077:0=0:=rfl
theorem tw13025404639855894431:0=0:=rfl
theorem tw5639444129475292060:0=0:=rfl
theorem tw9876855850738965682:0=0:=rfl
theorem tw5590618387880951575:0=0:=rfl
theorem tw6936462008553333182:0=0:=rfl
theorem tw8923449777760019077:0=0:=rfl
theorem tw5163048787518526309:0=0:=rfl
theorem tw1655344152347648219:0=0:=rfl
theorem tw16705604208423336670:0=0:=rfl
theorem tw16539652892811191516:0=0:=rfl
theorem tw17801809248038969793:0=0:=rfl
theorem tw13283971832137796950:0=0:=rfl
theorem tw404218470974227610:0=0:=rfl
theorem tw13075462632646769390:0=0:=rfl
end PySem.Challenge.cw_cutlands_k14_whole_all_signs_holds
open PySem PySem.W PyProof.Rows
set_option Elab.async true
theorem PySem.Challenge.cw_cutlands_k14_whole_all_signs_holds : PySem.Challenge.rw_cutlands_k14_whole_all_signs.Holds := by
 w_on;o_law;k_head;(case hw=>w_witness2);k_fill;refine L3.QS (l:=PySem.Challenge.rw_cutlands_k14_whole_all_signs) (k:=10) (x:= "_law_script") rfl ⟨rfl,by decide,by decide⟩ rfl (λw h Y=>PySem.W.kIn_of Y) ?F
 case F=>intro w mg fa h KX G hmg;refine' K14.On KX G hmg ?a ?l ?c ?k ?B ?E ?_ ?_ ?_ ?_ ?_ ?_ ?_ ?_ ?_ ?_ ?_ ?_ ?_ ?_ ?_ ?_ ?_ ?_ ?_ ?_ ?_ ?_ ?_ ?_ ?_ ?_ ?_ ?_ ?_ ?_ ?_ ?_ ?_ ?_ ?_ ?_ ?_ ?_ ?_ ?_ ?_ ?_ ?_ ?_ ?_ ?_ ?_ ?_ ?_ ?_ ?_ ?_ ?_ ?_ ?_ ?_ ?_ ?_;(case a=>k_is);(case l=>k_is);(case c=>k_is);(case k=>k_is);(case B=>constructor<;>(apply mg_none_of KX G;k_is));(case E=>apply K14.Qt KX G<;>first | k_is | k_exc | decide);all_goals first | (apply L2.NC KX G<;>k_is) | (apply K14.QA<;>first | k_is | k_exc | decide)
