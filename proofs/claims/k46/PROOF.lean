import PyProof.Rows.All
import Wide.All
import OpenK.AllK
import Wide.FinOn
import Lean
import PyProof.EqAt
import PyProof.EqKinds
import PyProof.TupleCall
import PyProof.P3Eq
import PyProof.NeData
import PyProof.ConsumeWalk
import PyProof.Rows.SumAny
import PyProof.ZipIter
import PyProof.Rows.ZipGen
import PyProof.Rows.SeqMore
import PyProof.FactsAll.tuple
import PyProof.WalksMore
import PyProof.EnumMake
import PyProof.EnumFor
import PyProof.Rows.MinMaxN
import KE.KDictList
import KE.KRevIter
import KE.KItemsList
import PyProof.Rows.SortWalk
import PyProof.Rows.SetFrom
import PyProof.SetRoads
import PyProof.AttrMissHeap
import KE.KDictOf
import PyProof.ExcInit
import PyProof.ExcClass3
import PyProof.InstStoreFacts
import PyProof.Rows.ChunkEnd
import KE.KSortTup
import KE.KLam
import PySem.Challenge.RW_cutlands_k46_whole_a_cut_left_out
set_option bootstrap.genMatcherCode false
set_option maxRecDepth 100000
set_option maxHeartbeats 0
set_option linter.all false
noncomputable section
set_option compiler.extract_closed false
set_option hygiene false
abbrev LI:=List Int
abbrev LL:=List LI
section
open PySem
def aa:=@List.getElem?_eq_some_iff
def ae:=@Heap.get?_push_of_some
def af:=@List.getD_eq_getElem?_getD
def ag:=@List.getElem?_eq_getElem
def ai:=@List.mem_append
def aj:=@List.mem_singleton
def ak:=@wpAny_pure
def ao:=@wpAny_bind
def aq:=@List.getElem?_set_ne
def ar:=@Heap.get?_push_size
def au:=@List.mem_of_getElem?
def aw:=@List.getElem?_map
def ax:=@List.length_map
def ay:=@List.mem_append_left
def aA:=@List.length_cons
def aC:=@decide_eq_false
def aD:=@decide_eq_true
def aE:=@List.mem_map
def aF:=@Nat.lt_of_lt_of_le
def aG:=@List.mem_cons
def aH:=@Nat.zero_add
def aI:=@Bool.false_ne_true
def aJ:=@List.map_map
def aK:=@Int.mul_le_mul_of_nonneg_right
def aL:=@Nat.le_refl
def aM:=@Heap.lt_size
def aN:=@Nat.ne_of_lt
def aO:=@Nat.le_trans
def aP:=@Classical.byContradiction
def aR:=@if_pos
def aS:=@if_neg
def aT:=@List.mem_range
def aU:=@List.length_append
def aV:=@List.mem_filter
def aW:=@List.getElem_mem
def aX:=@List.of_mem_zip
def aY:=@Int.mul_pos
def aZ:=@Int.natAbs_mul
def a9:=@List.map_append
def bf:=@Nat.lt_irrefl
def bh:=@Nat.le_of_lt
def bj:=@List.filterMap_cons
def bt:=@List.mem_cons_self
def bx:=@List.mem_cons_of_mem
def bz:=@Array.append_assoc
def bA:=@Array.length_toList
def bB:=@Nat.ne_of_gt
def bC:=@List.mem_filterMap
def bE:=@List.mem_append_right
def bF:=@List.size_toArray
def bG:=@List.any_eq_false
def bH:=@List.map_cons
def bI:=@Nat.le_of_eq
def bJ:=@Nat.lt_succ_self
def bK:=@Nat.zero_le
def bL:=@List.append_nil
def bM:=@Nat.le_succ
def bN:=@List.nodup_cons
def bO:=@Option.isSome_iff_exists
def bQ:=@List.length_take
def bR:=@List.length_replicate
def bS:=@Int.toNat_natCast
def bT:=@List.length_drop
def bU:=@Bool.and_eq_true
def bV:=@List.length_set
def bW:=@List.all_cons
def bX:=@List.any_cons
def bY:=@List.replicate_succ
def bZ:=@List.flatten_cons
def b9:=@List.append_assoc
def cf:=@List.length_singleton
def cg:=@Nat.succ_mul
def cj:=@List.nil_append
def cm:=@Nat.mul_comm
def cn:=@List.map_nil
def cq:=@Nat.le_of_not_lt
def cu:=@Nat.lt_of_le_of_lt
def cw:=@Nat.add_le_add_left
def cx:=@List.forIn_cons
def cy:=@Bool.false_eq_true
def cA:=@List.lookup_cons
def cB:=@Nat.le_of_succ_le
def cC:=@Nat.lt_succ_of_lt
def cD:=@Option.isSome_some
def cE:=@List.forIn_nil
def cF:=@Nat.le_add_right
def cG:=@Nat.le_succ_of_le
def cH:=@Nat.not_lt
def cI:=@List.range_succ_eq_map
def cJ:=@List.all_map
def cK:=@List.any_map
def cL:=@List.take_of_length_le
def cN:=@List.all_eq_true
def cO:=@List.length_nil
def cQ:=@Option.isSome_map
def cR:=@Option.map_eq_some_iff
def cS:=@Int.toNat_of_nonneg
def cT:=@Array.getD_eq_getD_getElem?
def cU:=@List.ext_getElem
def cV:=@Array.forIn_toList
def cW:=@Bool.not_true
def cX:=@Bool.not_false
def cY:=@List.zip_cons_cons
def cZ:=@List.map_inj_right
def c5:=@List.take_add_one
def c6:=@List.pairwise_singleton
def c7:=@List.map_congr_left
def c8:=@List.pairwise_map
def c9:=@List.pairwise_iff_getElem
def dc:=@Option.getD_some
def de:=@Int.gcd_dvd_left
def dg:=@Int.gcd_dvd_right
def dh:=@Int.dvd_mul_of_dvd_left
def dm:=@Int.fmod_nonneg_of_pos
def du:=@Int.fmod_lt_of_pos
def dy:=@Int.mul_assoc
def dz:=@Int.mul_comm
def dA:=@List.mem_of_find?_eq_some
def dB:=@List.lookup_cons_self
def dC:=@List.drop_eq_getElem_cons
def dD:=@List.drop_length
def dE:=@List.mem_nil_iff
def dF:=@List.map_take
def dG:=@List.map_drop
def dH:=@Nat.not_lt_zero
def dI:=@Nat.pow_le_pow_right
def dJ:=@Nat.pow_succ
def dM:=@Int.natAbs_add_le
def dN:=@Int.sub_eq_add_neg
def dO:=@List.zipIdx_map
def dP:=@Nat.min_eq_left
def dQ:=@List.drop_of_length_le
def dR:=@List.pairwise_cons
def dS:=@Bool.not_eq_true'
def dU:=@List.mergeSort_perm
def dW:=@List.pairwise_mergeSort
def dX:=@List.cons_append
def dY:=@List.nodup_append
def dZ:=@List.mem_iff_getElem?
def d6:=@Int.mul_fdiv_cancel_left
def d7:=@Nat.two_pow_pos
def d8:=@Int.one_mul
def d9:=@Int.zero_mul
def ee:=@Int.add_zero
def eh:=@Int.zero_add
def eA:=@Int.mul_ne_zero
def eB:=@Int.mul_add
def eE:=@Int.mul_zero
def eF:=@Int.mul_eq_zero
def eG:=@Int.neg_mul
def eI:=@Int.mul_sub
def eJ:=@List.pairwise_append
def eK:=@List.take_length
def eM:=@List.getElem_map
def eN:=@List.length_erase_of_mem
def eO:=@List.mem_of_mem_erase
def eP:=@Nat.mul_le_mul_left
def eQ:=@List.mem_of_mem_take
def eR:=@List.mem_of_mem_drop
def eS:=@List.map_set
def eT:=@List.length_zip
def eU:=@Nat.mul_le_mul_right
def eV:=@List.any_eq_true
def eW:=@List.take_append_drop
def eX:=@Nat.add_zero
def eY:=@List.length_range
def e6:=@Int.lt_trichotomy
def e8:=@Rat.lt_of_mul_lt_mul_left
def fg:=@Rat.le_of_lt
def fj:=@List.length_eq_zero_iff
def fq:=@List.eq_nil_or_concat
def fu:=@List.concat_eq_append
def fv:=@Nat.le_antisymm
def fw:=@Rat.intCast_mul
def fB:=@Rat.mul_pos
def fC:=@List.dropLast_subset
def fE:=@List.getElem_take
def fF:=@Nat.sub_self
def fG:=@Int.lt_of_lt_of_le
def fH:=@Int.pos_of_mul_pos_right
def fJ:=@Int.mul_neg
def fK:=@List.filter_congr
def fL:=@List.filter_eq_nil_iff
def fM:=@List.length_filter_le
def fN:=@List.mem_zipIdx_iff_getElem?
def fO:=@Nat.lt_trichotomy
def fP:=@List.getElem_of_mem
def fQ:=@Int.ofNat_inj
def fR:=@Nat.not_succ_le_self
def fS:=@List.not_mem_nil
def fT:=@List.range_succ
def fU:=@List.filter_append
def fV:=@List.length_filterMap_le
def fW:=@List.filter_eq_self
def fX:=@List.append_of_mem
def fY:=@List.filter_cons
def fZ:=@List.getElem_range
def f9:=@List.singleton_append
def gd:=@List.flatMap_cons
def gh:=@List.filter_cons_of_pos
def gq:=@List.filter_cons_of_neg
def gw:=@List.filter_filter
def gx:=@List.length_zipIdx
def gy:=@Rat.mul_le_mul_of_nonneg_right
def gz:=@Rat.mul_le_mul_of_nonneg_left
def gA:=@Rat.one_mul
def gB:=@List.reverse_append
def gC:=@List.reverse_singleton
def gE:=@List.mem_reverse
def gG:=@List.perm_middle
def gH:=@List.mem_iff_getElem
def gI:=@Nat.eq_one_of_mul_eq_one_right
def gJ:=@Nat.lt_or_gt_of_ne
def gK:=@List.perm_append_singleton
def gM:=@List.nodup_range
def gN:=@List.reverse_perm
end
set_option Elab.async false
namespace L2
open PySem PySem.Spec PyProof.Rows
abbrev nC:=Sum Int Str
noncomputable def Aq:nC->Value->Bool
 |.inl k,v=>Value.isInt k v
 |.inr x,v=>Value.isStrOf x v
def WB(w:World):nC->Int
 |.inl k=>hashInt k
 |.inr x=>hashStr w x
theorem kf:∀{k} {v},Aq k v=true->(∃i t,k=Sum.inl i/\v=Value.int i t)\/(∃x t,k=Sum.inr x/\v=Value.str x t)
 |.inl i,v,h=>by obtain⟨t,e⟩:=Value.isInt_shape h;exact .inl ⟨i,t,rfl,e⟩
 |.inr x,v,h=>by obtain⟨t,e⟩:=Value.isStrOf_shape h;exact .inr ⟨x,t,rfl,e⟩
def Jq i t:Aq (.inl i) (.int i t)=true:=by simp[Aq,Value.isInt]
def Jc x t:Aq (.inr x) (.str x t)=true:=by simp[Aq,Value.isStrOf]
def T8 a b:decide ((Sum.inl a:nC)=Sum.inl b)=(a==b):=by
 by_cases e:a=b
 .subst e;simp
 .have h:¬(Sum.inl a:nC)=Sum.inl b:=λq=>e (Sum.inl.inj q);rw[aC h];exact (beq_eq_false_iff_ne.mpr e).symm
def SL a b:decide ((Sum.inr a:nC)=Sum.inr b)=decide (a=b):=by
 by_cases e:a=b
 .subst e;simp
 .have h:¬(Sum.inr a:nC)=Sum.inr b:=λq=>e (Sum.inr.inj q);rw[aC h,aC e]
def SQ a b:decide ((Sum.inl a:nC)=Sum.inr b)=false:=aC (λq=>nomatch q)
def Tc a b:decide ((Sum.inr a:nC)=Sum.inl b)=false:=aC (λq=>nomatch q)
noncomputable def kU(prog:Program)(w:World):PySem.KeyKind prog w nC where
 is:=Aq
 hash:=WB w
 inj:=λv a b g d=>by
  rcases kf g with⟨i,t,rfl,rfl⟩|⟨x,t,rfl,rfl⟩
  .rcases kf d with⟨j,u,rfl,e⟩|⟨y,u,rfl,e⟩
   .injection e with c _;rw[c]
   .exact nomatch e
  .rcases kf d with⟨j,u,rfl,e⟩|⟨y,u,rfl,e⟩
   .exact nomatch e
   .injection e with c _;rw[c]
 byValue:=λk v h=>by rcases kf h with⟨i,t,rfl,rfl⟩|⟨x,t,rfl,rfl⟩<;>rfl
 pyHash:=λhv h=>by
  rcases kf hv with⟨i,t,rfl,rfl⟩|⟨x,t,rfl,rfl⟩
  .exact wpAny_pyHash_int h
  .exact wpAny_pyHash_str h
 eqBool:=λf hv h=>by
  rcases kf f with⟨i,t,rfl,rfl⟩|⟨x,t,rfl,rfl⟩
  .rcases kf hv with⟨j,u,rfl,rfl⟩|⟨y,u,rfl,rfl⟩
   .rw[T8]at h;exact wpAny_eqBool_int h
   .rw[SQ]at h;exact SeqAt.EqAt.int_str i t y u _ _ _ _ h
  .rcases kf hv with⟨j,u,rfl,rfl⟩|⟨y,u,rfl,rfl⟩
   .rw[Tc]at h;exact SeqAt.EqAt.str_int x t j u _ _ _ _ h
   .rw[SL]at h;exact wpAny_eqBool_str h
 «strs»:=λk x t v h=>by
  rcases kf h with⟨i,u,rfl,e⟩|⟨y,u,rfl,e⟩
  .exact nomatch e
  .injection e with c _;subst c;cases v<;>rfl
def Dx prog w i t:(kU prog w).is (.inl i) (.int i t)=true:=Jq i t
def C5 prog w x t:(kU prog w).is (.inr x) (.str x t)=true:=Jc x t
end L2
namespace L2
open PySem PySem.Spec PyProof.Rows
inductive V where
 |non|bl (b:Bool)|int (i:Int)|str (x:Str)|byt (b:Array UInt8)|flt (b:UInt64)|ref (a:Addr)|ty (n:String)
 deriving DecidableEq
def i9:V->Value->Prop
 |.non,u=>u=Value.none
 |.bl b,u=>u=Value.bool b
 |.int i,u=>∃t,u=Value.int i t
 |.str x,u=>∃t,u=Value.str x t
 |.byt b,u=>∃t,u=Value.bytes b t
 |.flt b,u=>∃t,u=Value.float b t
 |.ref a,u=>u=Value.ref a
 |.ty n,u=>u=Value.type n
abbrev iL:List V->List Value->Prop:=Paired i9
def iL.length(r:iL xs us):xs.length=us.length:=Paired.length r
theorem iL.get:∀{xs:List V} {us:List Value} {i:Nat} {x:V},iL xs us->xs[i]? = some x->∃u,us[i]? = some u/\i9 x u
 |_,_,_,_,.nil,e=>by simp at e
 |_,_,0,_,.cons r _,e=>by simp at e;subst e;exact⟨_,rfl,r⟩
 |_,_,i+1,x,.cons _ t,e=>by obtain⟨u,b,a⟩:=iL.get t (by simpa using e);exact⟨u,by simpa using b,a⟩
theorem iL.set(r:i9 x u):∀{xs} {us} i,iL xs us->iL (xs.set i x) (us.set i u)
 |_,_,_,.nil=>.nil
 |_,_,0,.cons _ t=>.cons r t
 |_,_,i+1,.cons q t=>.cons q (iL.set r i t)
theorem iL.append:∀{xs ys} {us ws},iL xs us->iL ys ws->iL (xs++ys) (us++ws)
 |_,_,_,_,.nil,s=>s
 |_,_,_,_,.cons r t,s=>.cons r (iL.append t s)
theorem iL.take:∀{xs} {us} n,iL xs us->iL (xs.take n) (us.take n)
 |_,_,0,_=>.nil
 |_,_,_+1,.nil=>.nil
 |_,_,n+1,.cons r t=>.cons r (iL.take n t)
theorem iL.drop:∀{xs} {us} n,iL xs us->iL (xs.drop n) (us.drop n)
 |_,_,0,r=>r
 |_,_,_+1,.nil=>.nil
 |_,_,n+1,.cons _ t=>iL.drop n t
def tG:Option V->Option Value->Prop
 |some v,some u=>i9 v u
 |none,none=>True
 |_,_=>False
def KV{a:Type}:List (a×V)->List (a×Value)->Prop:=Paired λ(p:a×V) (q:a×Value)=>p.1=q.1/\i9 p.2 q.2
def kV:nC->V
 |.inl i=>.int i
 |.inr x=>.str x
inductive HO where
 |lst (xs:List V)
 |tup (xs:List V)
 |dK (kvs:List (nC×V))|dT (kvs:List (List nC×V))
 |set (S:Int->Bool) (n:Nat)
 |ins (C dx:Addr) (fs:List (Str×V))
 |own (x:Addr)
 |xd (fs:List (Str×V))
 |met (f x:Addr)
 |rng (lo hi:Int)
 |frz (o:Obj) (u:HO)
 |tbl (q:Str) (ps:Array Value)
 |ext (φ:Heap->Prop)
abbrev Hp:=Addr->Option HO
noncomputable def i6(H:Hp)(a:Addr)(o:HO):Hp:=λb=>if b=a then some o else H b
def g9:i6 H a o a=some o:=by unfold i6;rw[aR rfl]
def hV(h:b≠a):i6 H a o b=H b:=by unfold i6;rw[aS h]
def UM{H:Hp}(h:H a=some o)(h':H b=some u)(d:o≠u):a≠b:=by intro e;subst e;rw[h]at h';exact d (Option.some.inj h')
def ip{H:Hp}(h:H a=some o)(h':H b=none):a≠b:=by intro e;subst e;rw[h]at h';cases h'
section
variable (P:Program)(w:World)
def yM(h:Heap)(a:Addr)(b:Array Value):Prop:=∃o,h.get? a=some o/\o.cls=.type "tuple" /\∃n,o.data=.seq b n/\o.dict=none
def yM.tup(x:yM h a items):IsTup h a items:=let ⟨o,e,c,n,d,_⟩:=x;⟨o,e,c,n,d⟩
def yM.new(h:Heap) items:yM (h.push {cls:=.type "tuple",data:=.seq items}) h.objs.size items:=⟨_,ar _ rfl,rfl,_,rfl,rfl⟩
def mw:List Value->List Value
 |_::_::c::r=>c::mw r
 |_=>[]
def jH(H:Hp)(h:Heap)(a:Addr):HO->Prop
 |.lst xs=>xs.length<=sizeLine/\∃(its:List Value) (n:Nat),iL xs its/\h.get? a=some {cls:=.type "list",data:=.seq its.toArray n}
 |.tup xs=>xs.length<=sizeLine/\∃its:List Value,iL xs its/\yM h a its.toArray
 |.dK kvs=>kvs.length<=sizeLine/\(a==sysModules)=false/\∃vs,KV kvs vs/\h.DictOf (kU P w) a vs
 |.dT kvs=>kvs.length<=sizeLine/\(a==sysModules)=false/\∃xs:List (List nC×Addr×Value),
   Paired (λ(p:List nC×V) (q:List nC×Addr×Value)=>p.1=q.1/\H q.2.1=some (.tup (p.1.map kV))/\i9 p.2 q.2.2) kvs xs/\
   ∃o d i,h.get? a=some o/\o.ExactDict/\o.data=.dict d i/\d.toList=xs.map (entryOfKey (tupleKind (kU P w)))/\(xs.map (·.1)).Nodup
 |.set S n=>h.SetOf (intKind P w) a S n
 |.ins C dx fs=>H dx=some (.own a)/\fs.length<=1000/\dx≠a/\h.get? a=some (W.instObj C dx)/\
   ∃c,h.Ns1 dx c/\(∀f,tG (fs.lookup f) (c f))/\PySem.Within c (fs.map (·.1))
 |.own _=>∃o,h.get? a=some o
 |.xd fs=>∃c,h.Ns1 a c/\∀f,tG (fs.lookup f) (c f)
 |.rng lo hi=>∃t u v,h.get? a=some {cls:=.type "range",data:=.fields #[.int lo t,.int hi u,.int 1 v]}
 |.frz o u=>h.get? a=some o/\jH H h a u
 |.tbl q ps=>h.get? a=some {cls:=.none,data:=.fields ps}/\TriplesOk ps.toList/\∀v∈mw ps.toList,∃b,v=.ref b/\H b=some (.own a)/\h.CodeRec (.ref b) q
 |.met f x=>h.get? a=some (W.methodObj (.ref f) (.ref x))
 |.ext φ=>φ h/\(∃o,h.get? a=some o)/\∀g e:Heap,φ g->(∀o,g.get? a=some o->e.get? a=some o)->φ e
def qH(H:Hp)(h:Heap):Prop:=∀a o,H a=some o->jH P w H h a o
end
section
variable {P:Program}{w:World}{H H':Hp}{h h':Heap}{a:Addr}{o:HO}
def jH.lt(x:jH P w H h a o):a<h.objs.size:=by
 cases o with
 |lst xs=>obtain⟨_,_,_,_,e⟩:=x;exact aM e
 |tup xs=>obtain⟨_,_,_,p⟩:=x;exact (yM.tup p).lt
 |dK kvs=>obtain⟨_,_,_,_,o,_,_,e,_⟩:=x;exact aM e
 |dT kvs=>obtain⟨_,_,_,_,o,_,_,e,_⟩:=x;exact aM e
 |set S n=>obtain⟨o,_,_,_,e,_⟩:=x;exact aM e
 |ins C dx fs=>obtain⟨_,_,_,e,_⟩:=x;exact aM e
 |own y=>obtain⟨_,e⟩:=x;exact aM e
 |xd fs=>obtain⟨_,⟨_,_,_,e,_⟩,_⟩:=x;exact aM e
 |rng lo hi=>obtain⟨_,_,_,e⟩:=x;exact aM e
 |frz ob u=>obtain⟨e,_⟩:=x;exact aM e
 |tbl q ps=>exact aM x.1
 |met f y=>exact aM (x)
 |ext φ=>obtain⟨_,⟨_,e⟩,_⟩:=x;exact aM e
theorem Paired.mapP{F G:α->β->Prop}:∀{l₁} {l₂},Paired F l₁ l₂->(∀a b,F a b->G a b)->Paired G l₁ l₂
 |_,_,.nil,_=>.nil
 |_,_,.cons r t,f=>.cons (f _ _ r) (Paired.mapP t f)
def Paired.imp'{F G:α->β->Prop}(f:∀a b,F a b->G a b){c:List α}{l₂:List β}(r:Paired F c l₂):Paired G c l₂:=Paired.mapP r f
theorem jH.stay(x:jH P w H h a o)(k:∀b u,(b=a\/H b=some (.own a))->h.get? b=some u->h'.get? b=some u)
  (D:∀b,H b=some (.own a)->H' b=some (.own a)) (J:∀b xs,H b=some (.tup xs)->H' b=some (.tup xs)):jH P w H' h' a o:=by
 induction o with
 |lst xs=>obtain⟨z,l,n,r,e⟩:=x;exact⟨z,l,n,r,k _ _ (.inl rfl) e⟩
 |tup xs=>obtain⟨z,l,r,g,e,c⟩:=x;exact⟨z,l,r,g,k _ _ (.inl rfl) e,c⟩
 |dK kvs=>obtain⟨z,y,s,r,g,i,j,e,c⟩:=x;exact⟨z,y,s,r,g,i,j,k _ _ (.inl rfl) e,c⟩
 |dT kvs=>obtain⟨z,y,xs,r,g,i,j,e,c⟩:=x;exact⟨z,y,xs,Paired.mapP r λp q z=>⟨z.1,J _ _ z.2.1,z.2.2⟩,g,i,j,k _ _ (.inl rfl) e,c⟩
 |set S n=>obtain⟨g,i,j,t,e,c⟩:=x;exact⟨g,i,j,t,k _ _ (.inl rfl) e,c⟩
 |ins C dx fs=>obtain⟨d,z,ne,e,A,⟨B,i,j,m,c⟩,r⟩:=x;exact⟨D _ d,z,ne,k _ _ (.inl rfl) e,A,⟨B,i,j,k _ _ (.inr d) m,c⟩,r⟩
 |own y=>obtain⟨g,e⟩:=x;exact⟨g,k _ _ (.inl rfl) e⟩
 |xd fs=>obtain⟨A,⟨B,i,j,e,c⟩,r⟩:=x;exact⟨A,⟨B,i,j,k _ _ (.inl rfl) e,c⟩,r⟩
 |rng lo hi=>obtain⟨t,u,v,e⟩:=x;exact⟨t,u,v,k _ _ (.inl rfl) e⟩
 |frz g u ih=>obtain⟨e,q⟩:=x;exact⟨k _ _ (.inl rfl) e,ih q⟩
 |tbl q ps=>obtain⟨e,t,K⟩:=x;refine⟨k a _ (.inl rfl) e,t,λv hv=>?_⟩;obtain⟨b,I,E,c,o,s,N,L,m,Q⟩:=K v hv;cases L;exact⟨_,I,D _ E,_,o,s,N,rfl,k _ _ (.inr E) m,Q⟩
 |met f y=>have e:=x;exact k a _ (.inl rfl) e
 |ext φ=>obtain⟨p,⟨o,e⟩,F⟩:=x;exact⟨F _ _ p λo q=>k _ _ (.inl rfl) q,⟨o,k _ _ (.inl rfl) e⟩,F⟩
def qH.lt(x:qH P w H h)(e:H a=some o):a<h.objs.size:=(x a o e).lt
def qH.fresh(x:qH P w H h)(e:h.objs.size<=a):H a=none:=by
 cases q:H a with
 |none=>rfl
 |some u=>exact absurd (aF (x.lt q) e) (bf _)
def qH.kept(x:qH P w H h)(k:∀b u,h.get? b=some u->h'.get? b=some u):qH P w H h':=λa o e=>(x a o e).stay (λb u _ q=>k b u q) (λ_ q=>q) λ_ _ q=>q
def qH.laid(x:qH P w H h)(k:∀b u,h.get? b=some u->h'.get? b=some u)(g:h.objs.size<=a)(new:jH P w (i6 H a o) h' a o):qH P w (i6 H a o) h':=λb u e=>by
 have d:=x.fresh g;by_cases f:b=a
 .subst f;rw[g9]at e;cases e;exact new
 .rw[hV f]at e;exact (x b u e).stay (λc v _ q=>k c v q) (λc q=>by rw[hV (ip q d)];exact q) λc i q=>by rw[hV (ip q d)];exact q
end
def Rd(H:Hp)(a:Addr)(u:HO):Prop:=H a=some u\/∃o,H a=some (.frz o u)
def Rd.ok(r:Rd H a u)(x:qH P w H h):jH P w H h a u:=by
 rcases r with r|⟨o,r⟩
 .exact x a u r
 .obtain⟨_,q⟩:=x a _ r;exact q
def UE:Option HO->Prop
 |some (.lst _)=>True
 |some (.dK _)=>True
 |some (.dT _)=>True
 |some (.set _ _)=>True
 |some (.ins _ _ _)=>True
 |some (.ext _)=>True
 |_=>False
section
variable {P:Program}{w:World}{H:Hp}{h h':Heap}{x e:Addr}{o':HO}
def qH.write(ok:qH P w H h)(l:UE (H x))(o:e=x\/H e=some (.own x))(k:∀b u,b≠e->h.get? b=some u->h'.get? b=some u)(m:∃u,h'.get? e=some u)
  (new:jH P w (i6 H x o') h' x o'):qH P w (i6 H x o') h':=λb u q=>by
 have d:∀c y,H c=some (.own y)->c≠x:=λc y r z=>by subst z;rw[r]at l;exact l
 have f:∀c i,H c=some (.tup i)->c≠x:=λc i r z=>by subst z;rw[r]at l;exact l
 by_cases g:b=x
 .subst g;rw[g9]at q;cases q;exact new
 .rw[hV g]at q;by_cases a:b=e
  .have n:H b=some (.own x):=by
    rcases o with z|z
    .exact absurd (a.trans z) g
    .rw[a];exact z
   rw[q]at n;cases n;obtain⟨v,hv⟩:=m;exact⟨v,by rw[a];exact hv⟩
  .refine (ok b u q).stay (λc v j r=>k c v ?_ r) (λc r=>by rw[hV (d c b r)];exact r) λc i r=>by rw[hV (f c i r)];exact r
   rcases j with rfl|j
   .exact a
   .rintro rfl;rcases o with z|z
    .exact d c b j z
    .rw[j]at z;cases z;exact g rfl
end
structure Un(fs ex:List Addr)(H H':Hp)(h h':Heap):Prop where
 keep:∀b o,h.get? b=some o->H b=none->b∉fs->b∉ex->h'.get? b=some o
 slot:∀b o,h.get? b=some o->H b=none->b∈fs->b∉ex->∃sl,h'.get? b=some {o with slots:=sl}
 free:∀b o,h.get? b=some o->H b=none->b∉ex->H' b=none
 there:∀b o,h.get? b=some o->b∉ex->∃o',h'.get? b=some o'
 tups:∀b xs,H b=some (.tup xs)->H' b=some (.tup xs)
 frzs:∀b o u,H b=some (.frz o u)->H' b=some (.frz o u)
 tbls:∀b q ps,H b=some (.tbl q ps)->∃more,H' b=some (.tbl q (ps++more))
section
variable {fs fs' ex ex':List Addr}{H H1 H2:Hp}{h h1 h2 h':Heap}{a x e:Addr}{o:HO}
def Un.any(u:Un fs ex H H1 h h1)(q:h.get? b=some ob)(n:H b=none)(d:b∉ex):∃f,h1.get? b=some {ob with slots:=f}:=by
 by_cases c:b∈fs
 .exact u.slot b ob q n c d
 .exact⟨ob.slots,u.keep b ob q n c d⟩
def Un.kept(k:∀b u,h.get? b=some u->h'.get? b=some u):Un fs ex H H h h':=⟨λb c q _ _ _=>k b c q,λb c q _ _ _=>⟨c.slots,k b c q⟩,λ_ _ _ n _=>n,λb c q _=>⟨c,k b c q⟩,λ_ _ q=>q,λ_ _ _ q=>q,λ_ _ d q=>⟨#[],by rw[q];simp⟩⟩
def Un.refl:Un fs ex H H h h:=Un.kept λ_ _ q=>q
def Un.laid(k:∀b u,h.get? b=some u->h'.get? b=some u)(f:h.objs.size<=a)(c:H a=none):Un fs ex H (i6 H a o) h h' where
 keep:=λb u q _ _ _=>k b u q
 slot:=λb u q _ _ _=>⟨u.slots,k b u q⟩
 free:=λb u q n _=>by rw[hV (aN (aF (aM q) f))];exact n
 there:=λb u q _=>⟨u,k b u q⟩
 tups:=λb d q=>by rw[hV (ip q c)];exact q
 frzs:=λb u d q=>by rw[hV (ip q c)];exact q
 tbls:=λb _ g q=>⟨#[],by rw[hV (ip q c),q];simp⟩
def Un.write(d:UE (H x))(m:e=x\/H e=some (.own x))(k:∀b u,b≠e->h.get? b=some u->h'.get? b=some u)(g:∃u,h'.get? e=some u):Un fs ex H (i6 H x o) h h':=by
 have j:∀b,H b=none->b≠x:=λb n z=>by subst z;rw[n]at d;exact d
 have i:∀b,H b=none->b≠e:=λb n z=>by
  subst z;rcases m with r|r
  .exact j b n r
  .rw[n]at r;cases r
 have f:∀b u,H b=some u->¬UE (some u)->b≠x:=λb u q p z=>by subst z;rw[q]at d;exact p d
 refine⟨λb u q n _ _=>k b u (i b n) q,λb u q n _ _=>⟨u.slots,k b u (i b n) q⟩,λb u q n _=>by rw[hV (j b n)];exact n,λb u q _=>?_,
  λb l q=>by rw[hV (f b _ q λz=>z)];exact q,λb u l q=>by rw[hV (f b _ q λz=>z)];exact q,λb _ s q=>⟨#[],by rw[hV (f b _ q λz=>z),q];simp⟩⟩
 by_cases c:b=e
 .subst c;exact g
 .exact⟨u,k b u c q⟩
end
noncomputable def VT(h:Heap)(H:Hp):List Addr:=(List.range h.objs.size).filter λa=>(H a).isSome
def Nk(h:Heap)(H:Hp):Heap:=W.hideAll h (VT h H)
def Jm h H:(Nk h H).objs.size=h.objs.size:=W.hideAll_size _ _
def JC(e:h.get? b=some o)(n:H b=none):(Nk h H).get? b=some o:=W.hideAll_get _ e λa=>by have q:=(aV.mp a).2;rw[n]at q;simp at q
def PQ(e:(Nk h H).get? b=some o):h.get? b=some o/\H b=none:=by
 have a:=W.of_hideAll (VT h H) e;refine⟨a,?_⟩;cases q:H b with
 |none=>rfl
 |some x=>have c:b∈VT h H:=aV.mpr ⟨aT.mpr (aM a),by simp[q]⟩;have z:(Nk h H).get? b=none:=W.hideAll_none (VT h H) c;rw[z]at e;cases e
end L2
namespace L2
open PySem PySem.Spec PyProof.Rows
structure Mod(K:W.Frag)(mg:Str->Option Value)(base:Heap):Prop where
 kin:K.In base
 glob:base.Ns mainGlobals mg
 blt:∃mb,base.Ns builtinsNs mb/\∀x:Str,x≠ "__name__" ->mb x=bootBuiltins x
 nolimit:base.NoLimit
def HF(a:Heap)(H:Hp):Prop:=∀c P b,(c,P)∈a.life.ids->a.CodeRec (.ref c) b->∃d,H P=some (.tbl (b++ ".<locals>.<lambda>") d)
structure Cx where
 prog:Program
 w:World
 K:W.Frag
 mg:Str->Option Value
 base:Heap
 A:Around
 N:List Str
 s₀:Shared
 H₀:Hp
 env:Env
 outer:List Env
 stack:List Env
 ex:List Addr
 fn:Str->Bool
 calm:Bool
 pn:List (Addr×Obj)
 xe:Value->Shared->Prop
noncomputable def HD(l:List Env):List Addr:=l.filterMap (·.frame)
abbrev Cx.fs(X:Cx):List Addr:=HD X.outer
def Uj(a:Scope)(x:Str):Prop:=a.names.lookup x=some .local\/a.names.lookup x=some .cell\/a.names.lookup x=some .free
def IT(a:Scope)(x:Str):Prop:=a.names.lookup x=some .local\/a.names.lookup x=some .cell
def WE(a:Env)(h:Heap)(m:Str->Option Value)(x:Str)(u:Value):Prop:=(a.kindOf x=some .local/\m x=some u)\/((a.kindOf x=some .cell\/a.kindOf x=some .free)/\∃c,a.cells.lookup x=some c/\h.IsCell c (some u))
structure Cx.Ok(X:Cx):Prop where
 mod:Mod X.K X.mg X.base
 kind:X.env.scope.kind=.function
 glob:X.env.globals=mainGlobals
 blt:X.env.builtins=builtinsNs
 above:X.s₀.heap.objs.size<=X.env.locals
 inj:∀x y c,X.env.cells.lookup x=some c->X.env.cells.lookup y=some c->x=y
 has:∀x,(X.env.kindOf x=some .cell\/X.env.kindOf x=some .free)->∃c,X.env.cells.lookup x=some c
 cab:∀x c,X.fn x=true->X.env.cells.lookup x=some c->X.s₀.heap.objs.size<=c
 hd:X.calm=true->X.A.handled=none
 frames:X.A.frames=some X.stack
 stk:X.stack=X.outer\/(X.stack=X.env::X.outer/\X.env.frame=some X.env.locals)
 exf:∀b∈X.ex,b≠X.env.locals/\∀x c,X.env.cells.lookup x=some c->c≠b
 bs:∀b o,X.base.get? b=some o->X.s₀.heap.get? b=some o/\X.H₀ b=none
 bsz:X.base.objs.size<=X.s₀.heap.objs.size
 noex:∀b o,X.base.get? b=some o->b∉X.ex
 exfs:∀b∈X.ex,b∉X.fs
 funs:X.s₀.heap.FunFrames X.base X.outer
 frf:∀b∈X.fs,X.H₀ b=none
 tab:HF X.base X.H₀
structure iq(X:Cx)(gQ:List (Addr×Obj))(σ:List (Option V))(H:Hp)(s:Shared):Prop where
 ok:X.Ok
 os:s.os=X.s₀.os
 bare:AllBare s.gens
 base:Un X.fs X.ex X.H₀ H X.s₀.heap s.heap
 loc:∃m,s.heap.Ns X.env.locals m/\∀(i:Nat) (x:Str) (v:V),X.N[i]? = some x->σ[i]? = some (some v)->Uj X.env.scope x->∃u,i9 v u/\WE X.env s.heap m x u
 cell:∀x c,X.env.cells.lookup x=some c->∃v,s.heap.IsCell c v
 free:H X.env.locals=none
 freeC:∀x c,X.env.cells.lookup x=some c->H c=none
 pin:∀p∈X.pn++gQ,s.heap.get? p.1=some p.2/\H p.1=none/\p.1≠X.env.locals/\p.1∉X.fs/\∀v,p.2.data≠.cell v
 hok:qH X.prog X.w H s.heap
 len:σ.length=X.N.length
section
variable {X:Cx}{gQ:List (Addr×Obj)}{σ:List (Option V)}{H H':Hp}{s:Shared}{h':Heap}
def Cx.Ok.nofr(ok:X.Ok)(e:X.base.get? b=some o):b∉X.fs:=λa=>by have:=(ok.funs.mem a).1;rw[e]at this;cases this
def iq.bs(I:iq X gQ σ H s):∀b o,X.base.get? b=some o->s.heap.get? b=some o/\H b=none:=λb o e=>⟨I.base.keep b o (I.ok.bs b o e).1 (I.ok.bs b o e).2 (I.ok.nofr e) (I.ok.noex b o e),I.base.free b o (I.ok.bs b o e).1 (I.ok.bs b o e).2 (I.ok.noex b o e)⟩
def iq.tab(I:iq X gQ σ H s):HF X.base H:=λc P d a b=>let ⟨ps,e⟩:=I.ok.tab c P d a b;let ⟨more,q⟩:=I.base.tbls _ _ ps e;⟨ps++more,q⟩
def iq.bk(I:iq X gQ σ H s):∀b o,X.base.get? b=some o->s.heap.get? b=some o:=λb o e=>(I.bs b o e).1
def iq.mod(I:iq X gQ σ H s):Mod X.K X.mg X.base:=I.ok.mod
def iq.kIn(I:iq X gQ σ H s):X.K.In s.heap:=I.ok.mod.kin.keeps I.bk
def iq.lt(I:iq X gQ σ H s):X.env.locals<s.heap.objs.size:=let ⟨_,hn,_⟩:=I.loc;hn.lt
def iq.sz(I:iq X gQ σ H s):X.s₀.heap.objs.size<=s.heap.objs.size:=aO I.ok.above (bh I.lt)
def iq.nofs(I:iq X gQ σ H s)(h:s.heap.objs.size<=a):a∉X.fs:=λc=>by obtain⟨_,o,b,_⟩:=I.ok.funs.mem c;exact absurd (aF (aM b) (aO I.sz h)) (bf _)
def iq.cne(I:iq X gQ σ H s):∀x c,X.env.cells.lookup x=some c->c≠X.env.locals:=λx c e z=>by obtain⟨v,o,d,f⟩:=I.cell x c e;obtain⟨m,⟨i,g,h,b,a,_⟩,_⟩:=I.loc;rw[z,b]at d;cases d;rw[a]at f;cases f
def iq.funs(I:iq X gQ σ H s):s.heap.FunFrames X.base X.outer:=by
 have all:∀(l:List Env),(∀b∈HD l,b∈X.fs)->X.s₀.heap.FunFrames X.base l->s.heap.FunFrames X.base l:=by
  intro l;induction l with
  |nil=>intro _ _;trivial
  |cons env r ih=>intro f i;obtain⟨h,⟨L,o,d,k,g,j⟩,hr⟩:=i;have c:=f L (by unfold HD;rw[bj,d];exact bt);obtain⟨m,e⟩:=I.base.slot L o g (I.ok.frf L c) c λz=>I.ok.exfs L z c;exact⟨h,⟨L,_,d,k,e,j⟩,ih (λb a=>f b (by unfold HD;rw[bj,d];exact bx _ a)) hr⟩
 exact all X.outer (λ_ a=>a) I.ok.funs
def iq.stack(I:iq X gQ σ H s):s.heap.FunFrames X.base X.stack:=by
 rcases I.ok.stk with e|⟨e,b⟩
 .rw[e];exact I.funs
 .rw[e];obtain⟨m,a,_⟩:=I.loc;refine .cons (by rw[I.ok.kind];decide) b a ?_ I.funs;exact Heap.get?_none_of_le (aO I.ok.bsz I.ok.above)
def iq.stkSub(I:iq X gQ σ H s):∀b∈HD X.stack,b∈X.env.locals::X.fs:=λb a=>by
 rcases I.ok.stk with e|⟨e,c⟩
 .rw[e]at a;exact bx _ a
 .rw[e]at a;unfold HD at a;rw[bj,c]at a;exact a
def iq.stkFree(I:iq X gQ σ H s):∀b∈HD X.stack,H b=none:=λb a=>by
 rcases aG.mp (I.stkSub b a) with e|a
 .rw[e];exact I.free
 .obtain⟨_,o,c,_⟩:=I.ok.funs.mem a;exact I.base.free b o c (I.ok.frf b a) λz=>I.ok.exfs b z a
def iq.step{ch:List Addr}(I:iq X gQ σ H s)
  (h:∀b∈ch,(b∈X.ex\/X.s₀.heap.objs.size<=b)/\b≠X.env.locals/\(∀x c,X.env.cells.lookup x=some c->c≠b)/\∀p∈X.pn++gQ,p.1≠b)
  (g:∀b o,b≠X.env.locals->b∉X.fs->b∉ch->s.heap.get? b=some o->H b=none->h'.get? b=some o)
  (B:∀b o,b≠X.env.locals->b∈X.fs->b∉ch->s.heap.get? b=some o->H b=none->∃S,h'.get? b=some {o with slots:=S}) (free:∀b o,b∉ch->s.heap.get? b=some o->H b=none->H' b=none)
  (D:∀b o,b∉ch->s.heap.get? b=some o->∃Q,h'.get? b=some Q)
  (K:∀b xs,H b=some (.tup xs)->H' b=some (.tup xs)) (J:∀b o u,H b=some (.frz o u)->H' b=some (.frz o u)) (N:∀b q R,H b=some (.tbl q R)->∃L,H' b=some (.tbl q (R++L)))
  (ns:∀m,s.heap.Ns X.env.locals m->h'.Ns X.env.locals m) (U:qH X.prog X.w H' h') (hg:AllBare g') :
  iq X gQ σ H' {s with heap:=h',gens:=g',drawn:=d',toks:=t'}:=by
 have P:∀b o,X.s₀.heap.get? b=some o->b≠X.env.locals:=λb o e=>aN (aF (aM e) I.ok.above);have y:∀b o,X.s₀.heap.get? b=some o->b∉X.ex->b∉ch:=λb o e a C=>by
  rcases (h b C).1 with z|z
  .exact a z
  .exact absurd (aF (aM e) z) (bf _)
 have f:∀x c,X.env.cells.lookup x=some c->∀v,s.heap.IsCell c v->h'.IsCell c v:=λx c e v ⟨o,E,Z⟩=>by
  have j:c∉ch:=λz=>(h c z).2.2.1 x c e rfl;by_cases hc:c∈X.fs
  .obtain⟨S,q⟩:=B c o (I.cne x c e) hc j E (I.freeC x c e);exact⟨_,q,Z⟩
  .exact⟨o,g c o (I.cne x c e) hc j E (I.freeC x c e),Z⟩
 refine⟨I.ok,I.os,hg,⟨λb o e n C a=>?_,λb o e n C a=>?_,λb o e n a=>?_,λb o e a=>?_,λb xs e=>K b xs (I.base.tups b xs e),λb o xs e=>J b o xs (I.base.frzs b o xs e),λb _ R e=>?_⟩,?_,λx c e=>?_,?_,λx c e=>?_,λp hp=>?_,U,I.len⟩
 .exact g b o (P b o e) C (y b o e a) (I.base.keep b o e n C a) (I.base.free b o e n a)
 .obtain⟨S,A⟩:=I.base.slot b o e n C a;obtain⟨Y,F⟩:=B b _ (P b o e) C (y b o e a) A (I.base.free b o e n a);exact⟨Y,F⟩
 .obtain⟨Q,A⟩:=I.base.there b o e a;exact free b Q (y b o e a) A (I.base.free b o e n a)
 .obtain⟨Q,A⟩:=I.base.there b o e a;exact D b Q (y b o e a) A
 .obtain⟨m1,A⟩:=I.base.tbls b _ R e;obtain⟨m2,F⟩:=N b _ _ A;exact⟨m1++m2,by rw[F,bz]⟩
 .obtain⟨m,hn,hl⟩:=I.loc;refine⟨m,ns m hn,λi x v A F e3=>?_⟩;obtain⟨u,r,l⟩:=hl i x v A F e3;refine⟨u,r,?_⟩;rcases l with l|⟨k,c,e,z⟩
  .exact .inl l
  .exact .inr ⟨k,c,e,f x c e _ z⟩
 .obtain⟨v,z⟩:=I.cell x c e;exact⟨v,f x c e v z⟩
 .obtain⟨m,⟨o,_,_,E,_⟩,_⟩:=I.loc;exact free _ o (λz=>(h _ z).2.1 rfl) E I.free
 .obtain⟨v,o,E,Z⟩:=I.cell x c e;exact free c o (λz=>(h c z).2.2.1 x c e rfl) E (I.freeC x c e)
 .obtain⟨e,n,ne,nf,d⟩:=I.pin p hp;have j:p.1∉ch:=λz=>(h p.1 z).2.2.2 p hp rfl;exact⟨g p.1 p.2 ne nf j e n,free p.1 p.2 j e n,ne,nf,d⟩
def iq.un(I:iq X gQ σ H s)(u:Un X.fs [] H H' s.heap h')(f:qH X.prog X.w H' h'):iq X gQ σ H' {s with heap:=h',toks:=t'}:=by obtain⟨m,⟨o,p,x,h,r⟩,_⟩:=id I.loc;obtain⟨l,k⟩:=u.any h I.free (by simp);exact I.step (ch:=[]) (λ_ z=>nomatch z) (λb o _ g _ e n=>u.keep b o e n g (by simp)) (λb o _ g _ e n=>u.slot b o e n g (by simp)) (λb o _ e n=>u.free b o e n (by simp)) (λb o _ e=>u.there b o e (by simp)) u.tups u.frzs u.tbls (λq j=>by obtain⟨v,d,c,a,i⟩:=j;rw[h]at a;cases a;exact⟨_,d,c,k,i⟩) f I.bare
def iq.call(I:iq X gQ σ H s)(u:Un (HD X.stack) ch H H' s.heap h')(i:qH X.prog X.w H' h')(y:AllBare g')
  (f:∀b∈ch,(b∈X.ex\/X.s₀.heap.objs.size<=b)/\b≠X.env.locals/\(∀x c,X.env.cells.lookup x=some c->c≠b)/\∀p∈X.pn++gQ,p.1≠b) :
  iq X gQ σ H' {s with heap:=h',gens:=g',drawn:=d',toks:=t'}:=by
 obtain⟨m,⟨o,B,E,k,r⟩,_⟩:=id I.loc;obtain⟨A,j⟩:=u.any k I.free λz=>(f _ z).2.1 rfl;exact I.step f (λb o j v a e n=>u.keep b o e n (λz=>(aG.mp (I.stkSub b z)).elim j v) a) (λb o _ _ a e n=>u.any e n a) (λb o a e n=>u.free b o e n a) (λb o a e=>u.there b o e a) u.tups u.frzs u.tbls (λC q=>by obtain⟨D,h,g,d,l⟩:=q;rw[k]at d;cases d;exact⟨_,h,g,j,l⟩) i y
def iq.turned(I:iq X gQ σ H s)(k:∀b o,b≠it->s.heap.get? b=some o->h'.get? b=some o)(y:H it=none)(f:it≠X.env.locals)
  (B:it∈X.ex\/X.s₀.heap.objs.size<=it) (w:∀x c,X.env.cells.lookup x=some c->c≠it) (l:∀p∈X.pn++gQ,p.1≠it):iq X gQ σ H {s with heap:=h',toks:=t'}:=by
 have d:∀b u,H b=some u->b≠it:=λb u e z=>by rw[z,y]at e;cases e
 refine I.step (ch:=[it]) (λb j=>?_) (λb o _ _ a e _=>k b o (λz=>a (by simp[z])) e) (λb o _ _ a e _=>⟨o.slots,k b o (λz=>a (by simp[z])) e⟩) (λ_ _ _ _ n=>n)
  (λb o a e=>⟨o,k b o (λz=>a (by simp[z])) e⟩) (λ_ _ e=>e) (λ_ _ _ e=>e) (λb _ C e=>⟨#[],by rw[e];simp⟩) (λm h=>?_) (λb u e=>?_) I.bare
 .have e:b=it:=by simpa using j
  subst e;exact⟨B,f,w,l⟩
 .obtain⟨o,g,A,i,r⟩:=h;exact⟨o,g,A,k _ o (Ne.symm f) i,r⟩
 .refine (I.hok b u e).stay (λc v a q=>k c v ?_ q) (λ_ q=>q) λ_ _ q=>q;rcases a with z|z
  .rw[z];exact d b u e
  .exact d c _ z
def iq.tok(I:iq X gQ σ H s) t:iq X gQ σ H {s with toks:=t}:=I.un Un.refl I.hok
def iq.kept(I:iq X gQ σ H s)(k:∀b u,s.heap.get? b=some u->h'.get? b=some u):iq X gQ σ H {s with heap:=h',toks:=t'}:=I.un (Un.kept k) (I.hok.kept k)
def iq.laid(I:iq X gQ σ H s)(k:∀b u,s.heap.get? b=some u->h'.get? b=some u)(c:s.heap.objs.size<=a)(new:jH X.prog X.w (i6 H a o) h' a o) :
  iq X gQ σ (i6 H a o) {s with heap:=h',toks:=t'}:=I.un (Un.laid k c (I.hok.fresh c)) (I.hok.laid k c new)
def iq.write(I:iq X gQ σ H s)(d:UE (H x))(c:e=x\/H e=some (.own x))(k:∀b u,b≠e->s.heap.get? b=some u->h'.get? b=some u)(a:∃u,h'.get? e=some u)
  (new:jH X.prog X.w (i6 H x o) h' x o):iq X gQ σ (i6 H x o) {s with heap:=h',toks:=t'}:=I.un (Un.write d c k a) (I.hok.write d c k a new)
def iq.weak(I:iq X gQ σ H s)(d:σ'.length=σ.length)(w:∀(i:Nat) v,σ'[i]? = some (some v)->σ[i]? = some (some v)):iq X gQ σ' H s:=⟨I.ok,I.os,I.bare,I.base,let ⟨m,hn,hl'⟩:=I.loc;⟨m,hn,λi x v c b a=>hl' i x v c (w i v b) a⟩,I.cell,I.free,I.freeC,I.pin,I.hok,d.trans I.len⟩
def iq.pins_of(I:iq X gQ σ H s)(h:∀p∈pins',s.heap.get? p.1=some p.2/\H p.1=none/\p.1≠X.env.locals/\p.1∉X.fs/\∀v,p.2.data≠.cell v):iq X pins' σ H s:=⟨I.ok,I.os,I.bare,I.base,I.loc,I.cell,I.free,I.freeC,λp a=>(ai.mp a).elim (λz=>I.pin p (ay _ z)) (h p),I.hok,I.len⟩
def C8{N:List Str}(e:N.Nodup){i j:Nat}(a:N[i]? = some x)(b:N[j]? = some x):i=j:=by obtain⟨g,d⟩:=aa.mp a;obtain⟨f,c⟩:=aa.mp b;exact (List.getElem_inj e).mp (d.trans c.symm)
def Ak{M:Model}{A:Around}{E:Value->Shared->Prop}{i:Nat}{x:Str}{v:V}{u:Value}{Q:Unit->Shared->Prop}(I:iq X gQ σ H s)(hN:X.N.Nodup)(S:X.N[i]? = some x)(B:IT X.env.scope x)(r:i9 v u)
  (h:∀s',iq X gQ (σ.set i (some v)) H s'->(∃a,Heap.SameBut a s.heap s'.heap/\(a=X.env.locals\/X.env.cells.lookup x=some a))->Q () s') (hf:X.fn x=true\/X.env.scope.names.lookup x=some .local:=by first|exact .inl rfl|exact .inr rfl|assumption):wpAny M A (storeName X.env x u) Q E s:=by
 obtain⟨m,hn,hl⟩:=id I.loc;have Z:(X.env.scope.kind==.class||(X.env.scope.kind==.module&&X.env.locals != X.env.globals))=false:=by rw[I.ok.kind];rfl
 have F:i<σ.length:=by rw[I.len];exact (aa.mp S).1
 have cne:=I.cne;have tracked:∀{a:Addr} {h':Heap},(∃o,s.heap.get? a=some o/\H a=none)->Heap.SameBut a s.heap h'->qH X.prog X.w H h':=λ{a h'} ha f b ob e=>by
  obtain⟨_,_,C⟩:=ha;refine (I.hok b ob e).stay (λc w' l q=>(f.2 c ?_).trans q) (λ_ q=>q) λ_ _ q=>q;rintro rfl;rcases l with rfl|l
  .rw[C]at e;cases e
  .rw[C]at l;cases l
 rcases B with J|J
 .refine wpAny_storeName_local J hn (λh' hn' f=>?_) Z;obtain⟨oL,_,_,hoL,_⟩:=id hn;refine h _ ⟨I.ok,I.os,I.bare,⟨λb o e n L B=>?_,λb o e n L B=>?_,I.base.free,λb o e B=>?_,I.base.tups,I.base.frzs,I.base.tbls⟩,⟨_,hn',λj y v' g D e3=>?_⟩,λy c e=>?_,I.free,I.freeC,λp hp=>?_,tracked ⟨oL,hoL,I.free⟩ f,by simpa using I.len⟩ ⟨_,f,.inl rfl⟩
  .exact (f.2 b (aN (aF (aM e) I.ok.above))).trans (I.base.keep b o e n L B)
  .obtain⟨sl,g⟩:=I.base.slot b o e n L B;exact⟨sl,(f.2 b (aN (aF (aM e) I.ok.above))).trans g⟩
  .obtain⟨o',g⟩:=I.base.there b o e B;exact⟨o',(f.2 b (aN (aF (aM e) I.ok.above))).trans g⟩
  .by_cases K:j=i
   .subst K;rw[S]at g;cases g;rw[List.getElem?_set_self F]at D;cases D;exact⟨u,r,.inl ⟨J,by simp⟩⟩
   .rw[aq (Ne.symm K)]at D;obtain⟨u',r',q⟩:=hl j y v' g D e3;refine⟨u',r',?_⟩;rcases q with⟨k,e⟩|⟨k,c,e,z⟩
    .refine .inl ⟨k,?_⟩;have:y≠x:=λe=>K (C8 hN g (e▸S));simp[this,e]
    .exact .inr ⟨k,c,e,z.sameBut f (cne y c e)⟩
  .obtain⟨w',z⟩:=I.cell y c e;exact⟨w',z.sameBut f (cne y c e)⟩
  .obtain⟨e,n,ne,nf,d⟩:=I.pin p hp;exact⟨(f.2 p.1 ne).trans e,n,ne,nf,d⟩
 .have P:X.fn x=true:=by
   rcases hf with z|z
   .exact z
   .rw[z]at J;cases J
  obtain⟨c,l⟩:=I.ok.has x (.inl J);obtain⟨w',z⟩:=I.cell x c l;refine wpAny_storeName_cell I.ok.kind J l z (λh' U f=>?_);obtain⟨oc,hoc,Y⟩:=id z;refine h {s with heap:=h'} ⟨I.ok,I.os,I.bare,⟨λb o e n L B=>?_,λb o e n L B=>?_,I.base.free,λb o e B=>?_,I.base.tups,I.base.frzs,I.base.tbls⟩,⟨m,hn.sameBut f (Ne.symm (cne x c l)),λj y v' g D e3=>?_⟩,λy c' e=>?_,I.free,I.freeC,λp hp=>?_,tracked ⟨oc,hoc,I.freeC x c l⟩ f,by simpa using I.len⟩ ⟨c,f,.inr l⟩
  .exact (f.2 b (aN (aF (aM e) (I.ok.cab x c P l)))).trans (I.base.keep b o e n L B)
  .obtain⟨sl,g⟩:=I.base.slot b o e n L B;exact⟨sl,(f.2 b (aN (aF (aM e) (I.ok.cab x c P l)))).trans g⟩
  .obtain⟨o',g⟩:=I.base.there b o e B;exact⟨o',(f.2 b (aN (aF (aM e) (I.ok.cab x c P l)))).trans g⟩
  .by_cases K:j=i
   .subst K;rw[S]at g;cases g;rw[List.getElem?_set_self F]at D;cases D;exact⟨u,r,.inr ⟨.inl J,c,l,U⟩⟩
   .rw[aq (Ne.symm K)]at D;obtain⟨u',r',q⟩:=hl j y v' g D e3;refine⟨u',r',?_⟩;rcases q with q|⟨k,c',e,z'⟩
    .exact .inl q
    .refine .inr ⟨k,c',e,z'.sameBut f ?_⟩;rintro rfl;exact K (C8 hN g (I.ok.inj _ _ _ e l▸S))
  .by_cases R:c'=c
   .subst R;exact⟨_,U⟩
   .obtain⟨w2,z2⟩:=I.cell y c' e;exact⟨w2,z2.sameBut f R⟩
  .obtain⟨e,n,ne,nf,d⟩:=I.pin p hp;refine⟨(f.2 p.1 ?_).trans e,n,ne,nf,d⟩;intro q;rw[q,hoc]at e;have q':=Option.some.inj e;exact d w' (by rw[<-q'];exact Y)
def CZ{M:Model}{A:Around}{E:Value->Shared->Prop}{i:Nat}{x:Str}{v:V}{u:Value}{Q:Unit->Shared->Prop}(I:iq X gQ σ H s)(c:X.N.Nodup)(e:X.N[i]? = some x)(d:IT X.env.scope x)(r:i9 v u)
  (h:∀a,iq X gQ (σ.set i (some v)) H a->Q () a) (f:X.fn x=true\/X.env.scope.names.lookup x=some .local:=by first|exact .inl rfl|exact .inr rfl|assumption):wpAny M A (storeName X.env x u) Q E s:=
 Ak I c e d r (λa b _=>h a b) f
def iq.call'(I:iq X gQ σ H s)(f:s'.os=s.os)(u:Un (HD X.stack) ch H H' s.heap s'.heap)(a:qH X.prog X.w H' s'.heap)(g:AllBare s'.gens)
  (d:∀b∈ch,(b∈X.ex\/X.s₀.heap.objs.size<=b)/\b≠X.env.locals/\(∀x c,X.env.cells.lookup x=some c->c≠b)/\∀p∈X.pn++gQ,p.1≠b):iq X gQ σ H' s':=by
 obtain⟨h',h,i,k,j⟩:=s';have e:=f;subst e;exact I.call u a g d
end
abbrev XK:=Value->Option Addr->Hp->Prop
abbrev St:=List (Option V)
abbrev VK:=V->Hp->Prop
abbrev TE:=St->Hp->VK->Prop
abbrev TT:=St->Hp->(Bool->Hp->Prop)->Prop
abbrev TA:=St->Hp->(List V->Hp->Prop)->Prop
structure tq where
 nx:St->Hp->Prop
 rt:VK
 bk:St->Hp->Prop:=λ_ _=>False
 ct:St->Hp->Prop:=λ_ _=>False
abbrev TS:=tq->St->Hp->Prop
def EP(X:Cx)(c:List (Addr×Obj))(d:St)(Q:VK)(u:Value)(b:Shared):Prop:=∃v a,iq X c d a b/\i9 v u/\Q v a
def TP(X:Cx)(d:List (Addr×Obj))(e:St)(Q:Bool->Hp->Prop)(b:Bool)(c:Shared):Prop:=∃a,iq X d e a c/\Q b a
def AP(X:Cx)(d:List (Addr×Obj))(e:St)(Q:List V->Hp->Prop)(us:List Value)(c:Shared):Prop:=∃b a,iq X d e a c/\iL b us/\Q b a
def SP(X:Cx)(d:List (Addr×Obj))(D:tq)(f:Flow)(c:Shared):Prop:=
 match f with
 |.next=>∃a b,iq X d a b c/\D.nx a b
 |.brk=>∃a b,iq X d a b c/\D.bk a b
 |.cont=>∃a b,iq X d a b c/\D.ct a b
 |.ret u=>∃v a b,iq X d a b c/\i9 v u/\D.rt v b
def PE(X:Cx)(e:Expr)(t:TE):Prop:=∀(b:List (Addr×Obj)) (s:Shared) (a:St) (H:Hp) (Q:VK),iq X b a H s->t a H Q->wpAny (model X.prog X.w) X.A (eval e X.env) (EP X b a Q) X.xe s
def PT(X:Cx)(e:Expr)(t:TT):Prop:=∀(b:List (Addr×Obj)) (s:Shared) (a:St) (H:Hp) (Q:Bool->Hp->Prop),iq X b a H s->t a H Q->wpAny (model X.prog X.w) X.A (isTrue e X.env (eval e X.env)) (TP X b a Q) X.xe s
def PW(X:Cx)(e:Expr)(t:TT):Prop:=∀(a:Sem Value) (c:List (Addr×Obj)) (s:Shared) (b:St) (H:Hp) (Q:Bool->Hp->Prop),iq X c b H s->t b H Q->wpAny (model X.prog X.w) X.A (isTrue e X.env a) (TP X c b Q) X.xe s
def PW.pt(h:PW X e t):PT X e t:=h _
def PA(X:Cx)(d:List Expr)(t:TA):Prop:=∀(a:Pos) (c:List (Addr×Obj)) (s:Shared) (b:St) (H:Hp) (Q:List V->Hp->Prop),iq X c b H s->t b H Q->wpAny (model X.prog X.w) X.A (spliced (backTo a (starEach d X.env))) (AP X c b Q) X.xe s
def PS(X:Cx)(st:Stmt)(t:TS):Prop:=∀(a:List (Addr×Obj)) (s:Shared) (b:St) (H:Hp) (D:tq),iq X a b H s->t D b H->wpAny (model X.prog X.w) X.A (exec st X.env) (SP X a D) X.xe s
def BU(X:Cx)(st:List Stmt)(t:TS):Prop:=∀(a:List (Addr×Obj)) (s:Shared) (b:St) (H:Hp) (D:tq),iq X a b H s->t D b H->wpAny (model X.prog X.w) X.A (execs st X.env) (SP X a D) X.xe s
def kl{c:Type}{t:Sem c}{Q b:c->Shared->Prop}{M:Model}{A:Around}{E:Value->Shared->Prop}{s:Shared}(h:wpAny M A t Q E s)(d:∀a s,Q a s->b a s):wpAny M A t b E s:=wpAny_mono h d λ_ _ x=>x
end L2
namespace L2
open PySem PySem.Spec PyProof.Rows
section
variable {X:Cx}
def m7(i:Nat):TE:=λa H Q=>∃v,a[i]? = some (some v)/\Q v H
def tC(v:V):TE:=λ_ H Q=>Q v H
def yx(p:X.N[i]? = some x)(hv:Uj X.env.scope x)(g:(x==("__debug__" : Str))=false:=by decide)(f:(x==("__classdict__" : Str))=false:=by decide):PE X (.Name x pos) (m7 i):=by
 intro w s n H Q I h;obtain⟨v,e,h⟩:=h;obtain⟨m,q,o⟩:=I.loc;obtain⟨u,r,l⟩:=o i x v p e hv;have b:EP X w n Q u s:=⟨v,H,I,r,h⟩;rcases l with⟨d,k⟩|⟨d,c,j,a⟩
 .exact wpAny_Name (wpAny_loadName_local I.ok.kind d q k b) g
 .rcases d with d|d
  .exact wpAny_Name (wpAny_loadName_cell I.ok.kind d j a b) g
  .exact wpAny_Name (wpAny_loadName_free I.ok.kind d j a b f) g
def FM{i j pos}:PE X (.Constant (.int i) j pos) (tC (.int i)):=λ_ _ _ H _ I h=>wpAny_Constant_int ⟨.int i,H,I.tok _,⟨_,rfl⟩,h⟩
def J8{b j pos}:PE X (.Constant (.bool b) j pos) (tC (.bl b)):=λ_ _ _ H _ I h=>Constant_bool ⟨.bl b,H,I,rfl,h⟩
def TR{j pos}:PE X (.Constant .none j pos) (tC .non):=λ_ _ _ H _ I h=>Constant_none ⟨.non,H,I,rfl,h⟩
def Gl(X:Cx)(x:Str):Prop:=X.env.kindOf x=some .globalImplicit
def Cm(I:iq X gQ σ H s)(c:Gl X x)(a:X.mg x=some u)(h:Q u s)
  (b:(x==("__debug__" : Str))=false:=by decide):wpAny (model X.prog X.w) X.A (eval (.Name x pos) X.env) Q E s:=
 Calls.Name_function_global I.ok.kind c (Calls.loadGlobal_global (by rw[I.ok.glob];exact I.mod.glob.keeps I.bk) a h) b
def tK(I:iq X gQ σ H s)(d:Gl X x)(b:X.mg x=none)(hv:bootBuiltins x=some u)(h:Q u s)
  (a:x≠ "__name__" :=by decide) (c:(x==("__debug__" : Str))=false:=by decide):wpAny (model X.prog X.w) X.A (eval (.Name x pos) X.env) Q E s:=by
 obtain⟨g,f,e⟩:=I.mod.blt;exact Calls.Name_function_global I.ok.kind d (Calls.loadGlobal_builtin (by rw[I.ok.glob];exact I.mod.glob.keeps I.bk) b (by rw[I.ok.blt];exact f.keeps I.bk) ((e x a).trans hv) h) c
def QE(c:Gl X x)(a:X.mg x=some u)(r:i9 v u)(b:(x==("__debug__" : Str))=false:=by decide):PE X (.Name x pos) (tC v):=λ_ _ _ H _ I h=>Cm I c a ⟨v,H,I,r,h⟩ b
def Oj(d:Gl X x)(b:X.mg x=none)(hv:bootBuiltins x=some u)(r:i9 v u)(a:x≠ "__name__" :=by decide)(c:(x==("__debug__" : Str))=false:=by decide):PE X (.Name x pos) (tC v):=λ_ _ _ H _ I h=>tK I d b hv ⟨v,H,I,r,h⟩ a c
variable {a b:Expr}{ta tb:TE}{pos:Pos}
def PC(X:Cx)(op:CmpOp)(a b:Expr)(t:TE):Prop:=
 ∀(f:List (Addr×Obj)) (s:Shared) (e:St) (H:Hp) (Q:VK),iq X f e H s->t e H Q->
  wpAny (model X.prog X.w) X.A (eval a X.env) (λv d=>wpAny (model X.prog X.w) X.A (eval b X.env) (λu c=>wpAny (model X.prog X.w) X.A (compareOp op v u) (EP X f e Q) X.xe c) X.xe d) X.xe s
def Mq b (h:op≠.In) (d:op≠.NotIn):behindInMarks op b=false:=by
 have c:(op==CmpOp.In)=false:=by cases op<;>first|rfl|exact absurd rfl h
 have e:(op==CmpOp.NotIn)=false:=by cases op<;>first|rfl|exact absurd rfl d
 cases b<;>simp[behindInMarks,c,e]
def QX(ta:TE):TE:=λd H Q=>ta d H λx c=>Q (.bl (!decide (x=.non))) c
def i9.none_iff(r:i9 x v):(v==Value.none)=decide (x=.non):=by
 cases x with
 |non=>cases r;rfl
 |bl _=>cases r;rfl
 |int _=>obtain⟨t,rfl⟩:=r;rfl
 |str _=>obtain⟨t,rfl⟩:=r;rfl
 |byt _=>obtain⟨t,rfl⟩:=r;rfl
 |flt _=>obtain⟨t,rfl⟩:=r;rfl
 |ref _=>cases r;rfl
 |ty _=>cases r;rfl
def PV{j pos'}(c:PE X a ta):PC X .IsNot a (.Constant .none j pos') (QX ta):=by intro d s e H Q I h;refine kl (c d s e H _ I h) λv s1 ⟨x,H1,I1,r1,q1⟩=>?_;exact Constant_none (isnot_none_gen ⟨.bl _,H1,I1,by rw[r1.none_iff];rfl,q1⟩)
def tB(t:TE):TT:=λe H Q=>t e H λx d=>∃c,x=.bl c/\Q c d
def Tg(h:PC X op a b t)(e:behindInMarks op b=false:=by first|exact Mq _ (by decide) (by decide)|rfl):PT X (.Compare a [op] [b] pos) (tB t):=by intro f s i H Q I hw;refine wpAny_isTrue_Compare1 (kl (h f s i H _ I hw) λv k e=>kl e λu j g=>kl g λc s3 ⟨x,H1,I1,r1,q1⟩=>?_) e;obtain⟨d,rfl,q⟩:=q1;cases r1;exact wpAny_truthy_bool ⟨H1,I1,q⟩
def Sa(h:PE X e t)(f:∀c,isTrue e X.env c=(do let v <-c;standAt e.pos;holding [v] (truthy v)):=by intro _;rfl):PT X e (tB t):=by intro g s i H Q I hw;refine isTrue_plain (kl (h g s i H _ I hw) λv s1 ⟨x,H1,I1,r1,q1⟩=>?_) (f _);obtain⟨d,rfl,q⟩:=q1;cases r1;exact wpAny_truthy_bool ⟨H1,I1,q⟩
variable {tA tB':TT}{mY:List Expr}
def Td(t u:TT):TT:=λe H Q=>t e H λc d=>if c=true then u e d Q else Q false d
def WI(t u:TT):TT:=λe H Q=>t e H λc d=>if c=true then Q true d else u e d Q
def S3(t:TT):TT:=λe H Q=>t e H λc d=>Q (!c) d
def OF(d:PT X a tA):PW X (.BoolOp .And [a] pos) tA:=by
 intro i f s g H Q I h;refine isTrue_and (kl (d f s g H Q I h) λc j e=>?_);cases c with
 |true=>exact isTrue_and_nil e
 |false=>exact e
def TH(d:PT X a tA):PW X (.BoolOp .Or [a] pos) tA:=by
 intro i f s g H Q I h;refine isTrue_or (kl (d f s g H Q I h) λc j e=>?_);cases c with
 |false=>exact isTrue_or_nil e
 |true=>exact e
def Tq(f:PT X a tA)(g:PW X (.BoolOp .And (b::mY) pos) tB'):PW X (.BoolOp .And (a::b::mY) pos) (Td tA tB'):=by
 intro i d s e H Q I h;refine isTrue_and (kl (f d s e H _ I h) λc s1 ⟨H1,I1,q1⟩=>?_);cases c with
 |true=>exact g i d s1 e H1 Q I1 q1
 |false=>exact⟨H1,I1,q1⟩
def VE(f:PT X a tA)(g:PW X (.BoolOp .Or (b::mY) pos) tB'):PW X (.BoolOp .Or (a::b::mY) pos) (WI tA tB'):=by
 intro i d s e H Q I h;refine isTrue_or (kl (f d s e H _ I h) λc s1 ⟨H1,I1,q1⟩=>?_);cases c with
 |true=>exact⟨H1,I1,q1⟩
 |false=>exact g i d s1 e H1 Q I1 q1
def SM(d:PT X a tA):PT X (.UnaryOp .Not a pos) (S3 tA):=by intro f s g H Q I h;exact isTrue_not (d f s g H (λc e=>Q (!c) e) I h)
def L9(ta tb:TE):TE:=λe H Q=>ta e H λx d=>∃c,x=.bl c/\if c=true then tb e d Q else Q (.bl false) d
def Lq(ta:TE):TE:=λe H Q=>ta e H λx d=>∃c,x=.bl c/\Q (.bl (!c)) d
def RW{op}(h:PE X a t):PE X (.BoolOp op [a] pos) t:=λc s d H Q I hw=>BoolOp_one (h c s d H Q I hw)
def RF(g:PE X a ta)(i:PE X (.BoolOp .And (b::mY) pos) tb):PE X (.BoolOp .And (a::b::mY) pos) (L9 ta tb):=by
 intro e s f H Q I h;refine BoolOp_and (kl (g e s f H _ I h) λv s1 ⟨x,H1,I1,r1,d⟩=>?_);obtain⟨c,rfl,d⟩:=d;cases r1;refine wpAny_truthy_bool ?_;cases c with
 |true=>exact i e s1 f H1 Q I1 d
 |false=>exact⟨.bl false,H1,I1,rfl,d⟩
def SF(e:PE X a ta):PE X (.UnaryOp .Not a pos) (Lq ta):=by intro f s g H Q I h;refine UnaryOp_ (kl (e f s g H _ I h) λv s1 ⟨x,H1,I1,r1,d⟩=>?_);obtain⟨c,rfl,d⟩:=d;cases r1;exact not_of (wpAny_truthy_bool ⟨.bl (!c),H1,I1,rfl,d⟩)
end
end L2
namespace L2
open PySem PySem.Spec PyProof.Rows
def l9(K:W.Frag)(H:Hp)(a:Addr)(xs:List V):Prop:=
 Rd H a (.lst xs)\/
  ∃(o:Obj) (b:Array Value) (n:Nat),K.lookup a=some o/\o.cls=.type "list" /\o.dict=none/\o.data=.seq b n/\b.size<=sizeLine/\iL xs b.toList
def nu(K:W.Frag)(H:Hp)(a:Addr)(xs:List V):Prop:=
 Rd H a (.tup xs)\/
  ∃(o:Obj) (b:Array Value) (n:Nat),K.lookup a=some o/\o.cls=.type "tuple" /\o.data=.seq b n/\b.size<=sizeLine/\iL xs b.toList
def Wh:Value->Option V
 |.none=>some .non
 |.bool b=>some (.bl b)
 |.int i _=>some (.int i)
 |.str x _=>some (.str x)
 |.bytes b _=>some (.byt b)
 |.float b _=>some (.flt b)
 |.ref a=>some (.ref a)
 |.type n=>some (.ty n)
 |_=>none
def i9.abs(r:i9 x u):Wh u=some x:=by
 cases x with
 |non=>cases r;rfl
 |bl _=>cases r;rfl
 |int _=>obtain⟨t,rfl⟩:=r;rfl
 |str _=>obtain⟨t,rfl⟩:=r;rfl
 |byt _=>obtain⟨t,rfl⟩:=r;rfl
 |flt _=>obtain⟨t,rfl⟩:=r;rfl
 |ref _=>cases r;rfl
 |ty _=>cases r;rfl
def i9.inj(r:i9 x u)(q:i9 y u):x=y:=Option.some.inj (r.abs.symm.trans q.abs)
theorem iL.inj:∀{xs ys} {us},iL xs us->iL ys us->xs=ys
 |_,_,_,.nil,.nil=>rfl
 |_,_,_,.cons r t,.cons r' t'=>by rw[r.inj r',iL.inj t t']
section
variable {X:Cx}{gQ:List (Addr×Obj)}{σ:St}{H:Hp}{s:Shared}{a:Addr}{xs ys:List V}
def l9.of{K:W.Frag}(h:H a=some (.lst xs)):l9 K H a xs:=.inl (.inl h)
def nu.of{K:W.Frag}(h:H a=some (.tup xs)):nu K H a xs:=.inl (.inl h)
def iq.list(I:iq X gQ σ H s)(h:l9 X.K H a xs):∃its:List Value,iL xs its/\PlainL s.heap a its.toArray/\xs.length<=sizeLine:=by
 rcases h with h|⟨o,its,n,d,f,b,c,g,r⟩
 .obtain⟨z,its,n,r,e⟩:=h.ok I.hok;exact⟨its,r,⟨_,n,e,rfl,rfl,rfl⟩,z⟩
 .refine⟨its.toList,r,⟨o,n,I.kIn a o d,f,b,by simpa using c⟩,?_⟩;have e:=r.length;simp only[bA]at e;omega
def iq.tuple(I:iq X gQ σ H s)(h:nu X.K H a xs):∃its:List Value,iL xs its/\IsTup s.heap a its.toArray/\xs.length<=sizeLine:=by
 rcases h with h|⟨o,its,n,c,d,b,f,r⟩
 .obtain⟨z,its,r,p⟩:=h.ok I.hok;exact⟨its,r,p.tup,z⟩
 .refine⟨its.toList,r,⟨o,I.kIn a o c,d,n,by simpa using b⟩,?_⟩;have e:=r.length;simp only[bA]at e;omega
def iq.list_inj(I:iq X gQ σ H s)(h:l9 X.K H a xs)(h':l9 X.K H a ys):xs=ys:=by
 obtain⟨c,r,⟨o,n,e,_,_,d⟩,_⟩:=I.list h;obtain⟨b,i,⟨l,k,g,_,_,f⟩,_⟩:=I.list h';rw[e]at g;cases g;rw[d]at f;injection f with j _;have:c=b:=by simpa using congrArg Array.toList j
 subst this;exact r.inj i
def iq.tuple_inj(I:iq X gQ σ H s)(h:nu X.K H a xs)(h':nu X.K H a ys):xs=ys:=by
 obtain⟨c,r,⟨o,e,_,n,d⟩,_⟩:=I.tuple h;obtain⟨b,i,⟨l,g,_,k,f⟩,_⟩:=I.tuple h';rw[e]at g;cases g;rw[d]at f;injection f with j _;have:c=b:=by simpa using congrArg Array.toList j
 subst this;exact r.inj i
end
noncomputable abbrev Cx.wish(X:Cx)(E:Value->Shared->Prop):Cx:={X with xe:=E}
abbrev Cx.nox(X:Cx):Cx:=X.wish λ_ _=>False
def Cx.Ok.wish{X:Cx}(ok:X.Ok) E:(X.wish E).Ok:=⟨ok.mod,ok.kind,ok.glob,ok.blt,ok.above,ok.inj,ok.has,ok.cab,ok.hd,ok.frames,ok.stk,ok.exf,ok.bs,ok.bsz,ok.noex,ok.exfs,ok.funs,ok.frf,ok.tab⟩
def Cx.Ok.unwish{X:Cx}(ok:(X.wish E).Ok):X.Ok:=⟨ok.mod,ok.kind,ok.glob,ok.blt,ok.above,ok.inj,ok.has,ok.cab,ok.hd,ok.frames,ok.stk,ok.exf,ok.bs,ok.bsz,ok.noex,ok.exfs,ok.funs,ok.frf,ok.tab⟩
section
variable {X:Cx}{gQ:List (Addr×Obj)}{σ:St}{H:Hp}{s:Shared}{E:Value->Shared->Prop}
def iq.wish(I:iq X gQ σ H s) E:iq (X.wish E) gQ σ H s:=⟨I.ok.wish E,I.os,I.bare,I.base,I.loc,I.cell,I.free,I.freeC,I.pin,I.hok,I.len⟩
def iq.unwish(I:iq (X.wish E) gQ σ H s):iq X gQ σ H s:=⟨I.ok.unwish,I.os,I.bare,I.base,I.loc,I.cell,I.free,I.freeC,I.pin,I.hok,I.len⟩
def SP.unwish(h:SP (X.wish E) gQ D f s'):SP X gQ D f s':=by
 cases f with
 |next=>obtain⟨a,b,I,q⟩:=h;exact⟨a,b,I.unwish,q⟩
 |brk=>obtain⟨a,b,I,q⟩:=h;exact⟨a,b,I.unwish,q⟩
 |cont=>obtain⟨a,b,I,q⟩:=h;exact⟨a,b,I.unwish,q⟩
 |ret u=>obtain⟨v,a,b,I,r,q⟩:=h;exact⟨v,a,b,I.unwish,r,q⟩
def BU.nox{st:List Stmt}(h:BU X.nox st t):BU X st t:=λgQ s σ H D I hw=>wpAny_mono (h gQ s σ H D (I.wish _) hw) (λ_ _ q=>q.unwish) λ_ _ z=>False.elim z
end
section
variable {X:Cx}{st:Stmt}{mY:List Stmt}{t u:TS}{e:Expr}{te:TE}{pos:Pos}
def AN:TS:=λD a H=>D.nx a H
def BO(t u:TS):TS:=λD a H=>t {D with nx:=u D} a H
def Cn:BU X [] AN:=λ_ _ a H _ I h=>wpAny_execs_nil ⟨a,H,I,h⟩
def qj(j:PS X st t)(d:BU X mY u):BU X (st::mY) (BO t u):=by
 intro b s i H D I h;refine wpAny_execs_cons (kl (j b s i H {D with nx:=u D} I h) λf k q=>?_);cases f with
 |next=>obtain⟨a,g,c,q⟩:=q;exact d b k a g D c q
 |ret v=>exact q
 |brk=>exact q
 |cont=>exact q
def qD(c:PS X st t):BU X [st] t:=by
 intro a s b H D I h;refine wpAny_execs_cons (kl (c a s b H D I h) λf d q=>?_);cases f with
 |next=>exact wpAny_execs_nil q
 |ret v=>exact q
 |brk=>exact q
 |cont=>exact q
def iq.quiet(I:iq X gQ σ H s):interactive X.env=false:=by simp[interactive,I.ok.kind]
def xQ(te:TE):TS:=λD a H=>te a H λ_ b=>D.nx a b
def Cv(b:PE X e te)(d:swapsWith e none pos.line X.env=pure false:=by rfl):PS X (.Expr e pos) (xQ te):=by intro c s a H D I h;exact wpAny_Expr_any (kl (b c s a H _ I h) λv s1 ⟨x,H1,I1,r1,q1⟩=>⟨a,H1,I1,q1⟩) I.quiet d
def DQ(te:TE):TS:=λD a H=>te a H D.rt
def BQ(b:PE X e te):PS X (.Return (some e) pos) (DQ te):=by intro c s a H D I h;exact wpAny_Return_some (kl (b c s a H _ I h) λv s1 ⟨x,H1,I1,r1,q1⟩=>⟨x,a,H1,I1,r1,q1⟩)
def Il(c:TT)(t u:TS):TS:=λD a H=>c a H λb d=>if b=true then t D a d else u D a d
def Mo(k:PT X c tc)(i:BU X a t)(j:BU X b u):PS X (.If c a b pos) (Il tc t u):=by
 intro f s g H D I h;refine wpAny_If (kl (k f s g H _ I h) λd s1 ⟨H1,I1,q1⟩=>?_);cases d with
 |true=>exact i f s1 g H1 D I1 q1
 |false=>exact j f s1 g H1 D I1 q1
def Fq:TS:=λ_ _ _=>False
def LV:PS X st Fq:=λ_ _ _ _ _ _ h=>h.elim
end
abbrev TG:=V->St->Hp->(St->Hp->Prop)->Prop
abbrev NI:=List V->St->Hp->(St->Hp->Prop)->Prop
def PG(X:Cx)(target:Expr)(t:TG):Prop:=
 ∀(b:List (Addr×Obj)) (s:Shared) (c:St) (H:Hp) (v:V) (u:Value) (Q:St->Hp->Prop),iq X b c H s->i9 v u->t v c H Q->
  wpAny (model X.prog X.w) X.A (assign target X.env u) (λ_ e=>∃a d,iq X b a d e/\Q a d) X.xe s
def Ul(X:Cx)(ts:List Expr)(t:NI):Prop:=
 ∀(c:List (Addr×Obj)) (s:Shared) (f:St) (H:Hp) (e:List V) (b:List Value) (Q:St->Hp->Prop),iq X c f H s->iL e b->t e f H Q->
  wpAny (model X.prog X.w) X.A (assignInOrder ((assignEach ts X.env).map (·.2)) b) (λ_ g=>∃a d,iq X c a d g/\Q a d) X.xe s
abbrev Vl:=V->V->V->Hp->(Hp->Prop)->Prop
def Vs(X:Cx)(t:Vl):Prop:=
 ∀(b:List (Addr×Obj)) (s:Shared) (d:St) (H:Hp) (o i v:V) (e a u:Value) (Q:Hp->Prop),iq X b d H s->i9 o e->i9 i a->i9 v u->t o i v H Q->
  wpAny (model X.prog X.w) X.A (setItem e a u) (λ_ f=>∃c,iq X b d c f/\Q c) X.xe s
section
variable {X:Cx}{pos:Pos}
def j9(i:Nat):TG:=λv a H Q=>Q (a.set i (some v)) H
def xr(b:X.N.Nodup)(d:X.N[i]? = some x)(c:IT X.env.scope x)(e:X.fn x=true\/X.env.scope.names.lookup x=some .local:=by first|exact .inl rfl|exact .inr rfl|assumption):PG X (.Name x pos) (j9 i):=by intro g s j H v u Q I r h;exact wpAny_assign_Name (CZ I b d c r (λf a=>⟨_,H,a,h⟩) e)
def HY:NI:=λa b H Q=>a=[]/\Q b H
def xX(t:TG)(u:NI):NI:=λc d H Q=>∃v r,c=v::r/\t v d H λa b=>u r a b Q
def HB:Ul X [] HY:=by intro c s a H d b Q I r h;obtain⟨e,h⟩:=h;subst e;cases r;exact assignInOrder_nil ⟨a,H,I,h⟩
theorem DN(g:PG X e t)(b:Ul X es u)
  (c:(assignEach (e::es) X.env).map (·.2)=assign e X.env::(assignEach es X.env).map (·.2):=by rfl):Ul X (e::es) (xX t u):=by
 intro a s f H k i Q I r h;obtain⟨v,j,d,h⟩:=h;subst d;cases r with
 |cons r rr=>rw[c];refine assignInOrder_cons (kl (g a s f H _ _ _ I r h) λ_ s1 ⟨σ1,H1,I1,q1⟩=>?_);exact b a s1 σ1 H1 _ _ Q I1 rr q1
def Ir(K:W.Frag)(n:Nat)(t:NI):TG:=λv c H Q=>∃a b,v=.ref a/\nu K H a b/\b.length=n/\t b c H Q
def My(z:X.calm=true)(h:Ul X es t)
  (x:(assignEach es X.env).length=n:=by rfl) (c:(assignEach es X.env).findIdx? (·.1)=none:=by rfl):PG X (.Tuple es k pos) (Ir X.K n t):=by
 intro y s l H v u Q I r hw;obtain⟨a,w,m,g,p,hw⟩:=hw;subst m;cases r;obtain⟨f,d,j,A⟩:=I.tuple g;refine assign_Tuple_tuple (I.ok.hd z) j (by simp[x,<-p,d.length]) c λB i=>?_;have q:=I.kept (t':=s.toks) λb o e=>i b o (aN (aM e)) e;exact h y _ l H w _ Q q (by simpa using d) hw
def Ts(to d:TE)(t:Vl):TG:=λv a H Q=>to a H λo c=>d a c λi e=>t o i v e λb=>Q a b
def SC(d:PE X o to)(f:PE X i ti)(e:Vs X t)
  (c:∀v,assign (.Subscript o i pos) X.env v=(do
   let ov <-holding [v] (eval o X.env)
   let iv <-holding [v,ov] (eval i X.env)
   standAt pos
   holding [v,ov,iv] (setItem ov iv v)
   release [v,ov,iv] []):=by intro _;rfl):PG X (.Subscript o i pos) (Ts to ti t):=by
 intro b s a H v u Q I r h;rw[c];refine ao (wpAny_holding (kl (d b s a H _ I h) λov s1 ⟨x,H1,I1,r1,q1⟩=>?_));refine ao (wpAny_holding (kl (f b s1 a H1 _ I1 q1) λiv s2 ⟨y,H2,I2,r2,q2⟩=>?_));refine ao (wpAny_standAt (ao (wpAny_holding (kl (e b s2 a H2 x y v ov iv u _ I2 r1 r2 r q2) λ_ s3 ⟨H3,I3,q3⟩=>?_))));exact wpAny_release ⟨a,H3,I3,q3⟩
def pj(c:TE)(g:TG):TS:=λD a H=>c a H λx b=>g x a b D.nx
def SG(c:PE X e te)(d:PG X tg g)(f:swapsWithSole [tg] e pos.line X.env=pure false:=by rfl)(hw:swappedStores [tg] e X.env=pure none:=by rfl)
  (i:(assignEach [tg] X.env).map (·.2)=[assign tg X.env]:=by rfl):PS X (.Assign [tg] e pos) (pj te g):=by
 intro a s b H D I h;refine wpAny_Assign_stores (kl (c a s b H _ I h) λv s1 ⟨x,H1,I1,r1,q1⟩=>?_) f hw;rw[i];exact kl (d a s1 b H1 x v _ I1 r1 q1) λ_ j q=>q
def vW(g:X.N.Nodup)(k:X.N[i]? = some x)(j:IT X.env.scope x)(b:PE X e te)(d:swapsWith e (some (.Name x pos')) pos.line X.env=pure false:=by rfl)(l:X.fn x=true\/X.env.scope.names.lookup x=some .local:=by first|exact .inl rfl|exact .inr rfl|assumption) :
  PS X (.Assign [.Name x pos'] e pos) (pj te (j9 i)):=by
 intro c s f H D I h;refine wpAny_Assign_Name (kl (b c s f H _ I h) λv s1 ⟨y,H1,I1,r1,q1⟩=>?_) d;exact CZ I1 g k j r1 (λm a=>⟨_,H1,a,q1⟩) l
end
section
variable {X:Cx}{pos:Pos}
def FF(c:TT)(h:TS):TS:=λD a H=>∃W:Nat->St->Hp->Prop,(∃m,W m a H)/\∀m a H,W m a H->
 c a H λb e=>if b=true then ∃N:St->Hp->Prop,(∀d f,N d f->∃g,g<m/\W g d f)/\h {D with nx:=N,ct:=N,bk:=D.nx} a e else D.nx a e
def JH(u:PassesOwn (model X.prog X.w) X.A X.env X.xe)(P:PT X c tc)(F:BU X body tb):PS X (.While c body [] pos) (FF tc tb):=by
 intro p s E H D I h;obtain⟨W,⟨z,J⟩,turn⟩:=h;refine wpAny_While (codeAny_whileLoop (λn L=>∃e r,iq X p e r L/\W n e r) ?_ z ⟨E,H,I,J⟩);rintro n B ⟨d,y,K,C⟩;refine wpAny_passesOwn u (kl (P p B d y _ K (turn n d y C)) λb s2 ⟨H2,I2,i⟩=>?_);cases b with
 |true=>
  obtain⟨N,x,i⟩:=i;rw[aR rfl];refine wpAny_passesOwn u (kl (F p s2 d H2 _ I2 i) λf Q j=>?_);cases f with
  |next=>obtain⟨a,g,q,o⟩:=j;obtain⟨m,k,l⟩:=x a g o;exact⟨m,k,a,g,q,l⟩
  |cont=>obtain⟨a,g,q,o⟩:=j;obtain⟨m,k,l⟩:=x a g o;exact⟨m,k,a,g,q,l⟩
  |brk=>exact j
  |ret v=>exact j
 |false=>rw[aS aI];exact wpAny_execs_nil ⟨d,H2,I2,i⟩
end
structure It where
 go:Nat->Hp->Prop
 yld:Nat->Hp->V->Hp->Prop
 stop:Nat->Hp->Prop
def vN(X:Cx)(a:List (Addr×Obj))(H:Hp)(b:Addr):Prop:=H b=none/\b≠X.env.locals/\b∉X.fs/\(b∈X.ex\/X.s₀.heap.objs.size<=b)/\(∀x c,X.env.cells.lookup x=some c->c≠b)/\∀p∈X.pn++a,p.1≠b
def iq.fpOk(I:iq X gQ σ H s)(a:s.heap.objs.size<=b)(d:H' b=none):vN X gQ H' b:=by
 refine⟨d,bB (aF I.lt a),I.nofs a,.inr (aO I.sz a),λx c e z=>?_,λp f z=>?_⟩
 .obtain⟨v,q⟩:=I.cell x c e;exact absurd (aF q.lt (by rw[z];exact a)) (bf _)
 .exact absurd (aF (aM (I.pin p f).1) (by rw[z];exact a)) (bf _)
structure FU(P:Program)(w:World)(K:W.Frag)(tg:Expr)(J:It)(fp:List Addr)(it:Addr)(tn:Nat->Heap->Prop):Prop where
 mem:it∈fp
 obj:∀i h,tn i h->∀b∈fp,∃o,h.get? b=some o/\∀v,o.data≠.cell v
 keep:∀i h h',tn i h->(∀b∈fp,∀o,h.get? b=some o->h'.get? b=some o)->tn i h'
 item:∀(X:Cx),X.prog=P->X.w=w->X.K=K->X.calm=true->∀(i:Nat) (gQ:List (Addr×Obj)) (s:Shared) (σ:St) (H:Hp) (E:Value->Shared->Prop),iq X gQ σ H s->(∀b∈fp,vN X gQ H b)->tn i s.heap->J.go i H->
  wpAny (model P w) X.A (pyNext (.ref it)) (λr s1=>∃u,r=some u/\
   wpAny (model P w) X.A (letOwnedTupleGo tg (.ref it) u) (λ_ s2=>∃x H',iq X gQ σ H' s2/\i9 x u/\J.yld i H x H'/\tn (i+1) s2.heap/\∀b∈fp,H' b=none) E s1) E s
 done:∀(X:Cx),X.prog=P->X.w=w->X.K=K->X.calm=true->∀(i:Nat) (gQ:List (Addr×Obj)) (s:Shared) (σ:St) (H:Hp) (E:Value->Shared->Prop),iq X gQ σ H s->(∀b∈fp,vN X gQ H b)->tn i s.heap->J.stop i H->
  wpAny (model P w) X.A (pyNext (.ref it)) (λr s1=>r=none/\iq X gQ σ H s1) E s
 self:∀(A:Around) (i:Nat) (s:Shared) (Q:Value->Shared->Prop) (E:Value->Shared->Prop),tn i s.heap->Q (.ref it) s->wpAny (model P w) A (pyIter (.ref it)) Q E s
abbrev TI:=St->Hp->(It->Hp->Prop)->Prop
def WM(X:Cx)(f:List (Addr×Obj))(i:St)(h:Expr)(R:It->Hp->Prop)(a:Value)(g:Shared):Prop:=∃(it:Addr) (d:List Addr) (e:Nat->Heap->Prop) (J:It) (c:Hp),a=.ref it/\iq X f i c g/\FU X.prog X.w X.K h J d it e/\e 0 g.heap/\(∀b∈d,vN X f c b)/\R J c
def PI(X:Cx)(d a:Expr)(e:TI):Prop:=
 ∀(c:List (Addr×Obj)) (s:Shared) (b:St) (H:Hp) (R:It->Hp->Prop),iq X c b H s->e b H R->
  wpAny (model X.prog X.w) X.A (eval a X.env) (λv f=>wpAny (model X.prog X.w) X.A (pyIter v) (WM X c b d R) X.xe f) X.xe s
theorem Lf{M:Model}{A:Around}{E:Value->Shared->Prop}{s:Shared}{b:Expr}{it:Addr}{u:Value}{o:Obj}{n:String}{vs:Array Value}{Q:Unit->Shared->Prop}(d:s.heap.get? it=some o)(f:o.cls=.type n)(e:o.data=.fields vs)
    (c:["enumerate", "zip", "dict_itemiterator", "dict_reverseitemiterator", "odict_iterator", "itertools.zip_longest", "itertools.pairwise"].contains n=false) (a:Q () s):wpAny M A (letOwnedTupleGo b (.ref it) u) Q E s:=by
  unfold letOwnedTupleGo;cases b<;>first
    |exact ak a
    | (cases u<;>first
        |exact ak a
        | (refine ao (wpAny_load d ?_)
           rw[f,e]
           show wpAny M A (if (["enumerate", "zip", "dict_itemiterator", "dict_reverseitemiterator", "odict_iterator", "itertools.zip_longest", "itertools.pairwise"].contains n&&vs[0]? == some (rawInt _))=true then _ else _) Q E s
           rw[aS (by intro h;rw[c,Bool.false_and]at h;cases h)]
           exact ak a))
noncomputable def Wi(K:W.Frag)(a:Addr):It:=⟨λi H=>∃b x,l9 K H a b/\b[i]? = some x,λi H x c=>c=H/\∀b,l9 K H a b->b[i]? = some x,λi H=>∃b,l9 K H a b/\b.length<=i⟩
noncomputable def Wy(K:W.Frag)(a:Addr):It:=⟨λi H=>∃b x,nu K H a b/\b[i]? = some x,λi H x c=>c=H/\∀b,nu K H a b->b[i]? = some x,λi H=>∃b,nu K H a b/\b.length<=i⟩
noncomputable def Us(a:Int)(n:Nat):It:=⟨λi _=>i<n,λi H x b=>b=H/\x=.int (a+i),λi _=>n<=i⟩
def Im{K:W.Frag} a it:FU P w K tg (Wi K a) [it] it (λi h=>h.IsListIter it a i) where
 mem:=by simp
 obj:=λi h f b g=>by
  have e:b=it:=by simpa using g
  subst e;obtain⟨o,e,c,d⟩:=f;exact⟨o,e,λv z=>by rw[d]at z;cases z⟩
 keep:=λi h N f k=>f.at λo e=>k it (by simp) o e
 item:=by intro X C hw L Q i gQ s σ H E I m f D;subst C hw L;obtain⟨xs,x,l,r⟩:=D;obtain⟨n,J,p,R⟩:=I.list l;obtain⟨u,hu,Z⟩:=J.get r;obtain⟨B,A,U,y,F,q⟩:=m it (by simp);refine wpAny_pyNext_list_item f p.isList (by simpa using hu) λN j S=>?_;have I1:=I.turned (t':=s.toks) (λb o g e=>(S.2 b g).trans e) B A y F q;obtain⟨o,e,c,d⟩:=id j;exact⟨u,rfl,Lf e c d (by decide) ⟨x,H,I1,Z,⟨rfl,λys hy=>by rw[I.list_inj hy l];exact r⟩,j,λb g=>(m b g).1⟩⟩
 done:=by intro X C hw L Q i gQ s σ H E I m f D;subst C hw L;obtain⟨xs,l,r⟩:=D;obtain⟨n,J,p,R⟩:=I.list l;obtain⟨B,A,U,y,F,q⟩:=m it (by simp);have hl:=J.length;exact wpAny_pyNext_list_end (I.ok.hd Q) f p.isList (by simp;omega) λN Y=>⟨rfl,I.turned (λb o g e=>Y b o g e) B A y F q⟩
 self:=λ_ _ _ _ _ f h=>wpAny_pyIter_listiter f h
def E4{K:W.Frag} a it:FU P w K tg (Wy K a) [it] it (λi h=>h.IsTupleIter it a i) where
 mem:=by simp
 obj:=λi h f b g=>by
  have e:b=it:=by simpa using g
  subst e;obtain⟨o,e,c,d⟩:=f;exact⟨o,e,λv z=>by rw[d]at z;cases z⟩
 keep:=λi h N f k=>f.at λo e=>k it (by simp) o e
 item:=by intro X C hw L Q i gQ s σ H E I m f D;subst C hw L;obtain⟨xs,x,l,r⟩:=D;obtain⟨n,J,p,R⟩:=I.tuple l;obtain⟨u,hu,Z⟩:=J.get r;obtain⟨B,A,U,y,F,q⟩:=m it (by simp);refine wpAny_pyNext_tuple_item f (p) (by simpa using hu) λN j S=>?_;have I1:=I.turned (t':=s.toks) (λb o g e=>(S.2 b g).trans e) B A y F q;obtain⟨o,e,c,d⟩:=id j;exact⟨u,rfl,Lf e c d (by decide) ⟨x,H,I1,Z,⟨rfl,λys hy=>by rw[I.tuple_inj hy l];exact r⟩,j,λb g=>(m b g).1⟩⟩
 done:=by intro X C hw L Q i gQ s σ H E I m f D;subst C hw L;obtain⟨xs,l,r⟩:=D;obtain⟨n,J,p,R⟩:=I.tuple l;obtain⟨B,A,U,y,F,q⟩:=m it (by simp);have hl:=J.length;exact wpAny_pyNext_tuple_end (I.ok.hd Q) f (p) (by simp;omega) λN Y=>⟨rfl,I.turned (λb o g e=>Y b o g e) B A y F q⟩
 self:=λ_ _ _ _ _ f h=>wpAny_pyIter_tupleiter f h
def Eu{K:W.Frag} it lo n:FU P w K tg (Us lo n) [it] it (λi h=>IsRangeIter h it (lo+(i:Nat)*1) ((n:Int)-(i:Nat)) 1) where
 mem:=by simp
 obj:=λi h a b c=>by
  have e:b=it:=by simpa using c
  subst e;exact⟨_,a,λv z=>by have J:=z;cases J⟩
 keep:=λi h m a k=>k it (by simp) _ a
 item:=by intro X p hw y u i B s A H E I f a q;subst p hw y;obtain⟨l,j,C,x,r,g⟩:=f it (by simp);have W:=Walks.range (prog:=X.prog) (w:=X.w) (I.ok.hd u) it lo 1 n;refine W.item i s _ _ q a λv m F hv d N=>?_;obtain⟨t,rfl⟩:=hv;have L:iq X B A H {s with heap:=m,toks:=F}:=I.turned (λb o c e=>N b o (by simpa using c) e) l j x r g;refine⟨_,rfl,Lf d rfl rfl (by decide) ⟨.int (lo+i),H,L,⟨t,?_⟩,⟨rfl,rfl⟩,d,λb c=>(f b c).1⟩⟩;rw[Int.mul_one]
 done:=by intro X p hw y u i B s A H E I f a q;subst p hw y;obtain⟨l,j,C,x,r,g⟩:=f it (by simp);exact wpAny_pyNext_range_end (I.ok.hd u) a (by have:n<=i:=q;omega) λm D=>⟨rfl,I.turned (λb o c e=>D b o c e) l j x r g⟩
 self:=λ_ _ _ _ _ a h=>wpAny_pyIter_rangeiter a h
end L2
namespace L2
open PySem PySem.Spec PyProof.Rows
section
variable {X:Cx}{tg:Expr}
def GD(K:W.Frag)(d:TE):TI:=λe H R=>d e H λx b=>∃a,x=.ref a/\(∃c,l9 K b a c)/\R (Wi K a) b
def T7(K:W.Frag)(d:TE):TI:=λe H R=>d e H λx b=>∃a,x=.ref a/\(∃c,nu K b a c)/\R (Wy K a) b
def Gy(g:PE X l tl):PI X tg l (GD X.K tl):=by
 intro j s f H R I h;refine kl (g j s f H _ I h) λv s1 ⟨x,H1,I1,r1,q1⟩=>?_;obtain⟨a,e,⟨m,d⟩,q⟩:=q1;subst e;cases r1;obtain⟨c,n,p,k⟩:=I1.list d;refine wpAny_pyIter_list p.isList ?_;refine⟨s1.heap.objs.size,[s1.heap.objs.size],_,_,H1,rfl,I1.kept λb o e=>ae _ e,Im a _,⟨_,ar _ rfl,rfl,rfl⟩,λb i=>?_,q⟩;have e:b=s1.heap.objs.size:=by simpa using i
 subst e;exact I1.fpOk (aL _) (I1.hok.fresh (aL _))
def Su(g:PE X l tl):PI X tg l (T7 X.K tl):=by
 intro j s f H R I h;refine kl (g j s f H _ I h) λv s1 ⟨x,H1,I1,r1,q1⟩=>?_;obtain⟨a,e,⟨m,d⟩,q⟩:=q1;subst e;cases r1;obtain⟨c,n,p,k⟩:=I1.tuple d;refine wpAny_pyIter_tuple (p) ?_;refine⟨s1.heap.objs.size,[s1.heap.objs.size],_,_,H1,rfl,I1.kept λb o e=>ae _ e,E4 a _,⟨_,ar _ rfl,rfl,rfl⟩,λb i=>?_,q⟩;have e:b=s1.heap.objs.size:=by simpa using i
 subst e;exact I1.fpOk (aL _) (I1.hok.fresh (aL _))
def Lp{a c:Int}(I:iq X gQ σ H s)(k:-(2 ^ 62)<=a)(i:a<2 ^ 62)(h:-(2 ^ 62)<=c)(l:c<2 ^ 62)
  (q:R (Us a (c-a).toNat) H):wpAny (model X.prog X.w) X.A (pyIter (.ref s.heap.objs.size)) (WM X gQ σ tg R) E {s with heap:=s.heap.push {cls:=.type "range",data:=.fields #[.int a t,.int c u,.int 1 v]},toks:=tk}:=by
 refine wpAny_pyIter_range (IsRange.new ..) (small_one k i h l) ?_;have d:iq X gQ σ H {s with heap:=s.heap.push {cls:=.type "range",data:=.fields #[.int a t,.int c u,.int 1 v]},toks:=tk}:=I.kept λb o e=>ae _ e;refine⟨(s.heap.push {cls:=.type "range",data:=.fields #[.int a t,.int c u,.int 1 v]}).objs.size,[(s.heap.push {cls:=.type "range",data:=.fields #[.int a t,.int c u,.int 1 v]}).objs.size],_,_,H,rfl,
  d.kept λb o e=>ae _ e,Eu _ a (c-a).toNat,?_,λb g=>?_,q⟩
 .have j:a+((0:Nat):Int)*1=a:=by simp
  have f:(((c-a).toNat:Nat):Int)-((0:Nat):Int)=Builtin.Range.rangeSize a c 1:=by rw[rangeSize_one];split<;>omega
  rw[j,f];exact ar _ rfl
 .have e:b=(s.heap.push {cls:=.type "range",data:=.fields #[.int a t,.int c u,.int 1 v]}).objs.size:=by simpa using g
  subst e;exact d.fpOk (aL _) (d.hok.fresh (aL _))
def M5(b:TA):TI:=λd H R=>b d H λc a=>∃j:Int,c=[.int j]/\-(2 ^ 62)<=j/\j<2 ^ 62/\R (Us 0 j.toNat) a
def HL(g:Gl X "range")(d:X.mg "range" = none)(c:PA X [a] ta)(i:starEach [a] X.env=[(false,eval a X.env)]:=by rfl):PI X tg (.Call (.Name "range" p) [a] [] pos) (M5 ta):=by
 intro f s l H R I h;refine Call_ (tK I g d boot_range (PyProof.Rows.callWith_type1 (kl (c pos f s l H _ I h) λus s1 ⟨vs,H1,I1,r1,b⟩=>?_) i rfl));obtain⟨j,e,b,k,q⟩:=b;subst e;cases r1 with
 |cons r rr=>cases rr;obtain⟨t,rfl⟩:=r;exact call_range_1 (Lp I1 (by omega) (by omega) b k (by simpa using q))
def Ci(j:TI)(g:TG)(f:TS):TS:=λD a H=>j a H λJ k=>∃W:Nat->Nat->St->Hp->Prop,(∃m,W 0 m a k)/\∀i m a H,W i m a H->
 (J.stop i H/\D.nx a H)\/(J.go i H/\∃N:St->Hp->Prop,(∀c b,N c b->∃e,e<m/\W (i+1) e c b)/\∀x b,J.yld i H x b->g x a b λd h=>f {D with nx:=N,ct:=N,bk:=D.nx} d h)
noncomputable def xK(a:List Addr)(h:Heap):List (Addr×Obj):=a.filterMap λb=>(h.get? b).map λo=>(b,o)
def qx(a:b∈fp)(e:h.get? b=some o):(b,o)∈xK fp h:=bC.mpr ⟨b,a,by rw[e];rfl⟩
def Jp(d:p∈xK fp h):p.1∈fp/\h.get? p.1=some p.2:=by
 obtain⟨b,a,e⟩:=bC.mp d;cases q:h.get? b with
 |none=>rw[q]at e;cases e
 |some o=>rw[q]at e;have c:=Option.some.inj e;subst c;exact⟨a,q⟩
def iq.pinned(I:iq X gQ σ H s)(k:∀b∈fp,vN X gQ H b)(f:∀b∈fp,∃o,s.heap.get? b=some o/\∀v,o.data≠.cell v):iq X (gQ++xK fp s.heap) σ H s:=I.pins_of λp j=>(ai.mp j).elim (λz=>I.pin p (bE _ z)) λz=>by obtain⟨c,e⟩:=Jp z;obtain⟨h,g,i,_⟩:=k p.1 c;obtain⟨o,a,d⟩:=f p.1 c;rw[e]at a;cases a;exact⟨e,h,g,i,d⟩
def iq.unpinned(I:iq X (gQ++pl) σ H s):iq X gQ σ H s:=I.pins_of λp a=>I.pin p (bE _ (ay _ a))
theorem ya(P:PassesOwn (model X.prog X.w) X.A X.env X.xe)(hc:X.calm=true)(hi:PI X tg iter wi)(hg:PG X tg g)(q:BU X body tb)
  (hs:∀x,foldedSetIterable iter X.env x=pure x:=by intro _;rfl):PS X (.For tg iter body [] pos) (Ci wi g tb):=by
 intro C s σ H D I h;refine wpAny_For (kl (hi C s σ H _ I h) λv s1 h1=>kl h1 λitv s2 h2=>?_) hs;obtain⟨it,L,tn,J,H2,e,I2,T,Y,Z,W,⟨m0,w0⟩,turn⟩:=h2;subst e;have j:∀{z:Hp},(∀b∈L,z b=none)->∀b∈L,vN X C z b:=λhn b q=>⟨hn b q,(Z b q).2⟩;refine codeAny_forLoop_any (λn s'=>∃i c z,iq X C c z s'/\tn i s'.heap/\(∀b∈L,z b=none)/\W i n c z) ?_ m0 ⟨0,σ,H2,I2,Y,λb q=>(Z b q).1,w0⟩;rintro n s3 ⟨i,y,R,I3,K,E,w3⟩;rcases turn i n y R w3 with⟨F,qn⟩|⟨go,N,hN,step⟩
 .refine wpAny_passesOwn P (kl (T.done X rfl rfl rfl hc i C s3 y R X.xe I3 (j E) K F) λr s4 ⟨hr,I4⟩=>?_);subst hr;exact wpAny_execs_nil ⟨y,R,I4,qn⟩
 .refine wpAny_passesOwn P (kl (T.item X rfl rfl rfl hc i C s3 y R X.xe I3 (j E) K go) λr s4 ⟨u,hr,h4⟩=>?_);subst hr;refine wpAny_passesOwn P (kl h4 λ_ s5 ⟨x,H5,I5,r5,y5,st5,fr5⟩=>?_);have S:=I5.pinned (j fr5) (T.obj _ _ st5);refine wpAny_passesOwn P (kl (hg _ s5 y H5 x u _ S r5 (step x H5 y5)) λ_ s6 ⟨σ6,H6,I6,q6⟩=>?_);refine wpAny_passesOwn P (kl (q _ s6 σ6 H6 _ I6 q6) λf U B=>?_);have k:∀{a:St} {l:Hp},iq X (C++xK L s5.heap) a l U->N a l->∃m,m<n/\∃i c z,iq X C c z U/\tn i U.heap/\(∀b∈L,z b=none)/\W i m c z:=λ{a l} p Q=>by obtain⟨m',hm,w7⟩:=hN a l Q;refine⟨m',hm,i+1,a,l,p.unpinned,T.keep _ _ _ st5 λb q o e=>(p.pin (b,o) (bE _ (bE _ (qx q e)))).1,λb q=>?_,w7⟩;obtain⟨o,e,d⟩:=T.obj _ _ st5 b q;exact (p.pin (b,o) (bE _ (bE _ (qx q e)))).2.1
  cases f with
  |next=>obtain⟨a,l,p,Q⟩:=B;exact k p Q
  |cont=>obtain⟨a,l,p,Q⟩:=B;exact k p Q
  |brk=>obtain⟨a,l,p,B⟩:=B;exact⟨a,l,p.unpinned,B⟩
  |ret v=>obtain⟨x7,a,l,p,r7,B⟩:=B;exact⟨x7,a,l,p.unpinned,r7,B⟩
end
end L2
namespace L2
open PySem PySem.Spec PyProof.Rows
abbrev R2:=V->V->Hp->VK->Prop
def rK(X:Cx)(f:Value->Value->Sem Value)(r:R2):Prop:=
 ∀(a:List (Addr×Obj)) (s:Shared) (b:St) (H:Hp) (x y:V) (v u:Value) (Q:VK),iq X a b H s->i9 x v->i9 y u->r x y H Q->
  wpAny (model X.prog X.w) X.A (f v u) (EP X a b Q) X.xe s
def Wr(X:Cx)(f:Value->Sem Value)(r:V->Hp->VK->Prop):Prop:=
 ∀(a:List (Addr×Obj)) (s:Shared) (b:St) (H:Hp) (x:V) (v:Value) (Q:VK),iq X a b H s->i9 x v->r x H Q->
  wpAny (model X.prog X.w) X.A (f v) (EP X a b Q) X.xe s
def lO(X:Cx)(f:Value)(r:List V->Hp->VK->Prop):Prop:=
 ∀(c:List (Addr×Obj)) (s:Shared) (d:St) (H:Hp) (a:List V) (b:List Value) (Q:VK),iq X c d H s->iL a b->r a H Q->
  wpAny (model X.prog X.w) X.A (call f b) (EP X c d Q) X.xe s
def wN(r:R2)(c d:TE):TE:=λa H Q=>c a H λx b=>d a b λy e=>r x y e Q
def Wg(r:V->Hp->VK->Prop)(b:TE):TE:=λc H Q=>b c H λx a=>r x a Q
def rI(C:Int->Int->Prop)(g:Int->Int->V):R2:=λx y H Q=>∃i j,x=.int i/\y=.int j/\C i j/\Q (g i j) H
def Ge(g:Int->Int->V):R2:=λx y H Q=>∃i j,x=.int i/\y=.int j/\Q (g i j) H
def rU(g:Int->V):V->Hp->VK->Prop:=λx H Q=>∃i,x=.int i/\Q (g i) H
section
variable {X:Cx}{a b c:Expr}{ta tb tc:TE}{pos:Pos}
def RK(k:PE X a ta)(l:PE X b tb){R:V->V->Hp->Prop}(I:iq X gQ σ H s)
  (h:ta σ H λx j=>tb σ j λy d=>R x y d) {f:Value->Value->Sem Value}
  (m:∀v u i x y d,iq X gQ σ d i->i9 x v->i9 y u->R x y d->wpAny (model X.prog X.w) X.A (f v u) Q X.xe i) :
  wpAny (model X.prog X.w) X.A (eval a X.env) (λv g=>wpAny (model X.prog X.w) X.A (eval b X.env) (λu e=>wpAny (model X.prog X.w) X.A (f v u) Q X.xe e) X.xe g) X.xe s:=by
 refine kl (k gQ s σ H _ I h) λv s1 ⟨x,j,I1,r1,q1⟩=>?_;refine kl (l gQ s1 σ j _ I1 q1) λu i ⟨y,d,I2,r2,q2⟩=>?_;exact m v u i x y d I2 r1 r2 q2
def Ke(d:rK X (binaryOp op) r)(m:PE X a ta)(i:PE X b tb):PE X (.BinOp a op b pos) (wN r ta tb):=by intro n s e H Q I h;exact wpAny_BinOp (RK m i I h λv u f x y g l k j q=>d n f e g x y v u Q l k j q)
def Rk(g:Wr X (unaryOp op) r)(f:PE X a ta):PE X (.UnaryOp op a pos) (Wg r ta):=by intro d s e H Q I h;exact UnaryOp_ (kl (f d s e H _ I h) λv s1 ⟨x,H1,I1,r1,q1⟩=>g d s1 e H1 x v Q I1 r1 q1)
def V6{g:Int->Int->Int}
  (d:∀i j t u s Q E,C i j->Q (.int (g i j) s.toks) {s with toks:=s.toks+1}->wpAny (model X.prog X.w) X.A (f (.int i t) (.int j u)) Q E s) :
  rK X f (rI C λi j=>.int (g i j)):=by
 intro o s n H x y v u Q I l k h;obtain⟨i,j,rfl,rfl,m,q⟩:=h;obtain⟨t,rfl⟩:=l;obtain⟨e,rfl⟩:=k;exact d i j t e s _ _ m ⟨.int (g i j),H,I.tok _,⟨_,rfl⟩,q⟩
def VH{g:Int->Int->Int}
  (d:∀i j t u s Q E,Q (.int (g i j) s.toks) {s with toks:=s.toks+1}->wpAny (model X.prog X.w) X.A (f (.int i t) (.int j u)) Q E s) :
  rK X f (Ge λi j=>.int (g i j)):=by
 intro n s m H x y v u Q I l k h;obtain⟨i,j,rfl,rfl,q⟩:=h;obtain⟨t,rfl⟩:=l;obtain⟨e,rfl⟩:=k;exact d i j t e s _ _ ⟨.int (g i j),H,I.tok _,⟨_,rfl⟩,q⟩
def Oe{g:Int->Int->Bool}
  (d:∀(i j:Int) (t u:Tok) (s:Shared) (Q:Value->Shared->Prop) (E:Value->Shared->Prop),Q (.bool (g i j)) s->wpAny (model X.prog X.w) X.A (f (.int i t) (.int j u)) Q E s) :
  rK X f (Ge λi j=>.bl (g i j)):=by
 intro n s m H x y v u Q I l k h;obtain⟨i,j,rfl,rfl,q⟩:=h;obtain⟨t,rfl⟩:=l;obtain⟨e,rfl⟩:=k;exact d i j t e s _ _ ⟨.bl (g i j),H,I,rfl,q⟩
def Ut(i j:Int):Prop:=0<=j/\j<=1000000/\i.natAbs<2 ^ 64
def Sx:rK X (binaryOp .Add) (Ge λi j=>.int (i+j)):=VH λ_ _ _ _ _ _ _ q=>add_int q
def T2:rK X (binaryOp .Sub) (Ge λi j=>.int (i-j)):=VH λ_ _ _ _ _ _ _ q=>sub_int q
def OJ:rK X (binaryOp .Mod) (rI (λ_ j=>j≠0) λi j=>.int (i.fmod j)):=V6 λ_ _ _ _ _ _ _ d q=>mod_int' d q
def Sg:rK X (binaryOp .Pow) (rI Ut λi j=>.int (i ^ j.toNat)):=V6 λ_ _ _ _ _ _ _ d q=>pow_int_small d.1 d.2.1 d.2.2 q
def Xv{g:Int->Int}
  (d:∀i t s Q E,Q (.int (g i) s.toks) {s with toks:=s.toks+1}->wpAny (model X.prog X.w) X.A (f (.int i t)) Q E s) :
  Wr X f (rU λi=>.int (g i)):=by
 intro j s k H x v Q I e h;obtain⟨i,rfl,q⟩:=h;obtain⟨t,rfl⟩:=e;exact d i t s _ _ ⟨.int (g i),H,I.tok _,⟨_,rfl⟩,q⟩
def MB:Wr X (unaryOp .USub) (rU λi=>.int (-i)):=Xv λ_ _ _ _ _ q=>neg_int q
end
section
variable {X:Cx}{a b c:Expr}{ta tb tc:TE}{pos:Pos}
def R7(I:iq X gQ σ H s)(q:Q (.bl k) H)(e:k=k'):EP X gQ σ Q (.bool k') s:=by subst e;exact⟨.bl k,H,I,rfl,q⟩
def Hz:rK X (compareOp .Lt) (Ge λi j=>.bl (decide (i<j))):=Oe λ_ _ _ _ _ _ _ q=>lt_int q
def G8:rK X (compareOp .LtE) (Ge λi j=>.bl (decide (i<=j))):=Oe λ_ _ _ _ _ _ _ q=>le_int q
def L8:rK X (compareOp .Gt) (Ge λi j=>.bl (decide (j<i))):=Oe λ_ _ _ _ _ _ _ q=>gt_int q
def LY:rK X (compareOp .GtE) (Ge λi j=>.bl (decide (j<=i))):=Oe λ_ _ _ _ _ _ _ q=>ge_int q
def Kw:rK X (compareOp .Is) (λx y H Q=>y=.non/\Q (.bl (decide (x=.non))) H):=by
 intro f s g H x y v u Q I d e h;obtain⟨rfl,q⟩:=h;cases e;refine is_none_gen (R7 I q ?_);cases x<;>first
  | (cases d;rfl)
  | (obtain⟨t,rfl⟩:=d;rfl)
def vA b (h:op≠.In:=by decide) (e:op≠.NotIn:=by decide):behindInMarks op b=false:=by
 have d:(op==CmpOp.In)=false:=by cases op<;>first|rfl|exact absurd rfl h
 have f:(op==CmpOp.NotIn)=false:=by cases op<;>first|rfl|exact absurd rfl e
 cases b<;>simp[behindInMarks,d,f]
def OW(d:rK X (compareOp op) r)(n:PE X a ta)(j:PE X b tb)(e:behindInMarks op b=false):PE X (.Compare a [op] [b] pos) (wN r ta tb):=by intro o s f H Q I h;exact wpAny_Compare1 (RK n j I h λv u g x y i m l k q=>d o g f i x y v u Q m l k q) e
def AO(t:TE):TT:=λd H Q=>t d H λx e=>∃k,x=.bl k/\Q k e
def Ph(i:rK X (compareOp op) r)(g:PE X a ta)(j:PE X b tb)(l:behindInMarks op b=false):PT X (.Compare a [op] [b] pos) (AO (wN r ta tb)):=by
 intro d s f H Q I h;refine wpAny_isTrue_Compare1 (kl (g d s f H _ I h) λv s1 ⟨x,H1,I1,r1,q1⟩=>kl (j d s1 f H1 _ I1 q1) λu s2 ⟨y,H2,I2,r2,q2⟩=>kl (i d s2 f H2 x y v u _ I2 r1 r2 q2) λc s3 ⟨z,H3,I3,r3,k,e,q3⟩=>?_) l
 subst e;cases r3;exact wpAny_truthy_bool ⟨H3,I3,q3⟩
def EO(r i:R2)(ta tb tc:TE):TE:=λd H Q=>ta d H λx g=>tb d g λy j=>r x y j λz e=>∃k,z=.bl k/\
 (if k=true then tc d e λh f=>i y h f Q else Q (.bl false) e)
theorem LO(l:rK X (compareOp op) r)(i:rK X (compareOp op') r')(j:PE X a ta)(m:PE X b tb)(o:PE X c tc)
  (n:lastMarks [op,op'] [b,c]=false:=by with_unfolding_all rfl):PE X (.Compare a [op,op'] [b,c] pos) (EO r r' ta tb tc):=by
 intro f s g H Q I h;refine Compare_chain (kl (j f s g H _ I h) λv s1 ⟨x,H1,I1,r1,q1⟩=>chain_link (kl (m f s1 g H1 _ I1 q1) λu s2 ⟨y,H2,I2,r2,q2⟩=>kl (l f s2 g H2 x y v u _ I2 r1 r2 q2) λd s3 ⟨z,H3,I3,r3,k,e,q3⟩=>?_)) n
 subst e;cases r3;refine wpAny_truthy_bool ?_;cases k with
 |false=>exact ite_ff ⟨.bl false,H3,I3,rfl,q3⟩
 |true=>exact ite_tt (chain_last (kl (o f s3 g H3 _ I3 q3) λw' s4 ⟨z',H4,I4,r4,q4⟩=>i f s4 g H4 y z' u w' Q I4 r2 r4 q4))
def Co:(sizeLine:Nat)<2 ^ 63:=by rw[sizeLine_eq];decide
def E1:rK X (binaryOp .Add) (λx y H Q=>∃i j,x=.str i/\y=.str j/\i.length+j.length<=sizeLine/\Q (.str (i++j)) H):=by intro m s l H x y v u Q I g f h;obtain⟨i,j,rfl,rfl,d,q⟩:=h;obtain⟨t,rfl⟩:=g;obtain⟨e,rfl⟩:=f;exact add_str (λe k=>⟨.str (i++j),H,I.tok _,⟨_,rfl⟩,q⟩) d
def sP(r:iL [x] us):∃u,us=[u]/\i9 x u:=by
 cases r with
 |cons r1 r2=>cases r2;exact⟨_,rfl,r1⟩
def Na(r:iL [x,y] us):∃u d,us=[u,d]/\i9 x u/\i9 y d:=by
 cases r with
 |cons r1 r2=>
  cases r2 with
  |cons r3 r4=>cases r4;exact⟨_,_,rfl,r1,r3⟩
def oz:lO X (.builtin "abs") (λxs H Q=>∃i,xs=[.int i]/\Q (.int (if i<0 then -i else i)) H):=by intro e s f H xs d Q I r h;obtain⟨i,rfl,q⟩:=h;obtain⟨u,rfl,t,rfl⟩:=sP r;exact call_abs_int λu g=>⟨.int (if i<0 then -i else i),H,I.tok _,⟨_,rfl⟩,q⟩
def IX(e:X.calm=true):lO X (.builtin "max") (λxs H Q=>∃i j,xs=[.int i,.int j]/\Q (.int (if j>i then j else i)) H):=by
 intro o s l H xs m Q I r h;obtain⟨i,j,rfl,q⟩:=h;obtain⟨u,p,rfl,⟨t,rfl⟩,⟨f,rfl⟩⟩:=Na r;refine max_two_ints (I.ok.hd e) λn g k=>⟨_,H,I.kept k,?_,q⟩;by_cases d:j>i
 .rw[aR d,aR d];exact⟨_,rfl⟩
 .rw[aS d,aS d];exact⟨_,rfl⟩
def Rv(K:W.Frag)(x:V)(H:Hp)(n:Nat):Prop:=
 match x with
 |.str y=>y.length<=sizeLine/\n=y.length
 |.byt y=>y.size<=sizeLine/\n=y.size
 |.ref p=>(∃d,l9 K H p d/\n=d.length)\/∃d,nu K H p d/\n=d.length
 |_=>False
def Mv:lO X (.builtin "len") (λxs H Q=>∃x n,xs=[x]/\Rv X.K x H n/\Q (.int n) H):=by
 intro z s v H xs w Q I r h;obtain⟨x,n,rfl,e,q⟩:=h;obtain⟨u,rfl,l⟩:=sP r;have o:=sizeLine_eq;cases x with
 |str y=>obtain⟨t,rfl⟩:=l;obtain⟨hy,d⟩:y.length<=sizeLine/\n=y.length:=e;subst d;exact len_str (by omega) ⟨.int _,H,I.tok _,⟨_,rfl⟩,q⟩
 |byt y=>obtain⟨t,rfl⟩:=l;obtain⟨hy,d⟩:y.size<=sizeLine/\n=y.size:=e;subst d;exact W.len_bytes (by omega) ⟨.int _,H,I.tok _,⟨_,rfl⟩,q⟩
 |ref p=>
  cases l;have d:=e;rcases d with⟨xs,i,d⟩|⟨xs,i,d⟩
  .subst d;obtain⟨f,g,j,m⟩:=I.list i;have k:=g.length;exact Calls.call_len_list j.isList (by simp only[bF];omega) ⟨.int xs.length,H,I.tok _,⟨_,by simp only[bF];rw[k]⟩,q⟩
  .subst d;obtain⟨f,g,j,m⟩:=I.tuple i;have k:=g.length;exact len_tuple j (by simp only[bF];omega) ⟨.int xs.length,H,I.tok _,⟨_,by simp only[bF];rw[k]⟩,q⟩
 |_=>exact (e).elim
end
end L2
namespace L2
open PySem PySem.Spec PyProof.Rows
structure EC(h:Heap)(x dx C:Addr)(mA:Str->Option Value):Prop where
 obj:h.get? x=some (W.instObj C dx)
 ns:h.Ns1 dx mA
 ne:dx≠x
def Ji{h:Heap}(n:h.Ns1 dx mA):∃d,h.get? dx=some d/\∀name,W.lookIn name d=some (mA name):=by
 obtain⟨o,c,m,g,k,j,_,i⟩:=n;refine⟨o,g,λname=>?_⟩;have e:=i name;unfold nsFind findBy at e;rw[<-Array.find?_toList]at e;unfold W.lookIn;rw[k];dsimp only;split
 .rename_i y q;rw[q]at e;exact congrArg some e
 .rename_i q;rw[q]at e;have a:c.toList.any (·.refKey)=false:=by rw[bG];intro y l;obtain⟨z,t,b⟩:=j y (Array.mem_toList_iff.mp l);simp[DictEntry.refKey,b]
  have f:¬c.toList.any (·.refKey)=true:=by rw[a];exact aI
  rw[aS f];exact congrArg some e
def EC.look(I:EC h x dx C mA):∃a,W.InstAt h x (W.instObj C dx) C (some a)/\∀name,W.lookIn name a=some (mA name):=
 let ⟨a,ho,hl⟩:=Ji I.ns
 ⟨a,⟨I.obj,rfl,rfl,ho⟩,hl⟩
section
variable {prog:Program}{w:World}{A:Around}{E:Value->Shared->Prop}{s:Shared}{K:W.Frag}{x dx C f:Addr}{mA:Str->Option Value}{name:Str}{v:Value}
def P5(X:K.In s.heap)(I:EC s.heap x dx C mA)(d:W.plainGet K C name=true)(c:W.hasDictIn K C=true)
  (b:W.findIn K (.ref C) name=some none) (hv:mA name=some v) (a:W.handedIn v=true) (h:Q v {s with toks:=s.toks+1}) :
  wpAny (model prog w) A (getAttr (.ref x) name expr) Q E s:=by
 obtain⟨g,J,e⟩:=I.look;exact W.get_value X J (W.plainGet_of d).1 (W.findObj_own c b rfl (by rw[e,hv])) a h
def Nj(X:K.In s.heap)(I:EC s.heap x dx C mA)(a:W.plainGet K C name=true)
  (d:W.findIn K (.ref C) name=some (some (.ref f))) (b:W.isFn K (.ref f)=true) (hv:mA name=none) (h:Q (.ref f,[.ref x]) s) :
  wpAny (model prog w) A (getMethod (.ref x) name pl) Q E s:=by
 obtain⟨c,J,e⟩:=I.look;exact W.method_fn X J (W.plainGet_of a).1 (W.plainGet_of a).2 d (beq_iff_eq.mp b) (by show (W.lookIn name c).map (·.isSome)=some false;rw[e,hv];rfl) h
def uK(X:K.In s.heap)(I:EC s.heap x dx C mA)
  (k:W.findIn K (.ref C) "__setattr__" = some (some (.builtin "object.__setattr__"))) (p:W.plainOver K C=true) (n:W.takerIn K C name=some none) (j:W.hasDictIn K C=true)
  (hw:PySem.Within mA ns) (hsz:ns.length<=sizeLine)
  (h:∀h',EC h' x dx C (λy=>if y=name then some v else mA y)->Heap.SameBut dx s.heap h'->Q () {s with heap:=h',toks:=s.toks+2}) :
  wpAny (model prog w) A (setAttr (.ref x) name v) Q E s:=by
 obtain⟨r,J,u⟩:=I.look;refine W.set_plain X J k (W.osa_open X J p n λb=>?_);obtain⟨z,q,g⟩:=W.any_some j;have l:=I.obj;refine ao (ak (ao (ao (wpAny_loadPart l (ao (W.Looks.here (W.looks_clsIn X q) ?_))))));rw[g];refine ak (ao (ak (ao ?_)));refine wpAny_nsSet1 I.ns λh' a c=>?_;obtain⟨B,m,o,e,d,i⟩:=a.count (PySem.Within.cons name v hw);refine ao (wpAny_lookBehind e (by rw[d];exact pastItsLine_dict (aO i (by rw[aA];omega))) ?_);exact ak (h _ ⟨(c.2 _ (Ne.symm I.ne)).trans I.obj,a,I.ne⟩ c)
def Ny(X:K.In s.heap)(b:W.makesIn K C=true)
  (c:W.findIn K (.ref C) "__init__" = some (some (.ref f))) (e:W.typeIn K (.ref f)=some (.type "function"))
  (h:codeAny (model prog w) (A.under (.builtin "type.__call__" ⟨.ref C::vs,kw⟩)) (.call (.ref f) ⟨.ref (s.heap.objs.size+1)::vs,kw⟩) (W.InitBack (s.heap.objs.size+1) R)
   {s with heap:=(s.heap.push W.emptyDict).push (W.instObj C s.heap.objs.size)}) :
  codeAny (model prog w) A (.call (.ref C) ⟨vs,kw⟩) R s:=by
 obtain⟨i,g,d,t,j⟩:=s;exact W.make_core (W.makes_of X b) (W.looks_findIn X c) (λa=>W.bind_fn X a e) (.inl rfl) h
end
def qK(f:Str)(v:V):List (Str×V)->List (Str×V)
 |[]=>[(f,v)]
 | (g,x)::r=>if g=f then (g,v)::r else (g,x)::qK f v r
theorem wt f g v:∀fs:List (Str×V),(qK f v fs).lookup g=if g=f then some v else fs.lookup g
 |[]=>by
  show List.lookup g [(f,v)]=_;by_cases h:g=f
  .have a:=beq_iff_eq.mpr h;simp only[List.lookup,a,aR h]
  .have a:=beq_eq_false_iff_ne.mpr h;simp only[List.lookup,a,aS h]
 | (k,x)::r=>by
  have c:=wt f g v r;rw[show qK f v ((k,x)::r)=(if k=f then (k,v)::r else (k,x)::qK f v r) from rfl];by_cases b:k=f
  .rw[aR b];by_cases h:g=k
   .have a:=beq_iff_eq.mpr h;simp only[List.lookup,a,aR (h.trans b)]
   .have a:=beq_eq_false_iff_ne.mpr h;simp only[List.lookup,a,aS (λe:g=f=>h (e.trans b.symm))]
  .rw[aS b];by_cases h:g=k
   .have a:=beq_iff_eq.mpr h;simp only[List.lookup,a,aS (λe:g=f=>b (h.symm.trans e))]
   .have a:=beq_eq_false_iff_ne.mpr h;simp only[List.lookup,a];exact c
theorem vE f v:∀fs:List (Str×V),f∈(qK f v fs).map (·.1)/\∀g,g∈fs.map (·.1)->g∈(qK f v fs).map (·.1)
 |[]=>⟨by simp[qK],λg h=>by simp at h⟩
 | (k,x)::r=>by
  obtain⟨b,c⟩:=vE f v r;rw[show qK f v ((k,x)::r)=(if k=f then (k,v)::r else (k,x)::qK f v r) from rfl];by_cases a:k=f
  .rw[aR a];subst a;exact⟨by simp,λg h=>by simpa using h⟩
  .rw[aS a];refine⟨?_,λg h=>?_⟩
   .rw[bH];exact bx _ b
   .rw[bH]at h ⊢;rcases aG.mp h with e|e
    .exact aG.mpr (.inl e)
    .exact bx _ (c g e)
theorem wu f v:∀fs:List (Str×V),(qK f v fs).length<=fs.length+1
 |[]=>by simp[qK]
 | (k,x)::r=>by
  have b:=wu f v r;rw[show qK f v ((k,x)::r)=(if k=f then (k,v)::r else (k,x)::qK f v r) from rfl];by_cases a:k=f
  .rw[aR a,aA,aA];omega
  .rw[aS a,aA,aA];omega
def tG.some_of(r:tG (some v) o):∃u,o=some u/\i9 v u:=by
 cases o with
 |none=>exact (r).elim
 |some u=>exact⟨u,rfl,r⟩
def tG.none_of(r:tG none o):o=none:=by
 cases o with
 |none=>rfl
 |some u=>exact (r).elim
def Ii(r:i9 v u):W.handedIn u=true:=by
 cases v with
 |non=>cases (r);rfl
 |bl b=>cases (r);rfl
 |int i=>obtain⟨t,e⟩:=(r);cases e;rfl
 |str x=>obtain⟨t,e⟩:=(r);cases e;rfl
 |byt b=>obtain⟨t,e⟩:=(r);cases e;rfl
 |flt b=>obtain⟨t,e⟩:=(r);cases e;rfl
 |ref a=>cases (r);rfl
 |ty n=>cases (r);rfl
section
variable {P:Program}{w:World}{H H':Hp}{h h':Heap}{a C dx:Addr}{fs fs':List (Str×V)}
def wY(c:qH P w H h)(e:H a=some (.ins C dx fs)):∃b,EC h a dx C b/\(∀f,tG (fs.lookup f) (b f))/\PySem.Within b (fs.map (·.1))/\fs.length<=1000/\H dx=some (.own a):=by obtain⟨d,z,ne,g,b,n,r,q⟩:=(c a _ e);exact⟨b,⟨g,n,ne⟩,r,q,z,d⟩
end
structure zD(K:W.Frag)(C:Addr):Prop where
 pg:W.plainGet K C Str.empty=true
 hd:W.hasDictIn K C=true
 po:W.plainOver K C=true
 sa:W.findIn K (.ref C) "__setattr__" = some (some (.builtin "object.__setattr__"))
def zD.get{K:W.Frag}(c:zD K C) f:W.plainGet K C f=true:=c.pg
def my(K:W.Frag)(C:Addr)(f:Str):Prop:=W.findIn K (.ref C) f=some none
def my.taker{K:W.Frag}(n:my K C f):W.takerIn K C f=some none:=by unfold W.takerIn;rw[show W.findIn K (.ref C) f=some none from n];rfl
structure JW(K:W.Frag)(C:Addr)(m:Str)(f:Addr):Prop where
 at_:W.findIn K (.ref C) m=some (some (.ref f))
 fn:W.isFn K (.ref f)=true
 kp:W.keepIn K (.ref f)=true
section
variable {X:Cx}{gQ:List (Addr×Obj)}{σ:St}{H:Hp}{s:Shared}{a C dx:Addr}{fs:List (Str×V)}{f:Str}{v:V}{A:Around}{E:Value->Shared->Prop}
def E6(I:iq X gQ σ H s)(e:H a=some (.ins C dx fs))(c:zD X.K C)(n:my X.K C f)(l:fs.lookup f=some v)
  (h:∀u d,iq X gQ σ H d->i9 v u->Q u d):wpAny (model X.prog X.w) A (getAttr (.ref a) f b) Q E s:=by
 obtain⟨j,O,r,_,_,_⟩:=wY I.hok e;obtain⟨u,i,g⟩:=tG.some_of (by rw[<-l];exact r f);exact P5 I.kIn O (c.get f) c.hd n i (Ii g) (h u _ (I.tok _) g)
def xN(I:iq X gQ σ H s)(e:H a=some (.ins C dx fs))(c:zD X.K C)(k:JW X.K C m g)(l:fs.lookup m=none)
  (h:Q (.ref g,[.ref a]) s):wpAny (model X.prog X.w) A (getMethod (.ref a) m pl) Q E s:=by
 obtain⟨d,O,r,_,_,_⟩:=wY I.hok e;have b:=tG.none_of (by rw[<-l];exact r m);exact Nj I.kIn O (c.get m) k.at_ k.fn b h
def ES(I:iq X gQ σ H s)(e:H a=some (.ins C dx fs))(c:zD X.K C)(n:my X.K C f)(L:fs.length<1000)(B:i9 y u)
  (h:∀k,iq X gQ σ (i6 H a (.ins C dx (qK f y fs))) k->Q () k):wpAny (model X.prog X.w) A (setAttr (.ref a) f u) Q E s:=by
 obtain⟨p,O,r,j,_,i⟩:=wY I.hok e;have l:(fs.map (·.1)).length<=sizeLine:=by rw[ax,sizeLine_eq];omega
 refine uK I.kIn O c.sa c.po n.taker c.hd j l λF d m=>h _ ?_;have D:∃o,F.get? dx=some o:=let ⟨o,_,_,e',_⟩:=d.ns;⟨o,e'⟩;refine I.write (by rw[e];exact True.intro) (.inr i) (λb q x z=>(m.2 b x).trans z) D ?_;refine⟨by rw[hV O.ne];exact i,?_,O.ne,d.obj,_,d.ns,λg=>?_,λg J=>?_⟩
 .have:=wu f y fs;omega
 .rw[wt];by_cases q:g=f
  .rw[aR q,aR q];exact B
  .rw[aS q,aS q];exact r g
 .by_cases q:g=f
  .rw[q];exact (vE f y fs).1
  .refine (vE f y fs).2 g (j g λz=>J ?_);show (if g=f then some u else p g)=none;rw[aS q];exact z
def iq.made(I:iq X gQ σ H s):iq X gQ σ (i6 (i6 H s.heap.objs.size (.own (s.heap.objs.size+1))) (s.heap.objs.size+1) (.ins C s.heap.objs.size []))
  {s with heap:=(s.heap.push W.emptyDict).push (W.instObj C s.heap.objs.size)}:=by
 have c:(s.heap.push W.emptyDict).get? s.heap.objs.size=some W.emptyDict:=ar s.heap rfl;have g:((s.heap.push W.emptyDict).push (W.instObj C s.heap.objs.size)).get? (s.heap.objs.size+1)=some (W.instObj C s.heap.objs.size):=by have:=ar (s.heap.push W.emptyDict) (o:=W.instObj C s.heap.objs.size) rfl;rwa [Heap.size_push]at this
 have i:(s.heap.push W.emptyDict).Ns s.heap.objs.size (λ_=>none):=⟨W.emptyDict,#[],_,c,rfl,(λe h=>absurd h (by simp)),λ_=>rfl⟩;have j:=I.laid (o:=.own (s.heap.objs.size+1)) (t':=s.toks) (λb u q=>ae _ q) (aL _) ⟨_,c⟩;refine j.laid (λb u q=>ae _ q) (bI (Heap.size_push _ _)) ?_;have ne:s.heap.objs.size≠s.heap.objs.size+1:=aN (bJ _);refine⟨by rw[hV ne,g9],bK _,ne,g,λ_=>none,(Heap.Ns1.of_empty i).at λo q=>ae _ q,λ_=>True.intro,λy d=>absurd rfl d⟩
def QB(c:attributeBase e f env (eval e env)=eval e env)
  (h:wpAny (model prog w) A (eval e env) (λo b=>wpAny (model prog w) A (getAttr o f true) Q E b) E s):wpAny (model prog w) A (eval (.Attribute e f pos) env) Q E s:=
 Attribute_any_ h (by rw[arm_eval_Attribute,c])
end
def RN(K:W.Frag)(c:TE)(f:Str):TE:=λe H Q=>c e H λx b=>∃a C d fs v,x=.ref a/\b a=some (.ins C d fs)/\zD K C/\my K C f/\fs.lookup f=some v/\Q v b
def RY(K:W.Frag)(h e:TE)(f:Str):TS:=λD b H=>e b H λy g=>h b g λx d=>∃a C c fs,x=.ref a/\d a=some (.ins C c fs)/\zD K C/\my K C f/\fs.length<1000/\
 D.nx b (i6 d a (.ins C c (qK f y fs)))
section
variable {X:Cx}{o e value:Expr}{f:Str}{pos pos' tpos:Pos}{ta tv:TE}
def Sv(d:PE X e ta)(g:attributeBase e f X.env (eval e X.env)=eval e X.env):PE X (.Attribute e f pos) (RN X.K ta f):=by intro j s k H Q I h;refine QB g (kl (d j s k H _ I h) λu s1 ⟨x,H1,I1,rx,a,C,dx,fs,v,ex,ea,c,n,l,q⟩=>?_);subst ex;obtain rfl:u=Value.ref a:=rx;exact E6 I1 ea c n l λm p b i=>⟨v,H1,b,i,q⟩
def Nw(g:PE X o ta)(hv:PE X value tv)(i:swapsWith value (some (.Attribute o f pos')) pos.line X.env=pure false):PS X (.Assign [.Attribute o f pos'] value pos) (RY X.K ta tv f):=by intro d s b H D I h;refine plainObj_wpAny_Assign_Attribute (kl (hv d s b H _ I h) λu s1 ⟨y,H1,I1,ry,q⟩=>kl (g d s1 b H1 _ I1 q) λov s2 ⟨x,H2,I2,rx,a,C,dx,fs,ex,ea,c,n,l,q2⟩=>?_) i;subst ex;obtain rfl:ov=Value.ref a:=rx;exact ES I2 ea c n l ry λk j=>⟨b,_,j,q2⟩
end
section
variable {X:Cx}{gQ:List (Addr×Obj)}{σ:St}{H:Hp}{s:Shared}{A:Around}{E:Value->Shared->Prop}{Q:Value->Shared->Prop}{c:Value}{b:Bool}
inductive rF(K:W.Frag)(H:Hp):V->Value->Prop where
 |non:rF K H .non (.type "NoneType")
 |bl (x:Bool):rF K H (.bl x) (.type "bool")
 |int (i:Int):rF K H (.int i) (.type "int")
 |str (x:Str):rF K H (.str x) (.type "str")
 |flt (x:UInt64):rF K H (.flt x) (.type "float")
 |lst {a:Addr} {xs:List V} (e:H a=some (.lst xs)):rF K H (.ref a) (.type "list")
 |frz {a:Addr} {o:Obj} {xs:List V} (e:H a=some (.frz o (.lst xs))):rF K H (.ref a) (.type "list")
 |tup {a:Addr} {xs:List V} (e:H a=some (.tup xs)):rF K H (.ref a) (.type "tuple")
 |dK {a:Addr} {kvs:List (nC×V)} (e:H a=some (.dK kvs)):rF K H (.ref a) (.type "dict")
 |dT {a:Addr} {kvs:List (List nC×V)} (e:H a=some (.dT kvs)):rF K H (.ref a) (.type "dict")
 |ins {a C dx:Addr} {fs:List (Str×V)} (e:H a=some (.ins C dx fs)) (cl:zD K C) (ha:W.findIn K (.ref C) "__class__" = some (some (.builtin "object.__class__")))
   (hn:W.specialIn K (.builtin "object.__class__") "__get__" = some (some (.builtin "getset_descriptor.__get__"))) (htk:W.takesIn K (.builtin "object.__class__")=some true)
   (hm:W.mroIn K C (.type "object")=some true):rF K H (.ref a) (.ref C)
def Io(I:iq X gQ σ H s)(d:i9 x u)(ty:rF X.K H x t)(e:W.kitOne X.K t c=some b)(h:∀k,Q (.bool b) {s with toks:=k}) :
  wpAny (model X.prog X.w) A (call (.builtin "isinstance") [u,c]) Q E s:=by
 cases ty with
 |non=>cases (d);exact W.kia_one W.kitx_none I.kIn True.intro e (λz=>nomatch z) h
 |bl y=>cases (d);exact W.kia_one W.kitx_bool I.kIn True.intro e (λz=>nomatch z) h
 |int i=>obtain⟨t,q⟩:=(d);cases q;exact W.kia_one W.kitx_int I.kIn True.intro e (λz=>nomatch z) h
 |str y=>obtain⟨t,q⟩:=(d);cases q;exact W.kia_one W.kitx_str I.kIn True.intro e (λz=>nomatch z) h
 |flt y=>obtain⟨t,q⟩:=(d);cases q;exact W.kia_one W.kitx_float I.kIn True.intro e (λz=>nomatch z) h
 |@lst a j ea=>cases (d);obtain⟨_,_,n,_,f⟩:=(I.hok a _ ea);exact W.kia_one W.kitx_list I.kIn ⟨_,f,rfl⟩ e (λz=>nomatch z) h
 |@frz a ob j ea=>cases (d);obtain⟨_,_,_,n,_,f⟩:=(I.hok a _ ea);exact W.kia_one W.kitx_list I.kIn ⟨_,f,rfl⟩ e (λz=>nomatch z) h
 |@tup a j ea=>cases (d);obtain⟨_,_,_,p⟩:=(I.hok a _ ea);obtain⟨o,f,g,_⟩:=p;exact W.kia_one W.kitx_tuple I.kIn ⟨o,f,g⟩ e (λz=>nomatch z) h
 |@dK a kvs ea=>cases (d);obtain⟨_,_,r,_,p⟩:=(I.hok a _ ea);obtain⟨o,l,m,f,g,_⟩:=p;exact W.kia_one W.kitx_dict I.kIn ⟨o,f,g.1⟩ e (λz=>nomatch z) h
 |@dT a kvs ea=>cases (d);obtain⟨_,_,j,_,o,l,m,f,g,_⟩:=(I.hok a _ ea);exact W.kia_one W.kitx_dict I.kIn ⟨o,f,g.1⟩ e (λz=>nomatch z) h
 |@ins a C dx fs ea cl ha hn htk hm=>cases (d);obtain⟨v,O,_⟩:=wY I.hok ea;obtain⟨B,J,_⟩:=O.look;exact W.kia_one (W.kitx_own (cl.get _) cl.hd ha hn htk hm) I.kIn J e (λz=>nomatch z) h
end
end L2
namespace L2
open PySem PySem.Spec PyProof.Rows
structure je(k:Nat)(A:Around):Prop where
 hd:A.handled=none
 dp:A.depth+3*k+5<recursionLimit
 un:A.units+16*k+200<cLine
def je.mono(r:je k A)(h:j<=k):je j A:=⟨r.hd,by have:=r.dp;omega,by have:=r.un;omega⟩
def je.deeper(r:je (k+1) A) env:je k (A.deeper env):=⟨r.hd,by have:=r.dp;show A.depth+1+3*k+5<_;omega,by have:=r.un;show A.units+3+16*k+200<_;omega⟩
def je.in1(r:je (k+1) A):je k A.in1:=⟨r.hd,by have:=r.dp;show A.depth+3*k+5<_;omega,by have:=r.un;show A.units+1+16*k+200<_;omega⟩
def Fk{A:Around}:(A.under (.builtin "type.__call__" ⟨.ref C::us,kw⟩)).depth=A.depth+1:=by first|rfl|simp[Around.under,Code.weight,Code.isCreation,Code.isGuard,Code.isCaller,Code.frames,Code.isFrame,guardIds]
def EY{A:Around}:(A.under (.builtin "type.__call__" ⟨.ref C::us,kw⟩)).units=A.units+1:=by first|rfl|simp[Around.under,Code.cUnits,Code.frames,Code.isFrame]
def je.make(r:je (k+1) A) C us kw:je k (A.under (.builtin "type.__call__" ⟨.ref C::us,kw⟩)):=⟨r.hd,by have:=r.dp;rw[Fk];omega,by have:=r.un;rw[EY];omega⟩
def je.depth(r:je k A):A.depth<recursionLimit:=by have:=r.dp;omega
def je.units(r:je k A):A.units+64<cLine:=by have:=r.un;omega
def v7:TA:=λ_ H Q=>Q [] H
def rG(d:TE)(e:TA):TA:=λa H Q=>d a H λx c=>e a c λb f=>Q (x::b) f
section
variable {X:Cx}{e:Expr}{es:List Expr}{te:TE}{t:TA}{pos:Pos}
def tV:PA X [] v7:=λ_ _ _ _ H Q I h=>Calls.spliced_nil ⟨[],H,I,.nil,h⟩
def nR(c:PE X e te)(hr:PA X es t)(d:starEach (e::es) X.env=(false,eval e X.env)::starEach es X.env:=by rfl):PA X (e::es) (rG te t):=by intro pos a s b H Q I h;rw[d];refine Calls.spliced_cons (kl (c a s b H _ I h) λu s1 ⟨x,H1,I1,r1,q1⟩=>?_);exact kl (hr pos a s1 b H1 _ I1 q1) λus s2 ⟨xs,H2,I2,r2,q2⟩=>⟨x::xs,H2,I2,.cons r1 r2,q2⟩
def RT(t:TA):TE:=λc H Q=>t c H λa b=>a.length<=sizeLine/\∀p,b p=none->Q (.ref p) (i6 b p (.tup a))
def SR(t:TA):TE:=λc H Q=>t c H λa b=>a.length<=sizeLine/\∀p,b p=none->Q (.ref p) (i6 b p (.lst a))
def KH{x1}(h:PA X es t):PE X (.Tuple es x1 pos) (RT t):=by intro c s d H Q I a;refine wpAny_Tuple_spliced (kl (h pos c s d H _ I a) λus s1 ⟨xs,H1,I1,r,z,q⟩=>⟨by rw[<-r.length];exact z,?_⟩);have f:=I1.hok.fresh (aL _);refine⟨.ref s1.heap.objs.size,i6 H1 s1.heap.objs.size (.tup xs),I1.laid (λb u e=>ae _ e) (aL _) ?_,rfl,q _ f⟩;exact⟨z,us,r,⟨_,ar _ rfl,rfl,_,rfl,rfl⟩⟩
def TM(h:PA X es t):PE X (.List es pos) (SR t):=by intro c s d H Q I a;refine wpAny_List_spliced (kl (h pos c s d H _ I a) λus s1 ⟨xs,H1,I1,r,z,q⟩=>⟨by rw[<-r.length];exact z,?_⟩);have f:=I1.hok.fresh (aL _);refine⟨.ref s1.heap.objs.size,i6 H1 s1.heap.objs.size (.lst xs),I1.laid (λb u e=>ae _ e) (aL _) ?_,rfl,q _ f⟩;exact⟨z,us,0,r,ar _ rfl⟩
end
abbrev Sp:=List V->Hp->VK->XK->Prop
abbrev Q6:=List Env->Hp->Shared->XK->Value->Shared->Prop
structure yX(P:Program)(w:World)(K:W.Frag)(mg:Str->Option Value)(base:Heap)(A:Around)(outer:List Env)(s:Shared)(H:Hp):Prop where
 frames:A.frames=some outer
 mod:Mod K mg base
 bs:∀b o,base.get? b=some o->s.heap.get? b=some o/\H b=none
 bsz:base.objs.size<=s.heap.objs.size
 funs:s.heap.FunFrames base outer
 frf:∀b∈HD outer,H b=none
 hok:qH P w H s.heap
 bare:AllBare s.gens
 tab:HF base H
def CE(a:List Env)(P:Program)(w:World)(H:Hp)(s:Shared)(Q:VK)(u:Value)(b:Shared):Prop:=∃v c,b.os=s.os/\AllBare b.gens/\Un (HD a) [] H c s.heap b.heap/\qH P w c b.heap/\i9 v u/\Q v c
def CR(c:Q6)(a:List Env)(P:Program)(w:World)(H:Hp)(s:Shared)(Q:VK)(E:XK)(r:Result)(b:Shared):Prop:=
 match r with
 |.ok (.ret u)=>CE a P w H s Q u b
 |.ok _=>False
 |.error e=>c a H s E e b
structure nQ(P:Program)(w:World)(K:W.Frag)(mg:Str->Option Value)(base:Heap)(CX:Q6)(k:Nat)(f:Addr)(fd:FuncData)(ps:List Str)(sp:Sp):Prop where
 len:∀vs H Q E,sp vs H Q E->vs.length=ps.length
 run:∀(A:Around) (outer:List Env) (s:Shared) (H:Hp) (args:Args) (us:List Value) (vs:List V) (Q:VK) (E:XK),je k A->yX P w K mg base A outer s H->BindsTo s fd args (ps.zip us)->iL vs us->sp vs H Q E->
  codeAny (model P w) A (.call (.ref f) args) (CR CX outer P w H s Q E) s
def nQ.mono{K:W.Frag}(F:nQ P w K mg base CX j f fd ps sp)(h:j<=k) :
  nQ P w K mg base CX k f fd ps sp:=⟨F.len,λA a s H b c d Q E hr=>F.run A a s H b c d Q E (hr.mono h)⟩
def nQ.imp{K:W.Frag}(F:nQ P w K mg base CX k f fd ps sp)
  (h:∀vs H Q E,sp' vs H Q E->sp vs H Q E):nQ P w K mg base CX k f fd ps sp':=
 ⟨λvs H Q E q=>F.len vs H Q E (h _ _ _ _ q),λA a s H b c vs Q E hr d e hv g=>F.run A a s H b c vs Q E hr d e hv (h _ _ _ _ g)⟩
def yX.make{K:W.Frag}(e:yX P w K mg base A outer s H) C us kw :
  yX P w K mg base (A.under (.builtin "type.__call__" ⟨.ref C::us,kw⟩)) outer s H:=⟨by first|exact e.frames|(simpa[Around.under,Code.envs,Code.isFrame,pushEnvs] using e.frames),e.mod,e.bs,e.bsz,e.funs,e.frf,e.hok,e.bare,e.tab⟩
def yX.in1{K:W.Frag}(e:yX P w K mg base A outer s H) :
  yX P w K mg base A.in1 outer s H:=⟨e.frames,e.mod,e.bs,e.bsz,e.funs,e.frf,e.hok,e.bare,e.tab⟩
section
variable {X:Cx}{gQ:List (Addr×Obj)}{σ:St}{H:Hp}{s s':Shared}
def iq.env0(I:iq X gQ σ H s):yX X.prog X.w X.K X.mg X.base X.A X.stack s H:=⟨I.ok.frames,I.ok.mod,I.bs,aO I.ok.bsz I.sz,I.stack,I.stkFree,I.hok,I.bare,I.tab⟩
def iq.after(I:iq X gQ σ H s)(h:CE X.stack X.prog X.w H s Q u s'):EP X gQ σ Q u s':=by obtain⟨v,f,i,a,un,e,r,q⟩:=h;obtain⟨j,g,d,t,c⟩:=s';obtain rfl:c=s.os:=i;exact⟨v,f,I.call un e a (λb z=>absurd z (by simp)),r,q⟩
end
def A3(c:Sp)(a:List V)(E:XK)(t:TA):TE:=λe H Q=>t e H λd b=>c (d++a) b Q E
def uh(C:Addr)(m:Str)(e:Sp)(b:List V)(E:XK)(f:TE)(t:TA):TE:=λd H Q=>f d H λx c=>∃a g fs,x=.ref a/\c a=some (.ins C g fs)/\fs.lookup m=none/\
 t d c λh i=>e (x::(h++b)) i Q E
def G7(C:Addr)(d:Sp)(c:List V)(E:XK)(t:TA):TE:=λf H Q=>t f H λe b=>∀x a,b x=none->b a=none->a≠x->
 d (.ref x::(e++c)) (i6 (i6 b a (.own x)) x (.ins C a [])) (λv g=>v=.non/\Q (.ref x) g) E
def qJ(K:W.Frag)(fd:FuncData)(b:List Str)(c:List Value):Prop:=∀(s:Shared) (a:List Value),K.In s.heap->(a++c).length=b.length->BindsTo s fd ⟨a,[]⟩ (b.zip (a++c))
def qJ.all{K:W.Frag}(h:∀us:List Value,us.length=ps.length->bindArgs fd ⟨us,[]⟩=pure (ps.zip us)):qJ K fd ps []:=λs us _ a=>by rw[bL]at a ⊢;exact .of_eq (h us a)
def tF(c:Q6)(X:Cx)(E:XK):Prop:=∀(b:List (Addr×Obj)) (d:St) (H:Hp) (s:Shared) (e:Value) (a:Shared),iq X b d H s->c X.stack H s E e a->X.xe e a
section
variable {X:Cx}{CX:Q6}{k:Nat}{f C:Addr}{fd:FuncData}{ps:List Str}{sp:Sp}{dvs:List V}{ds:List Value}{E:XK}{x m:Str}{p pos apos:Pos}{e o:Expr}{es:List Expr}{ta:TE}{t:TA}
theorem Gb(F:nQ X.prog X.w X.K X.mg X.base CX k f fd ps sp)(hr:je k X.A)(d:qJ X.K fd ps ds)(i:iL dvs ds)(g:tF CX X E)
  (I:iq X gQ σ H s) (r:iL vs us) (h:sp (vs++dvs) H Q E):wpAny (model X.prog X.w) X.A (call (.ref f) us) (EP X gQ σ Q) X.xe s:=by
 have b:=r.append i;have j:(us++ds).length=ps.length:=by rw[<-b.length];exact F.len _ _ _ _ h
 refine wpAny_call (codeAny_mono (F.run X.A X.stack s H ⟨us,[]⟩ (us++ds) (vs++dvs) Q E hr I.env0 (d s us I.kIn j) b h) λr c a=>?_);cases r with
 |error e=>exact g gQ σ H s e c I a
 |ok fl=>
  cases fl with
  |ret u=>exact I.after a
  |next=>exact False.elim a
  |brk=>exact False.elim a
  |cont=>exact False.elim a
def Pa(F:nQ X.prog X.w X.K X.mg X.base CX k f fd ps sp)(hr:je k X.A)(y:Gl X x)(d:X.mg x=some (.ref f))(g:W.keepIn X.K (.ref f)=true)(j:qJ X.K fd ps ds)(l:iL dvs ds)(c:tF CX X E)
  (n:PA X (e::es) t) (a:(x==("__debug__" : Str))=false:=by decide) (u:starEach (e::es) X.env=(false,eval e X.env)::starEach es X.env:=by rfl) (b:(backTo pos (starEach es X.env)).any (·.1)=false:=by rfl) :
  PE X (.Call (.Name x p) (e::es) [] pos) (A3 sp dvs E t):=by
 intro v s i H Q I h;refine wpAny_Call_Name_kw (Cm I y d ?_ a);refine W.callWith_K I.ok.mod.kin g (kl (n pos v s i H _ I h) λus s1 ⟨vs,H1,I1,r,q⟩=>⟨I1.kIn,?_⟩) u b;exact Gb F hr j l c I1 r q
def PJ(B:PE X o ta)(c:zD X.K C)(g:JW X.K C m f)(F:nQ X.prog X.w X.K X.mg X.base CX k f fd ps sp)(hr:je k X.A)(y:qJ X.K fd ps ds)(z:iL dvs ds)(n:tF CX X E)(D:PA X (e::es) t)
  (b:starEach (e::es) X.env=(false,eval e X.env)::starEach es X.env:=by rfl) (d:(backTo pos (starEach es X.env)).any (·.1)=false:=by rfl)
  (v:eval (.Call (.Attribute o m apos) (e::es) [] pos) X.env=(do
   let ov <-eval o X.env
   standAt apos.atName
   let (f,first) <-holding [ov] (getMethod ov m pl)
   callWith pos f first (backTo pos (starEach (e::es) X.env)) (backToKw pos (keywordEach [] X.env))):=by rfl) :
  PE X (.Call (.Attribute o m apos) (e::es) [] pos) (uh C m sp dvs E ta t):=by
 intro j s i H Q I h;refine W.methodCall_KW (kl (B j s i H _ I h) λu s1 ⟨x,H1,I1,rx,a,dx,fs,ex,ea,l,q⟩=>?_) v;subst ex;obtain rfl:u=Value.ref a:=rx;refine xN I1 ea c g l ?_;refine W.callWith_K I.ok.mod.kin g.kp (kl (D pos j s1 i H1 _ I1 q) λus s2 ⟨vs,H2,I2,r,q2⟩=>⟨I2.kIn,?_⟩) b d;exact Gb (vs:=.ref a::vs) F hr y z n I2 (.cons rfl r) q2
def LQ(d:PE X o ta)(c:zD X.K C)(b:JW X.K C m f)(F:nQ X.prog X.w X.K X.mg X.base CX k f fd ps sp)(hr:je k X.A)(g:qJ X.K fd ps ds)(n:iL dvs ds)(i:tF CX X E)
  (r:eval (.Call (.Attribute o m apos) [] [] pos) X.env=(do
   let ov <-eval o X.env
   standAt apos.atName
   let (f,first) <-holding [ov] (getMethod ov m pl)
   callWith pos f first (backTo pos (starEach [] X.env)) (backToKw pos (keywordEach [] X.env))):=by rfl) :
  PE X (.Call (.Attribute o m apos) [] [] pos) (uh C m sp dvs E ta v7):=by
 intro j s v H Q I h;refine W.methodCall_KW (kl (d j s v H _ I h) λu s1 ⟨x,H1,I1,rx,a,dx,fs,ex,ea,l,q⟩=>?_) r;subst ex;obtain rfl:u=Value.ref a:=rx;refine xN I1 ea c b l ?_;exact W.callWith_K0 I1.kIn b.kp (Gb (vs:=[.ref a]) F hr g n i I1 (.cons rfl .nil) q)
structure Mk(K:W.Frag)(C f:Addr):Prop where
 makes:W.makesIn K C=true
 init:W.findIn K (.ref C) "__init__" = some (some (.ref f))
 fn:W.isFn K (.ref f)=true
 kp:W.keepIn K (.ref C)=true
theorem M8(M:Mk X.K C f)(F:nQ X.prog X.w X.K X.mg X.base CX k f fd ps sp)(hr:je (k+1) X.A)(q:qJ X.K fd ps ds)(y:iL dvs ds)
  (i:tF CX X E) (I:iq X gQ σ H s) (r:iL vs us)
  (h:∀x dx,H x=none->H dx=none->dx≠x->sp (.ref x::(vs++dvs)) (i6 (i6 H dx (.own x)) x (.ins C dx [])) (λv l=>v=.non/\Q (.ref x) l) E) :
  wpAny (model X.prog X.w) X.A (call (.ref C) us) (EP X gQ σ Q) X.xe s:=by
 have c:=h (s.heap.objs.size+1) s.heap.objs.size (I.hok.fresh (bM _)) (I.hok.fresh (aL _)) (aN (bJ _));have b:=iq.made (C:=C) I;have d:iL (V.ref (s.heap.objs.size+1)::(vs++dvs)) (Value.ref (s.heap.objs.size+1)::(us++ds)):=.cons rfl (r.append y);have n:(Value.ref (s.heap.objs.size+1)::us++ds).length=ps.length:=by have e:=d.length;rw[F.len _ _ _ _ c]at e;exact e.symm
 refine wpAny_call (Ny I.kIn M.makes M.init (beq_iff_eq.mp M.fn) (codeAny_mono (F.run _ X.stack _ _ ⟨Value.ref (s.heap.objs.size+1)::us,[]⟩ (Value.ref (s.heap.objs.size+1)::(us++ds)) _ _ E (hr.make C us [])
  (b.env0.make C us []) (q _ (Value.ref (s.heap.objs.size+1)::us) b.kIn n) d c) λr z a=>?_))
 cases r with
 |error e=>exact i gQ σ _ _ e z b a
 |ok fl=>
  cases fl with
  |ret u=>obtain⟨v,g,J,D,j,B⟩:=b.after a;subst j;exact⟨D,⟨V.ref (s.heap.objs.size+1),g,J,rfl,B⟩⟩
  |next=>exact False.elim a
  |brk=>exact False.elim a
  |cont=>exact False.elim a
def PL(M:Mk X.K C f)(F:nQ X.prog X.w X.K X.mg X.base CX k f fd ps sp)(hr:je (k+1) X.A)(v:Gl X x)(d:X.mg x=some (.ref C))(i:qJ X.K fd ps ds)(j:iL dvs ds)(c:tF CX X E)
  (l:PA X (e::es) t) (a:(x==("__debug__" : Str))=false:=by decide) (n:starEach (e::es) X.env=(false,eval e X.env)::starEach es X.env:=by rfl) (b:(backTo pos (starEach es X.env)).any (·.1)=false:=by rfl) :
  PE X (.Call (.Name x p) (e::es) [] pos) (G7 C sp dvs E t):=by
 intro u s g H Q I h;refine wpAny_Call_Name_kw (Cm I v d ?_ a);refine W.callWith_K I.ok.mod.kin M.kp (kl (l pos u s g H _ I h) λus s1 ⟨vs,H1,I1,r,q⟩=>⟨I1.kIn,?_⟩) n b;exact M8 M F hr i j c I1 r q
end
structure ji(N P:List Str)(sc:Scope):Prop where
 kind:sc.kind=.function
 co:sc.isCoroutine=false
 gen:sc.isGenerator=false
 nd:N.Nodup
 pre:N.take P.length=P
 par:∀x∈P,sc.names.lookup x=some .local\/sc.names.lookup x=some .cell
 nofree:∀y∈sc.names,y.2≠.free
theorem AU{kindOf:Str->Option NameKind}:∀{binds} {m},(∀v,(x,v)∉binds)->bindL kindOf binds m x=m x
 |[],_,_=>rfl
 | (n,v)::r,m,h=>by
  unfold bindL;rw[AU λw hw=>h w (bx _ hw)];split
  .have:x≠n:=by rintro rfl;exact h v bt
   simp[this]
  .rfl
theorem AS{kindOf:Str->Option NameKind}:∀{binds} {m},(∀v,(x,v)∉binds)->bindC kindOf binds m x=m x
 |[],_,_=>rfl
 | (n,v)::r,m,h=>by
  unfold bindC;rw[AS λw hw=>h w (bx _ hw)];split
  .rfl
  .have:x≠n:=by rintro rfl;exact h v bt
   simp[this]
theorem zZ{kindOf:Str->Option NameKind}:∀{P:List Str} {vs:List Value} {i:Nat} {m:Str->Option Value},P.Nodup->P[i]? = some x->vs[i]? = some v->kindOf x=some .local->
  bindL kindOf (P.zip vs) m x=some v
 |[],_,_,_,_,h,_,_=>by simp at h
 |_::_,[],_,_,_,_,h,_=>by simp at h
 |p::P,w::vs,0,m,nd,h1,h2,hk=>by simp at h1 h2;subst h1;subst h2;show bindL kindOf ((p,w)::P.zip vs) m p=_;unfold bindL;rw[AU λv hv=>(bN.mp nd).1 (aX hv).1,aR hk];simp
 |p::P,w::vs,i+1,m,nd,h1,h2,hk=>by unfold bindL;exact zZ (bN.mp nd).2 (by simpa using h1) (by simpa using h2) hk
theorem Ac{kindOf:Str->Option NameKind}:∀{P:List Str} {vs:List Value} {i:Nat} {m:Str->Option Value},P.Nodup->P[i]? = some x->vs[i]? = some v->kindOf x≠some .local->
  bindC kindOf (P.zip vs) m x=some v
 |[],_,_,_,_,h,_,_=>by simp at h
 |_::_,[],_,_,_,_,h,_=>by simp at h
 |p::P,w::vs,0,m,nd,h1,h2,hk=>by simp at h1 h2;subst h1;subst h2;show bindC kindOf ((p,w)::P.zip vs) m p=_;unfold bindC;rw[AS λv hv=>(bN.mp nd).1 (aX hv).1,aS hk];simp
 |p::P,w::vs,i+1,m,nd,h1,h2,hk=>by unfold bindC;exact Ac (bN.mp nd).2 (by simpa using h1) (by simpa using h2) hk
noncomputable def lV(N:List Str)(vs:List V):St:=vs.map some++List.replicate (N.length-vs.length) none
noncomputable def ou(g:Q6)(P:Program)(w:World)(K:W.Frag)(mg:Str->Option Value)(base:Heap)(N:List Str)(b:Str)(a:Scope)(f:Addr)(d:Value)(A:Around)(outer:List Env)(s:Shared)(H:Hp)(E:XK):Cx where
 prog:=P
 w:=w
 K:=K
 mg:=mg
 base:=base
 A:=A.deeper (envOfC b a s.heap.objs.size f d)
 N:=N
 s₀:=s
 H₀:=H
 env:=envOfC b a s.heap.objs.size f d
 outer:=outer
 stack:=envOfC b a s.heap.objs.size f d::outer
 ex:=[]
 calm:=true
 fn:=λ_=>true
 pn:=[]
 xe:=λe i=>wpAny (model P w) (A.deeper (envOfC b a s.heap.objs.size f d)) (leaving (envOfC b a s.heap.objs.size f d) e) (λ_ c=>g outer H s E e c) (λh c=>g outer H s E h c) i
def m8{a:Scope}(h:a.names.lookup x=some .cell):∃c,(cellsFrom n a.names []).lookup x=some c:=by have q:=W.cellsFrom_some a.names n [] (.inl h);exact bO.mp q
theorem AF{K:W.Frag}
  (S:ji N ps scope) (F:A.handled=none) (g:yX P w K mg base A outer s H) (R:vs.length=ps.length) (r:iL vs us)
  (x:InCallC s s.heap.objs.size (bindL (envOfC qual scope s.heap.objs.size f cd).kindOf (ps.zip us) λ_=>none) (cellsFrom (s.heap.objs.size+1) scope.names []) (bindC (envOfC qual scope s.heap.objs.size f cd).kindOf (ps.zip us) λ_=>none) s1) :
  iq (ou CX P w K mg base N qual scope f cd A outer s H E) [] (lV N vs) H s1:=by
 have J:ps.length<=N.length:=by have:=congrArg List.length S.pre;rw[bQ]at this;omega
 obtain⟨B,Q,rfl,C⟩:=x.done;have j:∀b:Addr,b∉(ou CX P w K mg base N qual scope f cd A outer s H E).ex:=λb z=>absurd (show b∈([]) from z) (by simp);refine⟨⟨g.mod,S.kind,rfl,rfl,aL _,λy z c B d=>?_,λy l=>?_,λy c _ h=>?_,λ_=>F,Around.frames_deeper g.frames,.inr ⟨rfl,rfl⟩,λb z=>absurd z (j b),g.bs,g.bsz,λb _ _=>j b,λb z=>absurd z (j b),g.funs,g.frf,g.tab⟩,
  rfl,g.bare,Un.kept C,⟨_,x.toInCall.ns,λi y v B d U=>?_⟩,λy c h=>⟨_,x.cell y c h⟩,g.hok.fresh (aL _),λy c h=>?_,λp n=>absurd (show p∈([]) from n) (by simp),g.hok.kept C,?_⟩
 .exact name_of_addr x.apart (PySem.mem_of_lookup B) (PySem.mem_of_lookup d)
 .have l:=l;rcases l with l|l
  .exact m8 l
  .exact absurd rfl (S.nofree _ (PySem.mem_of_lookup l))
 .exact bh (x.above y c (PySem.mem_of_lookup h))
 .have o:i<vs.length:=by
   unfold lV at d;by_cases o:i<vs.length
   .exact o
   .rw[List.getElem?_append_right (by simpa using o)]at d;rw[List.getElem?_replicate]at d;split at d<;>cases d
  have I:vs[i]? = some v:=by
   unfold lV at d;rw[List.getElem?_append_left (by simpa using o),aw]at d;cases e:vs[i]? with
   |none=>rw[e]at d;cases d
   |some a=>rw[e]at d;cases d;rfl
  obtain⟨u,D,L⟩:=r.get I;have n:ps[i]? = some y:=by rw[<-S.pre,List.getElem?_take_of_lt (by omega)];exact B
  have m:ps.Nodup:=by rw[<-S.pre];exact S.nd.sublist (List.take_sublist _ _)
  refine⟨u,L,?_⟩;rcases S.par y (au n) with k|k
  .exact .inl ⟨k,zZ m n D k⟩
  .obtain⟨c,e⟩:=m8 k;refine .inr ⟨.inl k,c,e,?_⟩;have q:=x.cell y c e;rw[Ac m n D (by show scope.names.lookup y≠_;rw[k];decide)]at q;exact q
 .exact g.hok.fresh (bh (x.above y c (PySem.mem_of_lookup h)))
 .unfold lV;show _=N.length;rw[aU,ax,bR];omega
theorem Re{K:W.Frag}{R kV B Z c ct oc:Value}(lk:K.lookup f=some ⟨oc,od,.func (W.fnOf name qual params body scope R kV B Z an c ct),osl⟩)(C:W.codeIn K c qual=true)(S:ji N ps scope)
  (m:∀vs H Q E,sp vs H Q E->vs.length=ps.length)
  (h:∀A a s H vs Q E,je k (A.deeper (envOfC qual scope s.heap.objs.size f c))->sp vs H Q E->
   ∃t,BU (ou CX P w K mg base N qual scope f c A a s H E) body t/\t {nx:=λ_ g=>Q .non g,rt:=Q} (lV N vs) H) :
  nQ P w K mg base CX (k+1) f (W.fnOf name qual params body scope R kV B Z an c ct) ps sp:=by
 refine⟨m,λA a s H X us vs Q E hr z hb r p=>?_⟩;have hl:=m _ _ _ _ p;have Y:=z.mod.kin.keeps λb o e=>(z.bs b o e).1;have D:=z.mod.nolimit.keeps λb o e=>(z.bs b o e).1;have i:∀y∈ps.zip us,scope.names.lookup y.1=some .local\/(scope.names.lookup y.1=some .cell/\((cellsFrom (s.heap.objs.size+1) scope.names []).lookup y.1).isSome=true):=λ⟨n,v⟩ hy=>by
  rcases S.par n (aX hy).1 with q|q
  .exact .inl q
  .exact .inr ⟨q,W.cellsFrom_some _ _ _ (.inl q)⟩
 refine codeAny_call_function hr.depth (Y _ _ lk) rfl S.co S.gen rfl (W.codeRec_of Y C) (hb _ _ _ _ ?_);refine wpAny_newFunctionEnv_cells S.kind i λenv he U x=>?_;subst he;refine⟨D.keeps x.toInCall.keep,codeAny_func ?_⟩;obtain⟨t,ht,hq⟩:=h A a s H vs Q E (hr.deeper _) p;have I:iq (ou CX P w K mg base N qual scope f c A a s H E) [] (lV N vs) H U:=AF S hr.hd z hl r x;refine wpAny_mono (ht [] U (lV N vs) H _ I hq) (λfl F j=>?_) λe F j=>j;have l:∀{d:St} {g:Hp} {v:V} {u:Value},iq (ou CX P w K mg base N qual scope f c A a s H E) [] d g F->i9 v u->Q v g->CE a P w H s Q u F:=λ{d g v u} J L q=>⟨v,g,J.os,J.bare,J.base,J.hok,L,q⟩
 cases fl with
 |ret u=>obtain⟨v,d,g,J,L,q⟩:=j;exact l J L q
 |next=>obtain⟨d,g,J,q⟩:=j;exact l (v:=V.non) J rfl q
 |brk=>obtain⟨_,_,_,q⟩:=j;exact False.elim q
 |cont=>obtain⟨_,_,_,q⟩:=j;exact False.elim q
end L2
namespace L2
open PySem PySem.Spec PyProof.Rows
section
variable {X:Cx}{x:Str}{p pos:Pos}{e:Expr}{es:List Expr}{t:TA}{id T:String}{r:List V->Hp->VK->Prop}
def NJ(r:List V->Hp->VK->Prop)(t:TA):TE:=λb H Q=>t b H λc a=>r c a Q
def DW(l:lO X (.builtin id) r)(k:Gl X x)(j:X.mg x=none)(hv:bootBuiltins x=some (.builtin id))(g:PA X (e::es) t)(f:x≠ "__name__" :=by decide)(b:(x==("__debug__" : Str))=false:=by decide)
  (i:starEach (e::es) X.env=(false,eval e X.env)::starEach es X.env:=by rfl) (a:(backTo pos (starEach es X.env)).any (·.1)=false:=by rfl):PE X (.Call (.Name x p) (e::es) [] pos) (NJ r t):=by
 intro c s d H Q I h;refine wpAny_Call_Name_kw (tK I k j hv ?_ f b);exact PyProof.Rows.callWith_builtin1 (kl (g pos c s d H _ I h) λus s1 ⟨vs,H1,I1,r1,q1⟩=>l c s1 d H1 vs us Q I1 r1 q1) i a
def vT(l:lO X (.type T) r)(k:Gl X x)(j:X.mg x=none)(hv:bootBuiltins x=some (.type T))(g:PA X (e::es) t)(f:x≠ "__name__" :=by decide)(b:(x==("__debug__" : Str))=false:=by decide)
  (i:starEach (e::es) X.env=(false,eval e X.env)::starEach es X.env:=by rfl) (a:(backTo pos (starEach es X.env)).any (·.1)=false:=by rfl):PE X (.Call (.Name x p) (e::es) [] pos) (NJ r t):=by
 intro c s d H Q I h;refine wpAny_Call_Name_kw (tK I k j hv ?_ f b);exact PyProof.Rows.callWith_type1 (kl (g pos c s d H _ I h) λus s1 ⟨vs,H1,I1,r1,q1⟩=>l c s1 d H1 vs us Q I1 r1 q1) i a
end
end L2
namespace HT
open PySem PyProof.Rows
section
variable {prog:Program}{w:World}{A:Around}{E:Value->Shared->Prop}{s:Shared}
def cat_tup(q:IsTup s.heap t vs.toArray)(r:IsTup s.heap b ws.toArray)(hv:vs≠[])
  (v:ws=[]->Q (.ref t) s) (u:ws≠[]->Q (.ref s.heap.objs.size) {s with heap:=s.heap.push {cls:=.type "tuple",data:=.seq (vs++ws).toArray}})
  (hsz:vs.length+ws.length<=sizeLine):wpAny (model prog w) A (binaryOp .Add (.ref t) (.ref b)) Q E s:=by
 obtain⟨⟨cls,k,data,l⟩,h,p,n,o⟩:=id q;obtain⟨⟨m,c,i,d⟩,a,f,j,g⟩:=id r;simp only at p o f g;subst p o f g;have e:vs.toArray++ws.toArray=(vs++ws).toArray:=by simp
 by_cases hw:ws=[]
 .exact concat_meets ⟨_,h,rfl⟩ ⟨_,a,rfl⟩ noFill_tuple_add seq_tuple_add PySem.F.slot_tuple_add PySem.F.entry_tuple_add (PySem.F.args_tuple_add_2 _ _)
   (tuple_addW1 t b vs.toArray ws.toArray n j k c l d (by simpa using hv) (by simp[hw])) ⟨h,a,v hw⟩
 .refine concat_meets ⟨_,h,rfl⟩ ⟨_,a,rfl⟩ noFill_tuple_add seq_tuple_add PySem.F.slot_tuple_add PySem.F.entry_tuple_add (PySem.F.args_tuple_add_2 _ _)
   (tuple_addW2 t b vs.toArray ws.toArray n j k c l d (by simpa using hv) (by simpa using hw) (by rw[bF,bF];exact hsz)) ⟨h,a,?_⟩
  rw[e];exact u hw
noncomputable def sIx(n d:Nat):Option Int->Nat
 |none=>d
 |some v=>if v<0 then (v+(n:Int)).toNat else min v.toNat n
def sIx_none n d:sIx n d none=d:=rfl
def sIx_nat(n d k:Nat):sIx n d (some (k:Int))=min k n:=by show (if k<0 then (k+(n:Int)).toNat else min (k:Int).toNat n)=min k n;rw[aS (by omega),bS]
def GQ v (n d:Nat):(if v<0 then max (v+(n:Int)) 0 else min v (n:Int))=((sIx n d (some v):Nat):Int):=by
 show (if v<0 then max (v+n) 0 else min v n)=(((if v<0 then (v+n).toNat else min v.toNat n):Nat):Int);by_cases hv:v<0
 .simp only[aR hv];omega
 .simp only[aS hv];omega
def FV lo a (n:Nat):Builtin.Slice.sliceAdjust lo a 1 (n:Int)=(((sIx n 0 lo:Nat):Int),((sIx n n a:Nat):Int)):=by
 have b:¬(1<0):=by omega
 unfold Builtin.Slice.sliceAdjust;simp only[b,if_false];refine Prod.ext ?_ ?_
 .cases lo with
  |none=>rfl
  |some v=>exact GQ v n 0
 .cases a with
  |none=>rfl
  |some v=>exact GQ v n n
def ET(i j:Nat):Builtin.Slice.slicePlaces (i:Int) (j:Int) 1=j-i:=by
 unfold Builtin.Slice.slicePlaces;have a:1>0:=by omega
 simp only[a,if_true,Int.ediv_one];split<;>omega
def yn(p:IsPart v o)(h:Q o s):wpAny (model prog w) A (Builtin.Slice.slicePartIndex v) Q E s:=by
 cases p with
 |none=>exact slicePart_none h
 |int i t=>exact slicePart_int h
def qf{a c:Option Int}{n:Nat}(i:s.heap.IsSliceOf sl vl vu .none)(f:IsPart vl a)(g:IsPart vu c)
  (h:Q (((sIx n 0 a:Nat):Int),1,sIx n n c-sIx n 0 a) s):wpAny (model prog w) A (Builtin.Slice.sliceApplied (.ref sl) (pure (n:Int))) Q E s:=by
 obtain⟨j,d,e,b⟩:=id i;unfold Builtin.Slice.sliceApplied Builtin.Slice.sliceFields;refine ao (ao (wpAny_field d b rfl (ao (wpAny_field d b rfl (ao (wpAny_field d b rfl (ak ?_)))))));refine ao (slicePart_none ?_);rw[aS (by decide)];refine ao (yn f (ao (yn g (ao (ak ?_)))));show wpAny _ _ (match Builtin.Slice.sliceAdjust a c 1 n with|(a,c)=>pure (a,(1:Int),Builtin.Slice.slicePlaces a c 1)) _ _ s;rw[FV a c n];show wpAny _ _ (pure (((sIx n 0 a):Int),1,Builtin.Slice.slicePlaces ((sIx n 0 a):Int) ((sIx n n c):Int) 1)) _ _ s;rw[ET];exact ak h
def Mg(xs:Array Value)(i k:Nat):((List.range k).filterMap λ(m:Nat)=>xs[((i:Int)+(m:Int)*1).toNat]?).toArray=((xs.toList.drop i).take k).toArray:=by
 have e:(λ(m:Nat)=>xs[(i+(m:Int)*1).toNat]?)=λm=>xs[i+m]?:=by
  funext m;have:(i+(m:Int)*1).toNat=i+m:=by omega
  rw[this]
 rw[e];have:=pick_run xs i k;rw[List.filterMap_map]at this;have a:((λx=>xs[x]?) ∘ λx=>i+x)=λm=>xs[i+m]?:=rfl;rw[a]at this;rw[this]
theorem getItem_tuple_cut{a b:Option Int}(c:IsTup s.heap t items)(j:s.heap.IsSliceOf sl vl vu .none)(k:IsPart vl a)(n:IsPart vu b)
  (hw:¬(sIx items.size 0 a=0/\sIx items.size items.size b=items.size))
  (h:Q (.ref s.heap.objs.size) {s with heap:=s.heap.push {cls:=.type "tuple",data:=.seq ((items.toList.drop (sIx items.size 0 a)).take (sIx items.size items.size b-sIx items.size 0 a)).toArray}})
  (hsz:items.size<=sizeLine):wpAny (model prog w) A (getItem (.ref t) (.ref sl)) Q E s:=by
 have d:sizeOk (.seq ((items.toList.drop (sIx items.size 0 a)).take (sIx items.size items.size b-sIx items.size 0 a)).toArray):=by show ((items.toList.drop (sIx items.size 0 a)).take (sIx items.size items.size b-sIx items.size 0 a)).toArray.size<=sizeLine;rw[bF,bQ,bT,bA];omega
 obtain⟨m,g,i,l⟩:=id j;have f:s.TypeIs (.ref sl) "slice" :=⟨m,g,i⟩;unfold getItem;try with_reducible refine wpAny_holding ?_;first|refine ao (ak ?_)|skip
 refine ao (wpAny_sequenceKey c.typeIs (by decide) ?_);refine ao (wpAny_callSpecial?_slot c.typeIs PyProof.Rows.slot_tuple_getitem
  (wpAny_call_entry PyProof.Rows.slot_tuple_getitem c.typeIs entry_tuple_getitem ?_ (args_tuple_getitem _ _)))
 show wpAny _ _ (Builtin.Tuple.tupleItemsOf (.ref t) >>= _) _ _ s;refine ao (tupleItemsOf_ c ?_);refine ao (wpAny_typeOf f ?_);rw[aR (by decide)];refine ao (qf j k n ?_);have e:¬((((sIx items.size 0 a):Int)==0&&(1:Int)==1&&(sIx items.size items.size b-sIx items.size 0 a)==items.size)=true):=by intro q;rw[bU,bU]at q;have p:=eq_of_beq q.1.1;have o:=eq_of_beq q.2;exact hw ⟨by omega,by omega⟩
 show wpAny _ _ (if (((sIx items.size 0 a):Int)==0&&1==1&&(sIx items.size items.size b-sIx items.size 0 a)==items.size)=true then _ else _) _ _ s;rw[aS e,Mg];first
  |exact ao (wpAny_newObj_type (ak ⟨_,rfl,ak h⟩) d)
  |exact ao (wpAny_newObj_type (ao (ak (ak ⟨_,rfl,ak h⟩))) d)
  |exact ao (ao (wpAny_newObj_type (ak (ak ⟨_,rfl,ak h⟩)) d))
  |exact ao (ao (wpAny_newObj_type (ak ⟨_,rfl,ak h⟩) d))
end
end HT
namespace L2
open PySem PySem.Spec PyProof.Rows
abbrev TO:=St->Hp->(Option Int->Hp->Prop)->Prop
def PO(X:Cx)(e:Option Expr)(t:TO):Prop:=
 ∀(b:List (Addr×Obj)) (s:Shared) (a:St) (H:Hp) (Q:Option Int->Hp->Prop),iq X b a H s->t a H Q->
  wpAny (model X.prog X.w) X.A (evalPart e X.env) (λu d=>∃o c,iq X b a c d/\IsPart u o/\Q o c) X.xe s
def G5:TO:=λ_ H Q=>Q none H
def Rf(t:TE):TO:=λb H Q=>t b H λx a=>∃i,x=.int i/\Q (some i) a
section
variable {X:Cx}{e:Expr}{te:TE}{lo hi:Option Expr}{tl th:TO}{pos p2:Pos}
def QC:PO X none G5:=by intro a s b H Q I h;rw[evalPart_none];exact ak ⟨none,H,I,.none,h⟩
def Og(h:PE X e te):PO X (some e) (Rf te):=by intro a s b H Q I hw;rw[evalPart_some];refine kl (h a s b H _ I hw) λu s1 ⟨x,H1,I1,r1,q1⟩=>?_;obtain⟨i,rfl,q⟩:=q1;obtain⟨t,rfl⟩:=r1;exact⟨some i,H1,I1,.int i t,q⟩
def Rb(X:Cx)(r:V->Option Int->Option Int->Hp->VK->Prop):Prop:=
 ∀(b:List (Addr×Obj)) (s:Shared) (f:St) (H:Hp) (x:V) (v a d:Value) (lo hi:Option Int) (c:Addr) (Q:VK),iq X b f H s->i9 x v->s.heap.IsSliceOf c a d .none->IsPart a lo->IsPart d hi->r x lo hi H Q->
  ∃T id,typeLookup (.type T) "__getitem__" = pure (some (.builtin id))/\s.TypeIs v T/\wpAny (model X.prog X.w) X.A (getItem v (.ref c)) (EP X b f Q) X.xe s
def Rb.or(h:Rb X r)(h':Rb X r'):Rb X (λx lo hi H Q=>r x lo hi H Q\/r' x lo hi H Q):=by
 intro j s f H x v c k lo hi b Q I i a d g q;rcases q with q|q
 .exact h j s f H x v c k lo hi b Q I i a d g q
 .exact h' j s f H x v c k lo hi b Q I i a d g q
def WO(r:V->Option Int->Option Int->Hp->VK->Prop)(te:TE)(tl th:TO):TE:=λa H Q=>te a H λx c=>tl a c λl d=>th a d λu b=>r x l u b Q
def Lm(hr:Rb X r)(k:PE X e te)(g:PO X lo tl)(i:PO X hi th):PE X (.Subscript e (.Slice lo hi none p2) pos) (WO r te tl th):=by intro c s a H Q I h;refine Subscript_ (kl (k c s a H _ I h) λv s1 ⟨x,H1,I1,r1,q1⟩=>?_);refine wpAny_Slice (kl (g c s1 a H1 _ I1 q1) λvl s2 ⟨l,H2,I2,pl,q2⟩=>kl (i c s2 a H2 _ I2 q2) λvu s3 ⟨u,H3,I3,pu,q3⟩=>?_);rw[evalPart_none];refine ak ?_;have d:iq X c a H3 {s3 with heap:=s3.heap.push {cls:=.type "slice",data:=.fields #[vl,vu,.none]}}:=I3.kept λb n q=>ae _ q;obtain⟨T,id,j,f,m⟩:=hr c {s3 with heap:=s3.heap.push {cls:=.type "slice",data:=.fields #[vl,vu,.none]}} a H3 x v vl vu l u s3.heap.objs.size Q d r1 (Heap.IsSliceOf.new ..) pl pu q3;exact tail_any f j m (by with_unfolding_all rfl)
noncomputable def MU(xs:List V)(lo hi:Option Int):List V:=(xs.drop (HT.sIx xs.length 0 lo)).take (HT.sIx xs.length xs.length hi-HT.sIx xs.length 0 lo)
def wy xs lo hi:(MU xs lo hi).length<=xs.length:=by unfold MU;rw[bQ,bT];omega
def Uy(K:W.Frag):V->Option Int->Option Int->Hp->VK->Prop:=λx lo hi H Q=>∃a b,x=.ref a/\nu K H a b/\
 ¬(HT.sIx b.length 0 lo=0/\HT.sIx b.length b.length hi=b.length)/\∀p,H p=none->Q (.ref p) (i6 H p (.tup (MU b lo hi)))
def RX:Rb X (Uy X.K):=by
 intro w s u H x v p z lo hi o Q I n j l m h;obtain⟨a,c,rfl,k,hw,q⟩:=h;cases n;obtain⟨d,r,i,g⟩:=I.tuple k;have f:d.toArray.size=c.length:=by rw[bF];exact r.length.symm
 refine⟨"tuple",_,PyProof.Rows.slot_tuple_getitem.lookup,i.typeIs,?_⟩;refine HT.getItem_tuple_cut i j l m (by rw[f];exact hw) ?_ (by rw[f];exact g);rw[f];refine⟨.ref s.heap.objs.size,_,I.laid (λb y q=>ae _ q) (aL _) ?_,rfl,q _ (I.hok.fresh (aL _))⟩;exact⟨aO (wy c lo hi) g,_,(r.drop (HT.sIx c.length 0 lo)).take (HT.sIx c.length c.length hi-HT.sIx c.length 0 lo),yM.new _ _⟩
def UZ(K:W.Frag):R2:=λx y H Q=>∃a b d c,x=.ref a/\y=.ref b/\nu K H a d/\nu K H b c/\d≠[]/\d.length+c.length<=sizeLine/\
 (c=[]->Q (.ref a) H)/\(c≠[]->∀p,H p=none->Q (.ref p) (i6 H p (.tup (d++c))))
def iL.nil_iff(r:iL xs us):us=[]↔xs=[]:=by
 cases r with
 |nil=>simp
 |cons _ _=>simp
def P4:rK X (binaryOp .Add) (UZ X.K):=by intro D s A H x y v u Q I n m h;obtain⟨a,b,B,C,rfl,rfl,r,l,j,f,p,o⟩:=h;cases n;cases m;obtain⟨i,d,k,_⟩:=I.tuple r;obtain⟨g,c,p2,_⟩:=I.tuple l;refine HT.cat_tup k p2 (λz=>j (d.nil_iff.mp z)) (λz=>⟨.ref a,H,I,rfl,p (c.nil_iff.mp z)⟩) (λz=>?_) (by rw[<-d.length,<-c.length];exact f);refine⟨.ref s.heap.objs.size,_,I.laid (λb E q=>ae _ q) (aL _) ?_,rfl,o (λw=>z (c.nil_iff.mpr w)) _ (I.hok.fresh (aL _))⟩;exact⟨by rw[aU];exact f,_,d.append c,yM.new _ _⟩
end
end L2
namespace L2
open PySem PySem.Spec PyProof.Rows
noncomputable def wL(n:Nat)(i:Int):Option Nat:=if 0<=i then (if i<n then some i.toNat else none) else if -(n:Int)<=i then some (i+n).toNat else none
noncomputable def rV{a:Type}(xs:List a)(i:Int):Option a:=(wL xs.length i).bind λj=>xs[j]?
def Hn(h:wL n i=some j):seqIndex? i n=some j/\j<n/\-(n:Int)<=i/\i<n:=by
 unfold wL at h;by_cases b:0<=i
 .rw[aR b]at h;by_cases a:i<n
  .rw[aR a]at h;have e:=Option.some.inj h;exact⟨by rw[seqIndex_of b a,e],by omega,by omega,a⟩
  .rw[aS a]at h;cases h
 .rw[aS b]at h;by_cases a:-n<=i
  .rw[aR a]at h;have e:=Option.some.inj h;exact⟨by rw[seqIndex_neg (by omega) a,e],by omega,a,by omega⟩
  .rw[aS a]at h;cases h
def B4{xs:List α}{v:α}(h:rV xs i=some v):∃j,seqIndex? i xs.length=some j/\xs[j]? = some v/\j<xs.length/\-(xs.length:Int)<=i/\i<xs.length:=by
 unfold rV at h;cases e:wL xs.length i with
 |none=>rw[e]at h;cases h
 |some j=>rw[e]at h;obtain⟨c,b,a,d⟩:=Hn e;exact⟨j,c,h,b,a,d⟩
def xt{xs:List α}{j:Nat}{v:α}(h:xs[j]? = some v):rV xs (j:Int)=some v:=by
 have a:=(aa.mp h).1;have e:wL xs.length j=some j:=by unfold wL;rw[aR (by omega),aR (by omega)];simp
 unfold rV;rw[e];exact h
def KN xs (v:α):rV (xs++[v]) (-1)=some v:=by
 have a:(xs++[v]).length=xs.length+1:=by simp
 have e:wL (xs++[v]).length (-1)=some xs.length:=by unfold wL;rw[a,aS (by decide),aR (by omega)];congr 1;omega
 unfold rV;rw[e];simp
def Be(b:Expr):Prop:=∀o i,subscripted b false o i=operate [o,i] (getItem o i)
def PM(X:Cx)(r:R2):Prop:=
 ∀(b a:Expr) (c:List (Addr×Obj)) (s:Shared) (d:St) (H:Hp) (x y:V) (v u:Value) (Q:VK),iq X c d H s->i9 x v->i9 y u->r x y H Q->
  subscripted a false v u=operate [v,u] (getItem v u)->wpAny (model X.prog X.w) X.A (subscriptTail b a v u) (EP X c d Q) X.xe s
def Xp(X:Cx)(id:String)(r:V->List V->Hp->VK->Prop):Prop:=
 ∀(c:List (Addr×Obj)) (s:Shared) (d:St) (H:Hp) (x:V) (a:List V) (v:Value) (b:List Value) (Q:VK),iq X c d H s->i9 x v->iL a b->r x a H Q->
  wpAny (model X.prog X.w) X.A (call (.builtin id) (v::b)) (EP X c d Q) X.xe s
section
variable {X:Cx}{a b:Expr}{ta tb:TE}{pos:Pos}
def PM.or(h:PM X r)(h':PM X r'):PM X (λx y H Q=>r x y H Q\/r' x y H Q):=by
 intro c d e s g H x y v u Q I i f q j;rcases q with q|q
 .exact h c d e s g H x y v u Q I i f q j
 .exact h' c d e s g H x y v u Q I i f q j
def GI(hr:PM X r)(l:PE X a ta)(g:PE X b tb)(c:Be b):PE X (.Subscript a b pos) (wN r ta tb):=by intro m s d H Q I h;exact Subscript_ (RK l g I h λv u e x y f k j i q=>hr a b m e d f x y v u Q k j i q (c _ _))
def U7(K:W.Frag):R2:=λx y H Q=>∃p c i v,x=.ref p/\y=.int i/\l9 K H p c/\rV c i=some v/\Q v H
def Vj(K:W.Frag):R2:=λx y H Q=>∃p c i v,x=.ref p/\y=.int i/\nu K H p c/\rV c i=some v/\Q v H
def Vf:R2:=λx y H Q=>∃z i c,x=.str z/\y=.int i/\z.length<=sizeLine/\rV z.cps.toList i=some c/\Q (.str ⟨#[c]⟩) H
def Oz:PM X (U7 X.K):=by
 intro l m R s E H x y v u Q I L J h o;obtain⟨p,Y,i,z,rfl,rfl,B,P,q⟩:=h;cases L;obtain⟨t,rfl⟩:=J;obtain⟨e,r,g,S⟩:=I.list B;obtain⟨j,d,N,U,C,D⟩:=B4 P;obtain⟨w,A,k⟩:=r.get N;have F:=r.length;have Z:=Co;have c:EP X R E Q w s:=⟨z,H,I,k,q⟩;by_cases n:0<=i
 .have f:i.toNat=j:=by rw[seqIndex_of n D]at d;exact Option.some.inj d
  exact item_listR g.isList n (by omega) (by rw[f];simpa using A) c o
 .have f:(i+e.toArray.size).toNat=j:=by rw[seqIndex_neg (by omega) C]at d;rw[bF,<-F];exact Option.some.inj d
  exact subscriptTail_builtinR g.isList.typeIs slot_list_getitem.lookup
   (wpAny_getItem_list_neg g.isList (by omega) (by rw[bF]<;>omega) (by omega) (by rw[f];simpa using A) ⟨rfl,c⟩) o
def lu:PM X (Vj X.K):=by
 intro e f E s n H x y v u Q I B A h m;obtain⟨p,S,i,z,rfl,rfl,l,D,q⟩:=h;cases B;obtain⟨t,rfl⟩:=A;obtain⟨k,r,g,L⟩:=I.tuple l;obtain⟨j,J,C,R,N,P⟩:=B4 D;obtain⟨w,F,d⟩:=r.get C;have o:=r.length;have U:=Co;have c:EP X E n Q w s:=⟨z,H,I,d,q⟩;exact subscriptTail_builtinR g.typeIs slot_tuple_getitem.lookup
  (getItem_tuple g (by omega) (by omega) (by rw[bF,<-o];exact J) (by simpa using F) ⟨rfl,c⟩) m
def Tj:PM X Vf:=by
 intro d e J s D H x y v u Q I r p h k;obtain⟨z,i,c,rfl,rfl,B,A,q⟩:=h;obtain⟨t,rfl⟩:=r;obtain⟨C,rfl⟩:=p;obtain⟨j,f,w,E,l,m⟩:=B4 A;have o:z.cps.toList.length=z.length:=by simp[Str.length]
 rw[o]at f l m;have F:=Co;exact tail_any (typeIs_str s z t) slot_str_getitem.lookup (getItem_str (by have n:decide (i < -(2 ^ 63))=false:=aC (by omega);have g:decide (i >= 2 ^ 63)=false:=aC (by omega);rw[n,g,Bool.or_false]) (by rw[f];simpa using w) ⟨.str ⟨#[c]⟩,H,I.tok _,⟨_,rfl⟩,q⟩) k
def Vd(K:W.Frag):R2:=λx y H Q=>U7 K x y H Q\/Vj K x y H Q\/Vf x y H Q
def Nm:PM X (Vd X.K):=Oz.or (lu.or Tj)
def Ey(its:List Value) n j u:Obj.mapSeq (·.setIfInBounds j u) {cls:=.type "list",data:=.seq its.toArray n}={cls:=.type "list",data:=.seq (its.set j u).toArray n}:=by simp[Obj.mapSeq]
def iq.lst(I:iq X gQ σ H s)(h:H p=some (.lst xs)) :
  ∃its n,iL xs its/\s.heap.get? p=some {cls:=.type "list",data:=.seq its.toArray n}/\xs.length<=sizeLine:=by
 obtain⟨z,its,n,r,e⟩:=I.hok p _ h;exact⟨its,n,r,e,z⟩
def iq.lstUpd{its c:List Value}(I:iq X gQ σ H s)(h:H p=some (.lst xs))
  (g:s.heap.get? p=some {cls:=.type "list",data:=.seq its.toArray n}) (d:f {cls:=.type "list",data:=.seq its.toArray n}={cls:=.type "list",data:=.seq c.toArray n'}) (r:iL ys c) (i:ys.length<=sizeLine) t :
  iq X gQ σ (i6 H p (.lst ys)) {s with heap:=s.heap.update p f,toks:=t}:=by
 have e:(s.heap.update p f).get? p=some {cls:=.type "list",data:=.seq c.toArray n'}:=by rw[Heap.get?_update_self f g (by rw[d]<;>rfl),d]
 refine I.write (by rw[h];trivial) (.inl rfl) (λb u j q=>(Heap.get?_update_other _ _ (Ne.symm j)).trans q) ⟨_,e⟩ ?_;exact⟨i,c,n',r,e⟩
def GW:V->V->V->Hp->(Hp->Prop)->Prop:=λo i v H Q=>∃p c k j,o=.ref p/\i=.int k/\H p=some (.lst c)/\wL c.length k=some j/\Q (i6 H p (.lst (c.set j v)))
def Kd:Vs X GW:=by
 intro F s C H o i v P K u Q I A D J h;obtain⟨p,E,k,j,rfl,rfl,x,B,q⟩:=h;cases A;obtain⟨t,rfl⟩:=D;obtain⟨c,n,r,e,z⟩:=I.lst x;obtain⟨d,L,y,w⟩:=Hn B;have g:=r.length;have N:=Co;have l:iq X F C (i6 H p (.lst (E.set j v))) {s with heap:=s.heap.update p (Obj.mapSeq (·.setIfInBounds j u))}:=I.lstUpd x e (Ey c n j u) (r.set J j) (by rw[bV];exact z) s.toks
 by_cases m:0<=k
 .have f:k.toNat=j:=by rw[seqIndex_of m w]at d;exact Option.some.inj d
  exact W.ki_setAt e m (by omega) (by rw[bF,<-g];exact w) (by rw[f];exact⟨_,l,q⟩)
 .have f:(k+c.toArray.size).toNat=j:=by rw[seqIndex_neg (by omega) y]at d;rw[bF,<-g];exact Option.some.inj d
  exact W.ki_setBack e (by omega) (by rw[bF,<-g];exact y) (by omega) (by rw[f];exact⟨_,l,q⟩)
def BL lo hi n:(sliceBounds lo hi none n).1=((HT.sIx n 0 lo:Nat):Int)/\(sliceBounds lo hi none n).2.1=((HT.sIx n n hi:Nat):Int)/\(sliceBounds lo hi none n).2.2=1:=by
 refine⟨?_,?_,rfl⟩
 .cases lo with
  |none=>simp[sliceBounds,HT.sIx]
  |some i=>
   simp only[sliceBounds,HT.sIx,Option.getD_none,show 1>0 by decide,if_true];by_cases h:i<0
   .simp only[h,if_true]<;>omega
   .simp only[h,if_false]<;>omega
 .cases hi with
  |none=>simp[sliceBounds,HT.sIx]
  |some i=>
   simp only[sliceBounds,HT.sIx,Option.getD_none,show 1>0 by decide,if_true];by_cases h:i<0
   .simp only[h,if_true]<;>omega
   .simp only[h,if_false]<;>omega
def zF(its:List Value) lo hi:slicePick its.toArray lo hi none=((its.drop (HT.sIx its.length 0 lo)).take (HT.sIx its.length its.length hi-HT.sIx its.length 0 lo)).toArray:=by obtain⟨c,e,d⟩:=BL lo hi its.toArray.size;unfold slicePick;rw[c,e,d];simp only[sliceRange_one,pick_run,bF]<;>rfl
def UX(K:W.Frag):V->Option Int->Option Int->Hp->VK->Prop:=λx d e H Q=>∃a c,x=.ref a/\l9 K H a c/\∀p,H p=none->Q (.ref p) (i6 H p (.lst (MU c d e)))
def Px:Rb X (UX X.K):=by intro y s w H x v u A d e p Q I o j l m h;obtain⟨a,c,rfl,k,q⟩:=h;cases o;obtain⟨g,r,f,i⟩:=I.list k;have n:=r.length;refine⟨"list",_,slot_list_getitem.lookup,f.isList.typeIs,?_⟩;refine wpAny_getItem_list_slice f.isList j l m .none (by simp) ?_ (by rw[bF]<;>omega);rw[zF,<-n];refine⟨.ref s.heap.objs.size,_,I.laid (λb z q=>ae _ q) (aL _) ?_,rfl,q _ (I.hok.fresh (aL _))⟩;exact⟨aO (wy c d e) i,_,0,(r.drop (HT.sIx c.length 0 d)).take (HT.sIx c.length c.length e-HT.sIx c.length 0 d),ar _ rfl⟩
noncomputable def ng:V->Bool
 |.non=>true
 |.bl _=>true
 |.int _=>true
 |.str _=>true
 |_=>false
noncomputable def NN:V->V->Bool
 |.non,.non=>true
 |.bl a,.bl b=>a==b
 |.bl a,.int b=>(if a then 1 else 0)==b
 |.int a,.bl b=>a==(if b then 1 else 0)
 |.int a,.int b=>a==b
 |.str a,.str b=>a==b
 |_,_=>false
def SZ(e:i9 y u)(c:i9 x v)(g:ng y=true)(f:ng x=true):SeqAt.EqAt A s u v (NN y x):=by
 cases y with
 |non=>
  cases e;cases x with
  |non=>cases c;exact SeqAt.EqAt.same _
  |bl b=>cases c;exact SeqAt.EqAt.none_bool b
  |int b=>obtain⟨t,rfl⟩:=c;exact SeqAt.EqAt.none_int b t
  |str b=>obtain⟨t,rfl⟩:=c;exact SeqAt.EqAt.none_str b t
  |_=>exact absurd (f) aI
 |bl a=>
  cases e;cases x with
  |non=>cases c;exact SeqAt.EqAt.bool_none a
  |bl b=>cases c;exact SeqAt.EqAt.bool_bool a b
  |int b=>obtain⟨t,rfl⟩:=c;exact SeqAt.EqAt.bool_int a b t
  |str b=>obtain⟨t,rfl⟩:=c;exact SeqAt.EqAt.bool_str a b t
  |_=>exact absurd (f) aI
 |int a=>
  obtain⟨d,rfl⟩:=e;cases x with
  |non=>cases c;exact SeqAt.EqAt.int_none a d
  |bl b=>cases c;exact SeqAt.EqAt.int_bool a d b
  |int b=>obtain⟨t,rfl⟩:=c;exact SeqAt.EqAt.int_int a d b t
  |str b=>obtain⟨t,rfl⟩:=c;exact SeqAt.EqAt.int_str a d b t
  |_=>exact absurd (f) aI
 |str a=>
  obtain⟨d,rfl⟩:=e;cases x with
  |non=>cases c;exact SeqAt.EqAt.str_none a d
  |bl b=>cases c;exact SeqAt.EqAt.str_bool a d b
  |int b=>obtain⟨t,rfl⟩:=c;exact SeqAt.EqAt.str_int a d b t
  |str b=>obtain⟨t,rfl⟩:=c;exact SeqAt.EqAt.str_str a d b t
  |_=>exact absurd (f) aI
 |_=>exact absurd (g) aI
noncomputable def Ox(x:V)(u:Value):Bool:=match u with
 |.none=>NN .non x
 |.bool b=>NN (.bl b) x
 |.int i _=>NN (.int i) x
 |.str z _=>NN (.str z) x
 |_=>false
def Ln(r:i9 y u)(f:ng y=true):Ox x u=NN y x:=by
 cases y with
 |non=>cases r;rfl
 |bl b=>cases r;rfl
 |int i=>obtain⟨t,rfl⟩:=r;rfl
 |str z=>obtain⟨t,rfl⟩:=r;rfl
 |_=>exact absurd (f) aI
theorem BG:∀{xs} {us},iL xs us->xs.all ng=true->us.any (Ox x)=xs.any λy=>NN y x
 |_,_,.nil,_=>rfl
 |y::xs,u::us,.cons r t,f=>by rw[bW,bU]at f;rw[bX,bX,Ln r f.1,BG t f.2]
theorem zb(d:i9 x v)(e:ng x=true):∀{xs} {us},iL xs us->xs.all ng=true->∀u∈us,SeqAt.EqAt A s u v (Ox x u)
 |_,_,.nil,_=>λu c=>by cases c
 |y::xs,u::us,.cons r t,f=>λg c=>by
  rw[bW,bU]at f;rcases aG.mp c with rfl|c
  .rw[Ln r f.1];exact SZ r d f.1 e
  .exact zb d e t f.2 g c
noncomputable def V1(x:V)(xs:List V):Bool:=xs.any λy=>NN y x
def Wq(K:W.Frag)(neg:Bool):R2:=λx y H Q=>∃p c,y=.ref p/\(l9 K H p c\/nu K H p c)/\ng x=true/\c.all ng=true/\Q (.bl (if neg then !V1 x c else V1 x c)) H
def Ic:rK X (compareOp .In) (Wq X.K false):=by
 intro m s k H x y v u Q I g j h;obtain⟨p,l,rfl,d,f,fs,q⟩:=h;cases j;rcases d with d|d
 .obtain⟨c,r,e,i⟩:=I.list d;refine SeqAt.in_listAt (Ox x) e.isList (λw hw=>zb g f r fs w (by simpa using hw)) ⟨.bl _,H,I,rfl,?_⟩;rw[show c.toArray.any (Ox x)=c.any (Ox x) by simp,BG r fs];exact q
 .obtain⟨c,r,e,i⟩:=I.tuple d;refine SeqAt.in_tupleAt (Ox x) e (λw hw=>zb g f r fs w (by simpa using hw)) ⟨.bl _,H,I,rfl,?_⟩;rw[show c.toArray.any (Ox x)=c.any (Ox x) by simp,BG r fs];exact q
def BA:lO X (.type "list") (λxs H Q=>∃p i,xs=[.ref p]/\(l9 X.K H p i\/nu X.K H p i)/\∀l,H l=none->Q (.ref l) (i6 H l (.lst i))):=by
 intro F s C H xs J Q I r h;obtain⟨p,i,rfl,k,q⟩:=h;obtain⟨u,rfl,E⟩:=sP r;cases E;have m:∀(c:List Value),iL i c->i.length<=sizeLine->∀(d:Heap) (f:Nat),(∀b B,s.heap.get? b=some B->d.get? b=some B)->
   d.get? s.heap.objs.size=some {cls:=.type "list",dict:=none,data:=.seq c.toArray f,slots:=#[]}->EP X F C Q (.ref s.heap.objs.size) {s with heap:=d}:=λc g j d f v e=>
  ⟨.ref s.heap.objs.size,_,I.laid v (aL _) (show jH X.prog X.w _ d _ (.lst i) from ⟨j,c,f,g,e⟩),rfl,q _ (I.hok.fresh (aL _))⟩
 rcases k with k|k
 .obtain⟨c,g,x,j⟩:=I.list k;have D:=g.length;obtain⟨o,y,A,n,z⟩:=x.isList;exact call_list_seq p (.inl rfl) y A z (λd f v e=>m c g j d f v e) (by simp only[bF]<;>omega)
 .obtain⟨c,g,x,j⟩:=I.tuple k;have D:=g.length;obtain⟨o,y,A,n,z⟩:=x;exact call_list_seq p (.inr rfl) y A z (λd f v e=>m c g j d f v e) (by simp only[bF]<;>omega)
def zL:lO X (.type "tuple") (λxs H Q=>∃p d,xs=[.ref p]/\((l9 X.K H p d/\∀l,H l=none->Q (.ref l) (i6 H l (.tup d)))\/(nu X.K H p d/\Q (.ref p) H))):=by
 intro y s v H xs z Q I r h;obtain⟨p,d,rfl,h⟩:=h;obtain⟨u,rfl,w⟩:=sP r;cases w;rcases h with⟨f,q⟩|⟨f,q⟩
 .obtain⟨c,g,i,k⟩:=I.list f;have A:=g.length;refine call_tuple_list i.isList (λj n=>?_) (by simp only[bF]<;>omega);have m:=I.kept (t':=s.toks) n;have x:iq X y v (i6 H j.objs.size (.tup d)) {s with heap:=j.push {cls:=.type "tuple",data:=.seq c.toArray}}:=
   m.laid (λb o e=>ae _ e) (aL _) (⟨k,c,g,yM.new _ _⟩)
  exact⟨.ref j.objs.size,_,x,rfl,q _ (m.hok.fresh (aL _))⟩
 .obtain⟨c,g,i,k⟩:=I.tuple f;exact call_tuple_same i ⟨.ref p,H,I,rfl,q⟩
def V0(K:W.Frag)(T:String)(x:V)(H:Hp):Prop:=match x with
 |.str _=>T = "str"
 |.int _=>T = "int"
 |.ref p=>(T = "list" /\∃d,l9 K H p d)\/(T = "tuple" /\∃o,K.lookup p=some o/\o.cls=.type "tuple" /\o.dict=none)\/
   (T = "dict" /\((∃c,H p=some (.dK c))\/∃c,H p=some (.dT c)))\/(T = "set" /\∃S n,H p=some (.set S n))
 |_=>False
theorem Sq{w:List (Addr×Obj)}{u:St}{H:Hp}{s:Shared}{T:String}{x:V}{v:Value}(I:iq X w u H s)(r:i9 x v)(ty:V0 X.K T x H) :
  s.TypeIs v T/\∀a,v=.ref a->∃l,s.heap.get? a=some l/\l.dict=none:=by
 cases x with
 |str z=>obtain⟨t,rfl⟩:=r;cases (ty);exact⟨typeIs_str s z t,λ_ e=>nomatch e⟩
 |int i=>obtain⟨t,rfl⟩:=r;cases (ty);exact⟨typeIs_int s i t,λ_ e=>nomatch e⟩
 |ref p=>
  cases r;rcases ty with⟨rfl,A,q⟩|⟨rfl,o,d,y,j⟩|⟨rfl,d⟩|⟨rfl,S,n,d⟩
  .obtain⟨m,_,k,_⟩:=I.list q;refine⟨k.isList.typeIs,λa e=>?_⟩;cases e;obtain⟨o,n,e,c,j,_⟩:=k;exact⟨o,e,j⟩
  .refine⟨⟨o,I.kIn p o d,y⟩,λa e=>?_⟩;cases e;exact⟨o,I.kIn _ o d,j⟩
  .have z:∃o,s.heap.get? p=some o/\o.ExactDict:=by
    rcases d with⟨h,d⟩|⟨h,d⟩
    .obtain⟨_,_,_,_,o,_,_,e,f,_⟩:=I.hok p _ d;exact⟨o,e,f⟩
    .obtain⟨_,_,_,_,o,_,_,e,f,_⟩:=I.hok p _ d;exact⟨o,e,f⟩
   obtain⟨o,e,f⟩:=z;refine⟨⟨o,e,f.1⟩,λa g=>?_⟩;cases g;exact⟨o,e,f.2.1⟩
  .obtain⟨o,_,_,_,e,f,_⟩:=I.hok p _ d;refine⟨⟨o,e,f.1⟩,λa g=>?_⟩;cases g;exact⟨o,e,f.2.1⟩
 |_=>exact False.elim ty
def VU(K:W.Frag)(T:String)(r:V->List V->Hp->VK->Prop)(to:TE)(t:TA):TE:=λd H Q=>to d H λx c=>V0 K T x c/\t d c λe f=>r x e f Q
variable {o e:Expr}{es:List Expr}{to:TE}{t:TA}{name:Str}{apos cpos:Pos}{T id:String}{r:V->List V->Hp->VK->Prop}
def L1(u:PlainAttrs T)(g:Slot T name id)(j:typeOf (.builtin id)=pure (.type "method_descriptor"))(n:Xp X id r)(p:PE X o to)(w:PA X (e::es) t)
  (d:attributeBase o name X.env (eval o X.env)=eval o X.env:=by rfl)
  (f:((backTo cpos (starEach (e::es) X.env)).all (λx=>!x.1)&&(backToKw cpos (keywordEach [] X.env)).all (λx=>x.1.isSome)
   && decide ((e::es).length+([]:List Keyword).length+(if ([]:List Keyword).isEmpty then 0 else 1)<30))=true:=by rfl)
  (c:(apos.endLine==cpos.line)=true:=by rfl) (m:starEach (e::es) X.env=(false,eval e X.env)::starEach es X.env:=by rfl) (hplain:(backTo cpos (starEach es X.env)).any (·.1)=false:=by rfl) :
  PE X (.Call (.Attribute o name apos) (e::es) [] cpos) (VU X.K T r to t):=by
 intro k s i H Q I h;refine wpAny_Call_method_late d f c rfl (kl (p k s i H _ I h) λv s1 ⟨x,H1,I1,r1,ty,q1⟩=>?_);obtain⟨y,q⟩:=Sq I1 r1 ty;refine⟨T,id,u,g,j,y,q,?_⟩;have l:=w cpos k s1 i H1 _ I1 q1;rw[m]at l ⊢;refine Calls.callWith_builtin (by show (false||(backTo cpos (starEach es X.env)).any (·.1))=false;rw[hplain]<;>rfl) (Calls.evalArgs_plain ?_);exact kl l λus s2 ⟨vs,H2,I2,r2,q2⟩=>n k s2 i H2 x vs v us Q I2 r1 r2 q2
end
end L2
namespace L2
open PySem PySem.Spec PyProof.Rows
def Xe(X:Cx)(id:String)(r:V->List V->Hp->VK->Prop):Prop:=
 ∀(c:List (Addr×Obj)) (s:Shared) (d:St) (H:Hp) (x:V) (a:List V) (v:Value) (b:List Value) (Q:VK),iq X c d H s->i9 x v->iL a b->r x a H Q->
  wpAny (model X.prog X.w) X.A (call (.builtin id) (v::b)) (EP X c d Q) X.xe s
theorem iL.one:∀{x} {us},iL [x] us->∃u,us=[u]/\i9 x u
 |_,_,.cons r .nil=>⟨_,rfl,r⟩
theorem iL.rep(h:iL xs us):∀k:Nat,iL (List.replicate k xs).flatten (List.replicate k us).flatten
 |0=>.nil
 |k+1=>by rw[bY,bY,bZ,bZ];exact iL.append h (iL.rep h k)
theorem rN(its:List Value):∀k a,
  List.foldl (λc d=>c++d) a.toArray (List.replicate k its.toArray)=(a++(List.replicate k its).flatten).toArray
 |0,a=>by simp
 |k+1,a=>by
  have e:a.toArray++its.toArray=(a++its).toArray:=by simp
  have b:(a++its)++(List.replicate k its).flatten=a++(List.replicate (k+1) its).flatten:=by rw[bY,bZ,b9]
  rw[<-b,<-rN its k (a++its),<-e,bY,List.foldl_cons]
section
variable {X:Cx}{gQ:List (Addr×Obj)}{σ:St}{H:Hp}{s:Shared}{l b:Addr}{xs ys zs:List V}
def iq.lset{its a:List Value}(I:iq X gQ σ H s)(d:H l=some (.lst xs))
  (e:s.heap.get? l=some {cls:=.type "list",data:=.seq its.toArray n}) (i:f its.toArray=a.toArray) (hv:iL ys a) (g:ys.length<=sizeLine) :
  iq X gQ σ (i6 H l (.lst ys)) {s with heap:=s.heap.update l (Obj.mapSeq f),toks:=t'}:=by
 have q:=PySem.IsL.update e f;rw[i]at q;refine I.write (by rw[d];exact trivial) (.inl rfl) (λj u h c=>(Heap.get?_update_other s.heap (Obj.mapSeq f) (Ne.symm h)).trans c) ⟨_,q⟩ ?_;exact⟨g,a,_,hv,q⟩
def iq.lnew(I:iq X gQ σ H s)(hv:iL ys its)(a:ys.length<=sizeLine) :
  iq X gQ σ (i6 H s.heap.objs.size (.lst ys)) {s with heap:=s.heap.push {cls:=.type "list",data:=.seq its.toArray},toks:=t'}:=
 I.laid (λ_ _ q=>ae _ q) (aL _) ⟨a,its,0,hv,ar _ rfl⟩
def iq.fresh(I:iq X gQ σ H s):H s.heap.objs.size=none:=I.hok.fresh (aL _)
def iq.lstM(I:iq X gQ σ H s)(a:H l=some (.lst xs)):xs.length<=sizeLine/\∃its n,iL xs its/\xs.length=its.length/\s.heap.get? l=some {cls:=.type "list",data:=.seq its.toArray n}:=by obtain⟨z,its,n,r,e⟩:=I.hok l _ a;exact⟨z,its,n,r,r.length,e⟩
def JI(h:n<=sizeLine):Builtin.List.listTooLong n=false:=by unfold Builtin.List.listTooLong;exact aC (by omega)
end
section
variable {X:Cx}
def uS:V->List V->Hp->VK->Prop:=λx b H Q=>∃l a y,x=.ref l/\b=[y]/\H l=some (.lst a)/\a.length<sizeLine/\Q .non (i6 H l (.lst (a++[y])))
def vn:Xe X "list.append" uS:=by intro p s j H x i v m Q I d f h;obtain⟨l,o,y,rfl,rfl,b,g,q⟩:=h;cases d;obtain⟨u,rfl,c⟩:=f.one;obtain⟨z,a,n,r,k,e⟩:=I.lstM b;refine call_meets F.slot_list_append ⟨_,e,rfl⟩ F.entry_list_append (F.args_list_append_2 _ _) (PySem.list_append l a.toArray n u (by rw[bF];omega)) ⟨e,?_⟩;refine⟨.non,_,I.lset b e (by simp) (r.append (.cons c .nil)) ?_,rfl,q⟩;rw[aU,cf];omega
def Se:R2:=λx y H Q=>∃l b a c,x=.ref l/\y=.ref b/\H l=some (.lst a)/\H b=some (.lst c)/\a.length+c.length<=sizeLine/\∀p,H p=none->Q (.ref p) (i6 H p (.lst (a++c)))
def J9:rK X (binaryOp .Add) Se:=by
 intro F s C H x y v u Q I j i h;obtain⟨l,b,E,B,rfl,rfl,g,o,w,q⟩:=h;cases j;cases i;obtain⟨z,c,n,r,D,e⟩:=I.lstM g;obtain⟨A,a,p,f,k,d⟩:=I.lstM o;refine PySem.P.add_list e d ?_ (by rw[bF,bF];omega);have m:c.toArray++a.toArray=(c++a).toArray:=by simp
 rw[m];exact⟨.ref _,_,I.lnew (r.append f) (by rw[aU];omega),rfl,q _ I.fresh⟩
def Vn:R2:=λx y H Q=>∃l k a,x=.ref l/\y=.int k/\H l=some (.lst a)/\-(2 ^ 63)<=k/\k<2 ^ 63/\a.length*k.toNat<=sizeLine/\
 ∀p,H p=none->Q (.ref p) (i6 H p (.lst (List.replicate k.toNat a).flatten))
def B2{a:Type}(xs:List a) k:(List.replicate k xs).flatten.length=k*xs.length:=by
 induction k with
 |zero=>simp
 |succ k ih=>rw[bY,bZ,aU,ih,cg,Nat.add_comm]
def RI:rK X (binaryOp .Mult) Vn:=by
 intro P s L H x y v u Q I C B h;obtain⟨l,k,N,rfl,rfl,A,K,E,o,q⟩:=h;cases C;obtain⟨t,rfl⟩:=B;obtain⟨z,b,n,r,p,e⟩:=I.lstM A;have w:b.toArray.size*k.toNat<=sizeLine:=by rw[bF,<-p];exact o
 have f:¬b.toArray.size*k.toNat>(2 ^ 63-1) / 8:=by
  have:sizeLine<=(2 ^ 63-1) / 8:=by decide
  omega
 have g:¬(!Builtin.List.listFitsIndex k)=true:=by rw[fitsIndex_both K E];exact aI
 have c:¬Builtin.List.listTooLong (b.toArray.size*k.toNat)=true:=by rw[JI w];exact aI
 have d:List.foldl (λi j=>i++j) #[] (List.replicate (if b.toArray.isEmpty=true then 0 else k.toNat) b.toArray)=(List.replicate k.toNat b).flatten.toArray:=by
  have D:∀m:Nat,List.foldl (λi j=>i++j) #[] (List.replicate m b.toArray)=(List.replicate m b).flatten.toArray:=λm=>by have:=rN b m [];rw[cj]at this;exact this
  rw[D];cases b with
  |nil=>simp
  |cons a r'=>rw[aS (by simp)]
 refine wpAny_binaryOp_repeat_ref (by decide) ⟨_,e,rfl⟩ (λJ=>typeIs_int J k t) noFill_list_mul F.fills_int_mul F.slot_int_rmul repeat_list F.slot_int_index.lookup
  (call_meets F.slot_int_rmul (typeIs_int s k t) F.entry_int_rmul (F.args_int_rmul_2 _ _) (int___rmul___int_list k t l b.toArray n)
   ⟨e,rfl,⟨_,e,rfl⟩,call_meets F.slot_list_mul ⟨_,e,rfl⟩ F.entry_list_mul (F.args_list_mul_2 _ _) (AutoListH.list___mul___list_int_3 l b.toArray n k t g f c) ⟨e,?_⟩⟩)
 rw[d];exact⟨.ref _,_,I.lnew (r.rep k.toNat) (by rw[B2,cm];exact o),rfl,q _ I.fresh⟩
end
end L2
namespace Att
open PySem PySem.W PySem.Calls PyProof.Rows
def wQ:∀c vs,WellAll P h vs (c.map WData.int)->IntsAre vs c:=by
 intro c;induction c with
 |nil=>intro vs w;rw[cn]at w;cases w;exact .nil
 |cons n c ih=>
  intro vs w;rw[bH]at w;cases w with
  |cons a b=>cases a;exact .cons _ _ (ih _ b)
theorem script_of{l:OpenLaw}(p:l.most=some n)
  (c:l.row.toRowW.claim.pre args=true) (i:WellAll P h vals args) :
  ∃a vs b,vals=[Value.ref a]/\args=[WData.list (b.map WData.int)]/\h.get? a=some {cls:=.type "list",data:=.seq vs.toArray}/\IntsAre vs b/\b.length<=n:=by
 have g:=(pre_splitW c).1;have j:l.pre.holds [] {args:=args}=true:=(pre_splitW c).2;obtain⟨d,r,rfl,s,o⟩:=hasAllW_cons g;obtain rfl:=hasAllW_nil o;obtain⟨u,rfl,m⟩:=hasW_list s;obtain⟨b,rfl⟩:=items_int m;have k:b.length<=n:=by
  unfold OpenLaw.pre at j;have e:(WTm.not (.lt (.lit (.int n)) (.len (.arg 0)))).holds [] {args:=[.list (b.map .int)]}=true:=by have e:=(holds_andW j).1;rw[p]at e;exact e
  have f:=condW_of e (w_not (w_lt w_lit (w_len_list (w_arg rfl))));rw[ax]at f;refine cq λq=>?_;first
   | (rw[aD q']at f;exact absurd f (by decide))
   | (simp at f;omega)
 cases i with
 |cons w1 w2=>
  cases w2;cases w1 with
  |list ho zS=>exact⟨_,_,b,rfl,rfl,ho,wQ b _ zS,k⟩
def post_true(l:OpenLaw) args:l.row.toRowW.claim.post args (.bool true) args=true:=
 postW_of
  (show WShape.has [] (.bool true) .bool=true by first|rfl|decide|simp[WShape.has,WShape.arms,WShape.armsAll])
  (w_eq_bool (w_res rfl) w_lit) rfl
end Att
namespace L2
open PySem PySem.Spec PyProof.Rows
theorem zV:∀{vs} {ns},IntsAre vs ns->iL (ns.map V.int) vs
 |_,_,.nil=>.nil
 |_,_,.cons n t h=>.cons ⟨t,rfl⟩ (zV h)
def qM(h:Heap)(H:Hp)(a:List (Addr×Addr)):Heap:=⟨(Nk h H).objs,{ids:=a}⟩
end L2
namespace L2
open PySem PySem.Spec PyProof.Rows
noncomputable def m6(s:Stmt)(j:Nat):Stmt:=match s with
 |.ClassDef _ _ _ body _ _ _ _ _ _ _=>body.getD j (.Pass ⟨0,0,0,0⟩)
 |_=>.Pass ⟨0,0,0,0⟩
noncomputable def j7(s:Stmt):Arguments:=match s with
 |.FunctionDef _ a _ _ _ _ _ _ _ _=>a
 |_=>{posonlyargs:=[],args:=[],vararg:=none,kwonlyargs:=[],kw_defaults:=[],kwarg:=none,defaults:=[]}
noncomputable def iR(s:Stmt):List Stmt:=match s with
 |.FunctionDef _ _ b _ _ _ _ _ _ _=>b
 |_=>[]
noncomputable def gZ(s:Stmt):Scope:=match s with
 |.FunctionDef _ _ _ _ _ _ sc _ _ _=>sc
 |_=>{kind:=.function,names:=[],isGenerator:=false,isCoroutine:=false}
abbrev sQ:Q6:=λ_ _ _ _ _ _=>False
abbrev E0:XK:=λ_ _ _=>False
def Hm:tF sQ X E0:=λ_ _ _ _ _ _ _ h=>h.elim
structure NL(K:W.Frag)(x qual:Str)(st:Stmt)(f:Addr)(fd:FuncData):Prop where
 ex:∃(oc:Value) (od:Option Addr) (kV doc pm:Value) (an:Option Addr) (cdv ct:Value) (osl:Array (Option Value)),
  fd=W.fnOf x qual (j7 st) (iR st) (gZ st) .none kV doc pm an cdv ct/\K.lookup f=some ⟨oc,od,.func fd,osl⟩/\W.codeIn K cdv qual=true
 kp:W.keepIn K (.ref f)=true
section
variable {P:Program}{w:World}{K:W.Frag}{mg:Str->Option Value}{base:Heap}
def NL.ok{st:Stmt}(F:NL K x qual st f fd)(S:ji N ps (gZ st))(d:∀vs H Q E,sp vs H Q E->vs.length=ps.length)
  (c:∀b A a s H vs Q E,je k (A.deeper (envOfC qual (gZ st) s.heap.objs.size f b))->sp vs H Q E->
   ∃t,BU (ou sQ P w K mg base N qual (gZ st) f b A a s H E).nox (iR st) t/\t {nx:=λ_ i=>Q .non i,rt:=Q} (lV N vs) H):nQ P w K mg base sQ (k+1) f fd ps sp:=by
 obtain⟨p,n,kV,l,o,r,b,u,j,rfl,m,g⟩:=F.ex;refine Re m g S d λA a s H vs Q E hr e=>?_;obtain⟨t,h,q⟩:=c b A a s H vs Q E hr e;exact⟨t,h.nox,q⟩
def NL.binds{st:Stmt}(F:NL K x qual st f fd)
  (h:∀(kV b c:Value) (d:Option Addr) (a e:Value) (us:List Value),us.length=ps.length->bindArgs (W.fnOf x qual (j7 st) (iR st) (gZ st) .none kV b c d a e) ⟨us,[]⟩=pure (ps.zip us)):qJ K fd ps []:=by
 obtain⟨k,l,kV,b,c,d,a,e,g,rfl,j,i⟩:=F.ex;exact .all (h kV b c d a e)
def EI{st:Stmt}{kV b d a e:Value}(l:K.lookup f=some ⟨oc,od,.func (W.fnOf x qual (j7 st) (iR st) (gZ st) .none kV b d an a e),osl⟩)
  (c:W.codeIn K a qual=true) (k:W.keepIn K (.ref f)=true):NL K x qual st f (W.fnOf x qual (j7 st) (iR st) (gZ st) .none kV b d an a e):=⟨⟨oc,od,kV,b,d,an,a,e,osl,rfl,l,c⟩,k⟩
end
def Ri(hr:je k A):A.units+1<cLine:=cu (cw (by decide:1<=64) _) hr.units
section
variable {X:Cx}
def pv i (b:X.N[i]? = some x:=by rfl) (hv:Uj X.env.scope x:=by first|exact Or.inl rfl|exact Or.inr (Or.inl rfl)|exact Or.inr (Or.inr rfl)) (c:(x==("__debug__" : Str))=false:=by decide)
  (a:(x==("__classdict__" : Str))=false:=by decide):PE X (.Name x pos) (m7 i):=yx b hv c a
end
def Wt{A B:Prop}(h:B):if false=true then A else B:=by rw[aS aI];exact h
def Wl{A B:Prop}(h:A):if true=true then A else B:=by rw[aR rfl];exact h
def Jw(o:HO)(x:Option HO):Prop:=match o with
 |.tbl q ps=>∃a,x=some (.tbl q (ps++a))
 |o=>x=some o
def Jw.of(h:x=some o):Jw o x:=by
 cases o with
 |tbl q ps=>exact⟨#[],by rw[h];simp⟩
 |_=>exact h
def Jw.ne(h:Jw o x):x≠none:=by
 cases o with
 |tbl q ps=>obtain⟨m,e⟩:=h;rw[e];exact λz=>nomatch z
 |_=>have e:x=some _:=h;rw[e];exact λz=>nomatch z
def ij(H a:Hp):Prop:=∀b o,H b=some o->Jw o (a b)
def ij.refl H:ij H H:=λ_ _ h=>.of h
def ij.trans(a:ij H H1)(b:ij H1 H2):ij H H2:=λc o h=>by
 have q:=a c o h;cases o with
 |tbl q ps=>obtain⟨m,e⟩:=q;obtain⟨d,f⟩:=b c _ e;exact⟨m++d,by rw[f,bz]⟩
 |_=>exact b c _ q
def ij.free(e:ij H H')(h:H' l=Option.none):H l=Option.none:=by
 cases q:H l with
 |none=>rfl
 |some o=>exact absurd h (e l o q).ne
def ij.seq{K:W.Frag}(e:ij H H')(h:l9 K H a xs):l9 K H' a xs:=by
 rcases h with (h|⟨o,h⟩)|h
 .exact .inl (.inl (e _ _ h))
 .exact .inl (.inr ⟨o,e _ _ h⟩)
 .exact .inr h
end L2
namespace L2
open PySem PySem.Spec PyProof.Rows
section
variable {P:Program}{w:World}{H:Hp}{h:Heap}{a:Addr}{o:HO}
def qH.track(ok:qH P w H h)(d:H a=none)(new:jH P w (i6 H a o) h a o):qH P w (i6 H a o) h:=λb u e=>by
 by_cases f:b=a
 .subst f;rw[g9]at e;cases e;exact new
 .rw[hV f]at e;refine (ok b u e).stay (λ_ _ _ q=>q) (λc q=>?_) λc g q=>?_
  .rw[hV (ip q d)];exact q
  .rw[hV (ip q d)];exact q
end
def iq.track(I:iq X gQ σ H s)(d:H a=none)(j:a∈X.ex\/X.s₀.heap.objs.size<=a)
  (g:a≠X.env.locals) (i:∀x c,X.env.cells.lookup x=some c->c≠a) (h:∀p∈X.pn++gQ,p.1≠a) (new:jH X.prog X.w (i6 H a o) s.heap a o):iq X gQ σ (i6 H a o) s:=by
 have J:=I.step (t':=s.toks) (d':=s.drawn) (ch:=[a])
  (λb f=>by
   have e:b=a:=by simpa using f
   subst e;exact⟨j,g,i,h⟩)
  (λ_ _ _ _ _ e _=>e) (λ_ u _ _ _ e _=>⟨u.slots,e⟩)
  (λb u f _ n=>by rw[hV (by simpa using f)];exact n)
  (λ_ u _ e=>⟨u,e⟩)
  (λb l q=>by rw[hV (ip q d)];exact q)
  (λb u v q=>by rw[hV (ip q d)];exact q)
  (λb _ k q=>⟨#[],by rw[hV (ip q d),q];simp⟩)
  (λ_ q=>q) (I.hok.track d new) I.bare
 exact J
noncomputable def ny(a:Env):List (Str×NameKind)->List (Str×Addr)->List (Str×Addr)
 |[],acc=>acc
 | (n,k)::r,acc=>if k==NameKind.free then (match a.cells.lookup n with
  |some c=>ny a r ((n,c)::acc)
  |none=>ny a r acc) else ny a r acc
def sE(h:∀y∈scope.names,y.2=.free->∃c,env.cells.lookup y.1=some c):closureFor scope env=pure (ny env scope.names []):=by
 have all:∀(l:List (Str×NameKind)) b,(∀y∈l,y.2=.free->∃c,env.cells.lookup y.1=some c)->
   (forIn l b λx m=>(if (x.2==NameKind.free)=true then (do
    let a <-cellOf env x.1
    pure (ForInStep.yield ((x.1,a)::m))) else pure (ForInStep.yield m):Sem _))=pure (ny env l b):=by
  intro l;induction l with
  |nil=>intro b _;rfl
  |cons y r ih=>
   intro b j;obtain⟨n,k⟩:=y;rw[cx];by_cases d:(k==NameKind.free)=true
   .obtain⟨c,o⟩:=j (n,k) bt (by simpa using d);have f:=o;have e:cellOf env n=pure c:=by unfold cellOf;rw[f]
    simp only[d,if_true,e,pure_bind];rw[ih _ λy g=>j y (bx _ g)];show pure (ny env r ((n,c)::b))=pure (if (k==NameKind.free)=true then (match env.cells.lookup n with
     |some c=>ny env r ((n,c)::b)
     |none=>ny env r b) else ny env r b)
    rw[aR d,f]
   .have i:(k==NameKind.free)=false:=by simpa using d
    simp only[i,cy,if_false,pure_bind];rw[ih _ λy g=>j y (bx _ g)];show pure (ny env r b)=pure (if (k==NameKind.free)=true then (match env.cells.lookup n with
     |some c=>ny env r ((n,c)::b)
     |none=>ny env r b) else ny env r b)
    rw[aS d]
 have:=all scope.names [] h;unfold closureFor;simp only[pure_bind,bind_pure]at this ⊢;exact this
theorem mV:∀{l} {acc},(∀y d,acc.lookup y=some d->env.cells.lookup y=some d)->(ny env l acc).lookup x=some c->env.cells.lookup x=some c
 |[],acc,ha,h=>ha x c h
 | (n,k)::r,acc,ha,h=>by
  unfold ny at h;by_cases b:(k==NameKind.free)=true
  .rw[aR b]at h;cases e:env.cells.lookup n with
   |none=>rw[e]at h;exact mV ha h
   |some d=>
    rw[e]at h;refine mV (λy d' a=>?_) h;rw[cA]at a;cases q:y==n with
    |true=>rw[q]at a;cases a;rw[beq_iff_eq.mp q];exact e
    |false=>rw[q]at a;exact ha y d' a
  .rw[aS b]at h;exact mV ha h
theorem rS:∀{l} {acc},(∃c,acc.lookup x=some c)->∃c,(ny env l acc).lookup x=some c
 |[],_,h=>h
 | (n,k)::r,acc,h=>by
  unfold ny;by_cases a:(k==NameKind.free)=true
  .rw[aR a];cases e:env.cells.lookup n with
   |none=>exact rS h
   |some d=>
    refine rS ?_;rw[cA];cases q:x==n with
    |true=>exact⟨d,rfl⟩
    |false=>exact h
  .rw[aS a];exact rS h
theorem p9:∀{l} {acc},(x,NameKind.free)∈l->(∃c,env.cells.lookup x=some c)->∃c,(ny env l acc).lookup x=some c
 | (n,k)::r,acc,b,a=>by
  rcases aG.mp b with e|b
  .cases e;obtain⟨c,a⟩:=a;unfold ny;rw[aR (by rfl),a];refine rS ⟨c,?_⟩;rw[cA,beq_self_eq_true]
  .unfold ny;by_cases f:(k==NameKind.free)=true
   .rw[aR f];cases env.cells.lookup n with
    |none=>exact p9 b a
    |some d=>exact p9 b a
   .rw[aS f];exact p9 b a
def uR(h:(relabel scope env).names.lookup x=some .cell\/(relabel scope env).names.lookup x=some .free):(x,NameKind.free)∈scope.names\/scope.names.lookup x=some .cell:=by
 have all:∀(l:List (Str×NameKind)),∀k,(k=NameKind.cell\/k=NameKind.free)->
   (l.map λ(n,k)=>if (k==NameKind.free&&env.scope.kind==.function&&env.kindOf n==some .cell) then (n,NameKind.cell) else (n,k)).lookup x=some k->(x,NameKind.free)∈l\/l.lookup x=some .cell:=by
  intro l;induction l with
  |nil=>intro k _ h;simp at h
  |cons y r ih=>
   intro k c h;obtain⟨n,b⟩:=y;rw[bH]at h;by_cases a:(b==NameKind.free&&env.scope.kind==.function&&env.kindOf n==some .cell)=true
   .have d:b=.free:=by simp only[bU,beq_iff_eq]at a;exact a.1.1
    simp only[a,if_true]at h;rw[cA]at h;cases q:x==n with
    |true=>rw[d,beq_iff_eq.mp q];exact .inl bt
    |false=>
     rw[q]at h;rcases ih k c h with z|z
     .exact .inl (bx _ z)
     .exact .inr (by rw[cA,q];exact z)
   .simp only[a,cy,if_false]at h;rw[cA]at h;cases q:x==n with
    |true=>
     rw[q]at h;have e:b=k:=by simpa using h
     rcases c with rfl|rfl
     .exact .inr (by rw[cA,q,e])
     .rw[e,beq_iff_eq.mp q];exact .inl bt
    |false=>
     rw[q]at h;rcases ih k c h with z|z
     .exact .inl (bx _ z)
     .exact .inr (by rw[cA,q];exact z)
 rcases h with h|h
 .exact all scope.names _ (.inl rfl) h
 .exact all scope.names _ (.inr rfl) h
def BK(h:scope.names.lookup x=some .free):(relabel scope env).names.lookup x=some .cell\/(relabel scope env).names.lookup x=some .free:=by
 have all:∀(l:List (Str×NameKind)),l.lookup x=some .free->
   (l.map λ(n,k)=>if (k==NameKind.free&&env.scope.kind==.function&&env.kindOf n==some .cell) then (n,NameKind.cell) else (n,k)).lookup x=some .cell\/
   (l.map λ(n,k)=>if (k==NameKind.free&&env.scope.kind==.function&&env.kindOf n==some .cell) then (n,NameKind.cell) else (n,k)).lookup x=some .free:=by
  intro l;induction l with
  |nil=>intro h;simp at h
  |cons y r ih=>
   intro h;obtain⟨n,k⟩:=y;rw[bH];rw[cA]at h;cases q:x==n with
   |true=>
    rw[q]at h;have b:k=.free:=by simpa using h
    by_cases a:(k==NameKind.free&&env.scope.kind==.function&&env.kindOf n==some .cell)=true
    .refine .inl ?_;simp only[a,if_true];rw[cA,q]
    .refine .inr ?_;simp only[a,cy,if_false];rw[cA,q,b]
   |false=>
    rw[q]at h;by_cases a:(k==NameKind.free&&env.scope.kind==.function&&env.kindOf n==some .cell)=true
    .simp only[a,if_true];rw[cA,q];exact ih h
    .simp only[a,cy,if_false];rw[cA,q];exact ih h
 exact all scope.names h
def Iy(X:Cx)(b:List Expr)(t:TT):Prop:=
 ∀(d:List (Addr×Obj)) (s:Shared) (a:St) (H:Hp) (Q:Bool->Hp->Prop),iq X d a H s->t a H Q->
  wpAny (model X.prog X.w) X.A (forIn b true λc r=>if r=true then do let ok <-isTrue c X.env (eval c X.env);pure (ForInStep.yield ok) else pure (ForInStep.yield r)) (TP X d a Q) X.xe s
def R8:TT:=λ_ H Q=>Q true H
def Ql:Iy X [] R8:=λ_ _ _ H _ I h=>wpAny_tests_nil ⟨H,I,h⟩
def Qk(b:PT X c t):Iy X [c] t:=λa s d H Q I h=>wpAny_tests_one (b a s d H Q I h)
theorem n8:∀names k acc,(cellsFrom k names acc).lookup x=some c->acc.lookup x=some c\/(k<=c/\(x,NameKind.cell)∈names)
 |[],_,_,h=>.inl h
 | (n,kd)::r,k,acc,h=>by
  unfold cellsFrom at h;split at h
  .rename_i hk;rcases n8 r _ _ h with q|⟨q,m⟩
   .rw[cA]at q;cases hb:x==n with
    |true=>rw[hb]at q;cases q;refine .inr ⟨aL _,?_⟩;rw[beq_iff_eq.mp hb,beq_iff_eq.mp hk];exact bt
    |false=>rw[hb]at q;exact .inl q
   .exact .inr ⟨cB q,bx _ m⟩
  .rcases n8 r _ _ h with q|⟨q,m⟩
   .exact .inl q
   .exact .inr ⟨q,bx _ m⟩
theorem m4:∀a k b,(x,NameKind.cell)∉a->(cellsFrom k a b).lookup x=b.lookup x
 |[],_,_,_=>rfl
 | (n,kd)::r,k,b,h=>by
  unfold cellsFrom;have hr:(x,NameKind.cell)∉r:=λz=>h (bx _ z);split
  .rename_i d;rw[m4 r _ _ hr,cA];cases c:x==n with
   |true=>exact absurd (by rw[beq_iff_eq.mp c,beq_iff_eq.mp d];exact bt) h
   |false=>rfl
  .exact m4 r _ _ hr
theorem pB:∀a k b,(x,NameKind.cell)∈a->(cellsFrom k a b).lookup x=some c->k<=c
 |[],_,_,h,_=>nomatch h
 | (n,kd)::r,k,b,h,e=>by
  unfold cellsFrom at e;by_cases hr:(x,NameKind.cell)∈r
  .split at e
   .exact cB (pB r _ _ hr e)
   .exact pB r _ _ hr e
  .rcases aG.mp h with q|q
   .cases q;rw[aR (by rfl),m4 r _ _ hr,cA,beq_self_eq_true]at e;cases e;exact aL _
   .exact absurd q hr
theorem pK:∀d k a,(∀x y c,a.lookup x=some c->a.lookup y=some c->x=y)->(∀x c,a.lookup x=some c->c<k)->
  ∀x y c,(cellsFrom k d a).lookup x=some c->(cellsFrom k d a).lookup y=some c->x=y
 |[],_,_,h,_=>h
 | (n,kd)::r,k,a,h,hl=>by
  unfold cellsFrom;split
  .refine pK r (k+1) ((n,k)::a) (λx y c b e=>?_) λx c b=>?_
   .rw[cA]at b e;cases f:x==n with
    |true=>
     cases g:y==n with
     |true=>rw[beq_iff_eq.mp f,beq_iff_eq.mp g]
     |false=>rw[f]at b;rw[g]at e;cases b;exact absurd (hl _ _ e) (bf _)
    |false=>
     rw[f]at b;cases g:y==n with
     |true=>rw[g]at e;cases e;exact absurd (hl _ _ b) (bf _)
     |false=>rw[g]at e;exact h x y c b e
   .rw[cA]at b;cases f:x==n with
    |true=>rw[f]at b;cases b;exact bJ _
    |false=>rw[f]at b;exact cC (hl x c b)
  .exact pK r k a h hl
theorem oG:∀a h b,(cellsFrom h.objs.size a b).lookup x=some c->b.lookup x=some c\/(h.objs.size<=c/\(pushCells h a).IsCell c none)
 |[],_,_,e=>.inl e
 | (n,kd)::r,h,b,e=>by
  unfold cellsFrom at e;unfold pushCells;split at e
  .rename_i d;rw[aR d];have g:(cellsFrom (h.push {cls:=.type "cell",data:=.cell none}).objs.size r ((n,h.objs.size)::b)).lookup x=some c:=by rw[Heap.size_push];exact e
   rcases oG r _ _ g with q|⟨q,m⟩
   .rw[cA]at q;cases f:x==n with
    |true=>rw[f]at q;cases q;exact .inr ⟨aL _,_,pushCells_keeps r _ _ _ (ar _ rfl),rfl⟩
    |false=>rw[f]at q;exact .inl q
   .rw[Heap.size_push]at q;exact .inr ⟨cB q,m⟩
  .rename_i d;rw[aS d];exact oG r _ _ e
def vX{M:Model}{A:Around}{E:Value->Shared->Prop}{s:Shared}{a:Scope}{globals:Addr}{closure:List (Str×Addr)}{d:Str}{c:Option Addr}{e:Value}{b:Env}{builtins:Addr}{Q:Env->Shared->Prop}
  (j:Q (newEnv a s.heap.objs.size globals (cellsFrom (s.heap.objs.size+1) a.names closure) d c e (some b) builtins) {s with heap:=pushCells (s.heap.push {cls:=.type "dict",data:=.dict #[]}) a.names}) :
  wpAny M A (newFunctionEnv a globals closure [] d c e (some b) builtins) Q E s:=by
 simp only[newFunctionEnv,cD,if_true];refine ao (wpAny_alloc ?_);refine ao (wpAny_layCells _ (λi f g=>by cases h:f==NameKind.cell<;>simp[h]) _ _ _ _ ?_);rw[show ({s with heap:=s.heap.push {cls:=.type "dict",data:=.dict #[]}}:Shared).heap.objs.size=s.heap.objs.size+1 from Heap.size_push ..];rw[cE];exact ao (ak (ak j))
noncomputable def nN(X:Cx)(N:List Str)(a:Scope)(C:Addr)(b:Shared)(H:Hp)(ex:List Addr)(pn:List (Addr×Obj)):Cx:={X with N:=N,s₀:=b,H₀:=H,env:=compEnvC a (cellsFrom (C+1) a.names (ny X.env a.names [])) C X.env,outer:=X.stack,ex:=ex,fn:=λx=>a.names.lookup x==some .cell,pn:=pn,xe:=λ_ _=>False}
noncomputable def pull(a:List (Option Nat))(b:St):St:=a.map fun
 |none=>none
 |some j=>(b[j]?).getD none
def WQ(J:It)(n:List (Option Nat))(g:TG)(l:TT)(p:TE)(h:St)(o:Hp)(Q:VK):Prop:=∃W:Nat->Nat->List V->Hp->Prop,(∃m,W 0 m [] o)/\∀i m d H,W i m d H->
 (J.stop i H/\∀D,H D=none->Q (.ref D) (i6 H D (.lst d)))\/
 (J.go i H/\d.length<sizeLine/\∀x e,J.yld i H x e->g x (pull n h) e λa j=>l a j λb f=>if b=true then p a f λy k=>∃c,c<m/\W (i+1) c (d++[y]) k else ∃c,c<m/\W (i+1) c d f)
def ND(b:List (Option Nat))(e:TI)(g:TG)(d:TT)(f:TE):TE:=λa H Q=>e a H λJ c=>WQ J b g d f a c Q
end L2
namespace L2
open PySem PySem.Spec PyProof.Rows
section
variable {prog:Program}{w:World}{A:Around}{R:Result->Shared->Prop}{s:Shared}
theorem Bf{p F f:Expr}{u:List Expr}{d:Scope}{E:Pos}{it q:Value}{a:Env}(J:Nat->Shared->Prop)
  (turn:∀n s,J n s->wpAny (model prog w) A (pyNext it) (λr e=>match r with
   |none=>R (.ok .next) e
   |some v=>wpAny (model prog w) A (letOwnedTupleGo F it v) (λ_ o=>wpAny (model prog w) A (assign F a v) (λ_ i=>
     wpAny (model prog w) A (forIn u true λc r=>if r=true then do let ok <-isTrue c a (eval c a);pure (ForInStep.yield ok) else pure (ForInStep.yield r)) (λok b=>
      if ok=true then wpAny (model prog w) A (eval p a) (λx k=>wpAny (model prog w) A (call (.builtin "list.append") [q,x]) (λ_ j=>∃m,m<n/\J m j) (λ_ _=>False) k) (λ_ _=>False) b
      else ∃m,m<n/\J m b) (λ_ _=>False) i) (λ_ _=>False) o) (λ_ _=>False) e) (λ_ _=>False) s)
  (n:Nat) (h:J n s):codeAny (model prog w) A (.compLoop (.ListComp p [⟨F,f,u,0⟩] d E) 0 it q a) R s:=by
 refine codeAny_loop rfl J (λn s H=>?_) n h;show wpAny _ A ((compTurn (.ListComp p [⟨F,f,u,0⟩] d E) 0 it q a).onRaise (λx=>do noteFrame x a;theTreesLotGoes x)) _ _ s;refine wpAny_noted ?_;rw[compTurn_list];refine ao (wpAny_standAt (ao (wpAny_mono (turn n s H) (λr e g=>?_) λ_ _ z=>z.elim)));cases r with
 |none=>exact ak g
 |some v=>
  refine ao (wpAny_mono g (λ_ o B=>?_) λ_ _ z=>z.elim);refine ao (wpAny_mono B (λ_ i C=>ao (wpAny_mono C (λok b l=>?_) λ_ _ z=>z.elim)) λ_ _ z=>z.elim);cases ok with
  |false=>exact ak ⟨rfl,l⟩
  |true=>exact ao (ao (wpAny_mono l (λx k y=>ao (wpAny_mono y (λ_ j D=>ak (ak ⟨rfl,D⟩)) λ_ _ z=>z.elim)) λ_ _ z=>z.elim))
end
def qB(c:List (Option Nat))(g:TG):Prop:=∀x a H Q,g x a H Q->g x a H λb d=>(∀i j:Nat,c[i]? = some (some j)->b[i]? = a[i]?)/\Q b d
def yJ(b:ix[k]? = some none):qB ix (j9 k):=λx a H Q h=>by
 refine⟨λi j e=>?_,h⟩;have:k≠i:=by rintro rfl;rw[b]at e;cases e
 rw[aq this]
abbrev zI(us:List Value):Obj:={cls:=.type "list",data:=.seq us.toArray us.length}
section
variable {X:Cx}{tg elt iter:Expr}{ifs:List Expr}{scope:Scope}{pos:Pos}{N:List Str}{ix:List (Option Nat)}{wi:TI}{g:TG}{tt:TT}{te:TE}
structure Eb(X:Cx)(scope:Scope)(N:List Str)(ix:List (Option Nat)):Prop where
 kind:scope.kind=.function
 sep:∀y∈scope.names,y.2=.cell->scope.names.lookup y.1=some .cell
 names:∀y∈scope.names,y.2=.local->scope.names.lookup y.1=some .local
 fre:∀y∈scope.names,y.2=.free->∃c,X.env.cells.lookup y.1=some c
 len:N.length=ix.length
 ix:∀(i j:Nat) (x:Str),N[i]? = some x->ix[i]? = some (some j)->X.N[j]? = some x/\scope.names.lookup x=some .free/\Uj X.env.scope x/\X.env.kindOf x≠some .local
def UG(L:Eb X scope N ix)(I:iq X gQ σ H s)(f:∀b∈fp,vN X gQ H b)(i:∀b∈fp,b<s.heap.objs.size) o :
  (nN X N scope (s.heap.objs.size+1) {s with heap:=s.heap.push o} H (s.heap.objs.size::fp) (X.pn++gQ)).Ok:=by
 have w:iq X gQ σ H {s with heap:=s.heap.push o}:=I.kept λb u e=>ae _ e;have sound0:∀x c,(ny X.env scope.names []).lookup x=some c->X.env.cells.lookup x=some c:=λx c e=>mV (λy d z=>by simp at z) e;have cellLt:∀x c,X.env.cells.lookup x=some c->c<s.heap.objs.size:=λx c e=>let ⟨_,q⟩:=I.cell x c e;q.lt;have h:∀x c,(cellsFrom (s.heap.objs.size+1+1) scope.names (ny X.env scope.names [])).lookup x=some c->X.env.cells.lookup x=some c\/s.heap.objs.size+1+1<=c:=λx c e=>by
  rcases n8 _ _ _ e with q|⟨q,_⟩
  .exact .inl (sound0 x c q)
  .exact .inr q
 refine⟨I.ok.mod,L.kind,I.ok.glob,I.ok.blt,?_,pK _ _ _ (λx y c j n=>I.ok.inj x y c (sound0 x c j) (sound0 y c n)) (λx c j=>cC (cC (cellLt x c (sound0 x c j)))),λx r=>?_,λx c j n=>?_,I.ok.hd,I.ok.frames,.inl rfl,λb a=>?_,λb u e=>?_,?_,λb u e a=>?_,λb a=>?_,w.stack,I.stkFree,I.tab⟩
 .show (s.heap.push o).objs.size<=s.heap.objs.size+1;rw[Heap.size_push];exact aL _
 .refine bO.mp (W.cellsFrom_some _ _ _ ?_);rcases uR r with k|k
  .exact .inr (bO.mpr (p9 k (L.fre _ k rfl)))
  .exact .inl k
 .have m:(scope.names.lookup x==some .cell)=true:=j;have v:scope.names.lookup x=some .cell:=by simpa using m
  show (s.heap.push o).objs.size<=c;rw[Heap.size_push];exact cB (pB _ _ _ (PySem.mem_of_lookup v) n)
 .rcases aG.mp a with rfl|a
  .refine⟨aN (bJ _),λx c e z=>?_⟩;rcases h x c e with q|q
   .exact absurd (cellLt x c q) (by rw[z];exact bf _)
   .rw[z]at q;omega
  .refine⟨aN (cC (i b a)),λx c e=>?_⟩;rcases h x c e with q|q
   .exact (f b a).2.2.2.2.1 x c q
   .intro z;rw[z]at q;exact absurd (aO (cF _ 2) q) (Nat.not_le.mpr (i b a))
 .exact⟨ae _ (I.bs b u e).1,(I.bs b u e).2⟩
 .show X.base.objs.size<=(s.heap.push o).objs.size;rw[Heap.size_push];exact cG (aO I.ok.bsz I.sz)
 .have l:=aM (I.bs b u e).1;rcases aG.mp a with rfl|a
  .exact bf _ l
  .rcases (f b a).2.2.2.1 with z|z
   .exact I.ok.noex b u e z
   .exact absurd (aF (aM e) (aO I.ok.bsz z)) (bf _)
 .intro z;have p:=I.stkSub b z;rcases aG.mp a with rfl|a
  .rcases aG.mp p with q|q
   .exact absurd I.lt (by rw[<-q];exact bf _)
   .exact I.nofs (aL _) q
  .rcases aG.mp p with q|q
   .exact (f b a).2.1 q
   .exact (f b a).2.2.1 q
end
end L2
namespace L2
open PySem PySem.Spec PyProof.Rows
section
variable {X:Cx}{tg elt iter:Expr}{ifs:List Expr}{scope:Scope}{pos:Pos}{N:List Str}{ix:List (Option Nat)}{wi:TI}{g:TG}{tt:TT}{te:TE}
def DD{i:Nat}(h:(pull ix σ)[i]? = some (some v)):∃j,ix[i]? = some (some j)/\σ[j]? = some (some v):=by
 unfold pull at h;rw[aw]at h;cases e:ix[i]? with
 |none=>rw[e]at h;cases h
 |some k=>
  rw[e]at h;cases k with
  |none=>cases h
  |some j=>
   refine⟨j,rfl,?_⟩;have a:(σ[j]?).getD none=some v:=by simpa using h
   cases q:σ[j]? with
   |none=>rw[q]at a;cases a
   |some z=>rw[q]at a;simpa using a
theorem GN{RR:Value->Addr->Result->Shared->Prop}{Q:VK}{W:Nat->Nat->List V->Hp->Prop}
  (hc:X.calm=true) (L:Eb X scope N ix) (hgk:qB ix g)
  (blk:∀C P H ex pn,PG (nN X N scope C P H ex pn) tg g/\Iy (nN X N scope C P H ex pn) ifs tt/\PE (nN X N scope C P H ex pn) elt te)
  (l:iq X gQ σ H2 s2) (T:FU X.prog X.w X.K tg J fp it tn) (st2:tn 0 s2.heap) (f2:∀b∈fp,vN X gQ H2 b) (w0:W 0 m0 [] H2)
  (turn:∀i m Z H,W i m Z H->(J.stop i H/\∀D,H D=none->Q (.ref D) (i6 H D (.lst Z)))\/
   (J.go i H/\Z.length<sizeLine/\∀x s,J.yld i H x s->g x (pull ix σ) s λσ2 H2=>tt σ2 H2 λb H3=>if b=true then te σ2 H3 λy H4=>∃m',m'<m/\W (i+1) m' (Z++[y]) H4 else ∃m',m'<m/\W (i+1) m' Z H3))
  (fin:∀D C m s Y,Y.heap.Ns C m->vN X gQ s C->iq X gQ σ s Y->Q (.ref D) s->RR (.ref D) C (.ok .next) Y) :
  wpAny (model X.prog X.w) X.A (newList []) (λacc P=>wpAny (model X.prog X.w) X.A (newFunctionEnv scope X.env.globals (ny X.env scope.names []) [] X.env.qual none .none (some X.env)) (λcenv s₄=>codeAny (model X.prog X.w) X.A (.compStart (.ListComp elt [⟨tg,iter,ifs,0⟩] scope pos) 0 (.ref it) acc {cenv with scope:=relabel scope X.env}) (RR acc cenv.locals) s₄) E P) E s2:=by
 refine wpAny_newObj_type (vX ?_);have hCs:(s2.heap.push {cls:=.type "list",dict:=none,data:=.seq ([]).toArray}).objs.size=s2.heap.objs.size+1:=Heap.size_push ..;generalize S:pushCells ((s2.heap.push {cls:=.type "list",dict:=none,data:=.seq ([]).toArray}).push {cls:=.type "dict",data:=.dict #[]}) scope.names=h₁;rw[hCs];have hns₁:h₁.Ns (s2.heap.objs.size+1) (λ_=>none):=by rw[<-S,<-hCs];exact (Heap.Ns.new _ _).keeps (pushCells_keeps _ _)
 have U:∀x c,(cellsFrom (s2.heap.objs.size+1+1) scope.names (ny X.env scope.names [])).lookup x=some c->X.env.cells.lookup x=some c\/(s2.heap.objs.size+1+1<=c/\h₁.IsCell c none):=λx c e=>by
  have hs3:((s2.heap.push {cls:=.type "list",dict:=none,data:=.seq ([]).toArray}).push {cls:=.type "dict",data:=.dict #[]}).objs.size=s2.heap.objs.size+1+1:=by rw[Heap.size_push,hCs]
  rw[<-hs3]at e;rcases oG _ _ _ e with q|⟨q,m⟩
  .exact .inl (mV (λy d z=>by simp at z) q)
  .rw[hs3]at q;rw[S]at m;exact .inr ⟨q,m⟩
 have fpObj:=T.obj 0 _ st2;have hlt:∀b∈fp,b<s2.heap.objs.size:=λb h=>let ⟨_,e,_⟩:=fpObj b h;aM e;have ok:=UG L l f2 hlt {cls:=.type "list",dict:=none,data:=.seq ([]).toArray};have DC:s2.heap.objs.size≠s2.heap.objs.size+1:=aN (bJ _);have hold:∀b o,(s2.heap.push {cls:=.type "list",dict:=none,data:=.seq ([]).toArray}).get? b=some o->h₁.get? b=some o:=λb o e=>by rw[<-S];exact pushCells_keeps _ _ _ _ (ae _ e)
 have old:∀b o,s2.heap.get? b=some o->h₁.get? b=some o:=λb o e=>hold b o (ae _ e);have sound:∀x c,(ny X.env scope.names []).lookup x=some c->X.env.cells.lookup x=some c:=λx c e=>mV (λy d z=>by simp at z) e;have cellLt:∀x c,X.env.cells.lookup x=some c->c<s2.heap.objs.size:=λx c e=>let ⟨_,q⟩:=l.cell x c e;q.lt;have hDn:=l.hok.fresh (aL _);have hCn:=l.hok.fresh (bM _);have F:∀p∈X.pn++gQ,p.1<s2.heap.objs.size:=λp f=>aM (l.pin p f).1;have hDfs:s2.heap.objs.size∉HD X.stack:=λz=>by
  rcases aG.mp (l.stkSub _ z) with q|q
  .exact absurd l.lt (by rw[<-q];exact bf _)
  .exact l.nofs (aL _) q
 have I':iq (nN X N scope (s2.heap.objs.size+1) {s2 with heap:=s2.heap.push {cls:=.type "list",dict:=none,data:=.seq ([]).toArray}} H2 (s2.heap.objs.size::fp) (X.pn++gQ))
   [(s2.heap.objs.size,zI [])] (pull ix σ) H2 {s2 with heap:=h₁,toks:=s2.toks}:=by
  refine⟨ok,rfl,l.bare,Un.kept hold,⟨_,hns₁,λi x v h1 h2 h3=>?_⟩,λx c e=>?_,hCn,λx c e=>?_,λp f=>?_,l.hok.kept old,?_⟩
  .obtain⟨j,ej,es⟩:=DD h2;obtain⟨q1,q2,q3,q4⟩:=L.ix i j x h1 ej;obtain⟨m,_,hl⟩:=l.loc;obtain⟨u,r,lk⟩:=hl j x v q1 es q3;refine⟨u,r,?_⟩;rcases lk with⟨k,_⟩|⟨k,c,hcl,hv⟩
   .exact absurd k q4
   .obtain⟨c',hc'⟩:=p9 (PySem.mem_of_lookup q2) ⟨c,hcl⟩;have:=sound x c' hc';rw[hcl]at this;cases this;have hnc:(x,NameKind.cell)∉scope.names:=λz=>by have:=L.sep _ z rfl;rw[q2]at this;cases this
    refine .inr ⟨?_,c,(m4 _ _ _ hnc).trans hc',let ⟨ob,ho,hd⟩:=hv;⟨ob,old c ob ho,hd⟩⟩;exact BK q2
  .rcases U x c e with q|⟨_,q⟩
   .obtain⟨v,ob,ho,hd⟩:=l.cell x c q;exact⟨v,ob,old c ob ho,hd⟩
   .exact⟨none,q⟩
  .rcases U x c e with q|⟨q,_⟩
   .exact l.freeC x c q
   .exact l.hok.fresh (aO (cF _ 2) q)
  .rcases ai.mp f with f|f
   .obtain⟨e,n,ne,nf,d⟩:=l.pin p f;refine⟨old _ _ e,n,aN (cC (F p f)),λz=>?_,d⟩;rcases aG.mp (l.stkSub _ z) with q|q
    .exact ne q
    .exact nf q
   .have e:p=(s2.heap.objs.size,zI []):=by simpa using f
    subst e;exact⟨hold _ _ (ar _ rfl),hDn,DC,hDfs,λv z=>by cases z⟩
  .unfold pull;rw[ax];exact L.len.symm
 generalize a:nN X N scope (s2.heap.objs.size+1) {s2 with heap:=s2.heap.push {cls:=.type "list",dict:=none,data:=.seq ([]).toArray}} H2 (s2.heap.objs.size::fp) (X.pn++gQ)=X' at I';obtain⟨hg,hif,he⟩:=blk (s2.heap.objs.size+1) {s2 with heap:=s2.heap.push {cls:=.type "list",dict:=none,data:=.seq ([]).toArray}} H2 (s2.heap.objs.size::fp) (X.pn++gQ);rw[a]at hg hif he;have stat:∀{s:Hp} {R:List Value},(∀b∈fp,s b=none)->∀b∈fp,vN X' [(s2.heap.objs.size,zI R)] s b:=λ{s R} hn b h=>by
  subst a;obtain⟨_,f1,f2',f3,f4,f5⟩:=f2 b h;refine⟨hn b h,aN (cC (hlt b h)),λz=>?_,.inl (bx _ h),λx c e=>?_,λp f=>?_⟩
  .rcases aG.mp (l.stkSub _ z) with q|q
   .exact f1 q
   .exact f2' q
  .rcases U x c e with q|⟨q,_⟩
   .exact f4 x c q
   .intro z;rw[z]at q;exact absurd (aO (cF _ 2) q) (Nat.not_le.mpr (hlt b h))
  .rcases ai.mp f with f|f
   .exact f5 p f
   .have e:p=(s2.heap.objs.size,zI R):=by simpa using f
    subst e;exact Ne.symm (aN (hlt b h))
 have loop:codeAny (model X.prog X.w) X.A (.compLoop (.ListComp elt [⟨tg,iter,ifs,0⟩] scope pos) 0 (.ref it) (.ref s2.heap.objs.size) X'.env) (RR (.ref s2.heap.objs.size) (s2.heap.objs.size+1))
   {s2 with heap:=h₁,toks:=s2.toks}:=by
  refine Bf (λn Y=>∃i Z R s,iq X' [(s2.heap.objs.size,zI R)] (pull ix σ) s Y/\iL Z R/\Z.length<=sizeLine/\tn i Y.heap/\(∀b∈fp,s b=none)/\W i n Z s) ?_ m0
   ⟨0,[],[],H2,I',.nil,bK _,T.keep _ _ _ st2 λb _ o e=>old b o e,λb h=>(f2 b h).1,w0⟩
  rintro n s3 ⟨i,Z,R,H3,I3,rv,hz,st3,fr3,w3⟩;have hcX:X'.calm=true:=by subst a;exact hc
  have hA:X'.A=X.A:=by subst a;rfl
  rcases turn i n Z H3 w3 with⟨stop,qn⟩|⟨go,mD,step⟩
  .have hd:=T.done X' (by subst a;rfl) (by subst a;rfl) (by subst a;rfl) hcX i _ s3 _ H3 (λ_ _=>False) I3 (stat fr3) st3 stop;rw[hA]at hd;refine kl hd λr s4 ⟨hr,I4⟩=>?_;subst hr;subst a;obtain⟨m,hn,_⟩:=I4.loc;have hD3:=I4.pin (s2.heap.objs.size,zI R) (bE _ bt);have u1:Un (HD X.stack) fp H2 H3 s2.heap s4.heap:=by
    have B:=I4.base;have nD:∀b o,s2.heap.get? b=some o->b∉fp->b∉s2.heap.objs.size::fp:=λb o e h z=>by
     rcases aG.mp z with q|q
     .exact absurd (aM e) (by rw[q];exact bf _)
     .exact h q
    exact⟨λb o e n h hx=>B.keep b o (ae _ e) n h (nD b o e hx),λb o e n h hx=>B.slot b o (ae _ e) n h (nD b o e hx),
     λb o e n hx=>B.free b o (ae _ e) n (nD b o e hx),λb o e hx=>B.there b o (ae _ e) (nD b o e hx),B.tups,B.frzs,B.tbls⟩
   have I5:=l.call' I4.os u1 I4.hok I4.bare λb h=>let ⟨_,f1,_,f3,f4,f5⟩:=f2 b h;⟨f3,f1,f4,f5⟩;have I6:iq X gQ σ (i6 H3 s2.heap.objs.size (.lst Z)) s4:=I5.track hD3.2.1 (.inr l.sz) (Ne.symm (aN l.lt)) (λx c e z=>absurd (cellLt x c e) (by rw[z];exact bf _))
    (λp f=>aN (F p f)) ⟨hz,R,R.length,rv,hD3.1⟩
   refine fin _ _ m _ s4 hn ⟨?_,?_,?_,.inr (cG l.sz),λx c e z=>?_,λp f=>?_⟩ I6 (qn _ hD3.2.1)
   .rw[hV (Ne.symm DC)];exact I4.free
   .exact Ne.symm (aN (cC l.lt))
   .exact l.nofs (bM _)
   .exact absurd (cellLt x c e) (by rw[z];exact cH.mpr (bM _))
   .exact aN (cC (F p f))
  .have hd:=T.item X' (by subst a;rfl) (by subst a;rfl) (by subst a;rfl) hcX i _ s3 _ H3 (λ_ _=>False) I3 (stat fr3) st3 go;rw[hA]at hd;refine kl hd λr s4 ⟨u,hr,h4⟩=>?_;subst hr;refine kl h4 λ_ s5 ⟨x,H5,I5,r5,y5,st5,fr5⟩=>?_;have I5':=I5.pinned (stat fr5) (T.obj _ _ st5);have hM:model X'.prog X'.w=model X.prog X.w:=by subst a;rfl
   have hE:X'.xe=λ_ _=>False:=by subst a;rfl
   have a6:=hg _ s5 _ H5 x u _ I5' r5 (hgk x _ H5 _ (step x H5 y5));rw[hM,hA,hE]at a6;refine kl a6 λ_ s6 ⟨σ6,H6,I6,agr,q6⟩=>?_;have a7:=hif _ s6 σ6 H6 _ I6 q6;rw[hM,hA,hE]at a7;refine kl a7 λok s7 ⟨H7,I7,q7⟩=>?_;have back:∀{Y:Shared} {s:Hp} {pl:List (Addr×Obj)},iq X' pl σ6 s Y->iq X' pl (pull ix σ) s Y:=λ{Y s pl} I=>by
    refine I.weak ?_ λk v e=>?_
    .have e1:=I.len;have e2:=I3.len;rw[e1,e2]
    .obtain⟨j,ej,_⟩:=DD e;rw[agr k j ej];exact e
   have held:∀{Y:Shared} {s:Hp},iq X' ([(s2.heap.objs.size,zI R)]++xK fp s5.heap) σ6 s Y->tn (i+1) Y.heap/\∀b∈fp,s b=none:=λ{Y s} I=>by refine⟨T.keep _ _ _ st5 λb h o e=>(I.pin (b,o) (bE _ (bE _ (qx h e)))).1,λb h=>?_⟩;obtain⟨o,e,_⟩:=T.obj _ _ st5 b h;exact (I.pin (b,o) (bE _ (bE _ (qx h e)))).2.1
   cases ok with
   |false=>rw[aS aI]at q7 ⊢;obtain⟨m',hm,w7⟩:=q7;obtain⟨k1,k2⟩:=held I7;exact⟨m',hm,i+1,Z,R,H7,(back I7).unpinned,rv,hz,k1,k2,w7⟩
   |true=>
    rw[aR rfl]at q7 ⊢;have a8:=he _ s7 σ6 H7 _ I7 q7;rw[hM,hA,hE]at a8;refine kl a8 λy s8 ⟨yv,H8,I8,r8,m',hm,w8⟩=>?_;obtain⟨k1,k2⟩:=held I8;have hD8:=I8.pin (s2.heap.objs.size,zI R) (bE _ (ay _ bt));have hl:=rv.length;refine append_at hD8.1 λh9 sb hD9=>?_;have I9:iq X' [] (pull ix σ) H8 s8:=(back I8).pins_of λp f=>by simp at f
    have I10:=I9.turned (t':=s8.toks) (λb o h e=>sb.extBut b o h e) hD8.2.1 hD8.2.2.1 (.inl (by subst a;exact bt))
     (λx c e z=>by
      subst a;rcases U x c e with q|⟨q,_⟩
      .exact absurd (cellLt x c q) (by rw[z];exact bf _)
      .rw[z]at q;omega) (λp f z=>by
      subst a;rcases ai.mp f with f|f
      .exact absurd (F p f) (by rw[z];exact bf _)
      .simp at f)
    have e9:h9.get? s2.heap.objs.size=some (zI (R++[y])):=by rw[hD9];simp
    refine⟨m',hm,i+1,Z++[yv],R++[y],H8,I10.pins_of λp f=>?_,rv.append (.cons r8 .nil),by rw[aU,cf];omega,?_,k2,w8⟩
    .have e:p=(s2.heap.objs.size,zI (R++[y])):=by simpa using f
     subst e;exact⟨e9,hD8.2.1,hD8.2.2.1,hD8.2.2.2.1,λv z=>by cases z⟩
    .exact T.keep _ _ _ k1 λb h o e=>sb.extBut b o (aN (hlt b h)) e
 have loop':=loop;subst a;exact codeAny_compStart_list loop (T.self X.A 0 _ _ _ (T.keep _ _ _ st2 λb _ o e=>old b o e) loop')
def U9(R:X.calm=true)(w:PI X tg iter wi)(L:Eb X scope N ix)(i:qB ix g)
  (d:∀C a H j c,PG (nN X N scope C a H j c) tg g/\Iy (nN X N scope C a H j c) ifs tt/\PE (nN X N scope C a H j c) elt te)
  (r:∀x,foldedSetIterable iter X.env x=pure x:=by intro _;rfl):PE X (.ListComp elt [⟨tg,iter,ifs,0⟩] scope pos) (ND ix wi g tt te):=by
 intro P s y H Q I h;rw[eval_ListComp];refine wpAny_comprehension_free rfl r (sE L.fre) L.kind L.names (kl (w P s y H _ I h) λv Y S=>kl S λA s2 B=>?_);obtain⟨it,Z,tn,J,H2,e,K,T,k,u,W,⟨U,E⟩,turn⟩:=B;subst e;refine GN R L i d K T k u E turn λD C m p s' F f l q=>?_;refine⟨m,F,λh' n=>⟨.ref D,p,l.turned (λb o z e=>n.extBut b o z e) f.1 f.2.1 f.2.2.2.1 f.2.2.2.2.1 f.2.2.2.2.2,rfl,q⟩⟩
end
end L2
namespace L2
open PySem PySem.Spec PyProof.Rows
structure ib(K:W.Frag)(mg:Str->Option Value)(x:Str)(st:Stmt):Prop where
 ex:∃f fd,NL K x x st f fd/\mg x=some (.ref f)
def SJ{K:W.Frag}{st:Stmt}{kV d e b g:Value}(X:K.In h)(G:h.Ns mainGlobals mg)
  (a:W.nsIn K mainGlobals x=some (some (.ref f)))
  (l:K.lookup f=some ⟨oc,od,.func (W.fnOf x x (j7 st) (iR st) (gZ st) .none kV d e an b g),osl⟩)
  (c:W.codeIn K b x=true) (k:W.keepIn K (.ref f)=true):ib K mg x st:=⟨f,_,EI l c k,W.mg_of X G a⟩
structure lQ(P:Program)(w:World)(K:W.Frag)(mg:Str->Option Value)(base:Heap)(x:Str)(k:Nat)(sp:Sp):Prop where
 ex:∃f fd ps,nQ P w K mg base sQ k f fd ps sp/\mg x=some (.ref f)/\W.keepIn K (.ref f)=true/\qJ K fd ps []
def lQ.mono{K:W.Frag}(h:lQ P w K mg base x j sp)(d:j<=k):lQ P w K mg base x k sp:=
 let ⟨f,fd,ps,F,a,b,c⟩:=h.ex
 ⟨f,fd,ps,F.mono d,a,b,c⟩
def Cf{K:W.Frag}{st:Stmt}(D:ib K mg x st)(S:ji N ps (gZ st))
  (h:∀(kV e i:Value) (l:Option Addr) (a n:Value) (us:List Value),us.length=ps.length->bindArgs (W.fnOf x x (j7 st) (iR st) (gZ st) .none kV e i l a n) ⟨us,[]⟩=pure (ps.zip us))
  (d:∀vs H Q E,sp vs H Q E->vs.length=ps.length)
  (b:∀f a A c s H vs Q E,je k (A.deeper (envOfC x (gZ st) s.heap.objs.size f a))->sp vs H Q E->
   ∃t,BU (ou sQ P w K mg base N x (gZ st) f a A c s H E).nox (iR st) t/\t {nx:=λ_ g=>Q .non g,rt:=Q} (lV N vs) H):lQ P w K mg base x (k+1) sp:=by
 obtain⟨f,j,F,m⟩:=D.ex;exact⟨f,j,ps,F.ok S d (b f),m,F.kp,F.binds h⟩
section
variable {X:Cx}{x:Str}{k:Nat}{sp:Sp}{e:Expr}{es:List Expr}{t:TA}{p pos:Pos}
def Ei(h:lQ X.prog X.w X.K X.mg X.base x k sp)(hr:je k X.A)(i:PA X (e::es) t)(l:Gl X x:=by rfl)
  (g:(x==("__debug__" : Str))=false:=by decide) (j:starEach (e::es) X.env=(false,eval e X.env)::starEach es X.env:=by rfl) (d:(backTo pos (starEach es X.env)).any (·.1)=false:=by rfl) :
  PE X (.Call (.Name x p) (e::es) [] pos) (A3 sp [] E0 t):=by
 obtain⟨f,n,m,F,a,b,c⟩:=h.ex;exact Pa F hr l a b c .nil Hm i g j d
end
def N5:rK X (binaryOp .Mult) (rI (λi j=>PySem.IntMulOk i j) λi j=>.int (i*j)):=V6 λ_ _ _ _ _ _ _ a q=>mul_int q a
def Jy:rK X (binaryOp .FloorDiv) (rI (λi j=>j≠0/\Builtin.divisionGoesByPylong i j=false) λi j=>.int (i.fdiv j)):=V6 λ_ _ _ _ _ _ _ a q=>floordiv_int a.1 q (.inl a.2)
end L2
namespace L2
open PySem PySem.Spec PyProof.Rows PySem.W PySem.Calls
theorem Ah:∀{a:List Addr} {us:List Value},iL (a.map V.ref) us->us=a.map Value.ref
 |[],_,.nil=>rfl
 |d::a,u::us,.cons r t=>by have e:=r;rw[e,Ah t];rfl
end L2
namespace L2
open PySem PySem.Spec PyProof.Rows PySem.W
mutual
inductive DV(K:Frag)(H:Hp):V->PyData->Prop
 |non:DV K H .non .none
 |bl (b:Bool):DV K H (.bl b) (.bool b)
 |int (i:Int):DV K H (.int i) (.int i)
 |str (x:Str):DV K H (.str x) (.str x)
 |lst {a:Addr} {xs:List V} {ds:List PyData} (h:l9 K H a xs) (hs:Ed K H xs ds):DV K H (.ref a) (.list ds)
 |tup {a:Addr} {xs:List V} {ds:List PyData} (h:nu K H a xs) (hs:Ed K H xs ds):DV K H (.ref a) (.tuple ds)
inductive Ed(K:Frag)(H:Hp):List V->List PyData->Prop
 |nil:Ed K H [] []
 |cons {v:V} {d:PyData} {vs:List V} {ds:List PyData} (h:DV K H v d) (hs:Ed K H vs ds):Ed K H (v::vs) (d::ds)
end
section
variable {X:Cx}{gQ:List (Addr×Obj)}{σ:St}{H:Hp}{s:Shared}
mutual
theorem DV.reads(I:iq X gQ σ H s):∀{v} {d} {u},DV X.K H v d->i9 v u->∃as,Reads s.heap u d as
 |_,_,_,.non,r=>by cases r;exact⟨_,.none⟩
 |_,_,_,.bl b,r=>by cases r;exact⟨_,.bool b⟩
 |_,_,_,.int i,r=>by obtain⟨t,rfl⟩:=r;exact⟨_,.int i t⟩
 |_,_,_,.str x,r=>by obtain⟨t,rfl⟩:=r;exact⟨_,.str x t⟩
 |_,_,_,.lst h hs,r=>by cases r;obtain⟨c,g,⟨o,n,e,j,k,f⟩,_⟩:=I.list h;obtain⟨as,a⟩:=Ed.reads I hs g;exact⟨_,.list e j f (by simpa using a)⟩
 |_,_,_,.tup h hs,r=>by cases r;obtain⟨c,g,⟨o,e,j,n,f⟩,_⟩:=I.tuple h;obtain⟨as,a⟩:=Ed.reads I hs g;exact⟨_,.tuple e j f (by simpa using a)⟩
theorem Ed.reads(I:iq X gQ σ H s):∀{vs} {ds} {us},Ed X.K H vs ds->iL vs us->∃as,ReadsAll s.heap us ds as
 |_,_,_,.nil,r=>by cases r;exact⟨_,.nil⟩
 |_,_,_,.cons h hs,r=>by
  cases r with
  |cons r1 r2=>obtain⟨as,b⟩:=DV.reads I h r1;obtain⟨bs,a⟩:=Ed.reads I hs r2;exact⟨_,.cons b a⟩
end
def FJ(K:Frag)(neg:Bool):R2:=λx y H Q=>∃a b,DV K H x a/\DV K H y b/\(a.canLay0=true/\b.canLay0=true/\a.depth<=100)/\Q (.bl (if neg then !PyData.eqv a b else PyData.eqv a b)) H
def Lc(k:X.A.units+200<cLine):rK X (compareOp .Eq) (FJ X.K false):=by intro n s j H x y v u Q I e d h;obtain⟨o,l,b,f,⟨a,g,m⟩,q⟩:=h;obtain⟨as,i⟩:=b.reads I e;obtain⟨bs,c⟩:=f.reads I d;exact SeqAt.eqOverData _ _ _ _ _ _ _ _ _ _ _ _ i c a g (by omega) ⟨.bl _,H,I,rfl,q⟩
def Kq(k:X.A.units+200<cLine):rK X (compareOp .NotEq) (FJ X.K true):=by intro n s j H x y v u Q I e d h;obtain⟨o,l,b,f,⟨a,g,m⟩,q⟩:=h;obtain⟨as,i⟩:=b.reads I e;obtain⟨bs,c⟩:=f.reads I d;exact SeqAt.neOverData _ _ _ _ _ _ _ _ _ _ _ _ i c a g (by omega) ⟨.bl _,H,I,rfl,q⟩
def VO(hr:je k A):A.units+200<cLine:=by have:=hr.un;omega
end
end L2
namespace L2
open PySem PySem.Spec PyProof.Rows
theorem CW:∀{bs:List Bool} {us:List Value},iL (bs.map V.bl) us->us=bs.map Value.bool
 |[],_,.nil=>rfl
 |b::bs,u::us,.cons r t=>by have e:=r;rw[e,CW t];rfl
theorem tX:∀{ns} {us},iL (ns.map V.int) us->IntsAre us ns
 |[],_,.nil=>.nil
 |n::ns,u::us,.cons r t=>by obtain⟨a,e⟩:=(r);rw[e];exact .cons n a (tX t)
def HX{bs:List Bool}:(List.range bs.length).all (λi=>bs.getD i false)=bs.all id:=by
 induction bs with
 |nil=>rfl
 |cons b bs ih=>rw[aA,cI,bW,cJ,bW,<-ih];rfl
def An{bs:List Bool}:(List.range bs.length).any (λi=>bs.getD i false)=bs.any id:=by
 induction bs with
 |nil=>rfl
 |cons b bs ih=>rw[aA,cI,bX,cK,bX,<-ih];rfl
section
variable {X:Cx}
def ID{bs:List Bool}:TruthOf prog w A (λi v=>(bs.map Value.bool).toArray[i]? = some v) (λi=>bs.getD i false):=λi v s Q E d c=>by
 have e:(bs.map Value.bool)[i]? = some v:=by simpa using d
 rw[aw]at e;cases a:bs[i]? with
 |none=>rw[a]at e;cases e
 |some b=>
  rw[a]at e;cases e;have:bs.getD i false=b:=by rw[af,a];rfl
  dsimp only at c;rw[this]at c;exact ak c
def Ms(l:X.calm=true):lO X (.builtin "all") (λxs H Q=>∃(p:Addr) (bs:List Bool),xs=[.ref p]/\l9 X.K H p (bs.map V.bl)/\Q (.bl (bs.all id)) H):=by
 intro B s w H xs x Q I r h;obtain⟨p,bs,rfl,j,q⟩:=h;obtain⟨u,rfl,k⟩:=sP r;cases k;obtain⟨d,m,c,n⟩:=I.list j;have e:=CW m;subst e;have a:p<s.heap.objs.size:=by obtain⟨_,e,_⟩:=c.isList;exact aM e
 refine call_all_walk (wpAny_pyIter_list c.isList ⟨s.heap.objs.size,_,_,_,_,_,λi=>bs.getD i false,rfl,Walks.list (A:=X.A.in1) (I.ok.hd l) _ p (aN a) _,⟨⟨_,ar _ rfl,rfl,rfl⟩,c.isList.push _⟩,ID,λy v g=>?_⟩);refine⟨.bl _,H,I.kept (λb o e=>g b o ?_ (ae _ e)),rfl,?_⟩
 .intro f;have:=aM e;have z:b=s.heap.objs.size:=by simpa using f
  rw[z]at this;exact bf _ this
 .rw[<-HX]at q;simpa using q
def Nb(l:X.calm=true):lO X (.builtin "sum") (λxs H Q=>∃(p:Addr) (b:LI),xs=[.ref p]/\l9 X.K H p (b.map V.int)/\Q (.int b.sum) H):=by intro y s v H xs w Q I r h;obtain⟨p,b,rfl,j,q⟩:=h;obtain⟨u,rfl,k⟩:=sP r;cases k;obtain⟨a,m,g,n⟩:=I.list j;have c:=tX m;obtain⟨xs,e⟩:=c.allInts.items;have d:=g.isList;rw[e]at d;refine sum_intListG (I.ok.hd l) d λx o f i=>⟨.int b.sum,H,I.kept i,⟨f,?_⟩,q⟩;rw[preSum_eq,cL (by simp),<-nums_intItems,<-e,show a.toArray.toList=a from rfl,c.numsOf]
def xU:bootBuiltins "all" = some (.builtin "all"):=by decide +kernel
def sR:bootBuiltins "any" = some (.builtin "any"):=by decide +kernel
def Gg:bootBuiltins "sum" = some (.builtin "sum"):=by decide +kernel
end
end L2
namespace L2
open PySem PySem.Spec PyProof.Rows
def ki(b:Bool)(h:Heap)(l:Addr)(xs:Array Value):Prop:=if b=true then h.IsTuple l xs else h.IsList l xs
def mU(b:Bool)(h:Heap)(it l:Addr)(k:Nat):Prop:=if b=true then h.IsTupleIter it l k else h.IsListIter it l k
noncomputable def yg(b:Bool):String:=if b=true then "tuple_iterator" else "list_iterator"
def mU.look(x:mU b h it l k):∃o,h.get? it=some o/\o.cls=.type (yg b)/\o.data=.fields #[.ref l,.int k 0]:=by
 cases b with
 |true=>exact (x)
 |false=>exact (x)
def mU.of{k:Nat}(x:∃o,h.get? it=some o/\o.cls=.type (yg b)/\o.data=.fields #[.ref l,.int k 0]):mU b h it l k:=by
 cases b with
 |true=>exact x
 |false=>exact x
def mU.to(x:mU b h it l k)(e:∀o,h.get? it=some o->h'.get? it=some o):mU b h' it l k:=by obtain⟨o,a,q⟩:=x.look;exact .of ⟨o,e o a,q⟩
def ki.look(x:ki b h l xs):∃o n,h.get? l=some o/\o.data=.seq xs n:=by
 cases b with
 |true=>obtain⟨o,a,_,n,c⟩:=(x);exact⟨o,n,a,c⟩
 |false=>obtain⟨o,a,_,n,c⟩:=(x);exact⟨o,n,a,c⟩
def ki.to(x:ki b h l xs)(e:∀o,h.get? l=some o->h'.get? l=some o):ki b h' l xs:=by
 cases b with
 |true=>obtain⟨o,a,q⟩:=(x);exact⟨o,e o a,q⟩
 |false=>obtain⟨o,a,q⟩:=(x);exact⟨o,e o a,q⟩
section
variable {prog:Program}{w:World}{A:Around}{E:Value->Shared->Prop}{s:Shared}
theorem Pi(d:s.heap.IsTupleIter it l k)(i:s.heap.IsTuple l xs)
  (p:∀x h',xs[k]? = some x->h'.IsTupleIter it l (k+1)->Heap.SameBut it s.heap h'->Q x {s with heap:=h'})
  (f:xs[k]? = none->A.handled=none/\∀h' e,Heap.ExtBut it s.heap h'->(∃o,h'.get? e=some o/\o.cls=.type "StopIteration")->E (.ref e) {s with heap:=h'}) :
  wpAny (model prog w) A (Builtin.SmallTypes.nextOf (.ref it)) Q E s:=by
 obtain⟨q,b,j,a⟩:=id d;obtain⟨r,h,_,n,m⟩:=i;unfold Builtin.SmallTypes.nextOf;refine ao (wpAny_callSpecial?_slot d.typeIs F.slot_tuple_iterator_next (wpAny_call_entry F.slot_tuple_iterator_next d.typeIs F.entry_tuple_iterator_next ?_ (F.args_tuple_iterator_next_1 _)));show wpAny _ _ (field (.ref it) 0 >>= _) _ _ s;refine ao (wpAny_field b a rfl ?_);have ne:(Value.ref l==Value.none)=false:=rfl;simp only[ne,cy,if_false];refine ao (wpAny_field b a rfl (ao (wpAny_seqItems h m ?_)));cases c:xs[k]? with
 |some x=>simp only[bS,c];refine ao (wpAny_setField b a (by simp) (ak ⟨x,rfl,ak (p x _ c ?_ (Heap.SameBut.update ..))⟩));refine⟨_,Heap.get?_update_self _ b (Obj.isFreed_of_fields (Obj.data_mapFields a _)),(Obj.cls_mapFields ..).trans j,?_⟩;rw[Obj.data_mapFields a];simp[rawInt]
 |none=>obtain⟨g,f⟩:=f c;simp only[bS,c];refine ao (wpAny_rule (ao (wpAny_setField b a (by simp) ?_)));show wpAny _ _ (newExc (.type "StopIteration") [] >>= _) _ _ _;simp only[newExc,newTuple];refine ao (ao (wpAny_newObj_type (ao (wpAny_of_eq (by first|rfl|(simp only[firstArgMember];rfl)) (wpAny_newObj_type ?_ (by size_fits)))) (by size_fits)));simp only[raiseNew];refine ao (wpAny_handled ?_);rw[show A.in1.handled=none from g];refine ao (ak (wpAny_throw ?_));exact f _ _ (((Heap.SameBut.update ..).extBut.push _).push _) ⟨_,ar _ rfl,rfl⟩
theorem za(i:mU b s.heap it l k)(j:ki b s.heap l xs)
  (h:∀x h',xs[k]? = some x->mU b h' it l (k+1)->Heap.SameBut it s.heap h'->Q x {s with heap:=h'})
  (g:xs[k]? = none->A.handled=none/\∀h' e,Heap.ExtBut it s.heap h'->(∃o,h'.get? e=some o/\o.cls=.type "StopIteration")->E (.ref e) {s with heap:=h'}) :
  wpAny (model prog w) A (Builtin.SmallTypes.nextOf (.ref it)) Q E s:=by
 cases b with
 |true=>exact Pi i j h g
 |false=>
  have c:=i;have d:=j;cases f:xs[k]? with
  |some x=>exact wpAny_nextOf_list_item c d f λh' a b=>h x h' f a b
  |none=>obtain⟨m,g⟩:=g f;exact wpAny_nextOf_list_end m c d f g
def Mt{z TI TO m H P S:Addr}{Q:Value->Shared->Prop}(D:ZipApart z TI TO m H P S)
  (L:IsZip s.heap z TI TO .none) (hTI:IsPair s.heap TI (.ref m) (.ref H)) (Y:IsPair s.heap TO a b)
  (h1:mU b1 s.heap m P k) (h2:mU b2 s.heap H S k) (Z:ki b1 s.heap P xs) (hl2:ki b2 s.heap S ys)
  (yes:∀x y h',xs[k]? = some x->ys[k]? = some y->IsZip h' z TI TO (rawInt s.heap.objs.size)->IsPair h' TO x y->mU b1 h' m P (k+1)->mU b2 h' H S (k+1)->IsPair h' s.heap.objs.size x y->h'.objs.size=s.heap.objs.size+1->
   (∀c o,c≠z->c≠TO->c≠m->c≠H->s.heap.get? c=some o->h'.get? c=some o)->Q (.ref s.heap.objs.size) {s with heap:=h'})
  (no:xs[k]? = none\/ys[k]? = none->A.handled=none/\∀h' e,(∀c o,c≠z->c≠TO->c≠m->c≠H->s.heap.get? c=some o->h'.get? c=some o)->(∃o,h'.get? e=some o/\o.cls=.type "StopIteration")->E (.ref e) {s with heap:=h'}) :
  wpAny (model prog w) A (Builtin.«zip.__next__» ⟨[.ref z],[]⟩) (λfin s'=>∃v,fin=.done (.ret v)/\Q v s') E s:=by
 have C:∀{h:Heap} {e:Addr} {I:Obj} {f:Value},IsZip h z TI TO f->h.get? e=some I->I.cls=.type "StopIteration" ->e≠z:=λ{h e I f} q ge ce u=>by subst u;rw[q]at ge;cases ge;simp at ce
 show wpAny _ _ (field (.ref z) 2 >>= λ_=>_) _ _ _;refine ao (wpAny_field L rfl rfl ?_);refine ao (wpAny_field L rfl rfl (ao (wpAny_seqItems hTI rfl ?_)));unfold Builtin.SmallTypes.ownedTupleIsFree;refine ao (ao (wpAny_field L rfl rfl (ak ?_)));simp only[if_true];refine ao (wpAny_rule (ao (wpAny_field L rfl rfl (ao (wpAny_setField_rec L (by simp) λg1 y1 K=>?_)))));have z1:=y1;simp only[List.zipIdx_cons,List.zipIdx_nil,cx,cE];refine ao (ao (ao (wpAny_onRaise ?_)));refine ao (za (h1.to λo e=>K.extBut _ _ D.i1z e) (Z.to λo e=>K.extBut _ _ D.l1z e) (λx g2 R t2 B=>ak ?_) (λR=>⟨(no (.inl R)).1,λg2 e B ⟨I,ge,ce⟩=>?_⟩))
 .have p2:=B.extBut _ _ D.TOi1 (K.extBut _ _ D.TOz Y);refine ao (wpAny_seqItems p2 rfl (ao (wpAny_updateSeq_pair p2 λX q3 p=>?_)));have p3:=q3;refine ao (wpAny_letGo (ak (ao (ao (wpAny_onRaise ?_)))));have i:∀c o,c≠z->c≠m->c≠TO->s.heap.get? c=some o->X.get? c=some o:=λc o d j l e=>p.extBut _ _ l (B.extBut _ _ j (K.extBut _ _ d e));refine ao (za (h2.to λo e=>i _ o D.i2z D.i12.symm D.TOi2.symm e) (hl2.to λo e=>i _ o D.l2z D.l2i1 D.l2TO e) (λy g4 U t4 n=>ak ?_) (λU=>⟨(no (.inr U)).1,λg4 e n ⟨I,ge,ce⟩=>?_⟩))
  .have p4:=n.extBut _ _ D.TOi2 p3;refine ao (wpAny_seqItems p4 rfl (ao (wpAny_updateSeq_pair p4 λF q5 r=>?_)));have p5:IsPair F TO x y:=q5;refine ao (wpAny_letGo (ak (ak (ao (wpAny_seqItems p5 rfl (ao (wpAny_newTuple ?_)))))));have sz:F.objs.size=s.heap.objs.size:=by rw[r.1,n.1,p.1,B.1,K.1]
   have z5:=r.extBut _ _ D.TOz.symm (n.extBut _ _ D.i2z.symm (p.extBut _ _ D.TOz.symm (B.extBut _ _ D.i1z.symm z1)));have to5:∀c o,c≠z->c≠TO->c≠m->c≠H->s.heap.get? c=some o->F.get? c=some o:=λc o d j l J e=>r.extBut _ _ j (n.extBut _ _ J (i c o d l j e));unfold Builtin.SmallTypes.ownedTupleHandOut;refine ao (ao (wpAny_setField_rec (ae _ z5) (by simp) λg7 y7 k7=>?_));have z7:=y7;refine wpAny_setField_rec z7 (by simp) λN y8 k8=>?_;have z8:=y8;have up:∀c o,c≠z->(F.push {cls:=.type "tuple",data:=.seq #[x,y]}).get? c=some o->N.get? c=some o:=λc o d e=>k8.extBut _ _ d (k7.extBut _ _ d e);have g:∀c o,c≠z->F.get? c=some o->N.get? c=some o:=λc o d e=>up c o d (ae _ e);have p8:=up _ _ (bB (aM z5)) (ar _ rfl);have s8:N.objs.size=F.objs.size+1:=by rw[k8.1,k7.1,Heap.size_push]
   rw[sz]at z8 p8 s8;refine ak ⟨_,rfl,?_⟩;rw[sz];have e1:=t2.to λo e=>g _ o D.i1z (r.extBut _ _ D.TOi1.symm (n.extBut _ _ D.i12 (p.extBut _ _ D.TOi1.symm e)));have e2:=t4.to λo e=>g _ o D.i2z (r.extBut _ _ D.TOi2.symm e);exact yes x y N R U z8 (g _ _ D.TOz p5) e1 e2 p8 s8 λc o d j l J e=>g c o d (to5 c o d j l J e)
  .have z4:=n _ _ D.i2z.symm (p.extBut _ _ D.TOz.symm (B.extBut _ _ D.i1z.symm z1));refine wpAny_setField_rec z4 (by simp) λF _ r=>(no (.inr U)).2 F e (λc o d j l J q=>r.extBut _ _ d (n _ _ J (i c o d l j q))) ⟨I,r.extBut _ _ (C z4 ge ce) ge,ce⟩
 .have z2:=B _ _ D.i1z.symm z1;refine wpAny_setField_rec z2 (by simp) λX _ p=>(no (.inl R)).2 X e (λc o d j l J q=>p.extBut _ _ d (B _ _ l (K.extBut _ _ d q))) ⟨I,p.extBut _ _ (C z2 ge ce) ge,ce⟩
def Df{z TI TO d f h g:Addr}(D:ZipApart z TI TO d f h g)
  (p:IsZip s.heap z TI TO .none) (j:IsPair s.heap TI (.ref d) (.ref f)) (l:IsPair s.heap TO a b)
  (N:mU b1 s.heap d h k) (J:mU b2 s.heap f g k) (i:ki b1 s.heap h xs) (m:ki b2 s.heap g ys)
  (n:∀x y h',xs[k]? = some x->ys[k]? = some y->IsZip h' z TI TO (rawInt s.heap.objs.size)->IsPair h' TO x y->mU b1 h' d h (k+1)->mU b2 h' f g (k+1)->IsPair h' s.heap.objs.size x y->h'.objs.size=s.heap.objs.size+1->
   (∀c o,c≠z->c≠TO->c≠d->c≠f->s.heap.get? c=some o->h'.get? c=some o)->Q (some (.ref s.heap.objs.size)) {s with heap:=h'})
  (no:xs[k]? = none\/ys[k]? = none->A.handled=none/\∀h',(∀c o,c≠z->c≠TO->c≠d->c≠f->s.heap.get? c=some o->h'.get? c=some o)->Q none {s with heap:=h'}) :
  wpAny (model prog w) A (pyNext (.ref z)) Q E s:=by
 have ty:s.TypeIs (.ref z) "zip" :=⟨_,p,rfl⟩;unfold pyNext;refine ao (wpAny_attempt (wpAny_callSpecial?_slot ty F.slot_zip_next (wpAny_call_entry F.slot_zip_next ty F.entry_zip_next
  (Mt D p j l N J i m (λx y h' L I H v K C B r u=>ak (n x y h' L I H v K C B r u)) λq=>⟨(no q).1,λh' e hk ⟨o,ho,hc⟩=>?_⟩) (F.args_zip_next_1 _))))
 exact ao (wpAny_isInstance ⟨o,ho,hc⟩ isSubtype_stop (ak ((no q).2 h' hk)))
theorem pX(a:ki b s.heap l xs)
  (h:Q (.ref s.heap.objs.size) {s with heap:=s.heap.push {cls:=.type (yg b),data:=.fields #[.ref l,.int 0 0]}}):wpAny (model prog w) A (pyIter (.ref l)) Q E s:=by
 cases b with
 |true=>exact wpAny_pyIter_tuple (a) h
 |false=>exact wpAny_pyIter_list (a) h
end
noncomputable abbrev zo(b:Bool)(l:Addr):Obj:={cls:=.type (yg b),data:=.fields #[.ref l,.int 0 0]}
abbrev zt(x y:Value):Obj:={cls:=.type "tuple",data:=.seq #[x,y]}
abbrev zz(p q:Addr):Obj:={cls:=.type "zip",data:=.fields #[.none,.bool false,.bool false,.ref p,.ref q]}
noncomputable abbrev Bg(b1 b2:Bool)(h:Heap)(l1 l2:Addr):Heap:=
 ((((h.push (zo b1 l1)).push (zo b2 l2)).push (zt (.ref h.objs.size) (.ref (h.push (zo b1 l1)).objs.size))).push (zt .none .none)).push
  (zz ((h.push (zo b1 l1)).push (zo b2 l2)).objs.size (((h.push (zo b1 l1)).push (zo b2 l2)).push (zt (.ref h.objs.size) (.ref (h.push (zo b1 l1)).objs.size))).objs.size)
section
variable {prog:Program}{w:World}{A:Around}{E:Value->Shared->Prop}{s:Shared}
def HR b1 b2 l1 l2 xs ys:Meets (Builtin.«zip.__new__» ⟨[.type "zip",.ref l1,.ref l2],[]⟩) (λ_ R s=>ki b1 s.heap l1 xs/\ki b2 s.heap l2 ys/\
  R (.ok (.ret (.ref ((((s.heap.push (zo b1 l1)).push (zo b2 l2)).push (zt (.ref s.heap.objs.size) (.ref (s.heap.push (zo b1 l1)).objs.size))).push (zt .none .none)).objs.size))) {s with heap:=Bg b1 b2 s.heap l1 l2}):=by
 refine .of_wp λprog w A R s h=>?_;obtain⟨c,g,d,a,b⟩:=s;obtain⟨k,f,l⟩:=h;have sz:=sub_zip;have j:=k;have i:ki b2 (Shared.heap ⟨c.push (zo b1 l1),g,d,a,b⟩) l2 ys:=f.to λo e=>ae _ e;wp_walk using pX j,pX i;exact⟨_,rfl,l⟩
def Nr(f:ki b1 s.heap l1 xs)(i:ki b2 s.heap l2 ys)
  (h:∀h',IsZip h' (s.heap.objs.size+4) (s.heap.objs.size+2) (s.heap.objs.size+3) .none->IsPair h' (s.heap.objs.size+2) (.ref s.heap.objs.size) (.ref (s.heap.objs.size+1))->IsPair h' (s.heap.objs.size+3) .none .none->
   mU b1 h' s.heap.objs.size l1 0->mU b2 h' (s.heap.objs.size+1) l2 0->h'.objs.size=s.heap.objs.size+5->(∀c o,s.heap.get? c=some o->h'.get? c=some o)->Q (.ref (s.heap.objs.size+4)) {s with heap:=h'}) :
  wpAny (model prog w) A (call (.type "zip") [.ref l1,.ref l2]) Q E s:=by
 refine callType_new F.called_zip (by decide) (F.typeCall_zip_2 _ _) (F.newCall_zip_2 _ _) (λg=>F.args_object_init_3 g _ _) F.entry_zip_new (HR b1 b2 l1 l2 xs ys) ⟨f,i,?_⟩;generalize j:s.heap.objs.size=n at *;have b:(s.heap.push (zo b1 l1)).objs.size=n+1:=by rw[Heap.size_push,j]
 have d:((s.heap.push (zo b1 l1)).push (zo b2 l2)).objs.size=n+2:=by rw[Heap.size_push,b]
 generalize a:(s.heap.push (zo b1 l1)).push (zo b2 l2)=g2 at *;have r:∀c o,s.heap.get? c=some o->g2.get? c=some o:=λc o e=>by rw[<-a];exact ae _ (ae _ e)
 have q:g2.get? n=some (zo b1 l1):=by rw[<-a,<-j];exact ae _ (ar _ rfl)
 have x:g2.get? (n+1)=some (zo b2 l2):=by rw[<-a,<-b];exact ar _ rfl
 have k:(g2.push (zt (.ref n) (.ref (n+1)))).objs.size=n+3:=by rw[Heap.size_push,d]
 have l:((g2.push (zt (.ref n) (.ref (n+1)))).push (zt .none .none)).objs.size=n+4:=by rw[Heap.size_push,k]
 have v:Bg b1 b2 s.heap l1 l2=((g2.push (zt (.ref n) (.ref (n+1)))).push (zt .none .none)).push (zz (n+2) (n+3)):=by unfold Bg;rw[j,b,a,d,k]
 rw[v,b,l];have p:(g2.push (zt (.ref n) (.ref (n+1)))).get? (n+2)=some (zt (.ref n) (.ref (n+1))):=by rw[<-d];exact ar _ rfl
 have u:((g2.push (zt (.ref n) (.ref (n+1)))).push (zt .none .none)).get? (n+3)=some (zt .none .none):=by rw[<-k];exact ar _ rfl
 have m:(((g2.push (zt (.ref n) (.ref (n+1)))).push (zt .none .none)).push (zz (n+2) (n+3))).get? (n+4)=some (zz (n+2) (n+3)):=by rw[<-l];exact ar _ rfl
 have up:∀c o,g2.get? c=some o->(((g2.push (zt (.ref n) (.ref (n+1)))).push (zt .none .none)).push (zz (n+2) (n+3))).get? c=some o:=λc o e=>ae _ (ae _ (ae _ e));exact⟨⟨_,m,rfl⟩,h _ m (ae _ (ae _ p)) (ae _ u) (.of ⟨_,up _ _ q,rfl,rfl⟩) (.of ⟨_,up _ _ x,rfl,rfl⟩) (by rw[Heap.size_push,l]) λc o e=>up c o (r c o e)⟩
end
end L2
namespace L2
open PySem PySem.Spec PyProof.Rows
def iq.turnedL{ch:List Addr}(I:iq X gQ σ H s)(k:∀b o,b∉ch->s.heap.get? b=some o->h'.get? b=some o)(f:∀b∈ch,vN X gQ H b) :
  iq X gQ σ H {s with heap:=h',toks:=t'}:=by
 have d:∀b u,H b=some u->b∉ch:=λb u e z=>by rw[(f b z).1]at e;cases e
 refine I.step (λb j=>let ⟨_,f1,_,f3,f4,f5⟩:=f b j;⟨f3,f1,f4,f5⟩) (λb o _ _ a e _=>k b o a e) (λb o _ _ a e _=>⟨o.slots,k b o a e⟩) (λ_ _ _ _ n=>n)
  (λb o a e=>⟨o,k b o a e⟩) (λ_ _ e=>e) (λ_ _ _ e=>e) (λb _ p e=>⟨#[],by rw[e];simp⟩) (λm h=>?_) (λb u e=>?_) I.bare
 .obtain⟨o,g,l,i,r⟩:=h;exact⟨o,g,l,k _ o (λz=>(f _ z).2.1 rfl) i,r⟩
 .refine (I.hok b u e).stay (λc v a q=>k c v ?_ q) (λ_ q=>q) λ_ _ q=>q;rcases a with z|z
  .rw[z];exact d b u e
  .exact d c _ z
def zx(K:W.Frag)(H:Hp)(b:Bool)(a:Addr)(xs:List V):Prop:=if b=true then nu K H a xs else l9 K H a xs
def iq.seqB(I:iq X gQ σ H s)(h:zx X.K H b a xs):∃its:List Value,iL xs its/\ki b s.heap a its.toArray/\xs.length<=sizeLine:=by
 cases b with
 |true=>obtain⟨its,r,p,z⟩:=I.tuple (h);exact⟨its,r,p,z⟩
 |false=>obtain⟨its,r,p,z⟩:=I.list (h);exact⟨its,r,p.isList,z⟩
def iq.seqB_inj(I:iq X gQ σ H s)(h:zx X.K H b a xs)(h':zx X.K H b a ys):xs=ys:=by
 cases b with
 |true=>exact I.tuple_inj h h'
 |false=>exact I.list_inj h h'
noncomputable def WC(K:W.Frag)(e d:Bool)(f c:Addr):It:=
  ⟨λi H=>∃a b x y,zx K H e f a/\zx K H d c b/\a[i]? = some x/\b[i]? = some y,
   λi H v g=>∃p x y,v=.ref p/\H p=none/\g=i6 H p (.tup [x,y])/\(∀a,zx K H e f a->a[i]? = some x)/\∀b,zx K H d c b->b[i]? = some y,
   λi H=>∃a b,zx K H e f a/\zx K H d c b/\(a.length<=i\/b.length<=i)⟩
def Nt{K:W.Frag}{x1}{z TI TO l m l1 l2:Addr}(D:ZipApart z TI TO l m l1 l2) :
  FU P w K (.Tuple elts x1 pos) (WC K b1 b2 l1 l2) [z,TI,TO,l,m] z (λi h=>IsZip h z TI TO .none/\IsPair h TI (.ref l) (.ref m)/\(∃a b,IsPair h TO a b)/\mU b1 h l l1 i/\mU b2 h m l2 i) where
 mem:=by simp
 obj:=λi h n b g=>by
  obtain⟨p,f,⟨a,c,j⟩,r,A⟩:=n;have mem:b=z\/b=TI\/b=TO\/b=l\/b=m:=by simpa using g
  rcases mem with rfl|rfl|rfl|rfl|rfl
  .exact⟨_,p,λv q=>by cases q⟩
  .exact⟨_,f,λv q=>by cases q⟩
  .exact⟨_,j,λv q=>by cases q⟩
  .obtain⟨o,e,_,d⟩:=r.look;exact⟨o,e,λv q=>by rw[d]at q;cases q⟩
  .obtain⟨o,e,_,d⟩:=A.look;exact⟨o,e,λv q=>by rw[d]at q;cases q⟩
 keep:=λi h h' n k=>by obtain⟨p,f,⟨a,c,j⟩,r,A⟩:=n;exact⟨k z (by simp) _ p,k TI (by simp) _ f,⟨a,c,k TO (by simp) _ j⟩,r.to λo e=>k l (by simp) o e,A.to λo e=>k m (by simp) o e⟩
 item:=by
  intro X hP hw hK hc i gQ s σ H E I Z n hg;subst hP hw hK;obtain⟨p,f,⟨a,c,j⟩,r,A⟩:=n;obtain⟨xs,ys,x,y,q1,q2,e1,e2⟩:=hg;obtain⟨R,r1,p1,z1⟩:=I.seqB q1;obtain⟨L,r2,p2,z2⟩:=I.seqB q2;obtain⟨u,gu,ru⟩:=r1.get e1;obtain⟨v,gv,rv⟩:=r2.get e2;have F:=I.fpOk (aL _) (I.hok.fresh (aL _));refine Df D p f j r A p1 p2 (λQ J h' B C a1 a2 a3 a4 a5 a6 N=>?_) λq=>?_
  .have eu:Q=u:=by
    have:R[i]? = some Q:=by simpa using B
    rw[gu]at this;cases this;rfl
   have ev:J=v:=by
    have:L[i]? = some J:=by simpa using C
    rw[gv]at this;cases this;rfl
   subst eu;subst ev;refine⟨_,rfl,wpAny_letOwnedTupleGo_zip a1 λS Y sb=>?_⟩;have zT:=bB (aM p);have I1:=I.turnedL (t':=s.toks) (ch:=[z,TO,l,m]) (λb o g e=>sb.extBut _ _ (λq=>g (by simp[q])) (N b o (λq=>g (by simp[q])) (λq=>g (by simp[q])) (λq=>g (by simp[q])) (λq=>g (by simp[q])) e))
    (λb g=>Z b (by
     have mem:b=z\/b=TO\/b=l\/b=m:=by simpa using g
     rcases mem with rfl|rfl|rfl|rfl<;>simp))
   have gT:=sb.extBut _ _ zT a5;have I2:iq X gQ σ (i6 H s.heap.objs.size (.tup [x,y])) {s with heap:=S}:=I1.track F.1 F.2.2.2.1 F.2.1 F.2.2.2.2.1 F.2.2.2.2.2
    ⟨by show 2<=sizeLine;decide,[Q,J],.cons ru (.cons rv .nil),⟨_,gT,rfl,_,rfl,rfl⟩⟩
   have lt:∀{b o},s.heap.get? b=some o->i6 H s.heap.objs.size (.tup [x,y]) b=H b:=λ{b o} e=>hV (aN (aM e));refine⟨.ref s.heap.objs.size,_,I2,rfl,⟨_,x,y,rfl,F.1,rfl,λxs' h=>by rw[I.seqB_inj h q1];exact e1,λys' h=>by rw[I.seqB_inj h q2];exact e2⟩,?_,λb g=>?_⟩
   .have k2:∀c o,c≠z->h'.get? c=some o->S.get? c=some o:=λc o c1 e=>sb.extBut _ _ c1 e;exact⟨Y,k2 _ _ D.TIz (N _ _ D.TIz D.TITO D.TIi1 D.TIi2 f),⟨_,_,k2 _ _ D.TOz a2⟩,a3.to λo e=>k2 _ o D.i1z e,a4.to λo e=>k2 _ o D.i2z e⟩
   .have mem:b=z\/b=TI\/b=TO\/b=l\/b=m:=by simpa using g
    have U:=(Z b g).1;obtain⟨o1,g1,_⟩:=r.look;obtain⟨o2,g2,_⟩:=A.look;rcases mem with rfl|rfl|rfl|rfl|rfl
    .rw[lt p];exact U
    .rw[lt f];exact U
    .rw[lt j];exact U
    .rw[lt g1];exact U
    .rw[lt g2];exact U
  .exfalso;have m1:R.toArray[i]? = some u:=by simpa using gu
   have m2:L.toArray[i]? = some v:=by simpa using gv
   rcases q with q|q
   .rw[m1]at q;cases q
   .rw[m2]at q;cases q
 done:=by
  intro X hP hw hK hc i gQ s σ H E I Z n hg;subst hP hw hK;obtain⟨p,f,⟨a,c,j⟩,r,A⟩:=n;obtain⟨xs,ys,q1,q2,hl⟩:=hg;obtain⟨R,r1,p1,z1⟩:=I.seqB q1;obtain⟨L,r2,p2,z2⟩:=I.seqB q2;have n1:=r1.length;have n2:=r2.length;have fpc:∀b∈[z,TO,l,m],vN X gQ H b:=λb g=>Z b (by
   have mem:b=z\/b=TO\/b=l\/b=m:=by simpa using g
   rcases mem with rfl|rfl|rfl|rfl<;>simp)
  refine Df D p f j r A p1 p2 (λQ J h' B C a1 a2 a3 a4 a5 a6 N=>?_) λq=>⟨I.ok.hd hc,λh' N=>⟨rfl,I.turnedL (λb o g e=>N b o (λq=>g (by simp[q])) (λq=>g (by simp[q])) (λq=>g (by simp[q])) (λq=>g (by simp[q])) e) fpc⟩⟩;exfalso;have m1:i<R.length:=by
   have:R[i]? = some Q:=by simpa using B
   exact (aa.mp this).1
  have m2:i<L.length:=by
   have:L[i]? = some J:=by simpa using C
   exact (aa.mp this).1
  omega
 self:=λ_ _ _ _ _ n h=>wpAny_pyIter_zip n.1 h
def SY:bootBuiltins "zip" = some (.type "zip"):=by decide +kernel
section
variable {X:Cx}
def Sh(K:W.Frag)(e d:Bool)(h:TA):TI:=λj H R=>h j H λi b=>∃c a,i=[.ref c,.ref a]/\(∃f,zx K b e c f)/\(∃g,zx K b d a g)/\R (WC K e d c a) b
def SX{x1}(Y:Gl X "zip")(z:X.mg "zip" = none)(S:PA X [a,b] ta)(x:starEach [a,b] X.env=[(false,eval a X.env),(false,eval b X.env)]:=by rfl)
  (c:starEach [b] X.env=[(false,eval b X.env)]:=by rfl):PI X (.Tuple elts x1 tpos) (.Call (.Name "zip" p) [a,b] [] pos) (Sh X.K b1 b2 ta):=by
 intro U s B H R I h;refine Call_ (tK I Y z SY (PyProof.Rows.callWith_type1 (kl (S pos U s B H _ I h) λE s1 ⟨vs,H1,I1,r1,i⟩=>?_) (by rw[x,c]) (by rw[c];rfl)));obtain⟨L,D,rfl,⟨xs,i⟩,⟨ys,P⟩,q⟩:=i;obtain⟨u1,Z,rfl,C,w⟩:=Na r1;cases C;cases w;obtain⟨E,y,m,_⟩:=I1.seqB i;obtain⟨ws,N,u,_⟩:=I1.seqB P;have d:L<s1.heap.objs.size:=by obtain⟨o,n,e,_⟩:=m.look;exact aM e
 have j:D<s1.heap.objs.size:=by obtain⟨o,n,e,_⟩:=u.look;exact aM e
 refine Nr m u λh' l f g v Q F A=>?_;refine wpAny_pyIter_zip l ?_;refine⟨_,_,_,_,H1,rfl,I1.kept A,Nt (zipApart_new d j),⟨l,f,⟨_,_,g⟩,v,Q⟩,λb J=>?_,q⟩;have k:b=s1.heap.objs.size+4\/b=s1.heap.objs.size+2\/b=s1.heap.objs.size+3\/b=s1.heap.objs.size\/b=s1.heap.objs.size+1:=by simpa using J
 have r:s1.heap.objs.size<=b:=by rcases k with rfl|rfl|rfl|rfl|rfl<;>omega
 exact I1.fpOk r (I1.hok.fresh r)
end
end L2
namespace L2
open PySem PySem.Spec PyProof.Rows
def wd(h:H p=none):ij H (i6 H p o):=λb u e=>by rw[hV (ip e h)];exact .of e
def ij.seqT{K:W.Frag}(e:ij H H')(h:nu K H a xs):nu K H' a xs:=by
 rcases h with (h|⟨o,h⟩)|h
 .exact .inl (.inl (e _ _ h))
 .exact .inl (.inr ⟨o,e _ _ h⟩)
 .exact .inr h
noncomputable def Cj(d:List Str)(b a:Scope)(N:List Str)(c:List (Option Nat)):Bool:=
 a.kind==.function&&a.names.all (λy=>!(y.2==NameKind.cell)||a.names.lookup y.1==some .cell)&&a.names.all (λy=>!(y.2==NameKind.local)||a.names.lookup y.1==some .local) &&
 a.names.all (λy=>!(y.2==NameKind.free)||b.names.lookup y.1==some .cell)&&N.length==c.length &&
 (List.range N.length).all (λi=>match c[i]?,N[i]? with
  |some (some j),some x=>d[j]? == some x&&a.names.lookup x==some .free&&b.names.lookup x==some .cell
  |_,_=>true)
def U2(r:∀x,X.env.scope.names.lookup x=some .cell->∃c,X.env.cells.lookup x=some c)(h:Cj X.N X.env.scope scope N ix=true):Eb X scope N ix:=by
 unfold Cj at h;simp only[bU]at h;obtain⟨⟨⟨⟨⟨s,p⟩,o⟩,l⟩,n⟩,q⟩:=h;refine⟨by simpa using s,λy d e=>?_,λy d e=>?_,λy d e=>?_,by simpa using n,λi j x g k=>?_⟩
 .have:=cN.mp p y d;rw[e]at this;simpa using this
 .have:=cN.mp o y d;rw[e]at this;simpa using this
 .have:=cN.mp l y d;rw[e]at this;exact r _ (by simpa using this)
 .have m:=(aa.mp g).1;have:=cN.mp q i (aT.mpr m);rw[g,k]at this;simp only[bU,beq_iff_eq]at this;obtain⟨⟨a,b⟩,c⟩:=this;exact⟨a,b,.inr (.inl c),λz=>by have f:X.env.scope.names.lookup x=some .local:=z;rw[c]at f;cases f⟩
def LZ(L:Eb X scope N ix):∀x,(nN X N scope C s₃ H ex pn).env.scope.names.lookup x=some .cell->∃c,(nN X N scope C s₃ H ex pn).env.cells.lookup x=some c:=λx b=>by
 refine bO.mp (W.cellsFrom_some _ _ _ ?_);rcases uR (.inl b) with a|a
 .exact .inr (bO.mpr (p9 a (L.fre _ a rfl)))
 .exact .inl a
def xS{K:W.Frag}(g:ix[k]? = some none)(m:ix[l]? = some none):qB ix (Ir K 2 (xX (j9 k) (xX (j9 l) HY))):=by
 rintro x u H Q ⟨a,p,h,d,s,v,r,b,w,f,n,o,q⟩;refine⟨a,p,h,d,s,v,r,b,w,f,n,o,λi j e=>?_,q⟩;have y:k≠i:=by rintro rfl;rw[g]at e;cases e
 have c:l≠i:=by rintro rfl;rw[m]at e;cases e
 rw[aq c,aq y]
end L2
namespace L2
open PySem PySem.Spec PyProof.Rows
structure ly(K:W.Frag)(C:Addr)(m qual:Str)(st:Stmt):Prop where
 ex:∃f fd,NL K m qual st f fd/\JW K C m f
structure jR(P:Program)(w:World)(K:W.Frag)(mg:Str->Option Value)(base:Heap)(C:Addr)(m:Str)(k:Nat)(sp:Sp):Prop where
 cl:zD K C
 ex:∃f fd ps,nQ P w K mg base sQ k f fd ps sp/\JW K C m f/\qJ K fd ps []
def Hg{K:W.Frag}{st:Stmt}(g:zD K C)(D:ly K C m qual st)(S:ji N ps (gZ st))
  (i:∀(kV e j:Value) (n:Option Addr) (a o:Value) (us:List Value),us.length=ps.length->bindArgs (W.fnOf m qual (j7 st) (iR st) (gZ st) .none kV e j n a o) ⟨us,[]⟩=pure (ps.zip us))
  (d:∀vs H Q E,sp vs H Q E->vs.length=ps.length)
  (b:∀f a A c s H vs Q E,je k (A.deeper (envOfC qual (gZ st) s.heap.objs.size f a))->sp vs H Q E->
   ∃t,BU (ou sQ P w K mg base N qual (gZ st) f a A c s H E).nox (iR st) t/\t {nx:=λ_ h=>Q .non h,rt:=Q} (lV N vs) H):jR P w K mg base C m (k+1) sp:=by
 obtain⟨f,l,F,m⟩:=D.ex;exact⟨g,f,l,ps,F.ok S d (b f),m,F.binds i⟩
structure C2(P:Program)(w:World)(K:W.Frag)(mg:Str->Option Value)(base:Heap)(x:Str)(C:Addr)(k:Nat)(sp:Sp):Prop where
 ex:∃f fd ps,nQ P w K mg base sQ k f fd ps sp/\Mk K C f/\qJ K fd ps []
 mgx:mg x=some (.ref C)
section
variable {X:Cx}{x m:Str}{C:Addr}{k:Nat}{sp:Sp}{e o:Expr}{es:List Expr}{t:TA}{ta:TE}{p pos apos:Pos}
def UL(h:C2 X.prog X.w X.K X.mg X.base x C k sp)(hr:je (k+1) X.A)(g:PA X (e::es) t)(j:Gl X x:=by rfl)
  (d:(x==("__debug__" : Str))=false:=by decide) (i:starEach (e::es) X.env=(false,eval e X.env)::starEach es X.env:=by rfl) (c:(backTo pos (starEach es X.env)).any (·.1)=false:=by rfl) :
  PE X (.Call (.Name x p) (e::es) [] pos) (G7 C sp [] E0 t):=by
 obtain⟨f,n,l,F,a,b⟩:=h.ex;exact PL a F hr j h.mgx b .nil Hm g d i c
def UP(h:jR X.prog X.w X.K X.mg X.base C m k sp)(hr:je k X.A)(i:PE X o ta)(g:PA X (e::es) t)
  (c:starEach (e::es) X.env=(false,eval e X.env)::starEach es X.env:=by rfl) (d:(backTo pos (starEach es X.env)).any (·.1)=false:=by rfl)
  (j:eval (.Call (.Attribute o m apos) (e::es) [] pos) X.env=(do
   let ov <-eval o X.env
   standAt apos.atName
   let (f,first) <-holding [ov] (getMethod ov m pl)
   callWith pos f first (backTo pos (starEach (e::es) X.env)) (backToKw pos (keywordEach [] X.env))):=by rfl) :
  PE X (.Call (.Attribute o m apos) (e::es) [] pos) (uh C m sp [] E0 ta t):=by
 obtain⟨f,n,l,F,a,b⟩:=h.ex;exact PJ i h.cl a F hr b .nil Hm g c d j
def KJ(h:jR X.prog X.w X.K X.mg X.base C m k sp)(hr:je k X.A)(c:PE X o ta)
  (d:eval (.Call (.Attribute o m apos) [] [] pos) X.env=(do
   let ov <-eval o X.env
   standAt apos.atName
   let (f,first) <-holding [ov] (getMethod ov m pl)
   callWith pos f first (backTo pos (starEach [] X.env)) (backToKw pos (keywordEach [] X.env))):=by rfl) :
  PE X (.Call (.Attribute o m apos) [] [] pos) (uh C m sp [] E0 ta v7):=by
 obtain⟨f,i,g,F,a,b⟩:=h.ex;exact LQ c h.cl a F hr b .nil Hm d
end
end L2
namespace L2
open PySem PySem.Spec PyProof.Rows
def Nq(hN:X.N.Nodup)(hy:X.N[i]? = some y)(P:IT X.env.scope y)
  (hc:X.calm=true) (R:PI X tg iter wi) (L:Eb X scope N ix) (k:qB ix g)
  (j:∀C c H n d,PG (nN X N scope C c H n d) tg g/\Iy (nN X N scope C c H n d) ifs tt/\PE (nN X N scope C c H n d) elt te)
  (hf:X.fn y=true\/X.env.scope.names.lookup y=some .local:=by first|exact .inl rfl|exact .inr rfl)
  (l:swapsWith (.ListComp elt [⟨tg,iter,ifs,0⟩] scope pos) (some (.Name y py)) spos.line X.env=pure true:=by rfl)
  (K:∀x,foldedSetIterable iter X.env x=pure x:=by intro _;rfl):PS X (.Assign [.Name y py] (.ListComp elt [⟨tg,iter,ifs,0⟩] scope pos) spos) (pj (ND ix wi g tt te) (j9 i)):=by
 intro gQ s A H D I h;rw[exec_Assign_Name_used _ _ _ _ l];refine ao (wpAny_standAt (ao ?_));rw[arm_evalThenUse_ListComp];refine ao (kl (wpAny_comprehension_free rfl K (sE L.fre) L.kind L.names (kl (R gQ s A H _ I h) λv s1 h1=>kl h1 λY s2 Z=>?_)) λ_ s' q=>ak (ak q));obtain⟨it,fp,tn,J,H2,e,I2,T,p,S,W,⟨m0,w0⟩,turn⟩:=Z;subst e;refine GN (Q:=λx H1=>j9 i x A H1 D.nx) hc L k j I2 T p S w0 turn λE0 C m F s' hn f B q=>?_;refine wpAny_assign_Name (Ak (v:=.ref E0) B hN hy P rfl (λs3 I3 r=>?_) hf);obtain⟨a,E,ha⟩:=r;have ne:C≠a:=by
  rcases ha with z|z
  .rw[z];exact f.2.1
  .exact λw=>f.2.2.2.2.1 y a z w.symm
 exact⟨m,hn.sameBut E ne,λh' u=>⟨_,F,I3.turned (λb o U e=>u.extBut b o U e) f.1 f.2.1 f.2.2.2.1 f.2.2.2.2.1 f.2.2.2.2.2,q⟩⟩
end L2
namespace L2
open PySem PySem.Spec PyProof.Rows
section
variable {κ:Type}[DecidableEq κ]
noncomputable def tQ(kvs:List (κ×V))(k:κ):Option V:=(kvs.find? λa=>decide (a.1=k)).map (·.2)
noncomputable def vD(kvs:List (κ×V))(k:κ)(v:V):List (κ×V):=if (kvs.any λa=>decide (a.1=k))=true then kvs.map (λa=>if a.1=k then (a.1,v) else a) else kvs++[(k,v)]
def zr{k:κ}(e:p.1=k):tQ (p::r) k=some p.2:=by simp[tQ,List.find?_cons,e]
def yQ{k:κ}(e:¬p.1=k):tQ (p::r) k=tQ r k:=by simp[tQ,List.find?_cons,e]
theorem Dy k:∀kvs:List (κ×V),(kvs.any λa=>decide (a.1=k))=(tQ kvs k).isSome
 |[]=>rfl
 |p::r=>by
  rw[bX];by_cases e:p.1=k
  .simp only[zr e,aD e,Bool.true_or,cD]
  .rw[yQ e,aC e,Bool.false_or];exact Dy k r
def wx kvs (k:κ) v:(vD kvs k v).length<=kvs.length+1:=by
 unfold vD;split
 .rw[ax];omega
 .rw[aU,aA,cO];omega
def tG.isSome_eq(r:tG o u):o.isSome=u.isSome:=by
 cases o with
 |none=>cases u with
  |none=>rfl
  |some _=>exact (show False from r).elim
 |some _=>cases u with
  |none=>exact (show False from r).elim
  |some _=>rfl
def KV.val(r:KV kvs vs)(k:κ):tG (tQ kvs k) (valueAt vs k):=by
 unfold KV at r;induction r with
 |nil=>exact True.intro
 |@cons p q ps qs h t ih=>
  obtain⟨c,d⟩:=h;by_cases e:p.1=k
  .have a:q.1=k:=c.symm.trans e;have b:valueAt (q::qs) k=some q.2:=by simp[valueAt,List.find?_cons,a]
   rw[zr e,b];exact d
  .have a:¬q.1=k:=λz=>e (c.trans z);have b:valueAt (q::qs) k=valueAt qs k:=by simp[valueAt,List.find?_cons,a]
   rw[yQ e,b];exact ih
end
def Hj(r:i9 (kV k) u):(kU P w).is k u=true:=by
 cases k with
 |inl i=>obtain⟨t,e⟩:=(show ∃t,u=Value.int i t from r);subst e;exact Dx P w i t
 |inr x=>obtain⟨t,e⟩:=(show ∃t,u=Value.str x t from r);subst e;exact C5 P w x t
theorem A0:∀{ks} {us},iL (ks.map kV) us->ItemsAre (kU P w) ks us
 |[],_,r=>by rw[cn]at r;cases r;exact .nil
 |k::ks,_,r=>by
  rw[bH]at r;cases r with
  |cons h t=>exact .cons (Hj h) (A0 t)
abbrev KT(H:Hp):List (List nC×V)->List (List nC×Addr×Value)->Prop:=Paired λp q=>p.1=q.1/\H q.2.1=some (.tup (p.1.map kV))/\i9 p.2 q.2.2
def KT.val(r:KT H kvs xs) k:tG (tQ kvs k) ((atKey xs k).map (·.2)):=by
 induction r with
 |nil=>exact True.intro
 |@cons p q ps qs h t ih=>
  obtain⟨c,_,d⟩:=h;by_cases e:p.1=k
  .have a:q.1=k:=c.symm.trans e;have b:atKey (q::qs) k=some q.2:=by simp[atKey,List.find?_cons,a]
   rw[zr e,b];exact d
  .have a:¬q.1=k:=λz=>e (c.trans z);have b:atKey (q::qs) k=atKey qs k:=by simp[atKey,List.find?_cons,a]
   rw[yQ e,b];exact ih
theorem KT.repl(r:KT H kvs xs) k (d:i9 y u) :
  KT H (kvs.map λb=>if b.1=k then (b.1,y) else b) (xs.map (putAt k u)):=by
 induction r with
 |nil=>exact .nil
 |@cons p q ps qs h t ih=>
  rw[bH,bH];refine .cons ?_ ih;obtain⟨a,c,f⟩:=h;unfold putAt;by_cases e:p.1=k
  .rw[aR e,aR (a.symm.trans e)];exact⟨a,c,d⟩
  .rw[aS e,aS (λz=>e (a.trans z))];exact⟨a,c,f⟩
def KT.put(r:KT H kvs xs) k (d:H b=some (.tup (k.map kV))) (a:i9 y u) :
  KT H (vD kvs k y) (storedH xs k b u):=by
 have e:(kvs.any λc=>decide (c.1=k))=(atKey xs k).isSome:=by rw[Dy,(r.val k).isSome_eq,cQ]
 unfold vD storedH;rw[e];by_cases q:(atKey xs k).isSome=true
 .rw[aR q,aR q];exact r.repl k a
 .rw[aS q,aS q];exact Paired.snoc r ⟨rfl,d,a⟩
def KT.keeps(r:KT H kvs xs)(c:∀b a,H b=some (.tup a)->H' b=some (.tup a)):KT H' kvs xs:=Paired.mapP r λ_ _ z=>⟨z.1,c _ _ z.2.1,z.2.2⟩
section
variable {P:Program}{w:World}{H:Hp}{h:Heap}{a:Addr}
def Q8(ok:qH P w H h)(e:Rd H a u):jH P w H h a u:=e.ok ok
def Kx(ok:qH P w H h)(e:Rd H a (.dK kvs)):kvs.length<=sizeLine/\(a==sysModules)=false/\∃vs,KV kvs vs/\h.DictOf (kU P w) a vs:=show jH P w H h a (.dK kvs) from Q8 ok e
def sT(ok:qH P w H h)(e:H a=some (.tup (ks.map kV))):(tupleKind (kU P w)).is h ks a:=by obtain⟨_,b,r,o,f,d,n,c,_⟩:=(show jH P w H h a (.tup (ks.map kV)) from ok a _ e);exact⟨o,b.toArray,n,f,d,c,by simpa using A0 r⟩
theorem HG(ok:qH P w H h)(e:Rd H a (.dT kvs)):kvs.length<=sizeLine/\(a==sysModules)=false/\
  ∃xs,KT H kvs xs/\h.DictOfH (tupleKind (kU P w)) a xs:=by
 obtain⟨z,y,xs,r,o,f,j,k,i,g,c,d⟩:=(show jH P w H h a (.dT kvs) from Q8 ok e);refine⟨z,y,xs,r,o,f,j,k,i,g,c,λx b=>?_,d⟩;have all:∀{l:List (List nC×V)} {m:List (List nC×Addr×Value)},KT H l m->∀x∈m,(tupleKind (kU P w)).is h x.1 x.2.1:=by
  intro l m q;induction q with
  |nil=>intro x b;exact nomatch b
  |@cons p q ps qs hq t ih=>
   intro x b;rcases aG.mp b with e|b
   .subst e;exact sT ok (by rw[<-hq.1];exact hq.2.1)
   .exact ih x b
 exact all r x b
def UV(ok:qH P w H h)(e:H a=some (.dT kvs)):kvs.length<=sizeLine/\(a==sysModules)=false/\
  ∃xs,KT H kvs xs/\h.DictOfH (tupleKind (kU P w)) a xs:=HG ok (.inl e)
end
def Bh(H:Hp)(a:Addr)(y:V)(r:Option V):Prop:=(∃c k,Rd H a (.dK c)/\y=kV k/\r=tQ c k)\/∃c k b,Rd H a (.dT c)/\y=.ref b/\H b=some (.tup (k.map kV))/\r=tQ c k
def Bh.t{H:Hp}{a b:Addr}{kvs:List (List nC×V)}{k:List nC}(e:H a=some (.dT kvs))(c:H b=some (.tup (k.map kV))):Bh H a (.ref b) (tQ kvs k):=.inr ⟨kvs,k,b,.inl e,rfl,c,rfl⟩
section
variable {X:Cx}{gQ:List (Addr×Obj)}{σ:St}{H:Hp}{s:Shared}{a:Addr}{y v:V}{u r:Value}{o:Option V}{A:Around}{E:Value->Shared->Prop}
def iq.big(I:iq X gQ σ H s):sysModules<s.heap.objs.size:=by have h:mainGlobals<s.heap.objs.size:=(I.mod.glob.keeps I.bk).lt;exact Nat.lt_trans (by decide) h
def HV(F:A.units+1<cLine)(I:iq X gQ σ H s)(g:Bh H a y (some v))(q:i9 y u)(h:∀f x,iq X gQ σ H x->i9 v f->Q f x) :
  wpAny (model X.prog X.w) A (getItem (.ref a) u) Q E s:=by
 rcases g with⟨j,k,e,n,l⟩|⟨j,k,b,e,n,C,l⟩
 .subst n;obtain⟨z,J,B,d,i⟩:=Kx I.hok e;obtain⟨f,hw,c⟩:=tG.some_of (v:=v) (o:=valueAt B k) (by rw[l];exact d.val k);exact wpAny_getItem_of (Hj q) i.mapOf hw (h f _ (I.tok _) c)
 .subst n;cases (show u=Value.ref b from q);obtain⟨z,J,K,d,i⟩:=HG I.hok e;obtain⟨f,hw,c⟩:=tG.some_of (v:=v) (o:=(atKey K k).map (·.2)) (by rw[l];exact d.val k);obtain⟨p,D,m⟩:=cR.mp hw;refine wpAny_getItem_heap (tupleKind_room_in1 F) (sT I.hok C) i D ?_;rw[m];exact h f _ (I.tok _) c
def Wd(x:A.units+1<cLine)(I:iq X gQ σ H s)(g:Bh H a y o)(m:i9 y u)(h:∀n,iq X gQ σ H n->Q (.bool o.isSome) n) :
  wpAny (model X.prog X.w) A (compareOp .In u (.ref a)) Q E s:=by
 rcases g with⟨f,k,e,i,l⟩|⟨f,k,b,e,i,p,l⟩
 .subst i;obtain⟨z,j,B,c,d⟩:=Kx I.hok e;refine wpAny_in_of (Hj m) j d.mapOf ?_;rw[<-(c.val k).isSome_eq,<-l];exact h _ (I.tok _)
 .subst i;cases (show u=Value.ref b from m);obtain⟨z,j,C,c,d⟩:=HG I.hok e;refine wpAny_in_heap (tupleKind_room_in1 x) (sT I.hok p) j d ?_;have q:=(c.val k).isSome_eq;rw[cQ]at q;rw[<-q,<-l];exact h _ (I.tok _)
def Bv(I:iq X gQ σ H s)(g:UE (H a))(f:Heap.SameBut a s.heap h')(c:∃q,h'.get? a=some q)(new:jH X.prog X.w (i6 H a ob) h' a ob) :
  iq X gQ σ (i6 H a ob) {s with heap:=h',toks:=t'}:=
 I.write (x:=a) (e:=a) g (.inl rfl) (λb q d z=>(f.2 b d).trans z) c new
end
def TZ(i:Expr):Prop:=∀b a,subscripted i false b a=operate [b,a] (getItem b a)
theorem PN{T id:String}
  (l:typeLookup (.type T) "__getitem__" = pure (some (.builtin id))) (k:TZ slice)
  (h:wpAny (model prog w) A (eval value env) (λo d=>wpAny (model prog w) A (eval slice env) (λi a=>a.TypeIs o T/\wpAny (model prog w) A (getItem o i) Q E a) E d) E s) :
  wpAny (model prog w) A (eval (.Subscript value slice pos) env) Q E s:=by
 refine Subscript_ (wpAny_mono h (λo d f=>wpAny_mono f (λi a b=>?_) λ_ _ x=>x) λ_ _ x=>x);obtain⟨j,b⟩:=b;unfold subscriptTail;refine ao ?_;rw[getitemInPython_of_ne j.not_modules];refine ao (wpAny_specialOf j l ?_);have e:wpAny (model prog w) A (subscripted slice false o i) (λr c=>wpAny (model prog w) A (letTemporaryGo value o r >>= λ_=>pure r) Q E c) E a:=by rw[k o i];exact wpAny_operating (wpAny_mono b (λr c g=>ao (wpAny_letTemporaryGo (ak g))) λ_ _ x=>x)
 first
  |exact ak (ao e)
  |exact ao (ak (ao e))
  |exact ao e
def Ea(I:iq X gQ σ H s)(g:Bh H a y o):s.TypeIs (.ref a) "dict" :=by
 rcases g with⟨d,k,e,_,_⟩|⟨d,k,b,e,_,_,_⟩
 .obtain⟨_,_,h,_,c⟩:=Kx I.hok e;exact c.typeIs
 .obtain⟨_,_,f,_,c⟩:=HG I.hok e;exact c.typeIs
def KS(e ty:TE):TE:=λb H Q=>e b H λx d=>ty b d λy c=>∃a v,x=.ref a/\Bh c a y (some v)/\Q v c
section
variable {X:Cx}{o i e value:Expr}{pos pos' tpos:Pos}{td ty tv:TE}
def Ov(f:X.A.units+1<cLine)(j:PE X o td)(m:PE X i ty)(k:TZ i):PE X (.Subscript o i pos) (KS td ty):=by intro c s d H Q I h;refine PN PySem.F.slot_dict_getitem.lookup k (kl (j c s d H _ I h) λu s1 ⟨x,H1,I1,rx,q1⟩=>kl (m c s1 d H1 _ I1 q1) λiv s2 ⟨y,H2,I2,ry,a,v,ex,g,q2⟩=>?_);subst ex;obtain rfl:u=Value.ref a:=rx;exact⟨Ea I2 g,HV f I2 g ry λn p l b=>⟨v,H2,l,b,q2⟩⟩
end
def LU(h:Heap)(a:sysModules<h.objs.size):jH P w H (h.push {cls:=.type "dict",data:=.dict #[]}) h.objs.size (.dT []):=⟨bK _,beq_eq_false_iff_ne.mpr (Ne.symm (aN a)),[],.nil,_,#[],0,ar _ rfl,⟨rfl,rfl,rfl⟩,rfl,rfl,List.nodup_nil⟩
end L2
namespace L2
open PySem PySem.Spec PyProof.Rows Builtin
def wO:fillsNumberSlot (.type "tuple") "mul" = pure false:=PySem.fillsNumberSlot_seq F.slot_tuple_mul.lookup (by decide +kernel) F.slot_tuple_rmul.lookup (by decide +kernel)
def Bb:seqRepeat? (.type "tuple")=pure (some (.builtin "tuple.__mul__")):=by unfold seqRepeat?;rw[PySem.seqSlot_of (name:= "__mul__") F.slot_tuple_mul.lookup (by decide +kernel),PySem.seqSlot_of (name:= "__rmul__") F.slot_tuple_rmul.lookup (by decide +kernel)];rfl
def yY a t l dct its n sl :
  Meets (Builtin.«int.__rmul__» ⟨[.int a t,.ref l],[]⟩) (λ_ R s=>s.heap.get? l=some ⟨.type "tuple",dct,.seq its n,sl⟩/\R (.ok (.ret Value.notImplemented)) s):=
 .of_wp λb w A R s h=>by obtain⟨i,g,d,c,e⟩:=s;obtain⟨f,h⟩:=h;wp_walk;exact⟨_,rfl,h⟩
def zJ a t l dct its n sl (I:-(2 ^ 63)<=a) (H:a<2 ^ 63) (k:its.size*a.toNat<=sizeLine) :
  Meets (Builtin.«tuple.__mul__» ⟨[.ref l,.int a t],[]⟩) (λ_ R s=>s.heap.get? l=some ⟨.type "tuple",dct,.seq its n,sl⟩/\((its.isEmpty=true\/a=1)->R (.ok (.ret (.ref l))) s)/\
   (¬(its.isEmpty=true\/a=1)->a<=0->R (.ok (.ret (.ref s.heap.objs.size))) {s with heap:=s.heap.push {cls:=.type "tuple",data:=.seq #[]}})/\
   (¬(its.isEmpty=true\/a=1)->0<a->R (.ok (.ret (.ref s.heap.objs.size))) {s with heap:=s.heap.push {cls:=.type "tuple",data:=.seq ((List.replicate a.toNat its).foldl (·++·) #[])}})):=
 .of_wp λm w A R s h=>by
  obtain⟨E,g,d,B,D⟩:=s;obtain⟨F,v,u,x⟩:=h;have q:¬(decide (a < -2 ^ 63)||decide (a >= 2 ^ 63))=true:=by simp;omega
  wp_walk;rw[aS q];wp_walk;by_cases b:its.isEmpty=true\/a=1
  .rw[aR (by rcases b with c|c<;>simp[c])];wp_walk;exact⟨_,rfl,v b⟩
  .rw[aS (by intro z;exact b (by simpa using z))];by_cases j:a<=0
   .rw[aR (by simp[j])];wp_walk;exact⟨_,rfl,u b j⟩
   .have o:¬its.isEmpty=true:=λz=>b (.inl z);have C:its.size*a<=sizeLine:=by
     have:((its.size*a.toNat:Nat):Int)<=sizeLine:=by exact_mod_cast k
     rw[Int.natCast_mul,cS (by omega)]at this;exact this
    have y:(sizeLine:Int)=2 ^ 24:=by decide
    rw[aS (by simp[j,o]),aS (by omega)];rw[aS (by simp[Tuple.tupleTooMany];omega)];have r:(List.foldl (λf i=>f++i) #[] (List.replicate a.toNat its)).size<=sizeLine:=by
     have e:=rN its.toList a.toNat [];simp only[cj]at e;have p:List.foldl (λf i=>f++i) #[] (List.replicate a.toNat its)=(List.replicate a.toNat its.toList).flatten.toArray:=by simpa using e
     rw[p,bF,B2,cm];simpa using k
    wp_walk;exact⟨_,rfl,x b (by omega)⟩
section
variable {X:Cx}
def NF:R2:=λx y H Q=>∃l k a,x=.ref l/\y=.int k/\H l=some (.tup a)/\-(2 ^ 63)<=k/\k<2 ^ 63/\a.length*k.toNat<=sizeLine/\((a=[]\/k=1)->Q (.ref l) H)/\
 (¬(a=[]\/k=1)->∀p,H p=none->Q (.ref p) (i6 H p (.tup (List.replicate k.toNat a).flatten)))
def OR:rK X (binaryOp .Mult) NF:=by
 intro gQ s σ H x y v u Q I P L h;obtain⟨l,k,j,rfl,rfl,K,h1,R,m,C,A⟩:=h;cases P;obtain⟨t,rfl⟩:=L;obtain⟨a,r,⟨⟨c,d,dt,p⟩,e,hc,n,N⟩,_⟩:=I.tuple (nu.of K);subst hc;subst N;have D:=r.length;have E:a.toArray.size*k.toNat<=sizeLine:=by rw[bF,<-D];exact m
 have i:a.toArray.isEmpty=true↔j=[]:=by
  cases r with
  |nil=>simp
  |cons _ _=>simp
 have f:(a.toArray.isEmpty=true\/k=1)↔(j=[]\/k=1):=by rw[i]
 have g:List.foldl (λJ S=>J++S) #[] (List.replicate k.toNat a.toArray)=(List.replicate k.toNat a).flatten.toArray:=by have:=rN a k.toNat [];rw[cj]at this;exact this
 have B:=I.fresh;refine wpAny_binaryOp_repeat_ref (by decide) ⟨_,e,rfl⟩ (λU=>typeIs_int U k t) wO F.fills_int_mul F.slot_int_rmul Bb F.slot_int_index.lookup
  (call_meets F.slot_int_rmul (typeIs_int s k t) F.entry_int_rmul (F.args_int_rmul_2 _ _) (yY k t l d a.toArray n p)
   ⟨e,rfl,⟨_,e,rfl⟩,call_meets F.slot_tuple_mul ⟨_,e,rfl⟩ F.entry_tuple_mul (F.args_tuple_mul_2 _ _) (zJ k t l d a.toArray n p h1 R E) ⟨e,λz=>?_,λz w=>?_,λz w=>?_⟩⟩)
 .exact⟨.ref l,H,I,rfl,C (f.mp z)⟩
 .have Y:k.toNat=0:=by omega
  have q:=A (λy=>z (f.mpr y)) s.heap.objs.size B;rw[Y]at q;exact⟨.ref _,_,I.laid (o:=.tup []) (λb Z q=>ae _ q) (aL _) ⟨bK _,[],.nil,yM.new _ _⟩,rfl,q⟩
 .rw[g];refine⟨.ref _,_,I.laid (o:=.tup (List.replicate k.toNat j).flatten) (λb Z q=>ae _ q) (aL _) ⟨?_,_,r.rep k.toNat,yM.new _ _⟩,rfl,A (λy=>z (f.mpr y)) _ B⟩;rw[B2,cm];exact m
def Eo:V->Option Bool
 |.bl b=>some b
 |.int i=>some (i != 0)
 |_=>none
def nj:List V->Option (List Bool)
 |[]=>some []
 |v::vs=>(Eo v).bind λb=>(nj vs).bind λr=>some (b::r)
theorem Ao:∀{vs} {bs} {us} {i} {u},nj vs=some bs->iL vs us->us[i]? = some u->∃v,i9 v u/\Eo v=some (bs.getD i false)
 |[],_,_,_,_,_,.nil,e=>by simp at e
 |v::vs,bs,_,i,u,h,.cons r t,e=>by
  cases hv:Eo v with
  |none=>simp[nj,hv]at h
  |some b=>
   cases hr:nj vs with
   |none=>simp[nj,hv,hr]at h
   |some r'=>
    simp[nj,hv,hr]at h;subst h;cases i with
    |zero=>simp at e;subst e;exact⟨v,r,by simpa using hv⟩
    |succ i=>obtain⟨c,a,d⟩:=Ao hr t (by simpa using e);exact⟨c,a,by simpa using d⟩
theorem A5:∀{vs} {bs},nj vs=some bs->vs.length=bs.length
 |[],_,h=>by cases h;rfl
 |v::vs,bs,h=>by
  cases hv:Eo v with
  |none=>simp[nj,hv]at h
  |some b=>
   cases hr:nj vs with
   |none=>simp[nj,hv,hr]at h
   |some r'=>simp[nj,hv,hr]at h;subst h;simp[A5 hr]
def xF(h:nj vs=some bs)(r:iL vs us):TruthOf prog w A (λi v=>us.toArray[i]? = some v) (λi=>bs.getD i false):=λi u s Q E e a=>by
 obtain⟨v,d,c⟩:=Ao h r (by simpa using e);dsimp only at a;cases v with
 |bl b=>
  cases d;have:b=bs.getD i false:=by simpa[Eo] using c
  rw[<-this]at a;exact wpAny_truthy_bool a
 |int n=>
  obtain⟨t,rfl⟩:=d;have:(n != 0)=bs.getD i false:=by simpa[Eo] using c
  rw[<-this]at a;exact PyProof.Rows.truthy_int a
 |_=>simp[Eo]at c
def Ip(m:X.calm=true):lO X (.builtin "any") (λxs H Q=>∃p vs bs,xs=[.ref p]/\(l9 X.K H p vs\/nu X.K H p vs)/\nj vs=some bs/\Q (.bl (bs.any id)) H):=by
 intro E s C H xs D Q I r h;obtain⟨p,vs,bs,rfl,g,d,q⟩:=h;obtain⟨u,rfl,w⟩:=sP r;cases w;have y:=A5 d;rcases g with g|g
 .obtain⟨c,j,f,n⟩:=I.list g;have B:=j.length;have a:p<s.heap.objs.size:=by obtain⟨_,e,_⟩:=f.isList;exact aM e
  refine call_any_walk (wpAny_pyIter_list f.isList ⟨s.heap.objs.size,_,_,_,_,_,λi=>bs.getD i false,rfl,Walks.list (A:=X.A.in1) (I.ok.hd m) _ p (aN a) _,⟨⟨_,ar _ rfl,rfl,rfl⟩,f.isList.push _⟩,xF d j,λx v l=>?_⟩);refine⟨.bl _,H,I.kept (λb o e=>l b o (λk=>?_) (ae _ e)),rfl,?_⟩
  .have lt:=aM e;have z:b=s.heap.objs.size:=by simpa using k
   rw[z]at lt;exact bf _ lt
  .rw[<-An]at q;have:c.toArray.size=bs.length:=by rw[bF];omega
   rw[this];exact q
 .obtain⟨c,j,f,n⟩:=I.tuple g;have B:=j.length;have a:p<s.heap.objs.size:=by obtain⟨_,e,_⟩:=f;exact aM e
  have pt:=f;refine call_any_walk (wpAny_pyIter_tuple pt ⟨s.heap.objs.size,_,_,_,_,_,λi=>bs.getD i false,rfl,Walks.tuple (A:=X.A.in1) (I.ok.hd m) _ p (aN a) _,⟨⟨_,ar _ rfl,rfl,rfl⟩,pt.push _⟩,xF d j,λx v l=>?_⟩);refine⟨.bl _,H,I.kept (λb o e=>l b o (λk=>?_) (ae _ e)),rfl,?_⟩
  .have lt:=aM e;have z:b=s.heap.objs.size:=by simpa using k
   rw[z]at lt;exact bf _ lt
  .rw[<-An]at q;have:c.toArray.size=bs.length:=by rw[bF];omega
   rw[this];exact q
end
end L2
namespace L2
open PySem PySem.Spec PyProof.Rows
section
variable {prog:Program}{w:World}{A:Around}{E:Value->Shared->Prop}{s:Shared}
def Iz{i:Nat}{Q:Value->Shared->Prop}(C:IsEnum s.heap e it i old)(hi:mU b s.heap it l i)(hl:ki b s.heap l xs)(h:e≠it)
  (z:∀x h',xs[i]? = some x->IsEnumOut h' e it ((i:Int)+1) x s.heap.objs.size->mU b h' it l (i+1)->h'.get? s.heap.objs.size=some {cls:=.type "tuple",data:=.seq #[.int i s.toks,x]}->h'.objs.size=s.heap.objs.size+1->
   (∀c o,c≠e->c≠it->s.heap.get? c=some o->h'.get? c=some o)->Q (.ref s.heap.objs.size) {s with heap:=h',toks:=s.toks+1})
  (no:xs[i]? = none->A.handled=none/\∀h' x,Heap.ExtBut it s.heap h'->(∃o,h'.get? x=some o/\o.cls=.type "StopIteration")->E (.ref x) {s with heap:=h'}) :
  wpAny (model prog w) A (Builtin.«enumerate.__next__» ⟨[.ref e],[]⟩) (λr s'=>∃v,r=.done (.ret v)/\Q v s') E s:=by
 obtain⟨R,g,d,K,os⟩:=s;show wpAny _ _ (field (.ref e) 2 >>= λ_=>_) _ _ _;refine ao (wpAny_field C rfl rfl (ao (za hi hl (λx g1 hx t1 k1=>?_) no)));have j:=k1;have B:=(j.2 e h).trans C;refine ao (wpAny_field B rfl rfl ?_);refine ao (wpAny_field B rfl rfl ?_);refine ao (wpAny_mkInt (ao (wpAny_setField_rec B (by simp) λg2 y2 y=>?_)));have z2:=y2;refine ao (wpAny_setField_rec z2 (by simp) λk y3 D=>?_);have Z:=y3;refine ao (wpAny_newTuple ?_);have sz:k.objs.size=R.objs.size:=by have a:=D.1;have c:=y.1;have u:=j.1;dsimp only at a c u;omega
 have p:IsEnum (k.push {cls:=.type "tuple",data:=.seq #[.int i K,x]}) e it (i+1) old:=ae _ Z;have U:=aM C;have F:∀c o,c≠e->c≠it->R.get? c=some o->k.get? c=some o:=λc o f H q=>D.extBut c o f (y.extBut c o f (j.extBut c o H q));unfold Builtin.SmallTypes.ownedTupleIsFree;refine ao (ao (wpAny_field p rfl rfl (ak ?_)));simp only[if_true];refine ao (wpAny_rule (ao (wpAny_field p rfl rfl (ao (wpAny_setField_rec p (by simp) λg5 y5 J=>?_)))));have z5:=y5;unfold Builtin.SmallTypes.ownedTupleHandOut;refine ao (ao (wpAny_setField_rec z5 (by simp) λg6 Y I=>?_));have z6:=Y;refine wpAny_setField_rec z6 (by simp) λn X N=>?_;have L:=X;have up:∀c o,c≠e->(k.push {cls:=.type "tuple",data:=.seq #[.int i K,x]}).get? c=some o->n.get? c=some o:=λc o f q=>N.extBut c o f (I.extBut c o f (J.extBut c o f q));have m:∀c o,c≠e->k.get? c=some o->n.get? c=some o:=λc o f q=>up c o f (ae _ q);have P:=up _ _ (by rw[sz];exact bB U) (ar _ rfl);have S:n.objs.size=k.objs.size+1:=by have a:=N.1;have c:=I.1;have u:=J.1;dsimp only at a c u;rw[Heap.size_push]at u;omega
 refine ao (wpAny_letGo (ak ⟨_,rfl,?_⟩));rw[sz]at L P S ⊢;exact z x n hx L (t1.to λo q=>m it o (Ne.symm h) (D.extBut it o (Ne.symm h) (y.extBut it o (Ne.symm h) q))) P S λc o f H q=>m c o f (F c o f H q)
def AM{i:Nat}(f:IsEnum s.heap e it i old)(h:mU b s.heap it l i)(j:ki b s.heap l xs)(a:e≠it)
  (d:∀x h',xs[i]? = some x->IsEnumOut h' e it ((i:Int)+1) x s.heap.objs.size->mU b h' it l (i+1)->h'.get? s.heap.objs.size=some {cls:=.type "tuple",data:=.seq #[.int i s.toks,x]}->h'.objs.size=s.heap.objs.size+1->
   (∀c o,c≠e->c≠it->s.heap.get? c=some o->h'.get? c=some o)->Q (some (.ref s.heap.objs.size)) {s with heap:=h',toks:=s.toks+1})
  (no:xs[i]? = none->A.handled=none/\∀h',Heap.ExtBut it s.heap h'->Q none {s with heap:=h'}):wpAny (model prog w) A (pyNext (.ref e)) Q E s:=by
 have ty:s.TypeIs (.ref e) "enumerate" :=⟨_,f,rfl⟩;unfold pyNext;refine ao (wpAny_attempt (wpAny_callSpecial?_slot ty F.slot_enumerate_next (wpAny_call_entry F.slot_enumerate_next ty F.entry_enumerate_next
  (Iz f h j a (λx h' r n m g p k=>ak (d x h' r n m g p k)) λq=>⟨(no q).1,λh' x hk ⟨o,ho,hc⟩=>?_⟩) (F.args_enumerate_next_1 _))))
 exact ao (wpAny_isInstance ⟨o,ho,hc⟩ isSubtype_stop (ak ((no q).2 h' hk)))
noncomputable abbrev eo(b:Bool)(l:Addr):Obj:={cls:=.type (yg b),data:=.fields #[.ref l,.int 0 0]}
abbrev en(p:Addr):Obj:={cls:=.type "enumerate",data:=.fields #[.none,.bool false,.ref p,rawInt 0,.none,.none]}
def Gd b l xs:Meets (Builtin.«enumerate.__new__» ⟨[.type "enumerate",.ref l],[]⟩) (λ_ R s=>ki b s.heap l xs/\
  R (.ok (.ret (.ref (s.heap.push (eo b l)).objs.size))) {s with heap:=(s.heap.push (eo b l)).push (en s.heap.objs.size)}):=by
 refine .of_wp λprog w A R s h=>?_;obtain⟨p,g,d,j,m⟩:=s;obtain⟨i,e⟩:=h;have f:=sub_enumerate;have a:=i;obtain⟨o,n,k,q⟩:=a.look;wp_walk using pX a;refine wpAny_stack_any λr=>ak ?_;split
 .rename_i c _ _ _ _ _;cases (c==Value.type "enumerate")
  .wp_walk using pX a;exact⟨_,rfl,e⟩
  .wp_walk using pX a;exact⟨_,rfl,e⟩
 .wp_walk using pX a;exact⟨_,rfl,e⟩
def H9(f:ki b s.heap l xs)
  (h:∀h',IsEnum h' (s.heap.objs.size+1) s.heap.objs.size 0 .none->mU b h' s.heap.objs.size l 0->h'.objs.size=s.heap.objs.size+2->(∀c o,s.heap.get? c=some o->h'.get? c=some o)->Q (.ref (s.heap.objs.size+1)) {s with heap:=h'}) :
  wpAny (model prog w) A (call (.type "enumerate") [.ref l]) Q E s:=by
 refine callType_new F.called_enumerate (by decide) (F.typeCall_enumerate_1 _) (F.newCall_enumerate_1 _) (λe=>F.args_object_init_2 e _) F.entry_enumerate_new (Gd b l xs) ⟨f,?_⟩;have d:(s.heap.push (eo b l)).objs.size=s.heap.objs.size+1:=Heap.size_push ..;have a:=ar (s.heap.push (eo b l)) (o:=en s.heap.objs.size) rfl;rw[d]at a;rw[d];exact⟨⟨_,a,rfl⟩,h _ a (.of ⟨_,ae _ (ar _ rfl),rfl,rfl⟩) (by rw[Heap.size_push,d]) λc o q=>ae _ (ae _ q)⟩
end
noncomputable def Wo(K:W.Frag)(b:Bool)(l:Addr):It:=
  ⟨λi H=>∃a x,zx K H b l a/\a[i]? = some x,
   λi H v c=>∃p x,v=.ref p/\H p=none/\c=i6 H p (.tup [.int i,x])/\∀a,zx K H b l a->a[i]? = some x,
   λi H=>∃a,zx K H b l a/\a.length<=i⟩
def Ih{K:W.Frag}{x1}(p:e≠it) :
  FU P w K (.Tuple elts x1 pos) (Wo K b l) [e,it] e (λi h=>(∃a,IsEnum h e it i a)/\mU b h it l i) where
 mem:=by simp
 obj:=λi h j c L=>by
  obtain⟨⟨a,g⟩,m⟩:=j;have mem:c=e\/c=it:=by simpa using L
  rcases mem with rfl|rfl
  .exact⟨_,g,λv q=>by cases q⟩
  .obtain⟨o,q,_,d⟩:=m.look;exact⟨o,q,λv q'=>by rw[d]at q';cases q'⟩
 keep:=λi h R j k=>by obtain⟨⟨a,g⟩,m⟩:=j;exact⟨⟨a,k e (by simp) _ g⟩,m.to λo q=>k it (by simp) o q⟩
 item:=by
  intro X S hw Z L i gQ s σ H E I J j Y;subst S hw Z;obtain⟨⟨a,g⟩,m⟩:=j;obtain⟨xs,x,F,e1⟩:=Y;obtain⟨C,N,Q,z1⟩:=I.seqB F;obtain⟨u,gu,ru⟩:=N.get e1;have y:=I.fpOk (aL _) (I.hok.fresh (aL _));refine AM g m Q p (λA R n a1 a2 a3 a4 D=>?_) λq=>?_
  .have eu:A=u:=by
    have:C[i]? = some A:=by simpa using n
    rw[gu]at this;cases this;rfl
   subst eu;refine⟨_,rfl,wpAny_letOwnedTupleGo_enum a1 λU B sb=>?_⟩;have r:=sb;have zT:=bB (aM g);have I1:=I.turnedL (t':=s.toks+1) (λb o f q=>r.extBut _ _ (λz=>f (by simp[z])) (D b o (λz=>f (by simp[z])) (λz=>f (by simp[z])) q)) (λb f=>J b f);have gT:=r.extBut _ _ zT a3;have I2:iq X gQ σ (i6 H s.heap.objs.size (.tup [.int i,x])) {s with heap:=U,toks:=s.toks+1}:=I1.track y.1 y.2.2.2.1 y.2.1 y.2.2.2.2.1 y.2.2.2.2.2
    ⟨by show 2<=sizeLine;decide,[.int i s.toks,A],.cons ⟨_,rfl⟩ (.cons ru .nil),⟨_,gT,rfl,_,rfl,rfl⟩⟩
   have lt:∀{b o},s.heap.get? b=some o->i6 H s.heap.objs.size (.tup [.int i,x]) b=H b:=λ{b o} q=>hV (aN (aM q));refine⟨.ref s.heap.objs.size,_,I2,rfl,⟨_,x,rfl,y.1,rfl,λxs' h=>by rw[I.seqB_inj h F];exact e1⟩,?_,λb f=>?_⟩
   .exact⟨⟨_,B⟩,a2.to λo q=>r.extBut _ o (Ne.symm p) q⟩
   .have mem:b=e\/b=it:=by simpa using f
    have hn:=(J b f).1;obtain⟨o1,g1,_⟩:=m.look;rcases mem with rfl|rfl
    .rw[lt g];exact hn
    .rw[lt g1];exact hn
  .exfalso;have m1:C.toArray[i]? = some u:=by simpa using gu
   rw[m1]at q;cases q
 done:=by
  intro X S hw Z L i gQ s σ H E I J j Y;subst S hw Z;obtain⟨⟨a,g⟩,m⟩:=j;obtain⟨xs,F,hl⟩:=Y;obtain⟨C,N,Q,z1⟩:=I.seqB F;have n1:=N.length;refine AM g m Q p (λA R n a1 a2 a3 a4 D=>?_) λq=>⟨I.ok.hd L,λR D=>⟨rfl,I.turnedL (ch:=[it]) (λb o f q=>D b o (λz=>f (by simp[z])) q) λb f=>J b (by
   have:b=it:=by simpa using f
   simp[this])⟩⟩
  exfalso;have m1:i<C.length:=by
   have:C[i]? = some A:=by simpa using n
   exact (aa.mp this).1
  omega
 self:=λ_ _ _ _ _ j h=>by obtain⟨⟨a,g⟩,_⟩:=j;exact wpAny_pyIter_enum g h
section
variable {X:Cx}
def NB(K:W.Frag)(b:Bool)(d:TA):TI:=λf H R=>d f H λe a=>∃l,e=[.ref l]/\(∃c,zx K a b l c)/\R (Wo K b l) a
def LM{x1}(z:Gl X "enumerate")(k:X.mg "enumerate" = none)(x:PA X [a] ta)(g:starEach [a] X.env=[(false,eval a X.env)]:=by rfl) :
  PI X (.Tuple elts x1 tpos) (.Call (.Name "enumerate" p) [a] [] pos) (NB X.K b ta):=by
 intro y s n H R I h;refine Call_ (tK I z k boot_enumerate (PyProof.Rows.callWith_type1 (kl (x pos y s n H _ I h) λo s1 ⟨vs,H1,I1,r1,c⟩=>?_) g rfl));obtain⟨l,rfl,⟨C,c⟩,q⟩:=c;obtain⟨u,rfl,w⟩:=sP r1;cases w;obtain⟨o,A,j,_⟩:=I1.seqB c;refine H9 j λB f i r m=>?_;refine wpAny_pyIter_enum f ?_;refine⟨_,_,_,_,H1,rfl,I1.kept m,Ih (Nat.succ_ne_self _),⟨⟨_,f⟩,i⟩,λb v=>?_,q⟩;have d:b=s1.heap.objs.size+1\/b=s1.heap.objs.size:=by simpa using v
 have e:s1.heap.objs.size<=b:=by rcases d with rfl|rfl<;>omega
 exact I1.fpOk e (I1.hok.fresh e)
end
end L2
namespace HT
open PySem PySem.Spec PyProof.Rows
section
variable {prog:Program}{w:World}{A:Around}{E:Value->Shared->Prop}{s:Shared}
def getItem_tuple_all{a d:Option Int}(c:IsTup s.heap t items)(i:s.heap.IsSliceOf sl vl vu .none)(j:IsPart vl a)(k:IsPart vu d)
  (hw:sIx items.size 0 a=0/\sIx items.size items.size d=items.size) (h:Q (.ref t) s):wpAny (model prog w) A (getItem (.ref t) (.ref sl)) Q E s:=by
 obtain⟨m,g,e,l⟩:=id i;have f:s.TypeIs (.ref sl) "slice" :=⟨m,g,e⟩;unfold getItem;try with_reducible refine wpAny_holding ?_;first|refine ao (ak ?_)|skip
 refine ao (wpAny_sequenceKey c.typeIs (by decide) ?_);refine ao (wpAny_callSpecial?_slot c.typeIs PyProof.Rows.slot_tuple_getitem
  (wpAny_call_entry PyProof.Rows.slot_tuple_getitem c.typeIs entry_tuple_getitem ?_ (args_tuple_getitem _ _)))
 show wpAny _ _ (Builtin.Tuple.tupleItemsOf (.ref t) >>= _) _ _ s;refine ao (tupleItemsOf_ c ?_);refine ao (wpAny_typeOf f ?_);rw[aR (by decide)];refine ao (qf i j k ?_);have b:(((sIx items.size 0 a):Int)==0&&(1:Int)==1&&(sIx items.size items.size d-sIx items.size 0 a)==items.size)=true:=by rw[hw.1,hw.2];simp
 show wpAny _ _ (if (((sIx items.size 0 a):Int)==0&&1==1&&(sIx items.size items.size d-sIx items.size 0 a)==items.size)=true then _ else _) _ _ s;rw[aR b];refine ao (ao (wpAny_typeOf c.typeIs (ak ?_)));rw[aR (by decide)];refine ao (wpAny_rule ?_);exact ak ⟨_,rfl,ak h⟩
end
end HT
namespace L2
open PySem PySem.Spec PyProof.Rows
section
variable {X:Cx}
def Vy(K:W.Frag):V->Option Int->Option Int->Hp->VK->Prop:=λx c d H Q=>∃a b,x=.ref a/\nu K H a b/\(HT.sIx b.length 0 c=0/\HT.sIx b.length b.length d=b.length)/\Q (.ref a) H
def OB:Rb X (Vy X.K):=by
 intro w s p H x v o y u n m Q I j d f g h;obtain⟨a,k,rfl,e,hw,q⟩:=h;cases j;obtain⟨b,r,c,l⟩:=I.tuple e;have i:b.toArray.size=k.length:=by rw[bF];exact r.length.symm
 refine⟨"tuple",_,PyProof.Rows.slot_tuple_getitem.lookup,c.typeIs,?_⟩;exact HT.getItem_tuple_all c d f g (by rw[i];exact hw) ⟨.ref a,H,I,rfl,q⟩
end
end L2
namespace L2
open PySem PySem.Spec PyProof.Rows
section
variable {prog:Program}{w:World}{A:Around}{E:Value->Shared->Prop}{s:Shared}{d it:Addr}{es:Array DictEntry}{ep i:Nat}
def wc(h:Heap)(d:Addr)(es:Array DictEntry)(ep:Nat):Prop:=∃o,h.get? d=some o/\o.ExactDict/\o.data=.dict es ep
def wc.to(x:wc h d es ep)(k:∀o,h.get? d=some o->h'.get? d=some o):wc h' d es ep:=let ⟨o,a,r⟩:=x;⟨o,k o a,r⟩
def wc.lt(x:wc h d es ep):d<h.objs.size:=let ⟨_,a,_⟩:=x;aM a
def wc.ty(x:wc s.heap d es ep):s.TypeIs (.ref d) "dict" :=let ⟨o,a,c,_⟩:=x;⟨o,a,c.1⟩
def Mp(e:(d==sysModules)=false)(x:wc s.heap d es ep)
  (q:Q (.ref s.heap.objs.size) {s with heap:=s.heap.push {cls:=.type "dict_keyiterator",data:=.fields #[.ref d,.int 0 0,.int es.size 0,.int ep 0]}}):wpAny (model prog w) A (pyIter (.ref d)) Q E s:=by
 obtain⟨o,a,c,b⟩:=id x;refine wpAny_pyIter_slot x.ty F.slot_dict_iter (wpAny_call_entry F.slot_dict_iter x.ty F.entry_dict_iter ?_ (F.args_dict_iter_1 _));unfold Builtin.«dict.__iter__»;refine ao ?_;unfold Builtin.Dict.dictSlotNone;refine ao (wpAny_notOrdered_dict x.ty ?_);show wpAny _ _ (pure (Value.ref d)) _ _ s;refine ak ?_;show wpAny _ _ (Builtin.Dict.showsAll d >>= λ_=>_) _ _ s;unfold Builtin.Dict.showsAll;rw[aS (by rw[e];exact λz=>nomatch z)];refine ao (ak (ao (wpAny_dictEntries a b (ao (wpAny_dictEpoch a b ?_)))));refine ao (wpAny_newObj_type (ak ⟨_,rfl, "dict_keyiterator",_,⟨_,ar _ rfl,rfl⟩,F.slot_dict_keyiterator_next.lookup,?_⟩));simpa[rawInt] using q
def SW(j:s.heap.IsKeyIter it d i es.size ep)(x:wc s.heap d es ep) hi
  (q:∀h',h'.IsKeyIter it d (i+1) es.size ep->Heap.SameBut it s.heap h'->Q (some es[i].key) {s with heap:=h'}):wpAny (model prog w) A (pyNext (.ref it)) Q E s:=by
 obtain⟨o,a,c,b⟩:=id j;obtain⟨l,f,k,g⟩:=id x;have e:Builtin.Dict_items.ownsTuple "dict_keyiterator" = false:=by decide
 unfold pyNext;refine ao (wpAny_attempt (wpAny_callSpecial?_slot j.typeIs F.slot_dict_keyiterator_next (wpAny_call_entry F.slot_dict_keyiterator_next j.typeIs F.entry_dict_keyiterator_next ?_ (F.args_dict_keyiterator_next_1 _))));refine ao (ak (ao (ao ?_)));first|refine ao (wpAny_typeNameOfWhole_keyiter j.typeIs (ak (ao (wpAny_fieldsOf a b ?_))))|refine ao (wpAny_typeNameOf_keyiter j.typeIs (ak (ao (wpAny_fieldsOf a b ?_))))
 simp only[e,cy,if_false];show wpAny _ _ (if (Value.ref d==Value.none)=true then _ else _) _ _ s;rw[aS (λz=>nomatch z)];refine ao (ak (ao (wpAny_dictEntries f g ?_)));rw[aS (by simp)];refine ao (ak (ao (wpAny_dictEpoch f g ?_)));rw[aS (by simp)];refine ak ?_;simp only[show ¬(i<0) from by omega,if_false,bS,Array.getElem?_eq_getElem hi];refine ao ?_;first|refine ao (wpAny_typeNameOfWhole_keyiter j.typeIs (ak (ao (wpAny_isOneOf_keyiter j.typeIs ?_))))|refine ao (wpAny_typeNameOf_keyiter j.typeIs (ak (ao (wpAny_isOneOf_keyiter j.typeIs ?_))))
 show wpAny _ _ (setField (.ref it) 1 (rawInt (i+1)) >>= λ_=>_) _ _ s;refine ao (wpAny_setField a b (by simp) ?_);have h:(s.heap.update it (Obj.mapFields (·.setIfInBounds 1 (rawInt (i+1))))).IsKeyIter it d (i+1) es.size ep:=⟨_,Heap.get?_update_self _ a (Obj.isFreed_of_fields (Obj.data_mapFields b _)),(Obj.cls_mapFields ..).trans c,by rw[Obj.data_mapFields b];simp[rawInt]⟩
 refine ao (wpAny_holding (ao (wpAny_isOneOf_keyiter h.typeIs ?_)));exact ak (ak ⟨_,rfl,ak (q _ h (Heap.SameBut.update ..))⟩)
def Os(h:A.handled=none)(j:s.heap.IsKeyIter it d es.size es.size ep)(x:wc s.heap d es ep)(q:∀h',Heap.ExtBut it s.heap h'->Q none {s with heap:=h'}) :
  wpAny (model prog w) A (pyNext (.ref it)) Q E s:=by
 obtain⟨o,a,c,e⟩:=id j;obtain⟨l,f,k,g⟩:=id x;have b:Builtin.Dict_items.ownsTuple "dict_keyiterator" = false:=by decide
 unfold pyNext;refine ao (wpAny_attempt (wpAny_callSpecial?_slot j.typeIs F.slot_dict_keyiterator_next (wpAny_call_entry F.slot_dict_keyiterator_next j.typeIs F.entry_dict_keyiterator_next ?_ (F.args_dict_keyiterator_next_1 _))));refine ao (ak (ao (ao ?_)));first|refine ao (wpAny_typeNameOfWhole_keyiter j.typeIs (ak (ao (wpAny_fieldsOf a e ?_))))|refine ao (wpAny_typeNameOf_keyiter j.typeIs (ak (ao (wpAny_fieldsOf a e ?_))))
 simp only[b,cy,if_false];show wpAny _ _ (if (Value.ref d==Value.none)=true then _ else _) _ _ s;rw[aS (λz=>nomatch z)];refine ao (ak (ao (wpAny_dictEntries f g ?_)));rw[aS (by simp)];refine ao (ak (ao (wpAny_dictEpoch f g ?_)));rw[aS (by simp)];refine ak ?_;simp only[show ¬(es.size<0) from by omega,if_false,bS,Array.getElem?_eq_none (aL es.size)];refine ao ?_;first|refine ao (wpAny_typeNameOfWhole_keyiter j.typeIs (ak ?_))|refine ao (wpAny_typeNameOf_keyiter j.typeIs (ak ?_))
 show wpAny _ _ (setField (.ref it) 0 .none >>= λ_=>_) _ _ s;refine ao (wpAny_setField a e (by simp) ?_);refine ao ?_;simp only[newExc,newTuple];refine ao (wpAny_newObj_type ?_ (by size_fits));refine ao (wpAny_of_eq (by first|rfl|(simp only[firstArgMember];rfl)) ?_);refine wpAny_newObj_type ?_ (by size_fits);simp only[raiseNew];refine ao (wpAny_handled ?_);rw[show A.in1.handled=none from h];refine ao (ak (wpAny_throw ?_));refine ao (wpAny_isInstance ⟨_,ar _ rfl,rfl⟩ isSubtype_stop ?_);exact ak (q _ (((Heap.SameBut.update ..).extBut.push _).push _))
def IA(g:A.handled=none) I d (ne:d≠I) es ep :
  Walks prog w A I [I,d] [I] es.size (λi v=>∃e,es[i]? = some e/\v=e.key) (λi h=>h.IsKeyIter I d i es.size ep/\wc h d es ep) where
 sub:=λb a=>by simp at a;simp[a]
 frame:=λ_ _ _ x k=>⟨x.1.at λo e=>k I (by simp) o e,x.2.to λo e=>k d (by simp) o e⟩
 item:=λi s Q E f x q=>SW x.1 x.2 f λc j k=>q _ c s.toks ⟨es[i],by simp[f],rfl⟩ ⟨j,x.2.to λo e=>k.extBut d o ne e⟩ λb o a e=>k.extBut b o (λz=>a (by simp[z])) e
 done:=λs Q E x q=>Os g x.1 x.2 λc k=>q c s.toks λb o a e=>k b o (λz=>a (by simp[z])) e
 self:=λ_ _ _ _ x q=>wpAny_pyIter_keyiter x.1 q
def NU(a:(d==sysModules)=false):W.KdlSrc prog w "dict" d d es.size (λi v=>∃e,es[i]? = some e/\v=e.key) (λh=>wc h d es ep) where
 type:=λ_ x=>x.ty
 there:=λ_ x=>⟨x.lt,x.lt⟩
 keep:=λ_ _ x k=>x.to λo e=>k d (.inl rfl) o e
 notList:=by decide
 notTuple:=by decide
 hint:=λ_ _ _ _ x q=>W.kdl_hint_dict x.ty q
 iter:=λ_ _ b x=>⟨_,_,(λ_ _ q=>Mp a x q),IA b _ d (aN x.lt) es ep,⟨⟨_,ar _ rfl,rfl,rfl⟩,x.to λo e=>ae _ e⟩⟩
end
theorem wg:∀{xs} {us},xs.length=us.length->(∀(i:Nat) v,us[i]? = some v->∃x,xs[i]? = some x/\i9 x v)->iL xs us
 |[],[],_,_=>.nil
 |x::xs,u::us,hl,h=>by obtain⟨a,e,r⟩:=h 0 u rfl;simp at e;subst e;exact .cons r (wg (by simpa using hl) λi v hv=>by simpa using h (i+1) v (by simpa using hv))
theorem pU{F:α->β->Prop}:∀{l:List α} {m:List β} {i:Nat} {a:α},Paired F l m->l[i]? = some a->∃b,m[i]? = some b/\F a b
 |_::_,_::_,0,_,.cons h _,e=>by simp at e;subst e;exact⟨_,rfl,h⟩
 |_::_,_::_,i+1,_,.cons _ r,e=>by simpa using pU r (by simpa using e)
end L2
namespace L2
open PySem PySem.Spec PyProof.Rows
def OO:typeLookup (.type "list") "keys" = pure none:=by rw[typeLookup_type,builtinLookup_eq_fast];kernel_rfl
def A2:entryFor table "dict.update.loop" = some Builtin.«dict.update.loop»:=entryFor_of_tree (by kernel_rfl)
def rZ:plainId "dict.update.loop" = true:=by decide +kernel
def Ja
  (m:s.heap.get? a=some o) (r:o.cls=.type "list") (f:o.data=.seq xs k) (q:o.dict=none) (C:A.handled=none)
  (h:∀h' n,(∀b l,s.heap.get? b=some l->h'.get? b=some l)->Q none {s with heap:=h',toks:=n}) :
  wpAny (model prog w) A (getAttr? (.ref a) "keys") Q E s:=by
 obtain⟨c,v,y,u⟩:=o;simp only at r f q;subst r f q;obtain⟨z,g,d,n,x⟩:=s;have p:∀j,(⟨z,g,d,j,x⟩:Shared).TypeIs (.ref a) "list" :=λ_=>⟨_,m,rfl⟩;have J:=sub_AttributeError;have N:=F.slot_list_getattribute.lookup;have L:=F.slot_list_getattribute.bind (.ref a);have D:=am_list_getattr_none;unfold getAttr? getAttrBy? getAttrBy;(repeat (any_goals (first|assumption|exact p _|((with_reducible show wpAny _ _ (call (Value.builtin "list.__getattribute__") _ _) _ _ _);refine call_meets F.slot_list_getattribute (p _) am_entry_list_getattribute (F.args_list_getattribute_2 _ _) (meets_getattribute_miss_list a xs k u "keys" _ OO (by decide +kernel) (by size_fits)) ⟨m,C,λh' j e i=>?_⟩)|wp_step)));obtain⟨H,I,K⟩:=i.there;unfold getattributeRaised;(repeat (any_goals (first|assumption|wp_step)));exact h _ _ λb l B=>i.keeps b l B
section
variable {X:Cx}{gQ:List (Addr×Obj)}{σ:St}{H:Hp}{s:Shared}
abbrev Pr:=Addr×Addr×List nC×V
def Pl(H:Hp)(q:Pr):Prop:=H q.1=some (.tup [.ref q.2.1,q.2.2.2])/\H q.2.1=some (.tup (q.2.2.1.map kV))
noncomputable def vV(kvs:List (List nC×V))(a:List Pr):List (List nC×V):=a.foldl (λk q=>vD k q.2.2.1 q.2.2.2) kvs
def Ju(y:A.units<cLine)(I:iq X gQ σ H s)(e:H d=some (.dT kvs))(m:H b=some (.tup (k.map kV)))(l:kvs.length<sizeLine)(K:i9 v r)
  (h:∀h' t',Heap.SameBut d s.heap h'->iq X gQ σ (i6 H d (.dT (vD kvs k v))) {s with heap:=h',toks:=t'}->Q () {s with heap:=h',toks:=t'}):wpAny (model X.prog X.w) A (dictSet d (.ref b) r) Q E s:=by
 obtain⟨z,C,F,a,n⟩:=UV I.hok e;have L:F.length<=sizeLine:=by rw[<-Paired.length a];exact z
 have x:(vD kvs k v).length<=sizeLine:=by have:=wx kvs k v;omega
 refine wpAny_dictSet_heap y (sT I.hok m) n λh' f j=>h h' _ j ?_;obtain⟨q,u,J,g,D,B,o,_,p⟩:=f;refine Bv I (by rw[e];exact True.intro) j ⟨q,g⟩ ⟨x,C,_,(a.put k m K).keeps λc N i=>?_,q,u,J,g,D,B,o,p⟩;rw[hV (UM i e (λz=>nomatch z))];exact i
theorem DF(U:A.handled=none)(Z:A.units+1<cLine) :
  ∀a c H kvs s t,iq X gQ σ H s->H d=some (.dT kvs)->H l=some (.lst ((c++a).map λq=>.ref q.1))->(∀q∈a,Pl H q)->kvs.length+a.length<=sizeLine->
  s.heap.IsListIter it l c.length->vN X gQ H it->(∀C,iq X gQ σ (i6 H d (.dT (vV kvs a))) C->R (.ok (.ret .none)) C)->
  codeAny (model X.prog X.w) A (.builtin "dict.update.loop" ⟨[.ref d,.ref it,.int (c.length:Int) t,.none],[]⟩) R s
 |[],c,H,kvs,s,t,I,ed,el,_,hz,hit,hf,hR=>by
  obtain⟨its,N,J,_⟩:=I.list (l9.of el);have hn:=N.length;rw[bL,ax]at hn;obtain⟨f,n,Y,p,D,m⟩:=hf;refine codeAny_builtin A2 ?_;rw[Around.under_plainId rZ _];refine ao (wpAny_pyNext_list_end U hit J.isList (by simp[hn]) λh' eb=>?_);have B:=I.turned (t':=s.toks) (λb o L e=>eb b o L e) f n p D m;refine ao (ak (ak (hR _ ?_)));have e:i6 H d (.dT (vV kvs []))=H:=by
   funext b;by_cases q:b=d
   .subst q;rw[g9,ed];rfl
   .rw[hV q]
  rw[e];exact B
 |q::a,c,H,kvs,s,t,I,ed,el,hp,hz,hit,hf,hR=>by
  obtain⟨its,N,J,_⟩:=I.list (l9.of el);obtain⟨f,n,Y,p,D,m⟩:=id hf;obtain⟨h1,h2⟩:=hp q (by simp);obtain⟨u,F,ru⟩:=N.get (i:=c.length) (x:=.ref q.1) (by simp);cases (ru);refine codeAny_builtin A2 ?_;rw[Around.under_plainId rZ _];refine ao (wpAny_pyNext_list_item hit J.isList (by simpa using F) λh' h sb=>?_);have B:=I.turned (t':=s.toks) (λb o L e=>(sb.2 b L).trans e) f n p D m;obtain⟨ks,rk,⟨ot,S,ct,nt,dt⟩,_⟩:=B.tuple (nu.of h1);obtain⟨k,v,rfl,Ra,P⟩:=Na rk;cases (Ra);refine ao (wpAny_holding (ao (wpAny_tryCatch ?_)));unfold Builtin.Dict.pairItems;refine ao (wpAny_typeOf ⟨_,S,ct⟩ ?_);rw[aR (by decide)];refine ao (wpAny_seqItems S dt (ak ?_));have hz':kvs.length+(a.length+1)<=sizeLine:=hz;refine wpAny_holding (Ju Z B ed h2 (by omega) P λh2' t2 K I2=>?_);have j:it≠d:=λz=>by rw[z,ed]at f;cases f
  have ne:∀b o,H b=some o->(∀kvs,o≠.dT kvs)->i6 H d (.dT (vD kvs q.2.2.1 q.2.2.2)) b=some o:=λb o e z=>by rw[hV (λw=>by rw[w,ed]at e;cases e;exact z _ rfl)];exact e
  refine ak ⟨plainId_quiet rZ _,?_⟩;have E:=h.extBut K.extBut j;have g:=DF U Z a (c++[q]) (i6 H d (.dT (vD kvs q.2.2.1 q.2.2.2))) (vD kvs q.2.2.1 q.2.2.2) _ 0 I2 g9 (by rw[b9];exact ne _ _ el (λ_ z=>nomatch z)) (λr hr=>⟨ne _ _ (hp r (by simp[hr])).1 (λ_ z=>nomatch z),ne _ _ (hp r (by simp[hr])).2 (λ_ z=>nomatch z)⟩) (by have:=wx kvs q.2.2.1 q.2.2.2;omega) (by simpa using E) ⟨by rw[hV j];exact f,n,Y,p,D,m⟩ (λC Q=>hR C (by
   have e:∀x y:HO,i6 (i6 H d x) d y=i6 H d y:=λx y=>by
    funext b;by_cases z:b=d
    .subst z;rw[g9,g9]
    .rw[hV z,hV z,hV z]
   rw[e]at Q;exact Q))
  rw[aU]at g;exact g
def EB(hc:X.calm=true)(hu:X.A.units+4<cLine):lO X (.type "dict") (λxs H Q=>∃l g,xs=[.ref l]/\H l=some (.lst (g.map λq=>.ref q.1))/\(∀q∈g,Pl H q)/\∀d,H d=none->Q (.ref d) (i6 H d (.dT (vV [] g)))):=by
 intro gQ s σ H xs us Q I r h;obtain⟨l,g,rfl,m,S,q⟩:=h;obtain⟨u,rfl,U⟩:=sP r;cases U;have w:=I.ok.hd hc;refine callType_codes (Q₁:=λi c=>i=.ref s.heap.objs.size/\c={s with heap:=s.heap.push {cls:=.type "dict",data:=.dict #[]}}) F.kt_called_dict (F.kt_typeCall_dict_1 _) F.entry_dict_init (kt_code_dict_new _ ⟨rfl,rfl⟩) ?_;rintro i c ⟨rfl,rfl⟩;have a:=I.hok.fresh (aL s.heap.objs.size);have E:(s.heap.push {cls:=.type "dict",data:=.dict #[]}).get? s.heap.objs.size=some {cls:=.type "dict",data:=.dict #[]}:=ar _ rfl;refine⟨⟨_,E,rfl⟩,F.args_dict_init_2 _ _,?_⟩;have K:=I.laid (t':=s.toks) (λ_ _ q=>ae _ q) (aL _) (LU s.heap I.big);have f:i6 H s.heap.objs.size (.dT []) l=some (.lst (g.map λq=>.ref q.1)):=by rw[hV (ip m a)];exact m
 obtain⟨N,rv,P,v⟩:=K.list (l9.of f);rw[ax]at v;obtain⟨ol,nl,C,n,e3,e4⟩:=id P;unfold Builtin.«dict.__init__»;refine ao ?_;unfold Builtin.Dict.selfAndRest;refine ao (wpAny_notOrdered_dict ⟨_,E,rfl⟩ ?_);refine ak ?_;show wpAny _ _ (Builtin.Dict.updateFrom "dict.__init__" s.heap.objs.size (.ref l) [] .none) _ _ _;unfold Builtin.Dict.updateFrom;refine ao (wpAny_typeOf ⟨_,C,n⟩ ?_);rw[aR (by decide)];refine ao (Ja C n e4 e3 w λZ B R=>?_);have j:=K.kept (t':=B) R;rw[aR (by rfl)];refine ao (wpAny_rule ?_);obtain⟨D,Y,k,_⟩:=j.list (l9.of f);refine ao (wpAny_pyIter_list k.isList ?_);have I3:iq X gQ σ (i6 H s.heap.objs.size (.dT [])) {s with heap:=Z.push {cls:=.type "list_iterator",data:=.fields #[.ref l,.int 0 0]},toks:=B}:=j.kept λb o e=>ae _ e;refine ak ⟨plainId_quiet rZ _,DF (A:=X.A.in1) w (by show X.A.units+1+1<_;omega) g [] _ [] _ _ I3 g9 (by simpa using f) (λr hr=>?_) (by simpa using v) ⟨_,ar _ rfl,rfl,rfl⟩ (j.fpOk (aL _) (j.hok.fresh (aL _))) λs' p=>⟨rfl,.ref s.heap.objs.size,_,?_,rfl,q _ a⟩⟩
 .obtain⟨L,J⟩:=S r hr;exact⟨by rw[hV (ip L a)];exact L,by rw[hV (ip J a)];exact J⟩
 .have e:∀x y:HO,i6 (i6 H s.heap.objs.size x) s.heap.objs.size y=i6 H s.heap.objs.size y:=λx y=>by
   funext b;by_cases z:b=s.heap.objs.size
   .subst z;rw[g9,g9]
   .rw[hV z,hV z,hV z]
  rw[e]at p;exact p
end
end L2
namespace L2
open PySem PySem.W PyProof.Rows
section
variable {lt:Nat->Nat->Bool}{n:Nat}{α β:Type}
def vH(lt:Nat->Nat->Bool)(n:Nat):KasT α->(α->Prop)->Prop
 |.ret a,Q=>Q a
 |.ask i j k,Q=>i<n/\j<n/\vH lt n (k (lt i j)) Q
theorem nU{f:α->KasT β}{Q:β->Prop}:∀{t:KasT α},vH lt n t (λa=>vH lt n (f a) Q)->vH lt n (t.bind f) Q
 |.ret _,h=>h
 |.ask i j k,h=>⟨h.1,h.2.1,nU (t:=k (lt i j)) h.2.2⟩
theorem Hf{s:Shared}{b:Nat->Nat->(Bool->Shared->Prop)->Shared->Prop}(c:∀i j C,i<n->j<n->C (lt i j) s->b i j C s){Q:α->Shared->Prop}:∀{t:KasT α},vH lt n t (λa=>Q a s)->t.kasWp b Q s
 |.ret _,h=>h
 |.ask i j k,h=>c i j _ h.1 h.2.1 (Hf c (t:=k (lt i j)) h.2.2)
structure xE(lt:Nat->Nat->Bool):Prop where
 tr:∀{a b c},lt b a=false->lt c b=false->lt c a=false
 as:∀{a b},lt a b=true->lt b a=false
def xE.ir(o:xE lt)(a:Nat):lt a a=false:=by
 cases h:lt a a with
 |false=>rfl
 |true=>have:=o.as h;rw[h]at this;exact this
abbrev AH(n:Nat)(p:Array Nat):Prop:=p.Perm (List.range n).toArray
def oh{p:Array Nat}(h:AH n p):p.size=n:=by rw[h.size_eq];simp
def pF{p:Array Nat}(h:AH n p)(a:0<n)(i:Nat):p.getD i 0<n:=by
 rw[cT];cases e:p[i]? with
 |none=>exact a
 |some v=>have:v∈(List.range n).toArray:=h.mem_iff.mp (Array.mem_of_getElem? e);simpa using this
def uv{p:Array Nat}{i j:Nat}(a:j<=p.size)(k:Nat):(kas_rev p i j).getD k 0=if i<=k/\k<j then p.getD (i+j-1-k) 0 else p.getD k 0:=by unfold kas_rev;rw[cT,getElem?_mirror_all a];split<;>rw[cT]
def LC{p:Array Nat}{k l:Nat}(c:k<p.size)(d:l<=k)(i:Nat):(bubble p k (k-l)).getD i 0=if i=l then p.getD k 0 else if l<i/\i<=k then p.getD (i-1) 0 else p.getD i 0:=by
 rw[cT,getElem?_bubble c _ (by omega),show k-(k-l)=l by omega];by_cases b:i=l
 .rw[aR b,aR b,cT]
 .rw[aS b,aS b];by_cases a:l<i/\i<=k
  .rw[aR a,aR a,cT]
  .rw[aS a,aS a,cT]
def xR{p:Array Nat}(h:AH n p)(i j:Nat):AH n (kas_rev p i j):=(mirror_perm _ _ _ _).trans h
def MX(lt:Nat->Nat->Bool)(p:Array Nat)(m:Nat):Prop:=∀i j,i<j->j<m->lt (p.getD j 0) (p.getD i 0)=false
def V5(lt:Nat->Nat->Bool)(p:Array Nat)(m:Nat):Prop:=∀i j,i<j->j<m->lt (p.getD i 0) (p.getD j 0)=false
def Wf(lt:Nat->Nat->Bool)(p:Array Nat)(m q:Nat):Prop:=∀i j,m<=i+(q+1)->i<m->m<=j+(q+1)->j<m->lt (p.getD i 0) (p.getD j 0)=false
theorem Cq(o:xE lt)(k:0<n){p:Array Nat}(l:AH n p){Q:Nat->Prop}:∀f m,1<=m->MX lt p m->(∀g,m<=g->g<=m+f->MX lt p g->(g<m+f->lt (p.getD g 0) (p.getD (g-1) 0)=true)->Q g)->vH lt n (kas_asc p f m) Q
 |0,m,_,hu,q=>q m (aL _) (aL _) hu λh=>absurd h (bf _)
 |f+1,m,h1,hu,q=>by
  refine⟨pF l k _,pF l k _,?_⟩;cases e:lt (p.getD m 0) (p.getD (m-1) 0) with
  |true=>exact q m (aL _) (cF _ _) hu λ_=>e
  |false=>
   refine Cq o k l f (m+1) (by omega) (λi j r v=>?_) λg a b c d=>q g (by omega) (by omega) c λh=>d (by omega);by_cases u:j<m
   .exact hu i j r u
   .obtain rfl:j=m:=by omega
    by_cases s:i=j-1
    .rw[s];exact e
    .exact o.tr (hu i (j-1) (by omega) (by omega)) e
theorem uX(o:xE lt)(u:0<n){Q:Array Nat×Nat×Nat->Prop}:∀f p m q,AH n p->1<=m->m+f<=n->q<m->V5 lt p m->Wf lt p m q->
  (∀g l s,AH n g->m<=l->l<=m+f->s<l->V5 lt g l->Wf lt g l s->Q (g,l,s))->vH lt n (kas_desc f p m q) Q
 |0,p,m,q,hp,_,_,hq,hd,he,w=>w p m q hp (aL _) (aL _) hq hd he
 |f+1,p,m,q,hp,h1,hf,hq,hd,he,w=>by
  have one:∀g:Array Nat,Wf lt g (m+1) 0:=λg i j a b c d=>by
   obtain rfl:i=m:=by omega
   obtain rfl:j=i:=by omega
   exact o.ir _
  have r:∀i,i<m->lt (p.getD (m-1) 0) (p.getD m 0)=false->lt (p.getD i 0) (p.getD m 0)=false:=λi B e=>by
   by_cases h:i=m-1
   .rw[h];exact e
   .exact o.tr e (hd i (m-1) (by omega) (by omega))
  refine⟨pF hp u _,pF hp u _,?_⟩;cases e:lt (p.getD m 0) (p.getD (m-1) 0) with
  |true=>
   have z:=o.as e;simp only[if_true];by_cases y:q>0
   .rw[aR y];have hr:=uv (p:=p) (i:=m-(q+1)) (j:=m) (by rw[oh hp];omega);refine uX o u f _ (m+1) 0 (xR hp _ _) (by omega) (by omega) (by omega) (λi j k v=>?_) (one _) λg l s a b c d=>w g l s a (by omega) (by omega) d;rw[hr i,hr j];by_cases x:j=m
    .rw[aS (c:=_/\j<m) (by omega),x];split
     .exact r _ (by omega) z
     .exact r _ (by omega) z
    .split
     .rw[aR (by omega)];exact he _ _ (by omega) (by omega) (by omega) (by omega)
     .split
      .exact hd _ _ (by omega) (by omega)
      .exact hd _ _ (by omega) (by omega)
   .rw[aS y];refine uX o u f p (m+1) 0 hp (by omega) (by omega) (by omega) (λi j k v=>?_) (one _) λg l s a b c d=>w g l s a (by omega) (by omega) d;by_cases x:j=m
    .subst x;exact r i k z
    .exact hd i j k (by omega)
  |false=>
   simp only[cy,if_false];refine⟨pF hp u _,pF hp u _,?_⟩;cases A:lt (p.getD (m-1) 0) (p.getD m 0) with
   |true=>exact w p m q hp (aL _) (by omega) hq hd he
   |false=>
    simp only[cy,if_false];refine uX o u f p (m+1) (q+1) hp (by omega) (by omega) (by omega) (λi j k v=>?_) (λi j a b c d=>?_) λg l s a b c d=>w g l s a (by omega) (by omega) d
    .by_cases x:j=m
     .subst x;exact r i k A
     .exact hd i j k (by omega)
    .by_cases B:i=m
     .subst B;by_cases v:j=i
      .subst v;exact o.ir _
      .exact o.tr (he (i-1) j (by omega) (by omega) (by omega) (by omega)) e
     .by_cases v:j=m
      .subst v;exact o.tr A (he i (j-1) (by omega) (by omega) (by omega) (by omega))
      .exact he i j (by omega) (by omega) (by omega) (by omega)
def DL(o:xE lt)(g:0<n){p:Array Nat}{m:Nat}(e:AH n p)(l:1<=m)(r:m<=n)(h:V5 lt p m){Q:Nat×Array Nat->Prop}(w:∀d f,AH n f->1<=d->d<=n->MX lt f d->Q (d,f)):vH lt n (kas_tail3 m n p) Q:=by refine nU (Cq o g (xR e 0 m) _ m l (λi j k q=>?_) λd a b c _=>w d _ (xR e 0 m) (by omega) (by omega) c);have hr:=uv (p:=p) (i:=0) (j:=m) (by rw[oh e];omega);rw[hr i,hr j,aR (by omega),aR (by omega)];exact h _ _ (by omega) (by omega)
def Au(o:xE lt){p:Array Nat}{m:Nat}(q:AH n p)(x:1<=m)(v:m+1<=n)(r:V5 lt p (m+1)){Q:Nat×Array Nat->Prop}(w:∀g h,AH n h->1<=g->g<=n->MX lt h g->Q (g,h)):vH lt n (kas_descPart m n p) Q:=by
 have k:0<n:=by omega
 refine nU (uX o k _ p (m+1) 0 q (by omega) (by omega) (by omega) r (λi j a b c d=>?_) λh g l a b c d e f=>?_)
 .obtain rfl:i=m:=by omega
  obtain rfl:j=i:=by omega
  exact o.ir _
 .dsimp only;split
  .have hr:=uv (p:=h) (i:=g-(l+1)) (j:=g) (by rw[oh a];omega);refine DL o k (xR a _ _) (by omega) (by omega) (λi j s u=>?_) w;rw[hr i,hr j];split
   .rw[aR (by omega)];exact f _ _ (by omega) (by omega) (by omega) (by omega)
   .split
    .exact e _ _ (by omega) (by omega)
    .exact e _ _ (by omega) (by omega)
  .exact DL o k a (by omega) (by omega) e w
def Iu(o:xE lt)(q:0<n){p:Array Nat}(f:AH n p){Q:Nat×Array Nat->Prop}(w:∀l s,AH n s->1<=l->l<=n->MX lt s l->Q (l,s)):vH lt n (kas_count n p) Q:=by
 refine nU (Cq o q f _ 1 (aL _) (λi j g k=>by omega) λm a b c d=>?_);split
 .exact w m p f a (by omega) c
 .rename_i r;have h:m<n:=by have:m≠n:=λz=>r (by rw[z];exact beq_self_eq_true _);omega
  have e:=o.as (d (by omega));split
  .refine⟨pF f q _,pF f q _,?_⟩;cases v:lt (p.getD 0 0) (p.getD (m-1) 0) with
   |true=>exact w m p f a (by omega) c
   |false=>
    have up:∀i j,i<=j->j<m->lt (p.getD j 0) (p.getD i 0)=false:=λi j g k=>by
     by_cases z:i=j
     .rw[z];exact o.ir _
     .exact c i j (by omega) k
    have all:∀i j,i<m->j<m->lt (p.getD i 0) (p.getD j 0)=false:=λi j u k=>o.tr (o.tr (up j (m-1) (by omega) (by omega)) v) (up 0 i (by omega) u);have hr:=uv (p:=p) (i:=0) (j:=m) (by rw[oh f];omega);refine Au o (xR f 0 m) a h (λi j g k=>?_) w;rw[hr i,hr j,aR (c:=0<=i/\i<m) (by omega)];by_cases z:j=m
    .rw[aS (by omega),z];exact o.tr e (all _ _ (by omega) (by omega))
    .rw[aR (by omega)];exact all _ _ (by omega) (by omega)
  .refine Au o f a h (λi j g k=>?_) w;obtain rfl:m=1:=by omega
   obtain rfl:i=0:=by omega
   obtain rfl:j=1:=by omega
   exact e
theorem vO(o:xE lt)(g:0<n){p:Array Nat}(h:AH n p){k:Nat}(d:MX lt p k){Q:Nat->Prop}(w:∀l,l<=k->(∀i,i<l->lt (p.getD k 0) (p.getD i 0)=false)->(∀i,l<=i->i<k->lt (p.getD k 0) (p.getD i 0)=true)->Q l) :
  ∀f l r,l<=r->r<=k->r<=l+f->(∀i,i<l->lt (p.getD k 0) (p.getD i 0)=false)->(∀i,r<=i->i<k->lt (p.getD k 0) (p.getD i 0)=true)->vH lt n (kas_place p k f l r) Q
 |0,l,r,h1,h2,h3,a,b=>w l (by omega) a λi j c=>b i (by omega) c
 |f+1,l,r,h1,h2,h3,a,b=>by
  unfold kas_place;split
  .exact w l (by omega) a λi j c=>b i (by omega) c
  .refine⟨pF h g _,pF h g _,?_⟩;cases e:lt (p.getD k 0) (p.getD ((l+r) / 2) 0) with
   |true=>
    refine vO o g h d w f l ((l+r) / 2) (by omega) (by omega) (by omega) a λi j c=>?_;by_cases z:i=(l+r) / 2
    .rw[z];exact e
    .cases y:lt (p.getD k 0) (p.getD i 0) with
     |true=>rfl
     |false=>rw[o.tr (d ((l+r) / 2) i (by omega) c) y]at e;cases e
   |false=>
    refine vO o g h d w f ((l+r) / 2+1) r (by omega) h2 (by omega) (λi j=>?_) b;by_cases z:i=(l+r) / 2
    .rw[z];exact e
    .exact o.tr (d i ((l+r) / 2) (by omega) (by omega)) e
theorem GU(o:xE lt)(m:0<n){Q:Array Nat->Prop}(w:∀h,AH n h->MX lt h n->Q h):∀f p k,AH n p->k+f=n->MX lt p k->vH lt n (kas_bin f p k) Q
 |0,p,k,hp,g,hu=>w p hp (by rw[<-g];exact hu)
 |f+1,p,k,hp,g,hu=>by
  refine nU (vO o m hp hu (λl r a b=>?_) k 0 k (bK _) (aL _) (by omega) (λi e=>by omega) λi e g=>by omega);have q:=LC (p:=p) (k:=k) (l:=l) (by rw[oh hp];omega) r;refine GU o m w f _ (k+1) ((bubble_perm _ _ _).trans hp) (by omega) λi j s u=>?_;rw[q i,q j];by_cases e:i=l
  .rw[aR e,aS (by omega),aR (by omega)];exact o.as (b _ (by omega) (by omega))
  .rw[aS e];by_cases d:j=l
   .rw[aR d,aS (by omega)];exact a _ (by omega)
   .rw[aS d];by_cases v:l<i
    .rw[aR (c:=l<j/\j<=k) (by omega),aR (c:=l<i/\i<=k) (by omega)];exact hu _ _ (by omega) (by omega)
    .rw[aS (c:=l<i/\i<=k) (by omega)];split
     .exact hu _ _ (by omega) (by omega)
     .exact hu _ _ (by omega) (by omega)
def M6(o:xE lt)(b:0<n){Q:Array Nat->Prop}(w:∀p,AH n p->MX lt p n->Q p):vH lt n (kas_sort n) Q:=by
 refine nU (Iu o b (Array.Perm.refl _) λm p c d e a=>?_);dsimp only;split
 .exact GU o b w _ p _ c (by omega) (by rw[Nat.max_eq_left d];exact a)
 .refine w p c ?_;obtain rfl:m=n:=by omega
  exact a
end
end L2
namespace L2
open PySem PySem.Spec PySem.W PyProof.Rows
def yO{a:Type}(l:List a)(d:a):(List.range l.length).map (λi=>l.getD i d)=l:=by refine cU (by simp) λi c b=>?_;simp[b]
def Dc{a c:Type}{F:a->c->Prop}{l:List a}{m:List c}(h:Paired F l m)(g:a)(f:c){i:Nat}(d:i<l.length):F (l.getD i g) (m.getD i f):=by obtain⟨b,e,q⟩:=pU h (ag d);rw[af,ag d,af,e];exact q
theorem yK{b c a:Type}{F:b->c->Prop}(f:a->b)(g:a->c):∀(l:List a),(∀x∈l,F (f x) (g x))->Paired F (l.map f) (l.map g)
 |[],_=>.nil
 |x::l,h=>.cons (h x bt) (yK f g l λy d=>h y (bx _ d))
end L2
namespace L2
open PySem PySem.Spec PyProof.Rows
section
variable {prog:Program}{w:World}{K:Type}[DecidableEq K]{knd:KeyKind prog w K}
def jz(knd:KeyKind prog w K)(h:Heap)(k:K×List K)(a:Addr):Prop:=∃o v b n,h.get? a=some o/\o.cls=.type "tuple" /\o.data=.seq #[v,.ref b] n/\knd.is k.1 v=true/\IsTupleKey knd h k.2 b
def jz.typeIs{s:Shared}{k:K×List K}{a:Addr}(x:jz knd s.heap k a):s.TypeIs (.ref a) "tuple" :=let ⟨o,_,_,_,ho,hc,_⟩:=x;⟨o,ho,hc⟩
def jz.inj{h:Heap}{a:Addr}{x y:K×List K}(i:jz knd h x a)(s:jz knd h y a):x=y:=by obtain⟨o,v,b,n,k,_,p,j,l⟩:=i;obtain⟨r,u,z,B,f,_,d,e,g⟩:=s;obtain rfl:o=r:=Option.some.inj (k.symm.trans f);rw[p]at d;injection d with A _;have q:[v,Value.ref b]=[u,.ref z]:=congrArg Array.toList A;injection q with m c;injection c with c _;injection c with c;subst m c;exact Prod.ext (knd.inj _ _ _ j e) (l.inj g)
def jz.keeps{h h':Heap}{k:K×List K}{a d:Addr}{o:Obj}{es ep}(x:jz knd h k a)(i:h.get? d=some o)(j:o.data=.dict es ep)(g:Heap.SameBut d h h'):jz knd h' k a:=by
 obtain⟨l,v,b,n,e,q,c,m,p⟩:=x;have f:a≠d:=by rintro rfl;obtain rfl:l=o:=Option.some.inj (e.symm.trans i);rw[j]at c;exact nomatch c
 exact⟨l,v,b,n,(g.2 a f).trans e,q,c,m,p.keeps i j g⟩
def yf(knd:KeyKind prog w K)(k:K×List K):Int:=reduceHash (Builtin.Tuple.tupleHashOf [knd.hash k.1,tupleKeyHash knd k.2])
variable {A:Around}{E:Value->Shared->Prop}{s:Shared}
def De{k:K×List K}{a:Addr}{Q:Int->Shared->Prop}(f:A.units+1<cLine)(e:jz knd s.heap k a)(h:Q (yf knd k) {s with toks:=s.toks+(k.2.length+3)}):wpAny (model prog w) A (pyHash (.ref a)) Q E s:=by
 have c:=e.typeIs;obtain⟨o,v,b,n,g,_,i,j,d⟩:=e;unfold pyHash;first|unfold pyHashByItsType|skip
 first|refine ao (wpAny_cRoomFor_or (.inr (by omega)) ?_)|skip
 refine ao (wpAny_specialOf c F.slot_tuple_hash.lookup ?_);show wpAny _ _ (if (some (Value.builtin "tuple.__hash__")==some Value.none)=true then _ else _) Q E s;rw[aS (by rw[beq_builtin_none];exact aI)];refine ao (wpAny_specialOf c F.slot_tuple_hash.lookup ?_);show wpAny _ _ (callSpecialIfBoundUnlessNone? (.ref a) "__hash__" _ >>= _) Q E s;refine ao (wpAny_callSpecialIfBoundUnlessNone?_slot c F.slot_tuple_hash (wpAny_call_entry F.slot_tuple_hash c F.entry_tuple_hash ?_ (F.args_tuple_hash_1 _)));show wpAny _ _ (Builtin.Tuple.tupleItemsOf (.ref a) >>= _) _ _ s;refine ao (wpAny_tupleItemsOf g i ?_);refine ao ?_;rw[<-cV];show wpAny _ _ (forIn [v,Value.ref b] _ _) _ _ s;rw[cx];refine ao (ao (knd.pyHash j ?_));refine ak ?_;dsimp only;rw[cx];refine ao (ao (wpAny_pyHash_tuple (knd:=knd) (show A.units+1<cLine from f) d ?_));refine ak ?_;dsimp only;rw[cE];refine ak ?_;show wpAny _ _ (retInt (Builtin.Tuple.tupleHashOf [knd.hash k.1,tupleKeyHash knd k.2])) _ _ _;refine wpAny_ret_mkInt ?_;unfold yf reduceHash at h;show wpAny _ _ (if (decide (-(2:Int) ^ 63<=Builtin.Tuple.tupleHashOf [knd.hash k.1,tupleKeyHash knd k.2])&&decide (Builtin.Tuple.tupleHashOf [knd.hash k.1,tupleKeyHash knd k.2]<2 ^ 63))=true then _ else _) Q E _;have d:s.toks+1+(k.2.length+1)+1=s.toks+(k.2.length+3):=by omega
 by_cases hr:(decide (-(2:Int) ^ 63<=Builtin.Tuple.tupleHashOf [knd.hash k.1,tupleKeyHash knd k.2])&&decide (Builtin.Tuple.tupleHashOf [knd.hash k.1,tupleKeyHash knd k.2]<2 ^ 63))=true
 .rw[aR hr];rw[aR hr]at h;refine ak ?_;dsimp only;rw[d];exact h
 .rw[aS hr];rw[aS hr]at h;refine ao (wpAny_rule (ak ?_));dsimp only;rw[d];exact h
def B7{x y:K×List K}{a b:Addr}{P:Fin->Shared->Prop}(D:A.units<cLine)(B:jz knd s.heap x a)(r:jz knd s.heap y b)(h:P (.done (.ret (.bool (decide (x=y))))) s) :
  wpAny (model prog w) A (Builtin.«tuple.__eq__» ⟨[.ref a,.ref b],[]⟩) P E s:=by
 have n:=r.typeIs;obtain⟨J,v,c,N,m,_,d,k,f⟩:=B;obtain⟨L,H,u,I,e,_,g,i,j⟩:=r;obtain⟨q,F⟩:=x;obtain⟨p,C⟩:=y;show wpAny _ _ (isInstance (.ref b) (.type "tuple") >>= _) _ _ s;refine ao (wpAny_isInstance n isSubtype_tuple_tuple ?_);simp only[cW,cy,if_false];refine ao (wpAny_tupleItemsOf m d ?_);refine ao (wpAny_tupleItemsOf e g ?_);refine ao ?_;show wpAny _ _ (forIn [(v,H),(Value.ref c,Value.ref u)] _ _) _ _ s;rw[cx];refine ao (ao (knd.eqBool (a:=q) (b:=p) k i ?_));by_cases o:q=p
 .subst o;rw[aD rfl];simp only[cW,cy,if_false];refine ak ?_;dsimp only;rw[cx];refine ao (ao (wpAny_eqBool_tuple (knd:=knd) D f j ?_));by_cases l:F=C
  .subst l;rw[aD rfl];simp only[cW,cy,if_false];refine ak ?_;dsimp only;rw[cE];refine ak (ak ?_);rw[aD rfl]at h;exact h
  .rw[aC l];simp only[cX,if_true];rw[aC (λz=>l (congrArg Prod.snd z))]at h;exact ao (ak (ak (ak (ak h))))
 .rw[aC o];simp only[cX,if_true];rw[aC (λz=>o (congrArg Prod.fst z))]at h;exact ao (ak (ak (ak (ak h))))
def DH{x y:K×List K}{a b:Addr}{Q:Bool->Shared->Prop}(g:A.units+1<cLine)(d:jz knd s.heap x a)(f:jz knd s.heap y b)(h:Q (decide (x=y)) s) :
  wpAny (model prog w) A (eqBool (.ref a) (.ref b)) Q E s:=by
 unfold eqBool;try with_reducible refine wpAny_holding ?_;show wpAny _ _ (if (Value.ref a==Value.ref b)=true then _ else _) Q E s;by_cases c:(Value.ref a==Value.ref b)=true
 .rw[aR c];have e:a=b:=by have:=eq_of_beq c;injection this
  subst e;obtain rfl:=d.inj f;exact ao (wpAny_rule (ak (by simpa using h)))
 .rw[aS c];exact ao (wpAny_richCompare_same_room (op:=.Eq) d.typeIs f.typeIs F.slot_tuple_eq
   (wpAny_call_entry F.slot_tuple_eq d.typeIs F.entry_tuple_eq (B7 (show A.units+1<cLine from g) d f ⟨_,rfl,(λe=>nomatch e),wpAny_truthy_bool h⟩) (F.args_tuple_eq_2 _ _)) (by omega))
def Dr{m:Nat}{ks:List K}{a:Addr}{Q:Bool->Shared->Prop}(g:IsTupleKey knd s.heap ks a)(h:Q true s):wpAny (model prog w) A (eqIsQuiet (m+1) (.ref a)) Q E s:=by
 have i:=g.typeIs;obtain⟨o,b,n,k,_,l,j⟩:=g;unfold eqIsQuiet;refine ao (wpAny_specialOf i F.slot_tuple_eq.lookup ?_);show wpAny _ _ (isInstance (.ref a) (.type "tuple") >>= _) _ _ s;refine ao (wpAny_isInstance i isSubtype_tuple_tuple ?_);simp only[cW,cy,if_false];refine ao (wpAny_seqItems k l ?_);refine ao ?_;show wpAny _ _ (forIn b _ _) _ _ s;rw[<-cV];refine wpAny_forIn_list _ (λf r d=>r.1=none/\d=s/\∀v∈f,carriedByValue v=true) _ ?_ ?_ _ _ ⟨rfl,rfl,j.byValue⟩
 .rintro v f r d ⟨hr,rfl,e⟩;rw[eqIsQuiet_byValue _ (e v bt)];refine ao (ak ?_);simp only[cW,cy,if_false];exact ak ⟨rfl,rfl,λu c=>e u (bx _ c)⟩
 .rintro⟨p,q⟩ d ⟨hr,rfl,_⟩;simp only at hr;subst hr;exact ak h
def EG{k:K×List K}{a:Addr}{Q:Bool->Shared->Prop}(d:jz knd s.heap k a)(h:Q true s):wpAny (model prog w) A (eqIsQuiet 8 (.ref a)) Q E s:=by have c:=d.typeIs;obtain⟨o,v,b,n,e,_,f,i,g⟩:=d;unfold eqIsQuiet;refine ao (wpAny_specialOf c F.slot_tuple_eq.lookup ?_);show wpAny _ _ (isInstance (.ref a) (.type "tuple") >>= _) _ _ s;refine ao (wpAny_isInstance c isSubtype_tuple_tuple ?_);simp only[cW,cy,if_false];refine ao (wpAny_seqItems e f ?_);refine ao ?_;rw[<-cV];show wpAny _ _ (forIn [v,Value.ref b] _ _) _ _ s;rw[cx,eqIsQuiet_byValue _ (knd.byValue _ _ i)];refine ao (ao (ak ?_));simp only[cW,cy,if_false];refine ak ?_;dsimp only;rw[cx];refine ao (ao (Dr (knd:=knd) g ?_));simp only[cW,cy,if_false];refine ak ?_;dsimp only;rw[cE];exact ak (ak h)
end
def xV{prog:Program}{w:World}{K:Type}[DecidableEq K](knd:KeyKind prog w K):HeapKind prog w (K×List K) where
 is:=jz knd
 hash:=yf knd
 draws:=λk=>k.2.length+3
 room:=λA=>A.units+1<cLine
 inj:=λc a=>c.inj a
 keeps:=λx e f g=>x.keeps e f g
 pyHash:=λb d h=>De b d h
 eqBool:=λb c a h=>DH b c a h
 quiet:=λd h=>EG d h
end L2
namespace L2
open PySem PySem.Spec PyProof.Rows
abbrev FE:=(nC×List nC)×Addr×Value
def WD(P:Program)(w:World)(a:Addr)(xs:List FE)(h:Heap):Prop:=(a==sysModules)=false/\xs.length<=sizeLine/\∃o b c,h.get? a=some o/\o.ExactDict/\o.data=.dict b c/\b.toList=xs.map (entryOfKey (xV (kU P w)))/\(xs.map (·.1)).Nodup
def AJ(P:Program)(w:World)(a:Addr)(xs:List FE):HO:=.ext (WD P w a xs)
def Bo(H:Hp)(k:nC×List nC)(b:Addr):Prop:=∃a,H b=some (.tup [kV k.1,.ref a])/\H a=some (.tup (k.2.map kV))
section
variable {P:Program}{w:World}{H H':Hp}{h h':Heap}{a b:Addr}{xs:List FE}{k:nC×List nC}
def Kp(x:WD P w a xs h):jH P w H h a (AJ P w a xs):=by
 refine⟨x,?_,λj i y q=>?_⟩
 .obtain⟨_,_,o,_,_,e,_⟩:=x;exact⟨o,e⟩
 .obtain⟨d,f,o,c,g,e,r⟩:=y;exact⟨d,f,o,c,g,q o e,r⟩
def J7(ok:qH P w H h)(x:Bo H k b):(xV (kU P w)).is h k b:=by
 obtain⟨c,j,d⟩:=x;obtain⟨_,f,r,o,e,i,n,g,_⟩:=(show jH P w H h b (.tup [kV k.1,.ref c]) from ok b _ j);have:=sT ok d;cases r with
 |cons r1 r2=>
  cases r2 with
  |cons r3 r4=>cases r4;cases (show _=Value.ref c from r3);exact⟨o,_,c,n,e,i,g,Hj r1,this⟩
def Hy(ok:qH P w H h)(e:H a=some (AJ P w a xs))(i:∀x∈xs,Bo H x.1 x.2.1):WD P w a xs h/\h.DictOfH (xV (kU P w)) a xs:=by obtain⟨x,_,_⟩:=(show jH P w H h a (AJ P w a xs) from ok a _ e);refine⟨x,?_⟩;obtain⟨_,_,o,c,f,j,d,m,n,g⟩:=x;exact⟨o,c,f,j,d,m,n,λx l=>J7 ok (i x l),g⟩
end
section
variable {X:Cx}{gQ:List (Addr×Obj)}{σ:St}{H:Hp}{s:Shared}{a b:Addr}{xs:List FE}{k:nC×List nC}{r:Value}{A:Around}{E:Value->Shared->Prop}
def RZ{Q:Unit->Shared->Prop}(z:A.units+2<cLine)(I:iq X gQ σ H s)(e:H a=some (AJ X.prog X.w a xs))(o:∀x∈xs,Bo H x.1 x.2.1)(j:Bo H k b)(y:xs.length<sizeLine)
  (h:∀f,iq X gQ σ (i6 H a (AJ X.prog X.w a (storedH xs k b r))) f->Q () f):wpAny (model X.prog X.w) A (setItem (.ref a) (.ref b) r) Q E s:=by
 obtain⟨x,g⟩:=Hy I.hok e o;refine wpAny_setItem_heap (hsz:=by omega) (show A.units+1+1<cLine by omega) (J7 I.hok j) g λB c i=>h _ ?_;obtain⟨q,n,v,d,u,p,l,_,m⟩:=c;refine Bv I (by rw[e];exact True.intro) i ⟨q,d⟩ (Kp ⟨x.1,?_,q,n,v,d,u,p,l,m⟩);unfold storedH;split
 .rw[ax];omega
 .rw[aU,cf];omega
def E8(hc:X.calm=true):lO X (.type "list") (λm H Q=>∃a xs,m=[.ref a]/\H a=some (AJ X.prog X.w a xs)/\∀l:Addr,H l=none->Q (.ref l) (i6 H l (.lst (xs.map λx=>.ref x.2.1)))):=by
 intro gQ s σ H m us Q I r h;obtain⟨a,xs,rfl,e,q⟩:=h;obtain⟨u,rfl,U⟩:=sP r;cases U;obtain⟨⟨S,z,o,j,ep,D,R,K,p,nd⟩,_,_⟩:=(show jH X.prog X.w H s.heap a (AJ X.prog X.w a xs) from I.hok a _ e);have sz:j.size=xs.length:=by rw[<-bA,p,ax]
 refine W.kdl_call (NU S) (I.ok.hd hc) (⟨o,D,R,K⟩:wc s.heap a j ep) (by rw[sz];exact z) λZ tk c C F N d=>?_;have g:∀(i:Nat) v,c[i]? = some v->∃y,xs[i]? = some y/\v=.ref y.2.1:=λi v hv=>by
  obtain⟨en,h1,Y⟩:=d.2 i v hv;have f:j.toList[i]? = some en:=by simpa using h1
  rw[p,aw]at f;cases n:xs[i]? with
  |none=>rw[n]at f;cases f
  |some y=>rw[n]at f;cases f;exact⟨y,rfl,Y⟩
 have J:c.size=xs.length:=by rw[<-sz];exact d.1
 have P:iL (xs.map λx=>V.ref x.2.1) c.toList:=by refine wg (by simp[J]) λi v hv=>?_;obtain⟨y,L,B⟩:=g i v (by simpa using hv);exact⟨.ref y.2.1,by simp[L],by rw[B];rfl⟩
 exact⟨.ref s.heap.objs.size,_,I.laid F (aL _) (show jH X.prog X.w _ Z _ (.lst (xs.map λx=>V.ref x.2.1)) from ⟨by rw[ax];exact z,c.toList,C,P,by simpa using N⟩),rfl,q _ (I.hok.fresh (aL _))⟩
end
end L2
namespace L2
open PySem PySem.Spec PySem.W PyProof.Rows
def v8(m:List Value)(l:List Value)(h:TriplesOk l):mw (l++m)=mw l++mw m:=by
 fun_induction TriplesOk l with
 |case1=>rfl
 |case2 a b c d v r ih=>show v::mw (r++m)=v::(mw r++mw m);rw[ih h]
 |case3=>exact h.elim
def Em(m:List Value)(e:TriplesOk m)(l:List Value)(h:TriplesOk l):TriplesOk (l++m):=by
 fun_induction TriplesOk l with
 |case1=>exact e
 |case2 a b c d v r ih=>exact ih h
 |case3=>exact h.elim
def Am{a:Pos}{v:Value}(l:List Value)(h:codeAmong a l=some v):v∈mw l:=by
 fun_induction codeAmong a l with
 |case1=>cases h;exact bt
 |case2 _ _ _ _ _ _ _ ih=>exact bx _ (ih h)
 |case3=>cases h
def sG(H:Hp)(P:Addr)(q:Str)(b:Addr):Prop:=∃a,H P=some (.tbl q a)/\Value.ref b∈mw a.toList
section
variable {X:Cx}{gQ:List (Addr×Obj)}{σ:St}{H H':Hp}{s:Shared}{P c':Addr}{q:Str}
def sG.rec'{prog:Program}{w:World}{h:Heap}(t:sG H P q c')(ok:qH prog w H h):h.CodeRec (.ref c') q:=by obtain⟨a,e,m⟩:=t;obtain⟨b,c,_,r⟩:=((show jH prog w H h P (.tbl q a) from ok P _ e)).2.2 _ m;cases c;exact r
def sG.grow{prog:Program}{w:World}{h:Heap}(t:sG H P q c')(ok:qH prog w H h)(g:∀b,H P=some (.tbl q b)->∃a,H' P=some (.tbl q (b++a))):sG H' P q c':=by obtain⟨b,e,m⟩:=t;obtain⟨a,c⟩:=g b e;refine⟨_,c,?_⟩;rw[Array.toList_append,v8 _ _ ((show jH prog w H h P (.tbl q b) from ok P _ e)).2.1];exact ay _ m
end
section
variable {P:Program}{w:World}{mg:Str->Option Value}{base:Heap}{k:Nat}{f:Addr}{N ps:List Str}{name qual:Str}{params:Arguments}{body:Expr}{scope:Scope}{A:Around}{outer:List Env}{s:Shared}{H:Hp}{args:Args}{us:List Value}{vs:List V}{Q:VK}
def Qv{K:W.Frag}{m g:Value}{d:Addr}(C:s.heap.get? f=some (kla_obj name qual params body scope [] m d g))(h:s.heap.CodeRec (.ref d) qual)(S:ji N ps scope)
  (E:vs.length=ps.length) (hr:je (k+1) A) (j:yX P w K mg base A outer s H) (F:BindsTo s (kla_fn name qual params body scope [] m (.ref d) g) args (ps.zip us)) (r:iL vs us)
  (a:∃t,PE (ou sQ P w K mg base N qual scope f (.ref d) A outer s H E0).nox body t/\t (lV N vs) H Q) :
  codeAny (model P w) A (.call (.ref f) args) (CR sQ outer P w H s Q E0) s:=by
 have i:=j.mod.nolimit.keeps λb o e=>(j.bs b o e).1;have c:∀y∈ps.zip us,scope.names.lookup y.1=some .local\/(scope.names.lookup y.1=some .cell/\((cellsFrom (s.heap.objs.size+1) scope.names []).lookup y.1).isSome=true):=λ⟨n,v⟩ hy=>by
  rcases S.par n (aX hy).1 with q|q
  .exact .inl q
  .exact .inr ⟨q,W.cellsFrom_some _ _ _ (.inl q)⟩
 refine kla_callFunE hr.depth C rfl S.co S.gen rfl h (F _ _ _ _ ?_);refine wpAny_newFunctionEnv_cells S.kind c λp R l x=>?_;subst R;refine⟨i.keeps x.toInCall.keep,kla_codeExpr ?_⟩;obtain⟨t,D,z⟩:=a;have I:iq (ou sQ P w K mg base N qual scope f (.ref d) A outer s H E0) [] (lV N vs) H l:=AF S hr.hd j E r x;exact wpAny_mono (D [] l (lV N vs) H _ (I.wish _) z) (λu L ⟨v,H',J,rv,q⟩=>⟨v,H',J.os,J.bare,J.base,J.hok,rv,q⟩) λe L B=>B.elim
end
section
variable {X:Cx}{gQ:List (Addr×Obj)}{σ:St}{H:Hp}{s:Shared}{c P:Addr}{qn:Str}{params:Arguments}{body:Expr}{scope:Scope}{pos:Pos}{A:Around}{E:Value->Shared->Prop}{Q:Value->Shared->Prop}
theorem Lg(I:iq X gQ σ H s)(p:X.env.code=.ref c)(C:CodeHd X.base c P)(lF:(c,P)∈X.base.life.ids)(hrc:X.base.CodeRec (.ref c) qn)(hb:X.base.BuiltinsAt X.mg P)
  (hq:qn++ ".<locals>.<lambda>" = X.env.qual++ "<lambda>") (Z:closureFor scope X.env=pure []) (hdef:defaultsOf params X.env=([],[]))
  (h:∀f a g pm S s',iq X gQ σ S s'->ij H S->(∀b,H b=none->b<s.heap.objs.size->S b=none)->s.heap.objs.size<=f->S f=none->sG S P (X.env.qual++ "<lambda>") a->
   s'.heap.get? f=some (kla_obj "<lambda>" (X.env.qual++ "<lambda>") params body scope [] pm a g)->Q (.ref f) s') :
  wpAny (model X.prog X.w) A (eval (.Lambda params body scope pos) X.env) Q E s:=by
 obtain⟨k,m⟩:=I.tab c P qn lF hrc;rw[hq]at m;obtain⟨oP,tri,F⟩:=(show jH X.prog X.w H s.heap P (.tbl _ k) from I.hok P _ m);have G:s.heap.Ns mainGlobals X.mg:=let ⟨o,es,ep,e,r⟩:=I.ok.mod.glob;⟨o,es,ep,I.bk _ _ e,r⟩;have hgP:mainGlobals≠P:=λz=>by obtain⟨o,es,ep,e,r⟩:=I.ok.mod.glob;have:=(I.bs _ _ e).2;rw[z,m]at this;cases this
 have C':CodeHd s.heap c P:=C.keeps I.bk;have hb':s.heap.BuiltinsAt X.mg P:=let ⟨bm,o,h1,h2,h3,h4,h5,r⟩:=hb;⟨bm,o,h1,h2,h3,h4,I.bk _ _ h5,r⟩;refine kla_eval hdef ?_;cases hc:codeAmong pos k.toList with
 |some cv=>obtain⟨b,rfl,hbo,hbr⟩:=F cv (Am _ hc);refine kla_makeFunctionHit (mg:=X.mg) Z I.ok.glob G p C' oP tri hc hb' λg R tk L hsz=>?_;have I':iq X gQ σ H {s with heap:=R.push {cls:=.type "function",data:=.func (kla_fn "<lambda>" (X.env.qual++ "<lambda>") params body scope [] ((X.mg "__name__").getD .none) (.ref b) g)},toks:=tk}:=I.kept λb o e=>ae _ (L b o e);exact h _ b g _ H _ I' (.refl _) (λ_ e _=>e) hsz (I.hok.fresh hsz) ⟨k,m,Am _ hc⟩ (ar _ rfl)
 |none=>
  refine kla_makeFunction (mg:=X.mg) Z I.ok.glob G p C' oP tri hc hgP hb' λa g R tk hx j K D U=>?_;have hc0:H a=none:=I.hok.fresh j;have cP:a≠P:=λz=>by rw[z]at j;exact absurd (I.hok.lt m) (cH.mpr j)
  have tri':TriplesOk [rawInt pos.line,rawInt pos.col,.ref a]:=by simp[TriplesOk,rawInt]
  have al:(k++#[rawInt pos.line,rawInt pos.col,Value.ref a]).toList=k.toList++[rawInt pos.line,rawInt pos.col,.ref a]:=by simp
  have i:∀b,b≠P->b≠a->i6 (i6 H a (.own P)) P (.tbl (X.env.qual++ "<lambda>") (k++#[rawInt pos.line,rawInt pos.col,.ref a])) b=H b:=λb h1 h2=>by rw[hV h1,hV h2]
  have upC:i6 (i6 H a (.own P)) P (.tbl (X.env.qual++ "<lambda>") (k++#[rawInt pos.line,rawInt pos.col,.ref a])) a=some (.own P):=by rw[hV cP,g9]
  have B:∀b u,H b=some u->b≠a:=λb u e=>ip e hc0;have L:∀b o,b≠P->s.heap.get? b=some o->(R.push (kla_obj "<lambda>" (X.env.qual++ "<lambda>") params body scope [] ((X.mg "__name__").getD .none) a g)).get? b=some o:=λb o hb e=>ae _ (hx b o hb e);have nP:∀b,H b=none->b≠P:=λb e z=>by rw[z,m]at e;cases e
  have fre:∀b,H b=none->b<s.heap.objs.size->i6 (i6 H a (.own P)) P (.tbl (X.env.qual++ "<lambda>") (k++#[rawInt pos.line,rawInt pos.col,.ref a])) b=none:=λb e l=>by rw[i b (nP b e) (aN (aF l j))];exact e
  have sm:ij H (i6 (i6 H a (.own P)) P (.tbl (X.env.qual++ "<lambda>") (k++#[rawInt pos.line,rawInt pos.col,.ref a]))):=λb u e=>by
   by_cases z:b=P
   .subst z;rw[m]at e;cases e;rw[g9];exact⟨_,rfl⟩
   .rw[i b z (B b u e)];exact .of e
  have hok:qH X.prog X.w (i6 (i6 H a (.own P)) P (.tbl (X.env.qual++ "<lambda>") (k++#[rawInt pos.line,rawInt pos.col,.ref a]))) (R.push (kla_obj "<lambda>" (X.env.qual++ "<lambda>") params body scope [] ((X.mg "__name__").getD .none) a g)):=λb u e=>by
   by_cases z:b=P
   .subst z;rw[g9]at e;cases e;refine⟨ae _ U,by rw[al];exact Em _ tri' _ tri,λv hv=>?_⟩;rw[al,v8 _ _ tri]at hv;rcases ai.mp hv with hv|hv
    .obtain⟨d,rfl,x,hr⟩:=F v hv;obtain⟨d',N,vs,tt,e1,Y,e3⟩:=hr;cases e1;exact⟨d,rfl,by rw[i d (λz=>by rw[z,m]at x;cases x) (B d _ x)];exact x,d,N,vs,tt,rfl,L d N (λz=>by rw[z,m]at x;cases x) Y,e3⟩
    .have:v=.ref a:=by simpa[mw] using hv
     subst this;obtain⟨d',N,vs,tt,e1,Y,e3⟩:=D;cases e1;exact⟨a,rfl,upC,a,N,vs,tt,rfl,ae _ Y,e3⟩
   .by_cases y:b=a
    .subst y;rw[upC]at e;cases e;obtain⟨d',N,vs,tt,e1,Y,e3⟩:=D;cases e1;exact⟨N,ae _ Y⟩
    .rw[i b z y]at e;have J:∀d,H d=some (.own b)->d≠P:=λd r w=>by rw[w,m]at r;cases r
     refine (I.hok b u e).stay (λd v x r=>L d v ?_ r) (λd r=>by rw[i d (J d r) (B d _ r)];exact r) λd xs r=>by rw[i d (λw=>by rw[w,m]at r;cases r) (B d _ r)];exact r
     rcases x with rfl|x
     .exact z
     .exact J d x
  have un:Un X.fs [] H (i6 (i6 H a (.own P)) P (.tbl (X.env.qual++ "<lambda>") (k++#[rawInt pos.line,rawInt pos.col,.ref a]))) s.heap (R.push (kla_obj "<lambda>" (X.env.qual++ "<lambda>") params body scope [] ((X.mg "__name__").getD .none) a g)):=
   ⟨λb o e n _ _=>L b o (nP b n) e,λb o e n _ _=>⟨o.slots,L b o (nP b n) e⟩,λb o e n _=>fre b n (aM e),λb o e _=>by
    by_cases z:b=P
    .subst z;exact⟨_,ae _ U⟩
    .exact⟨o,L b o z e⟩,λb xs e=>sm b _ e,λb o u e=>sm b _ e,λb q k e=>sm b _ e⟩
  refine h _ a g _ _ _ (I.un un hok) sm fre (bh (cu j K)) ?_ ⟨_,g9,?_⟩ (ar _ rfl)
  .have hf:s.heap.objs.size<=R.objs.size:=bh (cu j K);rw[i _ (λz=>by rw[z]at hf;exact absurd (I.hok.lt m) (cH.mpr hf)) (bB K)];exact I.hok.fresh hf
  .rw[al,v8 _ _ tri];exact bE _ bt
end
end L2
namespace L2
open PySem PySem.Spec PySem.W PyProof.Rows
def OC:LI->LI->Option Bool
 |x::a,y::b=>if x=y then OC a b else some (decide (x<y))
 |_,_=>none
def rC(a b:LI):Bool:=(OC a b).getD (decide (a.length<b.length))
def uN(b:LI):rC [] b=decide (0<b.length):=by cases b<;>rfl
def wa(a:LI):rC a []=false:=by cases a<;>simp[rC,OC]
def rT(x y:Int)(a b:LI):rC (x::a) (y::b)=if x=y then rC a b else decide (x<y):=by
 unfold rC;rw[OC];by_cases h:x=y
 .rw[aR h,aR h];simp
 .rw[aS h,aS h];rfl
theorem G4:∀{a b:LI},rC a b=true->rC b a=false
 |[],b,h=>wa b
 |a::l,[],h=>by rw[wa]at h;cases h
 |x::a,y::b,h=>by
  rw[rT]at h ⊢;by_cases e:x=y
  .rw[aR e]at h;rw[aR e.symm];exact G4 h
  .rw[aS e]at h;rw[aS (λz=>e z.symm)];have:=of_decide_eq_true h;exact aC (by omega)
theorem Gx:∀{a b c:LI},rC b a=false->rC c b=false->rC c a=false
 |[],b,c,_,_=>wa c
 |x::a,[],c,h,_=>by rw[uN]at h;simp at h
 |x::a,y::b,[],_,h=>by rw[uN]at h;simp at h
 |x::a,y::b,z::c,e,d=>by
  rw[rT]at e d ⊢;by_cases g:y=x
  .rw[aR g]at e;by_cases f:z=y
   .rw[aR f]at d;rw[aR (f.trans g)];exact Gx e d
   .rw[aS f]at d;rw[aS (by omega),<-g];exact d
  .rw[aS g]at e;have e:=of_decide_eq_false e;by_cases f:z=y
   .rw[aS (by omega)];exact aC (by omega)
   .rw[aS f]at d;have d:=of_decide_eq_false d;rw[aS (by omega)];exact aC (by omega)
theorem AK:∀a:LI,rC a a=false
 |[]=>rfl
 |x::a=>by rw[rT,aR rfl];exact AK a
theorem CC:∀{a b:LI},rC a b=false->rC b a=false->a=b
 |[],[],_,_=>rfl
 |[],y::b,h,_=>by rw[uN]at h;simp at h
 |x::a,[],_,h=>by rw[uN]at h;simp at h
 |x::a,y::b,h1,h2=>by
  rw[rT]at h1 h2;by_cases e:x=y
  .rw[aR e]at h1;rw[aR e.symm]at h2;rw[e,CC h1 h2]
  .rw[aS e]at h1;rw[aS (λz=>e z.symm)]at h2;have:=of_decide_eq_false h1;have:=of_decide_eq_false h2;omega
abbrev Ky:=Int×LI
def xC(f g:Ky):Bool:=if f.1=g.1 then rC f.2 g.2 else decide (f.1<g.1)
def JP{f g:Ky}(h:xC f g=true):xC g f=false:=by
 unfold xC at h ⊢;by_cases e:f.1=g.1
 .rw[aR e]at h;rw[aR e.symm];exact G4 h
 .rw[aS e]at h;rw[aS (λz=>e z.symm)];have:=of_decide_eq_true h;exact aC (by omega)
def Nn{a b c:Ky}(e:xC b a=false)(d:xC c b=false):xC c a=false:=by
 unfold xC at e d ⊢;by_cases g:b.1=a.1
 .rw[aR g]at e;by_cases f:c.1=b.1
  .rw[aR f]at d;rw[aR (f.trans g)];exact Gx e d
  .rw[aS f]at d;rw[aS (by omega),<-g];exact d
 .rw[aS g]at e;have e:=of_decide_eq_false e;by_cases f:c.1=b.1
  .rw[aS (by omega)];exact aC (by omega)
  .rw[aS f]at d;have d:=of_decide_eq_false d;rw[aS (by omega)];exact aC (by omega)
def OA(fs:List Ky)(d:Ky):xE λi j=>xC (fs.getD i d) (fs.getD j d):=⟨λp q=>Nn p q,λp=>JP p⟩
section
variable {prog:Program}{w:World}{A:Around}{E:Value->Shared->Prop}{s:Shared}
theorem Hw{R:Option Fin×Unit->Shared->Prop}{a:Value×Value->Option Fin×Unit->Sem (ForInStep (Option Fin×Unit))}
  (g:∀(n m:Int) (t u:Tok) (b:ForInStep (Option Fin×Unit)->Shared->Prop),(n=m->b (.yield (none,())) s)->(n≠m->b (.done (some (.done (.ret (.bool (decide (n<m))))),())) s)->wpAny (model prog w) A (a (.int n t,.int m u) (none,())) b E s)
  : ∀{xs d:List Value} {i f:LI},IntsAre xs i->IntsAre d f->(∀o,OC i f=o->R (o.map λc=>Fin.done (.ret (.bool c)),()) s)->wpAny (model prog w) A (forIn (xs.zip d) (none,()) a) R E s
 |_,_,_,_,.nil,_,h=>by rw[List.zip_nil_left,cE];exact ak (h none (by simp[OC]))
 |_,_,_,_,.cons _ _ _,.nil,h=>by rw[List.zip_nil_right,cE];exact ak (h none (by simp[OC]))
 |_,_,_,_,.cons n t hx,.cons m u hy,h=>by
  rw[cY,cx];refine ao (g n m t u _ (λe=>?_) λe=>?_)
  .exact Hw g hx hy λo j=>h o (by rw[OC,aR e];exact j)
  .exact ak (h (some (decide (n<m))) (by rw[OC,aS e]))
theorem zO{a b:Addr}{v f:Obj}{xs q:Array Value}{D z:Nat}{j l:LI}{P:Fin->Shared->Prop}(p:s.heap.get? a=some v)(g:v.data=.seq xs D)(d:s.heap.get? b=some f)(i:f.cls=.type "tuple")(k:f.data=.seq q z)
  (r:IntsAre xs.toList j) (x:IntsAre q.toList l) (h:P (.done (.ret (.bool (rC j l)))) s) :
  wpAny (model prog w) A (Builtin.«tuple.__lt__» ⟨[.ref a,.ref b],[]⟩) P E s:=by
 show wpAny _ _ (isInstance (.ref b) (.type "tuple") >>= _) _ _ s;refine ao (wpAny_isInstance ⟨f,d,i⟩ isSubtype_tuple_tuple ?_);simp only[cW,cy,if_false];refine ao (wpAny_tupleItemsOf p g ?_);refine ao (wpAny_tupleItemsOf d k ?_);refine ao (Hw (s:=s) (λn m t u I F C=>?_) r x λo y=>?_)
 .refine ao (wpAny_eqBool_int ?_);by_cases e:n=m
  .rw[show (n==m)=true from beq_iff_eq.mpr e];simp only[cW,cy,if_false];exact ak (F e)
  .rw[show (n==m)=false from beq_eq_false_iff_ne.mpr e];simp only[cX,if_true];refine ao (wpAny_rule ?_);refine ao (wpAny_lt_int ?_);exact ao (ak (ak (C e)))
 .have H:xs.size=j.length:=by rw[<-bA,r.length]
  have B:q.size=l.length:=by rw[<-bA,x.length]
  unfold rC at h;rw[y]at h;cases o with
  |none=>refine ak ?_;rw[H,B];exact h
  |some c=>exact ak h
end
end L2
namespace L2
open PySem PySem.Spec PySem.W PyProof.Rows
structure Ow(X:Cx)(gQ:List (Addr×Obj))(a:Addr):Prop where
 l:a≠X.env.locals
 f:a∉X.fs
 z:X.s₀.heap.objs.size<=a
 c:∀x c,X.env.cells.lookup x=some c->c≠a
 p:∀q∈X.pn++gQ,q.1≠a
section
variable {X:Cx}{gQ:List (Addr×Obj)}{σ:St}{H:Hp}{s:Shared}{a:Addr}
def iq.ow(I:iq X gQ σ H s)(h:s.heap.objs.size<=a):Ow X gQ a where
 l:=bB (aF I.lt h)
 f:=I.nofs h
 z:=aO I.sz h
 c:=λx c e q=>by obtain⟨v,o,b,_⟩:=I.cell x c e;subst q;exact absurd (aM b) (cH.mpr h)
 p:=λq d e=>by have:=aM (I.pin q d).1;rw[e]at this;exact absurd this (cH.mpr h)
def Ow.turn{h':Heap}{t':Nat}(o:Ow X gQ a)(I:iq X gQ σ H s)(d:H a=none)(k:∀b u,b≠a->s.heap.get? b=some u->h'.get? b=some u):iq X gQ σ H {s with heap:=h',toks:=t'}:=I.turned k d o.l (.inr o.z) o.c o.p
def Ow.stk(o:Ow X gQ a)(I:iq X gQ σ H s):a∉HD X.stack:=λz=>by
 rcases aG.mp (I.stkSub a z) with e|e
 .exact o.l e
 .exact o.f e
end
def zv(H:Hp)(b:Addr)(f:Ky):Prop:=∃a,H b=some (.tup [.int f.1,.ref a])/\H a=some (.tup (f.2.map V.int))
def Gh(H:Hp)(v:Value)(f:Ky):Prop:=∃a,v=.ref a/\zv H a f
def zv.mono{H a:Hp}{b:Addr}{f:Ky}(x:zv H b f)(h:ij H a):zv a b f:=let ⟨b2,e1,e2⟩:=x;⟨b2,h _ _ e1,h _ _ e2⟩
def ky(f:Ky):Ky:=(-f.1,f.2)
section
variable {X:Cx}{gQ:List (Addr×Obj)}{σ:St}{H:Hp}{s:Shared}{A:Around}{E:Value->Shared->Prop}
def Bj(I:iq X gQ σ H s){a:Addr}{f:Ky}(x:zv H a f):∃o t b n o2 its d,s.heap.get? a=some o/\o.cls=.type "tuple" /\o.data=.seq #[.int f.1 t,.ref b] n/\s.heap.get? b=some o2/\o2.cls=.type "tuple" /\o2.data=.seq its d/\IntsAre its.toList f.2/\H b=some (.tup (f.2.map V.int)):=by
 obtain⟨b,l,i⟩:=x;obtain⟨_,its,r,o,k,p,n,m,_⟩:=(show jH X.prog X.w H s.heap a (.tup _) from I.hok a _ l);obtain⟨_,c,j,o2,e,g,d,h,_⟩:=(show jH X.prog X.w H s.heap b (.tup _) from I.hok b _ i);cases r with
 |cons r1 r'=>
  cases r' with
  |cons r3 r4=>cases r4;obtain⟨t,rfl⟩:=r1;cases (show _=Value.ref b from r3);exact⟨o,t,b,n,o2,c.toArray,d,k,p,m,e,g,h,by simpa using tX j,i⟩
def Od(hu:A.units+2<cLine)(I:iq X gQ σ H s){ks:List Value}{fs:List Ky}(Q:Paired (Gh H) ks fs)(d:Ky){i j:Nat}{C:Bool->Shared->Prop}(N:i<ks.length)(L:j<ks.length)(h:C (xC (fs.getD i d) (fs.getD j d)) s) :
  kas_ask X.prog X.w A (tuples' (Value.type "int" != Value.type "tuple")) ks i j C s:=by
 obtain⟨f,e1,a,S,xa⟩:=pU Q (ag N);obtain⟨g,J,a',D,k⟩:=pU Q (ag L);rw[show fs.getD i d=f by rw[af,e1];rfl,show fs.getD j d=g by rw[af,J];rfl]at h;obtain⟨o,t,b2,n,o2,U,n2,h1,h2,h3,m,P,h6,h7,h8⟩:=Bj I xa;obtain⟨o',Y,p,n',v,R,Z,B,h2',r,b,c,K,u,l⟩:=Bj I k;unfold kas_ask;rw[af,ag N,af,ag L];show wpAny _ A (keyLt' _ ks[i] ks[j]) C _ _;rw[S,D];refine kat_lt h1 h3 B r ?_;show KatLex _ _ _ _ false _ [(.int f.1 t,.int g.1 Y),(.ref b2,.ref p)] 0 _;unfold xC at h;refine kat_cons (wpAny_eqBool_int ?_);by_cases e:f.1=g.1
 .rw[aR e]at h;rw[show (f.1==g.1)=true from beq_iff_eq.mpr e];refine kat_yes (kat_cons (wpAny_eqBool_tuple (knd:=kU X.prog X.w) (x:=f.2.map Sum.inl) (y:=g.2.map Sum.inl) (by omega) (sT I.hok (by rw[aJ];exact h8)) (sT I.hok (by rw[aJ];exact l)) ?_));by_cases z:f.2=g.2
  .rw[aD (show f.2.map (Sum.inl:Int->nC)=g.2.map Sum.inl by rw[z])];rw[z,AK]at h;exact kat_yes (kat_nil h)
  .have ni:f.2.map (Sum.inl:Int->nC)≠g.2.map Sum.inl:=λq=>z ((cZ λ_ _ w=>Sum.inl.inj w).mp q);rw[aC ni];refine kat_no ?_;refine kat_one _ _ ?_;refine wpAny_richCompare_same_room (op:=.Lt) ⟨o2,m,P⟩ ⟨v,b,c⟩ F.slot_tuple_lt (wpAny_call_entry F.slot_tuple_lt ⟨o2,m,P⟩ F.entry_tuple_lt (zO m h6 b c K h7 u ⟨_,rfl,(λq=>nomatch q),h⟩) (F.args_tuple_lt_2 _ _)) (by omega)
 .rw[aS e]at h;rw[show (f.1==g.1)=false from beq_eq_false_iff_ne.mpr e];refine kat_no ?_;exact oneLt_int h
theorem JT(I:iq X gQ σ H s){ks:List Value}{fs:List Ky}(m:Paired (Gh H) ks fs)(j:1<=ks.length){Q:SortKind->Shared->Prop}(h:Q (tuples' (Value.type "int" != Value.type "tuple")) s) :
  wpAny (model X.prog X.w) A (keyKind' ks.toArray) Q E s:=by
 have go:∀{ks:List Value} {fs:List Ky},Paired (Gh H) ks fs->∃b,KatTups s.heap ks b/\b.length=ks.length/\∀f∈b,∃i t,f=Value.int i t:=λ{ks fs} p=>by
  induction p with
  |nil=>exact⟨[],trivial,rfl,λ_ z=>nomatch z⟩
  |cons x r ih=>
   obtain⟨b,e,g,d⟩:=ih;obtain⟨a,rfl,l⟩:=x;obtain⟨o,t,B,n,o2,k,v,j,u,q,_⟩:=Bj I l;refine⟨_::b,KatTups.cons j u q rfl e,by simp[g],λf c=>?_⟩;rcases aG.mp c with rfl|c
   .exact⟨_,_,rfl⟩
   .exact d f c
 obtain⟨b,e,g,d⟩:=go m;refine kat_kind e (by omega) (T:=.type "int") (λf c=>?_) (by decide) h;obtain⟨i,y,rfl⟩:=d f c;exact Looks.of_pure rfl
def Uu(X:Cx)(gQ:List (Addr×Obj))(σ:St)(H0:Hp)(D a f P:Addr)(b:Obj)(q:Str)(c d:Nat)(ks:List Value)(fs:List Ky)(s:Shared):Prop:=∃H e,iq X gQ σ H s/\ij H0 H/\H D=none/\H a=none/\H f=none/\s.heap.get? D=some (seqObj "list" #[] d)/\s.heap.get? a=some (seqObj "list" ks.toArray e)/\s.heap.get? f=some b/\sG H P q c/\Paired (Gh H) ks fs
def Li(X:Cx)(gQ:List (Addr×Obj))(σ:St)(f P:Addr)(c:Obj)(q:Str)(d:Nat):Prop:=∀(s:Shared) (H:Hp) (b:Addr) (g:Ky),iq X gQ σ H s->s.heap.get? f=some c->sG H P q d->zv H b g->
 codeAny (model X.prog X.w) X.A.in1.in1 (.call (.ref f) ⟨[.ref b],[]⟩) (CR sQ X.stack X.prog X.w H s (λv e=>∃p,v=.ref p/\H p=none/\∃a,H b=some (.tup [.int g.1,.ref a])/\e=i6 H p (.tup [.int (-g.1),.ref a])) E0) s
theorem Kb{D J f P:Addr}{L:Obj}{q:Str}{N e1:Nat}{ks:List Value}{fs:List Ky}{H0:Hp}{b:Addr}{g:Ky}(oD:Ow X gQ D)(oS:Ow X gQ J)(oF:Ow X gQ f)(hL:Li X gQ σ f P L q N)(hg:zv H0 b g)
  (hx:Uu X gQ σ H0 D J f P L q N e1 ks fs s) {Q:Value->Shared->Prop} (hQ:∀k j H e,iq X gQ σ H j->ij H0 H->H D=none->H J=none->H f=none->j.heap.get? D=some (seqObj "list" #[] e1)->j.heap.get? J=some (seqObj "list" ks.toArray e)->j.heap.get? f=some L->sG H P q N->Paired (Gh H) (ks++[k]) (fs++[ky g])->Q k j) :
  wpAny (model X.prog X.w) X.A.in1.in1 (call (.ref f) [.ref b]) Q E s:=by
 obtain⟨H,e,I,sm,nD,nS,Z,gD,gS,R,tb,pr⟩:=hx;refine wpAny_call (codeAny_mono (hL s H b g I R tb (hg.mono sm)) λr j B=>?_);cases r with
 |error e=>exact B.elim
 |ok fl=>
  cases fl with
  |next=>exact False.elim B
  |brk=>exact False.elim B
  |cont=>exact False.elim B
  |ret u=>
   obtain⟨v,H',os,y,un,S,rv,p,rfl,hp,F,Y,rfl⟩:=B;cases (show u=Value.ref p from rv);obtain⟨hh,gg,d,t,K⟩:=j;obtain rfl:K=s.os:=os;have I':=I.call (t':=t) (d':=d) un S y (λb z=>absurd z (by simp));have i:ij H (i6 H p (.tup [.int (-g.1),.ref F])):=λc o C=>by rw[hV (ip C hp)];exact .of C
   have x:∀{c:Addr} {o:Obj},Ow X gQ c->H c=none->s.heap.get? c=some o->hh.get? c=some o/\i6 H p (.tup [.int (-g.1),.ref F]) c=none:=λ{c o} ow n C=>⟨un.keep c o C n (ow.stk I) (by simp),un.free c o C n (by simp)⟩;obtain⟨U,x1,x2⟩:=hg.mono sm;rw[Y]at x1;have:F=U:=by cases x1;rfl
   subst this;refine hQ _ _ _ e I' (sm.trans i) (x oD nD gD).2 (x oS nS gS).2 (x oF Z R).2 (x oD nD gD).1 (x oS nS gS).1 (x oF Z R).1 (tb.grow I.hok λps ep=>?_) ?_
   .exact i _ _ ep
   .have ap:∀{l:List Value} {m:List Ky},Paired (Gh H) l m->Paired (Gh (i6 H p (.tup [.int (-g.1),.ref F]))) (l++[.ref p]) (m++[ky g]):=λ{l m} z=>by
     induction z with
     |nil=>exact .cons ⟨p,rfl,F,g9,i _ _ x2⟩ .nil
     |cons h t ih=>exact .cons (let ⟨a,ea,xa⟩:=h;⟨a,ea,xa.mono i⟩) ih
    exact ap pr
end
section
variable {X:Cx}{gQ:List (Addr×Obj)}{σ:St}{H:Hp}{s:Shared}{E:Value->Shared->Prop}
def IJ{a:Type}{p:Array Nat}{l:List a}(d:a)(c:AH l.length p):(p.toList.map λi=>l.getD i d).Perm l:=by
 have b:p.toList.Perm (List.range l.length):=by simpa using c.toList
 have:=b.map λi=>l.getD i d;rwa [yO]at this
theorem Gf{D f P:Addr}{fo:Obj}{q:Str}{c' n:Nat}{bs:List Addr}{fl:List Ky}{Q:Fin->Shared->Prop}(hu:X.A.units+8<cLine)(I:iq X gQ σ H s)(U:Ow X gQ D)(oF:Ow X gQ f)(nD:H D=none)(nF:H f=none)(hDf:D≠f)(gD:s.heap.get? D=some (seqObj "list" (bs.map Value.ref).toArray n))(gF:s.heap.get? f=some fo)(tb:sG H P q c')
  (hL:Li X gQ σ f P fo q c') (hf:Paired (zv H) bs fl) (h64:fl.length<64)
  (h:∀K v d r,iq X gQ σ K v->ij H K->K D=some (.lst (d.map V.ref))->(∀R:Addr->Ky->Prop,Paired R bs fl->Paired R d r)->r.Perm fl->r.Pairwise (λa b=>xC (ky b) (ky a)=false)->Q (.done (.ret .none)) v) :
  wpAny (model X.prog X.w) X.A.in1.in1 (ksk_tree D (.ref f) false) Q E s:=by
 have S:bs.length=fl.length:=Paired.length hf;have sl:64<=sizeLine:=by decide
 have hz:(bs.map Value.ref).toArray.size=fl.length:=by simp[S]
 unfold ksk_tree;refine ao (listItems_at gD rfl ?_);refine ao (listUpdate_at gD rfl ?_ (by rw[hz];omega) (bK _));obtain⟨e1,gD1⟩:∃e1,(s.heap.update D (Obj.mapSeq λ_=>(#[]:Array Value))).get? D=some (seqObj "list" #[] e1):=⟨_,get?_update_seq gD λ_=>#[]⟩;have I1:iq X gQ σ H {s with heap:=s.heap.update D (Obj.mapSeq λ_=>(#[]:Array Value))}:=U.turn (t':=s.toks) I nD λb u L e=>by rw[Heap.get?_update_ne _ _ _ _ L];exact e
 have gF1:(s.heap.update D (Obj.mapSeq λ_=>(#[]:Array Value))).get? f=some fo:=by rw[Heap.get?_update_ne _ _ _ _ (Ne.symm hDf)];exact gF
 refine ao (seqEpoch_at gD1 rfl ?_);refine ao (wpAny_newTuple ?_ (by simp[S];omega));have I2:=I1.kept (t':=s.toks) λb u e=>ae (seqObj "tuple" (bs.map Value.ref).toArray.toList.toArray 0) e;refine ao (wpAny_newList ?_ (bK _));have I3:=I2.kept (t':=s.toks) λb u e=>ae (seqObj "list" [].toArray 0) e;refine wpAny_holding ?_;dsimp only at I2 I3 ⊢;generalize hh:(s.heap.update D (Obj.mapSeq λ_=>(#[]:Array Value))).push (seqObj "tuple" (bs.map Value.ref).toArray.toList.toArray 0)=h2 at I2 I3 ⊢;have gD3:(h2.push (seqObj "list" [].toArray 0)).get? D=some (seqObj "list" #[] e1):=ae _ (by rw[<-hh];exact ae _ gD1);have gF3:(h2.push (seqObj "list" [].toArray 0)).get? f=some fo:=ae _ (by rw[<-hh];exact ae _ gF1);have oS:Ow X gQ h2.objs.size:=I2.ow (aL _);have nS:H h2.objs.size=none:=I2.hok.fresh (aL _);have neD:D≠h2.objs.size:=λz=>by have:=aM (show h2.get? D=some _ by rw[<-hh];exact ae _ gD1);rw[z]at this;exact absurd this (bf _)
 have neF:f≠h2.objs.size:=λz=>by have:=aM (show h2.get? f=some _ by rw[<-hh];exact ae _ gF1);rw[z]at this;exact absurd this (bf _)
 unfold ksk_rest;refine ao (wpAny_rule ?_);rw[List.forIn_toArray];refine ao (ksk_fold (λi v=>∃ks,ks.length=i/\Uu X gQ σ H D h2.objs.size f P fo q c' e1 ks ((fl.take i).map ky) v) (bs.map Value.ref) 0 _ ⟨[],rfl,H,0,I3,.refl _,nD,nS,nF,gD3,ar _ rfl,gF3,tb,.nil⟩ (λj x v hx hI=>?_) λv hI=>?_)
 .obtain⟨ks,o,hS⟩:=hI;rw[aH]at hS o;rw[aw]at hx;obtain⟨b,L,rfl⟩:=cR.mp hx;obtain⟨g,hg,xg⟩:=pU hf L;have hj:j<fl.length:=(aa.mp hg).1;refine ao (wpAny_attempt (Kb U oS oF hL xg hS λk m K e J sm n1 n2 n3 g1 g2 g3 tb' pr=>?_));dsimp only;have J':iq X gQ σ K {m with heap:=m.heap.update h2.objs.size (Obj.mapSeq (·.push k))}:=oS.turn (t':=m.toks) J n2 λb u L e=>by rw[Heap.get?_update_ne _ _ _ _ L];exact e
  refine ao (listUpdate_at g2 rfl ?_ (by rw[bF,o];omega) (by show (ks.toArray.push k).size<=_;rw[Array.size_push,bF,o];omega));obtain⟨e2,ge2⟩:∃e2,(m.heap.update h2.objs.size (Obj.mapSeq (·.push k))).get? h2.objs.size=some (seqObj "list" (ks++[k]).toArray e2):=⟨_,by rw[show (ks++[k]).toArray=ks.toArray.push k by simp];exact get?_update_seq g2 (·.push k)⟩;refine ak ⟨rfl,ks++[k],by simp[o],K,e2,J',sm,n1,n2,n3,?_,?_,?_,tb',?_⟩
  .rw[Heap.get?_update_ne _ _ _ _ neD];exact g1
  .exact ge2
  .rw[Heap.get?_update_ne _ _ _ _ neF];exact g3
  .rw[aH,c5,hg];simpa using pr
 .obtain⟨ks,o,K,e,J,sm,n1,n2,n3,g1,g2,g3,tb',pr⟩:=hI;rw[aH,ax]at o pr;rw[cL (by omega)]at pr;refine ao (listItems_at g2 rfl ?_);have fin:∀(d:List Addr) (r:List Ky) (st:SortSt),(arrOf st).map (·.2)=(d.map Value.ref).toArray->failedOf st=none->d.length=bs.length->(∀R:Addr->Ky->Prop,Paired R bs fl->Paired R d r)->r.Perm fl->r.Pairwise (λa b=>xC (ky b) (ky a)=false)->
    wpAny (model X.prog X.w) X.A.in1.in1 (ksk_tail D false e1 (.ref h2.objs.size) st) Q E v:=λd r st ho Y mD pf pm pw=>by
   unfold ksk_tail;dsimp only;refine ao (listUpdate_at g2 rfl ?_ (by rw[bF,o];omega) (bK _));refine ao (wpAny_letGo ?_);have J1:iq X gQ σ K {v with heap:=v.heap.update h2.objs.size (Obj.mapSeq λ_=>#[])}:=oS.turn (t':=v.toks) J n2 λb u L e=>by rw[Heap.get?_update_ne _ _ _ _ L];exact e
   have Z:(v.heap.update h2.objs.size (Obj.mapSeq λ_=>#[])).get? D=some (seqObj "list" #[] e1):=by rw[Heap.get?_update_ne _ _ _ _ neD];exact g1
   refine ao (seqEpoch_at Z rfl ?_);simp only[cy,if_false];rw[ho];have hsz:(d.map Value.ref).toArray.size=fl.length:=by simp[mD,S]
   refine ao (listUpdate_at Z rfl ?_ (bK _) (by rw[hsz];omega));rw[Y];simp only[bne_self_eq_false,cy,if_false];have J2:=U.turn (h':=(v.heap.update h2.objs.size (Obj.mapSeq λ_=>#[])).update D (Obj.mapSeq λ_=>(d.map Value.ref).toArray)) (t':=v.toks) J1 n1 λb u L e=>by rw[Heap.get?_update_ne _ _ _ _ L];exact e
   obtain⟨e3,g4⟩:∃e3,((v.heap.update h2.objs.size (Obj.mapSeq λ_=>#[])).update D (Obj.mapSeq λ_=>(d.map Value.ref).toArray)).get? D=some (seqObj "list" (d.map Value.ref).toArray e3):=⟨_,get?_update_seq Z λ_=>(d.map Value.ref).toArray⟩;have vr:∀l:List Addr,iL (l.map V.ref) (l.map Value.ref):=λl=>by
    induction l with
    |nil=>exact .nil
    |cons b l ih=>exact .cons rfl ih
   refine ak (h (i6 K D (.lst (d.map V.ref))) _ d r (J2.track n1 (.inr U.z) U.l U.c U.p (show jH X.prog X.w _ _ _ (.lst _) from ⟨by rw[ax,mD,S];omega,d.map Value.ref,e3,vr d,g4⟩)) (sm.trans λb u e=>by rw[hV (ip e n1)];exact .of e) g9 pf pm pw)
  have kz:ks.toArray.zip (bs.map Value.ref).toArray=ks.toArray.zip (bs.map Value.ref).toArray:=rfl;unfold ksk_end;dsimp only;simp only[cy,if_false];by_cases y:(bs.map Value.ref).toArray.size<2
  .rw[aR y,aR y];refine ao (ak ?_);rw[StateT.run_pure];refine ao (ak ?_);refine fin bs fl (SortSt.mk' general' (ks.toArray.zip (bs.map Value.ref).toArray) #[] 7 none) ?_ rfl rfl (λ_ z=>z) (List.Perm.refl _) ?_
   .show (ks.toArray.zip (bs.map Value.ref).toArray).map (·.2)=_;apply Array.toList_inj.mp;simp[List.map_snd_zip,o]
   .rw[hz]at y;match fl,y with
    |[],_=>exact .nil
    |[_],_=>exact c6 _ _
  .rw[aS y,aS y];rw[hz]at y;refine ao (JT J pr (by omega) ?_);refine ao (wpAny_mono (kat_run (ks:=ks) (vs:=bs.map Value.ref) (Q:=λB m=>∃p:Array Nat,AH fl.length p/\MX (λi j=>xC ((fl.map ky).getD i (0,[])) ((fl.map ky).getD j (0,[]))) p fl.length/\arrOf B=p.map (kas_item (ks.toArray.zip (bs.map Value.ref).toArray))/\failedOf B=none/\m=v)
    (G:=λp m=>AH fl.length p/\MX (λi j=>xC ((fl.map ky).getD i (0,[])) ((fl.map ky).getD j (0,[]))) p fl.length/\m=v)
    (by rw[o,ax]) (by rw[ax];omega) (by rw[ax];omega) (λp B m a1 a2 a3 a4=>⟨p,a4.1,a4.2.1,a2,a3,a4.2.2⟩)
    (Hf (lt:=λi j=>xC ((fl.map ky).getD i (0,[])) ((fl.map ky).getD j (0,[]))) (n:=fl.length) (λi j C N hj hC=>Od (by show X.A.units+1+1+2<_;omega) J pr (0,[]) (by omega) (by omega) hC) (by rw[ax,S];exact M6 (OA _ _) (by omega) λp hp hu=>⟨hp,hu,rfl⟩))) ?_ λ_ _ z=>z)
   rintro⟨⟨⟩,B⟩ m ⟨p,hp,hup,har,Y,rfl⟩;have F:∀i∈p.toList,i<fl.length:=λi N=>by have:i∈(List.range fl.length).toArray:=hp.mem_iff.mp (by simpa using N);simpa using this
   refine fin (p.toList.map λi=>bs.getD i 0) (p.toList.map λi=>fl.getD i (0,[])) B ?_ Y (by rw[ax,bA,oh hp,S]) (λR z=>yK _ _ _ λi N=>Dc z 0 (0,[]) (by rw[S];exact F i N)) (IJ _ hp) ?_
   .rw[kat_snds (by rw[o,ax]) har,aJ];congr 1;refine c7 λi N=>?_;have:=F i N;simp[S,this]
   .rw[c8,c9];intro i j N hj hij;have hs:p.size=fl.length:=oh hp;have hj':j<p.size:=by simpa using hj
    have hi':i<p.size:=by simpa using N
    have:=hup i j hij (by omega);rw[cT,cT,Array.getElem?_eq_getElem hj',Array.getElem?_eq_getElem hi']at this;have gm:∀k,k<fl.length->(fl.map ky).getD k (0,[])=ky (fl.getD k (0,[])):=λk hk=>by simp[hk]
    simp only[dc]at this;rw[gm _ (F _ (by simp)),gm _ (F _ (by simp))]at this;simpa using this
end
end L2
namespace L2
open PySem PySem.Spec PySem.W PyProof.Rows
section
variable {X:Cx}
abbrev qp(x:Str)(p1 p2 p3 p4 p5 p6 p7 p8:Pos)(j1 j2 j3:Nat):Expr:=.Tuple [.UnaryOp .USub (.Subscript (.Name x p1) (.Constant (.int 0) j1 p2) p3) p4,.Subscript (.Name x p5) (.Constant (.int 1) j2 p6) p7] j3 p8
def Tf{x:Str}{p1 p2 p3 p4 p5 p6 p7 p8:Pos}{j1 j2 j3:Nat}(i:X.N[0]? = some x)(hv:Uj X.env.scope x)(g:(x==("__debug__" : Str))=false)(a:(x==("__classdict__" : Str))=false) :
  ∃t,PE X (qp x p1 p2 p3 p4 p5 p6 p7 p8 j1 j2 j3) t/\∀(c:St) (H:Hp) (Q:VK) (b f:Addr) (d:Int),c[0]? = some (some (.ref b))->H b=some (.tup [.int d,.ref f])->(∀p,H p=none->Q (.ref p) (i6 H p (.tup [.int (-d),.ref f])))->t c H Q:=by
 refine⟨_,KH (nR (Rk MB (GI lu (yx i hv g a) FM λ_ _=>rfl)) (nR (GI lu (yx i hv g a) FM λ_ _=>rfl) tV)),λc H Q b f d e h q=>?_⟩;exact⟨_,e,b,_,_,_,rfl,rfl,nu.of h,xt (j:=0) rfl,_,rfl,_,e,b,_,_,_,rfl,rfl,nu.of h,xt (j:=1) rfl,(by show 2<=sizeLine;decide),λp k=>q p k⟩
def RD{C:List (Addr×Obj)}{v:St}{f P:Addr}{q x:Str}{params:Arguments}{a:Scope}{i c:Value}{d k:Nat}{p1 p2 p3 p4 p5 p6 p7 p8:Pos}{j1 j2 j3:Nat}(hr:je (k+3) X.A)(S:ji [x] [x] a)(n:a.names.lookup x=some .local)
  (B:(x==("__debug__" : Str))=false) (e:(x==("__classdict__" : Str))=false)
  (z:∀u:Value,bindArgs (kla_fn "<lambda>" q params (qp x p1 p2 p3 p4 p5 p6 p7 p8 j1 j2 j3) a [] i (.ref d) c) ⟨[u],[]⟩=pure [(x,u)]) :
  Li X C v f P (kla_obj "<lambda>" q params (qp x p1 p2 p3 p4 p5 p6 p7 p8 j1 j2 j3) a [] i d c) q d:=by
 intro s H b g I o m D;obtain⟨j,h,E⟩:=D;obtain⟨t,r,l⟩:=Tf (X:=(ou sQ X.prog X.w X.K X.mg X.base [x] q a f (.ref d) X.A.in1.in1 X.stack s H E0).nox) (p1:=p1) (p2:=p2) (p3:=p3) (p4:=p4) (p5:=p5) (p6:=p6) (p7:=p7) (p8:=p8) (j1:=j1) (j2:=j2) (j3:=j3) (x:=x) rfl (.inl n) B e;refine Qv (k:=k) (vs:=[.ref b]) (us:=[.ref b]) o (m.rec' I.hok) S rfl hr.in1.in1 I.env0.in1.in1 (.of_eq (z (.ref b))) (.cons rfl .nil) ⟨t,r,l _ _ _ b j g.1 rfl h λp y=>⟨p,rfl,y,j,h,rfl⟩⟩
end
def MK(a:Heap)(mg:Str->Option Value)(x:Str)(b:Value):Prop:=∃c P,b=.ref c/\CodeHd a c P/\(c,P)∈a.life.ids/\a.CodeRec (.ref c) x/\a.BuiltinsAt mg P
def HK(K:W.Frag)(mg:Str->Option Value)(a:Heap)(x:Str):Prop:=∀f d e c b,mg x=some (.ref f)->K.lookup f=some ⟨d,e,.func c,b⟩->MK a mg x c.code
def JZ{P:Program}{w:World}{mg:Str->Option Value}{c:Heap}{x:Str}{N e:List Str}{k:Nat}{l:Sp}{K:W.Frag}{st:Stmt}(D:ib K mg x st)(L:HK K mg c x)(S:ji N e (gZ st))
  (B:∀(kV g o:Value) (r:Option Addr) (a u:Value) (us:List Value),us.length=e.length->bindArgs (W.fnOf x x (j7 st) (iR st) (gZ st) .none kV g o r a u) ⟨us,[]⟩=pure (e.zip us))
  (i:∀vs H Q E,l vs H Q E->vs.length=e.length)
  (d:∀f a A b s H vs Q E,MK c mg x a->je k (A.deeper (envOfC x (gZ st) s.heap.objs.size f a))->l vs H Q E->
   ∃t,BU (ou sQ P w K mg c N x (gZ st) f a A b s H E).nox (iR st) t/\t {nx:=λ_ v=>Q .non v,rt:=Q} (lV N vs) H):lQ P w K mg c x (k+1) l:=by
 obtain⟨f,R,F,m⟩:=D.ex;have z:=F.kp;have C:=F.binds B;obtain⟨J,I,kV,g,o,r,a,u,y,rfl,p,n⟩:=F.ex;refine⟨f,_,e,Re p n S i λA b s H vs Q E hr j=>?_,m,z,C⟩;obtain⟨t,h,q⟩:=d f a A b s H vs Q E (L f _ _ _ _ m p) hr j;exact⟨t,h.nox,q⟩
def UN(X:Cx)(src:V->Hp->List Addr->Prop):Prop:=(∀x H a bs,ij H a->src x H bs->src x a bs)/\∀(d:List (Addr×Obj)) (s:Shared) (e:St) (H:Hp) (x:V) (u:Value) (bs:List Addr) (E:Value->Shared->Prop) (Q:List Value->Shared->Prop),iq X d e H s->src x H bs->i9 x u->
 (∀c f,(∀b o,s.heap.get? b=some o->c.get? b=some o)->Q (bs.map Value.ref) {s with heap:=c,toks:=f})->wpAny (model X.prog X.w) X.A.in1 (collect u) Q E s
def T9(K:W.Frag):V->Hp->List Addr->Prop:=λx H bs=>∃p,x=.ref p/\H p=some (.lst (bs.map V.ref))
section
variable {X:Cx}
def K9:UN X (T9 X.K):=by refine⟨λx H H' bs h ⟨p,e1,e2⟩=>⟨p,e1,h _ _ e2⟩,λj s i H x u bs E Q I h r q=>?_⟩;obtain⟨p,rfl,e⟩:=h;cases r;obtain⟨c,g,d,a⟩:=I.list (l9.of e);have f:=Ah g;subst f;refine collect_list d.isList (q _ s.toks λb o e=>?_) (by rw[ax]at a ⊢;exact a);rw[Heap.get?_update_ne _ _ _ _ (aN (aM e)),Heap.get?_push_ne _ _ _ (aN (aM e))];exact e
def KL(src:V->Hp->List Addr->Prop)(i:TE):TE:=λh H Q=>i h H λx f=>∃bs e,src x f bs/\Paired (zv f) bs e/\e.length<64/\
 ∀D g d c,ij f g->f D=none->g D=some (.lst (d.map V.ref))->(∀R:Addr->Ky->Prop,Paired R bs e->Paired R d c)->c.Perm e->c.Pairwise (λa b=>xC (ky b) (ky a)=false)->Q (.ref D) g
def Kr{k:Nat}{qn x:Str}{e:Expr}{te:TE}{src:V->Hp->List Addr->Prop}{params:Arguments}{a:Scope}{p r l n p1 p2 p3 p4 p5 p6 p7 p8:Pos}{j1 j2 j3:Nat}(hr:je (k+3) X.A)(L:MK X.base X.mg qn X.env.code)(hq:qn++ ".<locals>.<lambda>" = X.env.qual++ "<lambda>")
  (S:ji [x] [x] a) (hx:a.names.lookup x=some .local) (hb:∀(q:Str) (pm v:Value) (c':Addr) (u:Value),bindArgs (kla_fn "<lambda>" q params (qp x p1 p2 p3 p4 p5 p6 p7 p8 j1 j2 j3) a [] pm (.ref c') v) ⟨[u],[]⟩=pure [(x,u)])
  (hcl:closureFor a X.env=pure []) (B:defaultsOf params X.env=([],[])) (d:UN X src) (he:PE X e te) (hg:Gl X "sorted") (hm:X.mg "sorted" = none)
  (i:backTo r (starEach [e] X.env)=[(false,eval e X.env)]/\starEach [e] X.env=[(false,eval e X.env)]) (hd:(x==("__debug__" : Str))=false:=by decide) (hcd:(x==("__classdict__" : Str))=false:=by decide) :
  PE X (.Call (.Name "sorted" p) [e] [⟨some "key",.Lambda params (qp x p1 p2 p3 p4 p5 p6 p7 p8 j1 j2 j3) a l,n⟩] r) (KL src te):=by
 intro D s K H Q I h;obtain⟨c,P,g,C,lF,hrc,U⟩:=L;refine wpAny_Call_Name_kw (tK (u:=.builtin "sorted") I hg hm (by rfl) ?_);refine callWith_kw ?_ (by rw[i.1];rfl) (by rw[i.1];rfl) rfl rfl;rw[i.1];refine Calls.spliced_cons (kl (he D s K H _ I h) λu s1 ⟨xv,H1,I1,r1,bs,fl,hs,pf,h64,q⟩=>?_);refine Calls.spliced_nil ?_;refine kws_cons (Lg I1 g C lF hrc U hq hcl B λf c' v pm F E I2 sm fr hf nf tb gf=>?_);refine kws_nil ?_;show wpAny _ X.A (call (.builtin "sorted") [u] [(Str.ofString "key",.ref f)]) _ _ E;refine call_function_entry_kw kind_sorted plain_sorted entry_sorted (ksk_s1 _ _) ?_;unfold Builtin.«sorted»;refine ao (m:=checkCount "sorted" 1 1 _) (ak ?_);refine ao (d.2 D E K F xv u bs _ _ I2 (d.1 _ _ _ _ sm hs) r1 λj y Z=>?_);have lb:bs.length=fl.length:=Paired.length pf;have sl:64<=sizeLine:=by decide
 refine ao (wpAny_newList ?_ (by rw[ax,lb];omega));have I3:iq X D K F {E with heap:=j,toks:=y}:=I2.kept Z;have I4:iq X D K F {E with heap:=j.push (seqObj "list" (bs.map Value.ref).toArray 0),toks:=y}:=I3.kept λb o e=>ae _ e;have hlf:f<j.objs.size:=aM (Z _ _ gf);have n4:F j.objs.size=none:=I3.hok.fresh (aL _);refine ao (wpAny_holding (wpAny_call_entry_kw slot_list_sort ⟨_,ar _ rfl,rfl⟩ entry_list_sort ?_ (ksk_l1 _ _)));show wpAny (model X.prog X.w) X.A.in1.in1 (Builtin.«list.sort» ⟨[.ref j.objs.size],[(Str.ofString "key",.ref f)]⟩) _ _ _;rw[ksk_t1];refine Gf (bs:=bs) (fl:=fl) (by have:=hr.units;omega) I4 (I3.ow (aL _)) (I1.ow hf) n4 nf (bB hlf) (ar _ rfl) (ae _ (Z _ _ gf)) tb (RD hr S hx hd hcd (hb _ _ _ _)) (Paired.mapP pf λ_ _ z=>z.mono sm) h64 λH' s' bs' fl' J N e5 R Y pw=>?_;refine⟨_,rfl,ak ⟨_,rfl,.ref j.objs.size,H',J,rfl,q _ H' bs' fl' (sm.trans N) (sm.free n4) e5 R Y pw⟩⟩
end
end L2
namespace L2
open PySem PySem.Spec PySem.W PyProof.Rows
def JK{H:Hp}{b:Addr}{g:Ky}(x:zv H b g):Bo H (.inl g.1,g.2.map .inl) b:=let ⟨b2,e1,e2⟩:=x;⟨b2,e1,by rw[aJ];exact e2⟩
section
variable {X:Cx}{pos pos':Pos}
def JD(P:Program)(w:World)(H:Hp)(h:Heap)(a:sysModules<h.objs.size):jH P w H (h.push {cls:=.type "dict",data:=.dict #[]}) h.objs.size (AJ P w h.objs.size []):=Kp ⟨beq_eq_false_iff_ne.mpr (Ne.symm (aN a)),bK _,_,#[],0,ar _ rfl,⟨rfl,rfl,rfl⟩,rfl,rfl,List.nodup_nil⟩
def KW(P:Program)(w:World)(f d:TE):TE:=λc H Q=>∀p,H p=none->f c (i6 H p (AJ P w p [])) λx e=>d c e λy a=>a p=some (AJ P w p [])/\∃k b,x=.ref b/\Bo a k b/\∀r,i9 y r->Q (.ref p) (i6 a p (AJ P w p [(k,b,r)]))
def Mb{k v:Expr}{g l:TE}(R:X.A.units+2<cLine)(D:PE X k g)(hv:PE X v l):PE X (.Dict [some k] [v] pos) (KW X.prog X.w g l):=by intro m s j H Q I h;have N:=I.hok.fresh (aL s.heap.objs.size);have L:=I.laid (a:=s.heap.objs.size) (o:=AJ X.prog X.w s.heap.objs.size []) (h':=s.heap.push {cls:=.type "dict",data:=.dict #[]}) (t':=s.toks) (λ_ _ q=>ae _ q) (aL _) (JD _ _ _ s.heap I.big);refine wpAny_Dict_any rfl rfl (λz=>nomatch z) (show 1<=15 by decide) (pairTrees_cons_walk (kl (D m _ j _ _ L (h _ N)) λu s1 ⟨x,H1,J1,rx,q1⟩=>kl (hv m s1 j H1 _ J1 q1) λr s2 ⟨y,H2,J2,ry,e,k',b,ex,fk,q2⟩=>pairTrees_nil_walk ?_));subst ex;cases (show u=Value.ref b from rx);show wpAny _ _ (forIn [(Value.ref b,r)] PUnit.unit _) _ _ s2;rw[cx];obtain⟨F,n⟩:=Hy J2.hok e (λx B=>nomatch B);refine ao (ao (wpAny_dictSet_heap (show X.A.units+1<cLine by omega) (J7 J2.hok fk) n (λh' c p=>?_) (bK _)));refine ak ?_;dsimp only;rw[cE];obtain⟨q,C,P,d,K,J,f,_,i⟩:=c;have E:storedH ([]:List FE) k' b r=[(k',b,r)]:=rfl;rw[E]at f i;exact ak ⟨.ref s.heap.objs.size,_,Bv J2 (by rw[e];exact True.intro) p ⟨q,d⟩ (Kp ⟨F.1,by show 1<=sizeLine;decide,q,C,P,d,K,J,f,i⟩),rfl,q2 r ry⟩
def QR(P:Program)(w:World)(f ty h:TE):TS:=λD c H=>h c H λv i=>f c i λx g=>ty c g λy e=>∃a b d k,x=.ref a/\y=.ref b/\e a=some (AJ P w a d)/\(∀x∈d,Bo e x.1 x.2.1)/\Bo e k b/\d.length<sizeLine/\∀r,i9 v r->D.nx c (i6 e a (AJ P w a (storedH d k b r)))
def OH{o i c:Expr}{g ty j:TE}(z:X.A.units+2<cLine)(q:PE X o g)(n:PE X i ty)(hv:PE X c j)(m:swapsWith c (some (.Subscript o i pos')) pos.line X.env=pure false) :
  PS X (.Assign [.Subscript o i pos'] c pos) (QR X.prog X.w g ty j):=by
 intro f s d H D I h;refine wpAny_Assign_Subscript (kl (hv f s d H _ I h) λr s1 ⟨v,H1,I1,rv,q1⟩=>kl (q f s1 d H1 _ I1 q1) λu s2 ⟨x,H2,I2,rx,q2⟩=>kl (n f s2 d H2 _ I2 q2) λiv s3 ⟨y,H3,I3,ry,a,b,xs,k,ex,ey,e,fk,fb,l,q3⟩=>?_) m;subst ex;subst ey;cases (show u=Value.ref a from rx);cases (show iv=Value.ref b from ry);exact RZ z I3 e fk fb l λB p=>⟨d,_,p,q3 r rv⟩
end
def QF(P:Program)(w:World)(F H:Hp)(a:Addr)(bs:List Addr)(fl:List Ky):Prop:=∃b:List FE,H a=some (AJ P w a b)/\bs=b.map (·.2.1)/\Paired (λ(x:FE) (f:Ky)=>x.1=(.inl f.1,f.2.map .inl)/\zv F x.2.1 f) b fl
def xP(fl:List Ky)(g:Ky):List Ky:=if g∈fl then fl else fl++[g]
section
variable {P:Program}{w:World}{F F' H H':Hp}{a b:Addr}{bs:List Addr}{fl:List Ky}{g:Ky}
def QF.mono(x:QF P w F H a bs fl)(d:ij F F')(c:ij H H'):QF P w F' H' a bs fl:=let ⟨xs,e,h,p⟩:=x;⟨xs,c _ _ e,h,Paired.mapP p λ_ _ z=>⟨z.1,z.2.mono d⟩⟩
def QL{xs:List FE}{fl:List Ky}(p:Paired (λ(x:FE) (f:Ky)=>x.1=(.inl f.1,f.2.map .inl)/\zv F x.2.1 f) xs fl)(s:ij F H):∀x∈xs,Bo H x.1 x.2.1:=by
 induction p with
 |nil=>exact λx c=>nomatch c
 |cons h t ih=>
  intro x c;rcases aG.mp c with rfl|c
  .rw[h.1];exact JK (h.2.mono s)
  .exact ih x c
def QF.flr(x:QF P w F H a bs fl):Paired (zv F) bs fl:=by
 obtain⟨c,e,rfl,p⟩:=x;clear e;induction p with
 |nil=>exact .nil
 |cons h t ih=>exact .cons h.2 ih
def Ol{f g:Ky}(h:((Sum.inl f.1,f.2.map Sum.inl):nC×List nC)=(.inl g.1,g.2.map .inl)):f=g:=by obtain⟨a,b⟩:=f;obtain⟨c,d⟩:=g;have e:=Prod.mk.inj h;have j:a=c:=Sum.inl.inj e.1;have i:b=d:=(cZ λ_ _ w=>Sum.inl.inj w).mp e.2;rw[j,i]
def S5{xs:List FE}{fl:List Ky}(p:Paired (λ(x:FE) (f:Ky)=>x.1=(.inl f.1,f.2.map .inl)/\zv F x.2.1 f) xs fl)(g:Ky):(atKey xs (.inl g.1,g.2.map .inl)).isSome=decide (g∈fl):=by
 induction p with
 |nil=>simp[atKey]
 |@cons x f xs fl h t ih=>
  unfold atKey at ih ⊢;rw[List.find?_cons];by_cases e:f=g
  .subst e;rw[show decide (x.1=((Sum.inl f.1,f.2.map Sum.inl):nC×List nC))=true from aD h.1];simp
  .rw[show decide (x.1=((Sum.inl g.1,g.2.map Sum.inl):nC×List nC))=false from aC λz=>e (Ol (h.1.symm.trans z))];have:decide (g∈f::fl)=decide (g∈fl):=by simp[Ne.symm e]
   rw[this];exact ih
def R9{xs:List FE}{r:Value}(p:Paired (λ(x:FE) (f:Ky)=>x.1=(.inl f.1,f.2.map .inl)/\zv F x.2.1 f) xs fl)(d:zv F b g):∃c,QF P w F (i6 H a (AJ P w a (storedH xs (.inl g.1,g.2.map .inl) b r))) a c (xP fl g):=by
 refine⟨_,_,g9,rfl,?_⟩;unfold storedH xP;rw[S5 p g];by_cases e:g∈fl
 .rw[aR (aD e),aR e];clear e;induction p with
  |nil=>exact .nil
  |@cons x f xs fl h t ih=>
   refine .cons ?_ ih;unfold putAt;split
   .exact⟨h.1,h.2⟩
   .exact h
 .rw[aS (by simpa using e),aS e];clear e;induction p with
  |nil=>exact .cons ⟨rfl,d⟩ .nil
  |cons h t ih=>exact .cons h ih
end
end L2
namespace Cu
noncomputable def G(a b:Int):Int:=(Int.gcd a b:Nat)
def Ry a b:G b (Int.fmod a b)=G a b:=by
 unfold G;have e:=Int.fmod_def a b;rw[e];congr 1;apply Nat.dvd_antisymm
 .apply Int.dvd_gcd
  .have g:=de b (a-b*Int.fdiv a b);have f:=dg b (a-b*Int.fdiv a b);have d:=Int.dvd_add f (dh (c:=Int.fdiv a b) g);have h:a-b*Int.fdiv a b+b*Int.fdiv a b=a:=by omega
   rw[h]at d;exact d
  .exact de b _
 .apply Int.dvd_gcd
  .exact dg a b
  .exact Int.dvd_sub (de a b) (dh (dg a b))
def HM a b (h:b≠0):(Int.fmod a b).natAbs<b.natAbs:=by
 rcases Int.lt_or_gt_of_ne h with c|c
 .have e:=dm (-a) (show 0 < -b by omega);have d:=du (-a) (show 0 < -b by omega);rw[Int.neg_fmod_neg]at e d;omega
 .have e:=dm a c;have d:=du a c;omega
def Gi a:G a 0=(a.natAbs:Int):=by unfold G;rw[Int.gcd_zero_right]
def qN a b:0<=G a b:=Int.natCast_nonneg _
def zi a b:G a b ∣ a:=de a b
def qX a b:G a b ∣ b:=dg a b
def Up a b (h:b≠0):G a b<=(b.natAbs:Int):=by have:=Int.natAbs_dvd_natAbs.mpr (qX a b);have c:=Nat.le_of_dvd (by omega) this;have:=qN a b;omega
end Cu
namespace Cu
open PySem PyProof.Rows
open PySem.Builtin.Int (intBits)
def noPy(h:intBits y<=m)(c:m<=8000):PySem.Builtin.divisionGoesByPylong x y=false:=by
 refine PyProof.noPylong_of_log2 ?_;rcases Nat.eq_zero_or_pos y.natAbs with a|b
 .rw[a];decide
 .refine (Nat.log2_lt (bB b)).mpr ?_;exact lt_pow_of_bits h (by omega)
end Cu
namespace L2
open PySem PySem.Spec PyProof.Rows
def ML:lO X (.builtin "isinstance") (λxs H Q=>∃x T t b,xs=[x,.ty T]/\rF X.K H x t/\W.kitOne X.K t (.type T)=some b/\Q (.bl b) H):=by
 intro f s c H xs d Q I r h;obtain⟨x,T,t,b,rfl,ty,e,q⟩:=h;cases r with
 |cons r1 r2=>
  cases r2 with
  |cons r3 r4=>cases r4;cases (r3);exact Io I r1 ty e λa=>⟨.bl b,H,I.tok a,rfl,q⟩
def SN:bootBuiltins "isinstance" = some (.builtin "isinstance"):=by decide +kernel
def tm:bootBuiltins "abs" = some (.builtin "abs"):=by decide +kernel
def EL:bootBuiltins "int" = some (.type "int"):=by decide +kernel
def GA:bootBuiltins "bool" = some (.type "bool"):=by decide +kernel
def lG:bootBuiltins "tuple" = some (.type "tuple"):=by decide +kernel
def lS:bootBuiltins "len" = some (.builtin "len"):=by decide +kernel
end L2
namespace C4
def XB(c e:LI):Prop:=∀i j,i<c.length->j<c.length->c.getD i 0*e.getD j 0=c.getD j 0*e.getD i 0
def par_of_place(b:c.getD p 0≠0)(h:∀i,i<c.length->c.getD i 0*e.getD p 0=e.getD i 0*c.getD p 0):XB c e:=λi j k f=>by have g:=h i k;have d:=h j f;refine Int.eq_of_mul_eq_mul_right b ?_;have l:c.getD i 0*e.getD j 0*c.getD p 0=c.getD i 0*(e.getD j 0*c.getD p 0):=dy _ _ _;have a:c.getD j 0*e.getD i 0*c.getD p 0=c.getD j 0*(e.getD i 0*c.getD p 0):=dy _ _ _;rw[l,a,<-g,<-d,<-dy,<-dy,dz (c.getD i 0) (c.getD j 0)]
end C4
namespace L2
open PySem PySem.W PySem.Spec PyProof.Rows
def yy(K:W.Frag)(xs:List Str):Bool:=xs.all (λx=>match tabIn K x with
  |some (c,P)=>(K.lookup P).isNone&&codeIn K (.ref c) x
  |none=>false)&&decide ((xs.map λx=>(tabIn K x).map (·.2)).Nodup)
def vi(H0:Hp)(a:List (Addr×Addr×Str)):Hp:=λb=>match a.find? (λq=>q.2.1==b) with
 |some q=>some (.tbl (q.2.2++ ".<locals>.<lambda>") #[])
 |none=>H0 b
def G9{H0:Hp}{a:List (Addr×Addr×Str)}(b:∀q∈a,∀r∈a,q.2.1=r.2.1->q=r){q:Addr×Addr×Str}(c:q∈a):vi H0 a q.2.1=some (.tbl (q.2.2++ ".<locals>.<lambda>") #[]):=by
 unfold vi;cases e:a.find? (λr=>r.2.1==q.2.1) with
 |none=>exact absurd (List.find?_eq_none.mp e q c) (by simp)
 |some r=>have f:=dA e;have d:=List.find?_some e;obtain rfl:=b r f q c (by simpa using d);rfl
def OT{H0:Hp}{a:List (Addr×Addr×Str)}{b:Addr}{u:HO}(h:vi H0 a b=some u):(∃q∈a,q.2.1=b/\u=.tbl (q.2.2++ ".<locals>.<lambda>") #[])\/((∀q∈a,q.2.1≠b)/\H0 b=some u):=by
 unfold vi at h;cases e:a.find? (λr=>r.2.1==b) with
 |none=>rw[e]at h;exact .inr ⟨λq c z=>List.find?_eq_none.mp e q c (by simpa using z),h⟩
 |some r=>rw[e]at h;cases h;exact .inl ⟨r,dA e,by simpa using List.find?_some e,rfl⟩
def Kz{H0:Hp}{a:List (Addr×Addr×Str)}{b:Addr}(h:∀q∈a,q.2.1≠b):vi H0 a b=H0 b:=by unfold vi;rw[List.find?_eq_none.mpr λq c=>by simpa using h q c]
theorem Jj{K:W.Frag}{P:Program}{w:World}{g:Shared}{mg mb:Str->Option Value}{a fa:Addr}{vs:List Value}{Z:LI}{k:Nat}{fd:FuncData}{x:Str}{sp:Sp}(f:List (Addr×Addr×Str))
  (KX:K.In g.heap) (hns:g.heap.Ns mainGlobals mg) (B:g.heap.Ns builtinsNs mb) (hbb:∀x:Str,x≠ "__name__" ->mb x=bootBuiltins x) (hlim:g.heap.NoLimit) (hg:g.gens = #[])
  (ha:g.heap.get? a=some {cls:=.type "list",data:=.seq vs.toArray}) (hi:IntsAre vs Z) (hl:Z.length<=sizeLine) (hr:je k callerA)
  (I:∀q∈f,CodeHd g.heap q.1 q.2.1/\g.heap.get? q.2.1=some (tabObj #[])/\K.lookup q.2.1=none/\g.heap.CodeRec (.ref q.1) q.2.2/\g.heap.BuiltinsAt mg q.2.1) (hnd:∀q∈f,∀r∈f,q.2.1=r.2.1->q=r)
  (F:∀j:Heap,K.In j->j.Ns mainGlobals mg->(∀q∈f,CodeHd j q.1 q.2.1/\(q.1,q.2.1)∈j.life.ids/\j.CodeRec (.ref q.1) q.2.2/\j.BuiltinsAt mg q.2.1)->nQ P w K mg j sQ k fa fd [x] sp) (R:∀(s:Shared) (u:Value),BindsTo s fd ⟨[u],[]⟩ [(x,u)])
  (hsp:∀H:Hp,l9 K H a (Z.map V.int)->sp [.ref a] H (λv _=>v=.bl true) λ_ _ _=>False) :
  codeAny (model P w) callerA (.call (.ref fa) ⟨[.ref a],[]⟩) (λr C=>r=.ok (.ret (.bool true))/\OldK g.heap C.heap/\C.os=g.os/\AllBare C.gens) g:=by
 have rv:=zV hi;have lenV:=hi.length;have tne:∀q∈f,q.2.1≠a:=λq i z=>by have:=(I q i).2.1;rw[z,ha]at this;cases this
 have J:∀H0:Hp,(∀b u,H0 b=some u->b=a/\∃o xs,u=.frz o (.lst xs))->l9 K H0 a (Z.map V.int)->qH P w H0 g.heap->(H0 a≠none->K.lookup a=none)->
   codeAny (model P w) callerA (.call (.ref fa) ⟨[.ref a],[]⟩) (λr C=>r=.ok (.ret (.bool true))/\OldK g.heap C.heap/\C.os=g.os/\AllBare C.gens) g:=by
  intro H0 hO hS hok hK;have cases3:∀b u,vi H0 f b=some u->(∃q∈f,q.2.1=b/\u=.tbl (q.2.2++ ".<locals>.<lambda>") #[])\/(b=a/\H0 b=some u):=λb u h=>by
   rcases OT h with z|⟨_,z⟩
   .exact .inl z
   .exact .inr ⟨(hO b u z).1,z⟩
  have free:∀{b:Addr} {o:Obj},g.heap.get? b=some o->(∀c,o.data≠.seq vs.toArray c)->(o≠tabObj #[])->vi H0 f b=none:=λ{b o} e d t=>by
   cases q:vi H0 f b with
   |none=>rfl
   |some u=>
    rcases cases3 b u q with⟨r,hr,z,_⟩|⟨z,_⟩
    .subst z;rw[(I r hr).2.1]at e;cases e;exact absurd rfl t
    .subst z;rw[ha]at e;cases e;exact absurd rfl (d 0)
  have baseOf:∀{b:Addr} {o:Obj},g.heap.get? b=some o->vi H0 f b=none->(qM g.heap (vi H0 f) (f.map λq=>(q.1,q.2.1))).get? b=some o:=λe n=>JC e n;have D:∀{b:Addr} {m:Str->Option Value},g.heap.Ns b m->(qM g.heap (vi H0 f) (f.map λq=>(q.1,q.2.1))).Ns b m:=λ{b m} ⟨o,es,ep,e,d,r⟩=>⟨o,es,ep,baseOf e (free e (λc z=>by rw[d]at z;cases z) λz=>by rw[z]at d;cases d),d,r⟩;have hKb:K.In (qM g.heap (vi H0 f) (f.map λq=>(q.1,q.2.1))):=λb o e=>baseOf (KX b o e) (by
   cases q:vi H0 f b with
   |none=>rfl
   |some u=>
    rcases cases3 b u q with⟨r,hr,z,_⟩|⟨z,y⟩
    .subst z;rw[(I r hr).2.2.1]at e;cases e
    .subst z;rw[hK (by rw[y];exact λw=>nomatch w)]at e;cases e)
  have hM:Mod K mg (qM g.heap (vi H0 f) (f.map λq=>(q.1,q.2.1))):=⟨hKb,D hns,⟨mb,D B,hbb⟩,let ⟨mc,Y,h2⟩:=hlim;⟨mc,D Y,h2⟩⟩;have crec:∀{c:Addr} {n:Str},g.heap.CodeRec (.ref c) n->(∃P,CodeHd g.heap c P)->(qM g.heap (vi H0 f) (f.map λq=>(q.1,q.2.1))).CodeRec (.ref c) n:=λ{c n} ⟨c',o,fs,t,E,l,X,e4⟩ ⟨P,o',vs',_,_,_,_,_,_,_,f1,f2,_⟩=>by cases E;rw[l]at f1;cases f1;exact⟨c,o,fs,t,rfl,baseOf l (free l (λc z=>by rw[X]at z;cases z) λz=>by rw[z]at f2;cases f2),X,e4⟩
  have A:∀q∈f,CodeHd (qM g.heap (vi H0 f) (f.map λq=>(q.1,q.2.1))) q.1 q.2.1/\(q.1,q.2.1)∈(qM g.heap (vi H0 f) (f.map λq=>(q.1,q.2.1))).life.ids/\(qM g.heap (vi H0 f) (f.map λq=>(q.1,q.2.1))).CodeRec (.ref q.1) q.2.2/\(qM g.heap (vi H0 f) (f.map λq=>(q.1,q.2.1))).BuiltinsAt mg q.2.1:=λq i=>by
   obtain⟨Y,h2,h3,h4,h5⟩:=I q i;refine⟨?_,aE.mpr ⟨q,i,rfl⟩,crec h4 ⟨_,Y⟩,?_⟩
   .obtain⟨o,fs,file,tf,U,tg,inF,text,tt,E,l,X,r⟩:=Y;exact⟨o,fs,file,tf,U,tg,inF,text,tt,baseOf E (free E (λc z=>by rw[X]at z;cases z) λz=>by rw[z]at l;cases l),l,X,r⟩
   .obtain⟨bm,o,b1,b2,b3,b4,b5,b6,b7,b8⟩:=h5;exact⟨bm,o,b1,b2,b3,b4,baseOf b5 (free b5 (λc z=>by rw[b8]at z;cases z) λz=>by rw[z]at b6;cases b6),b6,b7,b8⟩
  have hokT:qH P w (vi H0 f) g.heap:=λb u e=>by
   rcases cases3 b u e with⟨q,i,z,rfl⟩|⟨z,y⟩
   .subst z;exact⟨(I q i).2.1,True.intro,λv hv=>nomatch hv⟩
   .obtain⟨_,o,xs,rfl⟩:=hO b u y;have:=hok b _ y;obtain⟨Y,h2⟩:=this;exact⟨Y,h2⟩
  have tabF:HF (qM g.heap (vi H0 f) (f.map λq=>(q.1,q.2.1))) (vi H0 f):=λc P qn hm hc=>by obtain⟨q,i,e⟩:=aE.mp (show (c,P)∈f.map λq=>(q.1,q.2.1) from hm);cases e;obtain⟨c1,o1,v1,t1,E,l,X,e4⟩:=hc;obtain⟨c2,o2,v2,t2,f1,f2,f3,f4⟩:=(A q i).2.2.1;cases E;cases f1;rw[l]at f2;cases f2;rw[X]at f3;cases f3;rw[e4]at f4;cases f4;exact⟨#[],G9 hnd i⟩
  have e0:yX P w K mg (qM g.heap (vi H0 f) (f.map λq=>(q.1,q.2.1))) callerA [] g (vi H0 f):=⟨rfl,hM,λb o e=>PQ e,bI (Jm _ _),trivial,λb B=>absurd (show b∈([]) from B) (by simp),hokT,.of_eq hg,tabF⟩;have hS':l9 K (vi H0 f) a (Z.map V.int):=by
   rcases hS with (h|⟨o,h⟩)|h
   .exact .inl (.inl (by rw[Kz tne];exact h))
   .exact .inl (.inr ⟨o,by rw[Kz tne];exact h⟩)
   .exact .inr h
  refine codeAny_mono ((F _ hKb (D hns) A).run callerA [] g (vi H0 f) ⟨[.ref a],[]⟩ [.ref a] [.ref a] _ _ hr e0 (R g (.ref a)) (.cons rfl .nil) (hsp _ hS')) λr C h=>?_;cases r with
  |error e=>exact h.elim
  |ok fl=>
   cases fl with
   |next=>exact False.elim h
   |brk=>exact False.elim h
   |cont=>exact False.elim h
   |ret u=>
    obtain⟨v,H',os,bare,un,L,r',q⟩:=h;have q':=q;subst q';obtain rfl:u=Value.bool true:=r';have N:∀b o,g.heap.get? b=some o->(∀q∈f,q.2.1≠b)->C.heap.get? b=some o:=λb o e n=>by
     cases q:vi H0 f b with
     |none=>exact un.keep b o e q (by intro z;exact absurd (show b∈([]) from z) (by simp)) (by simp)
     |some u=>
      rcases cases3 b u q with⟨r,hr,z,_⟩|⟨z,y⟩
      .exact absurd z (n r hr)
      .obtain⟨_,ob,xs,rfl⟩:=hO b u y;have z2:=un.frzs b ob _ q;obtain⟨E,_⟩:=hok b _ y;obtain⟨l,_⟩:=L b _ z2;rw[e]at E;cases E;exact l
    have p:∀q∈f,∃ps,C.heap.get? q.2.1=some (tabObj ps):=λq i=>by obtain⟨more,e⟩:=un.tbls _ _ _ (G9 (H0:=H0) hnd i);exact⟨_,(show jH P w H' C.heap q.2.1 (.tbl _ _) from L _ _ e).1⟩
    refine⟨rfl,⟨λb o e=>?_,λb o e=>?_⟩,os,bare⟩
    .by_cases i:∃q∈f,q.2.1=b
     .obtain⟨q,i,rfl⟩:=i;obtain⟨ps,hp⟩:=p q i;have l:=(I q i).2.1;rw[e]at l;cases l;exact .inr (.inl ⟨((I q i).1.tab (I q i).2.1).isCodeTable,rfl,#[],ps,rfl,by rw[Array.empty_append];exact hp⟩)
     .exact .inl (N b o e λq S z=>i ⟨q,S,z⟩)
    .by_cases i:∃q∈f,q.2.1=b
     .obtain⟨q,i,rfl⟩:=i;obtain⟨ps,hp⟩:=p q i;exact⟨_,hp⟩
     .exact⟨o,N b o e λq S z=>i ⟨q,S,z⟩⟩
 cases hk:K.lookup a with
 |some o=>have e:=KX a o hk;rw[ha]at e;cases e;exact J (λ_=>none) (λb u z=>nomatch z) (.inr ⟨_,vs.toArray,_,hk,rfl,rfl,rfl,by rw[bF,lenV];exact hl,by simpa using rv⟩) (λb u z=>nomatch z) λz=>absurd rfl z
 |none=>
  refine J (λb=>if b=a then some (.frz {cls:=.type "list",data:=.seq vs.toArray} (.lst (Z.map V.int))) else none) (λb u z=>?_) (.inl (.inr ⟨{cls:=.type "list",data:=.seq vs.toArray},aR rfl⟩)) (λb u z=>?_) λ_=>hk
  .by_cases B:b=a
   .have Q:=(aR B).symm.trans z;cases Q;exact⟨B,_,_,rfl⟩
   .have Q:=(aS B).symm.trans z;cases Q
  .by_cases B:b=a
   .have Q:=(aR B).symm.trans z;cases Q;subst B;exact⟨ha,by rw[ax];exact hl,vs,_,rv,ha⟩
   .have Q:=(aS B).symm.trans z;cases Q
theorem JE{l:W.OpenLaw}{n k:Nat}{q:Program}{p:List Str}{XP:(Str->Option Value)->Heap->Prop}{YP:World->Heap->Prop}{d:DefRec}{K:Params->W.Frag}{sp:W.Frag->Sp}{x:Str}(xs:List Str)
  (hn:l.most=some n) (hn2:n<=sizeLine) (hdf:d.params.defaults=[]) (hr:je k callerA)
  (hY:∀(w:World) (h:Heap),YP w h->(K w.params).In h) (hx:∀x∈xs,∃d',(recsOf q).find? (λe=>e.name==x)=some d') (S:∀w:World,yy (K w.params) xs=true)
  (F:∀(w:World) (mg:Str->Option Value) (fa:Addr) (h:Heap),(K w.params).In h->h.Ns mainGlobals mg->mg d.name=some (.ref fa)->
   ∃fd:FuncData,(∀(s:Shared) (u:Value),BindsTo s fd ⟨[u],[]⟩ [(x,u)])/\
    ∀i:Heap,(K w.params).In i->i.Ns mainGlobals mg->(∀y∈xs,HK (K w.params) mg i y)->nQ l.prog w (K w.params) mg i sQ k fa fd [x] (sp (K w.params)))
  (hsp:∀(K:W.Frag) (H:Hp) (a:Addr) (J:LI),J.length<=n->(∀z∈J,PySem.Builtin.Int.intBits z<=2 ^ 20)->l9 K H a (J.map V.int)->sp K [.ref a] H (λv _=>v=.bl true) λ_ _ _=>False) :
  W.WalkO q p XP YP l.row.toRowW d [] (λf vs=>PySem.call f vs):=by
 intro w s₀ s₁ mg mb G Y fa o pm cd doc dV kV ho hd hcd hD hmg hg args vals as hpre Z hrd hwl hlo;obtain rfl:dV=.none:=Dflts.none hD hdf;obtain rfl:kV=.none:=Dflts.noKw hD;obtain⟨a,vs,J,rfl,rfl,U,D,mD⟩:=Att.script_of hn hpre hwl;have hb:∀z∈J,PySem.Builtin.Int.intBits z<=2 ^ 20:=λz hz=>by have R:=(layW_cons Z).1;have L:=layableW_item R (WData.int z) (aE.mpr ⟨z,hz,rfl⟩);exact PyData.bits_of_layable (layable_int L)
 have KX:=hY w _ Y;obtain⟨fd,hbd,hF⟩:=F w mg fa _ KX G.T.g hmg;have S:=S w;unfold yy at S;rw[bU]at S;obtain⟨hk1,B⟩:=S;have B:=of_decide_eq_true B;have one:∀y∈xs,∃c P,tabIn (K w.params) y=some (c,P)/\(K w.params).lookup P=none/\codeIn (K w.params) (.ref c) y=true:=λy j=>by
  have:=cN.mp hk1 y j;split at this
  .rename_i c P e;rw[bU]at this;exact⟨c,P,e,by simpa using this.1,this.2⟩
  .cases this
 obtain⟨bm,ob,b1,b2,Q,b4,b5,b6⟩:=G.T.bmain;have hbG:bm≠mainGlobals:=λz=>by obtain⟨o,es,ep,e,hd,_⟩:=G.T.g;rw[z,e]at Q;cases Q;rw[hd]at b6;cases b6
 have A:∀t∈xs.filterMap (λy=>(tabIn (K w.params) y).map λr=>(r.1,r.2,y)),t.2.2∈xs/\tabIn (K w.params) t.2.2=some (t.1,t.2.1):=λt ht=>by obtain⟨y,j,e⟩:=bC.mp ht;obtain⟨r,m,rfl⟩:=cR.mp e;exact⟨j,m⟩
 have inj:∀{N:List Str},(N.map λx=>(tabIn (K w.params) x).map (·.2)).Nodup->∀y∈N,∀z∈N,(tabIn (K w.params) y).map (·.2)=(tabIn (K w.params) z).map (·.2)->y=z:=λ{N} nd=>by
  induction N with
  |nil=>exact λy j=>nomatch j
  |cons u N ih=>
   rw[bH,bN]at nd;intro y j z hz e;rcases aG.mp j with m|X
   .rcases aG.mp hz with I|E
    .exact m.trans I.symm
    .exact absurd (aE.mpr ⟨z,E,by rw[<-m];exact e.symm⟩) nd.1
   .rcases aG.mp hz with I|E
    .exact absurd (aE.mpr ⟨y,X,by rw[<-I];exact e⟩) nd.1
    .exact ih nd.2 y X z E e
 refine enter_call (codeAny_mono (Jj (xs.filterMap λy=>(tabIn (K w.params) y).map λr=>(r.1,r.2,y)) KX G.T.g G.T.b G.T.builtins G.T.nolimit hg U D (aO mD hn2) hr (λt ht=>?_) (λt ht t' ht' e=>?_) (λi R L h3=>hF i R L λy j=>?_) hbd (λH hS=>hsp _ H a J mD hb hS)) λr s' hq=>?_)
 .obtain⟨j,e⟩:=A t ht;obtain⟨d',hd'⟩:=hx _ j;obtain⟨C,hP⟩:=tab_of G.T KX hd' e;obtain⟨c,P,e',hl,hc⟩:=one _ j;rw[e]at e';obtain⟨t1,t2,t3⟩:=t;cases e';exact⟨C,hP,hl,codeRec_of KX hc,bm,ob,b1,b2,hbG,(λz=>by rw[z,hP]at Q;cases Q;cases b4),Q,b4,b5,b6⟩
 .obtain⟨j,m⟩:=A t ht;obtain⟨hy',I⟩:=A t' ht';have:t.2.2=t'.2.2:=inj B _ j _ hy' (by rw[m,I];simp[e]);rw[this,I]at m;obtain⟨t1,t2,t3⟩:=t;obtain⟨t1',t2',t3'⟩:=t';cases m;cases this;rfl
 .intro f oc od fd' osl hm hlk;obtain⟨c,P,e,hl,hc⟩:=one y j;obtain⟨f1,f2,f3,f4⟩:=h3 (c,P,y) (bC.mpr ⟨y,j,by rw[e];rfl⟩);exact⟨c,P,law_code R L e hm (R _ _ hlk) rfl,f1,f2,f3,f4⟩
 obtain⟨rfl,L,h3,h4⟩:=hq;exact⟨.inl ⟨.bool true,.bool true,[],rfl,λ_=>rfl,.bool true,Att.post_true l _,λ_=>⟨List.Pairwise.nil,λ_ hm=>(nomatch hm)⟩⟩,L,h3,h4⟩
end L2
namespace L3
open PySem L2
inductive T where
 |non|bl (b:Bool)|int (i:Int)|str (x:Str)
 |tup (ts:List T)|lst (ts:List T)|scr (ns:LI)
 |obj (C:Addr) (fs:List (Str×T))|emp
 |dic (kvs:List (LI×T))
inductive M(α:Type) where
 |bad|ok (a:α)|er (C:Addr) (n:Option Int)
namespace M
noncomputable def bind{c b:Type}(m:M c)(k:c->M b):M b:=match m with
 |.bad=>.bad
 |.ok a=>k a
 |.er C n=>.er C n
instance:Monad M where
 pure:=.ok
 bind:=M.bind
noncomputable def res{b:Type}(m:M b)(P:b->Prop)(E:Addr->Option Int->Prop):Prop:=match m with
 |.bad=>False
 |.ok a=>P a
 |.er C n=>E C n
def res.unb{m:M α}{k:α->M β}{P:β->Prop}(h:res (m.bind k) P E):res m (λa=>res (k a) P E) E:=by cases m<;>exact h
def res.mono{m:M α}{P b:α->Prop}(h:res m P E)(d:∀a,P a->b a)(c:∀C n,E C n->E' C n):res m b E':=by
 cases m with
 |bad=>exact h
 |ok a=>exact d a h
 |er C n=>exact c C n h
noncomputable def noEr{a:Type}(m:M a):M a:=match m with
 |.er _ _=>.bad
 |m=>m
def res.noEr{m:M α}{P:α->Prop}(h:res m.noEr P E):res m P E':=by
 cases m with
 |bad=>exact h
 |ok a=>exact h
 |er C n=>exact h.elim
@[simp] theorem bind_ok a (k:α->M β):M.bind (.ok a) k=k a:=rfl
@[simp] theorem Uq(k:α->M β):M.bind (.bad:M α) k=.bad:=rfl
@[simp] theorem Wa C n (k:α->M β):M.bind (.er C n:M α) k=.er C n:=rfl
noncomputable def NoE{a:Type}(m:M a):Prop:=∀C n,m≠.er C n
def res.ne{m:M α}{P:α->Prop}(h:res m P E)(ne:NoE m):res m P E':=by
 cases m with
 |bad=>exact h
 |ok a=>exact h
 |er C n=>exact absurd rfl (ne C n)
@[simp] theorem noEr_ok(a:α):noEr (.ok a)=.ok a:=rfl
end M
mutual
inductive lA(K:W.Frag)(F:Hp):V->T->Prop
 |non:lA K F .non .non
 |bl (b:Bool):lA K F (.bl b) (.bl b)
 |int (i:Int):lA K F (.int i) (.int i)
 |str (x:Str):lA K F (.str x) (.str x)
 |tup {a:Addr} {xs:List V} {ts:List T} (h:F a=some (.tup xs)) (r:iy K F xs ts):lA K F (.ref a) (.tup ts)
 |lst {a:Addr} {xs:List V} {ts:List T} (h:F a=some (.lst xs)) (r:iy K F xs ts):lA K F (.ref a) (.lst ts)
 |scr {a:Addr} {ns:LI} (h:l9 K F a (ns.map V.int)):lA K F (.ref a) (.scr ns)
 |obj {a C dx:Addr} {fs:List (Str×V)} {ts:List (Str×T)} (h:F a=some (.ins C dx fs)) (r:pQ K F fs ts):lA K F (.ref a) (.obj C ts)
 |emp {a:Addr} (h:F a=some (.dK [])):lA K F (.ref a) .emp
 |dic {a:Addr} {xs:List (List nC×V)} {kvs:List (LI×T)} (h:F a=some (.dT xs)) (r:oM K F xs kvs):lA K F (.ref a) (.dic kvs)
inductive iy(K:W.Frag)(F:Hp):List V->List T->Prop
 |nil:iy K F [] []
 |cons {v:V} {t:T} {vs:List V} {ts:List T} (h:lA K F v t) (r:iy K F vs ts):iy K F (v::vs) (t::ts)
inductive pQ(K:W.Frag)(F:Hp):List (Str×V)->List (Str×T)->Prop
 |nil:pQ K F [] []
 |cons {x:Str} {v:V} {t:T} {vs:List (Str×V)} {ts:List (Str×T)} (h:lA K F v t) (r:pQ K F vs ts):pQ K F ((x,v)::vs) ((x,t)::ts)
inductive oM(K:W.Frag)(F:Hp):List (List nC×V)->List (LI×T)->Prop
 |nil:oM K F [] []
 |cons {k:LI} {v:V} {t:T} {vs:List (List nC×V)} {ts:List (LI×T)} (h:lA K F v t) (r:oM K F vs ts):oM K F ((k.map Sum.inl,v)::vs) ((k,t)::ts)
end
section
variable {K:W.Frag}{F F':Hp}
mutual
theorem lA.mono(s:ij F F'):∀{v} {t},lA K F v t->lA K F' v t
 |_,_,.non=>.non
 |_,_,.bl b=>.bl b
 |_,_,.int i=>.int i
 |_,_,.str x=>.str x
 |_,_,.tup h r=>.tup (s _ _ h) (iy.mono s r)
 |_,_,.lst h r=>.lst (s _ _ h) (iy.mono s r)
 |_,_,.scr h=>.scr (s.seq h)
 |_,_,.obj h r=>.obj (s _ _ h) (pQ.mono s r)
 |_,_,.emp h=>.emp (s _ _ h)
 |_,_,.dic h r=>.dic (s _ _ h) (oM.mono s r)
theorem iy.mono(s:ij F F'):∀{vs} {ts},iy K F vs ts->iy K F' vs ts
 |_,_,.nil=>.nil
 |_,_,.cons h r=>.cons (lA.mono s h) (iy.mono s r)
theorem pQ.mono(s:ij F F'):∀{vs} {ts},pQ K F vs ts->pQ K F' vs ts
 |_,_,.nil=>.nil
 |_,_,.cons h r=>.cons (lA.mono s h) (pQ.mono s r)
theorem oM.mono(s:ij F F'):∀{vs} {ts},oM K F vs ts->oM K F' vs ts
 |_,_,.nil=>.nil
 |_,_,.cons h r=>.cons (lA.mono s h) (oM.mono s r)
end
theorem iy.length:∀{vs} {ts},iy K F vs ts->vs.length=ts.length
 |_,_,.nil=>rfl
 |_,_,.cons _ r=>by rw[aA,aA,iy.length r]
theorem iy.get:∀{vs:List V} {ts:List T} {i:Nat} {t:T},iy K F vs ts->ts[i]? = some t->∃v,vs[i]? = some v/\lA K F v t
 |_,_,_,_,.nil,e=>by simp at e
 |_,_,0,_,.cons h _,e=>by simp at e;subst e;exact⟨_,rfl,h⟩
 |_,_,i+1,_,.cons _ r,e=>by obtain⟨v,a,h⟩:=iy.get r (by simpa using e);exact⟨v,by simpa using a,h⟩
def iy.at_{i:Nat}(r:iy K F vs ts)(e:vs[i]? = some v):∃t,ts[i]? = some t/\lA K F v t:=by
 have b:i<ts.length:=by rw[<-r.length];exact (aa.mp e).1
 obtain⟨c,a,h⟩:=r.get (ag b);rw[e]at a;cases a;exact⟨_,ag b,h⟩
theorem iy.append:∀{vs us} {ts ss},iy K F vs ts->iy K F us ss->iy K F (vs++us) (ts++ss)
 |_,_,_,_,.nil,q=>q
 |_,_,_,_,.cons h r,q=>.cons h (iy.append r q)
theorem iy.set(q:lA K F v t):∀{vs} {ts} i,iy K F vs ts->iy K F (vs.set i v) (ts.set i t)
 |_,_,_,.nil=>.nil
 |_,_,0,.cons _ r=>.cons q r
 |_,_,i+1,.cons h r=>.cons h (iy.set q i r)
theorem iy.take:∀{vs} {ts} n,iy K F vs ts->iy K F (vs.take n) (ts.take n)
 |_,_,0,_=>.nil
 |_,_,_+1,.nil=>.nil
 |_,_,n+1,.cons h r=>.cons h (iy.take n r)
theorem iy.drop:∀{vs} {ts} n,iy K F vs ts->iy K F (vs.drop n) (ts.drop n)
 |_,_,0,r=>r
 |_,_,_+1,.nil=>.nil
 |_,_,n+1,.cons _ r=>iy.drop n r
theorem iy.rep:∀{vs} {ts} n,iy K F vs ts->iy K F (List.replicate n vs).flatten (List.replicate n ts).flatten
 |_,_,0,_=>.nil
 |_,_,n+1,r=>by rw[bY,bY,bZ,bZ];exact r.append (iy.rep n r)
theorem iy.ints:∀{vs:List V} {a:LI},iy K F vs (a.map T.int)->vs=a.map V.int
 |_,[],.nil=>rfl
 |_,_::_,.cons h r=>by cases h;rw[iy.ints r];rfl
theorem iy.bls:∀{vs:List V} {a:List Bool},iy K F vs (a.map T.bl)->vs=a.map V.bl
 |_,[],.nil=>rfl
 |_,_::_,.cons h r=>by cases h;rw[iy.bls r];rfl
theorem iy.of_ints:∀(a:LI),iy K F (a.map V.int) (a.map T.int)
 |[]=>.nil
 |n::a=>.cons (.int n) (iy.of_ints a)
theorem pQ.look:∀{fs} {ts},pQ K F fs ts->ts.lookup f=some t->∃v,fs.lookup f=some v/\lA K F v t
 |_,_,.nil,e=>by cases e
 |_,_,.cons (x:=x) h r,e=>by
  by_cases b:f=x
  .subst b;rw[dB]at e;cases e;exact⟨_,dB,h⟩
  .have a:(f==x)=false:=by simpa using b
   rw[cA,a]at e;obtain⟨v,d,c⟩:=pQ.look r e;exact⟨v,by rw[cA,a];exact d,c⟩
theorem pQ.none_:∀{fs} {ts},pQ K F fs ts->ts.lookup f=none->fs.lookup f=none
 |_,_,.nil,e=>rfl
 |_,_,.cons (x:=x) h r,e=>by
  by_cases a:f=x
  .subst a;rw[dB]at e;cases e
  .have b:(f==x)=false:=by simpa using a
   rw[cA,b]at e ⊢;exact pQ.none_ r e
end
def Ab(h:Jw o (some u))(b:∀q a,u≠.tbl q a):o=u:=by
 cases o with
 |tbl q a=>obtain⟨m,e⟩:=h;exact absurd (Option.some.inj e) (b _ _)
 |_=>exact (Option.some.inj h).symm
def Ro{x y:Option HO}(h:Jw o x)(k:∀a,x=some a->Jw a y):Jw o y:=by
 cases o with
 |tbl q ps=>obtain⟨m,e⟩:=h;obtain⟨c,b⟩:=k _ e;exact⟨m++c,by rw[b,bz]⟩
 |_=>exact k _ h
def zg{H:Hp}(h:Jw u (H b))(h':H p=none):b≠p:=λz=>h.ne (by rw[z];exact h')
structure Gr(F H F' H':Hp):Prop where
 ff:ij F F'
 fh:ij F' H'
 hh:ij H H'
 nw:∀a,F' a≠none->F a≠none\/H a=none\/∃xs,H a=some (.tup xs)
def Gr.refl(h:ij F H):Gr F H F H:=⟨.refl _,h,.refl _,λ_ h=>.inl h⟩
def iC(h:ij H H')(e:H' a=none):H a=none:=by
 cases q:H a with
 |none=>rfl
 |some o=>exact absurd e (h a o q).ne
def Gr.trans(g:Gr F H F' H')(b:Gr F' H' F'' H''):Gr F H F'' H'':=
 ⟨g.ff.trans b.ff,b.fh,g.hh.trans b.hh,λa d=>by
  rcases b.nw a d with q|q|⟨c,q⟩
  .exact g.nw a q
  .exact .inr (.inl (iC g.hh q))
  .cases z:H a with
   |none=>exact .inr (.inl rfl)
   |some o=>exact .inr (.inr ⟨c,by have k:=g.hh a o z;rw[q]at k;rw[Ab k λ_ _ y=>nomatch y]⟩)⟩
def Gr.new(s:ij F H)(h:H p=none):Gr F H (i6 F p o) (i6 H p o):=by
 have c:=iC s h;refine⟨λb u e=>?_,λb u e=>?_,λb u e=>?_,λb a=>?_⟩
 .rw[hV (ip e c)];exact .of e
 .by_cases q:b=p
  .subst q;rw[g9]at e ⊢;exact .of e
  .rw[hV q]at e ⊢;exact s b u e
 .rw[hV (ip e h)];exact .of e
 .by_cases q:b=p
  .subst q;exact .inr (.inl h)
  .rw[hV q]at a;exact .inl a
def Gr.new'(s:ij F H)(h:H p=none):Gr F H F (i6 H p o):=by
 refine⟨.refl _,λb u e=>?_,λb u e=>?_,λb a=>.inl a⟩
 .rw[hV (zg (s b u e) h)];exact s b u e
 .rw[hV (ip e h)];exact .of e
def Gr.take(g:Gr F0 H0 F H)(h:H p=some o)(d:F p=none)(c:H0 p=none):Gr F0 H0 (i6 F p o) H:=by
 refine⟨λb u e=>?_,λb u e=>?_,g.hh,λb a=>?_⟩
 .rw[hV (zg (g.ff b u e) d)];exact g.ff b u e
 .by_cases q:b=p
  .subst q;rw[g9]at e;cases e;exact .of h
  .rw[hV q]at e;exact g.fh b u e
 .by_cases q:b=p
  .subst q;exact .inr (.inl c)
  .rw[hV q]at a;exact g.nw b a
def jB(a:F p=none):ij F (i6 F p o):=λb u e=>by rw[hV (ip e a)];exact .of e
abbrev Pe:=List (Option T)
section
variable (K:W.Frag)
def l7(F:Hp)(a:St)(ρ:Pe):Prop:=∀(i:Nat) (t:T),ρ[i]? = some (some t)->∃v,a[i]? = some (some v)/\lA K F v t
def l7.mono{K:W.Frag}(h:l7 K F σ ρ)(s:ij F F'):l7 K F' σ ρ:=λi t e=>let ⟨v,a,b⟩:=h i t e;⟨v,a,b.mono s⟩
def Xj(E:XK)(C:Addr)(n:Option Int)(F H:Hp):Prop:=match n with
 |none=>E (.ref C) none H
 |some i=>∀a,F a=some (.xd [("at",.int i)])->E (.ref C) (some a) H
def kE(E:XK)(F H:Hp)(C:Addr)(n:Option Int):Prop:=∀a b,Gr F H a b->Xj E C n a b
def kE.go(h:kE E F H C n)(g:Gr F H F1 H1):kE E F1 H1 C n:=λb c a=>h b c (g.trans a)
def kV(F H:Hp)(Q:VK)(t:T):Prop:=∀v a b,Gr F H a b->lA K a v t->Q v b
def kB(F H:Hp)(Q:Bool->Hp->Prop)(b:Bool):Prop:=∀c a,Gr F H c a->Q b a
def kA(F H:Hp)(Q:List V->Hp->Prop)(ts:List T):Prop:=∀c a b,Gr F H a b->iy K a c ts->Q c b
def kF(F H:Hp)(Q:VK)(ts:List T):Prop:=∀l c a b,Gr F H a b->H l=none->a l=none->b l=some (.lst c)->iy K a c ts->Q (.ref l) b
noncomputable def ME(E:XK)(t:TE)(f:Pe->M T):Prop:=∀F H b a Q,ij F H->l7 K F b a->(f a).res (kV K F H Q) (kE E F H)->t b H Q
noncomputable def MT(E:XK)(t:TT)(f:Pe->M Bool):Prop:=∀F H b a Q,ij F H->l7 K F b a->(f a).res (kB F H Q) (kE E F H)->t b H Q
noncomputable def MA(E:XK)(t:TA)(f:Pe->M (List T)):Prop:=∀F H b a Q,ij F H->l7 K F b a->(f a).res (kA K F H Q) (kE E F H)->t b H Q
noncomputable def MF(E:XK)(t:TE)(f:Pe->M (List T)):Prop:=∀F H b a Q,ij F H->l7 K F b a->(f a).res (kF K F H Q) (kE E F H)->t b H Q
end
section
variable {K:W.Frag}{E:XK}{t u ta tb:TE}{f g fa fb:Pe->M T}
def kV.go{t:T}(h:kV K F H Q t)(g:Gr F H F1 H1):kV K F1 H1 Q t:=λv b c a r=>h v b c (g.trans a) r
def kB.go{t:Bool}(h:kB F H Q t)(g:Gr F H F1 H1):kB F1 H1 Q t:=λb c a=>h b c (g.trans a)
def kF.go{t:List T}(h:kF K F H Q t)(g:Gr F H F1 H1):kF K F1 H1 Q t:=λl k i j e a b c d=>h l k i j (g.trans e) (iC g.hh a) b c d
def kV.now{t:T}(h:kV K F H Q t)(s:ij F H)(r:lA K F v t):Q v H:=h v F H (.refl s) r
def kF.of(h:kV K F H Q (.lst ts)):kF K F H Q ts:=λl e c d g i b a r=>h (.ref l) (i6 c l (.lst e)) d (g.take a b i) (.lst g9 (r.mono (jB b)))
def MF.me{f:Pe->M (List T)}(h:MF K E t f):ME K E t (λρ=>(f ρ).bind λts=>.ok (.lst ts)):=λF H a ρ Q s V r=>h F H a ρ Q s V ((M.res.unb r).mono (λts q=>kF.of q) λ_ _ z=>z)
def ME.run{k:T->M α}{P:α->Prop}(h:ME K E t f)(s:ij F H)(v:l7 K F σ ρ)(r:((f ρ).bind k).res P (kE E F H))
  (d:∀x w a b,Gr F H a b->lA K a w x->(k x).res P (kE E a b)->Q w b):t σ H Q:=
 h F H σ ρ Q s v ((M.res.unb r).mono (λx q w a b g c=>d x w a b g c (q.mono (λ_ z=>z) λ_ _ z=>z.go g)) λ_ _ z=>z)
def MT.run{t:TT}{f:Pe->M Bool}{k:Bool->M α}{P:α->Prop}(h:MT K E t f)(s:ij F H)(v:l7 K F σ ρ)(r:((f ρ).bind k).res P (kE E F H))
  (c:∀x b a,Gr F H b a->(k x).res P (kE E b a)->Q x a):t σ H Q:=
 h F H σ ρ Q s v ((M.res.unb r).mono (λx q b a g=>c x b a g (q.mono (λ_ z=>z) λ_ _ z=>z.go g)) λ_ _ z=>z)
def MA.run{t:TA}{f:Pe->M (List T)}{k:List T->M α}{P:α->Prop}(h:MA K E t f)(s:ij F H)(v:l7 K F σ ρ)(r:((f ρ).bind k).res P (kE E F H))
  (d:∀x w a b,Gr F H a b->iy K a w x->(k x).res P (kE E a b)->Q w b):t σ H Q:=
 h F H σ ρ Q s v ((M.res.unb r).mono (λx q w a b g c=>d x w a b g c (q.mono (λ_ z=>z) λ_ _ z=>z.go g)) λ_ _ z=>z)
@[simp] noncomputable def gP(i:Nat):Pe->M T:=λa=>match a[i]? with
 |some (some t)=>.ok t
 |_=>.bad
def RM:ME K E (m7 i) (gP i):=λF H c b Q s V r=>by
 unfold gP at r;split at r
 .rename_i t e;obtain⟨v,a,h⟩:=V i t e;exact⟨v,a,r.now s h⟩
 .exact r.elim
@[simp] noncomputable def cM(t:T):Pe->M T:=λ_=>.ok t
def P2{t:T}(h:∀F,lA K F v t):ME K E (tC v) (cM t):=λF H b a Q s V r=>kV.now r s (h F)
@[simp] noncomputable def ik(o:T->T->M T)(fa fb:Pe->M T):Pe->M T:=λa=>(fa a).bind λx=>(fb a).bind λy=>o x y
structure MR(K:W.Frag)(r:R2)(o:T->T->M T):Prop where
 ne:∀x y,M.NoE (o x y)
 ok:∀F H v w x y Q,ij F H->lA K F v x->lA K F w y->(o x y).res (kV K F H Q) (λ_ _=>False)->r v w H Q
def Gs(hr:MR K r o)(l:ME K E ta fa)(i:ME K E tb fb):ME K E (wN r ta tb) (ik o fa fb):=λF H n m Q s V q=>by refine l.run s V q λx v A p a c k=>?_;refine i.run a.fh (V.mono a.ff) k λy w e h b d j=>?_;exact hr.ok e h v w x y Q b.fh (c.mono b.ff) d ((j.ne (hr.ne x y)).mono (λ_ z=>z.go (a.trans b)) λ_ _ z=>z)
noncomputable def mv(C:Int->Int->Bool)(g:Int->Int->T):T->T->M T
 |.int i,.int j=>if C i j then .ok (g i j) else .bad
 |_,_=>.bad
def Du{g:Int->Int->T} x y:M.NoE (mv C g x y):=λa n=>by
 unfold mv;split
 .split<;>exact λz=>nomatch z
 .exact λz=>nomatch z
def lA.int_inv(h:lA K F v (.int i)):v=.int i:=by cases h;rfl
def lA.lst_inv(h:lA K F v (.lst ts)):∃a xs,v=.ref a/\F a=some (.lst xs)/\iy K F xs ts:=by cases h;exact⟨_,_,rfl,‹_›,‹_›⟩
def lA.tup_inv(h:lA K F v (.tup ts)):∃a xs,v=.ref a/\F a=some (.tup xs)/\iy K F xs ts:=by cases h;exact⟨_,_,rfl,‹_›,‹_›⟩
def iy.two(h:iy K F vs [.int i,.int j]):vs=[.int i,.int j]:=by
 cases h with
 |cons h t=>
  cases t with
  |cons h2 t=>cases t;rw[h.int_inv,h2.int_inv]
def Cc{g:Int->Int->V}(d:∀i j,Cb i j=true->C i j)(c:∀F i j,lA K F (g i j) (gt i j)):MR K (rI C g) (mv Cb gt):=⟨Du,λF H v w x y Q s a b q=>by
 unfold mv at q;split at q
 .rename_i i j;rw[a.int_inv,b.int_inv];by_cases h:Cb i j=true
  .rw[aR h]at q;exact⟨i,j,rfl,rfl,d i j h,kV.now q s (c F i j)⟩
  .rw[aS h]at q;exact q.elim
 .exact q.elim⟩
def uW{g:Int->Int->V}(c:∀F i j,lA K F (g i j) (gt i j)):MR K (Ge g) (mv (λ_ _=>true) gt):=⟨Du,λF H v w x y Q s a b q=>by
 unfold mv at q;split at q
 .rw[a.int_inv,b.int_inv];exact⟨_,_,rfl,rfl,kV.now q s (c F _ _)⟩
 .exact q.elim⟩
@[simp] noncomputable def rW(o:Int->T)(fa:Pe->M T):Pe->M T:=λa=>(fa a).bind λx=>match x with
 |.int i=>.ok (o i)
 |_=>.bad
def Vm{g:Int->V}(j:∀F i,lA K F (g i) (gt i))(e:ME K E ta fa):ME K E (Wg (rU g) ta) (rW gt fa):=λF H l k Q s V q=>by
 refine e.run s V q λx v b h d c a=>?_;cases c<;>first
  |exact a.elim
  |exact⟨_,rfl,a _ b h d (j b _)⟩
@[simp] noncomputable def jL(fa:Pe->M T):Pe->M Bool:=λa=>(fa a).bind λx=>match x with
 |.bl b=>.ok b
 |_=>.bad
def NW(b:ME K E ta fa):MT K E (tB ta) (jL fa):=λF H j i Q s V q=>by
 refine b.run s V q λx v e c d h a=>?_;cases h<;>first
  |exact a.elim
  |exact⟨_,rfl,a e c d⟩
def Pj(a:ME K E ta fa):MT K E (AO ta) (jL fa):=NW a
section
variable {c d:TT}{fc fd:Pe->M Bool}
@[simp] noncomputable def zE(fc fd:Pe->M Bool):Pe->M Bool:=λa=>(fc a).bind λb=>if b then fd a else .ok false
@[simp] noncomputable def Jd(fc fd:Pe->M Bool):Pe->M Bool:=λa=>(fc a).bind λb=>if b then .ok true else fd a
@[simp] noncomputable def qC(fc:Pe->M Bool):Pe->M Bool:=λa=>(fc a).bind λb=>.ok (!b)
def SV(l:MT K E c fc)(j:MT K E d fd):MT K E (Td c d) (zE fc fd):=λF H m k Q s V q=>by
 refine l.run s V q λb h e a i=>?_;cases b with
 |true=>rw[aR rfl];exact j h e m k Q a.fh (V.mono a.ff) (i.mono (λ_ z=>z.go a) λ_ _ z=>z)
 |false=>rw[aS aI];exact i h e a
def UY(l:MT K E c fc)(j:MT K E d fd):MT K E (WI c d) (Jd fc fd):=λF H m k Q s V q=>by
 refine l.run s V q λb h e a i=>?_;cases b with
 |true=>rw[aR rfl];exact i h e a
 |false=>rw[aS aI];exact j h e m k Q a.fh (V.mono a.ff) (i.mono (λ_ z=>z.go a) λ_ _ z=>z)
def RS(i:MT K E c fc):MT K E (S3 c) (qC fc):=λF H l k Q s V q=>by refine i.run s V q λb h a e j=>?_;exact j h a e
end
@[simp] noncomputable def zM(fa fb:Pe->M T):Pe->M T:=λa=>(jL fa a).bind λb=>if b then fb a else .ok (.bl false)
@[simp] noncomputable def Cg(fa:Pe->M T):Pe->M T:=λa=>(jL fa a).bind λb=>.ok (.bl (!b))
def Pc(h:ME K E ta fa)(i:ME K E tb fb):ME K E (L9 ta tb) (zM fa fb):=λF H k j Q s V q=>by
 refine (NW h).run s V q λb d c a e=>?_;cases b with
 |true=>rw[aR rfl];exact i d c k j Q a.fh (V.mono a.ff) (e.mono (λ_ z=>z.go a) λ_ _ z=>z)
 |false=>rw[aS aI];exact e _ d c a (.bl _)
def Pk(a:ME K E ta fa):ME K E (Lq ta) (Cg fa):=λF H j i Q s V q=>by refine (NW a).run s V q λb e c d h=>?_;exact h _ e c d (.bl _)
@[simp] noncomputable def gO(fa:Pe->M T)(c:Pe->M (List T)):Pe->M (List T):=λa=>(fa a).bind λx=>(c a).bind λb=>.ok (x::b)
@[simp] noncomputable def gR:Pe->M (List T):=λ_=>.ok []
def Fo:MA K E v7 gR:=λF H b a Q s V q=>q [] F H (.refl s) .nil
def ON{c:TA}{b:Pe->M (List T)}(n:ME K E ta fa)(hr:MA K E c b):MA K E (rG ta c) (gO fa b):=λF H p o Q s V q=>by refine n.run s V q λx v y w a e k=>?_;refine hr.run a.fh (V.mono a.ff) k λr m i j d h l=>?_;exact l (v::m) i j (a.trans d) (.cons (e.mono d.ff) h)
@[simp] noncomputable def DX(ts:List T):M (List T):=if ts.length<=sizeLine then .ok ts else .bad
@[simp] noncomputable def mC(c:Pe->M (List T)):Pe->M T:=λb=>(c b).bind λa=>(DX a).bind λa=>.ok (.tup a)
@[simp] noncomputable def lstM(b:Pe->M (List T)):Pe->M (List T):=λa=>(b a).bind DX
def Sw{i:TA}{e:Pe->M (List T)}(hr:MA K E i e):ME K E (RT i) (mC e):=λF H l k Q s V q=>by
 refine hr.run s V q λj m o n b c a=>?_;unfold DX at a;by_cases h:j.length<=sizeLine
 .rw[aR h]at a;refine⟨by rw[c.length];exact h,λp d=>?_⟩;exact a (.ref p) _ _ (b.trans (.new b.fh d)) (.tup g9 (c.mono (Gr.new b.fh d).ff))
 .rw[aS h]at a;exact a.elim
def Tt{i:TA}{e:Pe->M (List T)}(hr:MA K E i e):MF K E (SR i) (lstM e):=λF H n m Q s V q=>by
 refine hr.run s V q λk j l o b d a=>?_;unfold DX at a;by_cases h:k.length<=sizeLine
 .rw[aR h]at a;refine⟨by rw[d.length];exact h,λp c=>?_⟩;exact a p j l _ (b.trans (.new' b.fh c)) (iC b.hh c) (iC b.fh c) g9 d
 .rw[aS h]at a;exact a.elim
end
end L3
namespace L3
open PySem L2
inductive W where
 |p (t:T)|o (ts:List T)|d (kvs:List (LI×T))
abbrev En:=List (Option W)
@[simp] def WA:Option W->Option T
 |some (.p t)=>some t
 |_=>none
@[simp] def WR:Option W->Option T
 |some (.p t)=>some t
 |some (.o ts)=>some (.lst ts)
 |_=>none
@[simp] noncomputable def lF(ρ:En):Pe:=ρ.map WA
@[simp] noncomputable def vw(ρ:En):Pe:=ρ.map WR
mutual
@[simp] noncomputable def lf:T->Bool
 |.lst _=>false
 |.scr _=>false
 |.dic _=>false
 |.tup ts=>HQ ts
 |.obj _ fs=>VS fs
 |_=>true
@[simp] noncomputable def HQ:List T->Bool
 |[]=>true
 |t::ts=>lf t&&HQ ts
noncomputable def VS:List (Str×T)->Bool
 |[]=>true
 |t::ts=>lf t.2&&VS ts
end
structure Fz where
 hp:Hp
 lt:List (Nat×Addr×List V)
instance:Coe Fz Hp:=⟨Fz.hp⟩
structure Lv(H0 F H:Hp)(σ:St)(ρ:En)(e:Nat×Addr×List V):Prop where
 h:H e.2.1=some (.lst e.2.2)
 f:F e.2.1=none
 z:H0 e.2.1=none
 d:∀(i:Nat) (ts:List T),ρ[i]? = some (some (.o ts))->σ[i]?≠some (some (.ref e.2.1))
def DR(K:W.Frag)(F:Hp)(xs:List (List nC×V))(kvs:List (LI×T)):Prop:=Paired (λ(p:List nC×V) (q:LI×T)=>p.1=q.1.map Sum.inl/\lA K F p.2 q.2) xs kvs
def DR.mono(s:ij F F')(h:DR K F xs kvs):DR K F' xs kvs:=Paired.imp' (λ_ _ q=>⟨q.1,q.2.mono s⟩) h
structure Dv(K:W.Frag)(H0 F H:Hp)(σ:St)(ρ:En):Prop where
 at_:∀(i:Nat) kvs,ρ[i]? = some (some (.d kvs))->∃a,σ[i]? = some (some (.ref a))/\F a=none/\H0 a=none/\∃xs,H a=some (.dT xs)/\DR K F xs kvs
 dj:∀(i j:Nat) kvs kvs',ρ[i]? = some (some (.d kvs))->ρ[j]? = some (some (.d kvs'))->i≠j->σ[i]?≠σ[j]?
def HP{a:Type}{l:List a}{x y:a}(h:(l.set i x)[i]? = some y):y=x:=by
 rw[List.getElem?_set]at h;simp only[if_true]at h;split at h
 .exact (Option.some.inj h).symm
 .cases h
def IU{a:Type}{l:List a}{x y:a}(h:(l.set i x)[j]? = some y):(j=i/\y=x)\/(j≠i/\l[j]? = some y):=by
 by_cases e:j=i
 .subst e;exact .inl ⟨rfl,HP h⟩
 .rw[aq (λz=>e z.symm)]at h;exact .inr ⟨e,h⟩
def Dv.heap(d:Dv K H0 F H σ ρ)(s:ij F F')(h:∀a xs,H a=some (.dT xs)->F a=none->F' a=none/\H' a=some (.dT xs)):Dv K H0 F' H' σ ρ:=⟨λi b e=>let ⟨a,e1,e2,e3,xs,e4,e5⟩:=d.at_ i b e;let ⟨h1,h2⟩:=h a xs e4 e2;⟨a,e1,h1,e3,xs,h2,e5.mono s⟩,d.dj⟩
def Dv.set(d:Dv K H0 F H σ ρ)(hw:∀kvs,w≠some (.d kvs)):Dv K H0 F H (σ.set i v) (ρ.set i w):=by
 refine⟨λj kvs e=>?_,λj k kvs b e h g=>?_⟩
 .rcases IU e with⟨rfl,q⟩|⟨f,q⟩
  .exact absurd q.symm (hw kvs)
  .obtain⟨a,l,r⟩:=d.at_ j kvs q;exact⟨a,by rw[aq (λz=>f z.symm)];exact l,r⟩
 .rcases IU e with⟨rfl,q⟩|⟨f,q⟩
  .exact absurd q.symm (hw kvs)
  .rcases IU h with⟨rfl,c⟩|⟨m,c⟩
   .exact absurd c.symm (hw b)
   .rw[aq (λz=>f z.symm),aq (λz=>m z.symm)];exact d.dj j k kvs b q c g
def Dv.setR(d:Dv K H0 F H σ ρ)(hw:∀kvs,w≠some (.d kvs)):Dv K H0 F H σ (ρ.set i w):=by
 refine⟨λj kvs e=>?_,λj k kvs a e g c=>?_⟩
 .rcases IU e with⟨rfl,q⟩|⟨f,q⟩
  .exact absurd q.symm (hw kvs)
  .exact d.at_ j kvs q
 .rcases IU e with⟨rfl,q⟩|⟨f,q⟩
  .exact absurd q.symm (hw kvs)
  .rcases IU g with⟨rfl,b⟩|⟨h,b⟩
   .exact absurd b.symm (hw a)
   .exact d.dj j k kvs a q b c
structure Sr(K:W.Frag)(F0:Fz)(H0 F H:Hp)(σ:St)(ρ:En):Prop where
 gr:Gr F0.hp H0 F H
 len:σ.length=ρ.length
 pv:∀(i:Nat) (t:T),ρ[i]? = some (some (.p t))->∃v,σ[i]? = some (some v)/\lA K F v t
 ov:∃ad:Nat->Addr,(∀(i:Nat) (ts:List T),ρ[i]? = some (some (.o ts))->σ[i]? = some (some (.ref (ad i)))/\F (ad i)=none/\H0 (ad i)=none/\∃vs,H (ad i)=some (.lst vs)/\iy K F vs ts)/\
  ∀(i j:Nat) (ts us:List T),ρ[i]? = some (some (.o ts))->ρ[j]? = some (some (.o us))->i≠j->ad i≠ad j
 lv:∀e∈F0.lt,Lv H0 F H σ ρ e
 sl:∀(j:Nat) (l:Addr) (vs:List V),F0.lt.lookup j=some (l,vs)->ρ[j]? = some none->σ[j]? = some (some (.ref l))
 dv:Dv K H0 F H σ ρ
section
variable {K:W.Frag}{F0:Fz}{H0 F H F' H':Hp}{σ:St}{ρ:En}
def Sr.vars(r:Sr K F0 H0 F H σ ρ):l7 K F σ (lF ρ):=λi t e=>by
 unfold lF at e;rw[aw]at e;cases q:ρ[i]? with
 |none=>rw[q]at e;cases e
 |some w=>
  rw[q]at e;cases w with
  |none=>cases e
  |some w=>
   cases w with
   |p t'=>cases e;exact r.pv i _ q
   |o ts=>cases e
   |d kvs=>cases e
def Sr.grow(r:Sr K F0 H0 F H σ ρ)(g:Gr F H F' H'):Sr K F0 H0 F' H' σ ρ:=by
 obtain⟨j,s,n⟩:=r.ov;refine⟨r.gr.trans g,r.len,λi t e=>?_,⟨j,λi m e=>?_,n⟩,λe o=>?_,r.sl,r.dv.heap g.ff λa x k p=>⟨?_,g.hh _ _ k⟩⟩
 .obtain⟨v,a,b⟩:=r.pv i t e;exact⟨v,a,b.mono g.ff⟩
 .obtain⟨a,b,c,l,d,q⟩:=s i m e;refine⟨a,?_,c,l,g.hh _ _ d,q.mono g.ff⟩;cases z:F' (j i) with
  |none=>rfl
  |some u=>
   rcases g.nw (j i) (by rw[z];exact λw=>nomatch w) with y|y|⟨_,y⟩
   .exact absurd b y
   .rw[d]at y;cases y
   .rw[d]at y;cases y
 .have L:=r.lv e o;refine⟨g.hh _ _ L.h,?_,L.z,L.d⟩;cases z:F' e.2.1 with
  |none=>rfl
  |some u=>
   rcases g.nw e.2.1 (by rw[z];exact λw=>nomatch w) with y|y|⟨_,y⟩
   .exact absurd L.f y
   .rw[L.h]at y;cases y
   .rw[L.h]at y;cases y
 .cases z:F' a with
  |none=>rfl
  |some u=>
   rcases g.nw a (by rw[z];exact λw=>nomatch w) with y|y|⟨_,y⟩
   .exact absurd p y
   .rw[k]at y;cases y
   .rw[k]at y;cases y
theorem Sr.lend(r:Sr K F0 H0 F H σ ρ):∃k,ij F k/\Gr F0.hp H0 k H/\l7 K k σ (vw ρ)/\
  (∀F' H',Gr k H F' H'->∃j,Gr F H j H'/\ij F j/\ij j F'/\(∀a,F' a≠none->j a=none->∃xs,F' a=some (.lst xs))/\(∀a,F' a≠none->j a=none->H a≠none)):=by
 classical
 obtain⟨E,m,J⟩:=r.ov;let f:Addr->Prop:=λa=>∃i h,ρ[i]? = some (some (.o h))/\E i=a;let k:Hp:=λa=>if f a then H a else F a
 have n:ij F k:=λa o e=>by
  have:¬f a:=by rintro⟨i,h,q,rfl⟩;obtain⟨_,b,_⟩:=m i h q;rw[b]at e;cases e
  show Jw o (if f a then H a else F a);rw[aS this];exact .of e
 have I:ij k H:=λa o e=>by
  by_cases q:f a
  .have s:(if f a then H a else F a)=some o:=e;rw[aR q]at s;exact .of s
  .have s:(if f a then H a else F a)=some o:=e;rw[aS q]at s;exact r.gr.fh a o s
 have ow:∀a,f a->k a=H a:=λa q=>aR q;have D:∀a,¬f a->k a=F a:=λa q=>aS q;refine⟨k,n,⟨r.gr.ff.trans n,I,r.gr.hh,λa l=>?_⟩,λi t e=>?_,λF' H' g=>?_⟩
 .by_cases q:f a
  .obtain⟨i,h,e,rfl⟩:=q;exact .inr (.inl (m i h e).2.2.1)
  .rw[D a q]at l;exact r.gr.nw a l
 .unfold vw at e;rw[aw]at e;cases q:ρ[i]? with
  |none=>rw[q]at e;cases e
  |some w=>
   rw[q]at e;cases w with
   |none=>cases e
   |some w=>
    cases w with
    |p t'=>cases e;obtain⟨v,a,b⟩:=r.pv i _ q;exact⟨v,a,b.mono n⟩
    |o h=>cases e;obtain⟨a,b,c,y,d,z⟩:=m i h q;exact⟨_,a,.lst (by rw[ow _ ⟨i,h,q,rfl⟩];exact d) (z.mono n)⟩
    |d kvs=>cases e
 .let j:Hp:=λa=>if f a then none else F' a
  have x:∀a,¬f a->j a=F' a:=λa q=>aS q;have A:∀a,f a->j a=none:=λa q=>aR q;have B:ij F j:=λa o e=>by
   have:¬f a:=by rintro⟨i,h,q,rfl⟩;obtain⟨_,b,_⟩:=m i h q;rw[b]at e;cases e
   rw[x a this];exact (n.trans g.ff) _ _ e
  have C:ij j F':=λa o e=>by
   by_cases q:f a
   .rw[A a q]at e;cases e
   .rw[x a q]at e;exact .of e
  refine⟨j,⟨B,C.trans g.fh,g.hh,λa l=>?_⟩,B,C,λa l u=>?_,λa l u=>?_⟩
  .by_cases q:f a
   .exact absurd (A a q) l
   .rw[x a q]at l;rcases g.nw a l with z|z
    .rw[D a q]at z;exact .inl z
    .exact .inr z
  .by_cases q:f a
   .obtain⟨i,h,e,rfl⟩:=id q;obtain⟨_,_,_,y,d,_⟩:=m i h e;exact⟨y,g.ff _ (.lst y) (by rw[ow _ q];exact d)⟩
   .rw[x a q]at u;exact absurd u l
  .by_cases q:f a
   .obtain⟨i,h,e,rfl⟩:=id q;obtain⟨_,_,_,y,d,_⟩:=m i h e;rw[d];exact λz=>nomatch z
   .rw[x a q]at u;exact absurd u l
mutual
theorem lA.less(c:ij Fb F)(h:∀a,F a≠none->Fb a=none->∃xs,F a=some (.lst xs)):∀{v} {t},lA K F v t->lf t=true->lA K Fb v t
 |_,_,.non,_=>.non
 |_,_,.bl b,_=>.bl b
 |_,_,.int i,_=>.int i
 |_,_,.str x,_=>.str x
 |_,_,.tup (a:=a) e r,l=>by
  refine .tup ?_ (iy.less c h r (by simpa[lf] using l));cases q:Fb a with
  |none=>obtain⟨xs,z⟩:=h a (by rw[e];exact λz=>nomatch z) q;rw[e]at z;cases z
  |some u=>have k:=c a u q;rw[e]at k;rw[Ab k λ_ _ y=>nomatch y]
 |_,_,.lst _ _,l=>by simp[lf]at l
 |_,_,.scr _,l=>by simp[lf]at l
 |_,_,.obj (a:=a) (dx:=dx) e r,l=>by
  refine .obj (dx:=dx) ?_ (pQ.less c h r (by simpa[lf] using l));cases q:Fb a with
  |none=>obtain⟨xs,z⟩:=h a (by rw[e];exact λz=>nomatch z) q;rw[e]at z;cases z
  |some u=>have k:=c a u q;rw[e]at k;rw[Ab k λ_ _ y=>nomatch y]
 |_,_,.dic _ _,l=>by simp[lf]at l
 |_,_,.emp (a:=a) e,l=>by
  refine .emp ?_;cases q:Fb a with
  |none=>obtain⟨xs,z⟩:=h a (by rw[e];exact λz=>nomatch z) q;rw[e]at z;cases z
  |some u=>have k:=c a u q;rw[e]at k;rw[Ab k λ_ _ y=>nomatch y]
theorem iy.less(b:ij Fb F)(h:∀a,F a≠none->Fb a=none->∃xs,F a=some (.lst xs)):∀{vs} {ts},iy K F vs ts->HQ ts=true->iy K Fb vs ts
 |_,_,.nil,_=>.nil
 |_,_,.cons q r,l=>by rw[HQ,bU]at l;exact .cons (lA.less b h q l.1) (iy.less b h r l.2)
theorem pQ.less(b:ij Fb F)(h:∀a,F a≠none->Fb a=none->∃xs,F a=some (.lst xs)):∀{vs} {ts},pQ K F vs ts->VS ts=true->pQ K Fb vs ts
 |_,_,.nil,_=>.nil
 |_,_,.cons q r,l=>by rw[VS,bU]at l;exact .cons (lA.less b h q l.1) (pQ.less b h r l.2)
end
end
end L3
namespace L3
open PySem L2
def kT(K:W.Frag)(F H:Hp)(Q:VK)(ts us:List T):Prop:=∀p l d c a b,Gr F H a b->H l=none->a l=none->H p=none->a p=none->p≠l->b l=some (.lst c)->b p=some (.tup (d++[.ref l]))->iy K a d ts->iy K a c us->Q (.ref p) b
def kT.of(h:kV K F H Q (.tup (ts++[.lst us]))):kT K F H Q ts us:=λp l v k j s g a b c d e f i r q=>by
 have u:=g.take f b a;have o:i6 j l (.lst k) p=none:=by rw[hV e];exact d
 have n:ij j (i6 j l (.lst k)):=jB b;have m:ij (i6 j l (.lst k)) (i6 (i6 j l (.lst k)) p (.tup (v++[.ref l]))):=jB o;exact h (.ref p) _ s (u.take i o c) (.tup g9 ((r.mono (n.trans m)).append (.cons (.lst (m _ _ g9) (q.mono (n.trans m))) .nil)))
inductive O where
 |bad|nx (ρ:En)|rt (t:T)|rf (ts:List T)|rn (ts us:List T)|bk (ρ:En)|ct (ρ:En)|er (C:Addr) (n:Option Int)
section
variable (K:W.Frag)(E:XK)
def kN(d:Fz)(H0 F:Hp)(D:St->Hp->Prop)(ρ:En):Prop:=∀b c a,ij F b->Sr K d H0 b c a ρ->D a c
noncomputable def O.res(o:O)(a:Fz)(H0 F:Hp)(D:tq):Prop:=match o with
 |.bad=>False
 |.nx ρ=>kN K a H0 F D.nx ρ
 |.rt t=>kV K a.hp H0 D.rt t
 |.rf ts=>kF K a.hp H0 D.rt ts
 |.rn ts us=>kT K a.hp H0 D.rt ts us
 |.bk ρ=>kN K a H0 F D.bk ρ
 |.ct ρ=>kN K a H0 F D.ct ρ
 |.er C n=>kE E a.hp H0 C n
noncomputable def MS(t:TS)(g:En->O):Prop:=∀b a F H d c D,Sr K b a F H d c->(g c).res K E b a F D->t D d H
end
section
variable {K:W.Frag}{E:XK}{t u ta tb:TE}{f fa fb:Pe->M T}{F0:Fz}{H0 F H F1 H1:Hp}{σ:St}{ρ:En}{D:tq}
def kN.go(h:kN K F0 H0 F N ρ)(s:ij F F1):kN K F0 H0 F1 N ρ:=λc d a b r=>h c d a (s.trans b) r
def O.res.go{o:O}(h:o.res K E F0 H0 F D)(s:ij F F1):o.res K E F0 H0 F1 D:=by
 cases o with
 |bad=>exact h
 |nx ρ=>exact kN.go h s
 |rt t=>exact h
 |rf ts=>exact h
 |rn ts us=>exact h
 |bk ρ=>exact kN.go h s
 |ct ρ=>exact kN.go h s
 |er C n=>exact h
noncomputable def O.of{b:Type}(m:M b)(k:b->O):O:=match m with
 |.bad=>.bad
 |.ok a=>k a
 |.er C n=>.er C n
@[simp] theorem O.of_ok(a:α) k:O.of (.ok a) k=k a:=rfl
@[simp] theorem O.of_bad k:O.of (.bad:M α) k=.bad:=rfl
@[simp] theorem O.of_er C n k:O.of (.er C n:M α) k=.er C n:=rfl
def O.res_of{m:M α}{k:α->O}(h:(O.of m k).res K E F0 H0 F D):m.res (λa=>(k a).res K E F0 H0 F D) (kE E F0.hp H0):=by cases m<;>exact h
@[simp] noncomputable def iw(a b:En->O):En->O:=λρ=>match a ρ with
 |.nx ρ'=>b ρ'
 |o=>o
def RG{t u:TS}(j:MS K E t a)(i:MS K E u b):MS K E (BO t u) (iw a b):=λF0 H0 F H σ ρ D r q=>by
 refine j F0 H0 F H σ ρ _ r ?_;unfold iw at q;cases e:a ρ with
 |nx ρ'=>rw[e]at q;intro h g c s d;exact i F0 H0 h g c ρ' D d (q.go s)
 |bad=>rw[e]at q;exact q
 |rt t=>rw[e]at q;exact q
 |rf ts=>rw[e]at q;exact q
 |rn ts us=>rw[e]at q;exact q
 |bk ρ=>rw[e]at q;exact q
 |ct ρ=>rw[e]at q;exact q
 |er C n=>rw[e]at q;exact q
@[simp] noncomputable def jx:En->O:=λρ=>.nx ρ
def OI:MS K E AN jx:=λF0 H0 F H σ ρ D r q=>q F H σ (.refl _) r
def Ko:MS K E Fq (λ_=>.bad):=λ_ _ _ _ _ _ _ _ q=>q
def MT.inS(p:MT K E c fc)(r:Sr K F0 H0 F H σ ρ)(q:(O.of (fc (vw ρ)) k).res K E F0 H0 F D)
  (l:∀b e a,ij F e->Sr K F0 H0 e a σ ρ->(k b).res K E F0 H0 e D->Q b a):c σ H Q:=by
 obtain⟨m,s,h,V,d⟩:=r.lend;refine p m H σ (vw ρ) Q h.fh V ((O.res_of q).mono (λb z e a g=>?_) λC n z=>z.go h);obtain⟨o,j,i,_⟩:=d e a g;exact l b o a i (r.grow j) (z.go i)
@[simp] noncomputable def pP(d:Pe->M Bool)(a b:En->O):En->O:=λρ=>.of (d (vw ρ)) λc=>if c then a ρ else b ρ
def U5{t u:TS}(h:MT K E c fc)(i:MS K E t a)(g:MS K E u b):MS K E (Il c t u) (pP fc a b):=λF0 H0 F H σ ρ D r q=>by
 refine h.inS r q λc k j s d e=>?_;cases c with
 |true=>rw[aR rfl];exact i _ _ _ _ _ _ _ d e
 |false=>rw[aS aI];exact g _ _ _ _ _ _ _ d e
@[simp] noncomputable def jw(f:Pe->M T):En->O:=λρ=>.of (f (vw ρ)) λt=>.rt t
def Ta(h:ME K E t f):MS K E (DQ t) (jw f):=λF0 H0 F H σ ρ D r q=>by obtain⟨d,e,a,V,c⟩:=r.lend;exact h d H σ (vw ρ) _ a.fh V ((O.res_of q).mono (λb z=>kV.go z a) λC n z=>z.go a)
@[simp] noncomputable def oJ(f:Pe->M (List T)):En->O:=λρ=>.of (f (vw ρ)) λt=>.rf t
def P6{f:Pe->M (List T)}(h:MF K E t f):MS K E (DQ t) (oJ f):=λF0 H0 F H σ ρ D r q=>by obtain⟨d,e,a,V,c⟩:=r.lend;exact h d H σ (vw ρ) _ a.fh V ((O.res_of q).mono (λb z=>kF.go z a) λC n z=>z.go a)
@[simp] noncomputable def rX(i:Nat):En->O:=λρ=>match ρ[i]? with
 |some (some (.o ts))=>.rf ts
 |_=>.bad
def HU:MS K E (DQ (m7 i)) (rX i):=λF0 H0 F H σ ρ D r q=>by
 unfold rX at q;split at q
 .rename_i h e;obtain⟨j,k,l⟩:=r.ov;obtain⟨a,b,c,g,d,z⟩:=k i h e;exact⟨_,a,q (j i) g F H r.gr c b d z⟩
 .exact q.elim
def uc{a:Type}{l:List a}{x y:a}(h:(l.set i x)[i]? = some y):y=x:=by
 rw[List.getElem?_set]at h;simp only[if_true]at h;split at h
 .exact (Option.some.inj h).symm
 .cases h
def iD{a:Type}{l:List a}{x y:a}(h:(l.set i x)[j]? = some y):(j=i/\y=x)\/(j≠i/\l[j]? = some y):=by
 by_cases e:j=i
 .subst e;exact .inl ⟨rfl,uc h⟩
 .rw[aq (λz=>e z.symm)]at h;exact .inr ⟨e,h⟩
def B5{a:Type}{l:List a}{x:a}(h:i<l.length):(l.set i x)[i]? = some x:=by rw[List.getElem?_set_self h]
def Sr.setP(r:Sr K F0 H0 F H σ ρ)(h:lA K F v x):Sr K F0 H0 F H (σ.set i (some v)) (ρ.set i (some (.p x))):=by
 obtain⟨A,N,I⟩:=r.ov;refine⟨r.gr,by simp[r.len],λj t e=>?_,⟨A,λj m e=>?_,λj k m C e y=>?_⟩,λe J=>?_,λj l s n q=>?_,r.dv.set λ_ z=>nomatch z⟩
 .have B:j<ρ.length:=by simpa using (aa.mp e).1
  rcases iD e with⟨rfl,q⟩|⟨c,q⟩
  .cases q;exact⟨v,B5 (by rw[r.len];exact B),h⟩
  .obtain⟨w,a,b⟩:=r.pv j t q;exact⟨w,by rw[aq (λz=>c z.symm)];exact a,b⟩
 .rcases iD e with⟨rfl,q⟩|⟨c,q⟩
  .cases q
  .obtain⟨a,b⟩:=N j m q;exact⟨by rw[aq (λz=>c z.symm)];exact a,b⟩
 .rcases iD e with⟨rfl,q⟩|⟨c,q⟩
  .cases q
  .rcases iD y with⟨rfl,o⟩|⟨P,o⟩
   .cases o
   .exact I j k m C q o
 .have L:=r.lv e J;refine⟨L.h,L.f,L.z,λj m q=>?_⟩;rcases iD q with⟨rfl,g⟩|⟨c,g⟩
  .cases g
  .rw[aq (λz=>c z.symm)];exact L.d j m g
 .rcases iD q with⟨rfl,g⟩|⟨c,g⟩
  .cases g
  .rw[aq (λz=>c z.symm)];exact r.sl j l s n g
def Sr.setO(r:Sr K F0 H0 F H σ ρ)(g:Gr F H F1 H1)(x:H l=none)(hf:F1 l=none)(hv:H1 l=some (.lst vs))(hr:iy K F1 vs ts) :
  Sr K F0 H0 F1 H1 (σ.set i (some (.ref l))) (ρ.set i (some (.o ts))):=by
 have p:=r.grow g;obtain⟨B,C,_⟩:=r.ov;obtain⟨N,Y,h2⟩:=p.ov;have X:∀j m,ρ[j]? = some (some (.o m))->N j≠l:=λj m e z=>by
  obtain⟨a,_⟩:=Y j m e;obtain⟨Q,_,_,Z,S,_⟩:=C j m e;rw[a]at Q;have:N j=B j:=by simpa using Q
  rw[<-this,z,x]at S;cases S
 refine⟨p.gr,by simp[r.len],λj t e=>?_,⟨λj=>if j=i then l else N j,λj m e=>?_,λj k m R e P v=>?_⟩,λe U=>?_,λj l' I y q=>?_,p.dv.set λ_ z=>nomatch z⟩
 .rcases iD e with⟨rfl,q⟩|⟨c,q⟩
  .cases q
  .obtain⟨w,a,b⟩:=p.pv j t q;exact⟨w,by rw[aq (λz=>c z.symm)];exact a,b⟩
 .have A:j<ρ.length:=by simpa using (aa.mp e).1
  rcases iD e with⟨rfl,q⟩|⟨c,q⟩
  .cases q;dsimp only;rw[aR rfl];exact⟨B5 (by rw[r.len];exact A),hf,iC r.gr.hh x,vs,hv,hr⟩
  .dsimp only;rw[aS c];obtain⟨a,b⟩:=Y j m q;exact⟨by rw[aq (λz=>c z.symm)];exact a,b⟩
 .rcases iD e with⟨rfl,q⟩|⟨c,q⟩
  .rcases iD P with⟨rfl,s⟩|⟨J,s⟩
   .exact absurd rfl v
   .dsimp only;rw[aR rfl,aS J];exact λz=>X k R s z.symm
  .rcases iD P with⟨rfl,s⟩|⟨J,s⟩
   .dsimp only;rw[aS c,aR rfl];exact X j m q
   .dsimp only;rw[aS c,aS J];exact h2 j k m R q s v
 .have L:=p.lv e U;have L0:=r.lv e U;refine⟨L.h,L.f,L.z,λj ts q=>?_⟩;rcases iD q with⟨rfl,n⟩|⟨c,n⟩
  .intro z;have z':=uc z;have:e.2.1=l:=by simpa using z'
   rw[<-this,L0.h]at x;cases x
  .rw[aq (λz=>c z.symm)];exact L.d j ts n
 .rcases iD q with⟨rfl,n⟩|⟨c,n⟩
  .cases n
  .rw[aq (λz=>c z.symm)];exact r.sl j l' I y n
@[simp] noncomputable def kn(f:Pe->M T)(ρ:En):M T:=f (lF ρ)
@[simp] noncomputable def wA(f:Pe->M T)(ρ:En):M T:=(f (vw ρ)).bind λt=>if lf t then .ok t else .bad
def ME.inH(h:ME K E t f)(r:Sr K F0 H0 F H σ ρ)(q:(O.of (kn f ρ) k).res K E F0 H0 F D)
  (d:∀x v a b,Gr F H a b->lA K a v x->Sr K F0 H0 a b σ ρ->(k x).res K E F0 H0 a D->Q v b):t σ H Q:=
 h F H σ (lF ρ) Q r.gr.fh r.vars ((O.res_of q).mono (λx z v a b g c=>d x v a b g c (r.grow g) (z.go g.ff)) λC n z=>z.go r.gr)
def ME.inB(h:ME K E t f)(r:Sr K F0 H0 F H σ ρ)(q:(O.of (wA f ρ) k).res K E F0 H0 F D)
  (p:∀x v b a,Gr F H b a->lA K b v x->Sr K F0 H0 b a σ ρ->(k x).res K E F0 H0 b D->Q v a):t σ H Q:=by
 obtain⟨s,y,j,V,c⟩:=r.lend;refine h s H σ (vw ρ) Q j.fh V ((M.res.unb (O.res_of q)).mono (λx z v b a g m=>?_) λC n z=>z.go j);obtain⟨w,l,o,i,d,_⟩:=c b a g;by_cases e:lf x=true
 .rw[aR e]at z;exact p x v w a l (m.less i d e) (r.grow l) (O.res.go z o)
 .rw[aS e]at z;exact z.elim
@[simp] noncomputable def setO(i:Nat)(f:En->M T):En->O:=λρ=>.of (f ρ) λt=>.nx (ρ.set i (some (.p t)))
def GT(h:ME K E t f):MS K E (pj t (j9 i)) (setO i (kn f)):=λF0 H0 F H σ ρ D r q=>h.inH r q λx v b c g a d e=>e b c _ (.refl _) (d.setP a)
def OX(h:ME K E t f):MS K E (pj t (j9 i)) (setO i (wA f)):=λF0 H0 F H σ ρ D r q=>h.inB r q λx v b c g a d e=>e b c _ (.refl _) (d.setP a)
@[simp] noncomputable def sv(f:Pe->M (List T))(ρ:En):M (List T):=f (lF ρ)
@[simp] noncomputable def yV(f:Pe->M (List T))(ρ:En):M (List T):=(f (vw ρ)).bind λa=>if HQ a then .ok a else .bad
def MF.inH{f:Pe->M (List T)}(h:MF K E t f)(r:Sr K F0 H0 F H σ ρ)(q:(O.of (sv f ρ) k).res K E F0 H0 F D)
  (j:∀ts l vs e i,Gr F H e i->H l=none->e l=none->i l=some (.lst vs)->iy K e vs ts->(k ts).res K E F0 H0 e D->Q (.ref l) i):t σ H Q:=
 h F H σ (lF ρ) Q r.gr.fh r.vars ((O.res_of q).mono (λts z l vs e i g a b c d=>j ts l vs e i g a b c d (z.go g.ff)) λC n z=>z.go r.gr)
def MF.inB{f:Pe->M (List T)}(h:MF K E t f)(r:Sr K F0 H0 F H σ ρ)(q:(O.of (yV f ρ) k).res K E F0 H0 F D)
  (x:∀ts l vs i e,Gr F H i e->H l=none->i l=none->e l=some (.lst vs)->iy K i vs ts->(k ts).res K E F0 H0 i D->Q (.ref l) e):t σ H Q:=by
 obtain⟨y,B,s,V,j⟩:=r.lend;refine h y H σ (vw ρ) Q s.fh V ((M.res.unb (O.res_of q)).mono (λts z l vs i e g a b c d=>?_) λC n z=>z.go s);obtain⟨A,w,v,o,m,_⟩:=j i e g;by_cases p:HQ ts=true
 .rw[aR p]at z;exact x ts l vs A e w a (iC o b) c (d.less o m p) (O.res.go z v)
 .rw[aS p]at z;exact z.elim
@[simp] noncomputable def pD(i:Nat)(f:En->M (List T)):En->O:=λρ=>.of (f ρ) λa=>.nx (ρ.set i (some (.o a)))
@[simp] noncomputable def He(i:Nat)(f:En->M (List T)):En->O:=λρ=>.of (f ρ) λa=>.nx (ρ.set i (some (.p (.lst a))))
def Ce{f:Pe->M (List T)}(h:MF K E t f):MS K E (pj t (j9 i)) (pD i (sv f)):=λF0 H0 F H σ ρ D r q=>h.inH r q λn l m j e g a b c d k=>k j e _ (.refl _) (r.setO g a b c d)
def Qi{f:Pe->M (List T)}(h:MF K E t f):MS K E (pj t (j9 i)) (pD i (yV f)):=λF0 H0 F H σ ρ D r q=>h.inB r q λn l m j e g a b c d k=>k j e _ (.refl _) (r.setO g a b c d)
def MM{f:Pe->M (List T)}(h:MF K E t f):MS K E (pj t (j9 i)) (He i (yV f)):=λF0 H0 F H σ ρ D r q=>h.inB r q λo l k m j g a b c d n=>by have e:=g.take c b a;exact n (i6 m l (.lst k)) j _ (jB b) ((r.grow e).setP (.lst g9 (d.mono (jB b))))
def Sr.change(r:Sr K F0 H0 F H σ ρ)(e:ρ[i]? = some (some (.o ts)))(hw:iy K F ws us) :
  ∃l vs,σ[i]? = some (some (.ref l))/\H l=some (.lst vs)/\iy K F vs ts/\Sr K F0 H0 F (i6 H l (.lst ws)) σ (ρ.set i (some (.o us))):=by
 obtain⟨C,Q,A⟩:=r.ov;obtain⟨a,b,c,vs,d,z⟩:=Q i ts e;refine⟨C i,vs,a,d,z,⟨r.gr.ff,λp u q=>?_,λp u q=>?_,r.gr.nw⟩,by simp[r.len],λj t q=>?_,⟨C,λj n q=>?_,λj k n v q P m=>?_⟩,λN he=>?_,λj Y s B q=>?_,(r.dv.heap (.refl _) λp xs I _=>⟨by assumption,by rw[hV (λz=>by rw[z,d]at I;cases I)];exact I⟩).setR λ_ z=>nomatch z⟩
 .rw[hV (ip q b)];exact r.gr.fh p u q
 .rw[hV (ip q c)];exact r.gr.hh p u q
 .rcases iD q with⟨rfl,g⟩|⟨x,g⟩
  .cases g
  .exact r.pv j t g
 .rcases iD q with⟨rfl,g⟩|⟨x,g⟩
  .cases g;exact⟨a,b,c,ws,g9,hw⟩
  .obtain⟨U,b',S,s,R,X⟩:=Q j n g;exact⟨U,b',S,s,by rw[hV (A j i n ts g e x)];exact R,X⟩
 .rcases iD q with⟨rfl,g⟩|⟨x,g⟩
  .rcases iD P with⟨rfl,y⟩|⟨Z,y⟩
   .exact absurd rfl m
   .exact A j k ts v e y m
  .rcases iD P with⟨rfl,y⟩|⟨Z,y⟩
   .exact A j k n ts g e m
   .exact A j k n v g y m
 .have L:=r.lv N he;have J:N.2.1≠C i:=λw=>L.d i ts e (by rw[w];exact a);refine⟨by rw[hV J];exact L.h,L.f,L.z,λj n q=>?_⟩;rcases iD q with⟨rfl,g⟩|⟨x,g⟩
  .exact L.d _ ts e
  .exact L.d j n g
 .rcases iD q with⟨rfl,g⟩|⟨x,g⟩
  .cases g
  .exact r.sl j Y s B g
@[simp] noncomputable def sJ(ρ:En)(i:Nat):M (List T):=match ρ[i]? with
 |some (some (.o ts))=>.ok ts
 |_=>.bad
def Dn(h:sJ ρ i=.ok ts):ρ[i]? = some (some (.o ts)):=by
 unfold sJ at h;split at h
 .rename_i a e;cases h;exact e
 .cases h
@[simp] noncomputable def uI(i:Nat)(f:En->M T):En->O:=λρ=>.of (sJ ρ i) λa=>.of (f ρ) λt=>if a.length<sizeLine then .nx (ρ.set i (some (.o (a++[t])))) else .bad
def Mr(r:Sr K F0 H0 F H σ ρ)(e:ρ[i]? = some (some (.o ts)))(k:lA K F v x)
  (q:(if ts.length<sizeLine then O.nx (ρ.set i (some (.o (ts++[x])))) else .bad).res K E F0 H0 F D):∃l,σ[i]? = some (some (.ref l))/\uS (.ref l) [v] H λ_ H1=>D.nx σ H1:=by
 by_cases g:ts.length<sizeLine
 .rw[aR g]at q;obtain⟨p,j,_⟩:=r.ov;obtain⟨_,_,_,n,d,z⟩:=j i ts e;obtain⟨l,b,h,c,s,m⟩:=r.change e (z.append (.cons k .nil));have:b=n:=by
   have a:=(j i ts e).1;rw[h]at a;have:l=p i:=by simpa using a
   rw[this,d]at c;cases c;rfl
  subst this;exact⟨l,h,l,b,v,rfl,rfl,c,by rw[z.length];exact g,q F _ _ (.refl _) m⟩
 .rw[aS g]at q;exact q.elim
def Qg(K:W.Frag)(i:Nat)(a:TE):TE:=VU K "list" uS (m7 i) (rG a v7)
def P9(o:∀l xs H,H l=some (.lst xs)->V0 K "list" (.ref l) H)(h:ME K E t f):MS K E (xQ (Qg K i t)) (uI i (kn f)):=λF0 H0 F H σ ρ D r q=>by
 unfold uI at q;cases e:sJ ρ i with
 |bad=>rw[e]at q;exact q.elim
 |er C n=>unfold sJ at e;split at e<;>cases e
 |ok ts=>rw[e]at q;have c:=Dn e;obtain⟨A,s,_⟩:=r.ov;obtain⟨a,_,_,y,d,_⟩:=s i ts c;refine⟨_,a,o _ _ _ d,?_⟩;refine h.inH r q λx v z w g k m p=>?_;obtain⟨l,j,b⟩:=Mr m c k p;rw[a]at j;cases j;exact b
@[simp] noncomputable def zG(i:Nat)(b:En->M T)(f:En->M T):En->O:=λρ=>.of (sJ ρ i) λa=>.of (f ρ) λt=>.of (b ρ) λk=>match k with
 |.int k=>match wL a.length k with
  |some j=>.nx (ρ.set i (some (.o (a.set j t))))
  |none=>.bad
 |_=>.bad
theorem Mi{i:Nat}{ts:List T}{x y:T}{v w:V}{l:Addr}(n:Sr K F0 H0 F H σ ρ)(g:ρ[i]? = some (some (.o ts)))(q:σ[i]? = some (some (.ref l)))(s:lA K F v x)(m:lA K F w y)
  (b:(match y with
   |.int k=>match wL ts.length k with
    |some j=>O.nx (ρ.set i (some (.o (ts.set j x))))
    |none=>.bad
   |_=>.bad).res K E F0 H0 F D):GW (.ref l) w v H λI=>D.nx σ I:=by
 cases m with
 |int k=>
  dsimp only at b;cases h:wL ts.length k with
  |none=>rw[h]at b;exact b.elim
  |some j=>
   rw[h]at b;obtain⟨B,r,_⟩:=n.ov;obtain⟨_,_,_,A,d,z⟩:=r i ts g;obtain⟨L,c,p,e,J,C⟩:=n.change g (z.set s j);rw[q]at p;cases p;have:c=A:=by
    have a:=(r i ts g).1;rw[q]at a;have:l=B i:=by simpa using a
    rw[this,d]at e;cases e;rfl
   subst this;exact⟨l,c,k,j,rfl,rfl,e,by rw[z.length];exact h,b F _ _ (.refl _) C⟩
 |_=>exact b.elim
def TX(h:ME K E t f)(l:ME K E tk fk):MS K E (pj t (Ts (m7 i) tk GW)) (zG i (wA fk) (wA f)):=λF0 H0 F H σ ρ D r q=>by
 unfold zG at q;cases e:sJ ρ i with
 |bad=>rw[e]at q;exact q.elim
 |er C n=>unfold sJ at e;split at e<;>cases e
 |ok ts=>rw[e]at q;have c:=Dn e;obtain⟨I,s,_⟩:=r.ov;have a:=(s i ts c).1;refine h.inB r q λx v A z g d j m=>⟨_,a,?_⟩;exact l.inB j m λy w B J p b k o=>Mi k c a (d.mono p.ff) b o
end
end L3
namespace L3
open PySem L2
section
variable {K:W.Frag}{E:XK}{t u ta tb:TE}{f fa fb:Pe->M T}{F0:Fz}{H0 F H F1 H1:Hp}{σ:St}{ρ:En}{D:tq}
structure xM(K:W.Frag)(J:It)(its:List T)(F1:Hp):Prop where
 go:∀i H,ij F1 H->i<its.length->J.go i H
 stop:∀H,ij F1 H->J.stop its.length H
 yld:∀(i:Nat) t F H x H',ij F1 F->ij F H->its[i]? = some t->J.yld i H x H'->∃F',Gr F H F' H'/\lA K F' x t
def kI(K:W.Frag)(F H:Hp)(R:It->Hp->Prop)(its:List T):Prop:=∀J a b,Gr F H a b->xM K J its a->R J b
noncomputable def MI(K:W.Frag)(E:XK)(w:TI)(f:Pe->M (List T)):Prop:=∀F H σ ρ R,ij F H->l7 K F σ ρ->(f ρ).res (kI K F H R) (kE E F H)->w σ H R
def Xd(K:W.Frag)(F H:Hp)(R:It->Hp->Prop)(its:List T):Prop:=∀J b a,Gr F H b a->(∀F1,xM K J its F1)->R J a
noncomputable def Vg(K:W.Frag)(E:XK)(w:TI)(f:Pe->M (List T)):Prop:=∀F H σ ρ R,ij F H->l7 K F σ ρ->(f ρ).res (Xd K F H R) (kE E F H)->w σ H R
def Vg.mi{f:Pe->M (List T)}(h:Vg K E w f):MI K E w f:=λF H σ ρ R s V q=>h F H σ ρ R s V (q.mono (λb z J a c g i=>z J a c g (i a)) λ_ _ z=>z)
@[simp] noncomputable def VQ(fa:Pe->M T):Pe->M (List T):=λρ=>(fa ρ).bind λx=>match x with
 |.lst ts=>.ok ts
 |.scr ns=>.ok (ns.map T.int)
 |_=>.bad
@[simp] noncomputable def WU(fa:Pe->M T):Pe->M (List T):=λρ=>(fa ρ).bind λx=>match x with
 |.tup ts=>.ok ts
 |_=>.bad
def Ba(c:l9 K F a xs)(r:iy K F xs ts):xM K (Wi K a) ts F where
 go:=λi H s l=>by have e:xs[i]? = some (xs[i]'(by rw[r.length];exact l)):=ag _;exact⟨xs,_,s.seq c,e⟩
 stop:=λH s=>⟨xs,s.seq c,by rw[r.length];exact aL _⟩
 yld:=λi t m H x n d g e y=>by obtain⟨rfl,k⟩:=y;have j:=k xs ((d.trans g).seq c);obtain⟨o,b,h⟩:=r.at_ j;rw[e]at b;cases b;exact⟨m,.refl g,h.mono d⟩
def vk(s:ij F H)(h:F a=some (.tup xs)):nu K H a xs:=nu.of (s _ _ h)
def Tw(c:F a=some (.tup xs))(r:iy K F xs ts):xM K (Wy K a) ts F where
 go:=λi H s l=>by have e:xs[i]? = some (xs[i]'(by rw[r.length];exact l)):=ag _;exact⟨xs,_,vk s c,e⟩
 stop:=λH s=>⟨xs,vk s c,by rw[r.length];exact aL _⟩
 yld:=λi t m H x n d g e y=>by obtain⟨rfl,k⟩:=y;have j:=k xs (vk (d.trans g) c);obtain⟨o,b,h⟩:=r.at_ j;rw[e]at b;cases b;exact⟨m,.refl g,h.mono d⟩
def B3(c:ME K E ta fa):MI K E (GD K ta) (VQ fa):=λF H σ ρ R s V q=>by
  refine c.run s V q λx v F1 H1 a d b=>?_;cases d<;>first
    |exact b.elim
    | (rename_i h r
       exact⟨_,rfl,⟨_,l9.of (a.fh _ _ h)⟩,b _ F1 H1 a (Ba (l9.of h) r)⟩)
    | (rename_i h
       exact⟨_,rfl,⟨_,a.fh.seq h⟩,b _ F1 H1 a (Ba h (iy.of_ints _))⟩)
def TY(c:ME K E ta fa):MI K E (T7 K ta) (WU fa):=λF H σ ρ R s V q=>by
  refine c.run s V q λx v F1 H1 a d b=>?_;cases d<;>first
    |exact b.elim
    | (rename_i h r
       exact⟨_,rfl,⟨_,nu.of (a.fh _ _ h)⟩,b _ F1 H1 a (Tw h r)⟩)
def VG:(2:Int) ^ 62=4611686018427387904:=by decide +kernel
def VR:(2:Int) ^ 63=9223372036854775808:=by decide +kernel
noncomputable def FB(j:Int):Bool:=decide (j.natAbs<4611686018427387904)
def si(h:FB j=true):-(2 ^ 62)<=j/\j<2 ^ 62:=by rw[VG];have:=of_decide_eq_true h;omega
def nV(h:j.natAbs<=1000000):FB j=true:=aD (by omega)
noncomputable def B9(a:Int)(n:Nat):List T:=(List.range n).map λ(i:Nat)=>T.int (a+(i:Int))
def Sf F:xM K (Us lo n) (B9 lo n) F where
 go:=λi H s a=>by show i<n;simpa[B9] using a
 stop:=λH s=>by simp[B9,Us]
 yld:=λi t b H x d g c e y=>by
  obtain⟨rfl,rfl⟩:=y;have a:i<n:=by simpa[B9] using (aa.mp e).1
  have:t=.int (lo+i):=by unfold B9 at e;rw[aw,List.getElem?_range a]at e;cases e;rfl
  rw[this];exact⟨b,.refl c,.int _⟩
@[simp] noncomputable def nr(fa:Pe->M (List T)):Pe->M (List T):=λρ=>(fa ρ).bind λa=>match a with
 |[.int j]=>if FB j then .ok (B9 0 j.toNat) else .bad
 |_=>.bad
def NZ{ta:TA}{fa:Pe->M (List T)}(h:MA K E ta fa):Vg K E (M5 ta) (nr fa):=λF H σ ρ R s V q=>by
 refine h.run s V q λk i F1 H1 g e c=>?_;split at c
 .rename_i j;split at c
  .rename_i d;cases e with
   |cons a b=>cases a;cases b;exact⟨j,rfl,(si d).1,(si d).2,c _ F1 H1 g Sf⟩
  .exact c.elim
 .exact c.elim
noncomputable def seqB(b:Bool):T->M (List T)
 |.tup ts=>if b then .ok ts else .bad
 |.lst ts=>if b then .bad else .ok ts
 |.scr ns=>if b then .bad else .ok (ns.map T.int)
 |_=>.bad
def BF(r:lA K F v x)(e:seqB b x=.ok ts):∃a xs,v=.ref a/\(∀H,ij F H->zx K H b a xs)/\iy K F xs ts:=by
 cases r<;>try (cases e)
 .rename_i a xs d h r;cases b with
  |true=>cases e;exact⟨a,xs,rfl,λH s=>by unfold zx;rw[aR rfl];exact nu.of (s _ _ h),r⟩
  |false=>cases e
 .rename_i a xs d h r;cases b with
  |true=>cases e
  |false=>cases e;exact⟨a,xs,rfl,λH s=>by unfold zx;rw[aS aI];exact l9.of (s _ _ h),r⟩
 .rename_i a c h;cases b with
  |true=>cases e
  |false=>cases e;exact⟨a,_,rfl,λH s=>by unfold zx;rw[aS aI];exact s.seq h,iy.of_ints c⟩
noncomputable def tO(xs a:List T):List T:=(xs.zip a).map λp=>T.tup [p.1,p.2]
def TF(m:∀H,ij F H->zx K H b1 l1 xs)(d:iy K F xs ts)(l:∀H,ij F H->zx K H b2 l2 ys)(h:iy K F ys us):xM K (WC K b1 b2 l1 l2) (tO ts us) F where
 go:=λi H s v=>by
  have a:i<ts.length/\i<us.length:=by simp[tO]at v;omega
  have j:xs[i]? = some (xs[i]'(by rw[d.length];exact a.1)):=ag _;have c:ys[i]? = some (ys[i]'(by rw[h.length];exact a.2)):=ag _;exact⟨xs,ys,_,_,m H s,l H s,j,c⟩
 stop:=λH s=>⟨xs,ys,m H s,l H s,by simp[tO,d.length,h.length];omega⟩
 yld:=λi t N H x L b k e y=>by
  obtain⟨p,B,C,rfl,w,rfl,j,c⟩:=y;obtain⟨n,A,J⟩:=d.at_ (j xs (m H (b.trans k)));obtain⟨q,r,I⟩:=h.at_ (c ys (l H (b.trans k)));have:t=.tup [n,q]:=by unfold tO at e;rw[aw,(List.getElem?_zip_eq_some (z:=(n,q))).mpr ⟨A,r⟩]at e;cases e;rfl
  rw[this];have g:=Gr.new (o:=.tup [B,C]) k w;exact⟨_,g,.tup g9 (.cons ((J.mono b).mono g.ff) (.cons ((I.mono b).mono g.ff) .nil))⟩
noncomputable def T5(e d:Bool)(fa:Pe->M (List T)):Pe->M (List T):=λρ=>(fa ρ).bind λa=>match a with
 |[x,y]=>(seqB e x).bind λc=>(seqB d y).bind λb=>.ok (tO c b)
 |_=>.bad
def BE:seqB b x≠.er C n:=by cases x<;>cases b<;>exact λz=>nomatch z
def Ly{ta:TA}{fa:Pe->M (List T)}(w:MA K E ta fa):MI K E (Sh K b1 b2 ta) (T5 b1 b2 fa):=λF H σ ρ R s V q=>by
 refine w.run s V q λA z F1 H1 h k d=>?_;split at d
 .rename_i x y;cases k with
  |cons a b=>
   cases b with
   |cons b c=>
    cases c;cases g:seqB b1 x with
    |bad=>rw[g]at d;exact d.elim
    |er C n=>exact absurd g BE
    |ok ts=>
     rw[g]at d;cases e:seqB b2 y with
     |bad=>simp only[e,M.bind_ok]at d;exact d.elim
     |er C n=>exact absurd e BE
     |ok us=>simp only[e,M.bind_ok]at d;obtain⟨v,m,rfl,i,l⟩:=BF a g;obtain⟨o,p,rfl,j,r⟩:=BF b e;exact⟨v,o,rfl,⟨m,i _ h.fh⟩,⟨p,j _ h.fh⟩,d _ F1 H1 h (TF i l j r)⟩
 .exact d.elim
def MG(K:W.Frag)(g:TG)(m:T->Pe->Option Pe):Prop:=∀F H σ (ρ:Pe) x t ρ' Q,ij F H->σ.length=ρ.length->l7 K F σ ρ->lA K F x t->m t ρ=some ρ'->(∀a,a.length=ρ'.length->l7 K F a ρ'->Q a H)->g x σ H Q
def Uv(K:W.Frag)(g:NI)(m:List T->Pe->Option Pe):Prop:=∀F H σ (ρ:Pe) xs ts ρ' Q,ij F H->σ.length=ρ.length->l7 K F σ ρ->iy K F xs ts->m ts ρ=some ρ'->(∀a,a.length=ρ'.length->l7 K F a ρ'->Q a H)->g xs σ H Q
@[simp] def km(i:Nat):T->Pe->Option Pe:=λt ρ=>some (ρ.set i (some t))
def l7.set{ρ:Pe}(V:l7 K F σ ρ)(d:σ.length=ρ.length)(h:lA K F v x):l7 K F (σ.set i (some v)) (ρ.set i (some x)):=λj t e=>by
 have c:j<ρ.length:=by simpa using (aa.mp e).1
 rcases iD e with⟨rfl,q⟩|⟨c,q⟩
 .cases q;exact⟨v,B5 (by rw[d];exact c),h⟩
 .obtain⟨w,a,b⟩:=V j t q;exact⟨w,by rw[aq (λz=>c z.symm)];exact a,b⟩
def OY:MG K (j9 i) (km i):=λF H σ ρ x t b Q s a V r e k=>by cases e;exact k _ (by simp[a]) (V.set a r)
@[simp] noncomputable def mP:List T->Pe->Option Pe
 |[],ρ=>some ρ
 |_::_,_=>none
@[simp] def iN(m:T->Pe->Option Pe)(n:List T->Pe->Option Pe):List T->Pe->Option Pe
 |[],_=>none
 |t::ts,ρ=>(m t ρ).bind (n ts)
def Qo:Uv K HY mP:=λF H σ ρ g h c Q s d V r e k=>by
 cases r with
 |nil=>cases e;exact⟨rfl,k σ d V⟩
 |cons a b=>cases e
def Md(w:MG K g m)(o:Uv K gs n):Uv K (xX g gs) (iN m n):=λF H σ ρ y x d Q s l V r e k=>by
 cases r with
 |nil=>cases e
 |cons a b=>
  rename_i v t j c;have e:(m t ρ).bind (n c)=some d:=e;cases q:m t ρ with
  |none=>rw[q]at e;cases e
  |some ρ1=>rw[q]at e;refine⟨v,j,rfl,w F H σ ρ v t ρ1 _ s l V a q λi h p=>?_⟩;exact o F H i ρ1 j c d Q s h p b e k
@[simp] noncomputable def mT(k:Nat)(m:List T->Pe->Option Pe):T->Pe->Option Pe
 |.tup ts,ρ=>if ts.length=k then m ts ρ else none
 |_,_=>none
def S1(h:Uv K g m):MG K (Ir K k g) (mT k m):=λF H σ ρ x t b Q s i V r e q=>by
 cases r with
 |tup hx rs=>
  rename_i a j c;have e:(if c.length=k then m c ρ else none)=some b:=e;by_cases d:c.length=k
  .rw[aR d]at e;exact⟨_,_,rfl,nu.of (s _ _ hx),by rw[rs.length];exact d,h F H σ ρ _ _ b Q s i V rs e q⟩
  .rw[aS d]at e;cases e
 |_=>cases e
noncomputable def NO(K:W.Frag)(g:TG)(m:T->En->Option En):Prop:=∀F0 H0 F H σ ρ x t b Q,Sr K F0 H0 F H σ ρ->lA K F x t->m t ρ=some b->(∀a,Sr K F0 H0 F H a b->Q a H)->g x σ H Q
noncomputable def M9(K:W.Frag)(g:NI)(m:List T->En->Option En):Prop:=∀F0 H0 F H σ ρ c d b Q,Sr K F0 H0 F H σ ρ->iy K F c d->m d ρ=some b->(∀a,Sr K F0 H0 F H a b->Q a H)->g c σ H Q
@[simp] noncomputable def mH(i:Nat):T->En->Option En:=λt ρ=>some (ρ.set i (some (.p t)))
def MH:NO K (j9 i) (mH i):=λF0 H0 F H σ ρ x t a Q s r e k=>by cases e;exact k _ (s.setP r)
@[simp] noncomputable def mK:List T->En->Option En
 |[],ρ=>some ρ
 |_::_,_=>none
@[simp] noncomputable def iZ(m:T->En->Option En)(n:List T->En->Option En):List T->En->Option En
 |[],_=>none
 |t::ts,ρ=>(m t ρ).bind (n ts)
def L7:M9 K HY mK:=λF0 H0 F H σ ρ d g c Q s r e k=>by
 cases r with
 |nil=>cases e;exact⟨rfl,k σ s⟩
 |cons a b=>cases e
def Ij(o:NO K g m)(j:M9 K gs n):M9 K (xX g gs) (iZ m n):=λF0 H0 F H σ ρ w p d Q s r e k=>by
 cases r with
 |nil=>cases e
 |cons a b=>
  rename_i v t i c;have e:(m t ρ).bind (n c)=some d:=e;cases q:m t ρ with
  |none=>rw[q]at e;cases e
  |some ρ1=>rw[q]at e;refine⟨v,i,rfl,o F0 H0 F H σ ρ v t ρ1 _ s a q λh l=>?_⟩;exact j F0 H0 F H h ρ1 i c d Q l b e k
@[simp] noncomputable def mJ(k:Nat)(m:List T->En->Option En):T->En->Option En
 |.tup ts,ρ=>if ts.length=k then m ts ρ else none
 |_,_=>none
def OM(h:M9 K g m):NO K (Ir K k g) (mJ k m):=λF0 H0 F H σ ρ x t b Q s r e q=>by
 cases r with
 |tup hx rs=>
  rename_i a i c;have e:(if c.length=k then m c ρ else none)=some b:=e;by_cases d:c.length=k
  .rw[aR d]at e;exact⟨_,_,rfl,nu.of (s.gr.fh _ _ hx),by rw[rs.length];exact d,h F0 H0 F H σ ρ _ _ b Q s rs e q⟩
  .rw[aS d]at e;cases e
 |_=>cases e
noncomputable def kM(m:T->En->Option En)(g:En->O):List T->En->O
 |[],ρ=>.nx ρ
 |t::ts,ρ=>match m t ρ with
  |none=>.bad
  |some ρ1=>match g ρ1 with
   |.nx ρ2=>kM m g ts ρ2
   |.ct ρ2=>kM m g ts ρ2
   |.bk ρ2=>.nx ρ2
   |o=>o
theorem Ez{tb:TS}{J:It}(hg:NO K g m)(hb:MS K E tb gb){G:Hp->Hp->Prop}(S:∀i F H,G F H->i<its.length->J.go i H)(P:∀F H,G F H->J.stop its.length H)(Y:∀(i:Nat) t F H x c,G F H->its[i]? = some t->J.yld i H x c->∃d,Gr F H d c/\lA K d x t)
  (X:∀d c b ρ',ij F1 d->Sr K F0 H0 d c b ρ'->G d c) (r:Sr K F0 H0 F H σ ρ) (s1:ij F1 F)
  (q:(kM m gb its ρ).res K E F0 H0 F D):∃W:Nat->Nat->St->Hp->Prop,(∃m,W 0 m σ H)/\∀i m σ H,W i m σ H->
 (J.stop i H/\D.nx σ H)\/(J.go i H/\∃N:St->Hp->Prop,(∀b c,N b c->∃m',m'<m/\W (i+1) m' b c)/\∀x c,J.yld i H x c->g x σ c λQ H2=>tb {D with nx:=N,ct:=N,bk:=D.nx} Q H2):=by
 refine⟨λi k b c=>i<=its.length/\k=its.length-i/\∃d ρ',ij F1 d/\Sr K F0 H0 d c b ρ'/\(kM m gb (its.drop i) ρ').res K E F0 H0 d D,⟨_,bK _,rfl,F,ρ,s1,r,by simpa using q⟩,?_⟩
 rintro i k B L ⟨hi,rfl,I,v,w,p,a⟩
 by_cases h:i<its.length
 .right;refine⟨S i I L (X _ _ _ _ w p) h,λb c=>∃d ρ',ij F1 d/\Sr K F0 H0 d c b ρ'/\(kM m gb (its.drop (i+1)) ρ').res K E F0 H0 d D,λb c z=>⟨its.length-(i+1),by omega,h,rfl,z⟩,λx c y=>?_⟩;have et:=ag h;obtain⟨Z,o,rp⟩:=Y i _ I L x c (X _ _ _ _ w p) et y;rw[dC h]at a;unfold kM at a;cases R:m its[i] v with
  |none=>rw[R]at a;exact a.elim
  |some ρ3=>
   rw[R]at a;refine hg F0 H0 Z c B v x _ ρ3 _ (p.grow o) rp R λb r'=>?_;refine hb F0 H0 Z c b ρ3 _ r' ?_;dsimp only at a;cases j:gb ρ3 with
   |bad=>rw[j]at a;exact a.elim
   |nx ρ4=>rw[j]at a;exact λd U A s l=>⟨d,ρ4,(w.trans o.ff).trans s,l,O.res.go a (o.ff.trans s)⟩
   |ct ρ4=>rw[j]at a;exact λd U A s l=>⟨d,ρ4,(w.trans o.ff).trans s,l,O.res.go a (o.ff.trans s)⟩
   |bk ρ4=>rw[j]at a;exact kN.go a o.ff
   |rt t=>rw[j]at a;exact a
   |rf ts=>rw[j]at a;exact a
   |rn ts us=>rw[j]at a;exact a
   |er C n=>rw[j]at a;exact a
 .left;have e:i=its.length:=by omega
  subst e;refine⟨P I L (X _ _ _ _ w p),?_⟩;rw[dD]at a;exact a I L B (.refl _) p
def AI{tb:TS}(o:NO K g m)(n:MS K E tb gb)(a:xM K J its F1)(r:Sr K F0 H0 F H σ ρ)(j:ij F1 F)
  (q:(kM m gb its ρ).res K E F0 H0 F D):∃W:Nat->Nat->St->Hp->Prop,(∃m,W 0 m σ H)/\∀i m σ H,W i m σ H->
 (J.stop i H/\D.nx σ H)\/(J.go i H/\∃N:St->Hp->Prop,(∀c b,N c b->∃h,h<m/\W (i+1) h c b)/\∀x b,J.yld i H x b->g x σ b λd l=>tb {D with nx:=N,ct:=N,bk:=D.nx} d l):=
 Ez (G:=λF H=>ij F1 F/\ij F H) o n (λi F H q k=>a.go i H (q.1.trans q.2) k) (λF H q=>a.stop H (q.1.trans q.2)) (λi t F H x b q e y=>a.yld i t F H x b q.1 q.2 e y) (λ_ _ _ _ s r=>⟨s,r.gr.fh⟩) r j q
def Sr.hide(r:Sr K F0 H0 F H σ ρ)(e:ρ[j]? = some (some (.o ts))):∃l vs,σ[j]? = some (some (.ref l))/\H l=some (.lst vs)/\iy K F vs ts/\(∀s∈F0.lt,s.2.1≠l)/\Sr K ⟨F0.hp,(j,l,vs)::F0.lt⟩ H0 F H σ (ρ.set j none):=by
 obtain⟨x,I,J⟩:=r.ov;obtain⟨a,b,c,vs,d,z⟩:=I j ts e;refine⟨x j,vs,a,d,z,λs v w=>(r.lv s v).d j ts e (by rw[w];exact a),r.gr,by simp[r.len],λi t q=>?_,⟨x,λi n q=>?_,λi k n y q P A=>?_⟩,λs v=>?_,λi l B m q=>?_,r.dv.setR λ_ z=>nomatch z⟩
 .rcases iD q with⟨rfl,g⟩|⟨p,g⟩
  .cases g
  .exact r.pv i t g
 .rcases iD q with⟨rfl,g⟩|⟨p,g⟩
  .cases g
  .exact I i n g
 .rcases iD q with⟨rfl,g⟩|⟨p,g⟩
  .cases g
  .rcases iD P with⟨rfl,C⟩|⟨Q,C⟩
   .cases C
   .exact J i k n y g C A
 .rcases aG.mp v with rfl|v
  .refine⟨d,b,c,λi n q w=>?_⟩;rcases iD q with⟨rfl,g⟩|⟨p,g⟩
   .cases g
   .obtain⟨N,_⟩:=I i n g;rw[N]at w;have:x i=x j:=by simpa using w
    exact J i j n ts g e p this
  .have L:=r.lv s v;refine⟨L.h,L.f,L.z,λi n q=>?_⟩;rcases iD q with⟨rfl,g⟩|⟨p,g⟩
   .cases g
   .exact L.d i n g
 .rw[cA]at m;rcases iD q with⟨rfl,g⟩|⟨p,g⟩
  .rw[beq_self_eq_true]at m;cases m;exact a
  .rw[beq_eq_false_iff_ne.mpr p]at m;exact r.sl i l B m g
def Sr.unhide(r:Sr K ⟨F0.hp,(j,l,vs)::F0.lt⟩ H0 F H σ ρ)(e:ρ[j]? = some none)(hr:iy K F vs ts)(R:∀p∈F0.lt,p.2.1≠l):Sr K F0 H0 F H σ (ρ.set j (some (.o ts))):=by
 obtain⟨I,P,S⟩:=r.ov;have L:=r.lv (j,l,vs) (bt ..);have B:=r.sl j l vs (by rw[cA,beq_self_eq_true]) e;have N:∀i s,ρ[i]? = some (some (.o s))->I i≠l:=λi s q w=>L.d i s q (by rw[(P i s q).1,w]);refine⟨r.gr,by simp[r.len],λi t q=>?_,⟨λi=>if i=j then l else I i,λi c q=>?_,λi k c g q C m=>?_⟩,λp J=>?_,λi Q y x q=>?_,r.dv.setR λ_ z=>nomatch z⟩
 .rcases iD q with⟨rfl,a⟩|⟨b,a⟩
  .cases a
  .exact r.pv i t a
 .rcases iD q with⟨rfl,a⟩|⟨b,a⟩
  .cases a;dsimp only;rw[aR rfl];exact⟨B,L.f,L.z,vs,L.h,hr⟩
  .dsimp only;rw[aS b];exact P i c a
 .rcases iD q with⟨rfl,a⟩|⟨b,a⟩
  .rcases iD C with⟨rfl,n⟩|⟨A,n⟩
   .exact absurd rfl m
   .dsimp only;rw[aR rfl,aS A];exact λw=>N k g n w.symm
  .rcases iD C with⟨rfl,n⟩|⟨A,n⟩
   .dsimp only;rw[aS b,aR rfl];exact N i c a
   .dsimp only;rw[aS b,aS A];exact S i k c g a n m
 .have v:=r.lv p (bx _ J);refine⟨v.h,v.f,v.z,λi c q=>?_⟩;rcases iD q with⟨rfl,a⟩|⟨b,a⟩
  .rw[B];intro w;exact R p J (by simpa using w.symm)
  .exact v.d i c a
 .rcases iD q with⟨rfl,a⟩|⟨b,a⟩
  .cases a
  .exact r.sl i Q y (by rw[cA,beq_eq_false_iff_ne.mpr b];exact x) a
@[simp] noncomputable def sr(b:Pe->M (List T))(m:T->En->Option En)(g:En->O):En->O:=λρ=>.of (b (lF ρ)) λa=>kM m g a ρ
def SK{tb:TS}(d:MI K E w fi)(h:NO K g m)(e:MS K E tb gb):MS K E (Ci w g tb) (sr fi m gb):=λF0 H0 F H σ ρ D r q=>d F H σ (lF ρ) _ r.gr.fh r.vars ((O.res_of q).mono (λc z J j i b a=>AI h e a (r.grow b) (.refl _) (z.go b.ff)) λC n z=>z.go r.gr)
@[simp] noncomputable def wq(b:Pe->M (List T))(m:T->En->Option En)(g:En->O):En->O:=λρ=>.of (b (vw ρ)) λa=>kM m g a ρ
def PF{tb:TS}(j:Vg K E w fi)(s:NO K g m)(l:MS K E tb gb):MS K E (Ci w g tb) (wq fi m gb):=λF0 H0 F H σ ρ D r q=>by obtain⟨o,x,d,V,a⟩:=r.lend;refine j o H σ (vw ρ) _ d.fh V ((O.res_of q).mono (λe z J k i v c=>?_) λC n z=>z.go d);obtain⟨p,b,h,_⟩:=a k i v;exact AI s l (c p) (r.grow b) (.refl _) (z.go h)
noncomputable def nA(c:Pe->M Bool)(g:En->O):Nat->En->O
 |0,_=>.bad
 |n+1,ρ=>.of (c (vw ρ)) λb=>if b then (match g ρ with
   |.nx ρ2=>nA c g n ρ2
   |.ct ρ2=>nA c g n ρ2
   |.bk ρ2=>.nx ρ2
   |o=>o) else .nx ρ
def Ka{tb:TS}(i:En->Nat)(L:MT K E c fc)(J:MS K E tb gb):MS K E (FF c tb) (λρ=>nA fc gb (i ρ) ρ):=λF0 H0 F H σ ρ D r q=>by
 refine⟨λn g o=>∃d e,ij F d/\Sr K F0 H0 d o g e/\(nA fc gb n e).res K E F0 H0 d D,⟨i ρ,F,ρ,.refl _,r,q⟩,?_⟩;rintro n m P ⟨N,k,x,I,v⟩;cases n with
 |zero=>exact v.elim
 |succ n=>
  unfold nA at v;refine L.inS I v λb w B A y a=>?_;cases b with
  |true=>
   rw[aR rfl]at a ⊢;refine⟨λg o=>∃d e,ij F d/\Sr K F0 H0 d o g e/\(nA fc gb n e).res K E F0 H0 d D,λg o z=>⟨n,bJ n,z⟩,?_⟩;refine J F0 H0 w B m k _ y ?_;cases h:gb k with
   |bad=>rw[h]at a;exact a.elim
   |nx ρ4=>rw[h]at a;exact λd p l s j=>⟨d,ρ4,(x.trans A).trans s,j,O.res.go a s⟩
   |ct ρ4=>rw[h]at a;exact λd p l s j=>⟨d,ρ4,(x.trans A).trans s,j,O.res.go a s⟩
   |bk ρ4=>rw[h]at a;exact a
   |rt t=>rw[h]at a;exact a
   |rf ts=>rw[h]at a;exact a
   |rn ts us=>rw[h]at a;exact a
   |er C n=>rw[h]at a;exact a
  |false=>rw[aS aI]at a ⊢;exact a w B m (.refl _) y
@[simp] noncomputable def oW(a:List (Option Nat))(ρ:Pe):Pe:=a.map fun
 |none=>none
 |some j=>(ρ[j]?).getD none
def l7.pull{ρ:Pe}(V:l7 K F σ ρ) ix:l7 K F (L2.pull ix σ) (oW ix ρ):=λi t e=>by
 unfold oW at e;rw[aw]at e;cases q:ix[i]? with
 |none=>rw[q]at e;cases e
 |some w=>
  rw[q]at e;cases w with
  |none=>cases e
  |some j=>
   have c:(ρ[j]?).getD none=some t:=by simpa using e
   cases z:ρ[j]? with
   |none=>rw[z]at c;cases c
   |some y=>rw[z]at c;have:y=some t:=c;rw[this]at z;obtain⟨v,a,b⟩:=V j t z;refine⟨v,?_,b⟩;unfold L2.pull;rw[aw,q];simp[a]
@[simp] noncomputable def um(m:T->Pe->Option Pe)(a:Pe->M Bool)(c:Pe->M T)(ρ:Pe)(t:T):M (Option T):=match m t ρ with
 |none=>.bad
 |some ρ1=>(a ρ1).bind λb=>if b then (c ρ1).bind λx=>.ok (some x) else .ok none
noncomputable def rm(k:T->M (Option T)):List T->M (List T)
 |[]=>.ok []
 |t::ts=>(k t).bind λo=>(rm k ts).bind λr=>.ok (match o with
  |some x=>x::r
  |none=>r)
def NM:XK:=λ_ _ _=>False
def Sn:MT K E R8 (λ_=>.ok true):=λF H σ ρ Q s V q=>q F H (.refl s)
theorem Kj{ρ:Pe}(hg:MG K g m)(ht:MT K NM tt ft)(he:ME K NM te fe)(V:l7 K F1 σ ρ)
  (d:xM K J its F1) (s:ij F1 H1) (hl:its.length<sizeLine) (q:(rm (um m ft fe (oW ix ρ)) its).res (kF K F1 H1 Q) (λ_ _=>False)):WQ J ix g tt te σ H1 Q:=by
 refine⟨λi k P H=>i<=its.length/\k=its.length-i/\∃S h,Gr F1 H1 S H/\iy K S P h/\h.length<=i/\(rm (um m ft fe (oW ix ρ)) (its.drop i)).res (λZ=>kF K F1 H1 Q (h++Z)) (λ_ _=>False),
  ⟨_,bK _,rfl,F1,[],.refl s,.nil,bK _,by simpa using q⟩,?_⟩
 rintro i k P N ⟨hi,rfl,X,h,c,A,tl,r⟩;by_cases a:i<its.length
 .right;refine⟨d.go i N (c.ff.trans c.fh) a,by rw[A.length];omega,λx B y=>?_⟩;have et:=ag a;obtain⟨U,p,rp⟩:=d.yld i _ X N x B c.ff c.fh et y;rw[dC a]at r;unfold rm at r;have l:=M.res.unb r;unfold um at l;cases I:m its[i] (oW ix ρ) with
  |none=>rw[I]at l;exact l.elim
  |some ρ3=>
   rw[I]at l;have j:=c.trans p;have V3:=(V.mono j.ff).pull ix;refine hg U B _ _ x _ ρ3 _ p.fh (by simp[L2.pull,oW]) V3 rp I λo hl' V'=>?_;have q4:=M.res.unb l;refine ht U B o ρ3 _ p.fh V' (q4.mono (λb z F4 H4 n=>?_) λ_ _ z=>z.elim);cases b with
   |true=>rw[aR rfl]at z ⊢;have q5:=M.res.unb z;refine he F4 H4 o ρ3 _ n.fh (V'.mono n.ff) (q5.mono (λx' z' v F5 H5 Y R=>?_) λ_ _ z=>z.elim);refine⟨its.length-(i+1),by omega,a,rfl,F5,h++[x'],(j.trans n).trans Y,(A.mono (p.ff.trans (n.ff.trans Y.ff))).append (.cons R .nil),by simp;omega,?_⟩;have L:=M.res.unb z';exact L.mono (λZ w=>by rw[b9];exact w) λ_ _ w=>w
   |false=>rw[aS aI]at z ⊢;refine⟨its.length-(i+1),by omega,a,rfl,F4,h,j.trans n,A.mono (p.ff.trans n.ff),by omega,?_⟩;exact M.res.unb z
 .left;have e:i=its.length:=by omega
  subst e;rw[dD]at r;refine⟨d.stop N (c.ff.trans c.fh),λD C=>?_⟩;have l:kF K F1 H1 Q h:=by simpa[rm,M.res] using r
  exact l D P X _ (c.trans (.new' c.fh C)) (iC c.hh C) (iC c.fh C) g9 A
def Q9(c:MI K E w fi)(i:MG K g m)(d:MT K NM tt ft)(h:ME K NM te fe) :
  MF K E (ND ix w g tt te) (λρ=>(fi ρ).bind λits=>(if its.length<sizeLine then rm (um m ft fe (oW ix ρ)) its else .bad).noEr):=λF H σ ρ Q s V q=>by
 refine c F H σ ρ _ s V ((M.res.unb q).mono (λits z J k j b a=>?_) λ_ _ z=>z);split at z
 .rename_i e;exact Kj i d h (V.mono b.ff) a b.fh e (z.noEr.mono (λ_ w=>w.go b) λ_ _ w=>w)
 .exact z.elim
end
end L3
namespace L3
open PySem L2
section
variable {K:W.Frag}{E:XK}{t u ta tb:TE}{f fa fb:Pe->M T}{F0:Fz}{H0 F H F1 H1:Hp}{σ:St}{ρ:En}{D:tq}
noncomputable def t5(K:W.Frag)(F:List T->M T):Sp:=λb H Q E=>∃a F0,ij F0 H/\iy K F0 b a/\(F a).res (kV K F0 H Q) (kE E F0 H)
noncomputable def CB(K:W.Frag)(F:List T->M (List T)):Sp:=λb H Q E=>∃a F0,ij F0 H/\iy K F0 b a/\(F a).res (kF K F0 H Q) (kE E F0 H)
@[simp] noncomputable def hW(fa:Pe->M (List T))(F:List T->M T):Pe->M T:=λρ=>(fa ρ).bind λa=>(F a).noEr
@[simp] noncomputable def i8(fa:Pe->M (List T))(F:List T->M (List T)):Pe->M (List T):=λρ=>(fa ρ).bind λa=>(F a).noEr
section
variable {tr:TA}{fr:Pe->M (List T)}{Fn:List T->M T}{Ff:List T->M (List T)}{E':XK}
def KZ(b:MA K E tr fr):ME K E (A3 (t5 K Fn) [] E' tr) (hW fr Fn):=λF H σ ρ Q s V q=>by refine b.run s V q λc g F1 H1 a e d=>?_;exact⟨c,F1,a.fh,by rw[bL];exact e,(d.mono (λ_ z=>kV.go z a) λ_ _ z=>z).noEr⟩
def JR(b:MA K E tr fr):MF K E (A3 (CB K Ff) [] E' tr) (i8 fr Ff):=λF H σ ρ Q s V q=>by refine b.run s V q λc g F1 H1 a e d=>?_;exact⟨c,F1,a.fh,by rw[bL];exact e,(d.mono (λ_ z=>kF.go z a) λ_ _ z=>z).noEr⟩
@[simp] noncomputable def sW(C:Addr)(m:Str)(x:T):M Unit:=match x with
 |.obj C' fs=>if C'=C/\fs.lookup m=none then .ok () else .bad
 |_=>.bad
@[simp] noncomputable def mx(C:Addr)(m:Str)(b:Pe->M T)(fr:Pe->M (List T))(F:List T->M T):Pe->M T:=λρ=>(b ρ).bind λx=>(sW C m x).bind λ_=>(fr ρ).bind λa=>(F (x::a)).noEr
@[simp] noncomputable def pI(C:Addr)(m:Str)(b:Pe->M T)(fr:Pe->M (List T))(F:List T->M (List T)):Pe->M (List T):=λρ=>(b ρ).bind λx=>(sW C m x).bind λ_=>(fr ρ).bind λa=>(F (x::a)).noEr
def Ht(r:lA K F v x)(e:sW C m x=.ok ()):∃a dx fs,v=.ref a/\F a=some (.ins C dx fs)/\fs.lookup m=none:=by
 cases r with
 |obj h rs=>
  rename_i a b dx fs c;have e:(if b=C/\List.lookup m c=none then M.ok () else M.bad)=.ok ():=e;by_cases d:b=C/\List.lookup m c=none
  .obtain⟨rfl,g⟩:=d;exact⟨a,dx,fs,rfl,h,rs.none_ g⟩
  .rw[aS d]at e;cases e
 |_=>cases e
def Gk:sW C m x≠.er C' n:=by
 unfold sW;split
 .split<;>exact λz=>nomatch z
 .exact λz=>nomatch z
def El(j:ME K E ta fa)(hr:MA K E tr fr):ME K E (uh C m (t5 K Fn) [] E' ta tr) (mx C m fa fr Fn):=λF H σ ρ Q s V q=>by
 refine j.run s V q λx v F1 H1 b g c=>?_;cases e:sW C m x with
 |bad=>rw[e]at c;exact c.elim
 |er C n=>exact absurd e Gk
 |ok u=>rw[e]at c;obtain⟨a,l,fs,rfl,h,p⟩:=Ht g e;refine⟨a,l,fs,rfl,b.fh _ _ h,p,?_⟩;refine hr.run b.fh (V.mono b.ff) c λk w o y d i r=>?_;exact⟨x::k,o,d.fh,by rw[bL];exact .cons (g.mono d.ff) i,(r.mono (λ_ z=>kV.go z (b.trans d)) λ_ _ z=>z).noEr⟩
def Lj(j:ME K E ta fa)(hr:MA K E tr fr):MF K E (uh C m (CB K Ff) [] E' ta tr) (pI C m fa fr Ff):=λF H σ ρ Q s V q=>by
 refine j.run s V q λx v F1 H1 b g c=>?_;cases e:sW C m x with
 |bad=>rw[e]at c;exact c.elim
 |er C n=>exact absurd e Gk
 |ok u=>rw[e]at c;obtain⟨a,l,fs,rfl,h,p⟩:=Ht g e;refine⟨a,l,fs,rfl,b.fh _ _ h,p,?_⟩;refine hr.run b.fh (V.mono b.ff) c λk w o y d i r=>?_;exact⟨x::k,o,d.fh,by rw[bL];exact .cons (g.mono d.ff) i,(r.mono (λ_ z=>kF.go z (b.trans d)) λ_ _ z=>z).noEr⟩
end
@[simp] noncomputable def We:O->M T
 |.nx _=>.ok .non
 |.rt t=>.ok t
 |.rf ts=>.ok (.lst ts)
 |.rn ts us=>.ok (.tup (ts++[.lst us]))
 |.er C n=>.er C n
 |_=>.bad
@[simp] noncomputable def Wp:O->M (List T)
 |.rf ts=>.ok ts
 |.er C n=>.er C n
 |_=>.bad
@[simp] noncomputable def iX(n:Nat)(ts:List T):En:=ts.map (λt=>some (W.p t))++List.replicate (n-ts.length) none
@[simp] noncomputable def nY(k n:Nat)(g:En->O):List T->M T:=λa=>if a.length=k then We (g (iX n a)) else .bad
@[simp] noncomputable def xw(k n:Nat)(g:En->O):List T->M (List T):=λa=>if a.length=k then Wp (g (iX n a)) else .bad
def zU{n i:Nat}(e:(iX n ts)[i]? = some (some (.d kvs))):False:=by
 unfold iX at e;rw[List.getElem?_append]at e;split at e
 .rw[aw]at e;cases q:ts[i]? with
  |none=>rw[q]at e;cases e
  |some x=>rw[q]at e;cases e
 .rw[List.getElem?_replicate]at e;split at e<;>cases e
def Dj(s:ij F H)(r:iy K F vs ts):Sr K ⟨F,[]⟩ H F H (lV N vs) (iX N.length ts):=by
 refine⟨.refl s,?_,λi t e=>?_,⟨λ_=>0,λi g e=>?_,λi j g m e=>?_⟩,λ_ k=>(nomatch k),λ_ _ _ h=>(by cases h),⟨λi c e=>(zU e).elim,λi j c d e=>(zU e).elim⟩⟩
 .simp[L2.lV,iX,r.length]
 .unfold iX at e;rw[List.getElem?_append]at e;split at e
  .rename_i l;rw[aw]at e;cases q:ts[i]? with
   |none=>rw[q]at e;cases e
   |some x=>rw[q]at e;cases e;obtain⟨v,a,b⟩:=r.get q;refine⟨v,?_,b⟩;unfold L2.lV;rw[List.getElem?_append_left (by simpa[r.length] using l),aw,a];rfl
  .rw[List.getElem?_replicate]at e;split at e<;>cases e
 .exfalso;unfold iX at e;rw[List.getElem?_append]at e;split at e
  .rw[aw]at e;cases q:ts[i]? with
   |none=>rw[q]at e;cases e
   |some x=>rw[q]at e;cases e
  .rw[List.getElem?_replicate]at e;split at e<;>cases e
 .exfalso;unfold iX at e;rw[List.getElem?_append]at e;split at e
  .rw[aw]at e;cases q:ts[i]? with
   |none=>rw[q]at e;cases e
   |some x=>rw[q]at e;cases e
  .rw[List.getElem?_replicate]at e;split at e<;>cases e
def FA(h:t5 K (nY k n g) vs H Q E):vs.length=k:=by
 obtain⟨b,F0,s,r,q⟩:=h;unfold nY at q;by_cases a:b.length=k
 .rw[r.length];exact a
 .rw[aS a]at q;exact q.elim
def BD{t:TS}(d:MS K E t g)(h:t5 K (nY k N.length g) vs H Q E):t {nx:=λ_ b=>Q .non b,rt:=Q} (lV N vs) H:=by
 obtain⟨a,F0,s,r,q⟩:=h;unfold nY at q;by_cases c:a.length=k
 .rw[aR c]at q;refine d ⟨F0,[]⟩ H F0 H _ _ _ (Dj s r) ?_;cases e:g (iX N.length a) with
  |bad=>rw[e]at q;exact q
  |nx ρ=>rw[e]at q;exact λj b i _ l=>q .non j b l.gr .non
  |rt t=>rw[e]at q;exact q
  |rf a=>rw[e]at q;exact kF.of q
  |rn a us=>rw[e]at q;exact kT.of q
  |bk ρ=>rw[e]at q;exact q.elim
  |ct ρ=>rw[e]at q;exact q.elim
  |er C n=>rw[e]at q;exact q
 .rw[aS c]at q;exact q.elim
def Bx(h:CB K (xw k n g) vs H Q E):vs.length=k:=by
 obtain⟨b,F0,s,r,q⟩:=h;unfold xw at q;by_cases a:b.length=k
 .rw[r.length];exact a
 .rw[aS a]at q;exact q.elim
def zc{t:TS}(c:MS K E t g)(h:CB K (xw k N.length g) vs H Q E):t {nx:=λ_ d=>Q .non d,rt:=Q} (lV N vs) H:=by
 obtain⟨a,F0,s,r,q⟩:=h;unfold xw at q;by_cases b:a.length=k
 .rw[aR b]at q;refine c ⟨F0,[]⟩ H F0 H _ _ _ (Dj s r) ?_;cases e:g (iX N.length a) with
  |bad=>rw[e]at q;exact q
  |nx ρ=>rw[e]at q;exact q.elim
  |rt t=>rw[e]at q;exact q.elim
  |rf a=>rw[e]at q;exact q
  |rn a us=>rw[e]at q;exact q.elim
  |bk ρ=>rw[e]at q;exact q.elim
  |ct ρ=>rw[e]at q;exact q.elim
  |er C n=>rw[e]at q;exact q
 .rw[aS b]at q;exact q.elim
@[simp] noncomputable def sY(C:Addr)(x:Str)(fa:Pe->M T):Pe->M T:=λρ=>(fa ρ).bind λo=>match o with
 |.obj C' fs=>if C'=C then (match fs.lookup x with
  |some t=>.ok t
  |none=>.bad) else .bad
 |_=>.bad
def RL(i:zD K C)(r:my K C x)(p:ME K E ta fa):ME K E (RN K ta x) (sY C x fa):=λF H σ ρ Q s V q=>by
 refine p.run s V q λo v F1 H1 d k b=>?_;cases k with
 |obj h rs=>
  rename_i a c n fs m;dsimp only at b;by_cases g:c=C
  .subst g;rw[aR rfl]at b;cases e:List.lookup x m with
   |none=>rw[e]at b;exact b.elim
   |some y=>rw[e]at b;obtain⟨w,l,j⟩:=rs.look e;exact⟨a,c,n,fs,w,rfl,d.fh _ _ h,i,r,l,b w F1 H1 d j⟩
  .rw[aS g]at b;exact b.elim
 |_=>exact b.elim
end
end L3
namespace L3
open PySem L2 PySem.Spec PyProof.Rows
structure Pm(K:W.Frag)(E:XK)(X:Cx)(e:Expr)(t:TE)(f:Pe->M T):Prop where
 pe:PE X e t
 me:ME K E t f
structure Ia(K:W.Frag)(E:XK)(X:Cx)(e:Expr)(t:TE)(f:Pe->M (List T)):Prop where
 pe:PE X e t
 mf:MF K E t f
structure Et(K:W.Frag)(E:XK)(X:Cx)(e:Expr)(t:TT)(f:Pe->M Bool):Prop where
 pt:PT X e t
 mt:MT K E t f
structure TN(K:W.Frag)(E:XK)(X:Cx)(e:Expr)(t:TT)(f:Pe->M Bool):Prop where
 pw:PW X e t
 mt:MT K E t f
structure Fi(K:W.Frag)(E:XK)(X:Cx)(es:List Expr)(t:TA)(f:Pe->M (List T)):Prop where
 pa:PA X es t
 ma:MA K E t f
structure Jx(K:W.Frag)(E:XK)(X:Cx)(tg it:Expr)(w:TI)(f:Pe->M (List T)):Prop where
 pi:PI X tg it w
 mi:MI K E w f
structure yi(K:W.Frag)(E:XK)(X:Cx)(tg it:Expr)(w:TI)(f:Pe->M (List T)):Prop where
 pi:PI X tg it w
 mi:Vg K E w f
structure Um(K:W.Frag)(X:Cx)(tg:Expr)(g:TG)(m:T->Pe->Option Pe):Prop where
 pg:PG X tg g
 mg:MG K g m
structure QM(K:W.Frag)(X:Cx)(tg:List Expr)(g:NI)(m:List T->Pe->Option Pe):Prop where
 pg:Ul X tg g
 mg:Uv K g m
structure Ui(K:W.Frag)(X:Cx)(tg:Expr)(g:TG)(m:T->En->Option En):Prop where
 pg:PG X tg g
 mg:NO K g m
structure QO(K:W.Frag)(X:Cx)(tg:List Expr)(g:NI)(m:List T->En->Option En):Prop where
 pg:Ul X tg g
 mg:M9 K g m
structure Aw(K:W.Frag)(E:XK)(X:Cx)(st:Stmt)(t:TS)(g:En->O):Prop where
 ps:PS X st t
 ms:MS K E t g
structure qY(K:W.Frag)(E:XK)(X:Cx)(sts:List Stmt)(t:TS)(g:En->O):Prop where
 ps:BU X sts t
 ms:MS K E t g
noncomputable def MO(K:W.Frag)(E:XK)(t:TO)(f:Pe->M (Option Int)):Prop:=∀F H c a Q,ij F H->l7 K F c a->(f a).res (λo=>∀d b,Gr F H d b->Q o b) (kE E F H)->t c H Q
structure V2(K:W.Frag)(E:XK)(X:Cx)(e:Option Expr)(t:TO)(f:Pe->M (Option Int)):Prop where
 po:PO X e t
 mo:MO K E t f
structure Nc(K:W.Frag)(E:XK)(X:Cx)(es:List Expr)(t:TT)(f:Pe->M Bool):Prop where
 pf:Iy X es t
 mt:MT K E t f
section
variable {K:W.Frag}{E:XK}{X:Cx}{a b c e o:Expr}{es:List Expr}{ta tb tc te to:TE}{fa fb fc fe fo:Pe->M T}{tr:TA}{fr:Pe->M (List T)}{pos p p2 apos:Pos}
def hU i (f:X.N[i]? = some x:=by rfl) (hv:Uj X.env.scope x:=by first|exact Or.inl rfl|exact Or.inr (Or.inl rfl)|exact Or.inr (Or.inr rfl)) (g:(x==("__debug__" : Str))=false:=by decide)
  (d:(x==("__classdict__" : Str))=false:=by decide):Pm K E X (.Name x pos) (m7 i) (gP i):=⟨pv i f hv g d,RM⟩
def kh{j pos}:Pm K E X (.Constant (.int i) j pos) (tC (.int i)) (cM (.int i)):=⟨FM,P2 λ_=>.int i⟩
def Ux{b:Bool}{j pos}:Pm K E X (.Constant (.bool b) j pos) (tC (.bl b)) (cM (.bl b)):=⟨J8,P2 λ_=>.bl b⟩
def KR{j pos}:Pm K E X (.Constant .none j pos) (tC .non) (cM .non):=⟨TR,P2 λ_=>.non⟩
def Do i (d:∃t,X.mg x=some (.int i t)) (g:Gl X x:=by rfl) (f:(x==("__debug__" : Str))=false:=by decide):Pm K E X (.Name x pos) (tC (.int i)) (cM (.int i)):=let ⟨t,h⟩:=d;⟨QE g h ⟨t,rfl⟩ f,P2 λ_=>.int i⟩
def j8(h:Ia K E X e te f):Pm K E X e te (λρ=>(f ρ).bind λts=>.ok (.lst ts)):=⟨h.pe,h.mf.me⟩
def yD(g:rK X (binaryOp op) r)(hr:MR K r m)(f:Pm K E X a ta fa)(d:Pm K E X b tb fb):Pm K E X (.BinOp a op b pos) (wN r ta tb) (ik m fa fb):=⟨Ke g f.pe d.pe,Gs hr f.me d.me⟩
def Lx(K:W.Frag):R2:=λx y H Q=>(Ge λi j=>.int (i+j)) x y H Q\/(∃i j,x=.str i/\y=.str j/\i.length+j.length<=sizeLine/\Q (.str (i++j)) H)\/Se x y H Q\/
 ∃a b d f,x=.ref a/\y=.ref b/\H a=some (.tup d)/\H b=some (.tup f)/\d.length+f.length<=sizeLine/\(d=[]->Q (.ref b) H)/\(d≠[]->f=[]->Q (.ref a) H)/\(d≠[]->f≠[]->∀p,H p=none->Q (.ref p) (i6 H p (.tup (d++f))))
def Oa(hK:X.K=K:=by rfl):rK X (binaryOp .Add) (Lx K):=by
 subst hK;intro j s i H x y v u Q I f d h;rcases h with h|h|h|h
 .exact Sx j s i H x y v u Q I f d h
 .exact E1 j s i H x y v u Q I f d h
 .exact J9 j s i H x y v u Q I f d h
 .obtain⟨a,b,r,ys,rfl,rfl,w,q,B,Z,Y,q3⟩:=h;by_cases g:r=[]
  .subst g;cases f;cases d;obtain⟨C,D,J,_⟩:=I.tuple (nu.of w);obtain⟨n,r2,p2,_⟩:=I.tuple (nu.of q);cases D;obtain⟨⟨c1,d1,e1,L⟩,m,U,n1,l⟩:=id J;obtain⟨⟨c2,S,e2,P⟩,z,N,A,k⟩:=id p2;subst U l N k;exact concat_meets ⟨_,m,rfl⟩ ⟨_,z,rfl⟩ noFill_tuple_add seq_tuple_add PySem.F.slot_tuple_add PySem.F.entry_tuple_add (PySem.F.args_tuple_add_2 _ _) (tuple_addW0 a b _ _ n1 A d1 S L P (by simp)) ⟨m,z,⟨.ref b,H,I,rfl,Z rfl⟩⟩
  .exact P4 j s i H _ _ v u Q I f d ⟨a,b,r,ys,rfl,rfl,nu.of w,nu.of q,g,B,λe=>Y g e,λe p R=>q3 g e p R⟩
noncomputable def jl:T->T->M T
 |.int i,.int j=>.ok (.int (i+j))
 |.str i,.str j=>if i.length+j.length<=sizeLine then .ok (.str (i++j)) else .bad
 |.lst a,.lst b=>if a.length+b.length<=sizeLine then .ok (.lst (a++b)) else .bad
 |.tup a,.tup b=>if a.length+b.length<=sizeLine then .ok (.tup (a++b)) else .bad
 |_,_=>.bad
def Pg x y:M.NoE (jl x y):=λC n=>by unfold jl;split<;>first|(intro z;cases z;done)|(split<;>intro z<;>cases z)
def Qj:MR K (Lx K) jl:=⟨Pg,λF H v w x y Q s r l q=>by
 cases r with
 |int i=>
  cases l with
  |int j=>exact .inl ⟨i,j,rfl,rfl,kV.now q s (.int _)⟩
  |_=>exact q.elim
 |str i=>
  cases l with
  |str j=>
   have d:(if i.length+j.length<=sizeLine then M.ok (T.str (i++j)) else M.bad).res (kV K F H Q) (λ_ _=>False):=q;by_cases h:i.length+j.length<=sizeLine
   .rw[aR h]at d;exact .inr (.inl ⟨i,j,rfl,rfl,h,kV.now d s (.str _)⟩)
   .rw[aS h]at d;exact d.elim
  |_=>exact q.elim
 |lst h1 r1=>
  cases l with
  |lst h2 r2=>
   rename_i a m f b n g;have d:(if f.length+g.length<=sizeLine then M.ok (T.lst (f++g)) else M.bad).res (kV K F H Q) (λ_ _=>False):=q;by_cases h:f.length+g.length<=sizeLine
   .rw[aR h]at d;refine .inr (.inr (.inl ⟨a,b,m,n,rfl,rfl,s _ _ h1,s _ _ h2,by rw[r1.length,r2.length];exact h,λp k=>?_⟩));exact d (.ref p) _ _ (.new s k) (.lst g9 ((r1.append r2).mono (Gr.new s k).ff))
   .rw[aS h]at d;exact d.elim
  |_=>exact q.elim
 |tup h1 r1=>
  cases l with
  |tup h2 r2=>
   rename_i a m f b n g;have d:(if f.length+g.length<=sizeLine then M.ok (T.tup (f++g)) else M.bad).res (kV K F H Q) (λ_ _=>False):=q;by_cases h:f.length+g.length<=sizeLine
   .rw[aR h]at d;refine .inr (.inr (.inr ⟨a,b,m,n,rfl,rfl,s _ _ h1,s _ _ h2,by rw[r1.length,r2.length];exact h,λe=>?_,λ_ e=>?_,λ_ _ p k=>?_⟩))
    .subst e;cases r1;exact kV.now d s (.tup h2 r2)
    .subst e;cases r2;exact kV.now d s (.tup h1 (by rw[bL];exact r1))
    .exact d (.ref p) _ _ (.new s k) (.tup g9 ((r1.append r2).mono (Gr.new s k).ff))
   .rw[aS h]at d;exact d.elim
  |_=>exact q.elim
 |_=>exact q.elim⟩
def s9(g:Pm K E X a ta fa)(d:Pm K E X b tb fb)(f:X.K=K:=by rfl):Pm K E X (.BinOp a .Add b pos) (wN (Lx K) ta tb) (ik jl fa fb):=yD (Oa f) Qj g d
@[simp] noncomputable def yh(fa fb:Pe->M T):Pe->M (List T):=λd=>(fa d).bind λx=>(fb d).bind λy=>match x,y with
 |.lst a,.lst b=>if a.length+b.length<=sizeLine then .ok (a++b) else .bad
 |_,_=>.bad
def EK(u:Pm K E X a ta fa)(r:Pm K E X b tb fb):Ia K E X (.BinOp a .Add b pos) (wN Se ta tb) (yh fa fb):=by
 refine⟨Ke J9 u.pe r.pe,λF H L J Q s V q=>?_⟩;refine u.me.run s V q λx v P N j z C=>?_;refine r.me.run j.fh (V.mono j.ff) C λy w n B d A m=>?_;cases z with
 |lst h1 t1=>
  cases A with
  |lst h2 t2=>
   rename_i a D i b I l;have g:(if i.length+l.length<=sizeLine then M.ok (i++l) else M.bad).res (kF K F H Q) (kE E n B):=m;by_cases h:i.length+l.length<=sizeLine
   .rw[aR h]at g;refine⟨a,b,D,I,rfl,rfl,d.fh _ _ (d.ff _ _ h1),d.fh _ _ h2,by rw[t1.length,t2.length];exact h,λp k=>?_⟩;have f:=j.trans d;exact g p _ n _ (f.trans (.new' d.fh k)) (iC f.hh k) (iC d.fh k) g9 ((t1.mono d.ff).append t2)
   .rw[aS h]at g;exact g.elim
  |_=>exact m.elim
 |_=>exact m.elim
noncomputable def wK:T->T->M T:=mv (λ_ _=>true) λi j=>.int (i-j)
def zm(d:Pm K E X a ta fa)(f:Pm K E X b tb fb):Pm K E X (.BinOp a .Sub b pos) (wN (Ge λi j=>.int (i-j)) ta tb) (ik wK fa fb):=yD T2 (uW λ_ _ _=>.int _) d f
instance {i j:Int}:Decidable (PySem.IntMulOk i j):=inferInstanceAs (Decidable (¬_))
noncomputable def mF:T->T->M T:=mv (λi j=>decide (PySem.IntMulOk i j)) λi j=>.int (i*j)
def RA(d:Pm K E X a ta fa)(f:Pm K E X b tb fb):Pm K E X (.BinOp a .Mult b pos) (wN (rI (λi j=>PySem.IntMulOk i j) λi j=>.int (i*j)) ta tb) (ik mF fa fb):=yD N5 (Cc (λi j h=>of_decide_eq_true h) λ_ _ _=>.int _) d f
noncomputable def uH:T->T->M T:=mv (λi j=>decide (j≠0)&&!Builtin.divisionGoesByPylong i j) λi j=>.int (i.fdiv j)
def HE(d:Pm K E X a ta fa)(f:Pm K E X b tb fb):Pm K E X (.BinOp a .FloorDiv b pos) (wN (rI (λi j=>j≠0/\Builtin.divisionGoesByPylong i j=false) λi j=>.int (i.fdiv j)) ta tb) (ik uH fa fb):=yD Jy (Cc (λi j h=>by simpa using h) λ_ _ _=>.int _) d f
noncomputable def yL:T->T->M T:=mv (λ_ j=>decide (j≠0)) λi j=>.int (i.fmod j)
def TV(d:Pm K E X a ta fa)(f:Pm K E X b tb fb):Pm K E X (.BinOp a .Mod b pos) (wN (rI (λ_ j=>j≠0) λi j=>.int (i.fmod j)) ta tb) (ik yL fa fb):=yD OJ (Cc (λi j h=>by simpa using h) λ_ _ _=>.int _) d f
noncomputable def QD:T->T->M T:=mv (λi j=>decide (0<=j)&&decide (j<=1000000)&&decide (i.natAbs<18446744073709551616)) λi j=>.int (i ^ j.toNat)
def T3(d:Pm K E X a ta fa)(f:Pm K E X b tb fb):Pm K E X (.BinOp a .Pow b pos) (wN (rI Ut λi j=>.int (i ^ j.toNat)) ta tb) (ik QD fa fb):=yD Sg (Cc (λi j h=>by simp only[bU,decide_eq_true_eq]at h;exact⟨h.1.1,h.1.2,h.2⟩) λ_ _ _=>.int _) d f
def K1(d:Pm K E X a ta fa):Pm K E X (.UnaryOp .USub a pos) (Wg (rU λi=>.int (-i)) ta) (rW (λi=>.int (-i)) fa):=⟨Rk MB d.pe,Vm (λ_ _=>.int _) d.me⟩
@[simp] noncomputable def IM(fa fb:Pe->M T):Pe->M (List T):=λd=>(fa d).bind λx=>(fb d).bind λy=>match x,y with
 |.lst a,.int k=>if FB k=true/\a.length*k.toNat<=sizeLine then .ok (List.replicate k.toNat a).flatten else .bad
 |_,_=>.bad
def J0(u:Pm K E X a ta fa)(r:Pm K E X b tb fb):Ia K E X (.BinOp a .Mult b pos) (wN Vn ta tb) (IM fa fb):=by
 refine⟨Ke RI u.pe r.pe,λF H J I Q s V q=>?_⟩;refine u.me.run s V q λx v N L j z C=>?_;refine r.me.run j.fh (V.mono j.ff) C λy w n B d A m=>?_;cases z with
 |lst h1 t1=>
  cases A with
  |int k=>
   rename_i a D i;have g:(if FB k=true/\i.length*k.toNat<=sizeLine then M.ok (List.replicate k.toNat i).flatten else M.bad).res (kF K F H Q) (kE E n B):=m;by_cases h:FB k=true/\i.length*k.toNat<=sizeLine
   .rw[aR h]at g;refine⟨a,k,D,rfl,rfl,d.fh _ _ (d.ff _ _ h1),by have:=si h.1;rw[VG]at this;rw[VR];omega,by have:=si h.1;rw[VG]at this;rw[VR];omega,by rw[t1.length];exact h.2,λp l=>?_⟩;have f:=j.trans d;exact g p _ n _ (f.trans (.new' d.fh l)) (iC f.hh l) (iC d.fh l) g9 ((t1.mono d.ff).rep k.toNat)
   .rw[aS h]at g;exact g.elim
  |_=>exact m.elim
 |_=>exact m.elim
def sA(h:Pm K E X e te fe)(f:∀d,isTrue e X.env d=(do let v <-d;standAt e.pos;holding [v] (truthy v)):=by intro _;rfl):Et K E X e (tB te) (jL fe):=⟨Sa h.pe f,NW h.me⟩
section
variable {tA tD:TT}{fA fD:Pe->M Bool}{mY:List Expr}
def oU(h:Et K E X a tA fA):Et K E X (.UnaryOp .Not a pos) (S3 tA) (qC fA):=⟨SM h.pt,RS h.mt⟩
def IY(h:TN K E X a tA fA):Et K E X a tA fA:=⟨PW.pt h.pw,h.mt⟩
def DA(h:Et K E X a tA fA):TN K E X (.BoolOp .And [a] pos) tA fA:=⟨OF h.pt,h.mt⟩
def uj(h:Et K E X a tA fA):TN K E X (.BoolOp .Or [a] pos) tA fA:=⟨TH h.pt,h.mt⟩
def GK(h:Et K E X a tA fA)(h':TN K E X (.BoolOp .And (b::mY) pos) tD fD):TN K E X (.BoolOp .And (a::b::mY) pos) (Td tA tD) (zE fA fD):=⟨Tq h.pt h'.pw,SV h.mt h'.mt⟩
def xY(h:Et K E X a tA fA)(h':TN K E X (.BoolOp .Or (b::mY) pos) tD fD):TN K E X (.BoolOp .Or (a::b::mY) pos) (WI tA tD) (Jd fA fD):=⟨VE h.pt h'.pw,UY h.mt h'.mt⟩
def zf{op}(h:Pm K E X a ta fa):Pm K E X (.BoolOp op [a] pos) ta fa:=⟨RW h.pe,h.me⟩
def yR(h:Pm K E X a ta fa)(h':Pm K E X (.BoolOp .And (b::mY) pos) tb fb):Pm K E X (.BoolOp .And (a::b::mY) pos) (L9 ta tb) (zM fa fb):=⟨RF h.pe h'.pe,Pc h.me h'.me⟩
def Bq(h:Pm K E X a ta fa):Pm K E X (.UnaryOp .Not a pos) (Lq ta) (Cg fa):=⟨SF h.pe,Pk h.me⟩
end
def EW(g:rK X (compareOp op) r)(hr:MR K r m)(d:Pm K E X a ta fa)(f:Pm K E X b tb fb)(h:behindInMarks op b=false:=by exact vA _):Pm K E X (.Compare a [op] [b] pos) (wN r ta tb) (ik m fa fb):=⟨OW g d.pe f.pe h,Gs hr d.me f.me⟩
def kq(g:rK X (compareOp op) r)(hr:MR K r m)(d:Pm K E X a ta fa)(f:Pm K E X b tb fb)(h:behindInMarks op b=false:=by exact vA _):Et K E X (.Compare a [op] [b] pos) (AO (wN r ta tb)) (jL (ik m fa fb)):=⟨Ph g d.pe f.pe h,Pj (Gs hr d.me f.me)⟩
noncomputable def U4:T->T->M T:=mv (λ_ _=>true) λi j=>.bl (decide (i<j))
noncomputable def UU:T->T->M T:=mv (λ_ _=>true) λi j=>.bl (decide (i<=j))
noncomputable def Ub:T->T->M T:=mv (λ_ _=>true) λi j=>.bl (decide (j<i))
noncomputable def Vu:T->T->M T:=mv (λ_ _=>true) λi j=>.bl (decide (j<=i))
def G1:MR K (Ge λi j=>.bl (decide (i<j))) U4:=uW λ_ _ _=>.bl _
def GB:MR K (Ge λi j=>.bl (decide (i<=j))) UU:=uW λ_ _ _=>.bl _
def JS:MR K (Ge λi j=>.bl (decide (j<i))) Ub:=uW λ_ _ _=>.bl _
def J5:MR K (Ge λi j=>.bl (decide (j<=i))) Vu:=uW λ_ _ _=>.bl _
@[simp] noncomputable def V4(m f:T->T->M T)(fa fb fc:Pe->M T):Pe->M T:=λd=>(fa d).bind λx=>(fb d).bind λy=>(m x y).bind λz=>match z with
 |.bl true=>(fc d).bind λw=>f y w
 |.bl false=>.ok (.bl false)
 |_=>.bad
def Nx(hr:MR K r m)(f:MR K r' m')(Z:ME K E ta fa)(P:ME K E tb fb)(hc:ME K E tc fc):ME K E (EO r r' ta tb tc) (V4 m m' fa fb fc):=λF H σ ρ Q s V q=>by
 refine Z.run s V q λx v F1 H1 l C S=>?_;refine P.run l.fh (V.mono l.ff) S λy w I L n A R=>?_;refine hr.ok I L v w x y _ n.fh (C.mono n.ff) A (((M.res.unb R).ne (hr.ne x y)).mono (λz j v3 D Y g J=>?_) λ_ _ z=>z);have d:=(l.trans n).trans g;cases J with
 |bl k=>
  refine⟨k,rfl,?_⟩;cases k with
  |true=>rw[aR rfl];have i:=j.mono (λ_ z=>z) λ_ _ z=>z.go g;refine hc.run g.fh (V.mono d.ff) i λu w4 U N h r4 B=>?_;exact f.ok U N w w4 y u Q h.fh (A.mono (g.ff.trans h.ff)) r4 ((B.ne (f.ne y u)).mono (λ_ z=>z.go (d.trans h)) λ_ _ z=>z)
  |false=>rw[aS aI];exact j _ D Y d (.bl _)
 |_=>exact j.elim
def Dk(j:rK X (compareOp op) r)(hr:MR K r m)(d:rK X (compareOp op') r')(f:MR K r' m')(g:Pm K E X a ta fa)(h:Pm K E X b tb fb)(i:Pm K E X c tc fc)
  (k:lastMarks [op,op'] [b,c]=false:=by with_unfolding_all rfl):Pm K E X (.Compare a [op,op'] [b,c] pos) (EO r r' ta tb tc) (V4 m m' fa fb fc):=⟨LO j d g.pe h.pe i.pe k,Nx hr f g.me h.me i.me⟩
mutual
noncomputable def vm:T->Bool
 |.str x=>PyData.canLay0 (.str x)
 |.lst ts=>uV ts
 |.tup ts=>uV ts
 |.scr _=>false
 |.obj _ _=>false
 |.emp=>false
 |.dic _=>false
 |_=>true
noncomputable def uV:List T->Bool
 |[]=>true
 |t::ts=>vm t&&uV ts
end
mutual
def FW:T->PyData
 |.non=>.none
 |.bl b=>.bool b
 |.int i=>.int i
 |.str x=>.str x
 |.lst ts=>.list (wH ts)
 |.tup ts=>.tuple (wH ts)
 |.scr _=>.none
 |.obj _ _=>.none
 |.emp=>.none
 |.dic _=>.none
def wH:List T->List PyData
 |[]=>[]
 |t::ts=>FW t::wH ts
end
mutual
theorem Mu{F:Hp}:∀{v:V} {t:T},lA K F v t->vm t=true->DV K F v (FW t)
 |_,_,.non,_=>.non
 |_,_,.bl b,_=>.bl b
 |_,_,.int i,_=>.int i
 |_,_,.str x,_=>.str x
 |_,_,.lst h r,l=>.lst (l9.of h) (EM r (by simpa[vm] using l))
 |_,_,.tup h r,l=>.tup (nu.of h) (EM r (by simpa[vm] using l))
 |_,_,.scr _,l=>by simp[vm]at l
 |_,_,.obj _ _,l=>by simp[vm]at l
 |_,_,.emp _,l=>by simp[vm]at l
 |_,_,.dic _ _,l=>by simp[vm]at l
theorem EM{F:Hp}:∀{vs:List V} {ts:List T},iy K F vs ts->uV ts=true->Ed K F vs (wH ts)
 |_,_,.nil,_=>.nil
 |_,_,.cons h r,l=>by rw[uV,bU]at l;exact .cons (Mu h l.1) (EM r l.2)
end
mutual
theorem Bu:∀t,vm t=true->(FW t).canLay0=true
 |.non,_=>rfl
 |.bl b,_=>rfl
 |.int i,_=>rfl
 |.str x,h=>by simpa[vm,FW] using h
 |.lst ts,h=>by rw[FW,PyData.canLay0];exact yI ts (by simpa[vm] using h)
 |.tup ts,h=>by rw[FW,PyData.canLay0];exact yI ts (by simpa[vm] using h)
 |.scr _,h=>by simp[vm]at h
 |.obj _ _,h=>by simp[vm]at h
 |.emp,h=>by simp[vm]at h
 |.dic _,h=>by simp[vm]at h
theorem yI:∀ts,uV ts=true->PyData.canLayAll0 (wH ts)=true
 |[],_=>rfl
 |t::ts,h=>by rw[uV,bU]at h;rw[wH,PyData.canLayAll0,Bu t h.1,yI ts h.2];rfl
end
noncomputable def IE(x y:T):Bool:=(FW x).eqv (FW y)
noncomputable def BH(xs a:List T):Bool:=PyData.eqvAll (wH xs) (wH a)
noncomputable def Hk(t:T):Nat:=(FW t).depth
noncomputable def vC(ts:List T):Nat:=PyData.depthAll (wH ts)
@[simp] theorem VM i:Hk (.int i)=0:=rfl
@[simp] theorem Wn i:Hk (.bl i)=0:=rfl
@[simp] theorem VN i:Hk (.str i)=0:=rfl
@[simp] theorem V9:Hk .non=0:=rfl
@[simp] theorem VW ts:Hk (.lst ts)=vC ts+1:=by unfold Hk vC;rw[FW,PyData.depth]
@[simp] theorem Qu ts:Hk (.tup ts)=vC ts+1:=by unfold Hk vC;rw[FW,PyData.depth]
@[simp] theorem UC:vC []=0:=rfl
@[simp] theorem Jl t ts:vC (t::ts)=max (Hk t) (vC ts):=by unfold Hk vC;rw[wH,PyData.depthAll]
@[simp] theorem Qm i j:IE (.int i) (.int j)=(i==j):=rfl
@[simp] theorem VX i j:IE (.str i) (.str j)=(i==j):=rfl
def Hv xs ys:IE (.lst xs) (.lst ys)=BH xs ys:=by unfold IE BH;rw[FW,FW,PyData.eqv]
def vL x xs y ys:BH (x::xs) (y::ys)=(IE x y&&BH xs ys):=by unfold IE BH;rw[wH,wH,PyData.eqvAll]
noncomputable def iY(neg:Bool):T->T->M T:=λx y=>if vm x&&vm y&&decide (Hk x<=100) then .ok (.bl (if neg then !IE x y else IE x y)) else .bad
mutual
theorem DV.same{F H:Hp}(s:ij F H):∀{v:V} {d:PyData},DV K F v d->DV K H v d
 |_,_,.non=>.non
 |_,_,.bl b=>.bl b
 |_,_,.int i=>.int i
 |_,_,.str x=>.str x
 |_,_,.lst h r=>.lst (s.seq h) (Ed.same s r)
 |_,_,.tup h r=>.tup (s.seqT h) (Ed.same s r)
theorem Ed.same{F H:Hp}(s:ij F H):∀{v:List V} {d:List PyData},Ed K F v d->Ed K H v d
 |_,_,.nil=>.nil
 |_,_,.cons h r=>.cons (DV.same s h) (Ed.same s r)
end
def Oo x y:M.NoE (iY neg x y):=λC n=>by unfold iY;split<;>exact λz=>nomatch z
def GV(neg:Bool):MR K (FJ K neg) (iY neg):=⟨Oo,λF H v w x y Q s b a q=>by
 unfold iY at q;by_cases h:(vm x&&vm y&&decide (Hk x<=100))=true
 .rw[aR h]at q;simp only[bU,decide_eq_true_eq]at h;refine⟨FW x,FW y,DV.same s (Mu b h.1.1),DV.same s (Mu a h.1.2),⟨Bu x h.1.1,Bu y h.1.2,by exact h.2⟩,?_⟩;exact kV.now q s (.bl _)
 .rw[aS h]at q;exact q.elim⟩
def Hs{k:Nat}(hr:je k X.A)(c:Pm K E X a ta fa)(e:Pm K E X b tb fb)(f:X.K=K:=by rfl)(d:behindInMarks .Eq b=false:=by exact vA _):Pm K E X (.Compare a [.Eq] [b] pos) (wN (FJ K false) ta tb) (ik (iY false) fa fb):=EW (f▸Lc (VO hr)) (GV false) c e d
def Vt{k:Nat}(hr:je k X.A)(c:Pm K E X a ta fa)(e:Pm K E X b tb fb)(f:X.K=K:=by rfl)(d:behindInMarks .NotEq b=false:=by exact vA _):Pm K E X (.Compare a [.NotEq] [b] pos) (wN (FJ K true) ta tb) (ik (iY true) fa fb):=EW (f▸Kq (VO hr)) (GV true) c e d
def EN{k:Nat}(hr:je k X.A)(c:Pm K E X a ta fa)(e:Pm K E X b tb fb)(f:X.K=K:=by rfl)(d:behindInMarks .Eq b=false:=by exact vA _):Et K E X (.Compare a [.Eq] [b] pos) (AO (wN (FJ K false) ta tb)) (jL (ik (iY false) fa fb)):=kq (f▸Lc (VO hr)) (GV false) c e d
def MN{k:Nat}(hr:je k X.A)(c:Pm K E X a ta fa)(e:Pm K E X b tb fb)(f:X.K=K:=by rfl)(d:behindInMarks .NotEq b=false:=by exact vA _):Et K E X (.Compare a [.NotEq] [b] pos) (AO (wN (FJ K true) ta tb)) (jL (ik (iY true) fa fb)):=kq (f▸Kq (VO hr)) (GV true) c e d
@[simp] noncomputable def FD(neg:Bool):T->T->M T:=λx y=>match y with
 |.non=>.ok (.bl (match x with|.non=>!neg|_=>neg))
 |_=>.bad
def OQ x y:M.NoE (FD neg x y):=λC n=>by cases y<;>exact λz=>nomatch z
def JO:MR K (λx y H Q=>y=.non/\Q (.bl (decide (x=.non))) H) (FD false):=⟨OQ,λF H v w x y Q s b a q=>by
 cases a with
 |non=>refine⟨rfl,?_⟩;cases b<;>exact kV.now q s (.bl _)
 |_=>exact q.elim⟩
noncomputable def lN:T->Bool
 |.non=>true
 |.bl _=>true
 |.int _=>true
 |.str _=>true
 |_=>false
noncomputable def wV(x:T)(ts:List T):Bool:=ts.any λy=>IE y x
def lA.flat{F:Hp}{v:V}{x:T}(r:lA K F v x)(h:lN x=true):ng v=true:=by cases r<;>first|rfl|(simp[lN]at h;done)
theorem iy.flat{F:Hp}:∀{vs:List V} {xs:List T},iy K F vs xs->xs.all lN=true->vs.all ng=true
 |_,_,.nil,_=>rfl
 |_,_,.cons h r,q=>by rw[bW,bU]at q ⊢;exact⟨h.flat q.1,iy.flat r q.2⟩
def UT{F:Hp}{v w:V}{x y:T}(r:lA K F v x)(a:lA K F w y)(h:lN x=true)(h':lN y=true):NN v w=IE x y:=by cases r<;>first|(exfalso;simp[lN]at h;done)|(cases a<;>first|(exfalso;simp[lN]at h';done)|rfl|simp[NN])
theorem MV{F:Hp}{v:V}{x:T}(r:lA K F v x)(h:lN x=true):∀{vs:List V} {xs:List T},iy K F vs xs->xs.all lN=true->V1 v vs=wV x xs
 |_,_,.nil,_=>rfl
 |_,_,.cons q rs,l=>by rw[bW,bU]at l;have a:=MV r h rs l.2;unfold V1 wV at a ⊢;rw[bX,bX,a,UT q r l.1 h]
noncomputable def HJ(neg:Bool):T->T->M T:=λx y=>match y with
 |.lst ts=>if lN x&&ts.all lN then .ok (.bl (if neg then !wV x ts else wV x ts)) else .bad
 |.tup ts=>if lN x&&ts.all lN then .ok (.bl (if neg then !wV x ts else wV x ts)) else .bad
 |_=>.bad
def PX x y:M.NoE (HJ neg x y):=λC n=>by unfold HJ;split<;>first|(intro z;cases z;done)|(split<;>intro z<;>cases z)
def Vk(neg:Bool):MR K (Wq K neg) (HJ neg):=⟨PX,λF H v w x y Q s e g q=>by
 cases g with
 |lst h r=>
  rename_i a f c;have d:(if lN x&&c.all lN then M.ok (T.bl (if neg then !wV x c else wV x c)) else M.bad).res (kV K F H Q) (λ_ _=>False):=q;by_cases b:(lN x&&c.all lN)=true
  .rw[aR b]at d;rw[bU]at b;exact⟨a,f,rfl,.inl (l9.of (s _ _ h)),e.flat b.1,r.flat b.2,by rw[MV e b.1 r b.2];exact kV.now d s (.bl _)⟩
  .rw[aS b]at d;exact d.elim
 |tup h r=>
  rename_i a f c;have d:(if lN x&&c.all lN then M.ok (T.bl (if neg then !wV x c else wV x c)) else M.bad).res (kV K F H Q) (λ_ _=>False):=q;by_cases b:(lN x&&c.all lN)=true
  .rw[aR b]at d;rw[bU]at b;exact⟨a,f,rfl,.inr (nu.of (s _ _ h)),e.flat b.1,r.flat b.2,by rw[MV e b.1 r b.2];exact kV.now d s (.bl _)⟩
  .rw[aS b]at d;exact d.elim
 |_=>exact q.elim⟩
end
end L3
namespace L3
open PySem L2 PySem.Spec PyProof.Rows
section
variable {K:W.Frag}{E:XK}{X:Cx}{a b c e o tg it:Expr}{es:List Expr}{ta tb tc te to:TE}{fa fb fc fe fo:Pe->M T}{tr:TA}{fr:Pe->M (List T)}{pos p p2 apos:Pos}
def iz:Fi K E X [] v7 gR:=⟨tV,Fo⟩
def gY(d:Pm K E X e te fe)(hr:Fi K E X es tr fr)(f:starEach (e::es) X.env=(false,eval e X.env)::starEach es X.env:=by rfl):Fi K E X (e::es) (rG te tr) (gO fe fr):=⟨nR d.pe hr.pa f,ON d.me hr.ma⟩
def qt{x1}(h:Fi K E X es tr fr):Pm K E X (.Tuple es x1 pos) (RT tr) (mC fr):=⟨KH h.pa,Sw h.ma⟩
def F8(h:Fi K E X es tr fr):Ia K E X (.List es pos) (SR tr) (lstM fr):=⟨TM h.pa,Tt h.ma⟩
structure MC(K:W.Frag)(r:List V->Hp->VK->Prop)(o:List T->M T):Prop where
 ne:∀xs,M.NoE (o xs)
 ok:∀F H vs xs Q,ij F H->iy K F vs xs->(o xs).res (kV K F H Q) (λ_ _=>False)->r vs H Q
structure Ws(K:W.Frag)(r:List V->Hp->VK->Prop)(o:List T->M (List T)):Prop where
 ne:∀xs,M.NoE (o xs)
 ok:∀F H vs xs Q,ij F H->iy K F vs xs->(o xs).res (kF K F H Q) (λ_ _=>False)->r vs H Q
@[simp] noncomputable def lC(o:List T->M T)(fr:Pe->M (List T)):Pe->M T:=λd=>(fr d).bind o
@[simp] noncomputable def LN(o:List T->M (List T))(fr:Pe->M (List T)):Pe->M (List T):=λd=>(fr d).bind o
def QZ{o:List T->M T}(g:MC K r o)(k:MA K E tr fr):ME K E (NJ r tr) (lC o fr):=λF H u n Q s V q=>by refine k.run s V q λf h m l d i j=>?_;exact g.ok m l h f Q d.fh i ((j.ne (g.ne f)).mono (λ_ z=>z.go d) λ_ _ z=>z)
def UJ{o:List T->M (List T)}(g:Ws K r o)(k:MA K E tr fr):MF K E (NJ r tr) (LN o fr):=λF H u n Q s V q=>by refine k.run s V q λf h m l d i j=>?_;exact g.ok m l h f Q d.fh i ((j.ne (g.ne f)).mono (λ_ z=>z.go d) λ_ _ z=>z)
section
variable {x:Str}{id T':String}{r:List V->Hp->VK->Prop}{m:List T->M T}{mf:List T->M (List T)}
def il(n:lO X (.builtin id) r)(d:MC K r m)(l:Gl X x)(j:X.mg x=none)(hv:bootBuiltins x=some (.builtin id))(h:Fi K E X (e::es) tr fr)(i:x≠ "__name__" :=by decide)(g:(x==("__debug__" : Str))=false:=by decide)
  (k:starEach (e::es) X.env=(false,eval e X.env)::starEach es X.env:=by rfl) (f:(backTo pos (starEach es X.env)).any (·.1)=false:=by rfl):Pm K E X (.Call (.Name x p) (e::es) [] pos) (NJ r tr) (lC m fr):=⟨DW n l j hv h.pa i g k f,QZ d h.ma⟩
def kJ(n:lO X (.type T') r)(d:MC K r m)(l:Gl X x)(j:X.mg x=none)(hv:bootBuiltins x=some (.type T'))(h:Fi K E X (e::es) tr fr)(i:x≠ "__name__" :=by decide)(g:(x==("__debug__" : Str))=false:=by decide)
  (k:starEach (e::es) X.env=(false,eval e X.env)::starEach es X.env:=by rfl) (f:(backTo pos (starEach es X.env)).any (·.1)=false:=by rfl):Pm K E X (.Call (.Name x p) (e::es) [] pos) (NJ r tr) (lC m fr):=⟨vT n l j hv h.pa i g k f,QZ d h.ma⟩
def qg(n:lO X (.type T') r)(d:Ws K r mf)(l:Gl X x)(j:X.mg x=none)(hv:bootBuiltins x=some (.type T'))(h:Fi K E X (e::es) tr fr)(i:x≠ "__name__" :=by decide)(g:(x==("__debug__" : Str))=false:=by decide)
  (k:starEach (e::es) X.env=(false,eval e X.env)::starEach es X.env:=by rfl) (f:(backTo pos (starEach es X.env)).any (·.1)=false:=by rfl):Ia K E X (.Call (.Name x p) (e::es) [] pos) (NJ r tr) (LN mf fr):=⟨vT n l j hv h.pa i g k f,UJ d h.ma⟩
end
@[simp] noncomputable def l6:List T->M T
 |[.lst ts]=>.ok (.int ts.length)
 |[.tup ts]=>.ok (.int ts.length)
 |[.scr ns]=>.ok (.int ns.length)
 |[.str z]=>if z.length<=sizeLine then .ok (.int z.length) else .bad
 |_=>.bad
def N8 xs:M.NoE (l6 xs):=λC n=>by unfold l6;split<;>first|(intro z;cases z;done)|(split<;>first|(intro z;cases z;done)|(split<;>intro z<;>cases z))
def lR:MC K (λxs H Q=>∃x n,xs=[x]/\Rv K x H n/\Q (.int n) H) l6:=⟨N8,λF H g xs Q s r q=>by
 cases r with
 |nil=>exact q.elim
 |cons h t=>
  cases t with
  |cons _ _=>cases h<;>exact q.elim
  |nil=>
   cases h with
   |lst h r=>exact⟨_,_,rfl,.inl ⟨_,l9.of (s _ _ h),rfl⟩,by rw[r.length];exact kV.now q s (.int _)⟩
   |tup h r=>exact⟨_,_,rfl,.inr ⟨_,nu.of (s _ _ h),rfl⟩,by rw[r.length];exact kV.now q s (.int _)⟩
   |scr h=>exact⟨_,_,rfl,.inl ⟨_,s.seq h,rfl⟩,by rw[ax];exact kV.now q s (.int _)⟩
   |str z=>
    have d:(if z.length<=sizeLine then M.ok (T.int z.length) else M.bad).res (kV K F H Q) (λ_ _=>False):=q;by_cases f:z.length<=sizeLine
    .rw[aR f]at d;exact⟨_,z.length,rfl,⟨f,rfl⟩,kV.now d s (.int _)⟩
    .rw[aS f]at d;exact d.elim
   |_=>exact q.elim⟩
@[simp] noncomputable def wU:List T->M T
 |[.int i]=>.ok (.int (if i<0 then -i else i))
 |_=>.bad
def PB xs:M.NoE (wU xs):=λC n=>by unfold wU;split<;>first|(intro z;cases z;done)|(split<;>first|(intro z;cases z;done)|(split<;>intro z<;>cases z))
def tY:MC K (λxs H Q=>∃i,xs=[.int i]/\Q (.int (if i<0 then -i else i)) H) wU:=⟨PB,λF H d xs Q s r q=>by
 cases r with
 |nil=>exact q.elim
 |cons h t=>
  cases t with
  |cons _ _=>cases h<;>exact q.elim
  |nil=>
   cases h with
   |int i=>exact⟨i,rfl,kV.now q s (.int _)⟩
   |_=>exact q.elim⟩
@[simp] noncomputable def zY:List T->M T
 |[.int i,.int j]=>.ok (.int (if j>i then j else i))
 |_=>.bad
def JG xs:M.NoE (zY xs):=λC n=>by unfold zY;split<;>first|(intro z;cases z;done)|(split<;>first|(intro z;cases z;done)|(split<;>intro z<;>cases z))
def Qy:MC K (λxs H Q=>∃i j,xs=[.int i,.int j]/\Q (.int (if j>i then j else i)) H) zY:=⟨JG,λF H d xs Q s r q=>by
 unfold zY at q;split at q
 .exact⟨_,_,r.two,kV.now q s (.int _)⟩
 .exact q.elim⟩
@[simp] noncomputable def l0:List T->M T
 |[.lst ts]=>.ok (.tup ts)
 |[.tup ts]=>.ok (.tup ts)
 |[.scr ns]=>.ok (.tup (ns.map T.int))
 |_=>.bad
def FY xs:M.NoE (l0 xs):=λC n=>by unfold l0;split<;>first|(intro z;cases z;done)|(split<;>first|(intro z;cases z;done)|(split<;>intro z<;>cases z))
def lI:MC K (λxs H Q=>∃p f,xs=[.ref p]/\((l9 K H p f/\∀l,H l=none->Q (.ref l) (i6 H l (.tup f)))\/(nu K H p f/\Q (.ref p) H))) l0:=⟨FY,λF H g xs Q s r q=>by
 cases r with
 |nil=>exact q.elim
 |cons h t=>
  cases t with
  |cons _ _=>cases h<;>exact q.elim
  |nil=>
   cases h with
   |lst h r=>exact⟨_,_,rfl,.inl ⟨l9.of (s _ _ h),λl d=>q (.ref l) _ _ (.new s d) (.tup g9 (r.mono (Gr.new s d).ff))⟩⟩
   |scr h=>exact⟨_,_,rfl,.inl ⟨s.seq h,λl d=>q (.ref l) _ _ (.new s d) (.tup g9 (iy.of_ints _))⟩⟩
   |tup h r=>exact⟨_,_,rfl,.inr ⟨nu.of (s _ _ h),kV.now q s (.tup h r)⟩⟩
   |_=>exact q.elim⟩
@[simp] noncomputable def rj:List T->M (List T)
 |[.lst ts]=>.ok ts
 |[.tup ts]=>.ok ts
 |[.scr ns]=>.ok (ns.map T.int)
 |_=>.bad
def IZ xs:M.NoE (rj xs):=λC n=>by unfold rj;split<;>first|(intro z;cases z;done)|(split<;>first|(intro z;cases z;done)|(split<;>intro z<;>cases z))
def rA:Ws K (λxs H Q=>∃p f,xs=[.ref p]/\(l9 K H p f\/nu K H p f)/\∀l,H l=none->Q (.ref l) (i6 H l (.lst f))) rj:=⟨IZ,λF H g xs Q s r q=>by
 cases r with
 |nil=>exact q.elim
 |cons h t=>
  cases t with
  |cons _ _=>cases h<;>exact q.elim
  |nil=>
   cases h with
   |lst h r=>exact⟨_,_,rfl,.inl (l9.of (s _ _ h)),λl d=>q l _ F _ (.new' s d) d (iC s d) g9 r⟩
   |scr h=>exact⟨_,_,rfl,.inl (s.seq h),λl d=>q l _ F _ (.new' s d) d (iC s d) g9 (iy.of_ints _)⟩
   |tup h r=>exact⟨_,_,rfl,.inr (nu.of (s _ _ h)),λl d=>q l _ F _ (.new' s d) d (iC s d) g9 r⟩
   |_=>exact q.elim⟩
def kj:List T->Option (LI)
 |[]=>some []
 |.int i::ts=>(kj ts).bind λr=>some (i::r)
 |_::_=>none
theorem oC:∀{ts} {ns},kj ts=some ns->ts=ns.map T.int
 |[],_,e=>by cases e;rfl
 |t::ts,ns,e=>by
  cases t with
  |int i=>
   cases q:kj ts with
   |none=>simp[kj,q]at e
   |some r=>simp[kj,q]at e;subst e;rw[oC q];rfl
  |_=>cases e
@[simp] theorem vS ns:kj (ns.map T.int)=some ns:=by
 induction ns with
 |nil=>rfl
 |cons n ns ih=>simp[kj,ih]
def sO:List T->Option (List Bool)
 |[]=>some []
 |.bl i::ts=>(sO ts).bind λr=>some (i::r)
 |_::_=>none
theorem Av:∀{ts} {ns},sO ts=some ns->ts=ns.map T.bl
 |[],_,e=>by cases e;rfl
 |t::ts,ns,e=>by
  cases t with
  |bl i=>
   cases q:sO ts with
   |none=>simp[sO,q]at e
   |some r=>simp[sO,q]at e;subst e;rw[Av q];rfl
  |_=>cases e
@[simp] theorem VA ns:sO (ns.map T.bl)=some ns:=by
 induction ns with
 |nil=>rfl
 |cons n ns ih=>simp[sO,ih]
@[simp] noncomputable def FH:List T->M T
 |[.lst ts]=>match kj ts with
  |some ns=>.ok (.int ns.sum)
  |none=>.bad
 |_=>.bad
def Qz xs:M.NoE (FH xs):=λC n=>by unfold FH;split<;>first|(intro z;cases z;done)|(split<;>first|(intro z;cases z;done)|(split<;>intro z<;>cases z))
def Fp:MC K (λxs H Q=>∃(p:Addr) (d:LI),xs=[.ref p]/\l9 K H p (d.map V.int)/\Q (.int d.sum) H) FH:=⟨Qz,λF H i xs Q s r q=>by
 cases r with
 |nil=>exact q.elim
 |cons h t=>
  cases t with
  |cons _ _=>cases h<;>exact q.elim
  |nil=>
   cases h with
   |lst h r=>
    rename_i a xs g;have f:(match kj g with|some d=>M.ok (T.int d.sum)|none=>M.bad).res (kV K F H Q) (λ_ _=>False):=q;cases e:kj g with
    |none=>rw[e]at f;exact f.elim
    |some d=>rw[e]at f;rw[oC e]at r;have:=r.ints;subst this;exact⟨a,d,rfl,l9.of (s _ _ h),kV.now f s (.int _)⟩
   |_=>exact q.elim⟩
@[simp] noncomputable def zA:List T->M T
 |[.lst ts]=>match sO ts with
  |some ns=>.ok (.bl (ns.all id))
  |none=>.bad
 |_=>.bad
def Qn xs:M.NoE (zA xs):=λC n=>by unfold zA;split<;>first|(intro z;cases z;done)|(split<;>first|(intro z;cases z;done)|(split<;>intro z<;>cases z))
def yq:MC K (λxs H Q=>∃(p:Addr) (bs:List Bool),xs=[.ref p]/\l9 K H p (bs.map V.bl)/\Q (.bl (bs.all id)) H) zA:=⟨Qn,λF H g xs Q s r q=>by
 cases r with
 |nil=>exact q.elim
 |cons h t=>
  cases t with
  |cons _ _=>cases h<;>exact q.elim
  |nil=>
   cases h with
   |lst h r=>
    rename_i a xs f;have d:(match sO f with|some ns=>M.ok (T.bl (ns.all id))|none=>M.bad).res (kV K F H Q) (λ_ _=>False):=q;cases e:sO f with
    |none=>rw[e]at d;exact d.elim
    |some ns=>rw[e]at d;rw[Av e]at r;have:=r.bls;subst this;exact⟨a,ns,rfl,l9.of (s _ _ h),kV.now d s (.bl _)⟩
   |_=>exact q.elim⟩
@[simp] noncomputable def Uh:T->String
 |.non=> "NoneType"
 |.bl _=> "bool"
 |.int _=> "int"
 |.str _=> "str"
 |.tup _=> "tuple"
 |.lst _=> "list"
 |.scr _=> "script"
 |.obj _ _=> "object"
 |.emp=> "dict"
 |.dic _=> "table"
@[simp] noncomputable def RO(n:String)(x:T):M T:=match x with
 |.scr _=>.bad
 |.obj _ _=>.bad
 |.dic _=>.bad
 |x=>.ok (.bl (Uh x==n||(n == "int" && Uh x == "bool")))
def US(r:lA K F v x)(s:ij F H)(j:∀g,x≠.scr g)(f:∀C fs,x≠.obj C fs)(d:∀ks,x≠.dic ks):rF K H v (.type (Uh x)):=by
 cases r with
 |non=>exact .non
 |bl b=>exact .bl b
 |int i=>exact .int i
 |str x=>exact .str x
 |tup h r=>exact .tup (s _ _ h)
 |lst h r=>exact .lst (s _ _ h)
 |scr h=>exact absurd rfl (j _)
 |obj h r=>exact absurd rfl (f _ _)
 |emp h=>exact .dK (s _ _ h)
 |dic h r=>exact absurd rfl (d _)
@[simp] noncomputable def BS(n:String)(fe:Pe->M T):Pe->M T:=λd=>(fe d).bind λx=>RO n x
theorem RH(w:∀t∈["NoneType", "bool", "int", "str", "tuple", "list", "dict"],W.kitOne K (.type t) (.type n)=some (t==n||(n == "int" && t == "bool")))(A:ME K E te fe) :
  ME K E (NJ (λxs H Q=>∃x T t b,xs=[x,.ty T]/\rF K H x t/\W.kitOne K t (.type T)=some b/\Q (.bl b) H) (rG te (rG (tC (.ty n)) v7))) (BS n fe):=λF H I D Q s V q=>by
 refine A.run s V q λx v B j l u g=>?_;have d:∀b,RO n x=.ok (.bl b)->(∀h,x≠.scr h)->(∀C fs,x≠.obj C fs)->(∀i,x≠.dic i)->b=(Uh x==n||(n == "int" && Uh x == "bool"))->∃f T t b,[v,L2.V.ty n]=[f,.ty T]/\rF K j f t/\W.kitOne K t (.type T)=some b/\Q (.bl b) j:=by
  intro b e k r m y;rw[e]at g;refine⟨v,n,_,b,rfl,US u l.fh k r m,?_,g _ B j l (.bl _)⟩;rw[y];refine w _ ?_;cases x with
  |scr h=>exact absurd rfl (k h)
  |obj C fs=>exact absurd rfl (r C fs)
  |dic i=>exact absurd rfl (m i)
  |_=>simp[Uh]
 cases x with
 |scr h=>exact g.elim
 |obj C fs=>exact g.elim
 |dic i=>exact g.elim
 |non=>exact d _ rfl (λ_ z=>nomatch z) (λ_ _ z=>nomatch z) (λ_ z=>nomatch z) rfl
 |bl _=>exact d _ rfl (λ_ z=>nomatch z) (λ_ _ z=>nomatch z) (λ_ z=>nomatch z) rfl
 |int _=>exact d _ rfl (λ_ z=>nomatch z) (λ_ _ z=>nomatch z) (λ_ z=>nomatch z) rfl
 |str _=>exact d _ rfl (λ_ z=>nomatch z) (λ_ _ z=>nomatch z) (λ_ z=>nomatch z) rfl
 |tup _=>exact d _ rfl (λ_ z=>nomatch z) (λ_ _ z=>nomatch z) (λ_ z=>nomatch z) rfl
 |lst _=>exact d _ rfl (λ_ z=>nomatch z) (λ_ _ z=>nomatch z) (λ_ z=>nomatch z) rfl
 |emp=>exact d _ rfl (λ_ z=>nomatch z) (λ_ _ z=>nomatch z) (λ_ z=>nomatch z) rfl
def Qt K:∀n∈["int", "bool", "str", "tuple", "list"],∀t∈["NoneType", "bool", "int", "str", "tuple", "list", "dict"],W.kitOne K (.type t) (.type n)=some (t==n||(n == "int" && t == "bool")):=by intro n d t f;simp only[aG,dE,or_false]at d f;rcases d with rfl|rfl|rfl|rfl|rfl<;>rcases f with rfl|rfl|rfl|rfl|rfl|rfl|rfl<;>rfl
def rg n (i:n∈["int", "bool", "str", "tuple", "list"]) (q:X.mg "isinstance" = none) (m:X.mg x=none) (k:bootBuiltins x=some (.type n)) (r:Pm K E X e te fe) (u:X.K=K:=by rfl) (l:Gl X "isinstance" :=by rfl) (f:Gl X x:=by rfl)
  (g:x≠ "__name__" :=by decide) (d:(x==("__debug__" : Str))=false:=by decide)
  (s:starEach [e,.Name x p3] X.env=(false,eval e X.env)::starEach [.Name x p3] X.env:=by rfl) (h:starEach [.Name x p3] X.env=(false,eval (.Name x p3) X.env)::starEach [] X.env:=by rfl) (j:(backTo pos (starEach [.Name x p3] X.env)).any (·.1)=false:=by rfl) :
  Pm K E X (.Call (.Name "isinstance" p) [e,.Name x p3] [] pos) (NJ (λxs H Q=>∃x T t b,xs=[x,.ty T]/\rF K H x t/\W.kitOne K t (.type T)=some b/\Q (.bl b) H) (rG te (rG (tC (.ty n)) v7))) (BS n fe):=by
 subst u;exact⟨DW ML l q SN (nR r.pe (nR (Oj f m k rfl g d) tV h) s) (by decide) (by decide) s j,RH (Qt X.K n i) r.me⟩
@[simp] noncomputable def kW:T->T->M T
 |.lst ts,.int i=>match rV ts i with
  |some t=>.ok t
  |none=>.bad
 |.tup ts,.int i=>match rV ts i with
  |some t=>.ok t
  |none=>.bad
 |.scr ns,.int i=>match rV ns i with
  |some t=>.ok (.int t)
  |none=>.bad
 |.str z,.int i=>if z.length<=sizeLine then (match rV z.cps.toList i with
  |some c=>.ok (.str ⟨#[c]⟩)
  |none=>.bad) else .bad
 |_,_=>.bad
def HA(r:iy K F vs ts)(h:rV ts i=some t):∃v,rV vs i=some v/\lA K F v t:=by
 unfold rV at h ⊢;rw[r.length];cases e:wL ts.length i with
 |none=>rw[e]at h;cases h
 |some j=>rw[e]at h;exact r.get h
def qF(f:α->β) l i:rV (l.map f) i=(rV l i).map f:=by
 unfold rV;rw[ax];cases wL l.length i with
 |none=>rfl
 |some j=>simp
def T6 x y:M.NoE (kW x y):=λC n=>by unfold kW;split<;>first|(intro z;cases z;done)|(split<;>first|(intro z;cases z;done)|(split<;>intro z<;>cases z))
def Vp:MR K (Vd K) kW:=⟨T6,λF H v w x y Q s f d q=>by
 unfold kW at q;split at q
 .rename_i m i;rw[d.int_inv];obtain⟨a,j,rfl,h,r⟩:=f.lst_inv;split at q
  .rename_i t e;obtain⟨v,g,k⟩:=HA r e;exact .inl ⟨a,j,i,v,rfl,rfl,l9.of (s _ _ h),g,kV.now q s k⟩
  .exact q.elim
 .rename_i m i;rw[d.int_inv];obtain⟨a,j,rfl,h,r⟩:=f.tup_inv;split at q
  .rename_i t e;obtain⟨v,g,k⟩:=HA r e;exact .inr (.inl ⟨a,j,i,v,rfl,rfl,nu.of (s _ _ h),g,kV.now q s k⟩)
  .exact q.elim
 .rename_i n i;rw[d.int_inv];cases f with
  |scr h=>
   split at q
   .rename_i t e;exact .inl ⟨_,_,i,.int t,rfl,rfl,s.seq h,by rw[qF,e];rfl,kV.now q s (.int _)⟩
   .exact q.elim
 .rename_i z i;rw[d.int_inv];cases f with
  |str z=>
   split at q
   .rename_i l;split at q
    .rename_i c e;exact .inr (.inr ⟨z,i,c,rfl,rfl,l,e,kV.now q s (.str _)⟩)
    .exact q.elim
   .exact q.elim
 .exact q.elim⟩
def GP(d:Pm K E X a ta fa)(f:Pm K E X b tb fb)(g:Be b:=by intro _ _;rfl)(h:X.K=K:=by rfl):Pm K E X (.Subscript a b pos) (wN (Vd K) ta tb) (ik kW fa fb):=⟨GI (h▸Nm) d.pe f.pe g,Gs Vp d.me f.me⟩
def A9:V2 K E X none G5 (λ_=>.ok none):=⟨QC,λF H f d Q s V q=>q F H (.refl s)⟩
@[simp] noncomputable def iW(fe:Pe->M T):Pe->M (Option Int):=λd=>(fe d).bind λx=>match x with
 |.int i=>.ok (some i)
 |_=>.bad
def BB(h:Pm K E X e te fe):V2 K E X (some e) (Rf te) (iW fe):=⟨Og h.pe,λF H m l Q s V q=>by
 refine h.me.run s V q λx v j f g k d=>?_;cases k with
 |int i=>exact⟨i,rfl,d j f g⟩
 |_=>exact d.elim⟩
noncomputable def pY{f:Type}(xs:List f)(d g:Option Int):List f:=(xs.drop (HT.sIx xs.length 0 d)).take (HT.sIx xs.length xs.length g-HT.sIx xs.length 0 d)
def RV xs lo hi:MU xs lo hi=pY xs lo hi:=rfl
def iy.cut(r:iy K F vs ts) lo hi:iy K F (pY vs lo hi) (pY ts lo hi):=by unfold pY;rw[r.length];exact (r.drop _).take _
def LG(f:α->β) l lo hi:pY (l.map f) lo hi=(pY l lo hi).map f:=by unfold pY;rw[ax,dF,dG]
section
variable {lo hi:Option Expr}{tl th:TO}{fl fh:Pe->M (Option Int)}
def MO.run{k:Option Int->M α}{P:α->Prop}(h:MO K E t f)(s:ij F H)(v:l7 K F σ ρ)(r:((f ρ).bind k).res P (kE E F H))
  (j:∀x i d,Gr F H i d->(k x).res P (kE E i d)->Q x d):t σ H Q:=
 h F H σ ρ Q s v ((M.res.unb r).mono (λx q i d g=>j x i d g (q.mono (λ_ z=>z) λ_ _ z=>z.go g)) λ_ _ z=>z)
@[simp] noncomputable def jY(fe:Pe->M T)(fl fh:Pe->M (Option Int)):Pe->M T:=λd=>(fe d).bind λx=>(fl d).bind λl=>(fh d).bind λh=>match x with
 |.tup ts=>.ok (.tup (pY ts l h))
 |.lst ts=>.ok (.lst (pY ts l h))
 |.scr ns=>.ok (.lst ((pY ns l h).map T.int))
 |_=>.bad
def uy(B:Pm K E X e te fe)(z:V2 K E X lo tl fl)(w:V2 K E X hi th fh)(N:X.K=K:=by rfl):Pm K E X (.Subscript e (.Slice lo hi none p2) pos) (WO (λx lo hi H Q=>UX K x lo hi H Q\/(Uy K x lo hi H Q\/Vy K x lo hi H Q)) te tl th) (jY fe fl fh):=by
 subst N;refine⟨Lm (Px.or (RX.or OB)) B.pe z.po w.po,λF H R P Q s V q=>?_⟩;refine B.me.run s V q λx v F1 Z j D L=>?_;refine z.mo.run j.fh (V.mono j.ff) L λl S U m J=>?_;refine w.mo.run m.fh ((V.mono j.ff).mono m.ff) J λu y A d k=>?_;have g:=(j.trans m).trans d;have I:=D.mono (m.ff.trans d.ff);cases I with
 |lst h r=>exact .inl ⟨_,_,rfl,l9.of (d.fh _ _ h),λp i=>k (.ref p) _ _ (g.trans (.new d.fh i)) (.lst g9 ((r.cut l u).mono (Gr.new d.fh i).ff))⟩
 |scr h=>exact .inl ⟨_,_,rfl,d.fh.seq h,λp i=>k (.ref p) _ _ (g.trans (.new d.fh i)) (.lst g9 (by rw[RV,LG];exact iy.of_ints _))⟩
 |tup h r=>
  rename_i a Y f;have n:(M.ok (T.tup (pY f l u))).res (kV X.K F H Q) (kE E y A):=k;by_cases hw:HT.sIx f.length 0 l=0/\HT.sIx f.length f.length u=f.length
  .have C:pY f l u=f:=by unfold pY;rw[hw.1,hw.2];simp
   rw[C]at n;exact .inr (.inr ⟨_,_,rfl,nu.of (d.fh _ _ h),by rw[r.length];exact hw,n _ y A g (.tup h r)⟩)
  .exact .inr (.inl ⟨_,_,rfl,nu.of (d.fh _ _ h),by rw[r.length];exact hw,λp i=>n (.ref p) _ _ (g.trans (.new d.fh i)) (.tup g9 ((r.cut l u).mono (Gr.new d.fh i).ff))⟩)
 |_=>exact k.elim
end
section
variable {x:Str}{k:Nat}{Fn:List T->M T}{Ff:List T->M (List T)}
def ko(h:lQ X.prog X.w X.K X.mg X.base x j (t5 K Fn))(hr:je k X.A)(g:Fi K E X (e::es) tr fr)(m:j<=k:=by decide)(l:Gl X x:=by rfl)
  (f:(x==("__debug__" : Str))=false:=by decide) (i:starEach (e::es) X.env=(false,eval e X.env)::starEach es X.env:=by rfl) (d:(backTo pos (starEach es X.env)).any (·.1)=false:=by rfl) :
  Pm K E X (.Call (.Name x p) (e::es) [] pos) (A3 (t5 K Fn) [] E0 tr) (hW fr Fn):=⟨Ei (h.mono m) hr g.pa l f i d,KZ g.ma⟩
def xm(h:lQ X.prog X.w X.K X.mg X.base x j (CB K Ff))(hr:je k X.A)(g:Fi K E X (e::es) tr fr)(m:j<=k:=by decide)(l:Gl X x:=by rfl)
  (f:(x==("__debug__" : Str))=false:=by decide) (i:starEach (e::es) X.env=(false,eval e X.env)::starEach es X.env:=by rfl) (d:(backTo pos (starEach es X.env)).any (·.1)=false:=by rfl) :
  Ia K E X (.Call (.Name x p) (e::es) [] pos) (A3 (CB K Ff) [] E0 tr) (i8 fr Ff):=⟨Ei (h.mono m) hr g.pa l f i d,JR g.ma⟩
end
def UA(K:W.Frag)(t:TE):TI:=λd H R=>GD K t d H R\/T7 K t d H R
@[simp] noncomputable def jP(fa:Pe->M T):Pe->M (List T):=λd=>(fa d).bind λx=>match x with
 |.lst ts=>.ok ts
 |.scr ns=>.ok (ns.map T.int)
 |.tup ts=>.ok ts
 |_=>.bad
def TL(f:ME K E ta fa):MI K E (UA K ta) (jP fa):=λF H g d R s V q=>by
 unfold jP at q;cases e:fa d with
 |bad=>rw[e]at q;exact q.elim
 |er C n=>rw[e]at q;exact .inl (B3 f F H g d R s V (by unfold VQ;rw[e];exact q))
 |ok x=>
  rw[e]at q;cases x with
  |lst ts=>exact .inl (B3 f F H g d R s V (by unfold VQ;rw[e];exact q))
  |scr ns=>exact .inl (B3 f F H g d R s V (by unfold VQ;rw[e];exact q))
  |tup ts=>exact .inr (TY f F H g d R s V (by unfold WU;rw[e];exact q))
  |_=>exact q.elim
def jj(d:Pm K E X a ta fa)(i:X.K=K:=by rfl):Jx K E X tg a (UA K ta) (jP fa):=by
 subst i;refine⟨λf s g H R I h=>?_,TL d.me⟩;rcases h with h|h
 .exact Gy d.pe f s g H R I h
 .exact Su d.pe f s g H R I h
def Rq(K:W.Frag)(ta:TA):TI:=λg H R=>∃f d,Sh K f d ta g H R
@[simp] noncomputable def seqT:T->M (List T)
 |.lst ts=>.ok ts
 |.scr ns=>.ok (ns.map T.int)
 |.tup ts=>.ok ts
 |_=>.bad
@[simp] noncomputable def nG(fa:Pe->M (List T)):Pe->M (List T):=λh=>(fa h).bind λd=>match d with
 |[x,y]=>(seqT x).bind λg=>(seqT y).bind λf=>.ok (tO g f)
 |_=>.bad
noncomputable def ud:T->Bool
 |.tup _=>true
 |_=>false
def E2 x:seqT x=seqB (ud x) x:=by cases x<;>rfl
def Oy(f:MA K E tr fr):MI K E (Rq K tr) (nG fr):=λF H g d R s V q=>by
 unfold nG at q;cases e:fr d with
 |bad=>rw[e]at q;exact q.elim
 |er C n=>rw[e]at q;exact⟨true,true,Ly f F H g d R s V (by unfold T5;rw[e];exact q)⟩
 |ok xs=>
  rw[e]at q;match xs,e,q with
  |[],_,q=>exact q.elim
  |[_],_,q=>exact q.elim
  |[x,y],e,q=>refine⟨ud x,ud y,Ly f F H g d R s V ?_⟩;unfold T5;rw[e];have h:((seqT x).bind λj=>(seqT y).bind λi=>M.ok (tO j i)).res (kI K F H R) (kE E F H):=q;rw[E2 x,E2 y]at h;exact h
  |_::_::_::_,_,q=>exact q.elim
def oZ{x1}(g:X.mg "zip" = none)(f:Fi K E X [a,b] tr fr)(m:X.K=K:=by rfl)(j:Gl X "zip" :=by rfl)(k:starEach [a,b] X.env=[(false,eval a X.env),(false,eval b X.env)]:=by rfl)
  (d:starEach [b] X.env=[(false,eval b X.env)]:=by rfl):Jx K E X (.Tuple elts x1 tpos) (.Call (.Name "zip" p) [a,b] [] pos) (Rq K tr) (nG fr):=by
 subst m;refine⟨λi s l H R I h=>?_,Oy f.ma⟩;obtain⟨n,q,h⟩:=h;exact SX j g f.pa k d i s l H R I h
def nM(f:X.mg "range" = none)(d:Fi K E X [a] tr fr)(g:Gl X "range" :=by rfl)(h:starEach [a] X.env=[(false,eval a X.env)]:=by rfl):yi K E X tg (.Call (.Name "range" p) [a] [] pos) (M5 tr) (nr fr):=⟨HL g f d.pa h,NZ d.ma⟩
def yi.pim(h:yi K E X tg it w f):Jx K E X tg it w f:=⟨h.pi,h.mi.mi⟩
section
variable {x:Str}{g:TG}{gs:NI}{m:T->Pe->Option Pe}{ms:List T->Pe->Option Pe}{mo:T->En->Option En}{mos:List T->En->Option En}{n:Nat}
def jm i (d:X.N.Nodup) (f:IT X.env.scope x:=by first|exact Or.inl rfl|exact Or.inr rfl) (h:X.N[i]? = some x:=by rfl) (j:X.fn x=true\/X.env.scope.names.lookup x=some .local:=by first|exact .inl rfl|exact .inr rfl|assumption):Um K X (.Name x pos) (j9 i) (km i):=⟨xr d h f j,OY⟩
def jQ i (d:X.N.Nodup) (f:IT X.env.scope x:=by first|exact Or.inl rfl|exact Or.inr rfl) (h:X.N[i]? = some x:=by rfl) (j:X.fn x=true\/X.env.scope.names.lookup x=some .local:=by first|exact .inl rfl|exact .inr rfl|assumption):Ui K X (.Name x pos) (j9 i) (mH i):=⟨xr d h f j,MH⟩
def kY:QM K X [] HY mP:=⟨HB,Qo⟩
def oE:QO K X [] HY mK:=⟨HB,L7⟩
def iG(f:Um K X e g m)(d:QM K X es gs ms)(h:(assignEach (e::es) X.env).map (·.2)=assign e X.env::(assignEach es X.env).map (·.2):=by rfl):QM K X (e::es) (xX g gs) (iN m ms):=⟨DN f.pg d.pg h,Md f.mg d.mg⟩
def jG(f:Ui K X e g mo)(d:QO K X es gs mos)(h:(assignEach (e::es) X.env).map (·.2)=assign e X.env::(assignEach es X.env).map (·.2):=by rfl):QO K X (e::es) (xX g gs) (iZ mo mos):=⟨DN f.pg d.pg h,Ij f.mg d.mg⟩
def nE n (i:X.calm=true) (h:QM K X es gs ms) (j:X.K=K:=by rfl) (f:(assignEach es X.env).length=n:=by rfl) (d:(assignEach es X.env).findIdx? (·.1)=none:=by rfl):Um K X (.Tuple es k pos) (Ir K n gs) (mT n ms):=by subst j;exact⟨My i h.pg f d,S1 h.mg⟩
def tW n (i:X.calm=true) (h:QO K X es gs mos) (j:X.K=K:=by rfl) (f:(assignEach es X.env).length=n:=by rfl) (d:(assignEach es X.env).findIdx? (·.1)=none:=by rfl):Ui K X (.Tuple es k pos) (Ir K n gs) (mJ n mos):=by subst j;exact⟨My i h.pg f d,OM h.mg⟩
end
section
variable {elt iter:Expr}{ifs:List Expr}{scope:Scope}{N:List Str}{ix:List (Option Nat)}{wi:TI}{g:TG}{tt:TT}{fi:Pe->M (List T)}{m:T->Pe->Option Pe}{ft:Pe->M Bool}
def iV:Nc K E X [] R8 (λ_=>.ok true):=⟨Ql,Sn⟩
def qS(h:Et K E X c t f):Nc K E X [c] t f:=⟨Qk h.pt,h.mt⟩
@[simp] noncomputable def lM(ix:List (Option Nat))(fi:Pe->M (List T))(m:T->Pe->Option Pe)(ft:Pe->M Bool)(fe:Pe->M T):Pe->M (List T):=λf=>(fi f).bind λd=>(if d.length<sizeLine then rm (um m ft fe (oW ix f)) d else .bad).noEr
def Uz(s:X.calm=true)(k:Jx K E X tg iter wi fi)(L:Eb X scope N ix)(j:qB ix g)
  (f:∀C d H h i,Um K (nN X N scope C d H h i) tg g m/\Nc K NM (nN X N scope C d H h i) ifs tt ft/\Pm K NM (nN X N scope C d H h i) elt te fe)
  (q:∀x,foldedSetIterable iter X.env x=pure x:=by intro _;rfl):Ia K E X (.ListComp elt [⟨tg,iter,ifs,0⟩] scope pos) (ND ix wi g tt te) (lM ix fi m ft fe):=by
 obtain⟨r,n,l⟩:=f 0 X.s₀ X.H₀ [] [];exact⟨U9 s k.pi L j (λC d H h i=>⟨(f C d H h i).1.pg,(f C d H h i).2.1.pf,(f C d H h i).2.2.pe⟩) q,Q9 k.mi r.mg n.mt l.me⟩
end
end
end L3
namespace L3
open PySem L2 PySem.Spec PyProof.Rows
section
variable {K:W.Frag}{E:XK}{X:Cx}{a b c e o tg it:Expr}{es:List Expr}{ta tb tc te to:TE}{fa fb fc fe fo:Pe->M T}{tr:TA}{fr:Pe->M (List T)}{pos pos' p p2 apos:Pos}{st:Stmt}{mY:List Stmt}{t u:TS}{g g':En->O}{ff:Pe->M (List T)}{x:Str}
def jh:qY K E X [] AN jx:=⟨Cn,OI⟩
def ia(h:Aw K E X st t g):qY K E X [st] t g:=⟨qD h.ps,h.ms⟩
def gU(h:Aw K E X st t g)(h':qY K E X mY u g'):qY K E X (st::mY) (BO t u) (iw g g'):=⟨qj h.ps h'.ps,RG h.ms h'.ms⟩
def xo:Aw K E X st Fq (λ_=>.bad):=⟨LV,Ko⟩
def jq(h:Pm K E X e te fe):Aw K E X (.Return (some e) pos) (DQ te) (jw fe):=⟨BQ h.pe,Ta h.me⟩
def rh(h:Ia K E X e te ff):Aw K E X (.Return (some e) pos) (DQ te) (oJ ff):=⟨BQ h.pe,P6 h.mf⟩
def yA i (h:PE X (.Name x p) (m7 i)):Aw K E X (.Return (some (.Name x p)) pos) (DQ (m7 i)) (rX i):=⟨BQ h,HU⟩
def j4{tc:TT}{fc:Pe->M Bool}(d:Et K E X c tc fc)(h:qY K E X A t g)(h':qY K E X B u g'):Aw K E X (.If c A B pos) (Il tc t u) (pP fc g g'):=⟨Mo d.pt h.ps h'.ps,U5 d.mt h.ms h'.ms⟩
def Kv{tc:TT}{fc:Pe->M Bool}(d:En->Nat)(i:PassesOwn (model X.prog X.w) X.A X.env X.xe)(f:Et K E X c tc fc)(h:qY K E X A t g):Aw K E X (.While c A [] pos) (FF tc t) (λρ=>nA fc g (d ρ) ρ):=⟨JH i f.pt h.ps,Ka d f.mt h.ms⟩
section
variable {w:TI}{fi:Pe->M (List T)}{gt:TG}{m:T->En->Option En}{A:List Stmt}
def lY(i:PassesOwn (model X.prog X.w) X.A X.env X.xe)(k:X.calm=true)(h:Jx K E X tg it w fi)(f:Ui K X tg gt m)(d:qY K E X A t g)(j:∀x,foldedSetIterable it X.env x=pure x:=by intro _;rfl):Aw K E X (.For tg it A [] pos) (Ci w gt t) (sr fi m g):=⟨ya i k h.pi f.pg d.ps j,SK h.mi f.mg d.ms⟩
def u0(i:PassesOwn (model X.prog X.w) X.A X.env X.xe)(k:X.calm=true)(h:yi K E X tg it w fi)(f:Ui K X tg gt m)(d:qY K E X A t g)(j:∀x,foldedSetIterable it X.env x=pure x:=by intro _;rfl):Aw K E X (.For tg it A [] pos) (Ci w gt t) (wq fi m g):=⟨ya i k h.pi f.pg d.ps j,PF h.mi f.mg d.ms⟩
end
def T4 i (w:X.N.Nodup) (s:IT X.env.scope x)
  (B:X.calm=true) (n:Jx K E X tg iter wi fi) (L:Eb X scope N ix) (k:qB ix gt)
  (f:∀C d H j h,Um K (nN X N scope C d H j h) tg gt m/\Nc K NM (nN X N scope C d H j h) ifs tt ft/\Pm K NM (nN X N scope C d H j h) elt te fe)
  (v:MF K E (ND ix wi gt tt te) (lM ix fi m ft fe)->MS K E (pj (ND ix wi gt tt te) (j9 i)) gm)
  (z:X.N[i]? = some x:=by rfl) (y:X.fn x=true\/X.env.scope.names.lookup x=some .local:=by first|exact .inl rfl|exact .inr rfl)
  (l:swapsWith (.ListComp elt [⟨tg,iter,ifs,0⟩] scope pos) (some (.Name x py)) spos.line X.env=pure true:=by rfl)
  (r:∀x,foldedSetIterable iter X.env x=pure x:=by intro _;rfl):Aw K E X (.Assign [.Name x py] (.ListComp elt [⟨tg,iter,ifs,0⟩] scope pos) spos) (pj (ND ix wi gt tt te) (j9 i)) gm:=by
 obtain⟨D,A,q⟩:=f 0 X.s₀ X.H₀ [] [];exact⟨Nq w z s B n.pi L k (λC d H j h=>⟨(f C d H j h).1.pg,(f C d H j h).2.1.pf,(f C d H j h).2.2.pe⟩) y l r,v (Q9 n.mi D.mg A.mt q.me)⟩
def jc i (f:X.N.Nodup) (h:Pm K E X e te fe) (j:IT X.env.scope x:=by first|exact Or.inl rfl|exact Or.inr rfl) (k:X.N[i]? = some x:=by rfl) (d:swapsWith e (some (.Name x pos')) pos.line X.env=pure false:=by rfl) (l:X.fn x=true\/X.env.scope.names.lookup x=some .local:=by first|exact .inl rfl|exact .inr rfl|assumption) :
  Aw K E X (.Assign [.Name x pos'] e pos) (pj te (j9 i)) (setO i (kn fe)):=⟨vW f k j h.pe d l,GT h.me⟩
def Nu i (f:X.N.Nodup) (h:Pm K E X e te fe) (j:IT X.env.scope x:=by first|exact Or.inl rfl|exact Or.inr rfl) (k:X.N[i]? = some x:=by rfl) (d:swapsWith e (some (.Name x pos')) pos.line X.env=pure false:=by rfl) (l:X.fn x=true\/X.env.scope.names.lookup x=some .local:=by first|exact .inl rfl|exact .inr rfl|assumption) :
  Aw K E X (.Assign [.Name x pos'] e pos) (pj te (j9 i)) (setO i (wA fe)):=⟨vW f k j h.pe d l,OX h.me⟩
def C1 i (f:X.N.Nodup) (h:Ia K E X e te ff) (j:IT X.env.scope x:=by first|exact Or.inl rfl|exact Or.inr rfl) (k:X.N[i]? = some x:=by rfl) (d:swapsWith e (some (.Name x pos')) pos.line X.env=pure false:=by rfl) (l:X.fn x=true\/X.env.scope.names.lookup x=some .local:=by first|exact .inl rfl|exact .inr rfl|assumption) :
  Aw K E X (.Assign [.Name x pos'] e pos) (pj te (j9 i)) (pD i (sv ff)):=⟨vW f k j h.pe d l,Ce h.mf⟩
def Lw i (f:X.N.Nodup) (h:Ia K E X e te ff) (j:IT X.env.scope x:=by first|exact Or.inl rfl|exact Or.inr rfl) (k:X.N[i]? = some x:=by rfl) (d:swapsWith e (some (.Name x pos')) pos.line X.env=pure false:=by rfl) (l:X.fn x=true\/X.env.scope.names.lookup x=some .local:=by first|exact .inl rfl|exact .inr rfl|assumption) :
  Aw K E X (.Assign [.Name x pos'] e pos) (pj te (j9 i)) (pD i (yV ff)):=⟨vW f k j h.pe d l,Qi h.mf⟩
def oo(h:MF K E te ff):MS K E (pj te (j9 i)) (setO i (kn λρ=>(ff ρ).bind λts=>.ok (.lst ts))):=GT h.me
def EF(h:H l=some (.lst xs)):V0 K "list" (.ref l) H:=.inl ⟨rfl,_,l9.of h⟩
def oq i (hv:PE X (.Name x p) (m7 i)) (m:Pm K E X e te fe) (n:starEach [e] X.env=(false,eval e X.env)::starEach [] X.env:=by rfl) (q:X.K=K:=by rfl)
  (f:attributeBase (.Name x p) "append" X.env (eval (.Name x p) X.env)=eval (.Name x p) X.env:=by rfl)
  (j:((backTo pos (starEach [e] X.env)).all (λx=>!x.1)&&(backToKw pos (keywordEach [] X.env)).all (λx=>x.1.isSome)&&decide (([e]:List Expr).length+([]:List Keyword).length+(if ([]:List Keyword).isEmpty then 0 else 1)<30))=true:=by rfl)
  (d:(apos.endLine==pos.line)=true:=by rfl) (hplain:(backTo pos (starEach [] X.env)).any (·.1)=false:=by rfl) (k:swapsWith (.Call (.Attribute (.Name x p) "append" apos) [e] [] pos) none pos'.line X.env=pure false:=by rfl) :
  Aw K E X (.Expr (.Call (.Attribute (.Name x p) "append" apos) [e] [] pos) pos') (xQ (Qg K i te)) (uI i (kn fe)):=by
 subst q;exact⟨Cv (L1 PySem.F.plainAttrs_list PySem.F.slot_list_append PySem.F.type_list_append vn hv (nR m.pe tV n) f j d n hplain) k,P9 (λl r H h=>EF h) m.me⟩
def B1 i (hv:PE X (.Name x p) (m7 i)) (d:Pm K E X b tb fb) (h:Pm K E X e te fe)
  (f:∀v,assign (.Subscript (.Name x p) b p2) X.env v=(do
   let ov <-holding [v] (eval (.Name x p) X.env)
   let iv <-holding [v,ov] (eval b X.env)
   standAt p2
   holding [v,ov,iv] (setItem ov iv v)
   release [v,ov,iv] []):=by intro _;rfl)
  (j:swapsWithSole [.Subscript (.Name x p) b p2] e pos.line X.env=pure false:=by rfl) (hw:swappedStores [.Subscript (.Name x p) b p2] e X.env=pure none:=by rfl)
  (k:(assignEach [.Subscript (.Name x p) b p2] X.env).map (·.2)=[assign (.Subscript (.Name x p) b p2) X.env]:=by rfl) :
  Aw K E X (.Assign [.Subscript (.Name x p) b p2] e pos) (pj te (Ts (m7 i) tb GW)) (zG i (wA fb) (wA fe)):=⟨SG h.pe (SC hv d.pe Kd f) j hw k,TX h.me d.me⟩
end
section
variable {P:Program}{w:World}{K:W.Frag}{mg:Str->Option Value}{base:Heap}{x:Str}{st:Stmt}{N ps:List Str}{k:Nat}{g:En->O}
def Wm(D:ib K mg x st)(S:ji N ps (gZ st))
  (e:∀(kV c i:Value) (l:Option Addr) (b m:Value) (us:List Value),us.length=ps.length->bindArgs (W.fnOf x x (j7 st) (iR st) (gZ st) .none kV c i l b m) ⟨us,[]⟩=pure (ps.zip us))
  (j:∀(f:Addr) (b:Value) (A:Around) (a:List Env) (s:Shared) (H:Hp) (E:XK),je k (A.deeper (envOfC x (gZ st) s.heap.objs.size f b))->∃t,qY K E (ou sQ P w K mg base N x (gZ st) f b A a s H E).nox (iR st) t g) :
  lQ P w K mg base x (k+1) (t5 K (nY ps.length N.length g)):=
 Cf D S e (λd H Q E h=>FA h) λf b A a s H d Q E hr h=>let ⟨t,hp⟩:=j f b A a s H E hr;⟨t,hp.ps,BD hp.ms h⟩
def Wu(D:ib K mg x st)(S:ji N ps (gZ st))
  (e:∀(kV c i:Value) (l:Option Addr) (b m:Value) (us:List Value),us.length=ps.length->bindArgs (W.fnOf x x (j7 st) (iR st) (gZ st) .none kV c i l b m) ⟨us,[]⟩=pure (ps.zip us))
  (j:∀(f:Addr) (b:Value) (A:Around) (a:List Env) (s:Shared) (H:Hp) (E:XK),je k (A.deeper (envOfC x (gZ st) s.heap.objs.size f b))->∃t,qY K E (ou sQ P w K mg base N x (gZ st) f b A a s H E).nox (iR st) t g) :
  lQ P w K mg base x (k+1) (CB K (xw ps.length N.length g)):=
 Cf D S e (λd H Q E h=>Bx h) λf b A a s H d Q E hr h=>let ⟨t,hp⟩:=j f b A a s H E hr;⟨t,hp.ps,zc hp.ms h⟩
end
end L3
namespace L3
open PySem L2 PySem.Spec PyProof.Rows
section
variable {K:W.Frag}{E:XK}{X:Cx}{a b c e o tg it:Expr}{es:List Expr}{ta tb tc te to:TE}{fa fb fc fe fo:Pe->M T}{tr:TA}{fr:Pe->M (List T)}{pos p p2 apos:Pos}
@[simp] noncomputable def jC(f:Pe->M (List T)):Pe->M T:=λg=>(f g).bind λd=>.ok (.lst d)
def ju(d:X.K=K:=by rfl):lO X (.builtin "len") (λxs H Q=>∃x n,xs=[x]/\Rv K x H n/\Q (.int n) H):=d▸Mv
def vB(f:X.calm=true)(g:X.K=K:=by rfl):lO X (.builtin "sum") (λxs H Q=>∃(p:Addr) (d:LI),xs=[.ref p]/\l9 K H p (d.map V.int)/\Q (.int d.sum) H):=g▸Nb f
def p0(d:X.calm=true)(f:X.K=K:=by rfl):lO X (.builtin "all") (λxs H Q=>∃(p:Addr) (bs:List Bool),xs=[.ref p]/\l9 K H p (bs.map V.bl)/\Q (.bl (bs.all id)) H):=f▸Ms d
def mR(d:X.calm=true)(f:X.K=K:=by rfl):lO X (.builtin "any") (λxs H Q=>∃p vs bs,xs=[.ref p]/\(l9 K H p vs\/nu K H p vs)/\nj vs=some bs/\Q (.bl (bs.any id)) H):=f▸Ip d
def j6(f:X.K=K:=by rfl):lO X (.type "tuple") (λxs H Q=>∃p d,xs=[.ref p]/\((l9 K H p d/\∀l,H l=none->Q (.ref l) (i6 H l (.tup d)))\/(nu K H p d/\Q (.ref p) H))):=f▸zL
def oB(f:X.K=K:=by rfl):lO X (.type "list") (λxs H Q=>∃p d,xs=[.ref p]/\(l9 K H p d\/nu K H p d)/\∀l,H l=none->Q (.ref l) (i6 H l (.lst d))):=f▸BA
def TQ(d:X.K=K:=by rfl):rK X (compareOp .In) (Wq K false):=d▸Ic
def QH:T->Option Bool
 |.bl b=>some b
 |.int i=>some (i != 0)
 |_=>none
def sN:List T->Option (List Bool)
 |[]=>some []
 |v::vs=>(QH v).bind λb=>(sN vs).bind λr=>some (b::r)
theorem Bz:∀{vs} {ts},iy K F vs ts->nj vs=sN ts
 |_,_,.nil=>rfl
 |v::vs,t::ts,.cons h r=>by
  have e:Eo v=QH t:=by cases h<;>rfl
  rw[nj,sN,Bz r,e]
@[simp] theorem F9(d:LI):sN (d.map T.int)=some (d.map λn=>n != 0):=by
 induction d with
 |nil=>rfl
 |cons n d ih=>simp[sN,QH,ih]
@[simp] theorem Ue ns:sN (ns.map T.bl)=some ns:=by
 induction ns with
 |nil=>rfl
 |cons n ns ih=>simp[sN,QH,ih]
@[simp] noncomputable def ua(ts:List T):M T:=match sN ts with
 |some bs=>.ok (.bl (bs.any id))
 |none=>.bad
@[simp] noncomputable def qq:List T->M T
 |[.lst ts]=>ua ts
 |[.tup ts]=>ua ts
 |_=>.bad
def Kt ts:M.NoE (ua ts):=λC n=>by unfold ua;split<;>intro z<;>cases z
def NY xs:M.NoE (qq xs):=λC n=>by unfold qq;split<;>first|exact Kt _ C n|(intro z;cases z)
def tT:MC K (λxs H Q=>∃p vs bs,xs=[.ref p]/\(l9 K H p vs\/nu K H p vs)/\nj vs=some bs/\Q (.bl (bs.any id)) H) qq:=⟨NY,λF H vs xs Q s r q=>by
 cases r with
 |nil=>exact q.elim
 |cons h t=>
  cases t with
  |cons _ _=>cases h<;>exact q.elim
  |nil=>
   cases h with
   |lst h r=>
    rename_i a xs f;have d:(ua f).res (kV K F H Q) (λ_ _=>False):=q;unfold ua at d;cases e:sN f with
    |none=>rw[e]at d;exact d.elim
    |some bs=>rw[e]at d;exact⟨a,xs,bs,rfl,.inl (l9.of (s _ _ h)),by rw[Bz r];exact e,kV.now d s (.bl _)⟩
   |tup h r=>
    rename_i a xs f;have d:(ua f).res (kV K F H Q) (λ_ _=>False):=q;unfold ua at d;cases e:sN f with
    |none=>rw[e]at d;exact d.elim
    |some bs=>rw[e]at d;exact⟨a,xs,bs,rfl,.inr (nu.of (s _ _ h)),by rw[Bz r];exact e,kV.now d s (.bl _)⟩
   |_=>exact q.elim⟩
noncomputable def CD:T->T->M T
 |.tup a,.int k=>if FB k=true/\a.length*k.toNat<=sizeLine then .ok (.tup (List.replicate k.toNat a).flatten) else .bad
 |_,_=>.bad
def Mh x y:M.NoE (CD x y):=λC n=>by unfold CD;split<;>first|(split<;>intro z<;>cases z)|(intro z;cases z)
def Ot:MR K NF CD:=⟨Mh,λF H v w x y Q s m j q=>by
 cases m with
 |tup h r=>
  cases j with
  |int k=>
   rename_i a l f;have d:(if FB k=true/\f.length*k.toNat<=sizeLine then M.ok (T.tup (List.replicate k.toNat f).flatten) else M.bad).res (kV K F H Q) (λ_ _=>False):=q;by_cases g:FB k=true/\f.length*k.toNat<=sizeLine
   .rw[aR g]at d;refine⟨a,k,l,rfl,rfl,s _ _ h,by have:=si g.1;rw[VG]at this;rw[VR];omega,by have:=si g.1;rw[VG]at this;rw[VR];omega,by rw[r.length];exact g.2,λz=>?_,λz p i=>?_⟩
    .have:(List.replicate k.toNat f).flatten=f:=by
      rcases z with z|z
      .subst z;cases r;simp
      .subst z;simp
     rw[this]at d;exact kV.now d s (.tup h r)
    .exact d (.ref p) _ _ (.new s i) (.tup g9 ((r.rep k.toNat).mono (Gr.new s i).ff))
   .rw[aS g]at d;exact d.elim
  |_=>exact q.elim
 |_=>exact q.elim⟩
@[simp] noncomputable def MW(fa fb:Pe->M T):Pe->M T:=ik CD fa fb
def NT(f:Pm K E X a ta fa)(d:Pm K E X b tb fb):Pm K E X (.BinOp a .Mult b pos) (wN NF ta tb) (MW fa fb):=yD OR Ot f d
noncomputable def nv(xs:List T):List T:=(xs.zipIdx).map λp=>T.tup [.int (p.2:Int),p.1]
def JL(K:W.Frag)(ta:TA):TI:=λd H R=>∃b,NB K b ta d H R
@[simp] noncomputable def nq(fa:Pe->M (List T)):Pe->M (List T):=λg=>(fa g).bind λd=>match d with
 |[x]=>(seqT x).bind λf=>.ok (nv f)
 |_=>.bad
def Qx{b:Bool}(j:∀H,ij F H->zx K H b l xs)(d:iy K F xs ts):xM K (Wo K b l) (nv ts) F where
 go:=λi H s n=>by
  have f:i<ts.length:=by simpa[nv] using n
  have h:xs[i]? = some (xs[i]'(by rw[d.length];exact f)):=ag _;exact⟨xs,_,j H s,h⟩
 stop:=λH s=>⟨xs,j H s,by simp[nv,d.length]⟩
 yld:=λi t A H x z k m e y=>by
  obtain⟨p,v,rfl,r,rfl,h⟩:=y;obtain⟨q,u,w⟩:=d.at_ (h xs (j H (k.trans m)));have:t=.tup [.int i,q]:=by unfold nv at e;rw[aw,List.getElem?_zipIdx,u]at e;simp at e;exact e.symm
  rw[this];have g:=Gr.new (o:=.tup [.int i,v]) m r;exact⟨_,g,.tup g9 (.cons (.int _) (.cons ((w.mono k).mono g.ff) .nil))⟩
noncomputable def Fc(b:Bool)(fa:Pe->M (List T)):Pe->M (List T):=λg=>(fa g).bind λd=>match d with
 |[x]=>(seqB b x).bind λf=>.ok (nv f)
 |_=>.bad
def CY{b:Bool}(m:MA K E tr fr):MI K E (NB K b tr) (Fc b fr):=λF H y v R s V q=>by
 refine m.run s V q λz w u r h i d=>?_;split at d
 .rename_i x;cases i with
  |cons a c=>
   cases c;cases f:seqB b x with
   |bad=>rw[f]at d;exact d.elim
   |er C n=>exact absurd f BE
   |ok ts=>rw[f]at d;obtain⟨l,k,rfl,g,j⟩:=BF a f;exact⟨l,rfl,⟨k,g _ h.fh⟩,d _ u r h (Qx g j)⟩
 .exact d.elim
def PY(f:MA K E tr fr):MI K E (JL K tr) (nq fr):=λF H g d R s V q=>by
 unfold nq at q;cases e:fr d with
 |bad=>rw[e]at q;exact q.elim
 |er C n=>rw[e]at q;exact⟨true,CY f F H g d R s V (by unfold Fc;rw[e];exact q)⟩
 |ok xs=>
  rw[e]at q;match xs,e,q with
  |[],_,q=>exact q.elim
  |[x],e,q=>refine⟨ud x,CY f F H g d R s V ?_⟩;unfold Fc;rw[e];have h:((seqT x).bind λi=>M.ok (nv i)).res (kI K F H R) (kE E F H):=q;rw[E2 x]at h;exact h
  |_::_::_,_,q=>exact q.elim
def uT{x1}(f:X.mg "enumerate" = none)(d:Fi K E X [a] tr fr)(l:X.K=K:=by rfl)(i:Gl X "enumerate" :=by rfl)(j:starEach [a] X.env=[(false,eval a X.env)]:=by rfl) :
  Jx K E X (.Tuple elts x1 tpos) (.Call (.Name "enumerate" p) [a] [] pos) (JL K tr) (nq fr):=by
 subst l;refine⟨λg s k H R I h=>?_,PY d.ma⟩;obtain⟨b,h⟩:=h;exact LM i f d.pa j g s k H R I h
end
structure Bs(mg:Str->Option Value):Prop where
 abs:mg "abs" = none
 isinstance:mg "isinstance" = none
 int:mg "int" = none
 bool:mg "bool" = none
 len:mg "len" = none
 range:mg "range" = none
 tuple:mg "tuple" = none
 list:mg "list" = none
 str:mg "str" = none
 all:mg "all" = none
 any:mg "any" = none
 sum:mg "sum" = none
 zip:mg "zip" = none
 max:mg "max" = none
 min:mg "min" = none
 enumerate:mg "enumerate" = none
 reversed:mg "reversed" = none
 set:mg "set" = none
 dict:mg "dict" = none
 sorted:mg "sorted" = none
def qu:bootBuiltins "list" = some (.type "list"):=by decide +kernel
def SU:bootBuiltins "max" = some (.builtin "max"):=by decide +kernel
end L3
namespace L3
open PySem L2
section
variable {α:Type}
theorem A7 enc f:∀(l:List α),(∀a∈l,k (enc a)=.ok (some (f a)))->rm k (l.map enc)=.ok (l.map f)
 |[],_=>rfl
 |a::l,h=>by rw[bH,rm,h a (by simp),M.bind_ok,A7 enc f l λb c=>h b (by simp[c])];rfl
theorem uQ enc f p:∀(l:List α),(∀a∈l,k (enc a)=.ok (if p a then some (f a) else none))->rm k (l.map enc)=.ok ((l.filter p).map f)
 |[],_=>rfl
 |a::l,h=>by
  rw[bH,rm,h a (by simp),M.bind_ok,uQ enc f p l λb d=>h b (by simp[d])];by_cases c:p a=true
  .simp[c]
  .simp[c]
theorem lg enc (P:Nat->En->Prop):∀(l:List α) (k:Nat) (ρ:En),P k ρ->
  (∀i a ρ,l[i]? = some a->P (k+i) ρ->∃d c,m (enc a) ρ=some d/\(g d=.nx c\/g d=.ct c)/\P (k+i+1) c)->∃ρ',kM m g (l.map enc) ρ=.nx ρ'/\P (k+l.length) ρ'
 |[],k,ρ,h,_=>⟨ρ,rfl,h⟩
 |a::l,k,ρ,h,st=>by
  obtain⟨d,c,q,f,n⟩:=st 0 a ρ rfl h;obtain⟨ρ',e,p⟩:=lg enc P l (k+1) c n λi b ρ j o=>by have:=st (i+1) b ρ (by simpa using j) (by rw[show k+(i+1)=k+1+i by omega];exact o);rw[show k+1+i+1=k+(i+1)+1 by omega];exact this
  refine⟨ρ',?_,by rw[aA,show k+(l.length+1)=k+1+l.length by omega];exact p⟩;rw[bH,kM,q];rcases f with f|f<;>(dsimp only;rw[f];exact e)
theorem AW enc (P:En->Prop):∀(l:List α) (ρ:En),P ρ->
  (∀a∈l,∀ρ,P ρ->∃d c,m (enc a) ρ=some d/\(g d=.nx c\/g d=.ct c)/\P c)->∃ρ',kM m g (l.map enc) ρ=.nx ρ'/\P ρ'
 |[],ρ,h,_=>⟨ρ,rfl,h⟩
 |a::l,ρ,h,st=>by obtain⟨d,c,o,f,j⟩:=st a (by simp) ρ h;obtain⟨ρ',e,n⟩:=AW enc P l c j λb i ρ k=>st b (by simp[i]) ρ k;refine⟨ρ',?_,n⟩;rw[bH,kM,o];rcases f with f|f<;>(dsimp only;rw[f];exact e)
theorem qm(P:En->Prop)(d:En->Nat)(R:En->Prop)(st:∀ρ,P ρ->(c (vw ρ)=.ok false/\R ρ)\/(c (vw ρ)=.ok true/\∃a,(g ρ=.nx a\/g ρ=.ct a)/\P a/\d a<d ρ)) :
  ∀n ρ,P ρ->d ρ<n->∃ρ',nA c g n ρ=.nx ρ'/\R ρ'
 |0,ρ,_,h=>absurd h (dH _)
 |n+1,ρ,hP,hn=>by
  rcases st ρ hP with⟨e,r⟩|⟨e,a,b,f,j⟩
  .exact⟨ρ,by rw[nA,e];rfl,r⟩
  .obtain⟨ρ',i,r⟩:=qm P d R st n a f (by omega);refine⟨ρ',?_,r⟩;rw[nA,e,O.of_ok,aR rfl];rcases b with b|b<;>(rw[b];exact i)
end
def BM{e:Type}(l:List e) enc f (j:fi ρ=.ok (l.map enc)) (o:l.length<sizeLine)
  (g:∀a∈l,∃b,m (enc a) (oW ix ρ)=some b/\ft b=.ok true/\fe b=.ok (f a)):lM ix fi m ft fe ρ=.ok (l.map f):=by
 have h:=A7 (k:=um m ft fe (oW ix ρ)) enc f l λa d=>by obtain⟨b,i,c,n⟩:=g a d;unfold um;rw[i];dsimp only;rw[c,M.bind_ok,aR rfl,n];rfl
 unfold lM;rw[j,M.bind_ok,ax,aR o,h];rfl
theorem EU{e:Type}(l:List e) enc f p (n:fi ρ=.ok (l.map enc)) (q:l.length<sizeLine)
  (i:∀a∈l,∃b,m (enc a) (oW ix ρ)=some b/\ft b=.ok (p a)/\(p a=true->fe b=.ok (f a))):lM ix fi m ft fe ρ=.ok ((l.filter p).map f):=by
 have h:=uQ (k:=um m ft fe (oW ix ρ)) enc f p l λa d=>by
  obtain⟨b,j,c,o⟩:=i a d;unfold um;rw[j];dsimp only;rw[c,M.bind_ok];cases g:p a with
  |true=>rw[aR rfl,aR rfl,o g];rfl
  |false=>rw[aS aI,aS aI]
 unfold lM;rw[n,M.bind_ok,ax,aR q,h];rfl
def jZ{c:Type}(l:List c) enc f (e:fi ρ=.ok (l.map enc)) (g:l.length<sizeLine)
  (d:∀a∈l,∃b,m (enc a) (oW ix ρ)=some b/\ft b=.ok true/\fe b=.ok (f a)) (hr:l.map f=ts):lM ix fi m ft fe ρ=.ok ts:=by rw[<-hr];exact BM l enc f e g d
def yU{c:Type}(l:List c) enc f p (e:fi ρ=.ok (l.map enc)) (g:l.length<sizeLine)
  (d:∀a∈l,∃b,m (enc a) (oW ix ρ)=some b/\ft b=.ok (p a)/\(p a=true->fe b=.ok (f a))) (hr:(l.filter p).map f=ts):lM ix fi m ft fe ρ=.ok ts:=by rw[<-hr];exact EU l enc f p e g d
def Ur lo n:B9 lo n=(List.range n).map λ(i:Nat)=>T.int (lo+(i:Int)):=rfl
noncomputable def tI(a:LI):T:=.tup (a.map T.int)
def BC(l:List α)(i:Int)(c:0<=i)(d:i<l.length):∃a,rV l i=some a/\a∈l:=by
 unfold rV wL;rw[aR c,aR d];have b:i.toNat<l.length:=by omega
 exact⟨l[i.toNat],by simp[b],aW _⟩
def ke(h:PySem.IntMulOk i j):mF (.int i) (.int j)=.ok (.int (i*j)):=by simp[mF,mv,h]
def qT(h:j≠0)(a:Builtin.divisionGoesByPylong i j=false):uH (.int i) (.int j)=.ok (.int (i.fdiv j)):=by simp[uH,mv,h,a]
def uU(h:j≠0):yL (.int i) (.int j)=.ok (.int (i.fmod j)):=by simp[yL,mv,h]
@[simp] theorem jb i j:jl (.int i) (.int j)=.ok (.int (i+j)):=rfl
@[simp] theorem qi i j:wK (.int i) (.int j)=.ok (.int (i-j)):=rfl
@[simp] theorem VY i j:U4 (.int i) (.int j)=.ok (.bl (decide (i<j))):=rfl
@[simp] theorem VZ i j:UU (.int i) (.int j)=.ok (.bl (decide (i<=j))):=rfl
@[simp] theorem V8 i j:Ub (.int i) (.int j)=.ok (.bl (decide (j<i))):=rfl
@[simp] theorem Pp i j:Vu (.int i) (.int j)=.ok (.bl (decide (j<=i))):=rfl
@[simp] theorem iO i j:iY false (.int i) (.int j)=.ok (.bl (i==j)):=by simp[iY,vm]
@[simp] theorem t8 i j:iY true (.int i) (.int j)=.ok (.bl (!(i==j))):=by simp[iY,vm]
def Jo(h:i.natAbs<2 ^ 64):PySem.IntMulOk i j:=IntMulOk.of_left (PyProof.Rows.intBits_le h)
def Bn(n:Nat)(x:Int):Prop:=x.natAbs<2 ^ n
def Bn.mono(h:Bn m x)(a:m<=n):Bn n x:=aF h (dI (by decide) a)
def Bn.mul(h:Bn m x)(h':Bn n y):Bn (m+n) (x*y):=by unfold Bn at *;rw[aZ,Nat.pow_add];exact Nat.mul_lt_mul'' h h'
def Bn.add(h:Bn m x)(h':Bn n y):Bn (max m n+1) (x+y):=by have a:Bn (max m n) x:=h.mono (Nat.le_max_left _ _);have b:Bn (max m n) y:=h'.mono (Nat.le_max_right _ _);unfold Bn at *;rw[dJ];have:=dM x y;omega
def Bn.neg(h:Bn m x):Bn m (-x):=by unfold Bn at *;rw[Int.natAbs_neg];exact h
def Bn.sub(h:Bn m x)(h':Bn n y):Bn (max m n+1) (x-y):=by rw[dN];exact h.add h'.neg
def Bn.ok(h:Bn m x)(h':Bn n y)(a:m<=2 ^ 20)(b:n<=2 ^ 20):PySem.IntMulOk x y:=IntMulOk.of_bits (aO (PyProof.Rows.intBits_le h) a) (aO (PyProof.Rows.intBits_le h') b)
def Bn.noPy(h:Bn n y)(a:n<=8000):Builtin.divisionGoesByPylong x y=false:=Cu.noPy (PyProof.Rows.intBits_le h) a
section
variable {a b g:En->O}{ρ ρ':En}{r:O}{fc:Pe->M Bool}{f:Pe->M T}{ff:Pe->M (List T)}{t:T}{ts:List T}{k n i:Nat}
def gW(d:a ρ=.nx ρ')(c:b ρ'=r):iw a b ρ=r:=by unfold iw;rw[d];exact c
def l5(c:a ρ=.rt t)(hr:.rt t=r):iw a b ρ=r:=by unfold iw;rw[c];exact hr
def jO(h:fc (vw ρ)=.ok true)(c:a ρ=r):pP fc a b ρ=r:=by unfold pP;rw[h];exact c
def jV(h:fc (vw ρ)=.ok false)(c:b ρ=r):pP fc a b ρ=r:=by unfold pP;rw[h];exact c
def ig(h:f (lF ρ)=.ok t)(hr:ρ'=ρ.set i (some (.p t))):setO i (kn f) ρ=.nx ρ':=by unfold setO kn;rw[h,hr];rfl
def Hc(h:f (vw ρ)=.ok t)(c:lf t=true)(hr:ρ'=ρ.set i (some (.p t))):setO i (wA f) ρ=.nx ρ':=by unfold setO wA;rw[h,hr];simp[c]
def pC(h:ff (lF ρ)=.ok ts)(hr:ρ'=ρ.set i (some (.o ts))):pD i (sv ff) ρ=.nx ρ':=by unfold pD sv;rw[h,hr];rfl
def N3(h:ff (vw ρ)=.ok ts)(c:HQ ts=true)(hr:ρ'=ρ.set i (some (.o ts))):pD i (yV ff) ρ=.nx ρ':=by unfold pD yV;rw[h,hr];simp[c]
def Oq(h:ff (vw ρ)=.ok ts)(c:HQ ts=true)(hr:ρ'=ρ.set i (some (.p (.lst ts)))):He i (yV ff) ρ=.nx ρ':=by unfold He yV;rw[h,hr];simp[c]
def vP(c:ρ[i]? = some (some (.o us)))(h:f (lF ρ)=.ok t)(d:us.length<sizeLine)(hr:ρ'=ρ.set i (some (.o (us++[t])))):uI i (kn f) ρ=.nx ρ':=by unfold uI kn sJ;rw[c,h,hr];simp[d]
def FI(c:ρ[i]? = some (some (.o us)))(h:f (vw ρ)=.ok t)(l:lf t=true)(d:fk (vw ρ)=.ok (.int j))(e:wL us.length j=some m)(hr:ρ'=ρ.set i (some (.o (us.set m t)))):zG i (wA fk) (wA f) ρ=.nx ρ':=by unfold zG wA sJ;rw[c,h,d,hr];simp[l,e]
def iA(h:f (vw ρ)=.ok t):jw f ρ=.rt t:=by unfold jw;rw[h];rfl
def qk(h:ff (vw ρ)=.ok ts):oJ ff ρ=.rf ts:=by unfold oJ;rw[h];rfl
def lz(h:fi (lF ρ)=.ok its)(c:kM m g its ρ=r):sr fi m g ρ=r:=by unfold sr;rw[h];exact c
def sf(h:fi (vw ρ)=.ok its)(c:kM m g its ρ=r):wq fi m g ρ=r:=by unfold wq;rw[h];exact c
def iQ(c:ts.length=k)(h:g (iX n ts)=.rt t):nY k n g ts=.ok t:=by unfold nY;rw[aR c,h];rfl
def yz(c:ts.length=k)(h:g (iX n ts)=.rf us):xw k n g ts=.ok us:=by unfold xw;rw[aR c,h];rfl
end
def S7 n:B9 0 n=(List.range n).map λ(i:Nat)=>T.int (i:Int):=by simp[B9]
theorem rH{d:Type} f:∀(l:List d),(∀a∈l,vm (f a)=true)->uV (l.map f)=true
 |[],_=>rfl
 |a::l,h=>by rw[bH,uV,h a (by simp),rH f l λb c=>h b (by simp[c])];rfl
theorem qL{d:Type} f n:∀(l:List d),(∀a∈l,Hk (f a)<=n)->vC (l.map f)<=n
 |[],_=>bK _
 |a::l,h=>by rw[bH,Jl];have g:=h a (by simp);have e:=qL f n l λb c=>h b (by simp[c]);omega
@[simp] theorem Ug(a:LI):uV (a.map T.int)=true:=rH _ _ λ_ _=>rfl
def Aj(a:LI):vC (a.map T.int)<=0:=qL _ _ _ λ_ _=>aL _
@[simp] theorem SH ns:vm (tI ns)=true:=by simp[tI,vm]
def Ti ns:Hk (tI ns)<=1:=by unfold tI;rw[Qu];have:=Aj ns;omega
@[simp] theorem VB(l:LL):uV (l.map tI)=true:=rH _ _ λ_ _=>SH _
def Dp(l:LL):vC (l.map tI)<=1:=qL _ _ _ λ_ _=>Ti _
@[simp] theorem KG l:BH l []=l.isEmpty:=by cases l<;>rfl
theorem Dq{d:Type} f (c:∀a b,IE (f a) (f b)=true↔a=b):∀(l m:List d),BH (l.map f) (m.map f)=true↔l=m
 |[],[]=>by simp[vL]
 |[],b::m=>⟨λz=>(nomatch (show false=true from z)),λz=>nomatch z⟩
 |a::l,[]=>by simp[vL]
 |a::l,b::m=>by rw[bH,bH,vL,bU,c a b,Dq f c l m];simp
def Je(l m:LI):BH (l.map T.int) (m.map T.int)=decide (l=m):=by
 have h:=Dq T.int (λa b=>by simp) l m;by_cases e:l=m
 .rw[aD e];exact h.mpr e
 .rw[aC e];cases c:BH (l.map T.int) (m.map T.int) with
  |false=>rfl
  |true=>exact absurd (h.mp c) e
def LH neg (l m:LI):iY neg (.lst (l.map T.int)) (.lst (m.map T.int))=.ok (.bl (if neg then !decide (l=m) else decide (l=m))):=by have h:=Aj l;unfold iY;rw[aR (by simp[vm];omega),Hv,Je]
def wZ neg ts (h:uV ts=true) (a:vC ts<=90):iY neg (.lst ts) (.lst [])=.ok (.bl (if neg then !ts.isEmpty else ts.isEmpty)):=by unfold iY;rw[aR (by simp[vm,h,uV];omega),Hv,KG]
def A1{a:Type} f (l:List a):nv (l.map f)=l.zipIdx.map λp=>T.tup [.int (p.2:Int),f p.1]:=by unfold nv;rw[dO,aJ];rfl
def DS{a b:Type} f (g:b->T) (l:List a) m:tO (l.map f) (m.map g)=(l.zip m).map λp=>T.tup [f p.1,g p.2]:=by unfold tO;rw[List.zip_map,aJ];rfl
theorem Ho{d:Type} f:∀(l:List d),(∀a∈l,lf (f a)=true)->HQ (l.map f)=true
 |[],_=>rfl
 |a::l,h=>by rw[bH,HQ,h a (by simp),Ho f l λb c=>h b (by simp[c])];rfl
@[simp] theorem yt(a:LI):HQ (a.map T.int)=true:=Ho _ _ λ_ _=>rfl
@[simp] theorem UQ ns:lf (tI ns)=true:=by simp[tI]
section
variable {α:Type}{fe fd fl:Pe->M T}{ρ:Pe}{ts:List T}{d k:Nat}
def Ad(l:List α)(d:Nat):pY l none (some (d:Int))=l.take d:=by
 unfold pY;rw[HT.sIx_none,HT.sIx_nat,List.drop_zero,Nat.sub_zero];by_cases h:d<=l.length
 .rw[dP h]
 .rw[Nat.min_eq_right (by omega),cL (aL _),cL (by omega)]
def vy(l:List α)(d:Nat):pY l (some (d:Int)) none=l.drop d:=by
 unfold pY;rw[HT.sIx_none,HT.sIx_nat];by_cases h:d<=l.length
 .rw[dP h,cL (by simp)]
 .rw[Nat.min_eq_right (by omega),dQ (aL _),dQ (by omega),List.take_nil]
def RQ n d:HT.sIx n d (some (-1))=n-1:=by unfold HT.sIx;dsimp only;rw[aR (by decide)];omega
def IW(l:List α):pY l none (some (-1))=l.dropLast:=by unfold pY;rw[HT.sIx_none,RQ,List.drop_zero,Nat.sub_zero,List.dropLast_eq_take]
def rL(h:fe ρ=.ok (.tup ts))(a:fd ρ=.ok (.int (d:Int)))(b:d<=ts.length):jY fe (λ_=>.ok none) (iW fd) ρ=.ok (.tup (ts.take d)):=by simp only[jY,iW,h,a,M.bind_ok,Ad]
def z9(h:fe ρ=.ok (.lst ts))(a:fd ρ=.ok (.int (d:Int))):jY fe (λ_=>.ok none) (iW fd) ρ=.ok (.lst (ts.take d)):=by simp only[jY,iW,h,a,M.bind_ok,Ad]
def J6(h:fe ρ=.ok (.tup ts))(a:ts≠[]):jY fe (λ_=>.ok none) (iW (rW (λi=>.int (-i)) (cM (.int 1)))) ρ=.ok (.tup ts.dropLast):=by have e:iW (rW (λi=>.int (-i)) (cM (.int 1))) ρ=.ok (some (-1)):=rfl;simp only[jY,h,e,M.bind_ok,IW]
def CJ(h:fe ρ=.ok (.tup ts))(a:fd ρ=.ok (.int (d:Int)))(c:0<d)(b:ts≠[]):jY fe (iW fd) (λ_=>.ok none) ρ=.ok (.tup (ts.drop d)):=by simp only[jY,iW,h,a,M.bind_ok,vy]
def Az(h:fe ρ=.ok (.lst ts))(a:fd ρ=.ok (.int (d:Int))):jY fe (iW fd) (λ_=>.ok none) ρ=.ok (.lst (ts.drop d)):=by simp only[jY,iW,h,a,M.bind_ok,vy]
def qh(h:lc ρ=.ok ts)(hr:o [.lst ts]=r):lC o (gO (jC lc) gR) ρ=r:=by simp only[lC,gO,gR,jC,h,M.bind_ok];exact hr
def mG(h:f ρ=.ok t)(hr:o [t]=r):lC o (gO f gR) ρ=r:=by simp only[lC,gO,gR,h,M.bind_ok];exact hr
def i5(h:lc ρ=.ok ts):jC lc ρ=.ok (.lst ts):=by simp only[jC,h,M.bind_ok]
def DJ(h:fe ρ=.ok (.tup ts)):jP fe ρ=.ok ts:=by simp only[jP,h,M.bind_ok]
def pW(h:fe ρ=.ok (.lst ts)):jP fe ρ=.ok ts:=by simp only[jP,h,M.bind_ok]
def iH(h:fe ρ=.ok (.bl b)):jL fe ρ=.ok b:=by simp only[jL,h,M.bind_ok]
def tU(h:fc ρ=.ok b)(hr:(!b)=r):L3.qC fc ρ=.ok r:=by simp only[L3.qC,h,M.bind_ok,hr]
def gX(b:fa ρ=.ok x)(a:fb ρ=.ok y)(hr:o x y=r):ik o fa fb ρ=r:=by simp only[ik,b,a,M.bind_ok];exact hr
def mN(h:f ρ=.ok x)(hr:F [x]=.ok t):hW (gO f gR) F ρ=.ok t:=by simp only[hW,gO,gR,h,hr,M.bind_ok];rfl
def jI(h:f ρ=.ok x)(a:g ρ=.ok y)(hr:F [x,y]=.ok t):hW (gO f (gO g gR)) F ρ=.ok t:=by simp only[hW,gO,gR,h,a,hr,M.bind_ok];rfl
def nc{f g k:Pe->M T}(h:f ρ=.ok x)(b:g ρ=.ok y)(a:k ρ=.ok z)(hr:F [x,y,z]=.ok t):hW (gO f (gO g (gO k gR))) F ρ=.ok t:=by simp only[hW,gO,gR,h,b,a,hr,M.bind_ok];rfl
def Rr{f g k l:Pe->M T}(h:f ρ=.ok x)(b:g ρ=.ok y)(a:k ρ=.ok z)(c:l ρ=.ok u)(hr:F [x,y,z,u]=.ok t):hW (gO f (gO g (gO k (gO l gR)))) F ρ=.ok t:=by simp only[hW,gO,gR,h,b,a,c,hr,M.bind_ok];rfl
end
section
variable {ρ:Pe}{ts:List T}{F:List T->M (List T)}{f g k l:Pe->M T}{x y z u:T}
def qU(h:f ρ=.ok x)(hr:F [x]=.ok ts):i8 (gO f gR) F ρ=.ok ts:=by simp only[i8,gO,gR,h,hr,M.bind_ok];rfl
def EA(h:f ρ=.ok x)(a:g ρ=.ok y)(hr:F [x,y]=.ok ts):i8 (gO f (gO g gR)) F ρ=.ok ts:=by simp only[i8,gO,gR,h,a,hr,M.bind_ok];rfl
def Kl(h:f ρ=.ok x)(a:g ρ=.ok y)(b:k ρ=.ok z)(hr:F [x,y,z]=.ok ts):i8 (gO f (gO g (gO k gR))) F ρ=.ok ts:=by simp only[i8,gO,gR,h,a,b,hr,M.bind_ok];rfl
end
def vM{a b:Type}{l:List a}{m:List b}{f:a->T}{g:b->T}(d:fa ρ=.ok x)(h:seqT x=.ok (l.map f))(e:fb ρ=.ok y)(c:seqT y=.ok (m.map g)) :
  nG (gO fa (gO fb gR)) ρ=.ok ((l.zip m).map λp=>T.tup [f p.1,g p.2]):=by
 rw[<-DS];simp only[nG,gO,gR,d,e,M.bind_ok,h,c]
end L3
namespace L3
open PySem L2 PySem.Spec PyProof.Rows
def Lz(K:W.Frag):Sp:=λd H Q _=>∃(a:Addr) (b:LI),d=[.ref a]/\l9 K H a (b.map V.int)/\b.length<=63/\(∀z∈b,Builtin.Int.intBits z<=2 ^ 20)/\∀c,Q (.bl true) c
def JV{K:W.Frag}(h:∀b:LI,b.length<=63->(∀z∈b,Builtin.Int.intBits z<=2 ^ 20)->F [.scr b]=.ok (.bl true)) vs H Q E (z:Lz K vs H Q E):t5 K F vs H Q E:=by obtain⟨a,b,rfl,f,e,c,d⟩:=z;refine⟨[.scr b],H,.refl _,.cons (.scr f) .nil,?_⟩;rw[h b e c];intro v i j g r;cases r;exact d _
def WG{K:W.Frag}{st:Stmt}(F:NL K x x st f fd)(S:ji N ps (gZ st))
  (c:∀(f:Addr) (b:Value) (A:Around) (a:List Env) (s:Shared) (H:Hp) (E:XK),je k (A.deeper (envOfC x (gZ st) s.heap.objs.size f b))->∃t,qY K E (ou sQ P w K mg base N x (gZ st) f b A a s H E).nox (iR st) t g) :
  nQ P w K mg base sQ (k+1) f fd ps (t5 K (nY ps.length N.length g)):=
 F.ok S (λd H Q E h=>FA h) λb A a s H d Q E hr h=>let ⟨t,hp⟩:=c f b A a s H E hr;⟨t,hp.ps,BD hp.ms h⟩
end L3
namespace L3
open PySem L2 PySem.Spec PyProof.Rows
section
variable {K:W.Frag}{E:XK}{t:TE}{f:Pe->M T}
def kO(K:W.Frag)(F H:Hp)(x:Addr)(Q:VK)(t:T):Prop:=∀b c,ij F b->ij b c->(∀a o,a≠x->H a=some o->Jw o (c a))->(∀a,b a≠none->F a≠none\/H a=none\/a=x\/∃d,H a=some (.tup d))->lA K b (.ref x) t->Q .non c
noncomputable def Cy(K:W.Frag)(C:Addr)(g:List T->M T):Sp:=λe H Q _=>∃x d b c a,e=.ref x::b/\H x=some (.ins C d [])/\a x=none/\ij a H/\iy K a b c/\(g c).noEr.res (kO K a H x Q) (λ_ _=>False)
def MZ{I:Pe->M (List T)}(Y:MA K E tr I):ME K E (G7 C (Cy K C Fn) [] E' tr) (hW I Fn):=λF H σ ρ Q s V q=>by
 refine Y.run s V q λD N Z B g P i=>?_;intro x m j v A;have u:i6 B m (.own x) x=none:=by rw[hV (λz=>A z.symm)];exact j
 have l:ij B (i6 (i6 B m (.own x)) x (.ins C m [])):=(wd v).trans (wd u);refine⟨x,m,N,D,Z,by rw[bL],g9,iC g.fh j,g.fh.trans l,P,?_⟩;cases e:Fn D with
 |bad=>rw[e]at i;exact i.elim
 |er C n=>rw[e]at i;exact i.elim
 |ok t=>
  rw[e]at i;intro R L a b c d r;refine⟨rfl,i (.ref x) R L ⟨g.ff.trans a,b,λp o h=>?_,λp S=>?_⟩ r⟩
  .have J:=g.hh p o h;have w:p≠x:=zg J j;exact Ro (g.hh.trans l p o h) λU e=>c p U w e
  .rcases d p S with z|z|z|⟨X,z⟩
   .exact g.nw p z
   .exact .inr (.inl (iC g.hh (iC l z)))
   .rw[z];exact .inr (.inl (iC g.hh j))
   .cases y:H p with
    |none=>exact .inr (.inl rfl)
    |some o=>exact .inr (.inr ⟨X,by have k:=g.hh.trans l p o y;rw[z]at k;rw[Ab k λ_ _ y=>nomatch y]⟩)
noncomputable def AY(C:Addr)(n:Nat)(d h:Str)(g e:Pe->M T):List T->M T:=λc=>if c.length=n then (g (none::c.map some)).bind λa=>(e (none::c.map some)).bind λb=>.ok (.obj C [(d,a),(h,b)]) else .bad
structure Wk(K:W.Frag)(E:XK)(X:Cx)(body:List Stmt)(f1 f2:Str)(g1 g2:Pe->M T):Prop where
 ex:∃(t1 t2:TE),BU X body (BO (RY K (m7 0) t1 f1) (RY K (m7 0) t2 f2))/\ME K E t1 g1/\ME K E t2 g2
def Wx(h:X.K=K)(d:PE X o1 (m7 0))(g:Pm K E X a1 t1 g1)(b:PE X o2 (m7 0))(e:Pm K E X a2 t2 g2)
  (a:swapsWith a1 (some (.Attribute o1 f1 p1)) q1.line X.env=pure false:=by rfl) (c:swapsWith a2 (some (.Attribute o2 f2 p2)) q2.line X.env=pure false:=by rfl) :
  Wk K E X [.Assign [.Attribute o1 f1 p1] a1 q1,.Assign [.Attribute o2 f2 p2] a2 q2] f1 f2 g1 g2:=by
 subst h;exact⟨t1,t2,qj (Nw d g.pe a) (qD (Nw b e.pe c)),g.me,e.me⟩
theorem Tb{st:Stmt}(cl:zD K C)(n1:my K C f1)(n2:my K C f2)(ne:f1≠f2)(D:ly K C "__init__" qual st)(S:ji N N (gZ st))
  (mk:W.makesIn K C=true) (kp:W.keepIn K (.ref C)=true) (hm:mg x=some (.ref C)) (hN:N.length=n+1)
  (hb:∀(kV doc pm:Value) (an:Option Addr) (j ct:Value) (us:List Value),us.length=N.length->bindArgs (W.fnOf "__init__" qual (j7 st) (iR st) (gZ st) .none kV doc pm an j ct) ⟨us,[]⟩=pure (N.zip us))
  (hT:∀(f:Addr) (j:Value) (A:Around) (d:List Env) (s:Shared) (H:Hp) (E:XK),je k (A.deeper (envOfC qual (gZ st) s.heap.objs.size f j))->Wk K E (ou sQ P w K mg base N qual (gZ st) f j A d s H E).nox (iR st) f1 f2 g1 g2) :
  C2 P w K mg base x C (k+1) (Cy K C (AY C n f1 f2 g1 g2)):=by
 obtain⟨fi,fd,F,Mm⟩:=D.ex;refine⟨⟨fi,fd,N,F.ok S (λvs H Q E h=>?_) (λj A d s H vs Q E hr h=>?_),⟨mk,Mm.at_,Mm.fn,kp⟩,F.binds hb⟩,hm⟩
 .obtain⟨x,B,us,u,F0,rfl,U,fx,s,r,q⟩:=h;unfold AY at q;by_cases L:u.length=n
  .rw[aA,r.length,L,hN]
  .rw[aS L]at q;exact q.elim
 .obtain⟨x,B,us,u,F0,rfl,U,fx,s0,r,q⟩:=h;obtain⟨t1,t2,ps,m1,m2⟩:=(hT fi j A d s H E hr).ex;refine⟨_,ps,?_⟩;unfold AY at q;by_cases L:u.length=n
  .rw[aR L]at q;have V:l7 K F0 (lV N (.ref x::us)) (none::u.map some):=λi t e=>by
    cases i with
    |zero=>cases e
    |succ i=>
     rw[List.getElem?_cons_succ,aw]at e;cases hq:u[i]? with
     |none=>rw[hq]at e;cases e
     |some y=>rw[hq]at e;cases e;obtain⟨v,a,b⟩:=r.get hq;refine⟨v,?_,b⟩;unfold L2.lV;rw[List.getElem?_append_left (by rw[ax,aA];exact Nat.succ_lt_succ (aa.mp a).1),aw,List.getElem?_cons_succ,a];rfl
   cases X:g1 (none::u.map some) with
   |bad=>rw[X]at q;exact q.elim
   |er C n=>rw[X]at q;exact q.elim
   |ok a=>
    rw[X,L3.M.bind_ok]at q;cases R:g2 (none::u.map some) with
    |bad=>rw[R]at q;exact q.elim
    |er C n=>rw[R]at q;exact q.elim
    |ok b=>
     rw[R,L3.M.bind_ok]at q;refine m1 F0 H _ _ _ s0 V ?_;rw[X];intro v Y H1 c r1;have hx1:=c.hh _ _ U;have J:Y x=none:=by
      cases z:Y x with
      |none=>rfl
      |some o=>
       rcases c.nw x (by rw[z];exact λy=>nomatch y) with y|y|⟨_,y⟩
       .exact absurd fx y
       .rw[U]at y;cases y
       .rw[U]at y;cases y
     refine⟨.ref x,rfl,x,C,B,[],rfl,hx1,cl,n1,by decide,?_⟩;have s1:ij Y (i6 H1 x (.ins C B (qK f1 v []))):=λp o h=>by
      have l:p≠x:=λz=>by rw[z,J]at h;cases h
      rw[hV l];exact c.fh p o h
     refine m2 Y _ _ _ _ s1 (V.mono c.ff) ?_;rw[R];intro Z I H3 g r2;have hx3:=g.hh x _ g9;have fx2:I x=none:=by
      cases z:I x with
      |none=>rfl
      |some o=>
       rcases g.nw x (by rw[z];exact λy=>nomatch y) with y|y|⟨_,y⟩
       .exact absurd J y
       .rw[g9]at y;cases y
       .rw[g9]at y;cases y
     refine⟨.ref x,rfl,x,C,B,_,rfl,hx3,cl,n2,by show 1<1000;decide,?_⟩;have ep:qK f2 Z (qK f1 v [])=[(f1,v),(f2,Z)]:=by show (if f1=f2 then _ else _)=_;rw[aS ne];rfl
     have sF:ij I (i6 I x (.ins C B [(f1,v),(f2,Z)])):=wd fx2;refine q (i6 I x (.ins C B [(f1,v),(f2,Z)])) _ ((c.ff.trans g.ff).trans sF) (λp o h=>?_) (λp o l h=>?_) (λp l=>?_) (.obj g9 (.cons (r1.mono (g.ff.trans sF)) (.cons (r2.mono sF) .nil)))
     .by_cases l:p=x
      .subst l;rw[g9]at h;rw[g9,ep];exact .of h
      .rw[hV l]at h ⊢;exact g.fh p o h
     .rw[hV l];exact Ro (c.hh p o h) λo' e=>g.hh p o' (by rw[hV l];exact e)
     .by_cases m:p=x
      .exact .inr (.inr (.inl m))
      .rw[hV m]at l;rcases g.nw p l with z|z|⟨xs,z⟩
       .rcases c.nw p z with y|y|y
        .exact .inl y
        .exact .inr (.inl y)
        .exact .inr (.inr (.inr y))
       .rw[hV m]at z;exact .inr (.inl (iC c.hh z))
       .rw[hV m]at z;cases y:H p with
        |none=>exact .inr (.inl rfl)
        |some o=>exact .inr (.inr (.inr ⟨xs,by have k:=c.hh p o y;rw[z]at k;rw[Ab k λ_ _ y=>nomatch y]⟩))
  .rw[aS L]at q;exact q.elim
end
section
variable {X:Cx}{K:W.Frag}{E:XK}{x m:Str}{C:Addr}{k:Nat}{Fn:List T->M T}{Ff:List T->M (List T)}{e o:Expr}{es:List Expr}{tr:TA}{fr:Pe->M (List T)}{ta:TE}{fa:Pe->M T}{p pos apos:Pos}
def Kg(h:C2 X.prog X.w X.K X.mg X.base x C j (Cy K C Fn))(hr:je k X.A)(c:Fi K E X (e::es) tr fr)(g:j+1<=k:=by decide)(f:Gl X x:=by rfl)
  (b:(x==("__debug__" : Str))=false:=by decide) (d:starEach (e::es) X.env=(false,eval e X.env)::starEach es X.env:=by rfl) (a:(backTo pos (starEach es X.env)).any (·.1)=false:=by rfl) :
  Pm K E X (.Call (.Name x p) (e::es) [] pos) (G7 C (Cy K C Fn) [] E0 tr) (hW fr Fn):=⟨UL h (hr.mono g) c.pa f b d a,MZ c.ma⟩
def Q0(h:jR X.prog X.w X.K X.mg X.base C m j (t5 K Fn))(hr:je k X.A)(d:Pm K E X o ta fa)(c:Fi K E X (e::es) tr fr)(i:j<=k:=by decide)
  (a:starEach (e::es) X.env=(false,eval e X.env)::starEach es X.env:=by rfl) (b:(backTo pos (starEach es X.env)).any (·.1)=false:=by rfl)
  (g:eval (.Call (.Attribute o m apos) (e::es) [] pos) X.env=(do
   let ov <-eval o X.env
   standAt apos.atName
   let (f,first) <-holding [ov] (getMethod ov m pl)
   callWith pos f first (backTo pos (starEach (e::es) X.env)) (backToKw pos (keywordEach [] X.env))):=by rfl) :
  Pm K E X (.Call (.Attribute o m apos) (e::es) [] pos) (uh C m (t5 K Fn) [] E0 ta tr) (mx C m fa fr Fn):=⟨UP h (hr.mono i) d.pe c.pa a b g,El d.me c.ma⟩
def yP(h:jR X.prog X.w X.K X.mg X.base C m j (t5 K Fn))(hr:je k X.A)(a:Pm K E X o ta fa)(c:j<=k:=by decide)
  (b:eval (.Call (.Attribute o m apos) [] [] pos) X.env=(do
   let ov <-eval o X.env
   standAt apos.atName
   let (f,first) <-holding [ov] (getMethod ov m pl)
   callWith pos f first (backTo pos (starEach [] X.env)) (backToKw pos (keywordEach [] X.env))):=by rfl) :
  Pm K E X (.Call (.Attribute o m apos) [] [] pos) (uh C m (t5 K Fn) [] E0 ta v7) (mx C m fa gR Fn):=⟨KJ h (hr.mono c) a.pe b,El a.me Fo⟩
def Bt(h:jR X.prog X.w X.K X.mg X.base C m j (CB K Ff))(hr:je k X.A)(a:Pm K E X o ta fa)(c:j<=k:=by decide)
  (b:eval (.Call (.Attribute o m apos) [] [] pos) X.env=(do
   let ov <-eval o X.env
   standAt apos.atName
   let (f,first) <-holding [ov] (getMethod ov m pl)
   callWith pos f first (backTo pos (starEach [] X.env)) (backToKw pos (keywordEach [] X.env))):=by rfl) :
  Ia K E X (.Call (.Attribute o m apos) [] [] pos) (uh C m (CB K Ff) [] E0 ta v7) (pI C m fa gR Ff):=⟨KJ h (hr.mono c) a.pe b,Lj a.me Fo⟩
def tP(d:X.K=K)(a:zD K C)(c:my K C f)(h:Pm K E X e ta fa)(b:attributeBase e f X.env (eval e X.env)=eval e X.env:=by rfl):Pm K E X (.Attribute e f pos) (RN X.K ta f) (sY C f fa):=by subst d;exact⟨Sv h.pe b,RL a c h.me⟩
end
section
variable {P:Program}{w:World}{K:W.Frag}{mg:Str->Option Value}{base:Heap}{C:Addr}{m qual:Str}{st:Stmt}{N ps:List Str}{k:Nat}{g:En->O}
def U8(d:zD K C)(D:ly K C m qual st)(S:ji N ps (gZ st))
  (i:∀(kV c j:Value) (n:Option Addr) (b o:Value) (us:List Value),us.length=ps.length->bindArgs (W.fnOf m qual (j7 st) (iR st) (gZ st) .none kV c j n b o) ⟨us,[]⟩=pure (ps.zip us))
  (l:∀(f:Addr) (b:Value) (A:Around) (a:List Env) (s:Shared) (H:Hp) (E:XK),je k (A.deeper (envOfC qual (gZ st) s.heap.objs.size f b))->∃t,qY K E (ou sQ P w K mg base N qual (gZ st) f b A a s H E).nox (iR st) t g) :
  jR P w K mg base C m (k+1) (t5 K (nY ps.length N.length g)):=
 Hg d D S i (λe H Q E h=>FA h) λf b A a s H e Q E hr h=>let ⟨t,hp⟩:=l f b A a s H E hr;⟨t,hp.ps,BD hp.ms h⟩
def Vq(d:zD K C)(D:ly K C m qual st)(S:ji N ps (gZ st))
  (i:∀(kV c j:Value) (n:Option Addr) (b o:Value) (us:List Value),us.length=ps.length->bindArgs (W.fnOf m qual (j7 st) (iR st) (gZ st) .none kV c j n b o) ⟨us,[]⟩=pure (ps.zip us))
  (l:∀(f:Addr) (b:Value) (A:Around) (a:List Env) (s:Shared) (H:Hp) (E:XK),je k (A.deeper (envOfC qual (gZ st) s.heap.objs.size f b))->∃t,qY K E (ou sQ P w K mg base N qual (gZ st) f b A a s H E).nox (iR st) t g) :
  jR P w K mg base C m (k+1) (CB K (xw ps.length N.length g)):=
 Hg d D S i (λe H Q E h=>Bx h) λf b A a s H e Q E hr h=>let ⟨t,hp⟩:=l f b A a s H E hr;⟨t,hp.ps,zc hp.ms h⟩
end
end L3
namespace L3
open PySem L2 PySem.Spec PyProof.Rows
section
variable {K:W.Frag}{E:XK}{X:Cx}{F0:Fz}{H0 F H:Hp}{σ:L2.St}{ρ:En}{x:Str}{e:Expr}{pos pos' p pd:Pos}
noncomputable def Gj(kvs:List (LI×T))(k:LI)(v:T):List (LI×T):=if (kvs.any λa=>decide (a.1=k))=true then kvs.map (λa=>if a.1=k then (a.1,v) else a) else kvs++[(k,v)]
theorem xb:∀{a b:LI},a.map (Sum.inl:Int->nC)=b.map Sum.inl->a=b
 |[],[],_=>rfl
 |[],_::_,h=>nomatch h
 |_::_,[],h=>nomatch h
 |x::a,y::b,h=>by simp only[bH,List.cons.injEq]at h;rw[Sum.inl.inj h.1,xb h.2]
def DR.put(h:DR K F xs kvs) k (r:lA K F v t):DR K F (vD xs (k.map Sum.inl) v) (Gj kvs k t):=by
 have b:(xs.any λa=>decide (a.1=k.map Sum.inl))=kvs.any λa=>decide (a.1=k):=by
  induction h with
  |nil=>rfl
  |cons q _ ih=>
   rename_i x y _ _ _;rw[bX,bX,ih];congr 1;by_cases z:y.1=k
   .rw[aD z,aD (by rw[q.1,z])]
   .rw[aC z,aC (λw=>z (xb (by rw[<-q.1,w])))]
 unfold vD Gj;rw[b];generalize (kvs.any λa=>decide (a.1=k))=bb;split
 .clear b;unfold DR at h ⊢;induction h with
  |nil=>exact .nil
  |cons q _ ih=>
   rename_i x y _ _ _;refine .cons ?_ ih;dsimp only;by_cases z:y.1=k
   .rw[aR (by rw[q.1,z]),aR z];exact⟨q.1,r⟩
   .rw[aS (λw=>z (xb (by rw[<-q.1,w]))),aS z];exact q
 .clear b;unfold DR at h ⊢;induction h with
  |nil=>exact .cons ⟨rfl,r⟩ .nil
  |cons q _ ih=>exact .cons q ih
end
end L3
namespace L3
open PySem L2 PySem.Spec PyProof.Rows
def SB:Nat->(List Value->Prop)->Prop
 |0,P=>P []
 |k+1,P=>∀v,SB k λus=>P (v::us)
theorem oQ:∀{k} {P},SB k P->∀us:List Value,us.length=k->P us
 |0,_,h,[],_=>h
 |k+1,_,h,v::us,e=>oQ (h v) us (by simpa using e)
def Vr(X:Cx):Prop:=∀x,X.env.scope.names.lookup x=some .cell->∃c,X.env.cells.lookup x=some c
structure Zx(P:Program)(w:World)(K:W.Frag)(mg:Str->Option Value)(base:Heap):Prop where
 here:True
section
variable {P:Program}{w:World}{K:W.Frag}{mg:Str->Option Value}{base:Heap}
noncomputable abbrev CP(_:Zx P w K mg base)(x:Str)(k:Nat)(F:List T->M T):Prop:=lQ P w K mg base x k (t5 K F)
noncomputable abbrev CF(_:Zx P w K mg base)(x:Str)(k:Nat)(F:List T->M (List T)):Prop:=lQ P w K mg base x k (CB K F)
end
section
variable {P:Program}{w:World}{K:W.Frag}{mg:Str->Option Value}{base:Heap}{x m qual:Str}{C:Addr}{st:Stmt}{g:En->O}
noncomputable abbrev Vb(P:Program)(w:World)(K:W.Frag)(mg:Str->Option Value)(base:Heap)(k:Nat)(qual:Str)(st:Stmt)(N:List Str)(g:En->O):Prop:=∀{f:Addr} {cdv:Value} {A:Around} {outer:List Env} {s:Shared} {H:Hp} {E:XK},N.Nodup->Vr (ou sQ P w K mg base N qual (gZ st) f cdv A outer s H E).nox->je k (A.deeper (envOfC qual (gZ st) s.heap.objs.size f cdv))->∃t,qY K E (ou sQ P w K mg base N qual (gZ st) f cdv A outer s H E).nox (iR st) t g
abbrev Tn(x qual:Str)(st:Stmt)(ps:List Str):Prop:=∀(kV doc pm:Value) (an:Option Addr) (cdv ct:Value),SB ps.length λus=>bindArgs (W.fnOf x qual (j7 st) (iR st) (gZ st) .none kV doc pm an cdv ct) ⟨us,[]⟩=pure (ps.zip us)
def lW(_:Zx P w K mg base) k F N ps (e:F=nY ps.length N.length g) (D:ib K mg x st) (j:Vb P w K mg base k x st N g) (S:ji N ps (gZ st):=by constructor<;>first|rfl|decide +kernel)
  (l:Tn x x st ps:=by first|exact λ_ _ _ _ _ _ _ _=>rfl|exact λ_ _ _ _ _ _ _=>rfl|exact λ_ _ _ _ _ _ _ _ _=>rfl|exact λ_ _ _ _ _ _ _ _ _ _=>rfl|exact λ_ _ _ _ _ _ _ _ _ _ _=>rfl|exact λ_ _ _ _ _ _=>rfl) :
  lQ P w K mg base x (k+1) (t5 K F):=e▸Wm D S (λa b c d e f i n=>oQ (l a b c d e f) i n) λ_ _ _ _ _ _ _ r=>j S.nd (λ_ h=>m8 h) r
def yW(_:Zx P w K mg base) k F N ps (e:F=xw ps.length N.length g) (D:ib K mg x st) (j:Vb P w K mg base k x st N g) (S:ji N ps (gZ st):=by constructor<;>first|rfl|decide +kernel)
  (l:Tn x x st ps:=by first|exact λ_ _ _ _ _ _ _ _=>rfl|exact λ_ _ _ _ _ _ _=>rfl|exact λ_ _ _ _ _ _ _ _ _=>rfl|exact λ_ _ _ _ _ _ _ _ _ _=>rfl|exact λ_ _ _ _ _ _ _ _ _ _ _=>rfl|exact λ_ _ _ _ _ _=>rfl) :
  lQ P w K mg base x (k+1) (CB K F):=e▸Wu D S (λa b c d e f i n=>oQ (l a b c d e f) i n) λ_ _ _ _ _ _ _ r=>j S.nd (λ_ h=>m8 h) r
def KF(_:Zx P w K mg base) k F N ps (e:F=nY ps.length N.length g) (i:zD K C) (D:ly K C m qual st) (l:Vb P w K mg base k qual st N g) (S:ji N ps (gZ st):=by constructor<;>first|rfl|decide +kernel)
  (n:Tn m qual st ps:=by first|exact λ_ _ _ _ _ _ _=>rfl|exact λ_ _ _ _ _ _ _ _=>rfl|exact λ_ _ _ _ _ _ _ _ _=>rfl) :
  jR P w K mg base C m (k+1) (t5 K F):=e▸U8 i D S (λa b c d e f j o=>oQ (n a b c d e f) j o) λ_ _ _ _ _ _ _ r=>l S.nd (λ_ h=>m8 h) r
def TU(_:Zx P w K mg base) k F N ps (e:F=xw ps.length N.length g) (i:zD K C) (D:ly K C m qual st) (l:Vb P w K mg base k qual st N g) (S:ji N ps (gZ st):=by constructor<;>first|rfl|decide +kernel)
  (n:Tn m qual st ps:=by first|exact λ_ _ _ _ _ _ _=>rfl|exact λ_ _ _ _ _ _ _ _=>rfl|exact λ_ _ _ _ _ _ _ _ _=>rfl) :
  jR P w K mg base C m (k+1) (CB K F):=e▸Vq i D S (λa b c d e f j o=>oQ (n a b c d e f) j o) λ_ _ _ _ _ _ _ r=>l S.nd (λ_ h=>m8 h) r
def Vx(_:Zx P w K mg base) k F N ps (e:F=nY ps.length N.length g) (D:NL K x x st f fd) (a:Vb P w K mg base k x st N g) (S:ji N ps (gZ st):=by constructor<;>first|rfl|decide +kernel) :
  nQ P w K mg base sQ (k+1) f fd ps (t5 K F):=e▸WG D S λ_ _ _ _ _ _ _ r=>a S.nd (λ_ h=>m8 h) r
def Wj(_:Zx P w K mg base) k F N (e:F=AY C n f1 f2 g1 g2) (j:zD K C) (I:my K C f1) (l:my K C f2) (q:W.makesIn K C=true) (p:W.keepIn K (.ref C)=true) (o:mg x=some (.ref C)) (D:ly K C "__init__" qual st)
  (y:∀{f:Addr} {i:Value} {A:Around} {h:List Env} {s:Shared} {H:Hp} {E:XK},je k (A.deeper (envOfC qual (gZ st) s.heap.objs.size f i))->Wk K E (ou sQ P w K mg base N qual (gZ st) f i A h s H E).nox (iR st) f1 f2 g1 g2)
  (S:ji N N (gZ st):=by constructor<;>first|rfl|decide +kernel) (z:Tn "__init__" qual st N:=by exact λ_ _ _ _ _ _ _ _ _=>rfl) (ne:f1≠f2:=by decide) (B:N.length=n+1:=by rfl) :
  C2 P w K mg base x C (k+1) (Cy K C F):=e▸Tb j I l ne D S q p o B (λa b c d e f v u=>oQ (z a b c d e f) v u) λ_ _ _ _ _ _ _ r=>y r
end
section
variable {K:W.Frag}{E:XK}{X:Cx}{tg elt iter:Expr}{ifs:List Expr}{scope:Scope}{wi:TI}{g:TG}{tt:TT}{te:TE}{fe:Pe->M T}{fi:Pe->M (List T)}{m:T->Pe->Option Pe}{ft:Pe->M Bool}{pos:Pos}{x:Str}
noncomputable abbrev WV(K:W.Frag)(X:Cx)(scope:Scope)(N:List Str)(tg elt:Expr)(ifs:List Expr)(g:TG)(tt:TT)(te:TE)(m:T->Pe->Option Pe)(ft:Pe->M Bool)(fe:Pe->M T):Prop:=∀{C s₃ H ex pn},N.Nodup->Vr (nN X N scope C s₃ H ex pn)->Um K (nN X N scope C s₃ H ex pn) tg g m/\Nc K NM (nN X N scope C s₃ H ex pn) ifs tt ft/\Pm K NM (nN X N scope C s₃ H ex pn) elt te fe
def lx N ix (c:Vr X) (f:Jx K E X tg iter wi fi) (a:WV K X scope N tg elt ifs g tt te m ft fe) (h:Cj X.N X.env.scope scope N ix=true:=by rfl) (b:qB ix g:=by first|exact yJ rfl|exact xS rfl rfl) (nd:N.Nodup:=by decide) (e:X.calm=true:=by rfl)
  (d:∀x,foldedSetIterable iter X.env x=pure x:=by intro _;rfl):Ia K E X (.ListComp elt [⟨tg,iter,ifs,0⟩] scope pos) (ND ix wi g tt te) (lM ix fi m ft fe):=
 let L:=U2 c h
 Uz e f L b (λ_ _ _ _ _=>a nd (LZ L)) d
def pA N ix i (k:X.N.Nodup) (f:Vr X) (n:Jx K E X tg iter wi fi) (b:WV K X scope N tg elt ifs g tt te m ft fe)
  (e:MF K E (ND ix wi g tt te) (lM ix fi m ft fe)->MS K E (pj (ND ix wi g tt te) (j9 i)) gm) (p:Cj X.N X.env.scope scope N ix=true:=by rfl) (c:qB ix g:=by first|exact yJ rfl|exact xS rfl rfl) (nd:N.Nodup:=by decide) (l:IT X.env.scope x:=by first|exact Or.inl rfl|exact Or.inr rfl) (j:X.calm=true:=by rfl)
  (d:X.N[i]? = some x:=by rfl) (o:X.fn x=true\/X.env.scope.names.lookup x=some .local:=by first|exact .inl rfl|exact .inr rfl)
  (a:swapsWith (.ListComp elt [⟨tg,iter,ifs,0⟩] scope pos) (some (.Name x py)) spos.line X.env=pure true:=by rfl)
  (h:∀x,foldedSetIterable iter X.env x=pure x:=by intro _;rfl):Aw K E X (.Assign [.Name x py] (.ListComp elt [⟨tg,iter,ifs,0⟩] scope pos) spos) (pj (ND ix wi g tt te) (j9 i)) gm:=
 let L:=U2 f p
 T4 i k l j n L c (λ_ _ _ _ _=>b nd (LZ L)) e d o a h
end
end L3
namespace L3
open PySem L2 PySem.Spec PyProof.Rows
section
variable {K:W.Frag}{E:XK}{F H:Hp}{X:Cx}{a b:Expr}{ta tb:TE}{fa fb:Pe->M T}{pos:Pos}
theorem oM.dr:∀{xs} {kvs},oM K F xs kvs->DR K F xs kvs
 |_,_,.nil=>.nil
 |_,_,.cons h r=>.cons ⟨rfl,h⟩ (oM.dr r)
theorem DR.rd:∀{xs} {kvs},DR K F xs kvs->oM K F xs kvs
 |[],_,.nil=>.nil
 | (_,_)::_,_,.cons ⟨e,h⟩ r=>by cases e;exact .cons h (DR.rd r)
noncomputable def n9(kvs:List (LI×T))(k:LI):Option T:=(kvs.find? λkv=>decide (kv.1=k)).map (·.2)
theorem oM.val k:∀{xs} {kvs},oM K F xs kvs->(n9 kvs k=none/\tQ xs (k.map Sum.inl)=none)\/∃t v,n9 kvs k=some t/\tQ xs (k.map Sum.inl)=some v/\lA K F v t
 |_,_,.nil=>.inl ⟨rfl,rfl⟩
 |_,_,.cons (k:=j) (v:=v) (t:=t) h r=>by
  unfold n9 tQ;by_cases e:j=k
  .subst e;exact .inr ⟨t,v,by simp,by simp,h⟩
  .rw[List.find?_cons_of_neg (by simpa using e),List.find?_cons_of_neg (by simpa using λz=>e (xb z))];exact oM.val k r
def zl:List T->Option (List (LI×T))
 |[]=>some []
 |.tup [.tup ks,v]::r=>(kj ks).bind λc=>(zl r).bind λq=>some ((c,v)::q)
 |_=>none
noncomputable def ur(kvs c:List (LI×T)):List (LI×T):=c.foldl (λk q=>Gj k q.1 q.2) kvs
@[simp] noncomputable def DB:List T->M T
 |[.lst ts]=>match zl ts with
  |some ps=>.ok (.dic (ur [] ps))
  |none=>.bad
 |_=>.bad
def Ma xs:M.NoE (DB xs):=λC n=>by unfold DB;split<;>first|(intro z;cases z;done)|(split<;>intro z<;>cases z)
theorem Kk:∀{vs} {ts} {ps},iy K F vs ts->zl ts=some ps->∃l:List Pr,vs=l.map (λq=>.ref q.1)/\(∀q∈l,Pl F q)/\oM K F (l.map λq=>(q.2.2.1,q.2.2.2)) ps
 |_,[],_,.nil,e=>by cases e;exact⟨[],rfl,(λ_ h=>nomatch h),oM.nil⟩
 |_,t::ts,ps,.cons h r,e=>by
  unfold zl at e;split at e
  .rename_i z;cases z
  .rename_i ks v k z;cases z;cases c:kj ks with
   |none=>rw[c]at e;cases e
   |some ns=>
    rw[c]at e;cases d:zl ts with
    |none=>rw[d]at e;cases e
    |some q=>
     rw[d]at e;cases e;obtain⟨l,rfl,i,g⟩:=Kk r d;cases h with
     |tup h rs=>
      cases rs with
      |cons h1 rs=>
       cases rs with
       |cons hv rs=>
        cases rs;cases h1 with
        |tup hb rk=>
         rw[oC c]at rk;rename_i a j b m;refine⟨(a,b,ns.map Sum.inl,j)::l,rfl,λq f=>?_,.cons hv g⟩;rcases aG.mp f with rfl|z
         .exact⟨h,by rw[hb,rk.ints,aJ];rfl⟩
         .exact i q z
  .cases e
theorem A4:∀l {xs} {kvs ps},oM K F (l.map λq=>(q.2.2.1,q.2.2.2)) ps->oM K F xs kvs->oM K F (vV xs l) (ur kvs ps)
 |[],_,_,ps,h,r=>by cases h;exact r
 |q::l,xs,kvs,ps,h,r=>by
  generalize e:(q::l).map (λq:Pr=>(q.2.2.1,q.2.2.2))=m at h;cases h with
  |nil=>cases e
  |cons h1 h2=>rw[bH]at e;obtain⟨c,d⟩:=List.cons.inj e;subst d;have g:=(Prod.mk.inj c).1;have i:=(Prod.mk.inj c).2;rename_i k v t f;show oM K F (vV (vD xs q.2.2.1 q.2.2.2) l) (ur (Gj kvs k t) f);refine A4 l h2 ?_;rw[g,i];exact (r.dr.put _ h1).rd
def Pd:MC K (λxs H Q=>∃l e,xs=[.ref l]/\H l=some (.lst (e.map λq=>.ref q.1))/\(∀q∈e,Pl H q)/\∀d,H d=none->Q (.ref d) (i6 H d (.dT (vV [] e)))) DB:=⟨Ma,λF H j xs Q s r q=>by
 unfold DB at q;split at q
 .split at q
  .rename_i k _ e c;cases r with
   |cons h t=>
    cases t;cases h with
    |lst h r=>obtain⟨l,rfl,g,i⟩:=Kk r c;refine⟨_,l,rfl,s _ _ h,λp c=>⟨s _ _ (g p c).1,s _ _ (g p c).2⟩,λd f=>?_⟩;exact q (.ref d) _ _ (.new s f) (.dic g9 ((A4 l i .nil).mono (Gr.new s f).ff))
  .exact q.elim
 .exact q.elim⟩
def Oi:bootBuiltins "dict" = some (.type "dict"):=by decide +kernel
def Xr(hr:je k A):A.units+4<cLine:=by have:=hr.un;omega
noncomputable def E7(neg:Bool):T->T->M T
 |.tup ks,.dic kvs=>match kj ks with
  |some ns=>.ok (.bl (if neg then !(n9 kvs ns).isSome else (n9 kvs ns).isSome))
  |none=>.bad
 |_,_=>.bad
def RB:R2:=λy x H Q=>∃a o,x=.ref a/\Bh H a y o/\Q (.bl o.isSome) H
def Sd(d:X.A.units+1<cLine):rK X (compareOp .In) RB:=by intro k s i H x y v u Q I f e h;obtain⟨a,o,rfl,g,q⟩:=h;cases e;exact Wd d I g f λj c=>⟨.bl _,H,c,rfl,q⟩
def Pb x y:M.NoE (E7 neg x y):=λC n=>by unfold E7;split<;>first|(intro z;cases z;done)|(split<;>intro z<;>cases z)
def UI{kvs:List (LI×T)}{c:LI}(s:ij F H)(g:F p=some (.tup vs))(f:iy K F vs (c.map T.int))(e:F d=some (.dT xs)):Bh H d (.ref p) (tQ xs (c.map Sum.inl)):=Bh.t (s _ _ e) (by rw[s _ _ g,f.ints,aJ];rfl)
def RU:MR K RB (E7 false):=⟨Pb,λF H v w x y Q s h g q=>by
 unfold E7 at q;split at q
 .split at q
  .rename_i i kvs _ e f;cases h with
   |tup hp rk=>
    cases g with
    |dic hd rd=>rw[oC f]at rk;refine⟨_,_,rfl,UI (kvs:=kvs) s hp rk hd,?_⟩;rcases rd.val e with⟨d,c⟩|⟨t,v,d,c,_⟩<;>(rw[d]at q;rw[c];exact kV.now q s (.bl _))
  .exact q.elim
 .exact q.elim⟩
def OS(hr:je k X.A)(e:Pm K E X a ta fa)(d:Pm K E X b tb fb)(c:behindInMarks .In b=false:=by rfl):Et K E X (.Compare a [.In] [b] pos) (AO (wN RB ta tb)) (jL (ik (E7 false) fa fb)):=kq (Sd (Ri hr)) RU e d c
noncomputable def Nz:T->T->M T
 |.dic kvs,.tup ks=>match kj ks with
  |some ns=>match n9 kvs ns with
   |some t=>.ok t
   |none=>.bad
  |none=>.bad
 |_,_=>.bad
def RP(A:ME K E ta fa)(u:ME K E tb fb):ME K E (KS ta tb) (ik Nz fa fb):=λF H I C Q s V q=>by
 refine A.run s V q λx v N L e k z=>?_;refine u.run e.fh (V.mono e.ff) z λy w o r h l c=>?_;have p:=k.mono h.ff;unfold Nz at c;split at c
 .split at c
  .rename_i kvs J _ m n;split at c
   .rename_i t d;cases p with
    |dic hd rd=>
     cases l with
     |tup hp rk=>
      rw[oC n]at rk;rcases rd.val m with⟨f,i⟩|⟨D,B,f,i,j⟩
      .rw[f]at d;cases d
      .rw[f]at d;cases d;have g:=UI (kvs:=kvs) h.fh hp rk hd;rw[i]at g;exact⟨_,B,rfl,g,c _ o r (e.trans h) j⟩
   .exact c.elim
  .exact c.elim
 .exact c.elim
def Sz(hr:je k X.A)(c:Pm K E X a ta fa)(d:Pm K E X b tb fb)(e:TZ b:=by intro _ _;rfl):Pm K E X (.Subscript a b pos) (KS ta tb) (ik Nz fa fb):=⟨Ov (Ri hr) c.pe d.pe e,RP c.me d.me⟩
end
section
variable {P:Program}{w:World}{K:W.Frag}{mg:Str->Option Value}{base:Heap}{x:Str}{st:Stmt}
def UF N ps (e:F=λ_=>.bad) (D:ib K mg x st) (S:ji N ps (gZ st):=by constructor<;>first|rfl|decide +kernel)
  (l:Tn x x st ps:=by first|exact λ_ _ _ _ _ _ _ _=>rfl|exact λ_ _ _ _ _ _ _=>rfl|exact λ_ _ _ _ _ _ _ _ _=>rfl):lQ P w K mg base x (k+1) (t5 K F):=by
 have no:∀g H Q E,¬t5 K F g H Q E:=λg H Q E h=>by subst e;obtain⟨_,_,_,_,_,z⟩:=h
 exact Cf D S (λa b c d e f j i=>oQ (l a b c d e f) j i) (λg H Q E h=>absurd h (no _ _ _ _)) λ_ _ _ _ _ _ _ _ _ _ h=>absurd h (no _ _ _ _)
end
end L3
namespace L3
open PySem L2
def nL(f:Ky):T:=.tup [.int f.1,.tup (f.2.map T.int)]
def CK:List T->Option (LI)
 |[]=>some []
 |.int i::r=>(CK r).map (i :: ·)
 |_=>none
def zK:T->Option Ky
 |.tup [.int d,.tup ts]=>(CK ts).map λl=>(d,l)
 |_=>none
theorem A8:∀l:LI,CK (l.map T.int)=some l
 |[]=>rfl
 |i::l=>by simp[CK,A8 l]
def uD(f:Ky):zK (nL f)=some f:=by simp[zK,nL,A8]
theorem AA{K:W.Frag}{F:Hp}:∀{vs:List V} {ts:List T} {l:LI},iy K F vs ts->CK ts=some l->vs=l.map V.int
 |_,_,_,.nil,h=>by cases h;rfl
 |_,_,_,.cons (t:=t) r rs,h=>by
  cases t with
  |int i=>obtain⟨a,e,rfl⟩:=cR.mp h;rw[r.int_inv,AA rs e];rfl
  |_=>cases h
def AR{K:W.Frag}{F:Hp}{v:V}{t:T}{g:Ky}(r:lA K F v t)(h:zK t=some g):∃b,v=.ref b/\zv F b g:=by
 unfold zK at h;split at h
 .rename_i d m;obtain⟨l,e,rfl⟩:=cR.mp h;obtain⟨a,n,rfl,i,c⟩:=r.tup_inv;cases c with
  |cons r1 c=>
   cases c with
   |cons r2 c=>cases c;obtain⟨k,o,rfl,j,f⟩:=r2.tup_inv;rw[r1.int_inv]at i;exact⟨a,rfl,k,i,by rw[j,AA f e]⟩
 .cases h
theorem AB{K:W.Frag}{F:Hp}:∀l:LI,iy K F (l.map V.int) (l.map T.int)
 |[]=>.nil
 |i::l=>.cons (.int i) (AB l)
def Ie{K:W.Frag}{F:Hp}{b:Addr}{g:Ky}(x:zv F b g):lA K F (.ref b) (nL g):=let ⟨b2,e1,e2⟩:=x;.tup e1 (.cons (.int _) (.cons (.tup e2 (AB _)) .nil))
def zu{K:W.Frag}{F:Hp}{bs:List Addr}{fl:List Ky}(p:Paired (zv F) bs fl):iy K F (bs.map V.ref) (fl.map nL):=by
 induction p with
 |nil=>exact .nil
 |cons h t ih=>exact .cons (Ie h) ih
noncomputable def L6(a:List Ky)(t:T):M (List Ky):=match t with
 |.non=>.ok a
 |t=>match zK t with
  |some g=>.ok (xP a g)
  |none=>.bad
noncomputable def qW(st:T->List Ky->M (List Ky)):List T->List Ky->M (List Ky)
 |[],acc=>.ok acc
 |t::r,acc=>(st t acc).bind (qW st r)
def Ae(a b:Ky):Bool:=!xC (ky b) (ky a)
def jS(l:List Ky):List Ky:=l.mergeSort Ae
theorem wj{g:Type}{r:g->g->Prop}(c:∀a b,r a b->r b a->a=b):∀{l m:List g},l.Perm m->l.Pairwise r->m.Pairwise r->l=m
 |[],m,p,_,_=>(List.Perm.eq_nil p.symm).symm
 |a::l,[],p,_,_=>by have:=p.length_eq;simp at this
 |a::l,b::m,p,h1,h2=>by
  have e:a=b:=by
   have d:a∈b::m:=p.mem_iff.mp bt;have f:b∈a::l:=p.mem_iff.mpr bt;rcases aG.mp d with e|d
   .exact e
   .rcases aG.mp f with e|f
    .exact e.symm
    .exact c a b ((dR.mp h1).1 b f) ((dR.mp h2).1 a d)
  subst e;rw[wj c (List.Perm.cons_inv p) (dR.mp h1).2 (dR.mp h2).2]
def P8{f g:Ky}(b:xC f g=false)(a:xC g f=false):f=g:=by
 unfold xC at b a;by_cases e:f.1=g.1
 .rw[aR e]at b;rw[aR e.symm]at a;exact Prod.ext e (CC b a)
 .rw[aS e]at b;rw[aS (Ne.symm e)]at a;have:=of_decide_eq_false b;have:=of_decide_eq_false a;omega
def K5(a b:Ky)(d:Ae a b=true)(c:Ae b a=true):a=b:=by unfold Ae at d c;simp only[dS]at d c;have:=P8 c d;have f:(ky a).1=(ky b).1:=congrArg Prod.fst this;have e:(ky a).2=(ky b).2:=congrArg Prod.snd this;have g:-a.1 = -b.1:=f;exact Prod.ext (by omega) e
def Ng(a b c:Ky)(e:Ae a b=true)(d:Ae b c=true):Ae a c=true:=by unfold Ae at e d ⊢;simp only[dS]at e d ⊢;exact Nn e d
def Hl(a b:Ky):(Ae a b||Ae b a)=true:=by
 unfold Ae;cases h:xC (ky b) (ky a) with
 |false=>rfl
 |true=>rw[JP h];rfl
def Mn{l m:List Ky}(p:m.Perm l)(h:m.Pairwise (λa b=>xC (ky b) (ky a)=false)):m=jS l:=by refine wj (r:=λa b=>Ae a b=true) K5 (p.trans (dU l Ae).symm) (h.imp λ{a b} z=>by unfold Ae;rw[z];rfl) ?_;exact dW Ng Hl l
section
variable {P:Program}{w:World}{K:W.Frag}{E:XK}{Fb Hb F H F' H':Hp}{ρ:Pe}{jd:Nat}{a:Addr}{σ:St}{fl:List Ky}{D:tq}
structure Bk(P:Program)(w:World)(K:W.Frag)(Fb Hb:Hp)(jd:Nat)(a:Addr)(n:Nat)(ρ:Pe)(F H:Hp)(σ:St)(fl:List Ky):Prop where
 gr:Gr Fb Hb F H
 vars:l7 K F σ ρ
 len:σ.length=n
 d:σ[jd]? = some (some (.ref a))
 fa:F a=none
 ha:Hb a=none
 fd:∃bs,QF P w F H a bs fl
def Bk.grow{n:Nat}(b:Bk P w K Fb Hb jd a n ρ F H σ fl)(g:Gr F H F' H'):Bk P w K Fb Hb jd a n ρ F' H' σ fl:=by
 obtain⟨bs,c,e,f,p⟩:=id b.fd;refine⟨b.gr.trans g,b.vars.mono g.ff,b.len,b.d,?_,b.ha,bs,QF.mono ⟨c,e,f,p⟩ g.ff g.hh⟩;cases z:F' a with
 |none=>rfl
 |some u=>
  rcases g.nw a (by rw[z];exact λw=>nomatch w) with y|y|⟨_,y⟩
  .exact absurd b.fa y
  .rw[e]at y;cases y
  .rw[e]at y;cases y
def Bk.setN{n j:Nat}{v:V}(b:Bk P w K Fb Hb jd a n ρ F H σ fl)(g:∀t,ρ[j]?≠some (some t))(c:j≠jd):Bk P w K Fb Hb jd a n ρ F H (σ.set j (some v)) fl:=
 ⟨b.gr,λi t e=>by
  have:i≠j:=λz=>by subst z;exact g t e
  obtain⟨h,k,f⟩:=b.vars i t e;exact⟨h,by rw[aq (Ne.symm this)];exact k,f⟩,by rw[bV];exact b.len,by rw[aq c];exact b.d,b.fa,b.ha,b.fd⟩
def Bk.setP{n j:Nat}{v:V}{t:T}(b:Bk P w K Fb Hb jd a n ρ F H σ fl)(c:j<n)(f:j≠jd)(r:lA K F v t):Bk P w K Fb Hb jd a n (ρ.set j (some t)) F H (σ.set j (some v)) fl:=
 ⟨b.gr,λi u e=>by
  by_cases z:i=j
  .subst z;have l:i<σ.length:=by rw[b.len];exact c
   rw[List.getElem?_set]at e;simp only[if_true]at e;split at e
   .cases e;exact⟨v,by rw[List.getElem?_set_self l],r⟩
   .cases e
  .rw[aq (Ne.symm z)]at e;obtain⟨h,k,g⟩:=b.vars i u e;exact⟨h,by rw[aq (Ne.symm z)];exact k,g⟩,by rw[bV];exact b.len,by rw[aq f];exact b.d,b.fa,b.ha,b.fd⟩
def Bk.less{n:Nat}{ρ':Pe}(b:Bk P w K Fb Hb jd a n ρ F H σ fl)(h:∀(i:Nat) t,ρ'[i]? = some (some t)->ρ[i]? = some (some t)):Bk P w K Fb Hb jd a n ρ' F H σ fl:=⟨b.gr,λi t e=>b.vars i t (h i t e),b.len,b.d,b.fa,b.ha,b.fd⟩
def Rc(P:Program)(w:World)(c:TE)(b jd:Nat):TS:=BO (pj c (j9 b)) (Il (tB (QX (m7 b))) (QR P w (m7 jd) (m7 b) (tC (.bl true))) AN)
def Vo{u:TE}{fe:Pe->M T}{n j:Nat}(R:ME K E u fe)(b:Bk P w K Fb Hb jd a n ρ F H σ fl)(y:∀t,ρ[j]?≠some (some t))(L:j≠jd)(N:j<n)(Y:fl.length<1000)
  (q:((fe ρ).bind (L6 fl)).res (λi=>∀F' H' h,ij F F'->Bk P w K Fb Hb jd a n ρ F' H' h i->D.nx h H') (kE E Fb Hb)):Rc P w u j jd D σ H:=by
 refine R F H σ ρ _ b.gr.fh b.vars ((M.res.unb q).mono (λt z v F' H' g r=>?_) λC n z=>z.go b.gr);have f:=(b.grow g).setN (v:=v) y L;have s:(σ.set j (some v))[j]? = some (some v):=List.getElem?_set_self (by rw[b.len];exact N);refine⟨v,s,!decide (v=.non),rfl,?_⟩;by_cases hv:v=.non
 .rw[aD hv];subst hv;cases r;exact Wt (z F' H' _ g.ff f)
 .rw[aC hv];refine Wl ?_;have B:∃k,zK t=some k/\(M.ok (xP fl k)).res (λi=>∀F' H' h,ij F F'->Bk P w K Fb Hb jd a n ρ F' H' h i->D.nx h H') (kE E Fb Hb):=by
   unfold L6 at z;split at z
   .cases r;exact absurd rfl hv
   .split at z
    .rename_i k e;exact⟨k,e,z⟩
    .exact z.elim
  obtain⟨k,S,I⟩:=B;obtain⟨J,rfl,m⟩:=AR r S;obtain⟨bs,Q,e,U,p⟩:=f.fd;have X:1000<sizeLine:=by decide
  refine⟨_,f.d,_,s,a,J,Q,_,rfl,rfl,e,QL p f.gr.fh,JK (m.mono f.gr.fh),by rw[Paired.length p];omega,λx Z=>?_⟩;have A:=R9 (P:=P) (w:=w) (H:=H') (a:=a) (r:=x) p m;refine I F' _ _ g.ff ⟨⟨f.gr.ff,λc o l=>?_,λc o l=>?_,f.gr.nw⟩,f.vars,f.len,f.d,f.fa,f.ha,A⟩
  .rw[hV (ip l f.fa)];exact f.gr.fh c o l
  .rw[hV (ip l f.ha)];exact f.gr.hh c o l
def NG(fl:List Ky)(g:Ky):(xP fl g).length<=fl.length+1:=by unfold xP;split<;>simp
def HC{J:It}{its:List T}{B:Hp}{n:Nat}{g:TG}{U:TS}{st:T->List Ky->M (List Ky)}(p:xM K J its B)
  (L:∀t x F H σ f (D:tq),t∈its->ij B F->Bk P w K Fb Hb jd a n ρ F H σ f->lA K F x t->(st t f).res (λc=>∀F' H' d,ij F F'->Bk P w K Fb Hb jd a n ρ F' H' d c->D.nx d H') (kE E Fb Hb)->g x σ H λr Q=>U D r Q)
  (s1:ij B F) (b:Bk P w K Fb Hb jd a n ρ F H σ fl) (q:(qW st its fl).res (λc=>∀F' H' d,ij F F'->Bk P w K Fb Hb jd a n ρ F' H' d c->D.nx d H') (kE E Fb Hb)) :
  ∃W:Nat->Nat->St->Hp->Prop,(∃m,W 0 m σ H)/\∀i m σ H,W i m σ H->
 (J.stop i H/\D.nx σ H)\/(J.go i H/\∃N:St->Hp->Prop,(∀d H',N d H'->∃Z,Z<m/\W (i+1) Z d H')/\∀x H',J.yld i H x H'->g x σ H' λr Q=>U {D with nx:=N,ct:=N,bk:=D.nx} r Q):=by
 refine⟨λi k d H'=>i<=its.length/\k=its.length-i/\∃F' f,ij B F'/\Bk P w K Fb Hb jd a n ρ F' H' d f/\(qW st (its.drop i) f).res (λc=>∀l o h,ij F' l->Bk P w K Fb Hb jd a n ρ l o h c->D.nx h o) (kE E Fb Hb),⟨_,bK _,rfl,F,fl,s1,b,by simpa using q⟩,?_⟩
 rintro i k A I ⟨hi,rfl,X,f,s,v,u⟩
 by_cases j:i<its.length
 .right;refine⟨p.go i I (s.trans v.gr.fh) j,λd H'=>∃F' f,ij B F'/\Bk P w K Fb Hb jd a n ρ F' H' d f/\(qW st (its.drop (i+1)) f).res (λc=>∀l o h,ij F' l->Bk P w K Fb Hb jd a n ρ l o h c->D.nx h o) (kE E Fb Hb),λd H' z=>⟨its.length-(i+1),by omega,j,rfl,z⟩,λx H' y=>?_⟩;have et:=ag j;obtain⟨F3,C,rp⟩:=p.yld i _ X I x H' s v.gr.fh et y;rw[dC j]at u;unfold qW at u;refine L _ x F3 H' A f _ (aW j) (s.trans C.ff) (v.grow C) rp ((M.res.unb u).mono (λc z=>?_) λ_ _ z=>z);intro F4 H4 σ4 Y b4;exact⟨F4,c,(s.trans C.ff).trans Y,b4,z.mono (λS y F5 H5 R s5 b5=>y F5 H5 R ((C.ff.trans Y).trans s5) b5) λ_ _ z=>z⟩
 .have e:i=its.length:=by omega
  subst e;rw[dQ (aL _)]at u;exact .inl ⟨p.stop I (s.trans v.gr.fh),u X I A (.refl _) v⟩
abbrev Xb(P:Program)(w:World):List V->Hp->VK->Prop:=λzs H Q=>∃a xs,zs=[.ref a]/\H a=some (AJ P w a xs)/\∀l:Addr,H l=none->Q (.ref l) (i6 H l (.lst (xs.map λx=>.ref x.2.1)))
abbrev VL(P:Program)(w:World)(jd:Nat):TE:=NJ (Xb P w) (rG (m7 jd) v7)
def Rt{n:Nat}{Q:VK}(b:Bk P w K Fb Hb jd a n ρ F H σ fl)(q:∀l bs,H l=none->Paired (zv F) bs fl->Bk P w K Fb Hb jd a n ρ (i6 F l (.lst (bs.map V.ref))) (i6 H l (.lst (bs.map V.ref))) σ fl->Q (.ref l) (i6 H l (.lst (bs.map V.ref)))):VL P w jd σ H Q:=by
 obtain⟨bs,c,e,f,p⟩:=id b.fd;have j:=QF.flr (P:=P) (w:=w) (H:=H) (a:=a) ⟨c,e,f,p⟩;refine⟨_,b.d,a,c,rfl,e,λl h=>?_⟩;have i:(c.map λx:FE=>V.ref x.2.1)=bs.map V.ref:=by rw[f,aJ];rfl
 rw[i];have g:Gr F H (i6 F l (.lst (bs.map V.ref))) (i6 H l (.lst (bs.map V.ref))):=Gr.new b.gr.fh h;exact q l bs h j (b.grow g)
def Qw{n:Nat}{ts:List T}(b:Bk P w K Fb Hb jd a n ρ F H σ fl)(g:fl.length<64)(k:kF K Fb Hb D.rt ((jS fl).map nL)){src:V->Hp->List Addr->Prop}{x:V}{bs:List Addr}(j:src x H bs)(h:Paired (zv F) bs fl) :
  ∃bs fl,src x H bs/\Paired (zv H) bs fl/\fl.length<64/\∀f H' c d,ij H H'->H f=none->H' f=some (.lst (c.map V.ref))->(∀R:Addr->Ky->Prop,Paired R bs fl->Paired R c d)->d.Perm fl->d.Pairwise (λa b=>xC (ky b) (ky a)=false)->D.rt (.ref f) H':=by
 refine⟨bs,fl,j,Paired.mapP h λ_ _ z=>z.mono b.gr.fh,g,λf H' c d sm i o p m l=>?_⟩;have e:=Mn m l;have q:F f=none:=iC b.gr.fh i;refine k f (c.map V.ref) F H' ⟨b.gr.ff,b.gr.fh.trans sm,b.gr.hh.trans sm,b.gr.nw⟩ (iC b.gr.hh i) q o ?_;rw[<-e];exact zu (p _ h)
def VJ(P:Program)(w:World)(K:W.Frag)(c b:TE)(d:TI)(jd e f g:Nat):TS:=BO (pj (KW P w c (tC (.bl true))) (j9 jd)) (BO (Ci d (j9 e) (Ci (GD K (VL P w jd)) (j9 f) (Rc P w b g jd))) (DQ (KL (T9 K) (VL P w jd))))
noncomputable def VI(fe:Pe->M T)(c:Nat)(ρ:Pe):T->List Ky->M (List Ky):=λt b=>if b.length<1000 then (fe (ρ.set c (some t))).bind (L6 b) else .bad
noncomputable def Jh(fe:Pe->M T)(c d:Nat)(ρ:Pe):T->List Ky->M (List Ky):=λt b=>qW (VI fe d (ρ.set c (some t))) (b.map nL) b
noncomputable def UR(m:M (List Ky)):O:=O.of m λl=>if l.length<64 then .rf ((jS l).map nL) else .bad
noncomputable def IG(h fe:Pe->M T)(i:Pe->M (List T))(jd c d e:Nat):En->O:=λρ=>.of (h (lF ρ)) λf=>match zK f with
 |none=>.bad
 |some g=>.of (i (((((lF ρ).set jd none).set e none).set c none).set d none)) λb=>UR (qW (Jh fe c d (((((lF ρ).set jd none).set e none).set c none).set d none)) b [g])
def lT{ρ:Pe}{i j:Nat}{t:T}(h:(ρ.set j none)[i]? = some (some t)):i≠j/\ρ[i]? = some (some t):=by
 by_cases e:i=j
 .subst e;rw[List.getElem?_set]at h;simp only[if_true]at h;split at h<;>cases h
 .rw[aq (Ne.symm e)]at h;exact⟨e,h⟩
def Np{F:Hp}{σ:St}{ρ:Pe}{j:Nat}{v:V}(h:l7 K F σ ρ):l7 K F (σ.set j (some v)) (ρ.set j none):=λi t e=>by obtain⟨f,e⟩:=lT e;obtain⟨d,b,c⟩:=h i t e;exact⟨d,by rw[aq (Ne.symm f)];exact b,c⟩
def Cd{ρ:Pe}{i j:Nat}{x:Option T}{t:T}(b:i≠j)(h:∀t,ρ[j]?≠some (some t)):(ρ.set i x)[j]?≠some (some t):=by rw[aq b];exact h t
def Tu{t0 te:TE}{f0 fe:Pe->M T}{wi:TI}{fi:Pe->M (List T)}{jd d f g:Nat}(h0:ME K E t0 f0)(he:ME K E te fe)(hi:MI K E wi fi)(h:d≠jd/\f≠jd/\g≠jd/\d≠f/\d≠g/\f≠g){N:Nat}(hN:d<N/\f<N/\g<N/\jd<N):MS K E (VJ P w K t0 te wi jd d f g) (λρ=>if ρ.length=N then IG f0 fe fi jd d f g ρ else .bad):=λF0 H0 F H σ ρ D r q=>by
 dsimp only at q;by_cases A:ρ.length=N
 case neg=>rw[aS A]at q;exact q.elim
 rw[aR A]at q;have I:σ.length=N:=r.len.trans A;intro p hp;have gp:Gr F H F (i6 H p (AJ P w p [])):=Gr.new' r.gr.fh hp;have fp0:F p=none:=iC r.gr.fh hp;refine h0 F _ σ (lF ρ) _ gp.fh r.vars ((O.res_of q).mono (λt0 z v F1 H1 X r1=>?_) λC n z=>z.go (r.gr.trans gp));cases ea:zK t0 with
 |none=>rw[ea]at z;exact z.elim
 |some g0=>
  rw[ea]at z;obtain⟨b0,rfl,U⟩:=AR r1 ea;have hp1:H1 p=some (AJ P w p []):=X.hh _ _ g9;refine⟨hp1,(.inl g0.1,g0.2.map .inl),b0,rfl,JK (U.mono X.fh),λrv hrv=>?_⟩;have S:F1 p=none:=by
   cases y:F1 p with
   |none=>rfl
   |some u=>
    rcases X.nw p (by rw[y];exact λw=>nomatch w) with k|k|⟨_,k⟩
    .exact absurd fp0 k
    .rw[g9]at k;cases k
    .rw[g9]at k;cases k
  have G0:=(r.gr.trans gp).trans X;have Y:H0 p=none:=iC r.gr.hh hp;have hd':jd<σ.length:=by rw[I];exact hN.2.2.2
  have b:Bk P w K F0.hp H0 jd p N (((((lF ρ).set jd none).set g none).set d none).set f none) F1 (i6 H1 p (AJ P w p [((.inl g0.1,g0.2.map .inl),b0,rv)])) (σ.set jd (some (.ref p))) [g0]:=by
   refine⟨⟨G0.ff,λc o R=>?_,λc o R=>?_,G0.nw⟩,λi t e=>?_,by rw[bV];exact I,List.getElem?_set_self hd',S,Y,[b0],_,g9,rfl,.cons ⟨rfl,U⟩ .nil⟩
   .rw[hV (ip R S)];exact G0.fh c o R
   .rw[hV (ip R Y)];exact G0.hh c o R
   .obtain⟨_,e⟩:=lT e;obtain⟨_,e⟩:=lT e;obtain⟨_,e⟩:=lT e;exact (Np (r.vars.mono X.ff)) i t e
  refine hi F1 _ _ _ _ b.gr.fh b.vars ((O.res_of z).mono (λits z J F2 H2 g2 iok=>?_) λC n z=>z.go (b.gr));refine HC (st:=Jh fe d f (((((lF ρ).set jd none).set g none).set d none).set f none)) iok (λt x F3 H3 σ3 L D3 ht s3 b3 rx q3=>?_) (.refl _) (b.grow g2) ((O.res_of z).mono (λL z F4 H4 σ4 s4 b4=>?_) λ_ _ z=>z)
  .have nk:∀t,(((((lF ρ).set jd none).set g none).set d none).set f none)[f]?≠some (some t):=λt e=>(lT e).1 rfl;have ns:∀t,(((((lF ρ).set jd none).set g none).set d none).set f none)[g]?≠some (some t):=λt e=>(lT (lT (lT e).2).2).1 rfl;have nkk:∀t,(((((lF ρ).set jd none).set g none).set d none).set f none)[d]?≠some (some t):=λt e=>(lT (lT e).2).1 rfl;have b4:=b3.setP hN.1 h.1 rx;refine Rt b4 λl bs A pl b5=>⟨l,rfl,⟨_,l9.of g9⟩,?_⟩;have sl:ij F3 (i6 F3 l (.lst (bs.map V.ref))):=jB (iC b3.gr.fh A);have rps:=zu (K:=K) (Paired.mapP pl λ_ _ z=>z.mono sl);refine HC (st:=VI fe f ((((((lF ρ).set jd none).set g none).set d none).set f none).set d (some t))) (Ba (l9.of g9) rps) (λt' x' F6 H6 σ6 Q D6 ht' s6 b6 rx' Z=>?_) (.refl _) b5 (q3.mono (λB y F7 H7 s s7 b7=>?_) λ_ _ z=>z)
   .unfold VI at Z;by_cases j:Q.length<1000
    .rw[aR j]at Z;have b8:=b6.setP hN.2.1 h.2.1 rx';refine Vo he b8 (λt2=>Cd h.2.2.2.2.2 λt3=>Cd h.2.2.2.2.1 ns) h.2.2.1 hN.2.2.1 j (Z.mono (λB y F7 H7 s s7 b7=>y F7 H7 s s7 (b7.less λi t2 e=>?_)) λ_ _ z=>z);rw[aq]
     .exact e
     .intro z;subst z;exact Cd h.2.2.2.1 nk e
    .rw[aS j]at Z;exact Z.elim
   .refine y F7 H7 s (sl.trans s7) (b7.less λi t2 e=>?_);rw[aq]
    .exact e
    .intro z;subst z;exact nkk t2 e
  .by_cases m:L.length<64
   .rw[aR m]at z;refine Rt b4 λl bs A pl b5=>?_;have sl:ij F4 (i6 F4 l (.lst (bs.map V.ref))):=jB (iC b4.gr.fh A);exact Qw (ts:=[]) b5 m z (src:=T9 K) ⟨l,rfl,g9⟩ (Paired.mapP pl λ_ _ z=>z.mono sl)
   .rw[aS m]at z;exact z.elim
end
section
open PySem.W
variable {K:W.Frag}{E:XK}{X:Cx}
def yi.im{a it:Expr}{w:TI}{f:Pe->M (List T)}(h:yi K E X a it w f):Jx K E X a it w f:=⟨h.pi,h.mi.mi⟩
structure Ww(X:Cx)(x:Str)(params:Arguments)(scope:Scope)(body:Expr):Prop where
 S:ji [x] [x] scope
 hx:scope.names.lookup x=some .local
 hb:∀(q:Str) (pm ctv:Value) (c':Addr) (u:Value),bindArgs (kla_fn "<lambda>" q params body scope [] pm (.ref c') ctv) ⟨[u],[]⟩=pure [(x,u)]
 cl:closureFor scope X.env=pure []
 df:defaultsOf params X.env=([],[])
def NS{k:Nat}{qn n d o u xs:Str}{r e it:Expr}{t0 te:TE}{I fe:Pe->M T}{J:TI}{fi:Pe->M (List T)}{params:Arguments}{f:Scope}{p1 p2 p3 p4 p5 p6 p7 p8 q1 q2 q3 q4 q5 q6 q7 q8 q9 R U r3 r4 r5 r6 r7 r8 r9 u1 F u3 u4 u5 u6 u7 u8 u9 p p' x:Pos}{j1 j2 j3 C i2 i3:Nat}
  (g i j h:Nat) (nd:X.N.Nodup) (D:PassesOwn (model X.prog X.w) X.A X.env X.xe) (hr:je (k+3) X.A) (L:MK X.base X.mg qn X.env.code) (mL:X.mg "list" = none) (mS:X.mg "sorted" = none) (Q:Pm K E X r t0 I) (hi:Jx K E X (.Name o q3) it J fi) (he:Pm K E X e te fe)
  (hq:qn++ ".<locals>.<lambda>" = X.env.qual++ "<lambda>" :=by rfl) (m:Ww X n params f (qp n p1 p2 p3 p4 p5 p6 p7 p8 j1 j2 j3):=by exact⟨by constructor<;>first|rfl|decide +kernel,rfl,λ_ _ _ _ _=>rfl,rfl,rfl⟩) (q:X.K=K:=by rfl) (s:X.calm=true:=by rfl)
  (H:X.N[g]? = some d:=by rfl) (hk:X.N[i]? = some o:=by rfl) (hf:X.N[j]? = some u:=by rfl) (hs:X.N[h]? = some xs:=by rfl) (B:X.env.scope.names.lookup d=some .local:=by rfl) (lk:X.env.scope.names.lookup o=some .local:=by rfl) (lf:X.env.scope.names.lookup u=some .local:=by rfl) (y:X.env.scope.names.lookup xs=some .local:=by rfl)
  (l:(d==("__debug__" : Str))=false/\(d==("__classdict__" : Str))=false/\(xs==("__debug__" : Str))=false/\(xs==("__classdict__" : Str))=false/\(n==("__debug__" : Str))=false/\(n==("__classdict__" : Str))=false:=by decide) (gL:Gl X "list" :=by rfl) (gS:Gl X "sorted" :=by rfl) (v:i≠g/\j≠g/\h≠g/\i≠j/\i≠h/\j≠h:=by decide)
  (s1:swapsWith (.Dict [some r] [.Constant (.bool true) C q1] q2) (some (.Name d u1)) F.line X.env=pure false:=by rfl) (s2:swapsWith e (some (.Name xs R)) U.line X.env=pure false:=by rfl) (fs:∀z,foldedSetIterable it X.env z=pure z:=by intro _;rfl) {N:Nat} (hN:i<N/\j<N/\h<N/\g<N:=by decide) :
  qY K E X [.Assign [.Name d u1] (.Dict [some r] [.Constant (.bool true) C q1] q2) F,
   .For (.Name o q3) it [.For (.Name u q4) (.Call (.Name "list" q5) [.Name d q6] [] q7) [.Assign [.Name xs R] e U,.If (.Compare (.Name xs r3) [.IsNot] [.Constant .none i2 r4] r5) [.Assign [.Subscript (.Name d r6) (.Name xs r7) r8] (.Constant (.bool true) i3 r9) u3] [] u4] [] u5] [] u6,
   .Return (some (.Call (.Name "sorted" u7) [.Call (.Name "list" u8) [.Name d u9] [] q8] [⟨some "key",.Lambda params (qp n p1 p2 p3 p4 p5 p6 p7 p8 j1 j2 j3) f q9,p⟩] p')) x] (VJ X.prog X.w K t0 te J g i j h) (λρ=>if ρ.length=N then IG I fe fi g i j h ρ else .bad):=by
 subst q;have Z:X.A.units+2<cLine:=by have:=hr.units;omega
 have vd:∀{pos},PE X (.Name d pos) (m7 g):=λ{pos}=>yx H (.inl B) l.1 l.2.1;have Y:∀{pos},PE X (.Name xs pos) (m7 h):=λ{pos}=>yx hs (.inl y) l.2.2.1 l.2.2.2.1;have P:∀{a b c},PE X (.Call (.Name "list" a) [.Name d b] [] c) (VL X.prog X.w g):=λ{a b c}=>vT (E8 s) gL mL (by rfl) (nR vd tV);refine⟨qj (vW nd H (.inl B) (Mb Z Q.pe J8) s1 (.inr B)) (qj (ya D s hi.pi (xr nd hk (.inl lk) (.inr lk)) (qD (ya D s (Gy P) (xr nd hf (.inl lf) (.inr lf)) (qj (vW nd hs (.inl y) he.pe s2 (.inr y)) (qD (Mo (Tg (PV Y)) (qD (OH Z vd Y J8 rfl)) Cn))))) fs) (qD (BQ (Kr hr L hq m.S m.hx m.hb m.cl m.df K9 P gS mS ⟨rfl,rfl⟩ l.2.2.2.2.1 l.2.2.2.2.2)))),Tu Q.me he.me hi.mi v hN⟩
noncomputable abbrev Wz(P:Program)(w:World)(K:W.Frag)(mg:Str->Option Value)(base:Heap)(k:Nat)(qual:Str)(st:Stmt)(N:List Str)(g:En->O):Prop:=∀{f:Addr} {cdv:Value} {A:Around} {outer:List Env} {s:Shared} {H:Hp} {E:XK},MK base mg qual cdv->N.Nodup->Vr (ou sQ P w K mg base N qual (gZ st) f cdv A outer s H E).nox->je k (A.deeper (PyProof.Rows.envOfC qual (gZ st) s.heap.objs.size f cdv))->∃t,qY K E (ou sQ P w K mg base N qual (gZ st) f cdv A outer s H E).nox (iR st) t g
def SA{P:Program}{w:World}{mg:Str->Option Value}{i:Heap}{x:Str}{st:Stmt}{g:En->O}(_:Zx P w K mg i) k F N ps (e:F=xw ps.length N.length g) (D:ib K mg x st) (L:HK K mg i x) (o:Wz P w K mg i k x st N g) (S:ji N ps (gZ st):=by constructor<;>first|rfl|decide +kernel)
  (p:Tn x x st ps:=by first|exact λ_ _ _ _ _ _ _ _=>rfl|exact λ_ _ _ _ _ _ _=>rfl|exact λ_ _ _ _ _ _ _ _ _=>rfl) :
  lQ P w K mg i x (k+1) (CB K F):=e▸JZ D L S (λa b c d e f n m=>oQ (p a b c d e f) n m) (λl H Q E h=>Bx h) λf q A j s H l Q E r hr h=>let ⟨t,hp⟩:=o r S.nd (λ_ h=>m8 h) hr;⟨t,hp.ps,zc hp.ms h⟩
end
def Si{l:W.OpenLaw}{q:Program}{k:Nat}{x:Str}{c:List Str}{XP:(Str->Option Value)->Heap->Prop}{i:World->Heap->Prop}{d:DefRec}{K:Params->W.Frag}(xs:List Str)(A:l.most=some 63)(hr:je k callerA)(g:d.params.defaults=[])
  (p:∀(w:World) (h:Heap),i w h->(K w.params).In h) (m:∀x∈xs,∃d',(PyProof.Rows.recsOf q).find? (λe=>e.name==x)=some d') (o:∀w:World,yy (K w.params) xs=true)
  (F:∀(w:World) (mg:Str->Option Value) (j:Addr) (h:Heap),(K w.params).In h->h.Ns mainGlobals mg->mg d.name=some (.ref j)->
   ∃fd:FuncData,(∀(s:Shared) (u:Value),BindsTo s fd ⟨[u],[]⟩ [(x,u)])/\∀b:Heap,(K w.params).In b->b.Ns mainGlobals mg->(∀y∈xs,HK (K w.params) mg b y)->nQ l.prog w (K w.params) mg b sQ k j fd [x] (Lz (K w.params))) :
  W.WalkO q c XP i l.row.toRowW d [] (λf vs=>PySem.call f vs):=
 L2.JE xs A (by decide) g hr p m o F λ_ _ a n r z v=>⟨a,n,rfl,v,r,z,λ_=>rfl⟩
end L3
namespace L3
open PySem L2
def OE(j:Nat)(a:Addr)(bs:List (Addr×List V)):List (Nat×Addr×List V):=(j,a,bs.map λb=>V.ref b.1)::bs.map λb=>(j,b)
structure Oc(K:W.Frag)(F0:Fz)(H0 F H:Hp)(σ:St)(ρ:En)(j:Nat)(tss:List (List T))(a:Addr)(bs:List (Addr×List V)):Prop where
 r:Sr K ⟨F0.hp,OE j a bs++F0.lt⟩ H0 F H σ ρ
 e:ρ[j]? = some none
 p:Paired (λ(b:Addr×List V) ts=>iy K F b.2 ts) bs tss
 nd:(a::bs.map (·.1)).Nodup
 far:∀e'∈F0.lt,e'.2.1∉a::bs.map (·.1)
noncomputable def Ns(K:W.Frag)(c:Fz)(H0 F H:Hp)(d:St)(ρ:En)(j:Nat)(b:List (List T)):Prop:=∃a bs,Oc K c H0 F H d ρ j b a bs
inductive sj where
 |bad|nx (ρ:En) (tss:List (List T))|ct (ρ:En) (tss:List (List T))|er (C:Addr) (n:Option Int)
section
variable (K:W.Frag)(E:XK)
def WN(e:Fz)(H0 F:Hp)(D:St->Hp->Prop)(ρ:En)(j:Nat)(b:List (List T)):Prop:=∀c d a,ij F c->Ns K e H0 c d a ρ j b->D a d
def sj.res(j:Nat)(o:sj)(a:Fz)(H0 F:Hp)(D:tq):Prop:=match o with
 |.bad=>False
 |.nx ρ tss=>WN K a H0 F D.nx ρ j tss
 |.ct ρ tss=>WN K a H0 F D.ct ρ j tss
 |.er C n=>kE E a.hp H0 C n
def GY(j:Nat)(t:TS)(g:En->List (List T)->sj):Prop:=∀c b F H e d a D,Ns K c b F H e d j a->(g d a).res K E j c b F D->t D e H
end
section
variable {K:W.Frag}{E:XK}{j:Nat}{F0:Fz}{H0 F H F1 H1:Hp}{σ:St}{ρ:En}{D:tq}
def sj.res.go{o:sj}(h:o.res K E j F0 H0 F D)(s:ij F F1):o.res K E j F0 H0 F1 D:=by
 cases o with
 |bad=>exact h
 |nx ρ tss=>exact λc d a b r=>h c d a (s.trans b) r
 |ct ρ tss=>exact λc d a b r=>h c d a (s.trans b) r
 |er C n=>exact h
def Oc.grow{b:List (List T)}{a:Addr}{bs:List (Addr×List V)}(n:Oc K F0 H0 F H σ ρ j b a bs)(g:Gr F H F1 H1):Oc K F0 H0 F1 H1 σ ρ j b a bs:=⟨n.r.grow g,n.e,Paired.imp' (λ_ _ q=>q.mono g.ff) n.p,n.nd,n.far⟩
@[simp] noncomputable def sH(j:Nat)(g:En->O):En->List (List T)->sj:=λρ a=>match g ρ with
 |.nx ρ'=>(match ρ'[j]? with
  |some none=>.nx ρ' a
  |_=>.bad)
 |.ct ρ'=>(match ρ'[j]? with
  |some none=>.ct ρ' a
  |_=>.bad)
 |.er C n=>.er C n
 |_=>.bad
def Nl{t:TS}{g:En->O}(h:MS K E t g):GY K E j t (sH j g):=λF0 H0 F H σ ρ tss D ⟨a,bs,n⟩ q=>by
 refine h ⟨F0.hp,OE j a bs++F0.lt⟩ H0 F H σ ρ D n.r ?_;unfold sH at q;cases e:g ρ with
 |nx ρ'=>
  rw[e]at q;dsimp only at q;split at q
  .rename_i c;exact λd f b s r=>q d f b s ⟨a,bs,r,c,Paired.imp' (λ_ _ q=>q.mono s) n.p,n.nd,n.far⟩
  .exact q.elim
 |ct ρ'=>
  rw[e]at q;dsimp only at q;split at q
  .rename_i c;exact λd f b s r=>q d f b s ⟨a,bs,r,c,Paired.imp' (λ_ _ q=>q.mono s) n.p,n.nd,n.far⟩
  .exact q.elim
 |er C n=>rw[e]at q;exact q
 |bad=>rw[e]at q;exact q
 |rt t=>rw[e]at q;exact q.elim
 |rf ts=>rw[e]at q;exact q.elim
 |rn ts us=>rw[e]at q;exact q.elim
 |bk ρ=>rw[e]at q;exact q.elim
@[simp] def DU(a b:En->List (List T)->sj):En->List (List T)->sj:=λρ c=>match a ρ c with
 |.nx ρ' tss'=>b ρ' tss'
 |o=>o
def OV{t u:TS}{a b:En->List (List T)->sj}(k:GY K E j t a)(i:GY K E j u b):GY K E j (BO t u) (DU a b):=λF0 H0 F H σ ρ c D n q=>by
 refine k F0 H0 F H σ ρ c _ n ?_;unfold DU at q;cases e:a ρ c with
 |nx ρ' tss'=>rw[e]at q;exact λg f d s h=>i F0 H0 g f d ρ' tss' D h (q.go s)
 |bad=>rw[e]at q;exact q
 |ct ρ c=>rw[e]at q;exact q
 |er C n=>rw[e]at q;exact q
@[simp] noncomputable def NV(e:Pe->M Bool)(a b:En->List (List T)->sj):En->List (List T)->sj:=λρ d=>match e (vw ρ) with
 |.ok c=>if c then a ρ d else b ρ d
 |.er C n=>.er C n
 |.bad=>.bad
def Te{t u:TS}{c:TT}{f:Pe->M Bool}{a b:En->List (List T)->sj}(y:MT K E c f)(z:GY K E j t a)(s:GY K E j u b):GY K E j (Il c t u) (NV f a b):=λF0 H0 F H σ ρ tss D ⟨x,bs,n⟩ q=>by
 obtain⟨v,A,h,V,d⟩:=n.r.lend;unfold NV at q;refine y v H σ (vw ρ) _ h.fh V ?_;cases e:f (vw ρ) with
 |bad=>rw[e]at q;exact q
 |er C m=>rw[e]at q;exact kE.go q h
 |ok c=>
  rw[e]at q;intro p k g;obtain⟨w,o,i,_⟩:=d p k g;have l:Ns K F0 H0 w k σ ρ j tss:=⟨x,bs,n.grow o⟩;cases c with
  |true=>exact z _ _ _ _ _ _ _ _ l (sj.res.go q i)
  |false=>exact s _ _ _ _ _ _ _ _ l (sj.res.go q i)
def Sr.relt{v:Hp}{L n:List (Nat×Addr×List V)}{k:Nat}{p:Addr}{xs m:List V}(r:Sr K ⟨v,L⟩ H0 F H σ ρ)(B:(k,p,xs)∈L)(g:∀e∈n,Lv H0 F (i6 H p (.lst m)) σ ρ e)
  (c:∀i l vs,n.lookup i=some (l,vs)->∃a,L.lookup i=some (l,a)):Sr K ⟨v,n⟩ H0 F (i6 H p (.lst m)) σ ρ:=by
 obtain⟨I,Q,N⟩:=r.ov;have M:=r.lv _ B;refine⟨⟨r.gr.ff,λb u q=>?_,λb u q=>?_,r.gr.nw⟩,r.len,r.pv,⟨I,λi o q=>?_,N⟩,g,λi l vs J q=>?_,r.dv.heap (.refl _) λb m x _=>⟨by assumption,?_⟩⟩
 .rw[hV (ip q M.f)];exact r.gr.fh b u q
 .rw[hV (ip q M.z)];exact r.gr.hh b u q
 .obtain⟨s,P,A,a,y,C⟩:=Q i o q;exact⟨s,P,A,a,by rw[hV (λw=>M.d i o q (by rw[s,w]))];exact y,C⟩
 .obtain⟨a,e⟩:=c i l vs J;exact r.sl i l a e q
 .rw[hV (λw=>by have:=M.h;dsimp only at this;rw[<-w,x]at this;cases this)];exact x
def tu{a:Addr}{bs:List (Addr×List V)}{L:List (Nat×Addr×List V)}{i:Nat}:(OE j a bs++L).lookup i=if i=j then some (a,bs.map λb=>V.ref b.1) else L.lookup i:=by
 unfold OE;rw[dX,cA];by_cases h:i=j
 .rw[aR h,beq_iff_eq.mpr h]
 .rw[aS h];have c:(i==j)=false:=by simpa using h
  rw[c];dsimp only;induction bs with
  |nil=>rfl
  |cons b bs ih=>rw[bH,dX,cA,c];exact ih
def Oc.out{c:List (List T)}{a:Addr}{bs:List (Addr×List V)}(n:Oc K F0 H0 F H σ ρ j c a bs):σ[j]? = some (some (.ref a))/\H a=some (.lst (bs.map λb=>V.ref b.1)):=⟨n.r.sl j a _ (by dsimp only;rw[tu,aR rfl]) n.e,(n.r.lv (j,a,_) (ay _ bt)).h⟩
theorem sX{b a:Type}{R:b->a->Prop}:∀{xs ys},Paired R xs ys->xs.length=ys.length
 |_,_,.nil=>rfl
 |_,_,.cons _ r=>by rw[aA,aA,sX r]
theorem xD{c d:Type}{R:c->d->Prop}{a:List c}{b:List d}(q:Paired R a b):∀{xs ys},Paired R xs ys->Paired R (xs++a) (ys++b)
 |_,_,.nil=>q
 |_,_,.cons h r=>.cons h (xD q r)
theorem zX{c a:Type}{R:c->a->Prop}:∀{xs ys} {i:Nat} {y:a},Paired R xs ys->ys[i]? = some y->∃x,xs[i]? = some x/\R x y
 |_,_,_,_,.nil,e=>by simp at e
 |_,_,0,_,.cons h _,e=>by simp at e;subst e;exact⟨_,rfl,h⟩
 |_,_,i+1,_,.cons _ r,e=>by obtain⟨v,b,h⟩:=zX r (by simpa using e);exact⟨v,by simpa using b,h⟩
theorem yH{b a:Type}{R:b->a->Prop}{x:b}{y:a}(q:R x y):∀{xs ys} (i:Nat),Paired R xs ys->Paired R (xs.set i x) (ys.set i y)
 |_,_,_,.nil=>.nil
 |_,_,0,.cons _ r=>.cons q r
 |_,_,i+1,.cons h r=>.cons h (yH q i r)
@[simp] noncomputable def Ay(f:Pe->M (List T)):En->List (List T)->sj:=λρ a=>match f (lF ρ) with
 |.ok us=>if a.length<sizeLine then .nx ρ (a++[us]) else .bad
 |.er C n=>.er C n
 |.bad=>.bad
def KM{t:TE}{f:Pe->M (List T)}(h:MF K E t f):GY K E j (xQ (Qg K j t)) (Ay f):=λF0 H0 F H σ ρ tss D ⟨a,bs,n⟩ q=>by
 obtain⟨o1,o2⟩:=n.out;refine⟨_,o1,EF o2,?_⟩;unfold Ay at q;refine h F H σ (lF ρ) _ n.r.gr.fh n.r.vars ?_;cases e:f (lF ρ) with
 |bad=>rw[e]at q;exact q
 |er C m=>rw[e]at q;exact kE.go q n.r.gr
 |ok us=>
  rw[e]at q;dsimp only at q;split at q
  .rename_i hl;intro l ws P H' g U hf hv hr;have B:=n.grow g;obtain⟨o3,o4⟩:=B.out;have s:∀e∈OE j a bs++F0.lt,e.2.1≠l:=λe c w=>by have:=(n.r.lv e c).h;rw[w,U]at this;cases this
   refine⟨a,_,.ref l,rfl,rfl,o4,by rw[ax,sX n.p];exact hl,q P _ σ g.ff ⟨a,bs++[(l,ws)],?_,n.e,xD (R:=λ(b:Addr×List V) N=>iy K P b.2 N) (.cons hr .nil) B.p,?_,?_⟩⟩
   .refine B.r.relt (k:=j) (xs:=bs.map λb=>V.ref b.1) (ay _ bt) (λe c=>?_) λi l' vs u=>?_
    .have Q:∀e∈bs.map (λb=>(j,b))++F0.lt,e.2.1≠a:=λe c w=>by
      rcases ai.mp c with q|q
      .obtain⟨b,S,rfl⟩:=aE.mp q;exact (bN.mp n.nd).1 (w▸aE.mpr ⟨b,S,rfl⟩)
      .exact n.far e q (w▸bt)
     have I:∀e∈bs.map (λb=>(j,b))++F0.lt,Lv H0 P (i6 H' a (.lst ((bs.map λb=>V.ref b.1)++[.ref l]))) σ ρ e:=λe c=>by have L:=B.r.lv e (by unfold OE;exact bx _ c);exact⟨by rw[hV (Q e c)];exact L.h,L.f,L.z,L.d⟩
     have J:=B.r.lv (j,a,bs.map λb=>V.ref b.1) (ay _ bt);unfold OE at c;rw[dX,a9,a9,b9]at c;rcases aG.mp c with rfl|c
     .exact⟨g9,J.f,J.z,J.d⟩
     .rcases ai.mp c with o|c
      .exact I e (ay _ o)
      .rcases ai.mp c with o|o
       .rw[bH,cn,aj]at o;subst o;refine⟨by rw[hV (λw=>s _ (ay _ bt) w.symm)];exact hv,hf,iC n.r.gr.hh U,λi N hi w=>?_⟩;obtain⟨ad,h1,_⟩:=n.r.ov;obtain⟨a1,_,_,vs1,Z,_⟩:=h1 i N hi;rw[a1]at w;have w':ad i=l:=by simpa using w
        rw[w',U]at Z;cases Z
       .exact I e (bE _ o)
    .rw[tu]at u ⊢;split at u
     .rename_i v;cases u;exact⟨_,aR v⟩
     .rename_i v;exact⟨vs,by rw[aS v];exact u⟩
   .rw[a9,<-dX];refine dY.mpr ⟨n.nd,by simp,λx hx y Y w=>?_⟩;simp only[bH,cn,aj]at Y;subst Y;rcases aG.mp hx with o|o
    .exact s _ (ay _ bt) (o▸w)
    .obtain⟨b,S,e3⟩:=aE.mp o;exact s (j,b) (ay _ (bx _ (aE.mpr ⟨b,S,rfl⟩))) (e3.trans w)
   .intro X c A;rw[a9,<-dX]at A;rcases ai.mp A with o|o
    .exact n.far X c o
    .simp only[bH,cn,aj]at o;exact s X (bE _ c) o
  .exact q.elim
@[simp] noncomputable def AE(b f:Pe->M T):En->List (List T)->sj:=λρ a=>match b (lF ρ) with
 |.ok (.int k)=>(match wL a.length k with
  |some i=>(match a[i]? with
   |some ts=>(match f (lF ρ) with
    |.ok t=>if ts.length<sizeLine then .nx ρ (a.set i (ts++[t])) else .bad
    |.er C n=>.er C n
    |.bad=>.bad)
   |none=>.bad)
  |none=>.bad)
 |.er C n=>.er C n
 |_=>.bad
theorem uK{c a e:Type}{f:c×a->e}(d:∀x y z,f (x,y)=f (x,z)):∀{bs:List (c×a)} {i:Nat} {b:c×a} {z:a},bs[i]? = some b->(bs.set i (b.1,z)).map f=bs.map f
 |[],_,_,_,h=>by simp at h
 |x::bs,0,b,z,h=>by
  have:x=b:=by simpa using h
  subst this;simp only[List.set_cons_zero,bH];rw[d x.1 z x.2]
 |x::bs,i+1,b,z,h=>by simp only[List.set_cons_succ,bH];rw[uK d (by simpa using h)]
def LW{tk te:TE}{J f:Pe->M T}(hk:ME K E tk J)(o:ME K E te f):GY K E j (xQ (VU K "list" uS (wN (Vd K) (m7 j) tk) (rG te v7))) (AE J f):=λF0 H0 F H σ ρ tss D ⟨a,bs,n⟩ q=>by
 obtain⟨o1,o2⟩:=n.out;refine⟨_,o1,hk F H σ (lF ρ) _ n.r.gr.fh n.r.vars ?_⟩;unfold AE at q;cases U:J (lF ρ) with
 |bad=>rw[U]at q;exact q
 |er C m=>rw[U]at q;exact kE.go q n.r.gr
 |ok kt=>
  rw[U]at q;intro v F1 H1 g1 rv;cases kt with
  |int k=>
   dsimp only at q;rw[rv.int_inv];cases ei:wL tss.length k with
   |none=>rw[ei]at q;exact q.elim
   |some i=>
    rw[ei]at q;dsimp only at q;cases P:tss[i]? with
    |none=>rw[P]at q;exact q.elim
    |some ts=>
     rw[P]at q;dsimp only at q;have s:=n.grow g1;obtain⟨b,y,rb⟩:=zX s.p P;obtain⟨o3,o4⟩:=s.out;have c:b∈bs:=dZ.mpr ⟨i,y⟩;have Lb:=s.r.lv (j,b) (ay _ (bx _ (aE.mpr ⟨b,c,rfl⟩)));refine .inl ⟨a,_,k,.ref b.1,rfl,rfl,l9.of o4,?_,EF Lb.h,o F1 H1 σ (lF ρ) _ s.r.gr.fh s.r.vars ?_⟩
     .unfold rV;rw[ax,sX n.p,ei];show (bs.map λb=>V.ref b.1)[i]? = _;rw[aw,y];rfl
     cases X:f (lF ρ) with
     |bad=>rw[X]at q;exact q
     |er C m=>rw[X]at q;exact kE.go q s.r.gr
     |ok t=>
      rw[X]at q;dsimp only at q;split at q
      .rename_i hl;intro w S H2 g2 Q;have u:=s.grow g2;have L2:=u.r.lv (j,b) (ay _ (bx _ (aE.mpr ⟨b,c,rfl⟩)));have A:iy K S b.2 ts:=rb.mono g2.ff;have m1:(bs.set i (b.1,b.2++[w])).map (λb=>V.ref b.1)=bs.map λb=>V.ref b.1:=uK (λ_ _ _=>rfl) y;have m2:(bs.set i (b.1,b.2++[w])).map (·.1)=bs.map (·.1):=uK (λ_ _ _=>rfl) y;have nb:a≠b.1:=λz=>(bN.mp n.nd).1 (z▸aE.mpr ⟨b,c,rfl⟩);refine⟨b.1,b.2,w,rfl,rfl,L2.h,by rw[A.length];exact hl,q S _ σ (g1.ff.trans g2.ff) ⟨a,bs.set i (b.1,b.2++[w]),?_,n.e,yH (R:=λ(b:Addr×List V) ts=>iy K S b.2 ts) (A.append (.cons Q .nil)) i u.p,by rw[m2];exact n.nd,by rw[m2];exact n.far⟩⟩;refine u.r.relt (k:=j) (xs:=b.2) (ay _ (bx _ (aE.mpr ⟨b,c,rfl⟩))) (λe o=>?_) λi' l' vs g=>?_
       .unfold OE at o;rw[m1,dX]at o;rcases aG.mp o with rfl|o
        .have L:=u.r.lv (j,a,bs.map λb=>V.ref b.1) (ay _ bt);exact⟨by rw[hV nb];exact L.h,L.f,L.z,L.d⟩
        .rcases ai.mp o with I|I
         .obtain⟨x,hx,rfl⟩:=aE.mp I;obtain⟨p,B⟩:=dZ.mp hx;rcases iD B with⟨rfl,rfl⟩|⟨Y,B⟩
          .exact⟨g9,L2.f,L2.z,L2.d⟩
          .have L:=u.r.lv (j,x) (ay _ (bx _ (aE.mpr ⟨x,dZ.mpr ⟨p,B⟩,rfl⟩)));have N:x.1≠b.1:=λz=>by
            have nd:=(bN.mp n.nd).2;have h1:(bs.map (·.1))[p]? = some b.1:=by rw[aw,B,<-z];rfl
            have h2:(bs.map (·.1))[i]? = some b.1:=by rw[aw,y];rfl
            have Z:p<(bs.map (·.1)).length:=(aa.mp h1).1;exact Y ((List.getElem?_inj Z nd).mp (h1.trans h2.symm))
           exact⟨by rw[hV N];exact L.h,L.f,L.z,L.d⟩
         .have L:=u.r.lv e (bE _ I);have N:e.2.1≠b.1:=λz=>n.far e I (z▸bx _ (aE.mpr ⟨b,c,rfl⟩));exact⟨by rw[hV N];exact L.h,L.f,L.z,L.d⟩
       .rw[tu]at g ⊢;split at g
        .rename_i l;cases g;exact⟨_,aR l⟩
        .rename_i l;exact⟨vs,by rw[aS l];exact g⟩
      .exact q.elim
  |_=>exact q.elim
def Sr.takeL{y:Hp}{a:Addr}{xs:List V}{b:Addr×List V}{L:List (Nat×Addr×List V)}(r:Sr K ⟨y,(j,a,xs)::(j,b)::L⟩ H0 F H σ ρ)(k:∀e∈(j,a,xs)::L,e.2.1≠b.1):Sr K ⟨y,(j,a,xs)::L⟩ H0 (i6 F b.1 (.lst b.2)) H σ ρ:=by
 have M:=r.lv (j,b) (bx _ bt);have A:F b.1=none:=M.f;have s:=jB (o:=.lst b.2) A;obtain⟨Q,U,R⟩:=r.ov;refine⟨r.gr.take M.h A M.z,r.len,λi t q=>?_,⟨Q,λi n q=>?_,R⟩,λe B=>?_,λi l N c q=>?_,r.dv.heap s λx X p I=>⟨?_,p⟩⟩
 .obtain⟨v,e,z⟩:=r.pv i t q;exact⟨v,e,z.mono s⟩
 .obtain⟨u,S,J,g,C,P⟩:=U i n q;exact⟨u,by rw[hV (λw=>M.d i n q (by rw[u,w]))];exact S,J,g,C,P.mono s⟩
 .have L:=r.lv e (by
   rcases aG.mp B with q|q
   .exact q▸bt
   .exact bx _ (bx _ q))
  exact⟨L.h,by rw[hV (k e B)];exact L.f,L.z,L.d⟩
 .refine r.sl i l N ?_ q;dsimp only at c ⊢;rw[cA]at c ⊢;cases m:i==j with
  |true=>rw[m]at c;exact c
  |false=>rw[m]at c;dsimp only at c ⊢;rw[cA,m];exact c
 .rw[hV (λw=>by have:=M.h;dsimp only at this;rw[<-w,p]at this;cases this)];exact I
theorem freeze{m:Hp}{a:Addr}{xs:List V}{L:List (Nat×Addr×List V)}:∀{bs:List (Addr×List V)} {d:List (List T)} {F:Hp},Sr K ⟨m,(j,a,xs)::(bs.map (λb=>(j,b))++L)⟩ H0 F H σ ρ->Paired (λ(b:Addr×List V) ts=>iy K F b.2 ts) bs d->(a::bs.map (·.1)).Nodup->(∀e∈L,e.2.1∉a::bs.map (·.1))->
  ∃g,ij F g/\Sr K ⟨m,(j,a,xs)::L⟩ H0 g H σ ρ/\iy K g (bs.map λb=>V.ref b.1) (d.map T.lst)
 |[],_,F,r,.nil,_,_=>⟨F,.refl _,r,.nil⟩
 |b::bs,_,F,r,.cons h p,nd,far=>by
  have A:F b.1=none:=(r.lv (j,b) (bx _ bt)).f;have s:=jB (o:=.lst b.2) A;rw[bH]at nd far;have c:=bN.mp nd;have k:=bN.mp c.2;have u:=r.takeL λe i w=>by
   rcases aG.mp i with rfl|i
   .exact c.1 (w▸bt)
   .rcases ai.mp i with q|q
    .obtain⟨x,v,rfl⟩:=aE.mp q;exact k.1 (w▸aE.mpr ⟨x,v,rfl⟩)
    .exact far e q (w▸bx _ bt)
  obtain⟨g,l,n,y⟩:=freeze u (Paired.imp' (λ_ _ z=>z.mono s) p) (bN.mpr ⟨λz=>c.1 (bx _ z),k.2⟩) λe i z=>far e i (by
   rcases aG.mp z with q|q
   .exact q▸bt
   .exact bx _ (bx _ q))
  exact⟨g,s.trans l,n,.cons (.lst (l _ _ g9) (h.mono (s.trans l))) y⟩
def Oc.freeze{b:List (List T)}{a:Addr}{bs:List (Addr×List V)}(n:Oc K F0 H0 F H σ ρ j b a bs):∃c,ij F c/\Sr K F0 H0 c H σ (ρ.set j (some (.o (b.map T.lst)))):=by obtain⟨c,s,r,q⟩:=L3.freeze n.r n.p n.nd n.far;exact⟨c,s,r.unhide n.e q λe d w=>n.far e d (w▸bt)⟩
noncomputable def qP(m:T->En->Option En)(g:En->List (List T)->sj)(j:Nat):List T->En->List (List T)->sj
 |[],ρ,tss=>.nx ρ tss
 |t::ts,ρ,tss=>match m t ρ with
  |none=>.bad
  |some ρ1=>match ρ1[j]? with
   |some none=>(match g ρ1 tss with
    |.nx ρ2 tss2=>qP m g j ts ρ2 tss2
    |.ct ρ2 tss2=>qP m g j ts ρ2 tss2
    |o=>o)
   |_=>.bad
theorem E9{tb:TS}{J:It}{g:TG}{m:T->En->Option En}{I:En->List (List T)->sj}{its:List T}{w:List (List T)}(hg:NO K g m)(hb:GY K E j tb I)(v:xM K J its F1)(n:Ns K F0 H0 F H σ ρ j w)(s1:ij F1 F)
  (q:(qP m I j its ρ w).res K E j F0 H0 F D):∃W:Nat->Nat->St->Hp->Prop,(∃m,W 0 m σ H)/\∀i m σ H,W i m σ H->
 (J.stop i H/\D.nx σ H)\/(J.go i H/\∃N:St->Hp->Prop,(∀b f,N b f->∃m',m'<m/\W (i+1) m' b f)/\∀x f,J.yld i H x f->g x σ f λZ H2=>tb {D with nx:=N,ct:=N,bk:=D.nx} Z H2):=by
 refine⟨λi k b f=>i<=its.length/\k=its.length-i/\∃h l d,ij F1 h/\Ns K F0 H0 h f b l j d/\(qP m I j (its.drop i) l d).res K E j F0 H0 h D,⟨_,bK _,rfl,F,ρ,w,s1,n,by simpa using q⟩,?_⟩
 rintro i k S X ⟨hi,rfl,F2,L,u,P,⟨a,bs,B⟩,c⟩
 by_cases o:i<its.length
 .right;refine⟨v.go i X (P.trans B.r.gr.fh) o,λb f=>∃h l d,ij F1 h/\Ns K F0 H0 h f b l j d/\(qP m I j (its.drop (i+1)) l d).res K E j F0 H0 h D,λb f z=>⟨its.length-(i+1),by omega,o,rfl,z⟩,λx f y=>?_⟩;have et:=ag o;obtain⟨F3,Q,rp⟩:=v.yld i _ F2 X x f P B.r.gr.fh et y;rw[dC o]at c;unfold qP at c;cases em:m its[i] L with
  |none=>rw[em]at c;exact c.elim
  |some ρ3=>
   rw[em]at c;have Y:=B.grow Q;refine hg ⟨F0.hp,OE j a bs++F0.lt⟩ H0 F3 f S L x _ ρ3 _ Y.r rp em λb r'=>?_;dsimp only at c;split at c
   .rename_i e3;refine hb F0 H0 F3 f b ρ3 u _ ⟨a,bs,r',e3,Y.p,Y.nd,Y.far⟩ ?_;cases U:I ρ3 u with
    |bad=>rw[U]at c;exact c.elim
    |nx ρ4 tss4=>rw[U]at c;exact λh H'' R s A=>⟨h,ρ4,tss4,(P.trans Q.ff).trans s,A,sj.res.go c (Q.ff.trans s)⟩
    |ct ρ4 tss4=>rw[U]at c;exact λh H'' R s A=>⟨h,ρ4,tss4,(P.trans Q.ff).trans s,A,sj.res.go c (Q.ff.trans s)⟩
    |er C n=>rw[U]at c;exact c
   .exact c.elim
 .left;have e:i=its.length:=by omega
  subst e;refine⟨v.stop X (P.trans B.r.gr.fh),?_⟩;rw[dD]at c;exact c F2 X S (.refl _) ⟨a,bs,B⟩
@[simp] noncomputable def Rm(j:Nat):sj->O
 |.nx ρ tss=>.nx (ρ.set j (some (.o (tss.map T.lst))))
 |.er C n=>.er C n
 |_=>.bad
@[simp] noncomputable def Ai(b:Pe->M (List T))(j:Nat)(m:T->En->Option En)(g:En->List (List T)->sj):En->O:=λρ=>match ρ[j]? with
 |some (some (.o []))=>.of (b (lF ρ)) λa=>Rm j (qP m g j a (ρ.set j none) [])
 |_=>.bad
def PH{i:TS}{w:TI}{k:Pe->M (List T)}{g:TG}{m:T->En->Option En}{f:En->List (List T)->sj}(x:MI K E w k)(L:NO K g m)(B:GY K E j i f):MS K E (Ci w g i) (Ai k j m f):=λF0 H0 F H σ ρ D r q=>by
 unfold Ai at q;split at q
 .rename_i e;obtain⟨l,N,a,d,z,A,p⟩:=r.hide e;cases z;have u:j<ρ.length:=(aa.mp e).1;have n:Oc K F0 H0 F H σ (ρ.set j none) j [] l []:=⟨p,by rw[List.getElem?_set_self u],.nil,by simp,λv I w=>A v I (by simpa using w)⟩;refine x F H σ (lF ρ) _ r.gr.fh r.vars ((O.res_of q).mono (λc z J y h o b=>E9 L B b ⟨l,[],n.grow o⟩ (.refl _) (sj.res.go ?_ o.ff)) λC n z=>z.go r.gr);cases eo:qP m f j c (ρ.set j none) [] with
  |bad=>rw[eo]at z;exact z.elim
  |nx ρ2 tss2=>rw[eo]at z;exact λy h σ' s ⟨a,bs,n2⟩=>let ⟨F2,s2,r2⟩:=n2.freeze;z F2 h σ' (s.trans s2) r2
  |ct ρ2 tss2=>rw[eo]at z;exact z.elim
  |er C m=>rw[eo]at z;exact z
 .exact q.elim
@[simp] def KC:En->List (List T)->sj:=λρ a=>.nx ρ a
def NH:GY K E j AN KC:=λF0 H0 F H σ ρ a D n q=>q F H σ (.refl _) n
end
structure Ua(K:W.Frag)(E:XK)(X:Cx)(j:Nat)(st:Stmt)(t:TS)(g:En->List (List T)->sj):Prop where
 ps:PS X st t
 ms:GY K E j t g
structure EZ(K:W.Frag)(E:XK)(X:Cx)(j:Nat)(sts:List Stmt)(t:TS)(g:En->List (List T)->sj):Prop where
 ps:BU X sts t
 ms:GY K E j t g
section
variable {K:W.Frag}{E:XK}{X:Cx}{st:Stmt}{mY A B:List Stmt}{t u:TS}{g g':En->List (List T)->sj}
def Mc j:EZ K E X j [] AN KC:=⟨Cn,NH⟩
def ub{j:Nat}(h:Ua K E X j st t g):EZ K E X j [st] t g:=⟨qD h.ps,h.ms⟩
def vY{j:Nat}(h:Ua K E X j st t g)(h':EZ K E X j mY u g'):EZ K E X j (st::mY) (BO t u) (DU g g'):=⟨qj h.ps h'.ps,OV h.ms h'.ms⟩
def yC{a:En->O} j (h:Aw K E X st t a):Ua K E X j st t (sH j a):=⟨h.ps,Nl h.ms⟩
def KU{j:Nat}{c:Expr}{b:TT}{d:Pe->M Bool}{a:Pos}(e:Et K E X c b d)(h:EZ K E X j A t g)(h':EZ K E X j B u g'):Ua K E X j (.If c A B a) (Il b t u) (NV d g g'):=⟨Mo e.pt h.ps h'.ps,Te e.mt h.ms h'.ms⟩
def Kh{w:TI}{e:Pe->M (List T)}{h:TG}{m:T->En->Option En}{a it:Expr}{b:Pos} j (l:PassesOwn (model X.prog X.w) X.A X.env X.xe) (k:X.calm=true) (c:Jx K E X a it w e) (f:Ui K X a h m) (d:EZ K E X j A t g) (i:∀x,foldedSetIterable it X.env x=pure x:=by intro _;rfl):Aw K E X (.For a it A [] b) (Ci w h t) (Ai e j m g):=⟨ya l k c.pi f.pg d.ps i,PH c.mi f.mg d.ms⟩
variable {e b:Expr}{te tb:TE}{ff:Pe->M (List T)}{fe fb:Pe->M T}{x:Str}{p p2 apos pos pos':Pos}
def KY j (hv:PE X (.Name x p) (m7 j)) (h:Ia K E X e te ff) (i:starEach [e] X.env=(false,eval e X.env)::starEach [] X.env:=by rfl) (k:X.K=K:=by rfl)
  (c:attributeBase (.Name x p) "append" X.env (eval (.Name x p) X.env)=eval (.Name x p) X.env:=by rfl)
  (d:((backTo pos (starEach [e] X.env)).all (λx=>!x.1)&&(backToKw pos (keywordEach [] X.env)).all (λx=>x.1.isSome)&&decide (([e]:List Expr).length+([]:List Keyword).length+(if ([]:List Keyword).isEmpty then 0 else 1)<30))=true:=by rfl)
  (a:(apos.endLine==pos.line)=true:=by rfl) (hplain:(backTo pos (starEach [] X.env)).any (·.1)=false:=by rfl) (f:swapsWith (.Call (.Attribute (.Name x p) "append" apos) [e] [] pos) none pos'.line X.env=pure false:=by rfl) :
  Ua K E X j (.Expr (.Call (.Attribute (.Name x p) "append" apos) [e] [] pos) pos') (xQ (Qg K j te)) (Ay ff):=by
 subst k;exact⟨Cv (L1 PySem.F.plainAttrs_list PySem.F.slot_list_append PySem.F.type_list_append vn hv (nR h.pe tV i) c d a i hplain) f,KM h.mf⟩
def JJ j (hv:PE X (.Name x p) (m7 j)) (k:Pm K E X b tb fb) (i:Pm K E X e te fe) (h:Be b:=by intro _ _;rfl) (l:starEach [e] X.env=(false,eval e X.env)::starEach [] X.env:=by rfl) (m:X.K=K:=by rfl)
  (c:attributeBase (.Subscript (.Name x p) b p2) "append" X.env (eval (.Subscript (.Name x p) b p2) X.env)=eval (.Subscript (.Name x p) b p2) X.env:=by rfl)
  (d:((backTo pos (starEach [e] X.env)).all (λx=>!x.1)&&(backToKw pos (keywordEach [] X.env)).all (λx=>x.1.isSome)&&decide (([e]:List Expr).length+([]:List Keyword).length+(if ([]:List Keyword).isEmpty then 0 else 1)<30))=true:=by rfl)
  (a:(apos.endLine==pos.line)=true:=by rfl) (hplain:(backTo pos (starEach [] X.env)).any (·.1)=false:=by rfl) (f:swapsWith (.Call (.Attribute (.Subscript (.Name x p) b p2) "append" apos) [e] [] pos) none pos'.line X.env=pure false:=by rfl) :
  Ua K E X j (.Expr (.Call (.Attribute (.Subscript (.Name x p) b p2) "append" apos) [e] [] pos) pos') (xQ (VU K "list" uS (wN (Vd K) (m7 j) tb) (rG te v7))) (AE fb fe):=by
 subst m;exact⟨Cv (L1 PySem.F.plainAttrs_list PySem.F.slot_list_append PySem.F.type_list_append vn (GI Nm hv k.pe h) (nR i.pe tV l) c d a l hplain) f,LW k.me i.me⟩
end
end L3
namespace CL
open PySem L2 L3
structure Cs where
 Cutting:Addr
 Desk:Addr
 CutError:Addr
 NoCutting:Addr
 NoTable:Addr
 NoFraction:Addr
 NoSpot:Addr
 NoSigns:Addr
 NoLand:Addr
 NoFace:Addr
 NoNumber:Addr
 NoText:Addr
 NoDeed:Addr
def t7(c:Cs):En->O:=(iw (setO 2 (kn (ik yL (gP 0) (gP 1))))
  (iw (setO 0 (kn (gP 1)))
  (setO 1 (kn (gP 2)))))
def vj(c:Cs):En->O:=(iw (λa=>nA (jL (ik (iY true) (gP 1) (cM (.int 0)))) (t7 c) ((λa=>match a with|_::some (.p (.int j))::_=>j.natAbs+1|_=>0) a) a)
  (jw (lC wU (gO (gP 0) gR))))
def jA(c:Cs):List T->M T:=nY 2 3 (vj c)
def pJ(c:Cs):En->O:=(iw (pP (jL (ik U4 (gP 1) (lC l6 (gO (gP 0) gR)))) (jw (ik kW (gP 0) (gP 1))) jx)
  (jw (cM (.int 0))))
def jU(c:Cs):List T->M T:=nY 2 2 (pJ c)
def FS(c:Cs):En->O:=(jw (zM (BS "int" (gP 0)) (Cg (BS "bool" (gP 0)))))
def jK(c:Cs):List T->M T:=nY 1 1 (FS c)
def xG(c:Cs):En->O:=(jw (zM (hW (gO (gP 0) gR) (jK c)) (V4 UU U4 (cM (.int 0)) (gP 0) (gP 1))))
def jr(c:Cs):List T->M T:=nY 2 2 (xG c)
def Jf(c:Cs):En->O:=(iw (pP (jL (ik Ub (gP 0) (cM (.int 0)))) (jw (cM (.int 1))) jx)
  (iw (pP (jL (ik U4 (gP 0) (cM (.int 0)))) (jw (rW (λi=>.int (-i)) (cM (.int 1)))) jx)
  (jw (cM (.int 0)))))
def lq(c:Cs):List T->M T:=nY 1 1 (Jf c)
def I0(c:Cs):En->O:=(jw (zM (hW (gO (gP 0) gR) (jK c)) (V4 UU UU (cM (.int 1)) (gP 0) (cM (.int 3)))))
def nZ(c:Cs):List T->M T:=nY 1 1 (I0 c)
def vR(c:Cs):Pe->M T:=(hW (gO (gP 0) gR) (jK c))
def vz(c:Cs):Pe->M T:=(ik (iY true) (gP 0) (cM (.int 0)))
def KD(c:Cs):En->O:=(iw (pP (Jd (qC (jL (BS "tuple" (gP 1)))) (jL (ik (iY true) (lC l6 (gO (gP 1) gR)) (ik jl (gP 0) (cM (.int 1)))))) (jw (cM (.bl false))) jx)
  (iw (pP (qC (jL (lC zA (gO (jC (lM [none] (jP (gP 1)) (km 0) (λ_=>.ok true) (vR c))) gR)))) (jw (cM (.bl false))) jx)
  (jw (lC qq (gO (jC (lM [none] (jP (jY (gP 1) (λ_=>.ok none) (iW (gP 0)))) (km 0) (λ_=>.ok true) (vz c))) gR)))))
def mB(c:Cs):List T->M T:=nY 2 2 (KD c)
def oH(c:Cs):En->O:=(setO 1 (kn (ik jl (gP 1) (cM (.int 1)))))
def zH(c:Cs):En->O:=(iw (setO 1 (kn (cM (.int 0))))
  (iw (λa=>nA (jL (ik (iY false) (ik kW (gP 0) (gP 1)) (cM (.int 0)))) (oH c) ((λa=>match a with|some (.p (.tup ts))::_=>ts.length+1|_=>0) a) a)
  (jw (gP 1))))
def jT(c:Cs):List T->M T:=nY 1 2 (zH c)
def pN(c:Cs):Pe->M T:=(ik (iY false) (ik mF (gP 0) (ik kW (gP 2) (gP 3))) (ik mF (gP 1) (ik kW (gP 4) (gP 3))))
def Bp(c:Cs):En->O:=(iw (setO 2 (kn (hW (gO (gP 0) gR) (jT c))))
  (jw (lC zA (gO (jC (lM [none,none,some 1,some 2,some 0] (nG (gO (gP 0) (gO (gP 1) gR))) (mT 2 (iN (km 0) (iN (km 1) mP))) (λ_=>.ok true) (pN c))) gR))))
def kc(c:Cs):List T->M T:=nY 2 3 (Bp c)
def qG(c:Cs):Pe->M T:=(hW (gO (gP 0) (gO (gP 1) gR)) (kc c))
def Dh(c:Cs):En->O:=(iw (pP (Jd (jL (ik Vu (lC l6 (gO (gP 1) gR)) (cM (.int 7)))) (qC (jL (hW (gO (gP 0) (gO (gP 2) gR)) (mB c))))) (jw (cM (.bl false))) jx)
  (jw (Cg (lC qq (gO (jC (lM [none,some 2] (jP (gP 1)) (km 0) (λ_=>.ok true) (qG c))) gR)))))
def ml(c:Cs):List T->M T:=nY 3 3 (Dh c)
def qI(c:Cs):En->O:=(iw (pP (qC (jL (hW (gO (gP 0) (gO (gP 2) (gO (gP 3) gR))) (ml c)))) (λ_=>.bad) jx)
  (uI 2 (kn (lC l0 (gO (gP 3) gR)))))
def zp(c:Cs):En->O:=(iw (pP (Jd (qC (jL (hW (gO (gP 0) gR) (nZ c)))) (qC (jL (BS "list" (gP 1))))) (λ_=>.bad) jx)
  (iw (pD 2 (sv (lstM gR)))
  (iw (sr (jP (gP 1)) (mH 3) (qI c))
  (jw (lC l0 (gO (gP 2) gR))))))
def kG(c:Cs):List T->M T:=nY 2 4 (zp c)
def ja(c:Cs):List T->M T:=AY c.Cutting 2 "own_cuts" "own_dims" (hW (gO (gP 1) (gO (gP 2) gR)) (kG c)) (gP 1)
def xT(c:Cs):En->O:=(jw (sY c.Cutting "own_dims" (gP 0)))
def iJ(c:Cs):List T->M T:=nY 1 1 (xT c)
def xI(c:Cs):En->O:=(oJ (LN rj (gO (sY c.Cutting "own_cuts" (gP 0)) gR)))
def iI(c:Cs):List T->M (List T):=xw 1 1 (xI c)
def yE(c:Cs):En->O:=(jw (lC l6 (gO (sY c.Cutting "own_cuts" (gP 0)) gR)))
def kx(c:Cs):List T->M T:=nY 1 1 (yE c)
def uE(c:Cs):En->O:=(iw (pP (qC (jL (hW (gO (gP 1) (gO (lC l6 (gO (sY c.Cutting "own_cuts" (gP 0)) gR)) gR)) (jr c)))) (λ_=>.bad) jx)
  (jw (hW (gO (sY c.Cutting "own_dims" (gP 0)) (gO (jC (LN rj (gO (ik jl (jY (sY c.Cutting "own_cuts" (gP 0)) (λ_=>.ok none) (iW (gP 1))) (jY (sY c.Cutting "own_cuts" (gP 0)) (iW (ik jl (gP 1) (cM (.int 1)))) (λ_=>.ok none))) gR))) gR)) (ja c))))
def iK(c:Cs):List T->M T:=nY 2 2 (uE c)
def DZ(c:Cs):En->O:=(setO 3 (kn (ik uH (gP 3) (gP 2))))
def Fh(c:Cs):En->O:=(iw (pP (jL (ik Vu (gP 0) (ik QD (cM (.int 10)) (cM (.int 18))))) (iw (setO 3 (kn (gP 0)))
  (iw (wq (nr (gO (gP 1) gR)) (mH 4) (DZ c))
  (jw (ik yL (gP 3) (gP 2))))) jx)
  (iw (setO 5 (kn (ik yL (ik mF (ik jl (ik jl (ik yL (gP 0) (cM (.int 1000000007))) (ik mF (cM (.int 1009)) (gP 1))) (cM (.int 17))) (cM (.int 69621))) (cM (.int 2147483647)))))
  (iw (setO 5 (kn (ik yL (ik jl (ik jl (ik mF (gP 5) (gP 5)) (ik mF (cM (.int 40503)) (gP 1))) (cM (.int 5))) (cM (.int 2147483629)))))
  (jw (ik yL (ik uH (ik yL (ik mF (gP 5) (cM (.int 48271))) (cM (.int 2147483647))) (cM (.int 32))) (gP 2))))))
def iE(c:Cs):List T->M T:=nY 3 6 (Fh c)
def wC(c:Cs):En->O:=(pP (jL (ik (iY true) (ik mF (ik kW (gP 0) (gP 2)) (ik kW (gP 1) (gP 3))) (ik mF (ik kW (gP 0) (gP 3)) (ik kW (gP 1) (gP 2))))) (jw (cM (.bl false))) jx)
def CI(c:Cs):En->O:=(wq (nr (gO (gP 2) gR)) (mH 3) (wC c))
def Ft(c:Cs):En->O:=(iw (wq (nr (gO (lC l6 (gO (gP 0) gR)) gR)) (mH 2) (CI c))
  (jw (cM (.bl true))))
def l8(c:Cs):List T->M T:=nY 2 4 (Ft c)
def Lk(c:Cs):Pe->M T:=(ik mF (gP 0) (gP 1))
def U0(c:Cs):En->O:=(jw (lC FH (gO (jC (lM [none,none] (nG (gO (gP 0) (gO (gP 1) gR))) (mT 2 (iN (km 0) (iN (km 1) mP))) (λ_=>.ok true) (Lk c))) gR)))
def uk(c:Cs):List T->M T:=nY 2 2 (U0 c)
def vt(c:Cs):En->O:=(iw (setO 1 (kn (hW (gO (gP 1) (gO (gP 2) gR)) (jA c))))
  (pP (jL (ik (iY false) (gP 1) (cM (.int 1)))) (jw (gP 0)) jx))
def IR(c:Cs):Pe->M T:=(ik uH (gP 0) (gP 1))
def K2(c:Cs):En->O:=(iw (setO 1 (kn (cM (.int 0))))
  (iw (sr (jP (gP 0)) (mH 2) (vt c))
  (iw (pP (jL (ik (iY false) (gP 1) (cM (.int 0)))) (jw (gP 0)) jx)
  (jw (lC l0 (gO (jC (lM [none,some 1] (jP (gP 0)) (km 0) (λ_=>.ok true) (IR c))) gR))))))
def kZ(c:Cs):List T->M T:=nY 1 3 (K2 c)
def ED(c:Cs):Pe->M T:=(ik jl (ik mF (gP 2) (gP 0)) (ik mF (gP 3) (gP 1)))
def Ig(c:Cs):En->O:=(iw (pP (jL (ik (iY false) (ik kW (gP 0) (gP 2)) (cM (.int 0)))) (jw (gP 0)) jx)
  (iw (setO 3 (kn (lC wU (gO (ik kW (gP 1) (gP 2)) gR))))
  (iw (setO 4 (kn (ik mF (rW (λi=>.int (-i)) (ik kW (gP 0) (gP 2))) (hW (gO (ik kW (gP 1) (gP 2)) gR) (lq c)))))
  (jw (hW (gO (lC l0 (gO (jC (lM [none,none,some 3,some 4] (nG (gO (gP 0) (gO (gP 1) gR))) (mT 2 (iN (km 0) (iN (km 1) mP))) (λ_=>.ok true) (ED c))) gR)) gR) (kZ c))))))
def jt(c:Cs):List T->M T:=nY 3 5 (Ig c)
def sS(c:Cs):En->O:=(setO 0 (kn (hW (gO (gP 0) (gO (gP 3) (gO (gP 2) gR))) (jt c))))
def IS(c:Cs):En->O:=(iw (sr (jP (gP 1)) (mJ 2 (iZ (mH 2) (iZ (mH 3) mK))) (sS c))
  (jw (gP 0)))
def lr(c:Cs):List T->M T:=nY 2 4 (IS c)
def sC(c:Cs):Pe->M T:=(mC (gO (gP 0) (gO (hW (gO (gP 1) (gO (gP 2) (gO (gP 3) gR))) (jt c)) gR)))
def Ck(c:Cs):En->O:=(oJ (yh (jC (lM [none,none,some 1,some 2] (jP (gP 0)) (mT 2 (iN (km 0) (iN (km 1) mP))) (λ_=>.ok true) (sC c))) (jC (lstM (gO (mC (gO (gP 2) (gO (gP 1) gR))) gR)))))
def lJ(c:Cs):List T->M (List T):=xw 3 3 (Ck c)
def nK(c:Cs):Pe->M T:=(gP 0)
def lP(c:Cs):En->O:=(iw (setO 5 (kn (hW (gO (gP 4) (gO (gP 2) gR)) (lr c))))
  (iw (setO 6 (kn (jC (lM [none,some 5] (nr (gO (gP 1) gR)) (km 0) (jL (ik (iY true) (ik kW (gP 1) (gP 0)) (cM (.int 0)))) (nK c)))))
  (pP (jL (ik (iY false) (gP 6) (jC (lstM gR)))) (uI 3 (kn (gP 5))) (setO 2 (kn (jC (i8 (gO (gP 2) (gO (gP 5) (gO (ik kW (gP 6) (cM (.int 0))) gR))) (lJ c))))))))
def tE(c:Cs):En->O:=(iw (setO 2 (kn (jC (lstM gR))))
  (iw (pD 3 (sv (lstM gR)))
  (iw (sr (jP (gP 0)) (mH 4) (lP c))
  (jw (mC (gO (gP 2) (gO (gP 3) gR)))))))
def jX(c:Cs):List T->M T:=nY 2 7 (tE c)
def IK(c:Cs):En->O:=(jw (ik wK (hW (gO (jY (gP 0) (λ_=>.ok none) (iW (rW (λi=>.int (-i)) (cM (.int 1))))) (gO (jY (gP 1) (λ_=>.ok none) (iW (rW (λi=>.int (-i)) (cM (.int 1))))) gR)) (uk c)) (ik mF (ik kW (gP 0) (rW (λi=>.int (-i)) (cM (.int 1)))) (ik kW (gP 1) (rW (λi=>.int (-i)) (cM (.int 1)))))))
def kD(c:Cs):List T->M T:=nY 2 2 (IK c)
def ue(c:Cs):En->O:=(iw (setO 6 (kn (lC wU (gO (hW (gO (jY (gP 5) (λ_=>.ok none) (iW (rW (λi=>.int (-i)) (cM (.int 1))))) (gO (jY (gP 1) (λ_=>.ok none) (iW (rW (λi=>.int (-i)) (cM (.int 1))))) gR)) (uk c)) gR))))
  (setO 4 (kn (lC zY (gO (gP 4) (gO (ik jl (ik uH (gP 6) (lC wU (gO (hW (gO (gP 5) (gO (gP 2) gR)) (kD c)) gR))) (cM (.int 1))) gR))))))
def uB(c:Cs):Pe->M T:=(ik jl (ik mF (gP 2) (gP 0)) (ik mF (gP 3) (gP 1)))
def Eg(c:Cs):En->O:=(iw (setO 4 (kn (cM (.int 1))))
  (iw (sr (jP (gP 0)) (mH 5) (ue c))
  (iw (setO 7 (kn (jC (lM [none,none,some 4,some 3] (nG (gO (jY (gP 2) (λ_=>.ok none) (iW (rW (λi=>.int (-i)) (cM (.int 1))))) (gO (jY (gP 1) (λ_=>.ok none) (iW (rW (λi=>.int (-i)) (cM (.int 1))))) gR))) (mT 2 (iN (km 0) (iN (km 1) mP))) (λ_=>.ok true) (uB c)))))
  (jw (hW (gO (ik jl (lC l0 (gO (gP 7) gR)) (mC (gO (ik mF (gP 4) (ik kW (gP 2) (rW (λi=>.int (-i)) (cM (.int 1))))) gR))) gR) (kZ c))))))
def kL(c:Cs):List T->M T:=nY 4 8 (Eg c)
def wI(c:Cs):En->O:=(jw (ik jl (jY (gP 0) (λ_=>.ok none) (iW (gP 1))) (jY (gP 0) (iW (ik jl (gP 1) (cM (.int 1)))) (λ_=>.ok none))))
def iP(c:Cs):List T->M T:=nY 2 2 (wI c)
def we(c:Cs):Pe->M T:=(ik mF (gP 1) (gP 0))
def EV(c:Cs):En->O:=(iw (setO 3 (kn (lC wU (gO (ik kW (gP 0) (gP 1)) gR))))
  (iw (setO 4 (kn (ik mF (rW (λi=>.int (-i)) (hW (gO (ik kW (gP 0) (gP 1)) gR) (lq c))) (hW (gO (hW (gO (gP 0) (gO (gP 1) gR)) (iP c)) (gO (gP 2) gR)) (kD c)))))
  (iw (setO 5 (kn (lC l0 (gO (jC (lM [none,some 3] (jP (gP 2)) (km 0) (λ_=>.ok true) (we c))) gR))))
  (jw (hW (gO (ik jl (ik jl (jY (gP 5) (λ_=>.ok none) (iW (gP 1))) (mC (gO (gP 4) gR))) (jY (gP 5) (iW (gP 1)) (λ_=>.ok none))) gR) (kZ c))))))
def lH(c:Cs):List T->M T:=nY 3 6 (EV c)
def uF(c:Cs)(a:List T->M T):Pe->M T:=(gP 0)
def t9(c:Cs)(a:List T->M T):Pe->M T:=(hW (gO (hW (gO (gP 0) (gO (gP 2) (gO (gP 1) gR))) (jt c)) (gO (gP 1) gR)) (iP c))
def uY(c:Cs)(a:List T->M T):Pe->M T:=(Cg (lC qq (gO (gP 0) gR)))
def B8(c:Cs)(a:List T->M T):Pe->M T:=(mC (gO (gP 0) (gO (hW (gO (gP 2) (gO (gP 3) (gO (gP 1) gR))) (lH c)) gR)))
def Dd(c:Cs)(a:List T->M T):En->O:=(iw (setO 2 (kn (jC (lM [none,none] (nq (gO (jY (gP 1) (λ_=>.ok none) (iW (rW (λi=>.int (-i)) (cM (.int 1))))) gR)) (mT 2 (iN (km 0) (iN (km 1) mP))) (jL (ik (iY true) (gP 1) (cM (.int 0)))) (uF c a)))))
  (iw (pP (jL (ik (iY false) (gP 2) (jC (lstM gR)))) (oJ (lstM gR)) jx)
  (iw (setO 3 (kn (ik kW (gP 2) (cM (.int 0)))))
  (iw (setO 4 (kn (jC (lM [none,some 3,some 1] (jP (gP 0)) (km 0) (λ_=>.ok true) (t9 c a)))))
  (iw (pP (jL (lC qq (gO (jC (lM [none] (jP (gP 4)) (km 0) (λ_=>.ok true) (uY c a))) gR))) (oJ (lstM gR)) jx)
  (oJ (lM [none,none,some 1,some 3] (jP (hW (gO (gP 4) (gO (ik wK (lC l6 (gO (gP 1) gR)) (cM (.int 2))) gR)) a)) (mT 2 (iN (km 0) (iN (km 1) mP))) (λ_=>.ok true) (B8 c a))))))))
def mm(c:Cs)(a:List T->M T):List T->M (List T):=xw 2 5 (Dd c a)
def mW(c:Cs)(a:List T->M T):En->O:=(uI 4 (kn (mC (gO (ik jl (gP 5) (mC (gO (gP 7) gR))) (gO (hW (gO (gP 1) (gO (gP 2) (gO (ik Nz (gP 3) (gP 5)) (gO (gP 7) gR)))) (kL c)) gR)))))
def pZ(c:Cs)(a:List T->M T):En->O:=(pP (jL (ik (E7 false) (gP 5) (gP 3))) (sr (jP (mC (gO (rW (λi=>.int (-i)) (cM (.int 1))) (gO (cM (.int 1)) gR)))) (mH 7) (mW c a)) (uI 4 (kn (mC (gO (ik jl (gP 5) (mC (gO (hW (gO (hW (gO (gP 2) (gO (gP 6) gR)) (kD c)) gR) (lq c)) gR))) (gO (gP 6) gR))))))
def wG(c:Cs)(a:List T->M T):En->O:=(iw (setO 3 (kn (lC DB (gO (jC (i8 (gO (gP 1) (gO (gP 2) gR)) (mm c a))) gR))))
  (iw (pD 4 (sv (lstM gR)))
  (iw (sr (jP (gP 0)) (mJ 2 (iZ (mH 5) (iZ (mH 6) mK))) (pZ c a))
  (rX 4))))
def k9(c:Cs)(a:List T->M T):List T->M (List T):=xw 3 8 (wG c a)
def Ep(c:Cs)(a:List T->M T):En->O:=(setO 2 (kn (jC (i8 (gO (gP 2) (gO (jY (gP 0) (λ_=>.ok none) (iW (gP 3))) (gO (gP 4) gR))) (k9 c a)))))
def N4(c:Cs)(a:List T->M T):En->O:=(iw (setO 2 (kn (jC (lstM (gO (mC (gO (mC gR) (gO (ik jl (MW (mC (gO (cM (.int 0)) gR)) (gP 1)) (mC (gO (cM (.int 1)) gR))) gR))) gR)))))
  (iw (sr (nq (gO (gP 0) gR)) (mJ 2 (iZ (mH 3) (iZ (mH 4) mK))) (Ep c a))
  (jw (gP 2))))
def kR(c:Cs):Nat->List T->M T
 |0=>λ_=>.bad
 |k+1=>nY 2 5 (N4 c (kR c k))
def wM(c:Cs):Pe->M T:=(gP 0)
def yN(c:Cs):En->O:=(iw (setO 2 (kn (jC (pI c.Cutting "cuts" (mx c.Cutting "without" (gP 0) (gO (gP 1) gR) (iK c)) gR (iI c)))))
  (oJ (lM [none,none] (jP (jC (i8 (gO (gP 2) (gO (ik kW (jC (pI c.Cutting "cuts" (gP 0) gR (iI c))) (gP 1)) gR)) (mm c (kR c 5))))) (mT 2 (iN (km 0) (iN (km 1) mP))) (λ_=>.ok true) (wM c))))
def yG(c:Cs):List T->M (List T):=xw 2 3 (yN c)
def Fx(c:Cs):Pe->M T:=(ik kW (gP 1) (gP 0))
def yw(c:Cs):Pe->M T:=(lC qq (gO (gP 0) gR))
def xW(c:Cs):Pe->M T:=(gP 0)
def HW(c:Cs):En->O:=(iw (setO 3 (kn (hW (gO (jC (lM [none,some 0] (jP (gP 2)) (km 0) (λ_=>.ok true) (Fx c))) (gO (gP 1) gR)) (jX c))))
  (iw (pP (jL (lC qq (gO (jC (lM [none] (jP (ik kW (gP 3) (cM (.int 1)))) (km 0) (λ_=>.ok true) (yw c))) gR))) (jw (cM .non)) jx)
  (iw (setO 4 (kn (ik kW (gP 3) (cM (.int 0)))))
  (iw (setO 5 (kn (jC (lM [none,none,some 4] (nq (gO (gP 0) gR)) (mT 2 (iN (km 0) (iN (km 1) mP))) (qC (jL (lC qq (gO (hW (gO (gP 1) (gO (gP 2) gR)) (lr c)) gR)))) (xW c)))))
  (jw (mC (gO (ik wK (gP 1) (lC l6 (gO (gP 4) gR))) (gO (lC l0 (gO (gP 5) gR)) gR))))))))
def ku(c:Cs):List T->M T:=nY 3 6 (HW c)
def PZ(c:Cs):En->O:=(iw (setO 1 (kn (jC (pI c.Cutting "cuts" (gP 0) gR (iI c)))))
  (iw (setO 2 (kn (mx c.Cutting "dims" (gP 0) gR (iJ c))))
  (λa=>if a.length=7 then IG (hW (gO (gP 1) (gO (gP 2) (gO (jC (lstM gR)) gR))) (ku c)) (hW (gO (gP 1) (gO (gP 2) (gO (ik jl (ik kW (gP 5) (cM (.int 1))) (mC (gO (gP 4) gR))) gR))) (ku c)) (nr (gO (lC l6 (gO (gP 1) gR)) gR)) 3 4 5 6 a else .bad)))
def qo(c:Cs):List T->M (List T):=xw 1 7 (PZ c)
def uJ(c:Cs):Pe->M T:=(ik wK (hW (gO (gP 2) (gO (ik jl (ik jl (cM (.int 4)) (ik mF (cM (.int 4)) (gP 3))) (gP 0)) (gO (ik jl (ik mF (cM (.int 2)) (gP 1)) (cM (.int 1))) gR))) (iE c)) (gP 1))
def uf(c:Cs):Pe->M T:=(ik jl (gP 0) (ik mF (gP 2) (gP 1)))
def Ec(c:Cs):En->O:=(iw (setO 4 (kn (ik kW (jC (lstM (gO (cM (.int 1)) (gO (cM (.int 2)) (gO (cM (.int 3)) (gO (cM (.int 5)) (gO (cM (.int 1000)) gR))))))) (hW (gO (gP 0) (gO (cM (.int 2)) (gO (cM (.int 5)) gR))) (iE c)))))
  (iw (pD 5 (sv (lM [none,some 4,some 0,some 1] (nr (gO (ik jl (gP 2) (cM (.int 1))) gR)) (km 0) (λ_=>.ok true) (uJ c))))
  (iw (setO 6 (kn (hW (gO (gP 0) (gO (ik jl (cM (.int 40)) (gP 1)) (gO (cM (.int 6)) gR))) (iE c))))
  (iw (pP (zE (jL (ik (iY false) (gP 6) (cM (.int 1)))) (jL (ik (iY true) (gP 3) (jC (lstM gR))))) (pD 5 (yV (yh (jC (LN rj (gO (jY (ik kW (gP 3) (hW (gO (gP 0) (gO (ik jl (cM (.int 50)) (gP 1)) (gO (lC l6 (gO (gP 3) gR)) gR))) (iE c))) (λ_=>.ok none) (iW (gP 2))) gR))) (jY (gP 5) (iW (gP 2)) (λ_=>.ok none))))) jx)
  (iw (pP (jL (ik (iY false) (gP 6) (cM (.int 2)))) (zG 5 (wA (gP 2)) (wA (cM (.int 0)))) jx)
  (iw (pP (zE (jL (ik (iY false) (gP 6) (cM (.int 3)))) (jL (ik Ub (lC l6 (gO (gP 3) gR)) (cM (.int 1))))) (iw (setO 7 (kn (ik kW (gP 3) (hW (gO (gP 0) (gO (ik jl (cM (.int 50)) (gP 1)) (gO (ik wK (lC l6 (gO (gP 3) gR)) (cM (.int 1))) gR))) (iE c)))))
  (iw (setO 8 (kn (ik jl (cM (.int 1)) (hW (gO (gP 0) (gO (ik jl (cM (.int 60)) (gP 1)) (gO (cM (.int 3)) gR))) (iE c)))))
  (pD 5 (sv (lM [none,none,some 8] (nG (gO (ik kW (gP 3) (rW (λi=>.int (-i)) (cM (.int 1)))) (gO (gP 7) gR))) (mT 2 (iN (km 0) (iN (km 1) mP))) (λ_=>.ok true) (uf c)))))) jx)
  (iw (pP (jL (ik (iY false) (jY (gP 5) (λ_=>.ok none) (iW (gP 2))) (jC (IM (jC (lstM (gO (cM (.int 0)) gR))) (gP 2))))) (zG 5 (wA (hW (gO (gP 0) (gO (ik jl (cM (.int 60)) (gP 1)) (gO (gP 2) gR))) (iE c))) (wA (cM (.int 1)))) jx)
  (jw (lC l0 (gO (gP 5) gR))))))))))
def lE(c:Cs):List T->M T:=nY 4 9 (Ec c)
def om(c:Cs):Pe->M T:=(gP 0)
def qZ(c:Cs):En->O:=(iw (setO 5 (wA (hW (gO (gP 0) (gO (gP 4) (gO (gP 2) (gO (gP 3) gR)))) (lE c))))
  (pP (jL (ik (iY false) (jC (lM [none,some 5] (jP (gP 3)) (km 0) (jL (hW (gO (gP 0) (gO (gP 1) gR)) (l8 c))) (om c))) (jC (lstM gR)))) (uI 3 (kn (gP 5))) jx))
def zN(c:Cs):En->O:=(iw (setO 2 (kn (ik kW (jC (lstM (gO (cM (.int 1)) (gO (cM (.int 2)) (gO (cM (.int 2)) (gO (cM (.int 3)) (gO (cM (.int 3)) gR))))))) (hW (gO (gP 0) (gO (cM (.int 0)) (gO (cM (.int 5)) gR))) (iE c)))))
  (iw (pD 3 (sv (lstM gR)))
  (iw (wq (nr (gO (hW (gO (gP 0) (gO (cM (.int 1)) (gO (ik jl (gP 1) (cM (.int 1))) gR))) (iE c)) gR)) (mH 4) (qZ c))
  (jw (mC (gO (gP 2) (gO (gP 3) gR)))))))
def lj(c:Cs):List T->M T:=nY 2 6 (zN c)
def Fy(c:Cs):Pe->M T:=(ik (HJ false) (gP 0) (ik kW (gP 1) (cM (.int 1))))
def IQ(c:Cs):En->O:=(jw (lC zA (gO (jC (lM [none,some 0] (jP (ik kW (gP 1) (cM (.int 1)))) (km 0) (λ_=>.ok true) (Fy c))) gR)))
def nX(c:Cs):List T->M T:=nY 2 2 (IQ c)
def nH(c:Cs):Pe->M T:=(gP 1)
def nJ(c:Cs):En->O:=(iw (He 3 (yV (lM [none,none,some 2] (nG (gO (gP 0) (gO (gP 1) gR))) (mT 2 (iN (km 0) (iN (km 1) mP))) (jL (hW (gO (gP 2) (gO (gP 0) gR)) (nX c))) (nH c))))
  (uI 1 (kn (rW (λi=>.int (-i)) (lC FH (gO (gP 3) gR))))))
def sZ(c:Cs):En->O:=(iw (pD 1 (sv (lstM (gO (cM (.int 1)) gR))))
  (iw (sr (jP (jY (gP 0) (iW (cM (.int 1))) (λ_=>.ok none))) (mH 2) (nJ c))
  (rX 1)))
def iF(c:Cs):List T->M (List T):=xw 1 4 (sZ c)
def yS(c:Cs):En->O:=(oJ (i8 (gO (jC (i8 (gO (gP 0) gR) (qo c))) gR) (iF c)))
def kH(c:Cs):List T->M (List T):=xw 1 1 (yS c)
def wm(c:Cs):En->O:=(zG 1 (wA (ik kW (gP 3) (cM (.int 0)))) (wA (ik jl (ik kW (gP 1) (ik kW (gP 3) (cM (.int 0)))) (gP 4))))
def Ew(c:Cs):En->O:=(iw (pD 1 (sv (IM (jC (lstM (gO (cM (.int 0)) gR))) (ik jl (mx c.Cutting "dims" (gP 0) gR (iJ c)) (cM (.int 1))))))
  (iw (setO 2 (kn (jC (i8 (gO (gP 0) gR) (qo c)))))
  (iw (sr (nG (gO (gP 2) (gO (jC (i8 (gO (gP 2) gR) (iF c))) gR))) (mJ 2 (iZ (mH 3) (iZ (mH 4) mK))) (wm c))
  (rX 1))))
def jM(c:Cs):List T->M (List T):=xw 1 5 (Ew c)
def oV(c:Cs):Pe->M T:=(lC wU (gO (gP 0) gR))
def vJ(c:Cs):En->O:=(jw (lC FH (gO (jC (lM [none] (jP (jC (i8 (gO (gP 0) gR) (kH c)))) (km 0) (λ_=>.ok true) (oV c))) gR)))
def iS(c:Cs):List T->M T:=nY 1 1 (vJ c)
def IL(c:Cs):En->O:=(iw (setO 2 (kn (hW (gO (gP 0) gR) (jT c))))
  (jw (hW (gO (hW (gO (hW (gO (gP 1) (gO (gP 0) (gO (gP 2) gR))) (jt c)) (gO (gP 2) gR)) (iP c)) gR) (kZ c))))
def mQ(c:Cs):List T->M T:=nY 2 3 (IL c)
def qc(c:Cs):En->O:=(pP (jL (hW (gO (gP 3) (gO (gP 1) gR)) (kc c))) (jw (gP 2)) jx)
def wR(c:Cs):En->O:=(iw (sr (nq (gO (gP 0) gR)) (mJ 2 (iZ (mH 2) (iZ (mH 3) mK))) (qc c))
  (jw (cM .non)))
def j5(c:Cs):List T->M T:=nY 2 4 (wR c)
def yF(c:Cs)(a:List T->M T):Pe->M T:=(gP 0)
def yB(c:Cs)(a:List T->M T):Pe->M T:=(hW (gO (hW (gO (gP 0) (gO (gP 2) (gO (gP 1) gR))) (jt c)) (gO (gP 1) gR)) (iP c))
def yu(c:Cs)(a:List T->M T):Pe->M T:=(Cg (lC qq (gO (gP 0) gR)))
def xJ(c:Cs)(a:List T->M T):Pe->M T:=(mC (gO (gP 0) (gO (hW (gO (gP 2) (gO (gP 3) (gO (gP 1) gR))) (lH c)) gR)))
def zP(c:Cs)(a:List T->M T):En->O:=(iw (setO 2 (kn (jC (lM [none,none] (nq (gO (jY (gP 1) (λ_=>.ok none) (iW (rW (λi=>.int (-i)) (cM (.int 1))))) gR)) (mT 2 (iN (km 0) (iN (km 1) mP))) (jL (ik (iY true) (gP 1) (cM (.int 0)))) (yF c a)))))
  (iw (pP (jL (ik (iY false) (gP 2) (jC (lstM gR)))) (oJ (lstM gR)) jx)
  (iw (setO 3 (kn (ik kW (gP 2) (cM (.int 0)))))
  (iw (setO 4 (kn (jC (lM [none,some 3,some 1] (jP (gP 0)) (km 0) (λ_=>.ok true) (yB c a)))))
  (iw (pP (jL (lC qq (gO (jC (lM [none] (jP (gP 4)) (km 0) (λ_=>.ok true) (yu c a))) gR))) (oJ (lstM gR)) jx)
  (oJ (lM [none,none,some 1,some 3] (jP (hW (gO (gP 4) (gO (ik wK (lC l6 (gO (gP 1) gR)) (cM (.int 2))) gR)) a)) (mT 2 (iN (km 0) (iN (km 1) mP))) (λ_=>.ok true) (xJ c a))))))))
def lU(c:Cs)(a:List T->M T):List T->M (List T):=xw 2 5 (zP c a)
def uL(c:Cs):Pe->M T:=(gP 0)
def vK(c:Cs):En->O:=(iw (setO 2 (kn (jC (pI c.Cutting "cuts" (mx c.Cutting "without" (gP 0) (gO (gP 1) gR) (iK c)) gR (iI c)))))
  (oJ (lM [none,none] (jP (jC (i8 (gO (gP 2) (gO (ik kW (jC (pI c.Cutting "cuts" (gP 0) gR (iI c))) (gP 1)) gR)) (lU c (kR c 5))))) (mT 2 (iN (km 0) (iN (km 1) mP))) (λ_=>.ok true) (uL c))))
def jy(c:Cs):List T->M (List T):=xw 2 3 (vK c)
def zh(c:Cs):En->List (List T)->sj:=(DU (sH 5 (setO 8 (kn (hW (gO (ik kW (gP 3) (gP 1)) (gO (gP 7) gR)) (mQ c)))))
  (NV (jL (hW (gO (gP 2) (gO (gP 8) gR)) (mB c))) (DU (sH 5 (setO 9 (wA (hW (gO (gP 4) (gO (gP 8) gR)) (j5 c)))))
  (NV (jL (ik (FD false) (gP 9) (cM .non))) (DU (sH 5 (uI 4 (kn (gP 8))))
  (Ay (lstM (gO (gP 6) gR)))) (AE (gP 9) (gP 6)))) KC))
def NR(c:Cs):En->O:=(iw (setO 2 (kn (ik wK (mx c.Cutting "dims" (gP 0) gR (iJ c)) (cM (.int 1)))))
  (iw (pP (Jd (jL (ik (iY false) (gP 2) (cM (.int 0)))) (qC (jL (hW (gO (gP 1) (gO (mx c.Cutting "many" (gP 0) gR (kx c)) gR)) (jr c))))) (λ_=>.bad) jx)
  (iw (setO 3 (kn (jC (pI c.Cutting "cuts" (gP 0) gR (iI c)))))
  (iw (pD 4 (sv (lstM gR)))
  (iw (pD 5 (sv (lstM gR)))
  (iw (Ai (nq (gO (gP 3) gR)) 5 (mJ 2 (iZ (mH 6) (iZ (mH 7) mK))) (zh c))
  (jw (mC (gO (hW (gO (gP 2) (gO (gP 4) gR)) (ja c)) (gO (gP 5) gR))))))))))
def rO(c:Cs):List T->M T:=nY 2 10 (NR c)
def qR(c:Cs):Pe->M T:=(ik wK (gP 0) (gP 1))
def zB(c:Cs):En->O:=(iw (setO 2 (kn (mx c.Cutting "without" (gP 0) (gO (gP 1) gR) (iK c))))
  (iw (pP (jL (ik (iY false) (mx c.Cutting "dims" (gP 0) gR (iJ c)) (cM (.int 1)))) (jw (zM (ik (iY false) (hW (gO (gP 0) gR) (iS c)) (ik jl (hW (gO (gP 2) gR) (iS c)) (cM (.int 1)))) (ik (iY false) (lC l6 (gO (jC (i8 (gO (gP 0) (gO (gP 1) gR)) (jy c))) gR)) (cM (.int 1))))) jx)
  (iw (setO 3 (kn (ik kW (hW (gO (gP 0) (gO (gP 1) gR)) (rO c)) (cM (.int 0)))))
  (iw (setO 4 (kn (jC (lM [none,none] (nG (gO (jC (i8 (gO (gP 2) gR) (jM c))) (gO (jC (yh (jC (i8 (gO (gP 3) gR) (jM c))) (jC (lstM (gO (cM (.int 0)) gR))))) gR))) (mT 2 (iN (km 0) (iN (km 1) mP))) (λ_=>.ok true) (qR c)))))
  (iw (pP (Jd (jL (ik (iY true) (jC (i8 (gO (gP 0) gR) (jM c))) (gP 4))) (jL (ik (iY true) (hW (gO (gP 0) gR) (iS c)) (ik jl (hW (gO (gP 2) gR) (iS c)) (hW (gO (gP 3) gR) (iS c)))))) (jw (cM (.bl false))) jx)
  (jw (ik (iY false) (lC l6 (gO (jC (i8 (gO (gP 0) (gO (gP 1) gR)) (jy c))) gR)) (hW (gO (gP 3) gR) (iS c)))))))))
def lX(c:Cs):List T->M T:=nY 2 5 (zB c)
def AL(c:Cs):Pe->M T:=(hW (gO (hW (gO (gP 1) (gO (gP 0) gR)) (jU c)) (gO (cM (.int 5)) gR)) (lj c))
def AV(c:Cs):Pe->M T:=(hW (gO (gP 1) (gO (gP 0) gR)) (lX c))
def AG(c:Cs):En->O:=(iw (setO 4 (kn (hW (gO (gP 2) (gO (jC (LN rj (gO (gP 3) gR))) gR)) (ja c))))
  (pP (qC (jL (lC zA (gO (jC (lM [none,some 4] (nr (gO (lC l6 (gO (gP 3) gR)) gR)) (km 0) (λ_=>.ok true) (AV c))) gR)))) (jw (cM (.bl false))) jx))
def KB(c:Cs):En->O:=(iw (setO 1 (kn (jC (lM [none,some 0] (nr (gO (cM (.int 2)) gR)) (km 0) (λ_=>.ok true) (AL c)))))
  (iw (sr (jP (ik jl (gP 1) (jY (gP 1) (λ_=>.ok none) (iW (cM (.int 1)))))) (mJ 2 (iZ (mH 2) (iZ (mH 3) mK))) (AG c))
  (jw (cM (.bl true)))))
def uO(c:Cs):List T->M T:=nY 1 5 (KB c)
variable {c:Cs}
def Fu ns (k:Nat):∃v,jU c [.scr ns,.int k]=.ok (.int v)/\(v=0\/v∈ns):=by
 by_cases h:(k:Int)<ns.length
 .obtain⟨a,e,b⟩:=BC ns k (by omega) h;exact⟨a,by simp[jU,pJ,h,e],.inr b⟩
 .exact⟨0,by simp[jU,pJ,h],.inl rfl⟩
def mh(h:i.natAbs<2 ^ 64):mF (.int i) (.int j)=.ok (.int (i*j)):=ke (Jo h)
def Pn cell (k:Nat) b (z:0<b) (E:b<2 ^ 62) (I:k<=1000000):∃d,iE c [.int cell,.int (k:Int),.int b]=.ok (.int d)/\0<=d/\d<b:=by
 have f:b≠0:=by omega
 have A:∀x:Int,0<=x.fmod b/\x.fmod b<b:=λx=>⟨dm x z,du x z⟩;have l:QD (.int 10) (.int 18)=.ok (.int 1000000000000000000):=by simp[QD,mv]
 by_cases h:(1000000000000000000:Int)<=cell
 .obtain⟨r,e,v,w,rfl⟩:=lg (m:=mH 4) (g:=setO 3 (kn (ik uH (gP 3) (gP 2)))) (λ(i:Nat)=>T.int (i:Int)) (λ_ r=>∃v w,r=[some (.p (.int cell)),some (.p (.int k)),some (.p (.int b)),some (.p (.int v)),w,none])
   (List.range k) 0 [some (.p (.int cell)),some (.p (.int k)),some (.p (.int b)),some (.p (.int cell)),none,none] ⟨_,_,rfl⟩ (by rintro i a r K ⟨v,w,rfl⟩;have H:Builtin.divisionGoesByPylong v b=false:=Bn.noPy (n:=62) (by unfold Bn;omega) (by decide);exact⟨_,_,rfl,.inl (ig (by simp[qT f H];rfl) rfl),_,_,rfl⟩)
  refine⟨v.fmod b,iQ rfl ?_,A v⟩;have s:FB (k:Int)=true:=nV (by omega);refine l5 (jO (by simp[l,h]) (gW (ig (by simp) rfl) (gW (sf (by simp[s,S7]) e) (iA (by simp[uU f]))))) rfl
 .have q:∀x y:Int,0<y->0<=x.fmod y/\x.fmod y<y:=λx y B=>⟨dm x B,du x B⟩;have J:=q cell 1000000007 (by decide);have F:=q ((cell.fmod 1000000007+1009*k+17)*69621) 2147483647 (by decide);generalize o:((cell.fmod 1000000007+1009*k+17)*69621).fmod 2147483647=s1 at F;have C:=q (s1*s1+40503*k+5) 2147483629 (by decide);generalize u:(s1*s1+40503*k+5).fmod 2147483629=s2 at C;have D:Builtin.divisionGoesByPylong ((s2*48271).fmod 2147483647) 32=false:=Bn.noPy (n:=62) (by unfold Bn;decide) (by decide);refine⟨(((s2*48271).fmod 2147483647).fdiv 32).fmod b,iQ rfl ?_,A _⟩;refine gW (jV (by simp[l,h]) rfl) (gW (ig (t:=.int s1) ?_ rfl) (gW (ig (t:=.int s2) ?_ rfl) (iA ?_)))
  .rw[<-o];simp[uU,mh (i:=1009) (j:=k) (by decide),mh (i:=cell.fmod 1000000007+1009*k+17) (j:=69621) (by omega)]
  .rw[<-u];simp[uU,mh (i:=40503) (j:=k) (by decide),mh (i:=s1) (j:=s1) (by omega)]
  .simp[uU,f,qT (j:=32) (by decide) D,mh (i:=s2) (j:=48271) (by omega)]
def dr(c:Cs)(a k b:Int):Int:=match iE c [.int a,.int k,.int b] with
 |.ok (.int d)=>d
 |_=>0
def m5 cell k b (f:0<b) (a:b<2 ^ 62) (g:0<=k) (j:k<=1000000):iE c [.int cell,.int k,.int b]=.ok (.int (dr c cell k b))/\0<=dr c cell k b/\dr c cell k b<b:=by
 obtain⟨d,e,i,h⟩:=Pn cell k.toNat b f a (by omega);rw[cS g]at e;have:dr c cell k b=d:=by unfold dr;rw[e]
 rw[this];exact⟨e,i,h⟩
def Hx(l:LI)(i:Int)(d:0<=i)(f:i<l.length):∃w,kW (.lst (l.map T.int)) (.int i)=.ok (.int w)/\w∈l:=by obtain⟨a,e,b⟩:=BC l i d f;exact⟨a,by simp[qF,e],b⟩
def TB i:(if i<0 then -i else i)=(i.natAbs:Int):=by split<;>omega
def oX a b:jA c [.int a,.int b]=.ok (.int (Cu.G a b)):=by
 obtain⟨d,e,x,w,rfl,i⟩:=qm (c:=jL (ik (iY true) (gP 1) (cM (.int 0)))) (g:=iw (setO 2 (kn (ik yL (gP 0) (gP 1)))) (iw (setO 0 (kn (gP 1))) (setO 1 (kn (gP 2)))))
  (λd=>∃x y w,d=[some (.p (.int x)),some (.p (.int y)),w]/\Cu.G x y=Cu.G a b) (λd=>match d with|_::some (.p (.int j))::_=>j.natAbs|_=>0)
  (λd=>∃x w,d=[some (.p (.int x)),some (.p (.int 0)),w]/\Cu.G x 0=Cu.G a b) (by
   rintro d ⟨x,y,w,rfl,h⟩;by_cases f:y=0
   .subst f;exact .inl ⟨by simp,_,_,rfl,h⟩
   .refine .inr ⟨by simp[f],_,.inl (gW (ig (t:=.int (x.fmod y)) (by simp[uU f]) rfl) (gW (ig (by simp) rfl) (ig (by simp) rfl))),⟨y,x.fmod y,_,rfl,?_⟩,?_⟩
    .rw[<-h];exact Cu.Ry x y
    .exact Cu.HM x y f)
  (b.natAbs+1) [some (.p (.int a)),some (.p (.int b)),none] ⟨a,b,none,rfl,rfl⟩ (bJ _)
 refine iQ rfl (gW e (iA ?_));rw[Cu.Gi]at i;simp[TB,i]
def Hi{t g:Int}(b:g ∣ t)(a:g≠0):(t.fdiv g).natAbs<=t.natAbs:=by obtain⟨k,rfl⟩:=b;rw[d6 k a,aZ];exact Nat.le_mul_of_pos_left _ (by omega)
noncomputable def Uc:T->Bool
 |.scr _=>false
 |.obj _ _=>false
 |.dic _=>false
 |_=>true
noncomputable def isInt:T->Bool
 |.int _=>true
 |_=>false
def DO x (h:Uc x=true):jK c [x]=.ok (.bl (isInt x)):=by cases x<;>first|(simp[Uc]at h;done)|rfl
def Qc x (h:Uc x=true):RO "tuple" x=.ok (.bl (ud x)):=by cases x<;>first|(simp[Uc]at h;done)|rfl
noncomputable def kX(x:Int):Int:=if 0<x then 1 else if x<0 then -1 else 0
def v9 x:-1<=kX x/\kX x<=1:=by unfold kX;split<;>(try split)<;>lia
def tH x:lq c [.int x]=.ok (.int (kX x)):=by
 unfold kX;by_cases h:0<x
 .rw[aR h];exact iQ rfl (l5 (jO (by simp[h]) (iA (by simp))) rfl)
 .rw[aS h];by_cases a:x<0
  .rw[aR a];exact iQ rfl (gW (jV (by simp[h]) rfl) (l5 (jO (by simp[a]) (iA (by simp))) rfl))
  .rw[aS a];exact iQ rfl (gW (jV (by simp[h]) rfl) (gW (jV (by simp[a]) rfl) (iA (by simp))))
def rY(bs:List Bool):zA [.lst (bs.map T.bl)]=.ok (.bl (bs.all id)):=by simp
def xq(bs:List Bool):qq [.lst (bs.map T.bl)]=.ok (.bl (bs.any id)):=by simp
noncomputable def sx(d:Nat):T->Bool
 |.tup ts=>decide (ts.length=d+1)&&ts.all isInt&&(match kj ts with|some ns=>(ns.take d).any (· != 0)|none=>false)
 |_=>false
theorem Ej:∀ts,ts.all isInt=true->∃a:LI,ts=a.map T.int
 |[],_=>⟨[],rfl⟩
 |t::ts,h=>by
  rw[bW,bU]at h;obtain⟨a,e⟩:=Ej ts h.2;cases t with
  |int i=>exact⟨i::a,by rw[e];rfl⟩
  |_=>simp[isInt]at h
def AZ(d:Nat)(r:d<=10) x (m:Uc x=true) (l:∀ts,x=.tup ts->ts.length<1000/\∀t∈ts,Uc t=true):mB c [.int d,x]=.ok (.bl (sx d x)):=by
 have sz:1000<sizeLine:=by decide
 by_cases e:ud x=true
 .cases x with
  |tup ts=>
   obtain⟨q,o⟩:=l ts rfl;by_cases g:ts.length=d+1
   .have i:lM [none] (jP (gP 1)) (km 0) (λ_=>.ok true) (vR c) (vw (iX 2 [.int d,.tup ts]))=.ok ((ts.map isInt).map T.bl):=by rw[BM ts id (λt=>T.bl (isInt t)) (by simp) (by lia) λt e=>⟨_,rfl,rfl,by simp[vR,DO t (o t e)]⟩];simp
    have j:(L3.Jd (L3.qC (jL (BS "tuple" (gP 1)))) (jL (ik (iY true) (lC l6 (gO (gP 1) gR)) (ik jl (gP 0) (cM (.int 1)))))) (vw (iX 2 [.int d,.tup ts]))=.ok false:=by simp[g]
    by_cases f:ts.all isInt=true
    .obtain⟨b,rfl⟩:=Ej ts f;have h:b.length=d+1:=by simpa using g
     have a:sx d (.tup (b.map T.int))=(b.take d).any (· != 0):=by simp[sx,h,f]
     rw[a];have k:lM [none] (jP (jY (gP 1) (λ_=>.ok none) (iW (gP 0)))) (km 0) (λ_=>.ok true) (vz c) (vw (iX 2 [.int d,.tup (b.map T.int)]))=.ok (((b.take d).map λn=>n != 0).map T.bl):=by rw[BM (b.take d) T.int (λn=>T.bl (n != 0)) (DJ (by rw[dF];exact rL rfl rfl (by simp;lia))) (by simp;lia) λn g=>⟨_,rfl,rfl,by simp[vz,bne]⟩];rw[aJ];rfl
     refine iQ rfl (gW (jV j rfl) (gW (jV (tU (iH (qh i (rY _))) ?_) rfl) (iA (qh k ?_))))
     .rw[cJ];simpa using f
     .rw[xq,cK];rfl
    .have a:sx d (.tup ts)=false:=by simp[sx,f]
     rw[a];refine iQ rfl (gW (jV j rfl) (l5 (jO (tU (iH (qh i (rY _))) ?_) (iA rfl)) rfl));rw[cJ];simpa using f
   .have a:sx d (.tup ts)=false:=by simp[sx,g]
    rw[a];refine iQ rfl (l5 (jO ?_ (iA rfl)) rfl);have:¬(ts.length=(d:Int)+1):=by lia
    simp[this]
  |_=>simp[ud]at e
 .have a:sx d x=false:=by cases x<;>first|rfl|(simp[ud]at e;done)
  rw[a];refine iQ rfl (l5 (jO ?_ (iA rfl)) rfl);have p:ud x=false:=by simpa using e
  have:=Qc x m;rw[p]at this;simp only[L3.Jd,L3.qC,jL,BS,gP,vw,iX,bH,cn,dX,cj,List.getElem?_cons_succ,List.getElem?_cons_zero,WR,M.bind_ok,this];rfl
def KO(l:List α)(h:l≠[]):rV l (-1)=l.getLast?:=by obtain⟨m,a,rfl⟩:∃m a,l=m++[a]:=⟨l.dropLast,l.getLast h,(List.dropLast_concat_getLast h).symm⟩;rw[L2.KN];simp
def Fg(d:Nat)(h:1<=d/\d<=3):nZ c [.int d]=.ok (.bl true):=by
 have w:jK c [.int d]=.ok (.bl true):=rfl;have b:(1:Int)<=d:=by lia
 have a:(d:Int)<=3:=by lia
 exact iQ rfl (iA (by simp[w,b,a]))
def VD n:(List.replicate n [T.int 0]).flatten=(List.replicate n (0:Int)).map T.int:=by
 induction n with
 |zero=>rfl
 |succ n ih=>rw[bY,bZ,ih,bY];rfl
def QQ(n:Nat)(d:n<=1000)(h:f ρ=.ok (.int (n:Int))):jC (IM (jC (lstM (gO (cM (.int 0)) gR))) f) ρ=.ok (.lst ((List.replicate n (0:Int)).map T.int)):=by
 have sz:1000<sizeLine:=by decide
 have hr:FB n=true:=nV (by lia);have b:1<=sizeLine:=by decide
 have a:n<=sizeLine:=by lia
 simp[h,hr,b,a,VD]
def Vv(n:Nat)(d:n<=1000)(h:f ρ=.ok (.int (n:Int))):MW (mC (gO (cM (.int 0)) gR)) f ρ=.ok (.tup ((List.replicate n (0:Int)).map T.int)):=by
 have sz:1000<sizeLine:=by decide
 have hr:FB n=true:=nV (by lia);have b:1<=sizeLine:=by decide
 have a:n<=sizeLine:=by lia
 simp[h,CD,hr,b,a,VD]
end CL
namespace L3
open PySem L2
theorem tM{n:Type} enc (P:En->Prop) p t:∀(l:List n) (ρ:En),P ρ->
  (∀a∈l,∀ρ,P ρ->∃d,m (enc a) ρ=some d/\(p a=true->∃c,g d=.nx c/\P c)/\(p a=false->g d=.rt t))->
  (l.all p=true->∃ρ',kM m g (l.map enc) ρ=.nx ρ'/\P ρ')/\(l.all p=false->kM m g (l.map enc) ρ=.rt t)
 |[],ρ,h,_=>⟨λ_=>⟨ρ,rfl,h⟩,λh=>by simp at h⟩
 |a::l,ρ,h,st=>by
  obtain⟨d,i,s,o⟩:=st a (by simp) ρ h;rw[bH,kM,i];dsimp only;cases e:p a with
  |true=>obtain⟨c,f,r⟩:=s e;rw[f];have k:=tM enc P p t l c r λb j ρ q=>st b (by simp[j]) ρ q;rw[bW,e,Bool.true_and];exact k
  |false=>rw[o e,bW,e,Bool.false_and];exact⟨λz=>(by cases z),λ_=>rfl⟩
end L3
namespace CL
open PySem L2 L3
variable {c:Cs}
def Sm:Bn (n+1) 1:=by unfold Bn;rw[dJ];have:=d7 n;lia
def wz ns:kj (ns.map T.int)=some ns:=by simp
def FC(a:LI):FH [.lst (a.map T.int)]=.ok (.int a.sum):=by simp
end CL
namespace L3
open PySem L2
theorem vb{o:Type} enc (P:Nat->En->Prop) (R:T->Prop):∀(l:List o) (k:Nat) (ρ:En),P k ρ->
  (∀i a ρ,l[i]? = some a->P (k+i) ρ->∃d,m (enc a) ρ=some d/\((∃c,g d=.nx c/\P (k+i+1) c)\/∃t,g d=.rt t/\R t))->
  (∃ρ',kM m g (l.map enc) ρ=.nx ρ'/\P (k+l.length) ρ')\/∃t,kM m g (l.map enc) ρ=.rt t/\R t
 |[],k,ρ,h,_=>.inl ⟨ρ,rfl,h⟩
 |a::l,k,ρ,h,st=>by
  obtain⟨d,j,q⟩:=st 0 a ρ rfl h;rw[bH,kM,j];dsimp only;rcases q with⟨c,e,f⟩|⟨t,e,f⟩
  .rw[e];rw[aA,show k+(l.length+1)=k+1+l.length by lia];exact vb enc P R l (k+1) c f λi b ρ n p=>by have:=st (i+1) b ρ (by simpa using n) (by rw[show k+(i+1)=k+1+i by lia];exact p);rw[show k+1+i+1=k+(i+1)+1 by lia];exact this
  .rw[e];exact .inr ⟨t,rfl,f⟩
end L3
namespace CL
open PySem L2 L3
variable {c:Cs}
def FX(l:List α)(k:Nat) h:rV l (k:Int)=some l[k]:=by unfold rV wL;rw[aR (by lia),aR (by lia)];simp[h]
def Qf(l:LI) k (h:k<l.length):rV l (k:Int)=some (l.getD k 0):=by rw[FX l k h,af,ag h];rfl
def getD_mem(l:LI) k (h:k<l.length):l.getD k 0∈l:=by rw[af,ag h];exact aW h
def lu l (k:Nat) (h:k<l.length):kW (tI l) (.int (k:Int))=.ok (.int (l.getD k 0)):=by simp[tI,qF,Qf l k h]
def Rj x xs:kW (.lst (x::xs)) (.int 0)=.ok x:=by have h:=FX (x::xs) 0 (by simp);have a:rV (x::xs) 0=some x:=h;show (match rV (x::xs) 0 with|some t=>M.ok t|none=>.bad)=_;rw[a]
def NK(a:Nat)(row b:LI):LI:=(b.zip row).map λp=>row.getD a 0*p.1-b.getD a 0*p.2
def xB a row here (h:row.length=here.length):(NK a row here).length=here.length:=by simp[NK,h]
def wF(b:List (Nat×LI))(a:LI):LI:=b.foldl (λh p=>NK p.1 p.2 h) a
def VF(f:f1 ρ=.ok a1)(e:f2 ρ=.ok a2)(d:f3 ρ=.ok a3)(g:f4 ρ=.ok a4)(a:f5 ρ=.ok a5):jC (lstM (gO f1 (gO f2 (gO f3 (gO f4 (gO f5 gR)))))) ρ=.ok (.lst [a1,a2,a3,a4,a5]):=by
 have b:5<=sizeLine:=by decide
 simp only[jC,lstM,gO,gR,f,e,d,g,a,M.bind_ok,DX,aA,cO,b,if_true]
def SE(f:fa ρ=.ok (.lst a))(d:fb ρ=.ok (.lst b))(e:a.length+b.length<=sizeLine):jC (yh fa fb) ρ=.ok (.lst (a++b)):=by simp only[jC,yh,f,d,M.bind_ok];rw[aR e];rfl
def WS n (x:T):(List.replicate n [x]).flatten=List.replicate n x:=by
 induction n with
 |zero=>rfl
 |succ n ih=>rw[bY,bZ,ih,bY];rfl
end CL
namespace CL
abbrev Vc:=Nat->Int
inductive Qs(P:Vc->Prop):Vc->Prop
 |of {x:Vc}:P x->Qs P x
 |zero:Qs P λ_=>0
 |lin {x y z:Vc} {s a b:Int}:Qs P x->Qs P y->s≠0->(∀i,s*z i=a*x i+b*y i)->Qs P z
def Qs.sub(h:∀x,P x->Qs P' x)(q:Qs P z):Qs P' z:=by
 induction q with
 |of p=>exact h _ p
 |zero=>exact .zero
 |lin _ _ s e i1 i2=>exact .lin i1 i2 s e
def Qs.mono(h:∀x,P x->P' x)(q:Qs P z):Qs P' z:=q.sub λx p=>.of (h x p)
def Qs.comb a b (c:Qs P x) (d:Qs P y):Qs P λi=>a*x i+b*y i:=.lin (s:=1) c d (by decide) λi=>by rw[d8]
def UK(P:Vc->Prop)(r:Vc):Vc->Prop:=λx=>P x\/x=r
def Qs.split(q:Qs (UK P r) z):∃s a y,s≠0/\Qs P y/\∀i,s*z i=y i+a*r i:=by
 induction q with
 |of p=>
  rename_i x;rcases p with p|rfl
  .exact⟨1,0,x,by decide,.of p,λi=>by rw[d8,d9,ee]⟩
  .exact⟨1,1,λ_=>0,by decide,.zero,λi=>by rw[eh]⟩
 |zero=>exact⟨1,0,λ_=>0,by decide,.zero,λi=>by simp⟩
 |lin _ _ hs e i1 i2=>
  rename_i x y z s a b _ _;obtain⟨c,g,j,u,o,l⟩:=i1;obtain⟨d,f,h,m,n,k⟩:=i2;refine⟨s*(c*d),a*d*g+b*c*f,_,eA hs (eA u m),o.comb (a*d) (b*c) n,λi=>?_⟩;calc s*(c*d)*z i=c*d*(s*z i):=by ac_rfl
   _=c*d*(a*x i+b*y i):=by rw[e]
   _=a*d*(c*x i)+b*c*(d*y i):=by rw[eB];ac_rfl
   _=a*d*(j i+g*r i)+b*c*(h i+f*r i):=by rw[l,k]
   _=a*d*j i+b*c*h i+(a*d*g+b*c*f)*r i:=by simp only[eB,Int.add_mul];ac_rfl
def Nd(P:Vc->Prop)(a:List Nat):Prop:=∀z,Qs P z->(∀p∈a,z p=0)->∀i,z i=0
def Nd.nil:Nd (λ_=>False) []:=λz q _=>by
 induction q with
 |of p=>exact p.elim
 |zero=>exact λ_=>rfl
 |lin _ _ hs e i1 i2=>
  intro i;have:=e i;rw[i1 (λp a=>nomatch a) i,i2 (λp a=>nomatch a) i,eE,eE,ee]at this;rcases eF.mp this with z|z
  .exact absurd z hs
  .exact z
def Nd.step(h:Nd P pl)(k:∀q∈pl,r q=0)(n:r p≠0):Nd (UK P r) (pl++[p]):=λz q b i=>by
 obtain⟨s,a,y,l,m,e⟩:=q.split;have g:∀q∈pl,y q=0:=λq c=>by have:=e q;rw[b q (ay _ c),k q c,eE,eE,ee]at this;exact this.symm
 have d:=h y m g;have f:=e p;rw[b p (bE _ (aj.mpr rfl)),d p,eE,eh]at f;have j:a=0:=by
  rcases eF.mp f.symm with z|z
  .exact z
  .exact absurd z n
 have:=e i;rw[d i,j,d9,ee]at this;rcases eF.mp this with z|z
 .exact absurd z l
 .exact z
def Nd.less(h:Nd P pl)(a:∀x,P' x->Qs P x):Nd P' pl:=λz q=>h z (q.sub a)
def Ku{v r y:Vc}(d:Nd P pl)(g:s≠0)(c:Qs P y)(e:∀i,r i=s*v i+a*y i)(f:∀p∈pl,r p=0):(∀i,r i=0)↔Qs P v:=by
 constructor
 .intro h;refine .lin (a:=-a) (b:=0) c .zero g λi=>?_;have:=e i;rw[h i]at this;rw[eE,ee,eG];lia
 .intro h;refine d r ?_ f;have:=funext e;rw[this];exact h.comb s a c
end CL
namespace CL
open PySem L2 L3
variable {c:Cs}
noncomputable def vc(l:LI):Vc:=λi=>l.getD i 0
def jg l i (h:l.length<=i):vc l i=0:=by unfold vc;rw[af,List.getElem?_eq_none h];rfl
def jo l i h:vc l i=l[i]:=by unfold vc;rw[af,ag h];rfl
def TK a row here (h:row.length=here.length) i:vc (NK a row here) i=vc row a*vc here i-vc here a*vc row i:=by
 by_cases b:i<here.length
 .rw[jo (NK a row here) i (by rw[xB a row here h];exact b),jo here i b,jo row i (by lia)];simp[NK,vc]
 .rw[jg _ i (by rw[xB a row here h];lia),jg here i (by lia),jg row i (by lia),eE,eE];rfl
def Ar(a:List (Nat×LI)):Vc->Prop:=λx=>∃p∈a,x=vc p.2
def VP(vs:LL):Vc->Prop:=λx=>∃v∈vs,x=vc v
theorem A6 m P:∀d b,(∀p∈d,p.2.length=m/\P (vc p.2)/\vc p.2 p.1≠0)->b.length=m->d.Pairwise (λp q=>vc q.2 p.1=0)->
  ∃s y,s≠0/\Qs P y/\(∀i,vc (wF d b) i=s*vc b i+1*y i)/\(∀k,vc b k=0->(∀p∈d,vc p.2 k=0)->vc (wF d b) k=0)/\∀p∈d,vc (wF d b) p.1=0
 |[],b,_,_,_=>⟨1,λ_=>0,by decide,.zero,λi=>by show vc b i=1*vc b i+1*0;lia,λk h _=>h,λp f=>nomatch f⟩
 | (a,row)::d,b,hA,hl,hw=>by
  obtain⟨A,x,w⟩:=hA (a,row) (bt ..);obtain⟨u,n⟩:=dR.mp hw;have g:(NK a row b).length=m:=by rw[xB a row b (by lia),hl]
  have hv:=TK a row b (by lia);obtain⟨s,y,r,z,e,l,v⟩:=A6 m P d (NK a row b) (λp f=>hA p (bx _ f)) g n;refine⟨s*vc row a,_,eA r w,(z.comb 1 (-(s*vc b a)) (.of x)),λi=>?_,λk h f=>?_,λp f=>?_⟩
  .show vc (wF d (NK a row b)) i=_;rw[e i,hv i,eI,dN,eG,dy,dy,d8,d8];lia
  .refine l k ?_ λp j=>f p (bx _ j);have:=f (a,row) (bt ..);rw[hv k,h,this,eE,eE];rfl
  .rcases aG.mp f with rfl|f
   .refine l _ ?_ λq o=>u q o;rw[hv a,dz];lia
   .exact v p f
def Wb(vs:LL)(j:Nat):Prop:=Qs (VP (vs.take j)) (vc (vs.getD j []))
structure zw(vs:LL)(m k:Nat)(ah:List (Nat×LI)):Prop where
 bd:∀p∈ah,p.1<m/\p.2.length=m
 nz:∀p∈ah,vc p.2 p.1≠0
 tri:ah.Pairwise (λp q=>vc q.2 p.1=0)
 nd:Nd (Ar ah) (ah.map Prod.fst)
 sp:∀v∈vs.take k,Qs (Ar ah) (vc v)
 ps:∀p∈ah,Qs (VP (vs.take k)) (vc p.2)
 le:ah.length<=k
 eq:ah.length=k↔∀j,j<k->¬Wb vs j
def jJ{a:Type}(l:List a) k v (h:l[k]? = some v):l.take (k+1)=l.take k++[v]:=by rw[List.take_succ,h];rfl
def Pf{a:Type}(l:List a) k v w (h:l[k]? = some v):l.getD k w=v:=by rw[af,h];rfl
def VP.succ{vs:LL}(h:vs[k]? = some v) x (q:Qs (VP (vs.take k)) x):Qs (VP (vs.take (k+1))) x:=q.mono λz ⟨w,hw,e⟩=>⟨w,by rw[jJ vs k v h];exact ay _ hw,e⟩
theorem Da{m:Nat}:∀(a:List (Nat×LI)) (v:LI),(∀p∈a,p.2.length=m)->v.length=m->(wF a v).length=m
 |[],v,_,h=>h
 |p::a,v,hp,h=>Da a (NK p.1 p.2 v) (λq b=>hp q (by simp[b])) (by rw[xB _ _ _ (by rw[hp p (by simp),h]),h])
def Js vs m k ah v (h:zw vs m k ah) (hv:vs[k]? = some v) (I:v.length=m) (r:(wF ah v).length=m) :
  ((∀i,vc (wF ah v) i=0)->zw vs m (k+1) ah)/\∀j,j<m->vc (wF ah v) j≠0->zw vs m (k+1) (ah++[(j,wF ah v)]):=by
 obtain⟨s,y,B,u,e,N,C⟩:=A6 m (Ar ah) ah v (λp d=>⟨(h.bd p d).2,⟨p,d,rfl⟩,h.nz p d⟩) I h.tri;have n:∀q∈ah.map Prod.fst,vc (wF ah v) q=0:=λq l=>by obtain⟨p,d,rfl⟩:=aE.mp l;exact C p d
 have f:=Ku h.nd B u e n;have D:Wb vs k↔Qs (Ar ah) (vc v):=by unfold Wb;rw[Pf vs k v [] hv];exact⟨λq=>q.sub λx ⟨w,hw,ex⟩=>by rw[ex];exact h.sp w hw,λq=>q.sub λx ⟨p,d,ex⟩=>by rw[ex];exact h.ps p d⟩
 generalize wF ah v=R at *;constructor
 .intro E;have l:=f.mp E;refine⟨h.bd,h.nz,h.tri,h.nd,λw hw=>?_,λp d=>VP.succ hv _ (h.ps p d),by have:=h.le;lia,?_⟩
  .rw[jJ vs k v hv]at hw;rcases ai.mp hw with q|q
   .exact h.sp w q
   .rw[aj.mp q];exact l
  .constructor
   .intro z;have:=h.le;lia
   .intro z;exact absurd (D.mpr l) (z k (by lia))
 .intro j F g;have A:¬Wb vs k:=λz=>g (f.mpr (D.mp z) j);have up:∀x,Qs (Ar ah) x->Qs (Ar (ah++[(j,R)])) x:=λx q=>q.mono λz ⟨p,d,ez⟩=>⟨p,ay _ d,ez⟩;have L:Qs (Ar (ah++[(j,R)])) (vc R):=.of ⟨(j,R),bE _ (aj.mpr rfl),rfl⟩;refine⟨λp d=>?_,λp d=>?_,?_,?_,λw hw=>?_,λp d=>?_,?_,?_⟩
  .rcases ai.mp d with q|q
   .exact h.bd p q
   .rw[aj.mp q];exact⟨F,r⟩
  .rcases ai.mp d with q|q
   .exact h.nz p q
   .rw[aj.mp q];exact g
  .refine eJ.mpr ⟨h.tri,c6 _ _,λp d q l=>?_⟩;rw[aj.mp l];exact C p d
  .rw[a9];refine (Nd.step h.nd n g).less λx ⟨p,d,ex⟩=>?_;rcases ai.mp d with q|q
   .exact .of (.inl ⟨p,q,ex⟩)
   .rw[aj.mp q]at ex;exact .of (.inr ex)
  .rw[jJ vs k v hv]at hw;rcases ai.mp hw with q|q
   .exact up _ (h.sp w q)
   .rw[aj.mp q];exact .lin (a:=1) (b:=-1) L (up _ u) B λi=>by rw[e i];lia
  .rcases ai.mp d with q|q
   .exact VP.succ hv _ (h.ps p q)
   .rw[aj.mp q];have K:Qs (VP (vs.take (k+1))) (vc v):=.of ⟨v,by rw[jJ vs k v hv];exact bE _ (aj.mpr rfl),rfl⟩;have J:=u.sub λx ⟨p,d,ex⟩=>by rw[ex];exact VP.succ hv _ (h.ps p d)
    exact .lin (s:=1) K J (by decide) λi=>by rw[d8];exact e i
  .have:=h.le;simp;lia
  .rw[aU,cf];constructor
   .intro z i H;by_cases o:i=k
    .rw[o];exact A
    .exact h.eq.mp (by lia) i (by lia)
   .intro z;rw[h.eq.mpr λi H=>z i (by lia)]
theorem K3{m:Nat}(vs:LL)(hv:∀v∈vs,v.length=m):∀k,k<=vs.length->∃d,zw vs m k d
 |0,_=>⟨[],(λp a=>nomatch a),(λp a=>nomatch a),List.Pairwise.nil,(λz q=>Nd.nil z (q.mono λx ⟨p,a,_⟩=>nomatch a)),(λv hv=>by simp at hv),(λp a=>nomatch a),aL _,⟨λ_ j e=>absurd e (dH _),λ_=>rfl⟩⟩
 |k+1,h=>by
  obtain⟨d,I⟩:=K3 vs hv k (by lia);have r:=ag (l:=vs) (i:=k) (by lia);have b:=hv _ (aW (l:=vs) (n:=k) (by lia));have f:=Da d (vs[k]'(by lia)) (λp a=>(I.bd p a).2) b;obtain⟨s,u⟩:=Js vs m k d (vs[k]'(by lia)) I r b f;by_cases z:∃j,j<m/\vc (wF d (vs[k]'(by lia))) j≠0
  .obtain⟨j,e,o⟩:=z;exact⟨_,u j e o⟩
  .refine⟨_,s λi=>?_⟩;by_cases g:i<m
   .exact aP λw=>z ⟨i,g,w⟩
   .exact jg _ i (by lia)
def vF(h:f ρ=.ok (.int i)):rW (λi=>.int (-i)) f ρ=.ok (.int (-i)):=by simp only[rW,h,M.bind_ok]
def uA:Bn n 0:=by unfold Bn;exact d7 _
def vQ N (D:N<=8000) row (H:row.length<1000) (n:∀x∈row,Bn N x):∃g o,0<g/\kZ c [tI row]=.ok (tI o)/\o.length=row.length/\(∀i,vc row i=g*vc o i)/\∀y∈o,Bn N y:=by
 have sz:1000<sizeLine:=by decide
 have main:=vb (m:=mH 2) (g:=vt c) T.int
  (λk w=>∃(a:Int) (u:Option W),w=[some (.p (tI row)),some (.p (.int a)),u]/\0<=a/\Bn N a/\∀x∈row.take k,a ∣ x)
  (λt=>t=tI row) row 0 _ ⟨0,none,rfl,by decide,uA,λx j=>by simp at j⟩ (by
   rintro i x w b ⟨a,u,rfl,F,s,d⟩;rw[aH]at d ⊢;have r:=au b;refine⟨_,rfl,?_⟩;have A:setO 1 (kn (hW (gO (gP 1) (gO (gP 2) gR)) (jA c))) [some (.p (tI row)),some (.p (.int a)),some (.p (.int x))]=.nx [some (.p (tI row)),some (.p (.int (Cu.G a x))),some (.p (.int x))]:=ig (jI rfl rfl (oX a x)) rfl;by_cases h:Cu.G a x=1
   .right;exact⟨_,gW A (jO (iH (gX rfl rfl (by rw[iO,h];rfl))) (iA rfl)),rfl⟩
   .left;refine⟨_,gW A (jV (iH (gX rfl rfl (by rw[iO];simp[h]))) rfl),_,_,rfl,Cu.qN _ _,?_,λz v=>?_⟩
    .by_cases l:x=0
     .rw[l,Cu.Gi];exact cu (by lia) s
     .have J:=Cu.Up a x l;have I:=Cu.qN a x;exact cu (by lia) (n x r)
    .rw[jJ row i x b]at v;rcases ai.mp v with q|q
     .exact Int.dvd_trans (Cu.zi a x) (d z q)
     .rw[aj.mp q];exact Cu.qX a x)
 rcases main with⟨C,e,a,u,rfl,F,s,d⟩|⟨t,e,rfl⟩
 .rw[aH,eK]at d;by_cases f:a=0
  .exact⟨1,row,by decide,iQ rfl (gW (ig rfl rfl) (gW (lz rfl e) (l5 (jO (iH (gX rfl rfl (by rw[iO,f];rfl))) (iA rfl)) rfl))),rfl,λi=>by rw[d8],n⟩
  .refine⟨a,row.map (λx=>x.fdiv a),by lia,iQ rfl (gW (ig rfl rfl) (gW (lz rfl e) (gW (jV (iH (gX rfl rfl (by rw[iO];simp[f]))) rfl) (iA ?_)))),by simp,λi=>?_,λy E=>?_⟩
   .exact mG (i5 (jZ row T.int (λx=>T.int (x.fdiv a)) rfl (by lia) (λx j=>⟨_,rfl,rfl,gX rfl rfl (qT f (s.noPy D))⟩) (by rw[aJ];rfl))) rfl
   .by_cases b:i<row.length
    .rw[jo row i b,jo _ i (by simpa using b),eM];obtain⟨q,B⟩:=d _ (aW b);rw[B,d6 q f]
    .rw[jg row i (by lia),jg _ i (by simp;lia),eE]
   .obtain⟨x,j,rfl⟩:=aE.mp E;exact cu (Hi (d x j) f) (n x j)
 .exact⟨1,row,by decide,iQ rfl (gW (ig rfl rfl) (l5 (lz rfl e) rfl)),rfl,λi=>by rw[d8],n⟩
def Jg{g x:Int}(a:g≠0)(h:g*x=0):x=0:=by
 rcases eF.mp h with z|z
 .exact absurd z a
 .exact z
def oN o:kX o*o=(o.natAbs:Int):=by
 unfold kX;split
 .rw[d8];lia
 .split
  .rw[eG,d8];lia
  .rw[d9];lia
def oK(p:Nat×LI):T:=.tup [.int (p.1:Int),tI p.2]
noncomputable def sm:Nat->(Nat->Int)->Int
 |0,_=>0
 |n+1,f=>f 0+sm n λi=>f (i+1)
theorem iB:∀n f g,(∀i,i<n->f i=g i)->sm n f=sm n g
 |0,_,_,_=>rfl
 |n+1,f,g,h=>by rw[sm,sm,h 0 (by lia),iB n _ _ λi a=>h (i+1) (by lia)]
theorem vI a b:∀n f g,sm n (λi=>a*f i+b*g i)=a*sm n f+b*sm n g
 |0,_,_=>by simp[sm]
 |n+1,f,g=>by rw[sm,sm,sm,vI a b n (λi=>f (i+1)) λi=>g (i+1),eB,eB];lia
theorem kC a:∀n f,sm n (λi=>a*f i)=a*sm n f
 |0,_=>by simp[sm]
 |n+1,f=>by rw[sm,sm,kC a n λi=>f (i+1),eB]
theorem lB:∀n:Nat,sm n (λ_=>0)=0
 |0=>rfl
 |n+1=>by rw[sm,lB n];rfl
theorem Cr:∀(n k:Nat) (f:Nat->Int),k<n->sm n (λi=>(if i=k then 1 else 0)*f i)=f k
 |0,k,f,h=>absurd h (dH _)
 |n+1,0,f,h=>by rw[sm,aR rfl,d8,iB n _ (λ_=>0) (λi _=>by rw[aS (by lia),d9]),lB,ee]
 |n+1,k+1,f,h=>by rw[sm,aS (by lia),d9,eh,iB n _ (λi=>(if i=k then 1 else 0)*f (i+1)) (λi _=>by simp),Cr n k (λi=>f (i+1)) (by lia)]
theorem xZ:∀(m:Nat) (l:List Nat),l.Nodup->(∀x∈l,x<m)->l.length<=m
 |0,[],_,_=>aL _
 |0,x::l,_,h=>absurd (h x (bt ..)) (dH _)
 |m+1,l,hn,h=>by
  have a:=xZ m (l.erase m) (hn.erase m) λx d=>by have q:=(hn.mem_erase_iff).mp d;have:=h x q.2;have:=q.1;lia
  by_cases b:m∈l
  .rw[eN b]at a;lia
  .rw[List.erase_of_not_mem b]at a;lia
def GF(f:fa ρ=.ok (.lst a))(d:fb ρ=.ok (.lst b))(e:a.length+b.length<=sizeLine):yh fa fb ρ=.ok (a++b):=by simp only[yh,f,d,M.bind_ok];rw[aR e]
def WJ(h:f ρ=.ok a):jC (lstM (gO f gR)) ρ=.ok (.lst [a]):=by
 have b:1<=sizeLine:=by decide
 simp only[jC,lstM,gO,gR,h,M.bind_ok,DX,aA,cO,b,if_true]
def K8(h:f ρ=.ok a):mC (gO f gR) ρ=.ok (.tup [a]):=by
 have b:1<=sizeLine:=by decide
 simp only[mC,gO,gR,h,M.bind_ok,DX,aA,cO,b,if_true]
def yc(h:f ρ=.ok a)(d:g ρ=.ok b):mC (gO f (gO g gR)) ρ=.ok (.tup [a,b]):=by
 have e:2<=sizeLine:=by decide
 simp only[mC,gO,gR,h,d,M.bind_ok,DX,aA,cO,e,if_true]
def Qd a b (h:a.length+b.length<=sizeLine):jl (.tup a) (.tup b)=.ok (.tup (a++b)):=by unfold jl;exact aR h
def sV a b (h:a.length+b.length<=1000):jl (tI a) (tI b)=.ok (tI (a++b)):=by
 have sz:1000<sizeLine:=by decide
 unfold tI;rw[Qd _ _ (by simp;lia),a9]
def zR(pv:List (Nat×LI)) left (a:Nat) (f:Nat×LI->LI) (g:pv.length<=100) (e:∀p∈pv,jt c [tI p.2,tI left,.int (a:Int)]=.ok (tI (f p))) :
  lJ c [.lst (pv.map oK),tI left,.int (a:Int)]=.ok ((pv.map (λp=>(p.1,f p))++[(a,left)]).map oK):=by
 have sz:1000<sizeLine:=by decide
 have d:lM [none,none,some 1,some 2] (jP (gP 0)) (mT 2 (iN (km 0) (iN (km 1) mP))) (λ_=>.ok true) (sC c) (vw (iX 3 [.lst (pv.map oK),tI left,.int a]))=.ok ((pv.map (λp=>(p.1,f p))).map oK):=jZ pv oK (λp=>oK (p.1,f p)) rfl (by lia) (λp b=>⟨_,rfl,rfl,yc rfl (nc rfl rfl rfl (e p b))⟩) (by rw[aJ];rfl)
 refine yz rfl (qk ?_);rw[a9];exact GF (i5 d) (WJ (yc rfl rfl)) (by simp;lia)
def nW{d e:Type}[Inhabited e]{P:d->e->Prop}(l:List d)(h:∀a∈l,∃b,P a b):∃f:d->e,∀a∈l,P a (f a):=⟨λa=>Classical.epsilon λb=>P a b,λa g=>Classical.epsilon_spec (h a g)⟩
end CL
namespace CL
noncomputable def jD(m:Nat)(A u:Vc):Int:=sm m λi=>A i*u i
def Gw(h:∀i,s*z i=a*x i+b*y i):s*jD m A z=a*jD m A x+b*jD m A y:=by
 unfold jD;rw[<-kC,<-vI];refine iB m _ _ λi _=>?_;have:=h i;calc s*(A i*z i)=A i*(s*z i):=by rw[Int.mul_left_comm]
  _=A i*(a*x i+b*y i):=by rw[this]
  _=a*(A i*x i)+b*(A i*y i):=by grind
theorem pR m:∀(f:List Vc) (T:List Nat),T.Nodup->(∀t∈T,t<m)->f.length<T.length->∃v:Vc,(∃i,v i≠0)/\(∀i,i∉T->v i=0)/\∀A∈f,jD m A v=0
 |[],T,nd,ht,hl=>by
  cases T with
  |nil=>cases hl
  |cons t T=>refine⟨λi=>if i=t then 1 else 0,⟨t,by simp⟩,λi g=>?_,λA l=>nomatch l⟩;have:i≠t:=λz=>g (by simp[z]);simp[this]
 |A::f,T,nd,ht,hl=>by
  cases T with
  |nil=>cases hl
  |cons t T=>
   obtain⟨F,q⟩:=bN.mp nd;have h:f.length<T.length:=by simp at hl;exact hl
   obtain⟨d,⟨j,w⟩,o1,E⟩:=pR m f T q (λx n=>ht x (by simp[n])) h;have o:j∈T:=aP λz=>w (o1 j z);have r:f.length<((t::T).erase j).length:=by have C:j∈t::T:=bx _ o;rw[eN C,aA];exact h
   obtain⟨c,⟨k,D⟩,o2,u⟩:=pR m f ((t::T).erase j) (nd.erase j) (λx n=>ht x (eO n)) r;have p:c j=0:=o2 j (λz=>by rw[List.Nodup.mem_erase_iff nd]at z;exact z.1 rfl);by_cases l:jD m A c=0
   .exact⟨c,⟨k,D⟩,λi g=>o2 i (λz=>g (eO z)),λB e=>by
     rcases aG.mp e with rfl|e
     .exact l
     .exact u B e⟩
   .refine⟨λi=>jD m A c*d i-jD m A d*c i,⟨j,?_⟩,λi g=>?_,λB e=>?_⟩
    .dsimp only;rw[p];simp[l,w]
    .show jD m A c*d i-jD m A d*c i=0;rw[o1 i (λz=>g (by simp[z])),o2 i (λz=>g (eO z))];simp
    .have:=Gw (m:=m) (A:=B) (x:=d) (y:=c) (z:=λi=>jD m A c*d i-jD m A d*c i) (s:=1) (a:=jD m A c) (b:=-jD m A d) (λi=>by grind);rcases aG.mp e with rfl|e
     .rw[d8]at this;rw[this];grind
     .rw[E B e,u B e]at this;simpa using this
end CL
namespace CL
open PySem L2 L3
variable {c:Cs}
def FZ{i:Int}(h:0<i):(0:Rat)<(i:Rat):=by have:=(Rat.intCast_lt_intCast).mpr h;simpa using this
def uw N M row other a (C:a<row.length) (K:other.length=row.length) (hs:row.length<1000) (P:N+M+1<=8000) (k:∀x∈row,Bn N x) (m:∀x∈other,Bn M x) (J:vc other a≠0) :
  ∃r,jt c [tI row,tI other,.int (a:Int)]=.ok (tI r)/\r.length=row.length/\(∀x∈r,Bn (N+M+1) x)/\vc r a=0/\∃g s b:Int,0<g/\0<s/\(∀i,g*vc r i=s*vc row i+b*vc other i)/\(vc row a≠0->s=((vc other a).natAbs:Int)/\b = -vc row a*kX (vc other a)):=by
 have sz:1000<sizeLine:=by decide
 have l:kW (tI row) (.int (a:Int))=.ok (.int (vc row a)):=lu row a C;have B:kW (tI other) (.int (a:Int))=.ok (.int (vc other a)):=lu other a (by lia);have D:Bn N (vc row a):=k _ (getD_mem row a C);have X:Bn M (vc other a):=m _ (getD_mem other a (by lia));by_cases j:vc row a=0
 .exact⟨row,iQ rfl (l5 (jO (iH (gX (gX rfl rfl l) rfl (by rw[iO,j];rfl))) (iA rfl)) rfl),rfl,λx F=>(k x F).mono (by lia),j,1,1,0,by decide,by decide,λi=>by lia,λz=>absurd j z⟩
 .generalize I:vc other a=o at *;generalize Y:vc row a=x0 at *;have E:wU [.int o]=.ok (.int (o.natAbs:Int)):=by simp[TB]
  let w:Int:=-x0*kX o;have L:=v9 o;have A:Bn N w:=by
   refine cu ?_ D;show (-x0*kX o).natAbs<=_;rw[aZ,Int.natAbs_neg];have:(kX o).natAbs<=1:=by lia
   exact aO (eP _ this) (by lia)
  have v:Bn M (o.natAbs:Int):=cu (by lia) X;let d:LI:=(row.zip other).map λp=>(o.natAbs:Int)*p.1+w*p.2;have S:d.length=row.length:=by simp[d,K]
  have q:∀y∈d,Bn (N+M+1) y:=λy R=>by obtain⟨p,f,rfl⟩:=aE.mp R;exact ((v.mul (k _ (aX f).1)).add (A.mul (m _ (aX f).2))).mono (by lia)
  have e:∀i,vc d i=(o.natAbs:Int)*vc row i+w*vc other i:=λi=>by
   by_cases H:i<row.length
   .rw[jo d i (by lia),jo row i H,jo other i (by lia)];simp[d]
   .rw[jg d i (by lia),jg row i (by lia),jg other i (by lia),eE,eE];rfl
  obtain⟨g,r,Z,Q,U,h,u⟩:=vQ (c:=c) (N+M+1) P d (by lia) q;refine⟨r,iQ rfl (gW (jV (iH (gX (gX rfl rfl l) rfl (by rw[iO];simp[j]))) rfl) (gW (ig (t:=.int (o.natAbs:Int)) (mG (gX rfl rfl B) E) rfl) (gW (ig (t:=.int w) ?_ rfl) (iA (mN (x:=tI d) ?_ Q))))),by lia,u,?_,g,(o.natAbs:Int),w,Z,by lia,λi=>by rw[<-h i,e i],λ_=>⟨rfl,rfl⟩⟩
  .refine gX (x:=.int (-x0)) (y:=.int (kX o)) ?_ (mN (gX rfl rfl B) (tH o)) (ke ((D.neg).ok (n:=2) ?_ (by lia) (by decide)))
   .exact vF (gX rfl rfl l)
   .unfold Bn;show _<4;lia
  .refine mG (t:=.lst (d.map T.int)) (i5 (jZ (row.zip other) (λp=>T.tup [.int p.1,.int p.2]) (λp=>T.int ((o.natAbs:Int)*p.1+w*p.2)) (vM rfl rfl rfl rfl) (by simp;lia) (λp f=>⟨_,rfl,rfl,?_⟩) (by rw[aJ];rfl))) rfl;exact gX (gX rfl rfl (ke (v.ok (k _ (aX f).1) (by lia) (by lia)))) (gX rfl rfl (ke (A.ok (m _ (aX f).2) (by lia) (by lia)))) (jb _ _)
  .refine Jg (g:=g) (by lia) ?_;rw[<-h a,e a,I,Y];show _ + -x0*kX o*o=_;rw[dy,oN,eG,dz x0];lia
theorem sM P x1 L M (hL:L<1000):∀(pv:List (Nat×LI)) (row:LI) (N:Nat) (h j:Option W),N+pv.length*(M+1)<=8000->row.length=L->(∀x∈row,Bn N x)->(∀p∈pv,p.1<L/\p.2.length=L/\vc p.2 p.1≠0/\(∀x∈p.2,Bn M x)/\P (vc p.2))->pv.Pairwise (λp q=>vc q.2 p.1=0)->
  ∃r v C,kM (mJ 2 (iZ (mH 2) (iZ (mH 3) mK))) (sS c) (pv.map oK) [some (.p (tI row)),x1,h,j]=.nx [some (.p (tI r)),x1,v,C]/\r.length=L/\(∀x∈r,Bn (N+pv.length*(M+1)) x)/\
   (∃g s y,0<g/\0<s/\Qs P y/\∀i,g*vc r i=s*vc row i+1*y i)/\(∀k,vc row k=0->(∀p∈pv,vc p.2 k=0)->vc r k=0)/\∀p∈pv,vc r p.1=0
 |[],row,N,h,j,_,hl,hb,_,_=>⟨row,h,j,rfl,hl,λx n=>(hb x n).mono (by lia),⟨1,1,λ_=>0,by decide,by decide,.zero,λi=>by lia⟩,λk w _=>w,λp b=>nomatch b⟩
 | (a,prow)::pv,row,N,h,j,hN,hl,hb,hA,hw=>by
  obtain⟨h1,h2,h3,R,S⟩:=hA (a,prow) (bt ..);obtain⟨U,J⟩:=dR.mp hw;rw[aA,cg]at hN;obtain⟨m,Y,Z,b1,Q,d,o,q1,A,l,H,_⟩:=uw N M row prow a (by lia) (by lia) (by lia) (by lia) hb R h3;obtain⟨r,v,C,e,D,z,⟨F,f,y,u,B,hy,v2⟩,I,X⟩:=sM P x1 L M hL pv m (N+M+1) (some (.p (.int a))) (some (.p (tI prow))) (by lia) (by rw[Z,hl]) b1 (λp b=>hA p (bx _ b)) J;refine⟨r,v,C,?_,D,λx n=>(z x n).mono (by rw[aA,cg];lia),⟨d*F,f*o,_,aY A u,aY B l,Qs.comb (f*q1) d (.of S) hy,λi=>?_⟩,λk w b=>?_,λp b=>?_⟩
  .rw[bH,kM];have o:(mJ 2 (iZ (mH 2) (iZ (mH 3) mK))) (oK (a,prow)) [some (.p (tI row)),x1,h,j]=some [some (.p (tI row)),x1,some (.p (.int a)),some (.p (tI prow))]:=rfl;rw[o];have f:sS c [some (.p (tI row)),x1,some (.p (.int a)),some (.p (tI prow))]=.nx [some (.p (tI m)),x1,some (.p (.int a)),some (.p (tI prow))]:=ig (nc rfl rfl rfl Y) rfl;dsimp only;rw[f];exact e
  .calc d*F*vc r i=d*(F*vc r i):=by ac_rfl
    _=f*(d*vc m i)+d*y i:=by rw[v2 i,d8,eB];congr 1;ac_rfl
    _=_:=by rw[H i,eB];simp only[d8,dy,Int.add_assoc]
  .refine I k (Jg (g:=d) (by lia) ?_) λp E=>b p (bx _ E);have:=b (a,prow) (bt ..);dsimp only at this;rw[H k,w,this,eE,eE];rfl
  .rcases aG.mp b with rfl|b
   .exact I _ Q λq K=>U q K
   .exact X p b
def C9 P L M N (f:L<1000) (pv:List (Nat×LI)) row (l:N+pv.length*(M+1)<=8000) (d:row.length=L) (h:∀x∈row,Bn N x) (b:∀p∈pv,p.1<L/\p.2.length=L/\vc p.2 p.1≠0/\(∀x∈p.2,Bn M x)/\P (vc p.2)) (hw:pv.Pairwise (λp q=>vc q.2 p.1=0)) :
  ∃r:LI,lr c [tI row,.lst (pv.map oK)]=.ok (tI r)/\r.length=L/\(∀x∈r,Bn (N+pv.length*(M+1)) x)/\
   (∃g s y,0<g/\0<s/\Qs P y/\∀i,g*vc r i=s*vc row i+1*y i)/\∀p∈pv,vc r p.1=0:=by
 obtain⟨r,n,o,e,m,k,j,-,a⟩:=sM P (some (.p (.lst (pv.map oK)))) L M f pv row N none none l d h b hw;exact⟨r,iQ rfl (gW (lz rfl e) (iA rfl)),m,k,j,a⟩
noncomputable def Pq(B:Nat):Nat->Nat
 |0=>0
 |k+1=>Pq B k+(B+k*(Pq B k+1))+1
def OP B k:Pq B k<=Pq B (k+1):=by show _<=Pq B k+(B+k*(Pq B k+1))+1;lia
def Q4(h:k<=d):Pq B k<=Pq B d:=by
 induction h with
 |refl=>exact aL _
 |step _ ih=>exact aO ih (OP B _)
structure WW(d B:Nat):Prop where
 b1:1<=B
 le:∀k,k<=d->B+k*(Pq B k+1)<=8000
 pq:Pq B d<=8000
structure PP(d B:Nat)(iT:LL)(pv:List (Nat×LI))(rs:LL):Prop where
 pl:∀p∈pv,p.1<d/\p.2.length=d+1/\vc p.2 p.1≠0/\(∀x∈p.2,Bn (Pq B pv.length) x)/\Qs (VP iT) (vc p.2)
 pw:pv.Pairwise λp q=>p.1≠q.1/\vc q.2 p.1=0/\vc p.2 q.1=0
 rr:∀r∈rs,r.length=d+1/\(∀k,k<d->vc r k=0)/\Qs (VP iT) (vc r)
 sp:∀r∈iT,Qs (λx=>(∃p∈pv,x=vc p.2)\/∃r∈rs,x=vc r) (vc r)
section
variable {d B:Nat}{iT rs:LL}{pv:List (Nat×LI)}{row left:LI}{g s:Int}{y:Vc}
def PP.short(h:PP d B iT pv rs):pv.length<=d:=by
 have:=xZ d (pv.map Prod.fst) (c8.mpr (h.pw.imp λq=>q.1)) λx a=>by obtain⟨p,b,rfl⟩:=aE.mp a;exact (h.pl p b).1
 simpa using this
def rP{x:Vc}(q:Qs (VP iT) x):Qs (VP (iT++[row])) x:=q.mono λz ⟨w,hw,e⟩=>⟨w,ay _ hw,e⟩
def xp(h:PP d B iT pv rs)(b:0<g)(a:Qs (Ar pv) y)(e:∀i,g*vc left i=s*vc row i+1*y i):Qs (VP (iT++[row])) (vc left):=.lin (.of ⟨row,bE _ (aj.mpr rfl),rfl⟩) (a.sub λx ⟨p,hp,ex⟩=>by rw[ex];exact rP (h.pl p hp).2.2.2.2) (by lia) e
def P1(h:PP d B iT pv rs)(v:0<g)(w:0<s)(j:Qs (Ar pv) y)(e:∀i,g*vc left i=s*vc row i+1*y i)(u:left.length=d+1)(n:∀k,k<d->vc left k=0):PP d B (iT++[row]) pv (rs++[left]):=by
 have up:∀{x:Vc},Qs (λx=>(∃p∈pv,x=vc p.2)\/∃r∈rs,x=vc r) x->Qs (λx=>(∃p∈pv,x=vc p.2)\/∃r∈rs++[left],x=vc r) x:=λq=>q.mono λz l=>l.imp id λ⟨r,hr,ez⟩=>⟨r,ay _ hr,ez⟩;refine⟨λp f=>?_,h.pw,λr hr=>?_,λr hr=>?_⟩
 .obtain⟨a,b,o,m,q⟩:=h.pl p f;exact⟨a,b,o,m,rP q⟩
 .rcases ai.mp hr with q|q
  .obtain⟨a,b,q⟩:=h.rr r q;exact⟨a,b,rP q⟩
  .rw[aj.mp q];exact⟨u,n,xp h v j e⟩
 .rcases ai.mp hr with q|q
  .exact up (h.sp r q)
  .rw[aj.mp q];exact .lin (a:=g) (b:=-1) (.of (.inr ⟨left,bE _ (aj.mpr rfl),rfl⟩)) (j.mono λx ⟨p,f,ex⟩=>.inl ⟨p,f,ex⟩) (show s≠0 by lia) λi=>by rw[e i];lia
def Jz(h:PP d B iT pv rs)(N:0<g)(hs:0<s)(J:Qs (Ar pv) y)(e:∀i,g*vc left i=s*vc row i+1*y i)(S:left.length=d+1)(C:∀p∈pv,vc left p.1=0)(X:∀x∈left,Bn (B+pv.length*(Pq B pv.length+1)) x){j:Nat}(Q:j<d)(L:vc left j≠0)
  (f:Nat×LI->LI) (D:∀p∈pv,(f p).length=p.2.length/\(∀x∈f p,Bn (Pq B (pv.length+1)) x)/\vc (f p) j=0/\∃g s b:Int,0<g/\0<s/\∀i,g*vc (f p) i=s*vc p.2 i+b*vc left i):PP d B (iT++[row]) (pv.map (λp=>(p.1,f p))++[(j,left)]) rs:=by
 have U:(pv.map (λp=>(p.1,f p))++[(j,left)]).length=pv.length+1:=by simp
 have at_:∀p∈pv,∀q∈pv,vc p.2 q.1=0->vc (f p) q.1=0:=λp k q o z=>by obtain⟨_,_,_,A,I,K,H,F,u⟩:=D p k;have:=u q.1;rw[z,C q o,eE,eE,ee]at this;exact Jg (Int.ne_of_gt H) this
 have m:Qs (λx=>(∃p∈pv.map (λp=>(p.1,f p))++[(j,left)],x=vc p.2)\/∃r∈rs,x=vc r) (vc left):=.of (.inl ⟨(j,left),bE _ (aj.mpr rfl),rfl⟩);have n:∀p∈pv,Qs (λx=>(∃p∈pv.map (λp=>(p.1,f p))++[(j,left)],x=vc p.2)\/∃r∈rs,x=vc r) (vc p.2):=λp k=>by obtain⟨_,_,_,A,I,K,H,F,u⟩:=D p k;exact .lin (a:=A) (b:=-K) (.of (.inl ⟨(p.1,f p),ay _ (aE.mpr ⟨p,k,rfl⟩),rfl⟩)) m (show I≠0 by lia) λi=>by rw[u i];lia
 refine⟨λp k=>?_,?_,λr hr=>?_,λr hr=>?_⟩
 .rw[U];rcases ai.mp k with q|q
  .obtain⟨p,l,rfl⟩:=aE.mp q;obtain⟨a,b,P,Z,q⟩:=h.pl p l;obtain⟨Y,R,_,A,I,K,H,F,u⟩:=D p l;refine⟨a,Y.trans b,λz=>?_,R,.lin (rP q) (xp h N J e) (show A≠0 by lia) u⟩;have:=u p.1;rw[show vc (f p) p.1=0 from z,C p l,eE,eE,ee]at this;exact P (Jg (Int.ne_of_gt F) this.symm)
  .rw[aj.mp q];exact⟨Q,S,L,λx E=>(X x E).mono (by show _<=Pq B pv.length+(B+pv.length*(Pq B pv.length+1))+1;lia),xp h N J e⟩
 .refine eJ.mpr ⟨c8.mpr (h.pw.imp_of_mem λ{p q} k o w=>⟨w.1,at_ q o p k w.2.1,at_ p k q o w.2.2⟩),c6 _ _,λp k q o=>?_⟩;rw[aj.mp o];obtain⟨p,l,rfl⟩:=aE.mp k;exact⟨λz=>L ((show p.1=j from z)▸C p l),C p l,(D p l).2.2.1⟩
 .obtain⟨a,b,q⟩:=h.rr r hr;exact⟨a,b,rP q⟩
 .rcases ai.mp hr with q|q
  .exact (h.sp r q).sub λx E=>by
    rcases E with⟨p,k,v⟩|⟨r,hr,v⟩
    .rw[v];exact n p k
    .exact .of (.inr ⟨r,hr,v⟩)
  .rw[aj.mp q];exact .lin (a:=g) (b:=-1) m (J.sub λx ⟨p,k,v⟩=>by rw[v];exact n p k) (show s≠0 by lia) λi=>by rw[e i];lia
end
theorem PU(iT:LL)(d B:Nat)(hd:d<=4)(hzl:iT.length<=8)(hz:∀u∈iT,u.length=d+1/\∀x∈u,Bn B x)(hB:WW d B) :
  ∃pv l,jX c [.lst (iT.map tI),.int (d:Int)]=.ok (.tup [.lst (pv.map oK),.lst (l.map tI)])/\PP d B iT pv l/\l.length<=8:=by
 have sz:1000<sizeLine:=by decide
 have hrm:FB (d:Int)=true:=nV (by lia);obtain⟨ρ,e,pv,l,Z,Y,L,rfl,n,F⟩:=lg (m:=mH 4) (g:=lP c) tI
  (λk ρ=>∃(pv:List (Nat×LI)) (l:LL) (Z Y L:Option W),ρ=[some (.p (.lst (iT.map tI))),some (.p (.int (d:Int))),some (.p (.lst (pv.map oK))),some (.o (l.map tI)),Z,Y,L]/\PP d B (iT.take k) pv l/\l.length<=k)
  iT 0 _ ⟨[],[],none,none,none,rfl,⟨(λp a=>nomatch a),List.Pairwise.nil,(λp a=>nomatch a),(λz hz=>by simp at hz)⟩,aL _⟩ (by
   rintro k z ρ hi ⟨pv,l,Z,Y,L,rfl,n,F⟩;rw[aH]at n F ⊢;have Q:=hz z (au hi);have hkl:=(aa.mp hi).1;have I:=n.short;have hbb:=hB.le pv.length I;obtain⟨left,el,U,S,⟨g,s,y,hg,hs,hy,ey⟩,h0⟩:=C9 (c:=c) (Ar pv) (d+1) (Pq B pv.length) B (by lia) pv z hbb Q.1 Q.2 (λp a=>by obtain⟨q1,q2,q3,q4,_⟩:=n.pl p a;exact⟨by lia,q2,q3,q4,p,a,rfl⟩) (n.pw.imp λh=>h.2.1)
   let A:List Nat:=(List.range d).filter λj=>left.getD j 0 != 0;let R:En:=[some (.p (.lst (iT.map tI))),some (.p (.int (d:Int))),some (.p (.lst (pv.map oK))),some (.o (l.map tI)),some (.p (tI z)),some (.p (tI left)),some (.p (.lst (A.map λ(j:Nat)=>T.int (j:Int))))];have e4:lM [none,some 5] (nr (gO (gP 1) gR)) (km 0) (jL (ik (iY true) (ik kW (gP 1) (gP 0)) (cM (.int 0)))) (nK c) (lF [some (.p (.lst (iT.map tI))),some (.p (.int (d:Int))),some (.p (.lst (pv.map oK))),some (.o (l.map tI)),some (.p (tI z)),some (.p (tI left)),L])=.ok (A.map λ(j:Nat)=>T.int (j:Int)):=yU (List.range d) (λ(j:Nat)=>T.int (j:Int)) (λ(j:Nat)=>T.int (j:Int)) (λj=>left.getD j 0 != 0) (by simp[hrm,S7]) (by simp;lia) (λj hj=>⟨_,rfl,iH (gX (gX rfl rfl (lu left j (by have:=aT.mp hj;lia))) rfl (t8 _ _)),λ_=>rfl⟩) rfl
   have J:uV (A.map λ(j:Nat)=>T.int (j:Int))=true:=rH _ _ λ_ _=>rfl;have K:vC (A.map λ(j:Nat)=>T.int (j:Int))<=90:=aO (qL _ 0 _ λ_ _=>aL _) (by decide);have w:jL (ik (iY false) (gP 6) (jC (lstM gR))) (vw R)=.ok A.isEmpty:=by refine iH (gX (x:=.lst (A.map λ(j:Nat)=>T.int (j:Int))) (y:=.lst []) rfl (by simp) ?_);rw[wZ false _ J K];simp
   have X:∀r,(pP (jL (ik (iY false) (gP 6) (jC (lstM gR)))) (uI 3 (kn (gP 5))) (setO 2 (kn (jC (i8 (gO (gP 2) (gO (gP 5) (gO (ik kW (gP 6) (cM (.int 0))) gR))) (lJ c)))))) R=r->
     lP c [some (.p (.lst (iT.map tI))),some (.p (.int (d:Int))),some (.p (.lst (pv.map oK))),some (.o (l.map tI)),some (.p (tI z)),Y,L]=r:=λr hr=>
    gW (ig (t:=tI left) (jI rfl rfl el) rfl) (gW (ig (t:=.lst (A.map λ(j:Nat)=>T.int (j:Int))) (i5 e4) rfl) hr)
   have mono:B+pv.length*(Pq B pv.length+1)<=B+d*(Pq B d+1):=cw (Nat.mul_le_mul I (Nat.add_le_add_right (Q4 I) 1)) _;have tk:iT.take (k+1)=iT.take k++[z]:=jJ iT k z hi;cases C:A with
   |nil=>refine⟨_,_,rfl,.inl (X _ (jO (by rw[w,C];rfl) (vP (t:=tI left) rfl rfl (by simp;lia) rfl))),pv,l++[left],_,_,_,by rw[a9];rfl,?_,by simp;lia⟩;rw[tk];refine P1 n hg hs hy ey U λi him=>?_;refine aP λhc=>?_;have:i∈A:=aV.mpr ⟨aT.mpr him,by simpa[vc] using hc⟩;rw[C]at this;exact nomatch this
   |cons D js=>
    have N:D∈A:=by rw[C];exact bt ..
    have E:D<d:=aT.mp (aV.mp N).1;have v:vc left D≠0:=by have:=(aV.mp N).2;simpa[vc] using this
    have H:pv.length+1<=d:=by
     have nd:(D::pv.map Prod.fst).Nodup:=bN.mpr ⟨λhm=>by obtain⟨p,a,ep⟩:=aE.mp hm;exact v (ep▸h0 p a),c8.mpr (n.pw.imp λq=>q.1)⟩
     have:=xZ d _ nd λx hx=>by
      rcases aG.mp hx with rfl|hx
      .exact E
      .obtain⟨p,a,rfl⟩:=aE.mp hx;exact (n.pl p a).1
     simpa using this
    have hP:Pq B (pv.length+1)<=8000:=aO (Q4 H) hB.pq;obtain⟨f,hf⟩:=nW (P:=λ(p:Nat×LI) (r:LI)=>jt c [tI p.2,tI left,.int (D:Int)]=.ok (tI r)/\r.length=p.2.length/\(∀x∈r,Bn (Pq B (pv.length+1)) x)/\vc r D=0/\∃g s b:Int,0<g/\0<s/\∀i,g*vc r i=s*vc p.2 i+b*vc left i) pv λp a=>by obtain⟨q1,q2,q3,q4,_⟩:=n.pl p a;obtain⟨r,a1,a2,a3,a4,g,s,b,a5,a6,a7,_⟩:=uw (c:=c) (Pq B pv.length) (B+pv.length*(Pq B pv.length+1)) p.2 left D (by lia) (by lia) (by lia) hP q4 S v;exact⟨r,a1,a2,a3,a4,g,s,b,a5,a6,a7⟩
    have i0:ik kW (gP 6) (cM (.int 0)) (lF R)=.ok (.int (D:Int)):=gX (x:=.lst (A.map λ(j:Nat)=>T.int (j:Int))) rfl rfl (by rw[C];exact Rj _ _);have e5:=zR (c:=c) pv left D f (by lia) λp a=>(hf p a).1;refine⟨_,_,rfl,.inl (X _ (jV (by rw[w,C];rfl) (ig (i5 (Kl rfl rfl i0 e5)) rfl))),_,l,_,_,_,rfl,?_,by lia⟩;rw[tk];exact Jz n hg hs hy ey U h0 S E v f λp a=>(hf p a).2)
 rw[aH,eK]at n;rw[aH]at F;refine⟨pv,l,iQ rfl (gW (ig (t:=.lst []) (by simp) rfl) (gW (pC (ts:=[]) (by simp) rfl) (gW (lz rfl e) (iA (yc rfl rfl))))),n,by lia⟩
end CL
namespace CL
open PySem L2 L3
variable {c:Cs}
noncomputable def pL:Nat->(Nat->Rat)->Rat
 |0,_=>0
 |n+1,f=>f 0+pL n λi=>f (i+1)
theorem kK:∀n f g,(∀i,i<n->f i=g i)->pL n f=pL n g
 |0,_,_,_=>rfl
 |n+1,f,g,h=>by unfold pL;rw[h 0 (by lia),kK n _ _ λi a=>h (i+1) (by lia)]
theorem se a b:∀n f g,pL n (λi=>a*f i+b*g i)=a*pL n f+b*pL n g
 |0,_,_=>by unfold pL;grind
 |n+1,f,g=>by unfold pL;rw[se a b n (λi=>f (i+1)) λi=>g (i+1)];grind
theorem ui:∀n:Nat,pL n (λ_=>0)=0
 |0=>rfl
 |n+1=>by unfold pL;rw[ui n];grind
noncomputable def mM(d:Nat)(X:Nat->Rat)(x:Vc):Rat:=pL d (λp=>(x p:Rat)*X p)-(x d:Rat)
def GX(x y z:Vc) s a b (h:∀i,s*z i=a*x i+b*y i):(s:Rat)*mM d X z=(a:Rat)*mM d X x+(b:Rat)*mM d X y:=by
 have f:∀i,s*(z i)=a*(x i)+b*(y i:Rat):=λi=>by
  have:=h i;have e:((s*z i:Int):Rat)=((a*x i+b*y i:Int):Rat):=by rw[this]
  simpa using e
 unfold mM;have k:(s:Rat)*pL d (λp=>(z p:Rat)*X p)=(a:Rat)*pL d (λp=>(x p:Rat)*X p)+(b:Rat)*pL d (λp=>(y p:Rat)*X p):=by
  have:=se (s:Rat) 0 d (λp=>(z p:Rat)*X p) (λ_=>0);have j:=se (a:Rat) (b:Rat) d (λp=>(x p:Rat)*X p) (λp=>(y p:Rat)*X p);have g:pL d (λi=>(s:Rat)*((z i:Rat)*X i)+0*0)=pL d (λi=>(a:Rat)*((x i:Rat)*X i)+(b:Rat)*((y i:Rat)*X i)):=kK d _ _ λi _=>by have:=f i;grind
  rw[g,j]at this;grind
 have:=f d;grind
def CQ(h:∀p,p<d->x p=0):mM d X x = -(x d:Rat):=by
 unfold mM;have e:pL d (λp=>(x p)*X p)=0:=by rw[kK d _ (λ_=>0) λp a=>by rw[h p a];simp];exact ui d
 rw[e];grind
def QW(h:fc ρ=.ok false)(a:fd ρ=.ok b):L3.Jd fc fd ρ=.ok b:=by simp only[L3.Jd,h,a,M.bind_ok];rfl
def JA n k (h:k<n):wL n (k:Int)=some k:=by unfold wL;rw[aR (by lia),aR (by lia)];simp
def Uo l (k:Nat) t (h:l[k]? = some t):kW (.lst l) (.int (k:Int))=.ok t:=by
 have a:=(aa.mp h).1;have:rV l k=some t:=by unfold rV;rw[JA _ _ a];exact h
 simp[this]
def Mw row s i:vc (row.map λx=>s*x) i=s*vc row i:=by unfold vc;rw[af,af,aw];cases row[i]?<;>simp
def tZ a b i:vc (a++b) i=if i<a.length then vc a i else vc b (i-a.length):=by
 unfold vc;by_cases h:i<a.length
 .rw[aR h,af,List.getElem?_append_left h,<-af]
 .rw[aS h,af,List.getElem?_append_right (by lia),<-af]
def GL(d B:Nat)(a:LI):Prop:=a.length=d+1/\∀x∈a,Bn B x
structure GC(d B:Nat)(ns:LI):Prop where
 gl:GL d B ns
 re:∃p,p<d/\vc ns p≠0
def GL.mono(h:GL d B ns)(a:B<=B'):GL d B' ns:=⟨h.1,λx b=>(h.2 x b).mono a⟩
def GL.set(h:GL d B ns) k (hv:Bn B v):GL d B (ns.set k v):=⟨by rw[bV];exact h.1,λx a=>by
 rcases List.mem_or_eq_of_mem_set a with q|q
 .exact h.2 x q
 .rw[q];exact hv⟩
def R5 ns k v i (a:k<ns.length):vc (ns.set k v) i=if k=i then v else vc ns i:=by
 unfold vc;rw[af,List.getElem?_set];by_cases h:k=i
 .subst h;rw[aR rfl,aR rfl,aR a];rfl
 .rw[aS h,aS h,<-af]
def BV n k (h:k<n):wL n (k:Int)=some k:=by unfold wL;rw[aR (by lia),aR (by lia)];simp
def tj(n:Nat)(h:n<=1000)(a:f ρ=.ok (.int (n:Int))):nr (gO f gR) ρ=.ok ((List.range n).map λ(i:Nat)=>T.int (i:Int)):=by have hr:FB n=true:=nV (by lia);rw[<-S7];simp[a,hr]
def Qq cell (k d B:Nat) (fs:LL) (hk:k<=10) (hd:1<=d/\d<=3) (hB:10<=B) (hB2:B<=1000) (hf:∀f∈fs,GL d B f) (hfl:fs.length<=10) :
  ∃ns,lE c [.int cell,.int k,.int d,.lst (fs.map tI)]=.ok (tI ns)/\GC d (B+2) ns:=by
 have sz:1000<sizeLine:=by decide
 have hrd:FB ((d+1:Nat):Int)=true:=nV (by lia);obtain⟨d1,d1a,d1b⟩:=m5 (c:=c) cell 2 5 (by decide) (by decide) (by decide) (by decide);obtain⟨h,ew,hw⟩:=Hx [1,2,3,5,1000] (dr c cell 2 5) d1a (by simpa using d1b);have hw':1<=h/\h<=1000:=by simp only[aG,dE,or_false]at hw;lia
 let s:LI:=(List.range (d+1)).map λ(j:Nat)=>dr c cell (4+4*k+j) (2*h+1)-h;have g0:GL d (B+2) s:=⟨by simp[s],λx Y=>by obtain⟨j,hj,rfl⟩:=aE.mp Y;have hj':=aT.mp hj;obtain⟨_,a1,a2⟩:=m5 (c:=c) cell (4+4*k+j) (2*h+1) (by lia) (by lia) (by lia) (by lia);refine Bn.mono (m:=10) ?_ (by lia);unfold Bn;show _<1024;lia⟩
 obtain⟨d2,d2a,d2b⟩:=m5 (c:=c) cell (40+k) 6 (by decide) (by decide) (by lia) (by lia);let r:=dr c cell (40+k) 6;let St:LI->Option W->Option W->En:=λns E D=>[some (.p (.int cell)),some (.p (.int k)),some (.p (.int d)),some (.p (.lst (fs.map tI))),some (.p (.int h)),some (.o (ns.map T.int)),some (.p (.int r)),E,D];have e0:lM [none,some 4,some 0,some 1] (nr (gO (ik jl (gP 2) (cM (.int 1))) gR)) (km 0) (λ_=>.ok true) (uJ c) (lF [some (.p (.int cell)),some (.p (.int k)),some (.p (.int d)),some (.p (.lst (fs.map tI))),some (.p (.int h)),none,none,none,none])=.ok (s.map T.int):=by
  refine jZ (List.range (d+1)) (λ(j:Nat)=>T.int (j:Int)) (λ(j:Nat)=>T.int (dr c cell (4+4*k+j) (2*h+1)-h)) ?_ (by simp;lia) (λj hj=>⟨_,rfl,rfl,?_⟩) (by rw[aJ];rfl)
  .exact tj (d+1) (by lia) (gX rfl rfl (by rw[jb];simp))
  .have hj':=aT.mp hj;obtain⟨e,_,_⟩:=m5 (c:=c) cell (4+4*k+j) (2*h+1) (by lia) (by lia) (by lia) (by lia);exact gX (nc (y:=.int (4+4*(k:Int)+(j:Int))) (z:=.int (2*h+1)) rfl (gX (gX rfl (gX rfl rfl (mh (by decide))) (jb _ _)) rfl (jb _ _)) (gX (gX rfl rfl (mh (by decide))) rfl (jb _ _)) e) rfl (qi _ _)
 have P:∀neg,iY neg (.lst (fs.map tI)) (.lst [])=.ok (.bl (if neg then !fs.isEmpty else fs.isEmpty)):=λneg=>by rw[wZ neg (fs.map tI) (by simp) (aO (Dp fs) (by decide))];simp
 obtain⟨A,e1,g1⟩:∃A,(pP (zE (jL (ik (iY false) (gP 6) (cM (.int 1)))) (jL (ik (iY true) (gP 3) (jC (lstM gR))))) (pD 5 (yV (yh (jC (LN rj (gO (jY (ik kW (gP 3) (hW (gO (gP 0) (gO (ik jl (cM (.int 50)) (gP 1)) (gO (lC l6 (gO (gP 3) gR)) gR))) (iE c))) (λ_=>.ok none) (iW (gP 2))) gR))) (jY (gP 5) (iW (gP 2)) (λ_=>.ok none))))) jx) (St s none none)=.nx (St A none none)/\GL d (B+2) A:=by
  by_cases H:r=1/\fs≠[]
  .obtain⟨K,w⟩:=H;have hlp:=List.length_pos_iff.mpr w;obtain⟨d3,F,S⟩:=m5 (c:=c) cell (50+k) fs.length (by lia) (by lia) (by lia) (by lia);obtain⟨f,ef,I⟩:=BC fs (dr c cell (50+k) fs.length) F S;have J:=hf f I;refine⟨f.take d++s.drop d,jO ?_ (N3 (ts:=(f.take d++s.drop d).map T.int) ?_ (yt _) rfl),⟨?_,λx Y=>?_⟩⟩
   .have L:jL (ik (iY false) (gP 6) (cM (.int 1))) (vw (St s none none))=.ok true:=iH (gX (x:=.int r) rfl rfl (by rw[iO,K];rfl));have N:jL (ik (iY true) (gP 3) (jC (lstM gR))) (vw (St s none none))=.ok true:=iH (gX (x:=.lst (fs.map tI)) (y:=.lst []) rfl (by simp) (by rw[P];simp[w]));simp only[L3.zE,L,N,M.bind_ok];rfl
   .rw[a9];refine GF (a:=(f.take d).map T.int) (b:=(s.drop d).map T.int) ?_ ?_ (by simp;have:=g0.1;lia)
    .refine i5 ?_;have:=rL (fe:=ik kW (gP 3) (hW (gO (gP 0) (gO (ik jl (cM (.int 50)) (gP 1)) (gO (lC l6 (gO (gP 3) gR)) gR))) (iE c))) (fd:=gP 2) (d:=d) (ts:=f.map T.int) (ρ:=vw (St s none none)) (gX (x:=.lst (fs.map tI)) (y:=.int (dr c cell (50+k) fs.length)) rfl (nc (y:=.int (50+(k:Int))) (z:=.int (fs.length:Int)) rfl (gX rfl rfl (jb _ _)) (mG rfl (by simp)) d3) (by simp[qF,ef,tI])) rfl (by rw[ax,J.1];lia);simp only[LN,gO,gR,this,M.bind_ok];rw[dF];rfl
    .rw[dG];exact Az (ts:=s.map T.int) rfl rfl
   .rw[aU,bQ,bT,J.1,g0.1];lia
   .rcases ai.mp Y with q|q
    .exact (J.2 x (eQ q)).mono (by lia)
    .exact g0.2 x (eR q)
  .refine⟨s,jV ?_ rfl,g0⟩;have L:jL (ik (iY false) (gP 6) (cM (.int 1))) (vw (St s none none))=.ok (r==1):=iH (gX (x:=.int r) rfl rfl (iO _ _));have N:jL (ik (iY true) (gP 3) (jC (lstM gR))) (vw (St s none none))=.ok (!fs.isEmpty):=iH (gX (x:=.lst (fs.map tI)) (y:=.lst []) rfl (by simp) (by rw[P];rfl));simp only[L3.zE,L,N,M.bind_ok];by_cases K:r=1
   .have hn:fs=[]:=by
     by_cases hn:fs=[]
     .exact hn
     .exact absurd ⟨K,hn⟩ H
    rw[K,hn];rfl
   .have:(r==1)=false:=by simpa using K
    rw[this];rfl
 obtain⟨C,e2,g2⟩:∃C,(pP (jL (ik (iY false) (gP 6) (cM (.int 2)))) (zG 5 (wA (gP 2)) (wA (cM (.int 0)))) jx) (St A none none)=.nx (St C none none)/\GL d (B+2) C:=by
  by_cases h2:r=2
  .refine⟨A.set d 0,jO (iH (gX (x:=.int r) rfl rfl (by rw[iO,h2];rfl))) (FI (us:=A.map T.int) (t:=.int 0) (j:=(d:Int)) (m:=d) rfl rfl rfl rfl (BV _ _ (by rw[ax,g1.1];lia)) ?_),g1.set d uA⟩;show St (A.set d 0) none none=_;simp only[St,eS];rfl
  .exact⟨A,jV (iH (gX (x:=.int r) rfl rfl (by rw[iO];simp[h2]))) rfl,g1⟩
 obtain⟨u,E,D,e3,g3⟩:∃u E D,(pP (zE (jL (ik (iY false) (gP 6) (cM (.int 3)))) (jL (ik Ub (lC l6 (gO (gP 3) gR)) (cM (.int 1))))) (iw (setO 7 (kn (ik kW (gP 3) (hW (gO (gP 0) (gO (ik jl (cM (.int 50)) (gP 1)) (gO (ik wK (lC l6 (gO (gP 3) gR)) (cM (.int 1))) gR))) (iE c)))))
  (iw (setO 8 (kn (ik jl (cM (.int 1)) (hW (gO (gP 0) (gO (ik jl (cM (.int 60)) (gP 1)) (gO (cM (.int 3)) gR))) (iE c)))))
  (pD 5 (sv (lM [none,none,some 8] (nG (gO (ik kW (gP 3) (rW (λi=>.int (-i)) (cM (.int 1)))) (gO (gP 7) gR))) (mT 2 (iN (km 0) (iN (km 1) mP))) (λ_=>.ok true) (uf c)))))) jx) (St C none none)=.nx (St u E D)/\GL d (B+2) u:=by
  have L:jL (ik (iY false) (gP 6) (cM (.int 3))) (vw (St C none none))=.ok (r==3):=iH (gX (x:=.int r) rfl rfl (iO _ _))
  have N:jL (ik Ub (lC l6 (gO (gP 3) gR)) (cM (.int 1))) (vw (St C none none))=.ok (decide (1<(fs.length:Int))):=iH (gX (x:=.int (fs.length:Int)) (mG rfl (by simp)) rfl rfl)
  by_cases H:r=3/\1<fs.length
  .obtain⟨U,X⟩:=H;have w:fs≠[]:=by intro z;rw[z]at X;simp at X
   obtain⟨d3,F,S⟩:=m5 (c:=c) cell (50+k) (fs.length-1) (by lia) (by lia) (by lia) (by lia);obtain⟨f,ef,I⟩:=BC fs (dr c cell (50+k) (fs.length-1)) F (by lia);obtain⟨d4,d4a,d4b⟩:=m5 (c:=c) cell (60+k) 3 (by decide) (by decide) (by lia) (by lia);have Ru:rV fs (-1)=some (fs.getLast w):=by rw[KO _ w,List.getLast?_eq_getLast w]
   have gl:=hf _ (List.getLast_mem w);have J:=hf f I;generalize fs.getLast w=la at Ru gl;let v:Int:=1+dr c cell (60+k) 3;have hby:1<=v/\v<=3:=by show 1<=1+_/\1+_<=(3:Int);lia
   refine⟨(la.zip f).map λp=>p.1+v*p.2,some (.p (tI f)),some (.p (.int v)),jO ?_ (gW (ig (t:=tI f) (gX (x:=.lst (fs.map tI)) (y:=.int (dr c cell (50+k) (fs.length-1))) rfl (nc (y:=.int (50+(k:Int))) (z:=.int ((fs.length:Int)-1)) rfl (gX rfl rfl (jb _ _)) (gX (x:=.int (fs.length:Int)) (mG rfl (by simp)) rfl (qi _ _)) d3) (by simp[qF,ef])) rfl) (gW (ig (t:=.int v) (gX rfl (nc (y:=.int (60+(k:Int))) rfl (gX rfl rfl (jb _ _)) rfl d4) (jb _ _)) rfl) (pC (ts:=((la.zip f).map λp=>p.1+v*p.2).map T.int) ?_ rfl))),⟨by rw[ax,eT,gl.1,J.1];lia,λx Y=>?_⟩⟩
   .simp only[L3.zE,L,N,M.bind_ok];have:(r==3)=true:=by simpa using U
    rw[this];simp only[if_true];have:decide (1<(fs.length:Int))=true:=aD (by lia);rw[this]
   .refine jZ (la.zip f) (λp=>T.tup [.int p.1,.int p.2]) (λp=>T.int (p.1+v*p.2)) (vM (l:=la) (m:=f) (f:=T.int) (g:=T.int) (x:=tI la) (gX (x:=.lst (fs.map tI)) (y:=.int (-1)) rfl rfl (by simp[qF,Ru])) rfl rfl rfl) (by rw[eT,gl.1,J.1];lia) (λp Q=>⟨_,rfl,rfl,gX rfl (gX rfl rfl (mh ?_)) (jb _ _)⟩) (by rw[aJ];rfl);show v.natAbs<_;lia
   .obtain⟨p,Q,rfl⟩:=aE.mp Y;have K:=gl.2 _ (aX Q).1;have h2:=J.2 _ (aX Q).2;unfold Bn at *;rw[Nat.pow_add];have a1:=dM p.1 (v*p.2);have a2:(v*p.2).natAbs<=3*p.2.natAbs:=by rw[aZ];exact eU _ (by lia)
    lia
  .refine⟨C,none,none,jV ?_ rfl,g2⟩;simp only[L3.zE,L,N,M.bind_ok];by_cases U:r=3
   .have:(r==3)=true:=by simpa using U
    rw[this];have:decide (1<(fs.length:Int))=false:=aC (by intro z;exact H ⟨U,by lia⟩);rw[this];rfl
   .have:(r==3)=false:=by simpa using U
    rw[this];rfl
 have Z:jL (ik (iY false) (jY (gP 5) (λ_=>.ok none) (iW (gP 2))) (jC (IM (jC (lstM (gO (cM (.int 0)) gR))) (gP 2)))) (vw (St u E D))=.ok (decide (u.take d=List.replicate d 0)):=by refine iH (gX (x:=.lst ((u.take d).map T.int)) (y:=.lst ((List.replicate d (0:Int)).map T.int)) ?_ (QQ d (by lia) rfl) (by rw[LH];rfl));rw[dF];exact z9 (ts:=u.map T.int) rfl rfl
 have head:∀t,iw (pP (jL (ik (iY false) (jY (gP 5) (λ_=>.ok none) (iW (gP 2))) (jC (IM (jC (lstM (gO (cM (.int 0)) gR))) (gP 2))))) (zG 5 (wA (hW (gO (gP 0) (gO (ik jl (cM (.int 60)) (gP 1)) (gO (gP 2) gR))) (iE c))) (wA (cM (.int 1)))) jx) (jw (lC l0 (gO (gP 5) gR))) (St u E D)=.rt t->lE c [.int cell,.int k,.int d,.lst (fs.map tI)]=.ok t:=λt ht=>by refine iQ rfl (gW (ig (t:=.int h) (gX (x:=.lst ([1,2,3,5,1000].map T.int)) (y:=.int (dr c cell 2 5)) (VF rfl rfl rfl rfl rfl) (nc rfl rfl rfl d1) ew) rfl) (gW (pC (ts:=s.map T.int) e0 rfl) (gW (ig (t:=.int r) (nc (y:=.int (40+(k:Int))) rfl (gX rfl rfl (jb _ _)) rfl d2) rfl) (gW e1 (gW e2 (gW e3 ht))))))
 by_cases hz:u.take d=List.replicate d 0
 .obtain⟨d5,d5a,d5b⟩:=m5 (c:=c) cell (60+k) d (by lia) (by lia) (by lia) (by lia);obtain⟨p,Q⟩:∃p:Nat,dr c cell (60+k) d=(p:Int):=⟨(dr c cell (60+k) d).toNat,by lia⟩;rw[Q]at d5 d5b;refine⟨u.set p 1,head _ (gW (ρ':=St (u.set p 1) E D) (jO (by rw[Z,aD hz]) (FI (us:=u.map T.int) (t:=.int 1) (j:=(p:Int)) (m:=p) rfl rfl rfl (nc (y:=.int (60+(k:Int))) rfl (gX rfl rfl (jb _ _)) rfl d5) (BV _ _ (by rw[ax,g3.1];lia)) ?_)) (iA rfl)),⟨g3.set p (by have:=hB;exact (Sm (n:=0)).mono (by lia)),p,by lia,?_⟩⟩
  .simp only[St,eS];rfl
  .rw[R5 _ _ _ _ (by rw[g3.1];lia),aR rfl];decide
 .refine⟨u,head _ (gW (ρ':=St u E D) (jV (by rw[Z,aC hz]) rfl) (iA rfl)),⟨g3,?_⟩⟩;refine aP λH=>hz (List.eq_replicate_iff.mpr ⟨by rw[bQ,g3.1];lia,λb hb=>?_⟩);obtain⟨i,hi⟩:=List.getElem?_of_mem hb;have R:i<d:=by have:=(aa.mp hi).1;rw[bQ]at this;lia
  refine aP λhb0=>H ⟨i,R,?_⟩;rw[List.getElem?_take]at hi;rw[aR R]at hi;unfold vc;rw[af,hi];exact hb0
noncomputable def jW(a b:LI):Bool:=(List.range a.length).all λk=>(List.range k).all λj=>vc a k*vc b j==vc a j*vc b k
def CG n B a b (u:a.length=n) (L:b.length=n) (P:n<=10) (N:B<=1000) (s:∀x∈a,Bn B x) (v:∀x∈b,Bn B x):l8 c [tI a,tI b]=.ok (.bl (jW a b)):=by
 have sz:1000<sizeLine:=by decide
 have i:=tM (m:=mH 2) (λ(k:Nat)=>T.int (k:Int)) (λρ=>∃o d,ρ=[some (.p (tI a)),some (.p (tI b)),o,d]) (λk=>(List.range k).all λj=>vc a k*vc b j==vc a j*vc b k) (.bl false) (List.range n) [some (.p (tI a)),some (.p (tI b)),none,none] ⟨none,none,rfl⟩ (by
  rintro k E ρ ⟨o,d,rfl⟩;have K:=aT.mp E;refine⟨_,rfl,?_⟩;have l:=tM (m:=mH 3) (g:=wC c) (λ(j:Nat)=>T.int (j:Int)) (λρ=>∃d,ρ=[some (.p (tI a)),some (.p (tI b)),some (.p (.int (k:Int))),d]) (λj=>vc a k*vc b j==vc a j*vc b k) (.bl false) (List.range k) [some (.p (tI a)),some (.p (tI b)),some (.p (.int (k:Int))),d] ⟨d,rfl⟩ (by
   rintro j C ρ ⟨d,rfl⟩;have F:=aT.mp C;have y:=lu a k (by lia);have J:=lu b j (by lia);have z:=lu a j (by lia);have D:=lu b k (by lia);have A:=ke ((s _ (getD_mem a k (by lia))).ok (v _ (getD_mem b j (by lia))) (by lia) (by lia));have I:=ke ((s _ (getD_mem a j (by lia))).ok (v _ (getD_mem b k (by lia))) (by lia) (by lia));have w:jL (ik (iY true) (ik mF (ik kW (gP 0) (gP 2)) (ik kW (gP 1) (gP 3))) (ik mF (ik kW (gP 0) (gP 3)) (ik kW (gP 1) (gP 2)))) (vw [some (.p (tI a)),some (.p (tI b)),some (.p (.int (k:Int))),some (.p (.int (j:Int)))])=.ok (!(vc a k*vc b j==vc a j*vc b k)):=iH (gX (gX (gX rfl rfl y) (gX rfl rfl J) A) (gX (gX rfl rfl z) (gX rfl rfl D) I) (t8 _ _))
   refine⟨_,rfl,λh=>⟨_,jV (w.trans (by rw[h];rfl)) rfl,_,rfl⟩,λh=>jO (w.trans (by rw[h];rfl)) (iA rfl)⟩)
  have hr:=tj (f:=gP 2) (ρ:=vw [some (.p (tI a)),some (.p (tI b)),some (.p (.int (k:Int))),d]) k (by lia) rfl;refine⟨λh=>?_,λh=>sf hr (l.2 h)⟩;obtain⟨q,e,H,rfl⟩:=l.1 h;exact⟨_,sf hr e,_,_,rfl⟩)
 have hr:=tj (f:=lC l6 (gO (gP 0) gR)) (ρ:=vw (iX 4 [tI a,tI b])) n (by lia) (mG (t:=tI a) rfl (by simp[tI,u]));have r:jW a b=((List.range n).all λk=>(List.range k).all λj=>vc a k*vc b j==vc a j*vc b k):=by unfold jW;rw[u]
 cases h:jW a b with
 |true=>obtain⟨q,e,o,d,rfl⟩:=i.1 (by rw[<-r];exact h);exact iQ rfl (gW (sf hr e) (iA rfl))
 |false=>exact iQ rfl (l5 (sf hr (i.2 (by rw[<-r];exact h))) rfl)
def GC.mono(h:GC d B ns)(a:B<=B'):GC d B' ns:=⟨h.gl.mono a,h.re⟩
def rJ a (r:a.length<=100) (h:∃p,p<a.length/\vc a p≠0):∃p:Nat,jT c [tI a]=.ok (.int (p:Int))/\p<a.length/\vc a p≠0:=by
 obtain⟨q,o,i⟩:=h;obtain⟨b,e,p,rfl,l,f⟩:=qm (c:=jL (ik (iY false) (ik kW (gP 0) (gP 1)) (cM (.int 0)))) (g:=oH c)
  (λb=>∃k:Nat,b=[some (.p (tI a)),some (.p (.int (k:Int)))]/\k<=q) (λb=>match b with|_::some (.p (.int j))::_=>q-j.toNat|_=>0)
  (λb=>∃k:Nat,b=[some (.p (tI a)),some (.p (.int (k:Int)))]/\k<a.length/\vc a k≠0) (by
   rintro b ⟨k,rfl,hk⟩;have m:kW (tI a) (.int (k:Int))=.ok (.int (vc a k)):=lu a k (by lia);by_cases d:vc a k=0
   .have n:k≠q:=λz=>i (by rw[<-z];exact d);refine .inr ⟨iH (gX (gX rfl rfl m) rfl (by rw[iO,d];rfl)),_,.inl (ig (gX rfl rfl (by rw[jb];simp)) rfl),⟨k+1,rfl,by lia⟩,?_⟩;show q-(((k+1:Nat):Int)).toNat<q-((k:Int)).toNat;lia
   .exact .inl ⟨iH (gX (gX rfl rfl m) rfl (by rw[iO];simp[d])),k,rfl,by lia,d⟩)
  ((a.map T.int).length+1) [some (.p (tI a)),some (.p (.int ((0:Nat):Int)))] ⟨0,rfl,by lia⟩ (by rw[ax];lia)
 exact⟨p,iQ rfl (gW (ig rfl rfl) (gW e (iA rfl))),l,f⟩
def sI d B a b (Q:d<=3) (R:B<=1000) (f:GC d B a) (g:GL d B b) (h:jW a b=false):kc c [tI a,tI b]=.ok (.bl false):=by
 have sz:1000<sizeLine:=by decide
 have C:=f.gl.1;have J:=g.1;obtain⟨q,P,l⟩:=f.re;obtain⟨p,N,u,m⟩:=rJ a (by lia) ⟨q,by lia,l⟩;have v:=lu b p (by lia);have L:=lu a p u;have E:lM [none,none,some 1,some 2,some 0] (nG (gO (gP 0) (gO (gP 1) gR))) (mT 2 (iN (km 0) (iN (km 1) mP))) (λ_=>.ok true) (pN c) (vw [some (.p (tI a)),some (.p (tI b)),some (.p (.int p))])=.ok (((a.zip b).map λx=>x.1*vc b p==x.2*vc a p).map T.bl):=jZ (a.zip b) (λx=>T.tup [.int x.1,.int x.2]) (λx=>T.bl (x.1*vc b p==x.2*vc a p)) (vM rfl rfl rfl rfl) (by rw[eT];lia) (λx r=>⟨_,rfl,rfl,by have w:=f.gl.2 _ (aX r).1;have I:=g.2 _ (aX r).2;have H:=g.2 _ (getD_mem b p (by lia));have A:=f.gl.2 _ (getD_mem a p u);exact gX (gX rfl (gX rfl rfl v) (ke (w.ok H (by lia) (by lia)))) (gX rfl (gX rfl rfl L) (ke (I.ok A (by lia) (by lia)))) (iO _ _)⟩) (by rw[aJ];rfl)
 refine iQ rfl (gW (ig (mN rfl N) rfl) (iA (qh E ?_)));rw[rY];congr 2;cases o:((a.zip b).map λx=>x.1*vc b p==x.2*vc a p).all id with
 |false=>rfl
 |true=>
  exfalso;rw[cN]at o;have e:=C4.par_of_place m λi s=>by
   have y:(a.zip b)[i]? = some (a[i],b[i]'(by lia)):=by rw[List.getElem?_zip_eq_some];exact⟨ag s,ag (by lia)⟩
   have:=o _ (aE.mpr ⟨_,au y,rfl⟩);have K:a[i]*vc b p=(b[i]'(by lia))*vc a p:=by simpa using this
   show vc a i*vc b p=vc b i*vc a p;rw[jo a i s,jo b i (by lia)];exact K
  have:jW a b=true:=by unfold jW;refine cN.mpr λk D=>cN.mpr λj z=>?_;have n:=aT.mp D;have F:=aT.mp z;have:=e k j n (by lia);simpa[vc] using this
  rw[h]at this;cases this
structure sL(d B:Nat)(cs:LL):Prop where
 gc:∀f∈cs,GC d B f
 few:cs.length<=7
 pw:cs.Pairwise λa b=>jW a b=false
def JB(h:GC d B ns):sx d (tI ns)=true:=by
 obtain⟨p,g,a⟩:=h.re;have j:=h.gl.1;unfold tI sx;have b:(ns.map T.int).length=d+1:=by simp[j]
 have e:(ns.map T.int).all isInt=true:=cN.mpr λx f=>by obtain⟨y,-,rfl⟩:=aE.mp f;rfl
 show (decide ((ns.map T.int).length=d+1)&&(ns.map T.int).all isInt&&(match kj (ns.map T.int) with|some ns=>(ns.take d).any (· != 0)|none=>false))=true;rw[aD b,e,wz];refine eV.mpr ⟨vc ns p,?_,by simpa using a⟩;rw[jo ns p (by lia)];refine au (i:=p) ?_;rw[List.getElem?_take,aR g,ag (by lia)]
def BJ d B (b:LL) ns (o:1<=d/\d<=3) (r:B<=1000) (w:b.length<7) (u:∀f∈b,GC d B f) (g:GC d B ns) (k:∀f∈b,jW f ns=false):ml c [.int d,.lst (b.map tI),tI ns]=.ok (.bl true):=by
 have sz:1000<sizeLine:=by decide
 have h:=AZ (c:=c) d (by lia) (tI ns) rfl λv e=>by cases e;refine⟨by rw[ax,g.gl.1];lia,λt m=>by obtain⟨y,-,rfl⟩:=aE.mp m;rfl⟩
 rw[JB g]at h;have n:lM [none,some 2] (jP (gP 1)) (km 0) (λ_=>.ok true) (qG c) (vw (iX 3 [.int d,.lst (b.map tI),tI ns]))=.ok ((b.map λ_=>false).map T.bl):=jZ b tI (λ_=>T.bl false) rfl (by lia) (λf i=>⟨_,rfl,rfl,jI rfl rfl (sI d B f ns o.2 r (u f i) g.gl (k f i))⟩) (by rw[aJ];rfl)
 have q:jL (ik Vu (lC l6 (gO (gP 1) gR)) (cM (.int 7))) (vw (iX 3 [.int d,.lst (b.map tI),tI ns]))=.ok false:=iH (gX (x:=.int (b.length:Int)) (mG (t:=.lst (b.map tI)) rfl (by simp)) rfl (by rw[Pp];congr 2;exact aC (by lia)))
 have p:jL (hW (gO (gP 0) (gO (gP 2) gR)) (mB c)) (vw (iX 3 [.int d,.lst (b.map tI),tI ns]))=.ok true:=iH (jI rfl rfl h);refine iQ rfl (gW (jV ?_ rfl) (iA ?_))
 .simp only[L3.Jd,L3.qC,q,p,M.bind_ok];rfl
 .have s:lC qq (gO (jC (lM [none,some 2] (jP (gP 1)) (km 0) (λ_=>.ok true) (qG c))) gR) (vw (iX 3 [.int d,.lst (b.map tI),tI ns]))=.ok (.bl false):=by
   refine qh n ?_;rw[xq];congr 2;induction b with
   |nil=>rfl
   |cons a l ih=>simp
  have j:=iH s;simp only[Cg,j,M.bind_ok];rfl
def FN d B cs (u:1<=d/\d<=3) (A:B<=1000) (h:sL d B cs):kG c [.int d,.lst (cs.map tI)]=.ok (.tup (cs.map tI)):=by
 have sz:1000<sizeLine:=by decide
 have j:=h.few;obtain⟨n,e,r,rfl⟩:=lg (m:=mH 3) (g:=qI c) tI
  (λk n=>∃r:Option W,n=[some (.p (.int d)),some (.p (.lst (cs.map tI))),some (.o ((cs.take k).map tI)),r])
  cs 0 _ ⟨none,rfl⟩ (by
   rintro k a n b ⟨r,rfl⟩;rw[aH];have v:=(aa.mp b).1;have l:=BJ (c:=c) d B (cs.take k) a u A (by rw[bQ];lia) (λf j=>h.gc f (eQ j)) (h.gc a (au b)) λf j=>by have s:=h.pw;rw[<-eW k cs,eJ]at s;refine s.2.2 f j a ?_;refine au (i:=0) ?_;rw[List.getElem?_drop,eX];exact b
   have q:jL (hW (gO (gP 0) (gO (gP 2) (gO (gP 3) gR))) (ml c)) (vw [some (.p (.int d)),some (.p (.lst (cs.map tI))),some (.o ((cs.take k).map tI)),some (.p (tI a))])=.ok true:=iH (nc (y:=.lst ((cs.take k).map tI)) (z:=tI a) rfl rfl rfl l);refine⟨_,_,rfl,.inl (gW (jV (tU q rfl) rfl) (vP (us:=(cs.take k).map tI) (t:=tI a) rfl (mG (t:=tI a) rfl rfl) (by rw[ax,bQ];lia) rfl)),some (.p (tI a)),?_⟩;rw[jJ cs k a b,a9];rfl)
 rw[aH,eK]at e;have x:jL (hW (gO (gP 0) gR) (nZ c)) (vw (iX 4 [.int d,.lst (cs.map tI)]))=.ok true:=iH (mN rfl (Fg d u));have w:jL (BS "list" (gP 1)) (vw (iX 4 [.int d,.lst (cs.map tI)]))=.ok true:=rfl;refine iQ rfl (gW (jV ?_ rfl) (gW (pC (ts:=[]) (by simp) rfl) (gW (lz rfl e) (iA rfl))));simp only[L3.Jd,L3.qC,x,w,M.bind_ok];rfl
noncomputable def jN(c:Cs)(d:Nat)(cs:LL):T:=.obj c.Cutting [("own_cuts",.tup (cs.map tI)),("own_dims",.int d)]
def B6 d B cs (b:1<=d/\d<=3) (a:B<=1000) (h:sL d B cs):ja c [.int d,.lst (cs.map tI)]=.ok (jN c d cs):=by have e:=FN (c:=c) d B cs b a h;have q:hW (gO (gP 1) (gO (gP 2) gR)) (kG c) (none::[T.int d,.lst (cs.map tI)].map some)=.ok (.tup (cs.map tI)):=jI rfl rfl e;unfold ja AY;rw[aR (show [T.int d,T.lst (cs.map tI)].length=2 from rfl),q];rfl
def yo(h:f ρ=.ok (.obj C fs))(a:fs.lookup x=some t):sY C x f ρ=.ok t:=by unfold sY;rw[h,M.bind_ok];show (if C=C then (match fs.lookup x with|some t=>M.ok t|none=>.bad) else .bad)=_;rw[aR rfl,a]
def uZ(d:Nat)(cs:LL){f:Pe->M T}{ρ:Pe}(e:f ρ=.ok (jN c d cs)):mx c.Cutting "dims" f gR (iJ c) ρ=.ok (.int d):=by
 have b:sW c.Cutting "dims" (jN c d cs)=.ok ():=by unfold sW jN;exact aR ⟨rfl,rfl⟩
 have a:iJ c [jN c d cs]=.ok (.int d):=iQ rfl (iA (yo rfl rfl));simp only[mx,e,M.bind_ok,b,gR,a,M.noEr_ok]
def xy d cs (e:f ρ=.ok (jN c d cs)):pI c.Cutting "cuts" f gR (iI c) ρ=.ok (cs.map tI):=by
 have b:sW c.Cutting "cuts" (jN c d cs)=.ok ():=by unfold sW jN;exact aR ⟨rfl,rfl⟩
 have a:iI c [jN c d cs]=.ok (cs.map tI):=yz rfl (qk (by have:sY c.Cutting "own_cuts" (gP 0) (vw (iX 1 [jN c d cs]))=.ok (.tup (cs.map tI)):=yo rfl rfl;simp only[LN,gO,gR,this,M.bind_ok];rfl))
 simp only[pI,e,M.bind_ok,b,gR,a,M.noEr_ok]
def E5 cell (h:Nat) (N:h<=7):∃(d:Nat) (cs:LL),lj c [.int cell,.int (h:Int)]=.ok (.tup [.int d,.lst (cs.map tI)])/\(1<=d/\d<=3)/\sL d 30 cs/\cs.length<=h:=by
 have sz:1000<sizeLine:=by decide
 obtain⟨d1,I,K⟩:=m5 cell 0 5 (by decide) (by decide) (by decide) (by decide);obtain⟨X,ed,u⟩:=Hx [1,2,2,3,3] (dr c cell 0 5) I (by simpa using K);obtain⟨d,rfl⟩:∃d:Nat,X=(d:Int):=⟨X.toNat,by simp only[aG,dE,or_false]at u;lia⟩;have U:1<=d/\d<=3:=by simp only[aG,dE,or_false]at u;lia
 obtain⟨S,d2a,A⟩:=m5 (c:=c) cell 1 ((h+1:Nat):Int) (by lia) (by lia) (by decide) (by decide);obtain⟨n,hn⟩:∃n:Nat,dr c cell 1 ((h+1:Nat):Int)=(n:Int):=⟨(dr c cell 1 ((h+1:Nat):Int)).toNat,by lia⟩;rw[hn]at S A;obtain⟨C,e,cs,D,w,rfl,F,s,v⟩:=lg (m:=mH 4) (g:=qZ c) (λ(i:Nat)=>T.int (i:Int))
  (λk C=>∃(cs:LL) (D w:Option W),C=[some (.p (.int cell)),some (.p (.int (h:Int))),some (.p (.int d)),some (.o (cs.map tI)),D,w]/\cs.length<=k/\(∀f∈cs,GC d (10+2*k) f)/\cs.Pairwise λa b=>jW a b=false)
  (List.range n) 0 _ ⟨[],none,none,rfl,aL _,(λf r=>nomatch r),List.Pairwise.nil⟩ (by
   rintro i k C E ⟨cs,D,w,rfl,F,s,v⟩;rw[aH]at F s ⊢;have B:i<n:=by simpa using (aa.mp E).1
   have P:k=i:=by rw[List.getElem?_range B]at E;cases E;rfl
   subst P;obtain⟨j,en,J⟩:=Qq (c:=c) cell k d (10+2*k) cs (by lia) U (by lia) (by lia) (λf r=>(s f r).gl) (by lia);let R:En:=[some (.p (.int cell)),some (.p (.int (h:Int))),some (.p (.int d)),some (.o (cs.map tI)),some (.p (.int (k:Int))),some (.p (tI j))];have e1:lM [none,some 5] (jP (gP 3)) (km 0) (jL (hW (gO (gP 0) (gO (gP 1) gR)) (l8 c))) (om c) (vw R)=.ok ((cs.filter λf=>jW f j).map tI):=yU cs tI tI (λf=>jW f j) rfl (by lia) (λf r=>⟨_,rfl,iH (jI rfl rfl (CG (c:=c) (d+1) (10+2*k+2) f j (s f r).gl.1 J.gl.1 (by lia) (by lia) (λx hx=>((s f r).gl.2 x hx).mono (by lia)) J.gl.2)),λ_=>rfl⟩) rfl
   have Y:jL (ik (iY false) (jC (lM [none,some 5] (jP (gP 3)) (km 0) (jL (hW (gO (gP 0) (gO (gP 1) gR)) (l8 c))) (om c))) (jC (lstM gR))) (vw R)=.ok (cs.filter λf=>jW f j).isEmpty:=by refine iH (gX (x:=.lst ((cs.filter λf=>jW f j).map tI)) (y:=.lst []) (i5 e1) (by simp) ?_);rw[wZ false _ (by simp) (aO (Dp _) (by decide))];simp
   have Q:setO 5 (wA (hW (gO (gP 0) (gO (gP 4) (gO (gP 2) (gO (gP 3) gR)))) (lE c))) [some (.p (.int cell)),some (.p (.int (h:Int))),some (.p (.int d)),some (.o (cs.map tI)),some (.p (.int (k:Int))),w]=.nx R:=Hc (t:=tI j) (Rr rfl rfl rfl rfl en) (UQ j) rfl;by_cases L:(cs.filter λf=>jW f j)=[]
   .refine⟨_,_,rfl,.inl (gW Q (jO (Y.trans (by rw[L];rfl)) (vP (us:=cs.map tI) (t:=tI j) rfl rfl (by simp;lia) rfl))),cs++[j],_,_,by rw[a9];rfl,by simp;lia,λf r=>?_,eJ.mpr ⟨v,c6 _ _,λf r g H=>?_⟩⟩
    .rcases ai.mp r with q|q
     .exact (s f q).mono (by lia)
     .rw[aj.mp q];exact J.mono (by lia)
    .rw[aj.mp H];cases hs:jW f j with
     |false=>rfl
     |true=>have:f∈cs.filter λf=>jW f j:=aV.mpr ⟨r,hs⟩;rw[L]at this;exact nomatch this
   .refine⟨_,_,rfl,.inl (gW Q (jV (Y.trans (by
     cases Z:(cs.filter λf=>jW f j) with
     |nil=>exact absurd Z L
     |cons a l=>rfl)) rfl)),cs,_,_,rfl,by lia,λf r=>(s f r).mono (by lia),v⟩)
 rw[aH,eY]at F s;refine⟨d,cs,iQ rfl (gW (ig (t:=.int d) (gX (x:=.lst ([1,2,2,3,3].map T.int)) (y:=.int (dr c cell 0 5)) (VF rfl rfl rfl rfl rfl) (nc rfl rfl rfl d1) ed) rfl) (gW (pC (ts:=[]) (by simp) rfl) (gW (sf (tj n (by lia) (nc (z:=.int ((h+1:Nat):Int)) rfl rfl (gX rfl rfl rfl) S)) e) (iA (yc rfl rfl))))),U,⟨λf r=>(s f r).mono (by lia),by lia,v⟩,by lia⟩
def N6 d us (e:f ρ=.ok (jN c d us)):mx c.Cutting "many" f gR (kx c) ρ=.ok (.int us.length):=by
 have b:sW c.Cutting "many" (jN c d us)=.ok ():=by unfold sW jN;exact aR ⟨rfl,rfl⟩
 have a:kx c [jN c d us]=.ok (.int us.length):=iQ rfl (iA (mG (yo rfl rfl) (by simp)));simp only[mx,e,M.bind_ok,b,gR,a,M.noEr_ok]
noncomputable def S2(a b:LI):Int:=((a.zip b).map λp=>p.1*p.2).sum
end CL
namespace CL
open PySem L2 L3
variable {c:Cs}
def OG{a:Type}[Inhabited a](l:List a) f k w (h:k<l.length):kW (.lst (l.map f)) (.int (k:Int))=.ok (f (l.getD k w)):=by have e:=FX (l.map f) k (by rw[ax];exact h);rw[eM]at e;show (match rV (l.map f) k with|some t=>M.ok t|none=>.bad)=_;rw[e,af,ag h];rfl
def BW(k n:Nat)(h:k<n):jr c [.int (k:Int),.int (n:Int)]=.ok (.bl true):=by
 have w:∀i:Int,jK c [.int i]=.ok (.bl true):=λi=>rfl;refine iQ rfl (iA ?_);have b:0<=k:=by omega
 have a:k<n:=by omega
 simp[w,b,a]
def DT l k i:vc (l.drop k) i=vc l (k+i):=by unfold vc;rw[af,List.getElem?_drop,<-af]
def JQ(d:a ρ=.rf ts)(hr:.rf ts=r):iw a b ρ=r:=by unfold iw;rw[d];exact hr
def uu m A u:jD m A u=jD m u A:=by unfold jD;exact iB _ _ _ λi _=>dz _ _
def SS n k f (a:k<n) (h:∀i,i<n->i≠k->f i=0):sm n f=f k:=by
 rw[<-Cr n k f a];exact iB _ _ _ λi b=>by
  by_cases e:i=k
  .rw[aR e];simp
  .rw[aS e,h i b e];simp
def V7(x:Rat):Int:=if 0<x then 1 else if x<0 then -1 else 0
def Tz{jE a:Int}(g:0<a)(e:(jE:Rat)=(a:Rat)*v):kX jE=V7 v:=by
 have f:=FZ g;unfold kX V7;rcases e6 jE 0 with h|h|h
 .have d:(jE:Rat)<0:=by exact_mod_cast h
  have b:v<0:=by refine e8 ?_ (fg f);grind
  rw[aS (by lia),aR h,aS (by grind),aR b]
 .have d:(jE:Rat)=0:=by rw[h];rfl
  have b:v=0:=by grind
  rw[aS (by lia),aS (by lia),aS (by grind),aS (by grind)]
 .have d:=FZ h;have b:0<v:=by refine e8 ?_ (fg f);grind
  rw[aR h,aR b]
def sL.mono(h:sL d B us)(a:B<=B'):sL d B' us:=⟨λf b=>(h.gc f b).mono a,h.few,h.pw⟩
theorem w6:∀n f,((sm n f:Int):Rat)=pL n λi=>(f i:Rat)
 |0,_=>rfl
 |n+1,f=>by unfold sm pL;rw[<-w6 n λi=>f (i+1)];simp
def rE(h:∀x∈u,Bn B x) k:Bn B (vc u k):=by
 by_cases a:k<u.length
 .rw[jo u k a];exact h _ (aW _)
 .rw[jg u k (by omega)];exact uA
def CV{d:Nat}{v:Vc}:∀(os:List (Nat×LI)),(∀p∈os,p.1<d/\vc p.2 p.1≠0)->os.Pairwise (λp q=>vc q.2 p.1=0)->(∀p∈os,jD d (vc p.2) v=0)->(∀i,i∉os.map Prod.fst->v i=0)->∀p∈os,v p.1=0:=λos=>by
 induction h:os.length generalizing os v with
 |zero=>have:os=[]:=fj.mp h;subst this;intro _ _ _ _ p a;cases a
 |succ n ih=>
  intro g f o k;rcases fq os with e|⟨l,x,e⟩
  .subst e;cases h
  .rw[fu]at e;subst e;rw[eJ]at f;have b:x∈l++[x]:=by simp
   have j:v x.1=0:=by
    have e:=o x b;unfold jD at e;rw[SS d x.1 _ (g x b).1 λi m ne=>by
     by_cases q:i∈(l++[x]).map Prod.fst
     .rw[a9,ai]at q;rcases q with q|q
      .obtain⟨p,a,rfl⟩:=aE.mp q;rw[f.2.2 p a x (by simp)];exact d9 _
      .simp at q;exact absurd q ne
     .rw[k i q];exact eE _]at e
    exact Jg (g x b).2 e
   have r:=ih (v:=v) l (by simpa using h) (λp a=>g p (by simp[a])) f.1 (λp a=>o p (by simp[a])) (λi m=>by
    by_cases q:i=x.1
    .rw[q];exact j
    .refine k i λz=>?_;rw[a9,ai]at z;rcases z with z|z
     .exact m z
     .simp at z;exact q z)
   intro p a;rcases ai.mp a with q|q
   .exact r p q
   .rw[aj.mp q];exact j
def jF{P:Vc->Prop}{z v:Vc}{m:Nat}(q:Qs P z)(h:∀x,P x->jD m x v=0):jD m z v=0:=by
 induction q with
 |of p=>exact h _ p
 |zero=>rw[uu];unfold jD;rw[iB m _ (λ_=>0) λi _=>eE _];exact lB m
 |lin _ _ hs e i1 i2=>have:=Gw (m:=m) (A:=v) e;rw[uu m v,uu m v,uu m v,i1,i2,eE,eE]at this;exact Jg hs (by lia)
def Th{vs:LL}(h:zw vs m n ah):(ah.map Prod.fst).Nodup:=by rw[List.Nodup,c8];refine h.tri.imp_of_mem λ{p q} _ hq e z=>h.nz q hq ?_;rw[<-z];exact e
def qO{vs:LL}(h:zw vs m vs.length ah)(e:List Vc)(g:∀v:Vc,(∀A∈e,jD m A v=0)->∀r∈vs,jD m (vc r) v=0):ah.length<=e.length:=by
 refine cq λd=>?_;have lt:∀p∈ah,p.1<m/\vc p.2 p.1≠0:=λp a=>⟨(h.bd p a).1,h.nz p a⟩;obtain⟨v,⟨j,f⟩,out,k⟩:=pR m e (ah.map Prod.fst) (Th h) (λt i=>by obtain⟨p,a,rfl⟩:=aE.mp i;exact (lt p a).1) (by rw[ax];exact d)
 have z:=CV ah lt h.tri (λp a=>jF (h.ps p a) λx ⟨w,hw,ex⟩=>by rw[ex];exact g v k w (eQ hw)) out;have b:j∈ah.map Prod.fst:=aP λz=>f (out j z);obtain⟨p,a,rfl⟩:=aE.mp b;exact f (z p a)
def qV{vs b:LL}(h:zw vs m vs.length d)(h':zw b m b.length a)(e:∀v:Vc,(∀r∈vs,jD m (vc r) v=0)↔∀r∈b,jD m (vc r) v=0):d.length=a.length:=by
 have go:∀{vs b:LL} {d a:List (Nat×LI)},zw vs m vs.length d->zw b m b.length a->(∀v:Vc,(∀r∈b,jD m (vc r) v=0)->∀r∈vs,jD m (vc r) v=0)->d.length<=a.length:=λ{vs b d a} h h' e=>by
  have:=qO h (a.map λp=>vc p.2) λv hv=>e v λr hr=>jF (h'.sp r (by rw[eK];exact hr)) λx ⟨p,hp,ex⟩=>by rw[ex];exact hv _ (aE.mpr ⟨p,hp,rfl⟩)
  rw[ax]at this;exact this
 exact fv (go h h' λv=>(e v).mpr) (go h' h λv=>(e v).mp)
def ux(d:Nat)(u:LI)(v:Vc):jD d (vc (u.take d)) v=jD d (vc u) v:=iB _ _ _ λi a=>by unfold vc;rw[af,List.getElem?_take_of_lt a,<-af]
def KI{m:Nat}{os:List (Nat×LI)}(lt:∀p∈os,p.1<m/\vc p.2 p.1≠0)(tri:os.Pairwise λp q=>vc q.2 p.1=0)(d:List Vc)(k:∀v:Vc,(∀A∈d,jD m A v=0)->∀p∈os,jD m (vc p.2) v=0):os.length<=d.length:=by
 refine cq λa=>?_;have nd:(os.map Prod.fst).Nodup:=by rw[List.Nodup,c8];exact tri.imp_of_mem λ{p q} _ hq e z=>(lt q hq).2 (by rw[<-z];exact e)
 obtain⟨v,⟨j,g⟩,out,h⟩:=pR m d (os.map Prod.fst) nd (λt i=>by obtain⟨p,f,rfl⟩:=aE.mp i;exact (lt p f).1) (by rw[ax];exact a)
 have z:=CV os lt tri (k v h) out;have b:j∈os.map Prod.fst:=aP λz=>g (out j z);obtain⟨p,f,rfl⟩:=aE.mp b;exact g (z p f)
def lK{vs:LL}{m:Nat}{a os:List (Nat×LI)}(h:zw vs m vs.length a)(lt:∀p∈os,p.1<m/\vc p.2 p.1≠0)(tri:os.Pairwise λp q=>vc q.2 p.1=0)(b:∀v:Vc,(∀r∈vs,jD m (vc r) v=0)->∀p∈os,jD m (vc p.2) v=0):os.length<=a.length:=by
 have:=KI lt tri (a.map λp=>vc p.2) λv hv=>b v λr hr=>jF (h.sp r (by rw[eK];exact hr)) λx ⟨p,hp,ex⟩=>by rw[ex];exact hv _ (aE.mpr ⟨p,hp,rfl⟩)
 rw[ax]at this;exact this
section
variable {d B:Nat}{iT rs:LL}{pv ah ah0:List (Nat×LI)}
def PP.tri(h:PP d B iT pv rs):pv.Pairwise λp q=>vc q.2 p.1=0:=h.pw.imp λq=>q.2.1
def DE(h:PP d B iT pv rs)(g:zw (iT.map (·.take d)) d (iT.map (·.take d)).length ah0):ah0.length=pv.length:=by
 refine fv ?_ ?_
 .have:=qO g (pv.map λp=>vc p.2) λv hv r hr=>by
   obtain⟨r,e,rfl⟩:=aE.mp hr;rw[ux];refine jF (h.sp r e) λx k=>?_;rcases k with⟨p,a,b⟩|⟨j,f,b⟩
   .rw[b];exact hv _ (aE.mpr ⟨p,a,rfl⟩)
   .rw[b];unfold jD;rw[iB d _ (λ_=>0) λi l=>by rw[(h.rr j f).2.1 i l,d9]];exact lB d
  rw[ax]at this;exact this
 .exact lK g (λp a=>⟨(h.pl p a).1,(h.pl p a).2.2.1⟩) h.tri λv hv p a=>jF (h.pl p a).2.2.2.2 λx ⟨r,hr,b⟩=>by rw[b,<-ux];exact hv _ (aE.mpr ⟨r,hr,rfl⟩)
def n5(h:PP d B iT pv rs)(hz:∀r∈rs,vc r d=0)(h1:zw iT (d+1) iT.length ah):ah.length=pv.length:=by
 refine fv ?_ (lK h1 (λp hp=>⟨by have:=(h.pl p hp).1;lia,(h.pl p hp).2.2.1⟩) h.tri λv hv p hp=>jF (h.pl p hp).2.2.2.2 λx ⟨r,hr,ex⟩=>by rw[ex];exact hv r hr);have:=qO h1 (pv.map λp=>vc p.2) λv hv r hr=>jF (h.sp r hr) λx hx=>by
  rcases hx with⟨p,hp,ex⟩|⟨r',hr',ex⟩
  .rw[ex];exact hv _ (aE.mpr ⟨p,hp,rfl⟩)
  .rw[ex];unfold jD;rw[iB (d+1) _ (λ_=>0) λi hi=>by
    have:vc r' i=0:=by
     by_cases z:i<d
     .exact (h.rr r' hr').2.1 i z
     .rw[show i=d by lia];exact hz r' hr'
    rw[this,d9]];exact lB _
 rw[ax]at this;exact this
def Jk(h:PP d B iT pv rs){r:LI}(hr:r∈rs)(b:vc r d≠0)(f:zw iT (d+1) iT.length ah):pv.length<ah.length:=by
 have:=lK (os:=pv++[(d,r)]) f (λp a=>by
  rcases ai.mp a with q|q
  .exact⟨by have:=(h.pl p q).1;lia,(h.pl p q).2.2.1⟩
  .rw[aj.mp q];exact⟨by lia,b⟩) (eJ.mpr ⟨h.tri,c6 _ _,λp a q e=>by rw[aj.mp e];exact (h.rr r hr).2.1 _ (h.pl p a).1⟩) λv hv p a=>by
  rcases ai.mp a with q|q
  .exact jF (h.pl p q).2.2.2.2 λx ⟨r,hr,ex⟩=>by rw[ex];exact hv r hr
  .rw[aj.mp q];exact jF (h.rr r hr).2.2 λx ⟨r,hr,ex⟩=>by rw[ex];exact hv r hr
 simp at this;lia
def ve(h:PP d B iT pv rs)(I:∀r∈rs,vc r d=0){u left:LI}{g s:Int}{y:Vc}(L:0<g)(N:0<s)(A:Qs (Ar pv) y)(e:∀i,g*vc left i=s*vc u i+1*y i)(K:∀p∈pv,vc left p.1=0)(P:left.length=d+1)
  (C:zw (iT++[u]) (d+1) (iT++[u]).length ah):ah.length=pv.length↔∀i,vc left i=0:=by
 have E:∀p∈pv,Qs (VP (iT++[u])) (vc p.2):=λp f=>rP (h.pl p f).2.2.2.2;have k:∀{x:Vc} {v:Vc},Qs (VP (iT++[u])) x->(∀r∈iT++[u],jD (d+1) (vc r) v=0)->jD (d+1) x v=0:=λq hv=>jF q λx ⟨r,hr,m⟩=>by rw[m];exact hv r hr
 have n:=lK C (λp f=>⟨by have:=(h.pl p f).1;lia,(h.pl p f).2.2.1⟩) h.tri λv hv p f=>k (E p f) hv;constructor
 .intro Q i;refine aP λF=>?_;have D:i<d+1:=aP λz=>F (jg left i (by lia));have:=lK (os:=pv++[(i,left)]) C (λp f=>by
   rcases ai.mp f with q|q
   .exact⟨by have:=(h.pl p q).1;lia,(h.pl p q).2.2.1⟩
   .rw[aj.mp q];exact⟨D,F⟩) (eJ.mpr ⟨h.tri,c6 _ _,λp f q J=>by rw[aj.mp J];exact K p f⟩) λv hv p f=>by
   rcases ai.mp f with q|q
   .exact k (E p q) hv
   .rw[aj.mp q];exact k (xp h L A e) hv
  simp at this;lia
 .intro j;refine fv ?_ n;have:=qO C (pv.map λp=>vc p.2) λv hv r hr=>by
   have H:∀x,Ar pv x->jD (d+1) x v=0:=λx ⟨p,f,m⟩=>by rw[m];exact hv _ (aE.mpr ⟨p,f,rfl⟩)
   rcases ai.mp hr with q|q
   .refine jF (h.sp r q) λx w=>?_;rcases w with w|⟨o,l,m⟩
    .exact H x w
    .rw[m];unfold jD;rw[iB (d+1) _ (λ_=>0) λi D=>by
      have:vc o i=0:=by
       by_cases z:i<d
       .exact (h.rr o l).2.1 i z
       .rw[show i=d by lia];exact I o l
      rw[this,d9]];exact lB _
   .rw[aj.mp q];refine jF (.lin (s:=s) (a:=-1) (b:=0) (z:=vc u) A A (by lia) λi=>?_) H;have:=e i;rw[j i]at this;lia
  rw[ax]at this;exact this
end
def JF a:0<=kX a*a/\(a≠0->0<kX a*a/\kX a*kX a=1/\kX a≠0):=by
 unfold kX;split
 .exact⟨by lia,λ_=>⟨by lia,rfl,by decide⟩⟩
 .split
  .exact⟨by lia,λ_=>⟨by lia,rfl,by decide⟩⟩
  .exact⟨by lia,λh=>by lia⟩
theorem qr:∀n f,sm (n+1) f=sm n f+f n
 |0,f=>by rw[sm,sm,sm];lia
 |n+1,f=>by rw[sm,qr n λi=>f (i+1),sm];lia
def Pv(h:a+b≠0) u:(a+b)*mM d (λj=>(b*X j+a*Z j) / (a+b)) u=b*mM d X u+a*mM d Z u:=by
 unfold mM;have e:pL d (λp=>(u p)*((b*X p+a*Z p) / (a+b)))=(b / (a+b))*pL d (λp=>(u p)*X p)+(a / (a+b))*pL d (λp=>(u p)*Z p):=by rw[<-se];exact kK _ _ _ λi _=>by grind
 rw[e];grind
noncomputable def hv(d:Nat)(u P:Vc):Int:=sm d (λi=>u i*P i)-u d*P d
def XP(d:Nat)(P:Vc):Nat->Rat:=λi=>(P i:Rat) / (P d:Rat)
def MP(h:0<P d):(hv d u P:Rat)=(P d:Rat)*mM d (XP d P) u:=by
 have b:(P d:Rat)≠0:=λz=>by have:=FZ h;grind
 have e:(P d)*pL d (λi=>(u i)*XP d P i)=pL d λi=>(u i)*(P i):=by have:=se (P d) 0 d (λi=>(u i)*XP d P i) (λ_=>0);rw[kK d _ (λi=>(u i)*(P i)) λi _=>by unfold XP;grind]at this;grind
 unfold hv mM;have a:((sm d (λi=>u i*P i)-u d*P d:Int):Rat)=pL d (λi=>(u i)*(P i))-(u d)*(P d):=by rw[Rat.intCast_sub,w6,fw];rw[kK d _ (λi=>(u i)*(P i)) λi _=>fw _ _]
 rw[a];grind
def RE(h:0<P d):kX (hv d u P)=V7 (mM d (XP d P) u):=Tz h (MP h)
def Tv(h:∀i,g*z i=a*x i+b*y i):g*hv d z P=a*hv d x P+b*hv d y P:=by
 unfold hv;rw[eI,eI,eI,<-kC,<-kC,<-kC];have e:sm d (λi=>g*(z i*P i))=sm d (λi=>a*(x i*P i))+sm d (λi=>b*(y i*P i)):=by rw[kC a,kC b,<-vI];exact iB d _ _ λi _=>by have:=h i;grind
 rw[e];grind
def OZ(h:∀i,g*R i=a*P i+b*Q i):g*hv d u R=a*hv d u P+b*hv d u Q:=by
 unfold hv;rw[eI,eI,eI,<-kC,<-kC,<-kC];have e:sm d (λi=>g*(u i*R i))=sm d (λi=>a*(u i*P i))+sm d (λi=>b*(u i*Q i)):=by rw[kC a,kC b,<-vI];exact iB d _ _ λi _=>by have:=h i;grind
 rw[e];grind
noncomputable def sk(p i:Nat):Nat:=if i<p then i else i+1
def Ou p i:sk (p+1) (i+1)=sk p i+1:=by unfold sk;split<;>split<;>lia
theorem FP:∀d p f,p<=d->pL (d+1) f=pL d (λi=>f (sk p i))+f p
 |0,0,f,_=>by unfold pL pL;grind
 |d+1,0,f,_=>by
  rw[pL];have:(λi=>f (sk 0 i))=λi=>f (i+1):=funext λi=>by simp[sk]
  rw[this];grind
 |d+1,p+1,f,h=>by
  rw[pL,FP d p (λi=>f (i+1)) (by lia)];have:pL (d+1) (λi=>f (sk (p+1) i))=f 0+pL d (λi=>f (sk p i+1)):=by rw[pL];congr 1;exact kK d _ _ λi _=>by rw[Ou]
  rw[this];grind
def Lu d p f (h:p<=d):sm (d+1) f=sm d (λi=>f (sk p i))+f p:=by have:=FP d p (λi=>(f i)) h;rw[<-w6,<-w6]at this;exact_mod_cast this
def K6(h:p<=d):sk p d=d+1:=by unfold sk;rw[aS (by lia)]
def Nv(h:p<=d) X u:mM (d+1) X u=mM d (λi=>X (sk p i)) (λi=>u (sk p i))+(u p:Rat)*X p:=by unfold mM;rw[FP d p _ h];dsimp only;rw[K6 h];grind
def QU(h:p<=d) u P:hv (d+1) u P=hv d (λi=>u (sk p i)) (λi=>P (sk p i))+u p*P p:=by unfold hv;rw[Lu d p _ h];dsimp only;rw[K6 h];lia
def On(d:Nat)(us:LL)(s:LI)(X:Nat->Rat):Prop:=∀i,i<us.length->0<(vc s i:Rat)*mM d X (vc (us.getD i []))
def Rz(d:Nat)(us:LL)(s:LI):Prop:=∃X,On d us s X
def Rx(d:Nat)(us:LL)(u s:LI):Prop:=∃X,mM d X (vc u)=0/\On d us s X
def GR(l:On d us s X)(k:On d us s Y)(a:0<=mM d X (vc u))(b:mM d Y (vc u)<=0):Rx d us u s:=by
 by_cases p:mM d X (vc u)=0
 .exact⟨X,p,l⟩
 by_cases r:mM d Y (vc u)=0
 .exact⟨Y,r,k⟩
 have q:0<mM d X (vc u):=by grind
 have m:0 < -mM d Y (vc u):=by grind
 generalize I:mM d X (vc u)=A at *;generalize H:-mM d Y (vc u)=B at *;have g:A+B≠0:=by grind
 have o:0<A+B:=by grind
 have f:=λw=>Pv (d:=d) (X:=X) (Z:=Y) g w;refine⟨λj=>(B*X j+A*Y j) / (A+B),?_,λi h=>?_⟩
 .have:=f (vc u);have e:(A+B)*mM d (λj=>(B*X j+A*Y j) / (A+B)) (vc u)=0:=by grind
  rcases Rat.mul_eq_zero.mp e with z|z
  .exact absurd z g
  .exact z
 .have D:=l i h;have C:=k i h;have:=f (vc (us.getD i []));generalize mM d (λj=>(B*X j+A*Y j) / (A+B)) (vc (us.getD i []))=Z at *;generalize mM d X (vc (us.getD i []))=x at *;generalize mM d Y (vc (us.getD i []))=y at *;have F:=fB m D;have E:=fB q C;generalize (vc s i)=v at *;have e:(A+B)*(v*Z)=B*(v*x)+A*(v*y):=by rw[show (A+B)*(v*Z)=v*((A+B)*Z) by grind,this];grind
  have n:0<(A+B)*(v*Z):=by rw[e];grind
  refine e8 (c:=A+B) ?_ (by grind);rw[Rat.mul_zero];exact n
theorem KA:∀d f,(∀i,i<d->Bn N (f i))->Bn (N+d) (sm d f)
 |0,_,_=>uA
 |d+1,f,h=>by rw[sm];exact ((h 0 (by lia)).add (KA d (λi=>f (i+1)) λi a=>h (i+1) (by lia))).mono (by lia)
def Rg{B M d:Nat}(a:∀x∈u,Bn B x)(b:∀x∈P,Bn M x):Bn (B+M+d+1) (hv d (vc u) (vc P)):=((KA d _ λi _=>(rE a i).mul (rE b i)).sub ((rE a d).mul (rE b d))).mono (by lia)
def QG(i:N<=20000) a b (h:a.length<=100) (e:∀x∈a,Bn N x) (f:∀x∈b,Bn N x):uk c [tI a,tI b]=.ok (.int (S2 a b)):=by
 have sz:1000<sizeLine:=by decide
 have g:lM [none,none] (nG (gO (gP 0) (gO (gP 1) gR))) (mT 2 (iN (km 0) (iN (km 1) mP))) (λ_=>.ok true) (Lk c) (vw (iX 2 [tI a,tI b]))=.ok (((a.zip b).map λp=>p.1*p.2).map T.int):=jZ (a.zip b) (λp=>T.tup [.int p.1,.int p.2]) (λp=>T.int (p.1*p.2)) (vM rfl rfl rfl rfl) (by rw[eT];lia) (λp d=>⟨_,rfl,rfl,gX rfl rfl (ke ((e _ (aX d).1).ok (f _ (aX d).2) (by lia) (by lia)))⟩) (by rw[aJ];rfl)
 exact iQ rfl (iA (qh g (FC _)))
theorem Gz:∀d a b,a.length=d->b.length=d->S2 a b=sm d λi=>vc a i*vc b i
 |0,[],[],_,_=>rfl
 |d+1,x::a,y::b,ha,hb=>by show x*y+S2 a b=_;rw[Gz d a b (by simpa using ha) (by simpa using hb)];rfl
def Af(h:u.length=d+1)(a:i<d):vc u.dropLast i=vc u i:=by rw[jo _ i (by simp;lia),jo _ i (by lia),List.getElem_dropLast]
def Ex(h:u.length=d+1):kW (tI u) (.int (-1))=.ok (.int (vc u d)):=by
 have a:u≠[]:=λz=>by rw[z]at h;simp at h
 have e:u.getLast? = some (vc u d):=by rw[List.getLast?_eq_some_getLast a,jo u d (by lia),List.getLast_eq_getElem];simp[h]
 simp[tI,qF,KO,a,e]
def CH(h:u.length=d+1)(a:f ρ=.ok (tI u)):jY f (λ_=>.ok none) (iW (rW (λi=>.int (-i)) (cM (.int 1)))) ρ=.ok (tI u.dropLast):=by
 have:=J6 a λz=>by have:=congrArg List.length z;simp at this;rw[this]at h;simp at h
 rw[<-List.map_dropLast]at this;exact this
def J3(p:B<=20000)(r:B'<=20000)(q:d<=50)(a:u.length=d+1)(h:P.length=d+1)(m:∀x∈u,Bn B x)(l:∀x∈P,Bn B' x)(o:f ρ=.ok (tI u))(n:g ρ=.ok (tI P)) :
  hW (gO (jY f (λ_=>.ok none) (iW (rW (λi=>.int (-i)) (cM (.int 1))))) (gO (jY g (λ_=>.ok none) (iW (rW (λi=>.int (-i)) (cM (.int 1))))) gR)) (uk c) ρ=.ok (.int (sm d λi=>vc u i*vc P i)):=by
 have e:u.dropLast.length=d:=by simp[a]
 have b:P.dropLast.length=d:=by simp[h]
 refine jI (CH a o) (CH h n) ((QG (N:=max B B') (by lia) _ _ (by lia) (λx j=>(m x (fC _ j)).mono (by lia)) λx j=>(l x (fC _ j)).mono (by lia)).trans ?_);rw[Gz d _ _ e b];congr 2;exact iB d _ _ λi k=>by rw[Af a k,Af h k]
def tJ{d B M:Nat}(g:B<=20000)(i:M<=20000)(h:d<=50)(a:u.length=d+1)(f:P.length=d+1)(e:∀x∈u,Bn B x)(b:∀x∈P,Bn M x):kD c [tI u,tI P]=.ok (.int (hv d (vc u) (vc P))):=iQ rfl (iA (gX (J3 g i h a f e b rfl rfl) (gX (gX rfl (vF rfl) (Ex a)) (gX rfl (vF rfl) (Ex f)) (ke ((rE e d).ok (rE b d) (by lia) (by lia)))) (qi _ _)))
def wo(row:LI)(p:Nat):LI:=row.take p++row.drop (p+1)
def BX(h:p<row.length):(wo row p).length+1=row.length:=by unfold wo;simp;lia
def C0(h:p<row.length) i:vc (wo row p) i=vc row (sk p i):=by
 unfold wo sk;rw[tZ,bQ,dP (by lia)];by_cases a:i<p
 .rw[aR a,aR a,jo _ i (by simp;lia),jo _ i (by lia),fE]
 .rw[aS a,aS a,DT];congr 1;lia
def NC(h:x∈wo row p):x∈row:=(ai.mp h).elim eQ eR
def mO row (p:Nat) (e:p<row.length) (f:row.length<=100):iP c [tI row,.int (p:Int)]=.ok (tI (wo row p)):=by have b:=rL (fe:=gP 0) (fd:=gP 1) (ρ:=vw (iX 2 [tI row,.int (p:Int)])) rfl rfl (by rw[ax];lia);have a:=CJ (fe:=gP 0) (fd:=ik jl (gP 1) (cM (.int 1))) (d:=p+1) (ts:=row.map T.int) (ρ:=vw (iX 2 [tI row,.int (p:Int)])) rfl (gX rfl rfl (by rw[jb];simp)) (by lia) (by intro z;have:=congrArg List.length z;simp at this;subst this;simp at e);rw[<-dF]at b;rw[<-dG]at a;exact iQ rfl (iA (gX (x:=tI (row.take p)) (y:=tI (row.drop (p+1))) b a (sV _ _ (by simp;lia))))
structure Gp(d M:Nat)(P:LI):Prop where
 len:P.length=d+1
 bn:∀x∈P,Bn M x
 pos:0<vc P d
def xH i:wU [.int i]=.ok (.int (i.natAbs:Int)):=by show M.ok (T.int (if i<0 then -i else i))=_;congr 2;split<;>lia
def Fm(h:Bn N x):Bn N (x.natAbs:Int):=by unfold Bn at *;simpa using h
def Dw{d B M:Nat}(hB:B<=2000)(hM:M<=5000)(N:d<=50)(hu:u.length=d+2)(r:∀x∈u,Bn B x)(hp:p<=d)(j:Gp d M P) :
  ∃Q g,lH c [tI u,.int (p:Int),tI P]=.ok (tI Q)/\Q.length=d+2/\(∀x∈Q,Bn (B+M+d+1) x)/\0<g/\(∀i,g*vc Q (sk p i)=((vc u p).natAbs:Int)*vc P i)/\g*vc Q p = -kX (vc u p)*hv d (λi=>vc u (sk p i)) (vc P):=by
 have sz:1000<sizeLine:=by decide
 have A:=lu u p (by lia);have n:=rE r p;have wl:=BX (row:=u) (p:=p) (by lia);have w:∀x∈wo u p,Bn B x:=λx e=>r x (NC e);have Z:vc (wo u p)=λi=>vc u (sk p i):=funext λi=>C0 (by lia) i;have D:=tJ (c:=c) (d:=d) (B:=B) (M:=M) (by lia) (by lia) N (by lia) j.len w j.bn;have k:=Rg (d:=d) w j.bn;rw[Z]at D k;generalize hH:hv d (λi=>vc u (sk p i)) (vc P)=h at *;have sg:=v9 (vc u p);have bs:Bn 1 (-kX (vc u p)):=by unfold Bn;lia
 have f:Bn (B+M+d+1) (-kX (vc u p)*h):=by
  have:=sg;unfold Bn at k ⊢;rw[aZ];have b:(-kX (vc u p)).natAbs<=1:=by lia
  exact cu (aO (eU _ b) (by lia)) k
 let a:LI:=P.map λx=>((vc u p).natAbs:Int)*x;have L:a.length=d+1:=by simp[a,j.len]
 have q:∀x∈a,Bn (B+M+d+1) x:=λx e=>by obtain⟨y,Y,rfl⟩:=aE.mp e;exact ((Fm n).mul (j.bn y Y)).mono (by lia)
 have C:∀i,vc a i=((vc u p).natAbs:Int)*vc P i:=Mw P _;let row:LI:=(a.take p++[-kX (vc u p)*h])++a.drop p;have rl:row.length=d+2:=by simp[row,L];lia
 have J:∀x∈row,Bn (B+M+d+1) x:=λx e=>by
  rcases ai.mp e with z|z
  .rcases ai.mp z with z|z
   .exact q x (eQ z)
   .rw[aj.mp z];exact f
  .exact q x (eR z)
 obtain⟨g,X,hg,E,yl,s,I⟩:=vQ (c:=c) (B+M+d+1) (by lia) row (by lia) J;have o:∀i,vc row i=if i<p then vc a i else if i=p then -kX (vc u p)*h else vc a (i-1):=λi=>by
  show vc ((a.take p++[-kX (vc u p)*h])++a.drop p) i=_;have l:(a.take p).length=p:=by rw[bQ];lia
  rw[tZ,tZ,aU,l,cf];by_cases b:i<p
  .rw[aR (by lia),aR b,aR b,jo _ i (by rw[l];exact b),jo _ i (by lia),fE]
  .by_cases v:i=p
   .subst v;rw[aR (by lia),aS b,aS b,aR rfl,fF];rfl
   .rw[aS (by lia),aS b,aS v,DT];congr 1;lia
 refine⟨X,g,?_,by lia,I,hg,λi=>?_,?_⟩
 .let S (R F U:Option W):En:=[some (.p (tI u)),some (.p (.int (p:Int))),some (.p (tI P)),R,F,U];have H:lM [none,some 3] (jP (gP 2)) (km 0) (λ_=>.ok true) (we c) (lF (S (some (.p (.int ((vc u p).natAbs:Int)))) (some (.p (.int (-kX (vc u p)*h)))) none))=.ok (a.map T.int):=
   jZ P T.int (λx=>T.int (((vc u p).natAbs:Int)*x)) rfl (by have:=j.len;lia) (λx e=>⟨_,rfl,rfl,gX rfl rfl (ke ((Fm n).ok (j.bn x e) (by lia) (by lia)))⟩) (by simp[a])
  have m:=rL (fe:=gP 5) (fd:=gP 1) (d:=p) (ts:=a.map T.int) (ρ:=vw (S (some (.p (.int ((vc u p).natAbs:Int)))) (some (.p (.int (-kX (vc u p)*h)))) (some (.p (tI a))))) rfl rfl (by rw[ax];lia);have K:jY (gP 5) (iW (gP 1)) (λ_=>.ok none) (vw (S (some (.p (.int ((vc u p).natAbs:Int)))) (some (.p (.int (-kX (vc u p)*h)))) (some (.p (tI a)))))=.ok (tI (a.drop p)):=by have:jY (gP 5) (iW (gP 1)) (λ_=>.ok none) (vw (S (some (.p (.int ((vc u p).natAbs:Int)))) (some (.p (.int (-kX (vc u p)*h)))) (some (.p (tI a)))))=.ok (.tup (pY (a.map T.int) (some (p:Int)) none)):=rfl;rw[this,vy,<-dG];rfl
  rw[<-dF]at m;exact iQ rfl (gW (ρ':=S (some (.p (.int ((vc u p).natAbs:Int)))) none none) (ig (mG (gX rfl rfl A) (xH _)) rfl) (gW (ρ':=S (some (.p (.int ((vc u p).natAbs:Int)))) (some (.p (.int (-kX (vc u p)*h)))) none) (ig (gX (vF (mN (gX rfl rfl A) (tH _))) (jI (jI rfl rfl (mO u p (by lia) (by lia))) rfl D) (ke (bs.ok k (by lia) (by lia)))) rfl) (gW (ρ':=S (some (.p (.int ((vc u p).natAbs:Int)))) (some (.p (.int (-kX (vc u p)*h)))) (some (.p (tI a)))) (ig (qh H (by simp;rfl)) rfl) (iA (mN (gX (x:=tI (a.take p++[-kX (vc u p)*h])) (y:=tI (a.drop p)) (gX (x:=tI (a.take p)) (y:=tI [-kX (vc u p)*h]) m (K8 rfl) (sV _ _ (by simp;lia))) K (sV _ _ (by simp;lia))) E)))))
 .rw[<-s,o];unfold sk;by_cases b:i<p
  .rw[aR b,aR b];exact C i
  .rw[aS b,aS (by lia),aS (by lia)];exact C i
 .rw[<-s,o,aS (by lia),aR rfl]
def Ks i j:zY [.int i,.int j]=.ok (.int (max i j)):=by simp;split<;>lia
def QN{a m:Int}(b:0<=a)(d:0<m):a<(a.fdiv m+1)*m/\0<=a.fdiv m/\a.fdiv m<=a:=by rw[Int.fdiv_eq_ediv_of_nonneg _ (by lia)];exact⟨Int.lt_ediv_add_one_mul_self a d,Int.ediv_nonneg b (by lia),Int.ediv_le_self _ b⟩
def BR(hB:B<=2000)(hM:N<=5000)(K:2*B+N+d+3<=8000)(hd:d<=50){us:LL}(H:∀w∈us,w.length=d+1/\∀x∈w,Bn B x)(hn:us.length<=100)(r:u.length=d+1)(D:∀x∈u,Bn B x)(b:Gp d N P)(J:∀w∈us,hv d (vc w) (vc P)≠0)(hs:s = -1\/s=1) :
  ∃Q g o,kL c [.lst (us.map tI),tI u,tI P,.int s]=.ok (tI Q)/\Q.length=d+1/\(∀x∈Q,Bn (2*B+N+d+3) x)/\0<g/\1<=o/\(∀i,i<d->g*vc Q i=o*vc P i+s*vc u i)/\g*vc Q d=o*vc P d/\
   ∀w∈us,((sm d λi=>vc w i*vc u i).natAbs:Int)<o*((hv d (vc w) (vc P)).natAbs:Int):=by
 have sz:1000<sizeLine:=by decide
 let S (o:Int) (j f x7:Option W):En:=[some (.p (.lst (us.map tI))),some (.p (tI u)),some (.p (tI P)),some (.p (.int s)),some (.p (.int o)),j,f,x7];obtain⟨ρ',e',o,j,f,rfl,o1,v,n⟩:=lg (m:=mH 5) (g:=ue c) tI
  (λk R=>∃o j f,R=S o j f none/\1<=o/\Bn (2*B+d+1) o/\∀w∈us.take k,((sm d λi=>vc w i*vc u i).natAbs:Int)<o*((hv d (vc w) (vc P)).natAbs:Int)) us 0 (S 1 none none none)
  ⟨1,none,none,rfl,by decide,(by unfold Bn;exact aF (by decide:(1:Int).natAbs<2 ^ 1) (dI (by decide) (by lia))),λw hw=>by simp at hw⟩ (by
   rintro k w R X ⟨o,j,f,rfl,o1,v,n⟩;rw[aH]at n ⊢;have hw:=au X;obtain⟨U,E⟩:=H w hw;have dt:hW (gO (jY (gP 5) (λ_=>.ok none) (iW (rW (λi=>.int (-i)) (cM (.int 1))))) (gO (jY (gP 1) (λ_=>.ok none) (iW (rW (λi=>.int (-i)) (cM (.int 1))))) gR)) (uk c) (lF (S o (some (.p (tI w))) f none))=.ok (.int (sm d λi=>vc w i*vc u i)):=J3 (B:=B) (B':=B) (by lia) (by lia) hd U r E D rfl rfl;have la:=tJ (c:=c) (d:=d) (B:=B) (M:=N) (by lia) (by lia) hd U b.len E b.bn;have hb:=Rg (d:=d) E b.bn;have h0:=J w hw;have sb:Bn (2*B+d) (sm d λi=>vc w i*vc u i):=(KA d _ λi _=>(rE E i).mul (rE D i)).mono (by lia);generalize hh:hv d (vc w) (vc P)=h at *;generalize F:(sm d λi=>vc w i*vc u i)=st at *;obtain⟨f1,f2,f3⟩:=QN (a:=(st.natAbs:Int)) (m:=(h.natAbs:Int)) (by lia) (by lia);generalize l:(st.natAbs:Int).fdiv (h.natAbs:Int)=q at *;refine⟨_,S (max o (q+1)) (some (.p (tI w))) (some (.p (.int (st.natAbs:Int)))) none,rfl,.inl (gW (ρ':=S o (some (.p (tI w))) (some (.p (.int (st.natAbs:Int)))) none) (ig (mG dt (xH _)) rfl) (ig ?_ rfl)),max o (q+1),_,_,rfl,by lia,?_,?_⟩
   .have e1:ik jl (ik uH (gP 6) (lC wU (gO (hW (gO (gP 5) (gO (gP 2) gR)) (kD c)) gR))) (cM (.int 1)) (lF (S o (some (.p (tI w))) (some (.p (.int (st.natAbs:Int)))) none))=.ok (.int (q+1)):=gX (gX rfl (mG (jI rfl rfl la) (xH _)) ((qT (by lia) ((Fm hb).noPy (by lia))).trans (by rw[l]))) rfl (jb _ _);simp only[lC,gO,gR,e1,M.bind_ok];exact Ks o (q+1)
   .have:Bn (2*B+d+1) (q+1):=by unfold Bn at sb ⊢;rw[dJ];lia
    unfold Bn at *;lia
   .intro z L;rw[jJ us k w X]at L;rcases ai.mp L with y|y
    .have:=n z y;refine fG this (aK (by lia) (by lia))
    .rw[aj.mp y,F,hh];have hm:(q+1)*(h.natAbs:Int)<=max o (q+1)*(h.natAbs:Int):=aK (by lia) (by lia);exact fG f1 hm)
 rw[aH,eK]at n;let e:LI:=(P.dropLast.zip u.dropLast).map λq=>o*q.1+s*q.2;have l1:P.dropLast.length=d:=by simp[b.len]
 have l2:u.dropLast.length=d:=by simp[r]
 have C:e.length=d:=by simp[e,b.len,r]
 have Z:Bn 1 s:=by rcases hs with rfl|rfl<;>(unfold Bn;decide)
 have pv:∀i,i<d->vc e i=o*vc P i+s*vc u i:=λi A=>by rw[<-Af b.len A,<-Af r A,jo _ i (by lia),jo _ i (by lia),jo _ i (by lia)];simp[e]
 have pb:∀x∈e,Bn (2*B+N+d+3) x:=λx I=>by obtain⟨q,l,rfl⟩:=aE.mp I;obtain⟨q1,q2⟩:=aX l;exact ((v.mul (b.bn _ (fC _ q1))).add (Z.mul (D _ (fC _ q2)))).mono (by lia)
 have lb:Bn (2*B+N+d+3) (o*vc P d):=(v.mul (rE b.bn d)).mono (by lia);obtain⟨g,ys,hg,el,yl,Y,yb⟩:=vQ (c:=c) (2*B+N+d+3) K (e++[o*vc P d]) (by simp[C];lia) λx I=>(ai.mp I).elim (pb x) λz=>by rw[aj.mp z];exact lb
 have e7:lM [none,none,some 4,some 3] (nG (gO (jY (gP 2) (λ_=>.ok none) (iW (rW (λi=>.int (-i)) (cM (.int 1))))) (gO (jY (gP 1) (λ_=>.ok none) (iW (rW (λi=>.int (-i)) (cM (.int 1))))) gR))) (mT 2 (iN (km 0) (iN (km 1) mP))) (λ_=>.ok true) (uB c) (lF (S o j f none))=.ok (e.map T.int):=jZ (P.dropLast.zip u.dropLast) (λq=>T.tup [.int q.1,.int q.2]) (λq=>T.int (o*q.1+s*q.2)) (vM (CH b.len rfl) rfl (CH r rfl) rfl) (by rw[eT];lia) (λq l=>⟨_,rfl,rfl,gX (gX rfl rfl (ke (v.ok (b.bn _ (fC _ (aX l).1)) (by lia) (by lia)))) (gX rfl rfl (ke (Z.ok (D _ (fC _ (aX l).2)) (by lia) (by lia)))) (jb _ _)⟩) (by simp only[e,aJ];rfl)
 refine⟨ys,g,o,iQ rfl (gW (ρ':=S 1 none none none) (ig rfl rfl) (gW (lz rfl e') (gW (ρ':=S o j f (some (.p (.lst (e.map T.int))))) (ig (i5 e7) rfl) (iA (mN (gX (x:=tI e) (y:=tI [o*vc P d]) (mG (t:=.lst (e.map T.int)) rfl (by simp;rfl)) (K8 (gX rfl (gX rfl (vF rfl) (Ex b.len)) (ke (v.ok (rE b.bn d) (by lia) (by lia))))) (sV _ _ (by simp[C];lia))) el))))),by rw[yl];simp[C],yb,hg,o1,λi A=>?_,?_,n⟩
 .rw[<-Y,tZ,aR (by lia),pv i A]
 .rw[<-Y,tZ,aS (by lia),C,fF];rfl
def xn(g:0<a)(i:0<b)(e:a*x=b*y):kX x=kX y:=by
 have d:∀{p q z w:Int},0<p->0<q->p*z=q*w->0<w->0<z:=λ{p q z w} hp hq e hw=>by
  have f:0<p*z:=by rw[e];exact aY hq hw
  exact fH f hp |> λh=>h
 have k:a * -x=b * -y:=by rw[fJ,fJ,e]
 unfold kX;by_cases f:0<x
 .rw[aR f,aR (d i g e.symm f)]
 .rw[aS f,aS λz=>f (d g i e z)];by_cases j:x<0
  .rw[aR j,aR (by have:=d i g k.symm (by lia);lia)]
  .rw[aS j,aS λz=>j (by have:=d g i k (by lia);lia)]
noncomputable def iT:Nat->LL
 |0=>[[]]
 |n+1=>(iT n).flatMap λs=>[s++[-1],s++[1]]
theorem qd:∀{n} {s},s∈iT n->s.length=n/\∀x∈s,x = -1\/x=1
 |0,s,h=>by rw[aj.mp h];exact⟨rfl,λ_ z=>nomatch z⟩
 |n+1,s,h=>by
  obtain⟨r,hr,a⟩:=List.mem_flatMap.mp h;obtain⟨b,d⟩:=qd hr;have go:∀v:Int,(v = -1\/v=1)->(r++[v]).length=n+1/\∀x∈r++[v],x = -1\/x=1:=λv hv=>⟨by simp[b],λx e=>(ai.mp e).elim (d x) λz=>by rw[aj.mp z];exact hv⟩;simp only[aG,dE,or_false]at a;rcases a with rfl|rfl
  .exact go _ (.inl rfl)
  .exact go _ (.inr rfl)
theorem CS:∀n:Nat,(iT n).length=2 ^ n
 |0=>rfl
 |n+1=>by rw[iT,List.length_flatMap];have:(iT n).map (λs=>([s++[-1],s++[1]]:LL).length)=(iT n).map λ_=>2:=c7 λ_ _=>rfl;rw[this,List.map_const',List.sum_replicate_nat,CS n,dJ]
def EX(h:s∈iT n)(b:i<n):vc s i=1\/vc s i = -1:=by obtain⟨d,a⟩:=qd h;rw[jo s i (by lia)];exact (a _ (aW _)).symm
def pH(p:LI×LI):T:=.tup [tI p.1,tI p.2]
structure Gu(d B:Nat)(u:LI):Prop where
 len:u.length=d+1
 bn:∀x∈u,Bn B x
 ne:∃i,vc u i≠0
def Hu(p:Prop):Bool:=@decide p (Classical.propDecidable p)
@[simp] theorem G6:Hu p=true↔p:=@decide_eq_true_iff p (Classical.propDecidable p)
def wW(h:p):Hu p=true:=G6.mpr h
def EJ(h:¬p):Hu p=false:=by
 cases e:Hu p with
 |false=>rfl
 |true=>exact absurd (G6.mp e) h
def flt(n:Nat)(p:LI->Prop):LL:=(iT n).filter λs=>Hu (p s)
def AD(h:∀s∈iT n,p s↔q s):flt n p=flt n q:=fK λs a=>by rw[show p s=q s from propext (h s a)]
def w9:s∈flt n p↔s∈iT n/\p s:=by simp[flt]
def yd(h:∀s,¬p s):flt n p=[]:=fL.mpr λs _=>by simp[h s]
def xj n p:(flt n p).length<=2 ^ n:=by rw[<-CS];exact fM _ _
structure Ob(d N:Nat)(us:LL)(L:List (LI×LI)):Prop where
 fst:L.map Prod.fst=flt us.length (Rz d us)
 gp:∀p∈L,Gp d N p.2
 sg:∀p∈L,∀i,i<us.length->kX (hv d (vc (us.getD i [])) (vc p.2))=vc p.1 i
def M7(b:0<vc P d)(h:∀i,i<us.length->kX (hv d (vc (us.getD i [])) (vc P))=vc s i)(f:∀i,i<us.length->vc s i=1\/vc s i = -1):On d us s (XP d (vc P)):=λi a=>by
 have e:=h i a;rw[RE b]at e;generalize mM d (XP d (vc P)) (vc (us.getD i []))=v at *;unfold V7 at e;rcases f i a with q|q<;>rw[q]at e ⊢
 .have o:((1:Int):Rat)=1:=rfl;rw[o];split at e
  .grind
  .split at e<;>cases e
 .have o:((-1:Int):Rat) = -1:=rfl;rw[o];split at e
  .cases e
  .split at e
   .grind
   .cases e
def uG{us:LL}(a:us.length=n)(f:LI->LI)(b:i<n):(us.map f).getD i []=f (us.getD i []):=by rw[af,aw,ag (by lia),af,ag (by lia)];rfl
def ph{us:LL}(a:i<us.length):us.getD i []∈us:=by rw[af,ag a];exact aW _
def QV{a b:Int}(f:0<a)(g:0<b)(e:(a:Rat)*x=(b:Rat)*y)(h:0<v*y):0<v*x:=by
 have k:=FZ f;have i:=FZ g;have j:a*(v*x)=b*(v*y):=by grind
 have d:0<a*(v*x):=by rw[j];exact fB i h
 refine e8 (c:=a) ?_ (by grind);rw[Rat.mul_zero];exact d
def AX(x:p<=d)(B:vc u p≠0)(f:LI->LI)(n:∀w∈us,vc (f w) p=0/\p<(f w).length/\∃g s b:Int,0<g/\0<s/\∀i,g*vc (f w) i=s*vc w i+b*vc u i) s:Rz d (us.map λw=>wo (f w) p) s↔Rx (d+1) us u s:=by
 have A:∀X:Nat->Rat,∀w∈us,mM (d+1) X (vc (f w))=mM d (λi=>X (sk p i)) (vc (wo (f w) p)):=λX w hw=>by obtain⟨D,C,-⟩:=n w hw;rw[Nv x,D,show vc (wo (f w) p)=λi=>vc (f w) (sk p i) from funext λi=>C0 C i];grind
 constructor
 .rintro⟨X,r⟩;let Y:Nat->Rat:=λj=>if j=p then -mM d X (λi=>vc u (sk p i)) / (vc u p:Rat) else X (if j<p then j else j-1)
  have y:(λi=>Y (sk p i))=X:=funext λi=>by
   show (if sk p i=p then _ else X (if sk p i<p then sk p i else sk p i-1))=X i;unfold sk;by_cases q:i<p
   .rw[aR q,aS (by lia),aR q]
   .rw[aS q,aS (by lia),aS (by lia)];congr 1
  have E:(vc u p:Rat)≠0:=λz=>B (by exact_mod_cast z);have k:mM (d+1) Y (vc u)=0:=by
   rw[Nv x,y];have:Y p = -mM d X (λi=>vc u (sk p i)) / (vc u p:Rat):=by show (if p=p then _ else _)=_;rw[aR rfl]
   rw[this];grind
  refine⟨Y,k,λi h=>?_⟩;have hw:=ph h;obtain⟨-,-,g,a,b,v,o,e⟩:=n _ hw;have m:=r i (by simpa using h);rw[uG rfl _ h]at m;have t:=A Y _ hw;rw[y]at t;rw[<-t]at m;have l:=GX (d:=d+1) (X:=Y) _ _ _ g a b e;rw[k]at l;exact QV o v (by grind) m
 .rintro⟨X,k,r⟩;refine⟨λi=>X (sk p i),λi h=>?_⟩;rw[ax]at h;have hw:=ph h;obtain⟨-,-,g,a,b,v,o,e⟩:=n _ hw;rw[uG rfl _ h,<-A X _ hw];have l:=GX (d:=d+1) (X:=X) _ _ _ g a b e;rw[k]at l;exact QV v o (by grind) (r i h)
def zk(n:p<=d)(C:vc u p≠0)(k:0<g0)(v:∀i,g0*vc Q (sk p i)=((vc u p).natAbs:Int)*vc P i)(m:g0*vc Q p = -kX (vc u p)*hv d (λi=>vc u (sk p i)) (vc P)) :
  hv (d+1) (vc u) (vc Q)=0/\(vc r p=0->p<r.length->(∃g s b:Int,0<g/\0<s/\∀i,g*vc r i=s*vc w i+b*vc u i)->kX (hv (d+1) (vc w) (vc Q))=kX (hv d (vc (wo r p)) (vc P))):=by
 have B:0<((vc u p).natAbs:Int):=by lia
 have f:∀x:Vc,g0*hv d x (λi=>vc Q (sk p i))=((vc u p).natAbs:Int)*hv d x (vc P):=λx=>by
  have:=OZ (d:=d) (u:=x) (P:=vc P) (Q:=vc P) (R:=λi=>vc Q (sk p i)) (g:=g0) (a:=((vc u p).natAbs:Int)) (b:=0) λi=>by rw[v i];lia
  lia
 have z:hv (d+1) (vc u) (vc Q)=0:=by
  have e:=QU n (vc u) (vc Q);have j:=f λi=>vc u (sk p i);have y:=oN (vc u p);generalize hv d (λi=>vc u (sk p i)) (vc P)=h at *;have:g0*hv (d+1) (vc u) (vc Q)=0:=by rw[e,eB,j,show g0*(vc u p*vc Q p)=vc u p*(g0*vc Q p) by grind,m,<-y];grind
  rcases eF.mp this with q|q
  .lia
  .exact q
 refine⟨z,λr0 rl ⟨g,a,b,hg,ha,e⟩=>?_⟩;have l:=Tv (d:=d+1) (P:=vc Q) e;rw[z]at l;have o:=QU n (vc r) (vc Q);rw[r0]at o;have A:=funext λi=>C0 rl i;rw[A];have j:=f λi=>vc r (sk p i);rw[<-xn k B j];refine xn ha hg ?_;rw[show hv d (λi=>vc r (sk p i)) (λi=>vc Q (sk p i))=hv (d+1) (vc r) (vc Q) by lia];lia
abbrev nI(k:Nat):T:=.int (k:Int)
def IC(h:f ρ=.ok (.tup ts)):nq (gO f gR) ρ=.ok (nv ts):=by simp only[nq,gO,gR,h,M.bind_ok];rfl
def qe(h:f ρ=.ok (.lst ts)):nq (gO f gR) ρ=.ok (nv ts):=by simp only[nq,gO,gR,h,M.bind_ok];rfl
def FG ns:qq [tI ns]=.ok (.bl (ns.any λx=>x != 0)):=by simp only[tI,qq,ua,F9];rw[cK];rfl
def Pu(h:f ρ=.ok (.bl b)):Cg f ρ=.ok (.bl (!b)):=by simp only[Cg,jL,h,M.bind_ok]
theorem vf(hB:B<=2000)(hN:N<=5000)(hd:d<=50)(F:∀w∈us,Gu d B w)(hn:us.length<=8)(hu:Gu d B u) FR
  (hFR:∀d',d=d'+1->∀vs:LL,vs.length=us.length->(∀w∈vs,Gu d' (2*B+1) w)->∃L:List (LI×LI),FR [.lst (vs.map tI),.int (d':Int)]=.ok (.lst (L.map pH))/\Ob d' N vs L) :
  ∃C:List (LI×LI),mm c FR [.lst (us.map tI),tI u]=.ok (C.map pH)/\C.map Prod.fst=flt us.length (Rx d us u)/\∀q∈C,Gp d (B+N+d+1) q.2/\hv d (vc u) (vc q.2)=0/\(∀i,i<us.length->kX (hv d (vc (us.getD i [])) (vc q.2))=vc q.1 i)/\∃i,i<d/\vc u i≠0:=by
 have sz:1000<sizeLine:=by decide
 have ul:=hu.len;let S (x2 x3 x4:Option W):En:=[some (.p (.lst (us.map tI))),some (.p (tI u)),x2,x3,x4];let Z:List (Int×Nat):=u.dropLast.zipIdx.filter λq=>q.1 != 0;have hZ:∀q∈Z,q.2<d/\vc u q.2=q.1/\q.1≠0:=λq o=>by
  obtain⟨E,A⟩:=aV.mp o;obtain⟨x,k⟩:=q;have n:=fN.mp E;have hk:k<d:=by have:=(aa.mp n).1;simp at this;lia
  refine⟨hk,?_,by simpa using A⟩;rw[<-Af ul hk,jo _ k (by simp;lia)];have:=aa.mp n;exact this.2
 have e2:lM [none,none] (nq (gO (jY (gP 1) (λ_=>.ok none) (iW (rW (λi=>.int (-i)) (cM (.int 1))))) gR)) (mT 2 (iN (km 0) (iN (km 1) mP))) (jL (ik (iY true) (gP 1) (cM (.int 0)))) (uF c FR) (lF (S none none none))=.ok (Z.map λq=>nI q.2):=by refine yU u.dropLast.zipIdx (λq=>T.tup [.int (q.2:Int),.int q.1]) (λq=>nI q.2) (λq=>q.1 != 0) ((IC (CH ul rfl)).trans (by rw[A1])) (by simp;lia) (λq o=>⟨_,rfl,iH (gX rfl rfl (by rw[t8];rfl)),λ_=>rfl⟩) rfl
 have c2:jL (ik (iY false) (gP 2) (jC (lstM gR))) (vw (S (some (.p (.lst (Z.map λq=>nI q.2)))) none none))=.ok Z.isEmpty:=by refine iH (gX (x:=.lst (Z.map λq=>nI q.2)) (y:=.lst []) rfl (by simp) ((wZ false _ (rH _ _ λ_ _=>rfl) (aO (qL _ 0 _ λ_ _=>aL _) (by decide))).trans ?_));cases Z<;>rfl
 have st:∀{g:En->O} {ts:List T},_=O.rf ts->mm c FR [.lst (us.map tI),tI u]=.ok ts:=λ{g ts} h=>yz rfl (gW (ρ':=S (some (.p (.lst (Z.map λq=>nI q.2)))) none none) (ig (i5 e2) rfl) h);cases m:Z with
 |nil=>
  have z0:∀i,i<d->vc u i=0:=λi l=>aP λne=>by have:(vc u i,i)∈Z:=aV.mpr ⟨fN.mpr (by rw[ag (by simp;lia),<-Af ul l,jo _ i (by simp;lia)]),by simpa using ne⟩;rw[m]at this;exact nomatch this
  have hd0:vc u d≠0:=by
   obtain⟨i,l⟩:=hu.ne;rcases fO i d with h|h|h
   .exact absurd (z0 i h) l
   .rw[<-h];exact l
   .exact absurd (jg u i (by lia)) l
  refine⟨[],st (g:=jx) (JQ (jO (c2.trans (by rw[m];rfl)) (qk (by simp))) rfl),(yd λs ⟨X,hX,_⟩=>?_).symm,λ_ h=>nomatch h⟩;rw[CQ z0]at hX;have z:(vc u d:Rat)=0:=by grind
  exact hd0 (by exact_mod_cast z)
 |cons z0 Zr=>
  obtain⟨x,p⟩:=z0;obtain⟨hpd,hpx,hx0⟩:=hZ (x,p) (by rw[m];simp);dsimp only at hpd hpx hx0;obtain⟨d',rfl⟩:∃d',d=d'+1:=⟨d-1,by lia⟩;have Y:vc u p≠0:=by rw[hpx];exact hx0
  obtain⟨f,D⟩:=nW (P:=λ(w r:LI)=>jt c [tI w,tI u,.int (p:Int)]=.ok (tI r)/\r.length=w.length/\(∀x∈r,Bn (2*B+1) x)/\vc r p=0/\∃g s b:Int,0<g/\0<s/\∀i,g*vc r i=s*vc w i+b*vc u i) us λw hw=>by have wl:=(F w hw).len;obtain⟨r,E,A,n,v,g,s,b,I,K,h7,-⟩:=uw (c:=c) B B w u p (by lia) (by lia) (by lia) (by lia) (F w hw).bn hu.bn Y;exact⟨r,E,A,λx H=>(n x H).mono (by lia),v,g,s,b,I,K,h7⟩
  have U:∀w∈us,(f w).length=d'+2:=λw hw=>by rw[(D w hw).2.1,(F w hw).len]
  let a:LL:=us.map λw=>wo (f w) p;have ti:=AX (d:=d') (p:=p) (by lia) (us:=us) Y f λw hw=>⟨(D w hw).2.2.2.1,by have:=U w hw;lia,(D w hw).2.2.2.2⟩;have e4:lM [none,some 3,some 1] (jP (gP 0)) (km 0) (λ_=>.ok true) (t9 c FR) (lF (S (some (.p (.lst (Z.map λq=>nI q.2)))) (some (.p (nI p))) none))=.ok (a.map tI):=jZ us tI (λw=>tI (wo (f w) p)) rfl (by lia) (λw hw=>⟨_,rfl,rfl,jI (nc rfl rfl rfl (D w hw).1) rfl (mO _ p (by have:=U w hw;lia) (by have:=U w hw;lia))⟩) (by simp[a])
  let S4:En:=S (some (.p (.lst (Z.map λq=>nI q.2)))) (some (.p (nI p))) (some (.p (.lst (a.map tI))));have e5:jL (lC qq (gO (jC (lM [none] (jP (gP 4)) (km 0) (λ_=>.ok true) (uY c FR))) gR)) (vw S4)=.ok ((a.map λt=>!(t.any λx=>x != 0)).any id):=by refine iH (qh (ts:=(a.map λt=>!(t.any λx=>x != 0)).map T.bl) ?_ (xq _));exact jZ a tI (λt=>T.bl (!(t.any λx=>x != 0))) rfl (by simp[a];lia) (λt ht=>⟨_,rfl,rfl,Pu (mG (t:=tI t) rfl (FG t))⟩) (by simp)
  have st4:∀{ts:List T},_=O.rf ts->mm c FR [.lst (us.map tI),tI u]=.ok ts:=λ{ts} h=>st (g:=jx) (gW (jV (c2.trans (by rw[m];rfl)) rfl) (gW (ρ':=S (some (.p (.lst (Z.map λq=>nI q.2)))) (some (.p (nI p))) none) (ig (t:=nI p) (gX (x:=.lst (Z.map λq=>nI q.2)) (y:=.int 0) rfl rfl (by rw[m];exact Rj _ _)) rfl) (gW (ρ':=S4) (ig (i5 e4) rfl) h)));cases hA:(a.map λt=>!(t.any λx=>x != 0)).any id with
  |true=>
   obtain⟨b,hb,hb2⟩:=eV.mp hA;obtain⟨t,ht,rfl⟩:=aE.mp hb;obtain⟨w,hw,rfl⟩:=aE.mp ht;obtain⟨i,l,hiw⟩:=fP hw;have az:∀j,vc (wo (f w) p) j=0:=λj=>aP λne=>by
    have:((wo (f w) p).any λx=>x != 0)=true:=by
     by_cases hj:j<(wo (f w) p).length
     .exact eV.mpr ⟨vc (wo (f w) p) j,by rw[jo _ j hj];exact aW _,by simpa using ne⟩
     .exact absurd (jg _ j (by lia)) ne
    rw[this]at hb2;cases hb2
   refine⟨[],st4 (JQ (jO (e5.trans (by rw[hA])) (qk (by simp))) rfl),(yd λs hs=>?_).symm,λ_ h=>nomatch h⟩;obtain⟨X,hX⟩:=(ti s).mpr hs;have:=hX i (by simpa using l);rw[uG rfl _ l,af,ag l,dc,hiw,CQ λj _=>az j,az]at this;simp at this
  |false=>
   have gtr:∀t∈a,Gu d' (2*B+1) t:=λt ht=>by
    obtain⟨w,hw,rfl⟩:=aE.mp ht;have wl:=BX (row:=f w) (p:=p) (by have:=U w hw;lia);have:=bG.mp hA _ (aE.mpr ⟨_,ht,rfl⟩);refine⟨by have:=U w hw;lia,λx H=>(D w hw).2.2.1 x (NC H),?_⟩;have t1:((wo (f w) p).any λx=>x != 0)=true:=by simpa using this
    obtain⟨x,H,hx2⟩:=eV.mp t1;obtain⟨j,hj,e⟩:=fP H;exact⟨j,by rw[jo _ j hj,e];simpa using hx2⟩
   obtain⟨L,eL,hL⟩:=hFR d' rfl a (by simp[a]) gtr;obtain⟨Q,hQ⟩:=nW (P:=λ(q:LI×LI) (r:LI×Int)=>lH c [tI u,.int (p:Int),tI q.2]=.ok (tI r.1)/\r.1.length=d'+2/\(∀x∈r.1,Bn (B+N+(d'+1)+1) x)/\0<r.2/\(∀i,r.2*vc r.1 (sk p i)=((vc u p).natAbs:Int)*vc q.2 i)/\r.2*vc r.1 p = -kX (vc u p)*hv d' (λi=>vc u (sk p i)) (vc q.2)) L λq o=>by obtain⟨R,g,E,A,n,v,I,K⟩:=Dw (c:=c) (d:=d') (B:=B) (M:=N) hB hN (by lia) (by lia) hu.bn (p:=p) (by lia) (hL.gp q o);exact⟨(R,g),E,A,λx H=>(n x H).mono (by lia),v,I,K⟩
   have Ll:L.length<=256:=by
    have E:=congrArg List.length hL.fst;have A:=xj a.length (Rz d' a);have n:a.length<=8:=by simpa[a] using hn
    have v:2 ^ a.length<=2 ^ 8:=dI (by decide) n;rw[ax]at E;lia
   refine⟨L.map λq=>(q.1,(Q q).1),st4 (gW (jV (e5.trans (by rw[hA])) rfl) (qk (jZ L pH (λq=>pH (q.1,(Q q).1)) (pW (jI (x:=.lst (a.map tI)) (y:=.int (d':Int)) rfl (gX (x:=.int ((d'+2:Nat):Int)) (y:=.int 2) (mG (t:=tI u) rfl (by simp[tI,ul];lia)) rfl (by rw[qi];congr 2;lia)) eL)) (by lia) (λq o=>⟨_,rfl,rfl,yc rfl (nc rfl rfl rfl (hQ q o).1)⟩) (by rw[aJ];rfl)))),?_,λq o=>?_⟩
   .rw[aJ];show L.map Prod.fst=_;rw[hL.fst,show a.length=us.length by simp[a]];exact AD λs _=>ti s
   .obtain⟨q0,J,rfl⟩:=aE.mp o;obtain⟨-,A,n,v,I,K⟩:=hQ q0 J;have gp0:=hL.gp q0 J;dsimp only;refine⟨⟨A,n,?_⟩,(zk (w:=u) (r:=u) (by lia) Y v I K).1,λi l=>?_,p,by lia,Y⟩
    .have:=I d';rw[K6 (by lia)]at this;have h7:0<((vc u p).natAbs:Int)*vc q0.2 d':=aY (by lia) gp0.pos;rw[<-this]at h7;exact fH h7 v
    .have hw:=ph l;rw[(zk (w:=us.getD i []) (r:=f (us.getD i [])) (by lia) Y v I K).2 (D _ hw).2.2.2.1 (by have:=U _ hw;lia) (D _ hw).2.2.2.2];have:=hL.sg q0 J i (by simpa[a] using l);rwa [uG rfl _ l]at this
abbrev mI(k:Nat):T:=.int (k:Int)
def jv(cs:LL)(a:List Nat):LL:=a.map λz=>cs.getD z []
def lL(l:LL)(k:Nat)(h:k<l.length):l.getD k []∈l:=by rw[af,ag h];exact aW h
def QS{d:Nat}(b:1<=d/\d<=3):WW d 62:=by
 have a:d=1\/d=2\/d=3:=by lia
 refine⟨by decide,λk e=>?_,?_⟩
 .have:k=0\/k=1\/k=2\/k=3:=by lia
  rcases this with rfl|rfl|rfl|rfl<;>decide
 .rcases a with rfl|rfl|rfl<;>decide
def rR{d B:Nat}{cs:LL}{a:List Nat}(g:sL d B cs)(f:∀z∈a,z<cs.length):∀u∈jv cs a,u.length=d+1/\∀x∈u,Bn B x:=λu b=>by obtain⟨z,h,rfl⟩:=aE.mp b;have e:=lL cs z (f z h);exact (g.gc _ e).gl
def Ss{cs:LL}{a:List Nat}(f:∀z∈a,z<cs.length)(k:a.length<=8){b:Pe->M (List T)}{ρ:Pe}{j:Nat}{e:Pe->M T}(d:e=ik kW (gP 1) (gP 0))(i:b ρ=.ok (a.map mI))(g:ρ[j]? = some (some (.lst (cs.map tI)))) :
  lM [none,some j] b (km 0) (λ_=>.ok true) e ρ=.ok ((jv cs a).map tI):=by
 have sz:1000<sizeLine:=by decide
 subst d;exact jZ a mI (λz=>tI (cs.getD z [])) i (by lia) (λz h=>⟨[some (mI z),some (.lst (cs.map tI))],by simp[g],rfl,gX rfl rfl (OG cs tI z [] (f z h))⟩) (by simp[jv])
def Qh{d:Nat}{cs l:LL}{m:List Nat}{pv:List (Nat×LI)}(q:1<=d/\d<=3)(z:sL d 62 cs)(h:PP d 62 (jv cs m) pv l):∃f:LI->LI,∀u∈cs,lr c [tI u,.lst (pv.map oK)]=.ok (tI (f u))/\(f u).length=d+1/\(∃g s y,0<g/\0<s/\Qs (Ar pv) y/\∀i,g*vc (f u) i=s*vc u i+1*y i)/\∀p∈pv,vc (f u) p.1=0:=by
 refine nW (P:=λ(u r:LI)=>lr c [tI u,.lst (pv.map oK)]=.ok (tI r)/\r.length=d+1/\(∃g s y,0<g/\0<s/\Qs (Ar pv) y/\∀i,g*vc r i=s*vc u i+1*y i)/\∀p∈pv,vc r p.1=0) cs λu o=>?_;have a:=(z.gc u o).gl;obtain⟨r,e,n,_,w,k⟩:=C9 (c:=c) (Ar pv) (d+1) (Pq 62 pv.length) 62 (by lia) pv u ((QS q).le _ h.short) a.1 a.2 (λp b=>by obtain⟨A,v,x,j,_⟩:=h.pl p b;exact⟨by lia,v,x,j,p,b,rfl⟩) h.tri
 exact⟨r,e,n,w,k⟩
noncomputable def ng(d:Nat)(cs:LL)(pv:List (Nat×LI))(f:LI->LI):T:=.tup [.int ((d:Int)-(pv.length:Int)),.tup (((List.range cs.length).filter λk=>!(f (cs.getD k [])).any (· != 0)).map mI)]
theorem Fs{d:Nat}{cs:LL}{b:List Nat}(m:1<=d/\d<=3)(e:sL d 62 cs)(j:∀z∈b,z<cs.length)(D:b.length<=7){S:T}(C:seqT S=.ok (b.map mI)):∃pv a f,PP d 62 (jv cs b) pv a/\
  (∀u∈cs,(f u).length=d+1/\(∃g s y,0<g/\0<s/\Qs (Ar pv) y/\∀i,g*vc (f u) i=s*vc u i+1*y i)/\∀p∈pv,vc (f u) p.1=0)/\
  ku c [.lst (cs.map tI),.int d,S]=.ok (if a.any (λr=>r.any (· != 0)) then .non else ng d cs pv f):=by
 have sz:1000<sizeLine:=by decide
 have L:=e.few;obtain⟨pv,a,J,h,I⟩:=PU (c:=c) (jv cs b) d 62 (by lia) (by simp[jv];lia) (rR e j) (QS m);obtain⟨f,n⟩:=Qh (c:=c) m e h;refine⟨pv,a,f,h,λu E=>(n u E).2,?_⟩;have K:=h.short;let q:T:=.tup [.lst (pv.map oK),.lst (a.map tI)];let R (v H:Option W):En:=[some (.p (.lst (cs.map tI))),some (.p (.int (d:Int))),some (.p S),some (.p q),v,H];have l:jL (lC qq (gO (jC (lM [none] (jP (ik kW (gP 3) (cM (.int 1)))) (km 0) (λ_=>.ok true) (yw c))) gR)) (vw (R none none))=.ok (a.any λr=>r.any (· != 0)):=by refine iH (qh (ts:=(a.map λr=>r.any (· != 0)).map T.bl) (jZ a tI (λr=>T.bl (r.any (· != 0))) (pW (gX rfl rfl rfl)) (by lia) (λr hr=>⟨_,rfl,rfl,mG rfl (FG r)⟩) (by simp)) ?_);rw[xq,cK];rfl
 have w:lM [none,none,some 4] (nq (gO (gP 0) gR)) (mT 2 (iN (km 0) (iN (km 1) mP))) (L3.qC (jL (lC qq (gO (hW (gO (gP 1) (gO (gP 2) gR)) (lr c)) gR)))) (xW c) (lF (R (some (.p (.lst (pv.map oK)))) none))=.ok (((List.range cs.length).filter λk=>!(f (cs.getD k [])).any (· != 0)).map mI):=by
  refine yU (List.range cs.length) (λk=>T.tup [mI k,tI (cs.getD k [])]) mI (λk=>!(f (cs.getD k [])).any (· != 0)) ?_ (by simp;lia) (λk B=>⟨[some (mI k),some (tI (cs.getD k [])),some (.lst (pv.map oK))],rfl,tU (iH (mG (jI rfl rfl (n _ (lL cs k (aT.mp B))).1) (FG _))) rfl,λ_=>rfl⟩) rfl;rw[qe (ts:=cs.map tI) rfl];congr 1;refine cU (by simp[nv]) λi N F=>?_;have A:i<cs.length:=by simpa using F
  simp[nv,A]
 refine iQ rfl (gW (ρ':=R none none) (ig (jI (i5 (Ss j (by lia) rfl (by show jP (gP 2) _=_;simp only[jP];exact C) rfl)) rfl J) rfl) ?_);cases o:a.any λr=>r.any (· != 0) with
 |true=>exact l5 (jO (by rw[l,o]) (iA rfl)) rfl
 |false=>refine gW (jV (by rw[l,o]) rfl) (gW (ρ':=R (some (.p (.lst (pv.map oK)))) none) (ig (gX rfl rfl rfl) rfl) (gW (ig (i5 w) rfl) (iA ?_)));exact yc (gX (x:=.int (d:Int)) (y:=.int (pv.length:Int)) rfl (mG (t:=.lst (pv.map oK)) rfl (by simp)) rfl) (mG rfl rfl)
def og{l:LI}:(l.any (· != 0))=false↔∀i,vc l i=0:=by
 constructor
 .intro h i;by_cases a:i<l.length
  .rw[jo l i a];have:=bG.mp h l[i] (aW a);simpa using this
  .exact jg l i (by lia)
 .intro h;refine bG.mpr λx b=>?_;obtain⟨i,a,rfl⟩:=fP b;have:=h i;rw[jo l i a]at this;simp[this]
def sL.up62{d:Nat}{cs:LL}(h:sL d 30 cs):sL d 62 cs:=⟨λf a=>(h.gc f a).mono (by decide),h.few,h.pw⟩
def xA(m:Nat)(iT:LL)(v:Vc):Prop:=∀r∈iT,jD m (vc r) v=0
def Hq{d:Nat}{x v:Vc}:jD (d+1) x (λi=>if i<d then v i else 0)=jD d x v:=by unfold jD;rw[qr];dsimp only;rw[aS (bf _),eE,ee];exact iB _ _ _ λi a=>by rw[aR a]
def Eh{m:Nat}{iT:LL}(d:m<=4)(b:iT.length<=8)(hr:∀v∈iT,v.length=m/\∀x∈v,Bn 62 x):∃a,zw iT m iT.length a:=K3 iT (λv hv=>(hr v hv).1) _ (aL _)
section
variable {d:Nat}{cs rs rs':LL}{zs zs':List Nat}{pv pv':List (Nat×LI)}{f f':LI->LI}
theorem Ik(hd:1<=d/\d<=3)(X:sL d 62 cs)(n:∀z∈zs,z<cs.length)(A:∀z∈zs',z<cs.length)(D:zs.length<=7)(C:zs'.length<=7)(h:PP d 62 (jv cs zs) pv rs)(h':PP d 62 (jv cs zs') pv' rs')
  (hf:∀u∈cs,(f u).length=d+1/\(∃g s y,0<g/\0<s/\Qs (Ar pv) y/\∀i,g*vc (f u) i=s*vc u i+1*y i)/\∀p∈pv,vc (f u) p.1=0)
  (Y:∀u∈cs,(f' u).length=d+1/\(∃g s y,0<g/\0<s/\Qs (Ar pv') y/\∀i,g*vc (f' u) i=s*vc u i+1*y i)/\∀p∈pv',vc (f' u) p.1=0)
  (U:∀v,xA (d+1) (jv cs zs) v↔xA (d+1) (jv cs zs') v) :
  (if rs.any (λr=>r.any (· != 0)) then T.non else ng d cs pv f)=(if rs'.any (λr=>r.any (· != 0)) then T.non else ng d cs pv' f'):=by
 have QT:∀{u:LI} {m:Nat},u.length=m/\(∀x∈u,Bn 62 x)->u.length=m/\∀x∈u,Bn 62 x:=λq=>⟨q.1,λx B=>(q.2 x B).mono (by decide)⟩;have H:∀{zs:List Nat},(∀z∈zs,z<cs.length)->zs.length<=7->∃N,zw (jv cs zs) (d+1) (jv cs zs).length N:=λ{zs} n D=>Eh (by lia) (by simp[jv];lia) λv hv=>QT (rR X n v hv);have P:∀{zs:List Nat},(∀z∈zs,z<cs.length)->zs.length<=7->∃N,zw ((jv cs zs).map (·.take d)) d ((jv cs zs).map (·.take d)).length N:=λ{zs} n D=>Eh (by lia) (by simp[jv];lia) λv hv=>by obtain⟨u,j,rfl⟩:=aE.mp hv;have q:=rR X n u j;exact QT ⟨by rw[bQ,q.1];lia,λx B=>q.2 x (eQ B)⟩
 have Q:∀{zs:List Nat},(∀z∈zs,z<cs.length)->zs.length<=7->∀u∈cs,∃N,zw (jv cs zs++[u]) (d+1) (jv cs zs++[u]).length N:=λ{zs} n D u j=>Eh (by lia) (by simp[jv];lia) λv hv=>by
  rcases ai.mp hv with q|q
  .exact QT (rR X n v q)
  .rw[aj.mp q];exact QT (X.gc u j).gl
 obtain⟨a1,k1⟩:=H n D;obtain⟨a1',I⟩:=H A C;obtain⟨a0,k0⟩:=P n D;obtain⟨a0',J⟩:=P A C;have s1:=qV k1 I U;have F:∀{zs:List Nat} {v:Vc},(∀r∈(jv cs zs).map (·.take d),jD d (vc r) v=0)↔xA (d+1) (jv cs zs) λi=>if i<d then v i else 0:=λ{zs v}=>⟨λq r hr=>by rw[Hq,<-ux];exact q _ (aE.mpr ⟨r,hr,rfl⟩),λq r hr=>by obtain⟨u,j,rfl⟩:=aE.mp hr;rw[ux,<-Hq];exact q u j⟩
 have s0:=qV k0 J λv=>F.trans ((U _).trans F.symm);have e0:=DE h k0;have e0':=DE h' J;have K:pv.length=pv'.length:=by lia
 have left:∀{zs:List Nat} {rs:LL} {pv a:List (Nat×LI)},PP d 62 (jv cs zs) pv rs->zw (jv cs zs) (d+1) (jv cs zs).length a->((rs.any λr=>r.any (· != 0))=false↔a.length=pv.length):=λ{zs rs pv a} h k=>by
  constructor
  .intro L;exact n5 h (λr hr=>og.mp (by simpa using bG.mp L r hr) d) k
  .intro e;refine bG.mpr λr hr z=>?_;have hn:vc r d≠0:=λw=>by
    have:(r.any (· != 0))=false:=og.mpr λi=>by
     by_cases hi:i<d
     .exact (h.rr r hr).2.1 i hi
     .by_cases hi':i=d
      .rw[hi'];exact w
      .exact jg r i (by rw[(h.rr r hr).1];lia)
    rw[this]at z;cases z
   have:=Jk h hr hn k;lia
 have l1:=left h k1;have l2:=left h' I;cases L:rs.any λr=>r.any (· != 0) with
 |true=>
  cases l:rs'.any λr=>r.any (· != 0) with
  |true=>rfl
  |false=>have:=l2.mp l;have:(rs.any λr=>r.any (· != 0))=false:=l1.mpr (by lia);rw[L]at this;cases this
 |false=>
  have q1:=l1.mp L;have l:(rs'.any λr=>r.any (· != 0))=false:=l2.mpr (by lia);rw[l];have z1:∀r∈rs,vc r d=0:=λr hr=>og.mp (by simpa using bG.mp L r hr) d;have z2:∀r∈rs',vc r d=0:=λr hr=>og.mp (by simpa using bG.mp l r hr) d;have j:∀u∈cs,(f u).any (· != 0)=(f' u).any (· != 0):=λu j=>by
   obtain⟨b,kb⟩:=Q n D u j;obtain⟨b',S⟩:=Q A C u j;have sb:=qV kb S λv=>by
    constructor
    .intro q r hr;rcases ai.mp hr with w|w
     .exact (U v).mp (λr hr=>q r (ay _ hr)) r w
     .exact q r (bE _ w)
    .intro q r hr;rcases ai.mp hr with w|w
     .exact (U v).mpr (λr hr=>q r (ay _ hr)) r w
     .exact q r (bE _ w)
   obtain⟨fl,⟨g,s,y,hg0,Z,hy,ey⟩,fz⟩:=hf u j;obtain⟨fl',⟨g',s',y',E,R,hy',ey'⟩,fz'⟩:=Y u j;have o:=ve h z1 hg0 Z hy ey fz fl kb;have o':=ve h' z2 E R hy' ey' fz' fl' S;have:(f u).any (· != 0)=false↔(f' u).any (· != 0)=false:=by rw[og,og,<-o,<-o',sb,K]
   cases B:(f u).any (· != 0) with
   |false=>exact (this.mp B).symm
   |true=>
    cases hy:(f' u).any (· != 0) with
    |true=>rfl
    |false=>rw[this.mpr hy]at B;cases B
  simp only[cy,if_false];unfold ng;rw[K];congr 4;congr 1;refine fK λk hk=>?_;rw[j _ (lL cs k (aT.mp hk))]
end
def NP(d:Nat)(cs:LL)(pv:List (Nat×LI))(f:LI->LI):Ky:=((d:Int)-(pv.length:Int),((List.range cs.length).filter λk=>!(f (cs.getD k [])).any (· != 0)).map λ(k:Nat)=>(k:Int))
def KP(d:Nat)(cs:LL)(pv:List (Nat×LI))(f:LI->LI):Prop:=∀u∈cs,(f u).length=d+1/\(∃g s y,0<g/\0<s/\Qs (Ar pv) y/\∀i,g*vc (f u) i=s*vc u i+1*y i)/\∀p∈pv,vc (f u) p.1=0
def Ud(d:Nat)(cs:LL)(b:List Nat)(o:Option Ky):Prop:=∃pv a f,PP d 62 (jv cs b) pv a/\KP d cs pv f/\o=if a.any (λr=>r.any (· != 0)) then none else some (NP d cs pv f)
def Qa:Option Ky->T
 |none=>.non
 |some g=>nL g
def xO(d:Nat)(cs:LL)(pv:List (Nat×LI))(f:LI->LI):ng d cs pv f=nL (NP d cs pv f):=by unfold ng nL NP;rw[aJ];rfl
def Fw(b:Bool)(g:Ky):(if b then T.non else nL g)=Qa (if b then none else some g):=by cases b<;>rfl
def Py{f g:Ky}(h:nL f=nL g):f=g:=by have:=congrArg zK h;rw[uD,uD]at this;exact Option.some.inj this
def Om{o a:Option Ky}(h:Qa o=Qa a):o=a:=by
 cases o with
 |none=>
  cases a with
  |none=>rfl
  |some g=>cases h
 |some f=>
  cases a with
  |none=>cases h
  |some g=>rw[Py h]
def FL(d:Nat)(cs:LL)(a:List Nat):Option Ky:=Classical.epsilon (Ud d cs a)
structure Vz(d:Nat)(cs:LL):Prop where
 hd:1<=d/\d<=3
 hg:sL d 62 cs
def pM(cs:LL)(a:List Nat):Prop:=(∀z∈a,z<cs.length)/\a.length<=7
section
variable {d:Nat}{cs:LL}{zs zs':List Nat}{k:Nat}{g:Ky}
def CU{o e:Option Ky}(V:Vz d cs)(b:pM cs zs)(a:pM cs zs')(h:Ud d cs zs o)(h':Ud d cs zs' e)(q:∀v,xA (d+1) (jv cs zs) v↔xA (d+1) (jv cs zs') v):o=e:=by obtain⟨pv,r,f,p,l,rfl⟩:=h;obtain⟨j,n,s,m,i,rfl⟩:=h';have:=Ik V.hd V.hg b.1 a.1 b.2 a.2 p m l i q;rw[xO,xO,Fw,Fw]at this;exact Om this
def LJ(V:Vz d cs)(a:pM cs zs){S:T}(h:seqT S=.ok (zs.map mI)):∃o,Ud d cs zs o/\ku c [.lst (cs.map tI),.int d,S]=.ok (Qa o):=by obtain⟨pv,b,f,p,l,e⟩:=Fs (c:=c) V.hd V.hg a.1 a.2 h;rw[xO,Fw]at e;exact⟨_,⟨pv,b,f,p,l,rfl⟩,e⟩
def C3(V:Vz d cs)(a:pM cs zs):Ud d cs zs (FL d cs zs):=by obtain⟨o,h,_⟩:=LJ (c:=⟨0,0,0,0,0,0,0,0,0,0,0,0,0⟩) V a (S:=.lst (zs.map mI)) rfl;exact Classical.epsilon_spec (p:=Ud d cs zs) ⟨o,h⟩
def Rn(V:Vz d cs)(a:pM cs zs){S:T}(b:seqT S=.ok (zs.map mI)):ku c [.lst (cs.map tI),.int d,S]=.ok (Qa (FL d cs zs)):=by obtain⟨o,h,e⟩:=LJ (c:=c) V a b;rw[CU V a a h (C3 V a) λ_=>Iff.rfl]at e;exact e
def sh(V:Vz d cs)(b:pM cs zs)(a:pM cs zs')(e:∀v,xA (d+1) (jv cs zs) v↔xA (d+1) (jv cs zs') v):FL d cs zs=FL d cs zs':=CU V b a (C3 V b) (C3 V a) e
def QT{u:LI}{m:Nat}(q:u.length=m/\∀x∈u,Bn 62 x):u.length=m/\∀x∈u,Bn 62 x:=⟨q.1,λx a=>(q.2 x a).mono (by decide)⟩
def Ra(V:Vz d cs)(a:pM cs zs):∃b,zw (jv cs zs) (d+1) (jv cs zs).length b:=Eh (by have:=V.hd;lia) (by have:=a.2;simp[jv];lia) λv hv=>QT (rR V.hg a.1 v hv)
def WX(V:Vz d cs)(a:pM cs zs){u:LI}(b:u∈cs):∃e,zw (jv cs zs++[u]) (d+1) (jv cs zs++[u]).length e:=Eh (by have:=V.hd;lia) (by have:=a.2;simp[jv];lia) λv hv=>by
 rcases ai.mp hv with q|q
 .exact QT (rR V.hg a.1 v q)
 .rw[aj.mp q];exact QT (V.hg.gc u b).gl
def PD{a:LL}(h:(a.any λr=>r.any (· != 0))=false):∀r∈a,vc r d=0:=λr hr=>og.mp (by simpa using bG.mp h r hr) d
def Qe{b:LL}{pv:List (Nat×LI)}{iT:LL}(p:PP d 62 iT pv b)(h:(b.any λr=>r.any (· != 0))=true):∃r∈b,vc r d≠0:=by
 obtain⟨r,hr,e⟩:=eV.mp h;refine⟨r,hr,λz=>?_⟩;have:(r.any (· != 0))=false:=og.mpr λi=>by
  by_cases f:i<d
  .exact (p.rr r hr).2.1 i f
  .by_cases a:i=d
   .rw[a];exact z
   .exact jg r i (by rw[(p.rr r hr).1];lia)
 rw[this]at e;cases e
def lZ(V:Vz d cs)(i:pM cs zs)(h:FL d cs zs=some g):∃pv a f,PP d 62 (jv cs zs) pv a/\KP d cs pv f/\(∀r∈a,vc r d=0)/\g=NP d cs pv f:=by
 obtain⟨pv,a,f,p,l,e⟩:=C3 V i;rw[h]at e;cases b:a.any λr=>r.any (· != 0) with
 |true=>rw[b]at e;cases e
 |false=>rw[b]at e;exact⟨pv,a,f,p,l,PD b,Option.some.inj e⟩
def w5(V:Vz d cs)(i:pM cs zs)(h:FL d cs zs=none):∃pv a,PP d 62 (jv cs zs) pv a/\∃r∈a,vc r d≠0:=by
 obtain⟨pv,a,f,p,l,e⟩:=C3 V i;rw[h]at e;cases b:a.any λr=>r.any (· != 0) with
 |false=>rw[b]at e;cases e
 |true=>exact⟨pv,a,p,Qe p b⟩
def BN(V:Vz d cs)(m:pM cs zs){pv:List (Nat×LI)}{n:LL}{f:LI->LI}(p:PP d 62 (jv cs zs) pv n)(l:KP d cs pv f)(z:∀r∈n,vc r d=0){u:LI}(A:u∈cs) :
  (f u).any (· != 0)=false↔∀v,xA (d+1) (jv cs zs) v->jD (d+1) (vc u) v=0:=by
 obtain⟨I,⟨g,s,y,j,a,D,o⟩,J⟩:=l u A;constructor
 .intro h v hv;have H:=og.mp h;have e:jD (d+1) y v=0:=jF D λx ⟨q,hq,ex⟩=>by rw[ex];exact jF (p.pl q hq).2.2.2.2 λx ⟨r,hr,ex⟩=>by rw[ex];exact hv r hr
  have K:∀i,s*vc u i = -(y i):=λi=>by have:=o i;rw[H i]at this;lia
  have E:s*jD (d+1) (vc u) v=0:=by
   have:s*jD (d+1) (vc u) v = -1*jD (d+1) y v:=by unfold jD;rw[<-kC,<-kC];exact iB _ _ _ λi L=>by have:=K i;grind
   rw[this,e];rfl
  rcases eF.mp E with w|w
  .lia
  .exact w
 .intro h;obtain⟨N,B⟩:=Ra V m;obtain⟨b,C⟩:=WX V m A;have F:=qV C B λv=>by
   constructor
   .exact λq r hr=>q r (ay _ hr)
   .intro q r hr;rcases ai.mp hr with w|w
    .exact q r w
    .rw[aj.mp w];exact h v q
  exact og.mpr ((ve p z j a D o J I C).mp (by rw[F];exact n5 p z B))
def nB(V:Vz d cs)(b:pM cs zs)(h:FL d cs zs=some g):∃ks:List Nat,g.2=ks.map (λ(k:Nat)=>(k:Int))/\(∀k,k∈ks↔k<cs.length/\∀v,xA (d+1) (jv cs zs) v->jD (d+1) (vc (cs.getD k [])) v=0)/\ks.length<=cs.length/\ks.Pairwise (· < ·):=by
 obtain⟨pv,i,f,p,l,z,rfl⟩:=lZ V b h;refine⟨_,rfl,λk=>?_,?_,?_⟩
 .rw[aV,aT];constructor
  .rintro⟨a,e⟩;exact⟨a,(BN V b p l z (lL cs k a)).mp (by simpa using e)⟩
  .rintro⟨a,e⟩;exact⟨a,by simpa using (BN V b p l z (lL cs k a)).mpr e⟩
 .have:=fM (λk=>!(f (cs.getD k [])).any (· != 0)) (List.range cs.length);rwa [eY]at this
 .exact List.pairwise_lt_range.filter _
def ie{r:LI}:r∈jv cs zs↔∃z∈zs,r=cs.getD z []:=by unfold jv;rw[aE];exact⟨λ⟨z,h,e⟩=>⟨z,h,e.symm⟩,λ⟨z,h,e⟩=>⟨z,h,e.symm⟩⟩
def mr{v:Vc}:xA (d+1) (jv cs (zs++[k])) v↔xA (d+1) (jv cs zs) v/\jD (d+1) (vc (cs.getD k [])) v=0:=by
 constructor
 .intro h;exact⟨λr hr=>h r (by obtain⟨z,a,e⟩:=ie.mp hr;exact ie.mpr ⟨z,ay _ a,e⟩),h _ (ie.mpr ⟨k,by simp,rfl⟩)⟩
 .rintro⟨f,b⟩ r hr;obtain⟨z,a,rfl⟩:=ie.mp hr;rcases ai.mp a with q|q
  .exact f _ (ie.mpr ⟨z,q,rfl⟩)
  .rw[aj.mp q];exact b
def pM.snoc(a:pM cs (zs++[k])):pM cs zs:=⟨λz h=>a.1 z (ay _ h),by have:=a.2;simp at this;lia⟩
def Dl{a b:List Nat}(h:a.map (λ(k:Nat)=>(k:Int))=b.map λ(k:Nat)=>(k:Int)):a=b:=(cZ (f:=λ(k:Nat)=>(k:Int)) λx y w=>fQ.mp w).mp h
def LA(V:Vz d cs)(b:pM cs (zs++[k])){ks:List Nat}(j:pM cs (ks++[k]))(h:FL d cs zs=some g)(i:g.2=ks.map (λ(k:Nat)=>(k:Int))):FL d cs (ks++[k])=FL d cs (zs++[k]):=by
 obtain⟨f,e,m,_⟩:=nB V b.snoc h;have:ks=f:=Dl (i.symm.trans e);subst this;refine sh V j b λv=>?_;rw[mr,mr];refine and_congr_left λ_=>⟨λh r hr=>?_,λh r hr=>?_⟩
 .obtain⟨z,a,rfl⟩:=ie.mp hr;exact h _ (ie.mpr ⟨z,(m z).mpr ⟨b.1 z (ay _ a),λv hv=>hv _ hr⟩,rfl⟩)
 .obtain⟨z,a,rfl⟩:=ie.mp hr;exact ((m z).mp a).2 v h
def GG(V:Vz d cs)(f:pM cs (zs++[k]))(h:FL d cs zs=none):FL d cs (zs++[k])=none:=by
 obtain⟨pv,u,p,r,hr,o⟩:=w5 V f.snoc h;cases e:FL d cs (zs++[k]) with
 |none=>rfl
 |some g=>
  obtain⟨i,n,z,a,s,m,rfl⟩:=lZ V f e;obtain⟨A,l⟩:=Ra V f;have:=lK (os:=i++[(d,r)]) l (λq b=>by
   rcases ai.mp b with w|w
   .exact⟨by have:=(a.pl q w).1;lia,(a.pl q w).2.2.1⟩
   .rw[aj.mp w];exact⟨bJ d,o⟩) (eJ.mpr ⟨a.tri,c6 _ _,λq b y j=>by rw[aj.mp j];exact (p.rr r hr).2.1 _ (a.pl q b).1⟩) λv hv q b=>by
   rcases ai.mp b with w|w
   .exact jF (a.pl q w).2.2.2.2 λx ⟨r,hr,ex⟩=>by rw[ex];exact hv r hr
   .rw[aj.mp w];exact jF (p.rr r hr).2.2 λx ⟨r,hr,ex⟩=>by rw[ex];exact (mr.mp hv).1 r hr
  rw[n5 a m l]at this;simp at this;exact absurd this (fR _)
def FK(V:Vz d cs):∃g,FL d cs []=some g:=by
 cases e:FL d cs [] with
 |some g=>exact⟨g,rfl⟩
 |none=>
  obtain⟨pv,b,p,r,hr,a⟩:=w5 V ⟨λ_ h=>absurd h fS,bK _⟩ e;have:=jF (m:=d+1) (v:=λi=>if i=d then 1 else 0) (p.rr r hr).2.2 λx ⟨r,hr,_⟩=>by simp[jv]at hr
  refine absurd ?_ a;unfold jD at this;rw[qr]at this;rw[iB d _ (λ_=>0) λi f=>by dsimp only;rw[aS (by lia),eE],lB]at this;simpa using this
def tR(V:Vz d cs)(a:pM cs zs)(h:FL d cs zs=some g):0<=g.1/\g.1<=d:=by obtain⟨pv,b,f,p,l,z,rfl⟩:=lZ V a h;have:=p.short;unfold NP;dsimp only;lia
def Gq{B:Ky}(V:Vz d cs)(j:pM cs (zs++[k]))(h:FL d cs zs=some g)(h':FL d cs (zs++[k])=some B)(I:(k:Int)∉g.2):B.1<g.1:=by
 obtain⟨Q,e,m,_⟩:=nB V j.snoc h;have i:k<cs.length:=j.1 k (by simp);have E:k∉Q:=λw=>I (by rw[e];exact aE.mpr ⟨k,w,rfl⟩);obtain⟨pv,Y,f,p,l,z,rfl⟩:=lZ V j.snoc h;obtain⟨K,P,Z,N,X,H,rfl⟩:=lZ V j h';obtain⟨a,C⟩:=Ra V j;obtain⟨b,A⟩:=WX V j.snoc (lL cs k i);have S:a.length=b.length:=qV C A λv=>by
  constructor
  .intro q r hr;rcases ai.mp hr with w|w
   .exact (mr.mp q).1 r w
   .rw[aj.mp w];exact (mr.mp q).2
  .intro q;exact mr.mpr ⟨λr hr=>q r (ay _ hr),q _ (by simp)⟩
 have ra:=n5 N H C;have D:=lK A (λq n=>⟨by have:=(p.pl q n).1;lia,(p.pl q n).2.2.1⟩) p.tri λv hv q n=>jF (p.pl q n).2.2.2.2 λx ⟨r,hr,ex⟩=>by rw[ex];exact hv r (ay _ hr)
 obtain⟨F,⟨U,s,y,u,o,R,L⟩,J⟩:=l _ (lL cs k i);have ne:b.length≠pv.length:=λw=>E ((m k).mpr ⟨i,(BN V j.snoc p l z (lL cs k i)).mp (og.mpr ((ve p z u o R L J F A).mp w))⟩);unfold NP;dsimp only;lia
end
def mq(n:Nat)(p:Nat->Bool):List Nat:=(List.range n).filter p
def BY{n:Nat}{p:Nat->Bool}:∀z∈mq n p,z<n:=λz h=>aT.mp (aV.mp h).1
def Di(n:Nat)(p:Nat->Bool):(mq n p).length<=n:=by have:=fM p (List.range n);rwa [eY]at this
def vU(n:Nat)(p:Nat->Bool):mq (n+1) p=mq n p++(if p n then [n] else []):=by unfold mq;rw[fT,fU];congr 1;cases h:p n<;>simp[h]
def qA{n:Nat}{p q:Nat->Bool}(h:∀k,k<n->p k=q k):mq n p=mq n q:=fK λk a=>h k (aT.mp a)
def zq(a:List Ky):Option Ky->List Ky
 |none=>a
 |some g=>xP a g
def Qr(a:List Ky)(o:Option Ky):L6 a (Qa o)=.ok (zq a o):=by
 cases o with
 |none=>rfl
 |some g=>unfold Qa L6 zq;have:zK (nL g)=some g:=uD g;unfold nL at this ⊢;simp only[this]
def Ki{a:List Ky}{g x:Ky}:x∈xP a g↔x∈a\/x=g:=by
 unfold xP;split
 .rename_i h;exact⟨.inl,λb=>b.elim id λe=>e▸h⟩
 .simp
def Ml{a:List Ky}{o:Option Ky}{x:Ky}:x∈zq a o↔x∈a\/o=some x:=by
 cases o with
 |none=>simp[zq]
 |some g=>unfold zq;rw[Ki];exact or_congr_right ⟨λh=>by rw[h],λh=>(Option.some.inj h).symm⟩
def Gc{d:List Ky}(o:Option Ky)(h:d.Nodup):(zq d o).Nodup:=by
 cases o with
 |none=>exact h
 |some g=>
  show (xP d g).Nodup;unfold xP;split
  .exact h
  .rename_i f;exact dY.mpr ⟨h,by simp,λa i b j e=>by rw[aj.mp j]at e;exact f (e▸i)⟩
def Lh(a:List Ky)(o:Option Ky):(zq a o).length<=a.length+1:=by
 cases o with
 |none=>exact bM _
 |some g=>exact NG a g
section
variable {α:Type}{φ:α->Option Ky}
def Aa(φ:α->Option Ky)(l:List α)(b:List Ky):List Ky:=l.foldl (λa x=>zq a (φ x)) b
theorem Ax{x:Ky}:∀{l:List α} {a:List Ky},x∈Aa φ l a↔x∈a\/∃y∈l,φ y=some x
 |[],a=>by simp[Aa]
 |y::l,a=>by show x∈Aa φ l (zq a (φ y))↔_;rw[Ax,Ml];simp only[aG,exists_eq_or_imp,or_assoc]
theorem wB:∀{l:List α} {a:List Ky},a.Nodup->(Aa φ l a).Nodup
 |[],_,h=>h
 |y::l,_,h=>wB (l:=l) (Gc (φ y) h)
theorem Dm{st:T->List Ky->M (List Ky)}{enc:α->T}{N:Nat}:∀(l:List α) (b:List Ky),b.length+l.length<=N->(∀x∈l,∀a:List Ky,a.length<N->st (enc x) a=.ok (zq a (φ x)))->qW st (l.map enc) b=.ok (Aa φ l b)
 |[],_,_,_=>rfl
 |y::l,b,h,hs=>by rw[aA]at h;show (st (enc y) b).bind (qW st (l.map enc))=_;rw[hs y bt b (by lia)];have:=Lh b (φ y);exact Dm l _ (by lia) λx d=>hs x (bx _ d)
end
theorem Ha:∀(n:Nat) (p:Nat->Bool),∃b:Nat,b<2 ^ n/\∀k,k<n->(Builtin.bitAnd ((b:Int) / 2 ^ k) 1==1)=p k
 |0,_=>⟨0,by decide,λk a=>absurd a (dH _)⟩
 |n+1,p=>by
  obtain⟨b,d,h⟩:=Ha n λk=>p (k+1);refine⟨2*b+(if p 0 then 1 else 0),?_,λk a=>?_⟩
  .rw[dJ];split<;>lia
  .rw[PyProof.Rows.bitAnd_m1];cases k with
   |zero=>
    rw[Int.pow_zero,Int.ediv_one];cases p 0
    .simp
    .simp_all
   |succ k=>
    rw[<-h k (by lia),PyProof.Rows.bitAnd_m1,Int.pow_succ,dz,<-Int.ediv_ediv_of_nonneg (by decide)];have:((2*b+(if p 0 then 1 else 0):Nat):Int) / 2=b:=by split<;>lia
    rw[this]
def EH(b:Nat):Nat->Bool:=λk=>Builtin.bitAnd ((b:Int) / 2 ^ k) 1==1
section
variable {d:Nat}{cs:LL}
def qw(b:cs.length<=7){n:Nat}(a:n<=cs.length)(p:Nat->Bool):pM cs (mq n p):=⟨λz h=>aF (BY z h) a,aO (Di n p) (by lia)⟩
def DY(b:cs.length<=7){k:Nat}(a:k<cs.length)(p:Nat->Bool):pM cs (mq k p++[k]):=by
 refine⟨λz h=>?_,?_⟩
 .rcases ai.mp h with q|q
  .have:=BY z q;lia
  .rw[aj.mp q];exact a
 .have:=Di k p;simp;lia
def zQ(d:Nat)(cs:LL)(k:Nat)(a:List Ky):Prop:=a.Nodup/\∀g,g∈a↔∃p,FL d cs (mq k p)=some g
def Jb(l:LI):List Nat:=l.map Int.toNat
def sd(ks:List Nat):Jb (ks.map λ(k:Nat)=>(k:Int))=ks:=by unfold Jb;rw[aJ];exact (c7 λk _=>by simp).trans (List.map_id ks)
def Le(d:Nat)(cs:LL)(k:Nat)(a:List Ky):List Ky:=Aa (λf:Ky=>FL d cs (Jb f.2++[k])) a a
def Jr(V:Vz d cs)(y:cs.length<=6){k:Nat}(i:k<cs.length){b:List Ky}(h:zQ d cs k b):zQ d cs (k+1) (Le d cs k b):=by
 refine⟨wB h.1,λg=>?_⟩;unfold Le;rw[Ax];have l:∀(p:Nat->Bool) (f:Ky),FL d cs (mq k p)=some f->FL d cs (Jb f.2++[k])=FL d cs (mq k p++[k]):=λp f e=>by
  obtain⟨x,o,m,w,_⟩:=nB V (qw (by lia) (by lia) p) e;rw[o,sd];exact LA V (DY (by lia) i p) ⟨λz s=>by
   rcases ai.mp s with q|q
   .exact ((m z).mp q).1
   .rw[aj.mp q];exact i,by simp;lia⟩ e o
 constructor
 .rintro (v|⟨f,u,e⟩)
  .obtain⟨p,e⟩:=(h.2 g).mp v;refine⟨λj=>p j&&decide (j<k),?_⟩;rw[vU,show (p k&&decide (k<k))=false by simp,aS (by decide),bL];rw[qA (q:=p) λj n=>by simp[n]];exact e
  .obtain⟨p,a⟩:=(h.2 f).mp u;rw[l p f a]at e;refine⟨λj=>if j=k then true else p j,?_⟩;rw[vU,aR (by simp),qA (q:=p) λj n=>by rw[aS (by lia)]];exact e
 .rintro⟨p,e⟩;rw[vU]at e;cases r:p k with
  |false=>rw[r]at e;simp only[cy,if_false,bL]at e;exact .inl ((h.2 g).mpr ⟨p,e⟩)
  |true=>
   rw[r]at e;simp only[if_true]at e;cases a:FL d cs (mq k p) with
   |none=>rw[GG V (DY (by lia) i p) a]at e;cases e
   |some f=>exact .inr ⟨f,(h.2 f).mpr ⟨p,a⟩,by rw[l p f a];exact e⟩
def DM{k:Nat}{a:List Ky}(h:zQ d cs k a):a.length<=2 ^ k:=by
 have:=List.Nodup.length_le_of_subset (l₂:=(List.range (2 ^ k)).filterMap λb=>FL d cs (mq k (EH b))) h.1 λg i=>by obtain⟨p,e⟩:=(h.2 g).mp i;obtain⟨b,f,j⟩:=Ha k p;exact bC.mpr ⟨b,aT.mpr f,by rw[show mq _ (EH b)=mq _ p from qA j];exact e⟩
 have l:=fV (λb=>FL d cs (mq k (EH b))) (List.range (2 ^ k));rw[eY]at l;lia
theorem wk(V:Vz d cs)(f:cs.length<=6):∀n,n<=cs.length->FL d cs (List.range n)=none\/(∃j,j<n/\∃g,FL d cs (List.range j)=some g/\(j:Int)∈g.2)\/∃g,FL d cs (List.range n)=some g/\g.1<=(d:Int)-n
 |0,_=>by obtain⟨g,e⟩:=FK V;exact .inr (.inr ⟨g,e,by have:=(tR V ⟨λ_ h=>absurd h fS,bK _⟩ e).2;lia⟩)
 |n+1,hn=>by
  have a:pM cs (List.range n++[n]):=⟨λz h=>by
   rcases ai.mp h with q|q
   .have:=aT.mp q;lia
   .rw[aj.mp q];lia,by simp;lia⟩
  rw[fT];cases e:FL d cs (List.range n++[n]) with
  |none=>exact .inl rfl
  |some g'=>
   rcases wk V f n (by lia) with q|⟨j,k,q⟩|⟨g,q,i⟩
   .rw[GG V a q]at e;cases e
   .exact .inr (.inl ⟨j,by lia,q⟩)
   .by_cases b:(n:Int)∈g.2
    .exact .inr (.inl ⟨n,by lia,g,q,b⟩)
    .have:=Gq V a q e b;exact .inr (.inr ⟨g',rfl,by lia⟩)
def wX(V:Vz d cs)(S:cs.length<=6){k:List Ky}(h:zQ d cs cs.length k):k.length<64:=by
 by_cases u:cs.length<=5
 .have:=DM h;have Y:2 ^ cs.length<=2 ^ 5:=dI (by decide) u;lia
 have u:cs.length=6:=by lia
 obtain⟨l,n,o⟩:=Ha cs.length λ_=>true;have sub:∀g∈k,g∈((List.range (2 ^ cs.length)).filter λb=>b != l).filterMap λb=>FL d cs (mq cs.length (EH b)):=λg U=>by
  have go:∀p:Nat->Bool,FL d cs (mq cs.length p)=some g->(∃j,j<cs.length/\p j=false)->g∈((List.range (2 ^ cs.length)).filter λb=>b != l).filterMap λb=>FL d cs (mq cs.length (EH b)):=λp e ⟨j,a,hpj⟩=>by
   obtain⟨b,P,C⟩:=Ha cs.length p;refine bC.mpr ⟨b,aV.mpr ⟨aT.mpr P,?_⟩,by rw[show mq _ (EH b)=mq _ p from qA C];exact e⟩;have:b≠l:=λz=>by have H:=C j a;have D:=o j a;rw[z]at H;rw[H,hpj]at D;cases D
   simpa using this
  obtain⟨p,e⟩:=(h.2 g).mp U;by_cases A:∃j,j<cs.length/\p j=false
  .exact go p e A
  .have pt:∀j,j<cs.length->p j=true:=λj a=>by
    cases q:p j with
    |true=>rfl
    |false=>exact absurd ⟨j,a,q⟩ A
   have E:mq cs.length p=List.range cs.length:=fW.mpr λj a=>pt j (aT.mp a);rcases wk V S cs.length (aL _) with q|⟨j,a,I,q,B⟩|⟨I,q,R⟩
   .rw[E,q]at e;cases e
   .refine go (λi=>decide (i≠j)) ?_ ⟨j,a,by simp⟩;rw[<-e,E];have J:pM cs (List.range j):=⟨λz h=>by have:=aT.mp h;lia,by simp;lia⟩;obtain⟨Z,L,m,_⟩:=nB V J q;have K:=(m j).mp (by rw[L]at B;obtain⟨z,f,X⟩:=aE.mp B;rw[<-fQ.mp X];exact f)
    refine sh V (qw (by lia) (aL _) _) ⟨λz h=>aT.mp h,by simp;lia⟩ λv=>⟨λhv r hr=>?_,λhv r hr=>?_⟩
    .obtain⟨z,f,rfl⟩:=ie.mp hr;have f:=aT.mp f;by_cases x:z=j
     .subst x;exact K.2 v λr hr=>by obtain⟨y,w,rfl⟩:=ie.mp hr;have w:=aT.mp w;exact hv _ (ie.mpr ⟨y,aV.mpr ⟨aT.mpr (by lia),by simpa using aN w⟩,rfl⟩)
     .exact hv _ (ie.mpr ⟨z,aV.mpr ⟨aT.mpr f,by simpa using x⟩,rfl⟩)
    .obtain⟨z,f,rfl⟩:=ie.mp hr;exact hv _ (ie.mpr ⟨z,aT.mpr (BY z f),rfl⟩)
   .have:=(tR V ⟨λz h=>aT.mp h,by simp;lia⟩ q).1;have:=V.hd.2;lia
 have Q:=List.Nodup.length_le_of_subset h.1 sub;have N:=fV (λb=>FL d cs (mq cs.length (EH b))) ((List.range (2 ^ cs.length)).filter λb=>b != l);have F:((List.range (2 ^ cs.length)).filter λb=>b != l).length<(List.range (2 ^ cs.length)).length:=List.length_filter_lt_length_iff_exists.mpr ⟨l,aT.mpr n,by simp⟩;rw[eY]at F;have s:2 ^ cs.length=64:=by rw[u]
 rw[s]at Q N F;lia
end
def Sy(h:fa ρ=.ok (.bl true))(a:fb ρ=.ok t):zM fa fb ρ=.ok t:=by simp only[zM,jL,h,M.bind_ok,a,if_true]
section
variable {d:Nat}{cs:LL}
def Qb{i fe:Pe->M T}{j:Pe->M (List T)}{e a b f:Nat}{ρ:En}{g:Ky}{its:List T}{l:List Ky}(k:i (lF ρ)=.ok (nL g))(m:j (((((lF ρ).set e none).set f none).set a none).set b none)=.ok its)
  (n:qW (Jh fe a b (((((lF ρ).set e none).set f none).set a none).set b none)) its [g]=.ok l) (h:l.length<64):IG i fe j e a b f ρ=.rf ((jS l).map nL):=by
 unfold IG;rw[k,O.of_ok,uD];dsimp only;rw[m,O.of_ok,n];unfold UR;rw[O.of_ok,aR h]
def S9{fe:Pe->M T}{b:Nat}{ρ:Pe}{t:T}{a:List Ky}{o:Option Ky}(e:a.length<1000)(h:fe (ρ.set b (some t))=.ok (Qa o)):VI fe b ρ t a=.ok (zq a o):=by unfold VI;rw[aR e,h,M.bind_ok,Qr]
def By{k n:Nat}{g:En->O}{ts us:List T}(a:ts.length=k)(h:g (iX n ts)=.rf us):xw k n g ts=.ok us:=by unfold xw;rw[aR a,h];rfl
theorem Dt(V:Vz d cs)(n:cs.length<=6){fe:Pe->M T}{ρ:Pe}(g:∀(k:Nat) (f:Ky) (p:Nat->Bool),k<cs.length->FL d cs (mq k p)=some f->fe ((ρ.set 4 (some (.int (k:Int)))).set 5 (some (nL f)))=.ok (Qa (FL d cs (Jb f.2++[k])))) :
  ∀(m k:Nat) (b:List Ky),k+m=cs.length->zQ d cs k b->∃l,qW (Jh fe 4 5 ρ) ((List.range' k m).map λ(i:Nat)=>T.int (i:Int)) b=.ok l/\zQ d cs cs.length l
 |0,k,b,h,ha=>⟨b,rfl,by rw[<-h];exact ha⟩
 |m+1,k,b,h,ha=>by
  have u:=DM ha;have s:2 ^ k<=2 ^ 6:=dI (by decide) (by lia);have e:Jh fe 4 5 ρ (.int (k:Int)) b=.ok (Le d cs k b):=Dm (N:=1000) (enc:=nL) b b (by lia) λf r a j=>by obtain⟨p,e⟩:=(ha.2 f).mp r;exact S9 j (g k f p (by lia) e)
  obtain⟨l,q,o⟩:=Dt V n g m (k+1) _ (by lia) (Jr V n (by lia) ha);refine⟨l,?_,o⟩;rw[List.range'_succ,bH];show (Jh fe 4 5 ρ (.int (k:Int)) b).bind _=_;rw[e];exact q
def Ds(V:Vz d cs)(r:cs.length<=6):∃l,zQ d cs cs.length l/\qo c [jN c d cs]=.ok ((jS l).map nL):=by
 have sz:1000<sizeLine:=by decide
 obtain⟨b,i⟩:=FK V;have A:zQ d cs 0 [b]:=⟨by simp,λg=>⟨λh=>⟨λ_=>false,by rw[aj.mp h];exact i⟩,λ⟨p,h⟩=>by have o:FL d cs []=some g:=h;rw[i]at o;rw[Option.some.inj o];simp⟩⟩
 have u:pM cs []:=⟨λ_ h=>absurd h fS,bK _⟩;obtain⟨l,B,n⟩:=Dt V r (fe:=hW (gO (gP 1) (gO (gP 2) (gO (ik jl (ik kW (gP 5) (cM (.int 1))) (mC (gO (gP 4) gR))) gR))) (ku c)) (ρ:=[some (jN c d cs),some (.lst (cs.map tI)),some (.int (d:Int)),none,none,none,none]) (λk f p w e=>by
   obtain⟨a,j,m,E,_⟩:=nB V (qw (by lia) (by lia) p) e;have ok:pM cs (a++[k]):=⟨λz s=>by
    rcases ai.mp s with q|q
    .exact ((m z).mp q).1
    .rw[aj.mp q];exact w,by simp;lia⟩
   have C:seqT (.tup (a.map mI++[.int (k:Int)]))=.ok ((a++[k]).map mI):=by simp[seqT]
   rw[j,sd];have D:f.2.map T.int=a.map mI:=by rw[j,aJ];rfl
   refine nc rfl rfl (gX (x:=.tup (a.map mI)) (y:=.tup [.int (k:Int)]) (gX (x:=nL f) rfl rfl (by unfold nL;rw[D];rfl)) rfl ?_) (Rn V ok C);simp[jl];lia) cs.length 0 [b] (by lia) A
 refine⟨l,n,By rfl ?_⟩;have v:(λρ=>if ρ.length=7 then IG (hW (gO (gP 1) (gO (gP 2) (gO (jC (lstM gR)) gR))) (ku c)) (hW (gO (gP 1) (gO (gP 2) (gO (ik jl (ik kW (gP 5) (cM (.int 1))) (mC (gO (gP 4) gR))) gR))) (ku c)) (nr (gO (lC l6 (gO (gP 1) gR)) gR)) 3 4 5 6 ρ else .bad:En->O)
   [some (.p (jN c d cs)),some (.p (.lst (cs.map tI))),some (.p (.int (d:Int))),none,none,none,none]=.rf ((jS l).map nL):=by
  refine (aR rfl).trans (Qb (g:=b) ?_ (tj cs.length (by lia) (mG (t:=.lst (cs.map tI)) rfl (by simp))) ?_ (wX V r n))
  .refine nc rfl rfl (z:=.lst []) rfl ?_;rw[Rn V u (S:=.lst []) rfl,i];rfl
  .rw[List.range_eq_range'];exact B
 exact gW (ig (i5 (xy d cs rfl)) rfl) (gW (ig (uZ d cs rfl) rfl) v)
end
def Jv(a b:Ky):Prop:=∀k∈a.2,k∈b.2
section
variable {d:Nat}{cs:LL}
def Mf(d:Nat)(cs:LL)(y:Ky):Prop:=∃a:List Nat,y.2=a.map (λ(k:Nat)=>(k:Int))/\pM cs a/\a.Pairwise (· < ·)/\FL d cs a=some y/\∀k,k∈a↔k<cs.length/\∀v,xA (d+1) (jv cs a) v->jD (d+1) (vc (cs.getD k [])) v=0
def GH(V:Vz d cs){f:List Nat}(b:pM cs f){y:Ky}(h:FL d cs f=some y):Mf d cs y:=by
 obtain⟨g,e,m,l,j⟩:=nB V b h;have ok:pM cs g:=⟨λz b=>((m z).mp b).1,by have:=V.hg.few;lia⟩;have i:∀v,xA (d+1) (jv cs f) v↔xA (d+1) (jv cs g) v:=λv=>by
  constructor
  .intro hv r hr;obtain⟨z,a,rfl⟩:=ie.mp hr;exact ((m z).mp a).2 v hv
  .intro hv r hr;obtain⟨z,a,rfl⟩:=ie.mp hr;exact hv _ (ie.mpr ⟨z,(m z).mpr ⟨b.1 z a,λv hv=>hv _ hr⟩,rfl⟩)
 refine⟨g,e,ok,j,by rw[<-sh V b ok i];exact h,λk=>?_⟩;rw[m k];exact and_congr_right λ_=>⟨λq v hv=>q v ((i v).mpr hv),λq v hv=>q v ((i v).mp hv)⟩
def DP(V:Vz d cs){j a:List Nat}(n:pM cs j)(i:pM cs a)(y:∀v,xA (d+1) (jv cs a) v->xA (d+1) (jv cs j) v)(h:FL d cs j=none):FL d cs a=none:=by
 obtain⟨pv,A,p,r,hr,u⟩:=w5 V n h;cases e:FL d cs a with
 |none=>rfl
 |some g=>
  obtain⟨k,s,C,b,z,o,rfl⟩:=lZ V i e;obtain⟨D,m⟩:=Ra V i;have:=lK (os:=k++[(d,r)]) m (λq f=>by
   rcases ai.mp f with w|w
   .exact⟨by have:=(b.pl q w).1;lia,(b.pl q w).2.2.1⟩
   .rw[aj.mp w];exact⟨bJ d,u⟩) (eJ.mpr ⟨b.tri,c6 _ _,λq f B l=>by rw[aj.mp l];exact (p.rr r hr).2.1 _ (b.pl q f).1⟩) λv hv q f=>by
   rcases ai.mp f with w|w
   .exact jF (b.pl q w).2.2.2.2 λx ⟨r,hr,ex⟩=>by rw[ex];exact hv r hr
   .rw[aj.mp w];exact jF (p.rr r hr).2.2 λx ⟨r,hr,ex⟩=>by rw[ex];exact y v hv r hr
  rw[n5 b o m]at this;simp at this;exact absurd this (fR _)
def NQ(V:Vz d cs){i a:List Nat}(m:pM cs i)(b:pM cs a){g j:Ky}(h:FL d cs i=some g)(h':FL d cs a=some j)(w:∀v,xA (d+1) (jv cs a) v->xA (d+1) (jv cs i) v):j.1<=g.1:=by
 obtain⟨pv,A,f,p,l,z,rfl⟩:=lZ V m h;obtain⟨o,u,B,s,y,n,rfl⟩:=lZ V b h';obtain⟨C,k⟩:=Ra V b;have:=lK k (λq e=>⟨by have:=(p.pl q e).1;lia,(p.pl q e).2.2.1⟩) p.tri λv hv q e=>jF (p.pl q e).2.2.2.2 λx ⟨r,hr,ex⟩=>by rw[ex];exact w v hv r hr
 rw[n5 s n k]at this;unfold NP;dsimp only;lia
def Tr(V:Vz d cs){m:List Nat}{k:Nat}(b:pM cs (m++[k])){g o:Ky}(h:FL d cs m=some g)(h':FL d cs (m++[k])=some o):g.1<=o.1+1:=by
 obtain⟨pv,J,f,p,l,z,rfl⟩:=lZ V b.snoc h;obtain⟨B,D,K,C,I,A,rfl⟩:=lZ V b h';obtain⟨L,s⟩:=Ra V b;have:=qO s ((pv.map λq=>vc q.2)++[vc (cs.getD k [])]) λv hv r hr=>by
  have F:∀q∈pv,jD (d+1) (vc q.2) v=0:=λq e=>hv _ (ay _ (aE.mpr ⟨q,e,rfl⟩));obtain⟨y,E,rfl⟩:=ie.mp hr;rcases ai.mp E with w|w
  .refine jF (p.sp _ (ie.mpr ⟨y,w,rfl⟩)) λx u=>?_;rcases u with⟨q,e,n⟩|⟨j,a,n⟩
   .rw[n];exact F q e
   .rw[n];unfold jD;rw[iB (d+1) _ (λ_=>0) λi H=>by
     have:vc j i=0:=by
      by_cases q:i<d
      .exact (p.rr j a).2.1 i q
      .rw[show i=d by lia];exact z j a
     rw[this,d9]];exact lB _
  .rw[aj.mp w];exact hv _ (by simp)
 rw[n5 C A s]at this;simp at this;unfold NP;dsimp only;lia
def jn(d:Nat)(cs:LL)(y:Ky)(k:Nat):Option Ky:=FL d cs (Jb y.2++[k])
structure W0(d:Nat)(cs:LL)(y:Ky)(k:Nat)(z:Ky):Prop where
 mf:Mf d cs z
 le:Jv y z
 kin:(k:Int)∈z.2
 one:(k:Int)∉y.2->z.1=y.1-1
 same:(k:Int)∈y.2->z=y
 least:∀t,Mf d cs t->Jv y t->(k:Int)∈t.2->Jv z t
def i7{ks:List Nat}{k:Nat}:(k:Int)∈ks.map (λ(k:Nat)=>(k:Int))↔k∈ks:=by rw[aE];exact⟨λ⟨z,hz,e⟩=>by rw[<-fQ.mp e];exact hz,λh=>⟨k,h,rfl⟩⟩
def GE(V:Vz d cs)(g:cs.length<=6){ks:List Nat}(e:pM cs ks)(f:ks.Pairwise (· < ·)){k:Nat}(h:k<cs.length):pM cs (ks++[k]):=by
 have nd:ks.Nodup:=f.imp λa=>aN a;have:=List.Nodup.length_le_of_subset (l₂:=List.range cs.length) nd λz b=>aT.mpr (e.1 z b);rw[eY]at this;refine⟨λz b=>?_,by simp;lia⟩;rcases ai.mp b with q|q
 .exact e.1 z q
 .rw[aj.mp q];exact h
def yr(V:Vz d cs)(D:cs.length<=6){y z:Ky}(F:Mf d cs y){k:Nat}(x:k<cs.length)(h:jn d cs y k=some z):W0 d cs y k z:=by
 obtain⟨s,e,ok,B,o,m⟩:=F;unfold jn at h;rw[e,sd]at h;have a:=GE V D ok B x;obtain⟨H,u,l,_⟩:=nB V a h;have sub:∀j∈s,j∈H:=λj f=>(l j).mpr ⟨ok.1 j f,λv hv=>hv _ (ie.mpr ⟨j,ay _ f,rfl⟩)⟩;refine⟨GH V a h,λj f=>?_,?_,λE=>?_,λb=>?_,λt A p g j f=>?_⟩
 .rw[e]at f;rw[u];obtain⟨i,b,rfl⟩:=aE.mp f;exact i7.mpr (sub i b)
 .rw[u];exact i7.mpr ((l k).mpr ⟨x,λv hv=>hv _ (ie.mpr ⟨k,by simp,rfl⟩)⟩)
 .have L:=Gq V a o h E;have K:=Tr V a o h;lia
 .rw[e]at b;have b:=i7.mp b;have:FL d cs (s++[k])=FL d cs s:=sh V a ok λv=>by rw[mr];exact⟨λq=>q.1,λq=>⟨q,q _ (ie.mpr ⟨k,b,rfl⟩)⟩⟩
  rw[this,o]at h;exact (Option.some.inj h).symm
 .obtain⟨J,n,I,_,flt,C⟩:=A;rw[u]at f;obtain⟨i,b,rfl⟩:=aE.mp f;rw[n];refine i7.mpr ((C i).mpr ⟨((l i).mp b).1,λv hv=>((l i).mp b).2 v (mr.mpr ⟨λr hr=>?_,?_⟩)⟩)
  .obtain⟨w,hw,rfl⟩:=ie.mp hr;have:=p w (by rw[e];exact i7.mpr hw);rw[n]at this;exact hv _ (ie.mpr ⟨w,i7.mp this,rfl⟩)
  .rw[n]at g;exact hv _ (ie.mpr ⟨k,i7.mp g,rfl⟩)
def DG(V:Vz d cs)(o:cs.length<=6){y t:Ky}(p:Mf d cs y)(i:Mf d cs t)(b:Jv y t){k:Nat}(j:k<cs.length)(a:(k:Int)∈t.2):∃z,jn d cs y k=some z:=by
 obtain⟨n,e,ok,l,q,m⟩:=p;obtain⟨s,g,f,_,flt,u⟩:=i;unfold jn;rw[e,sd];cases h:FL d cs (n++[k]) with
 |some z=>exact⟨z,rfl⟩
 |none=>
  rw[DP V (GE V o ok l j) f (λv hv=>mr.mpr ⟨λr hr=>?_,?_⟩) h]at flt
  .cases flt
  .obtain⟨w,hw,rfl⟩:=ie.mp hr;have:=b w (by rw[e];exact i7.mpr hw);rw[g]at this;exact hv _ (ie.mpr ⟨w,i7.mp this,rfl⟩)
  .rw[g]at a;exact hv _ (ie.mpr ⟨k,i7.mp a,rfl⟩)
def oO(V:Vz d cs)(D:cs.length<=6){a b:Ky}(x:Mf d cs a)(s:Mf d cs b)(h:Jv a b)(ne:a≠b):b.1<a.1:=by
 obtain⟨B,C,A,F,p,S⟩:=id x;obtain⟨u,m,e,K,f,P⟩:=id s;have y:∃k∈u,k∉B:=by
  refine aP λL=>ne ?_;have H:∀k∈u,k∈B:=λk I=>aP λq=>L ⟨k,I,q⟩;have:FL d cs B=FL d cs u:=sh V A e λv=>by
   constructor
   .intro hv r hr;obtain⟨w,hw,rfl⟩:=ie.mp hr;exact hv _ (ie.mpr ⟨w,H w hw,rfl⟩)
   .intro hv r hr;obtain⟨w,hw,rfl⟩:=ie.mp hr;have:=h w (by rw[C];exact i7.mpr hw);rw[m]at this;exact hv _ (ie.mpr ⟨w,i7.mp this,rfl⟩)
  rw[p,f]at this;exact Option.some.inj this
 obtain⟨k,g,n⟩:=y;have l:k<cs.length:=e.1 k g;have j:(k:Int)∈b.2:=by rw[m];exact i7.mpr g
 obtain⟨z,E⟩:=DG V D x s h l j;have J:=yr V D x l E;have X:=J.one (by rw[C];exact λq=>n (i7.mp q));obtain⟨U,N,i,_,o,R⟩:=J.mf;have Q:=NQ V i e o f λv hv r hr=>by obtain⟨w,hw,rfl⟩:=ie.mp hr;have:=J.least b s h j w (by rw[N];exact i7.mpr hw);rw[m]at this;exact hv _ (ie.mpr ⟨w,i7.mp this,rfl⟩)
 lia
def uo(V:Vz d cs):∃y,FL d cs []=some y/\y.2=[]/\y.1=d/\Mf d cs y:=by
 obtain⟨y,e⟩:=FK V;have g:pM cs []:=⟨λ_ h=>absurd h fS,bK _⟩;have C:∀v,xA (d+1) (jv cs []) v:=λv r hr=>by obtain⟨z,b,_⟩:=ie.mp hr;exact absurd b fS
 obtain⟨A,w,m,_⟩:=nB V g e;refine⟨y,e,?_,?_,GH V g e⟩
 .have:A=[]:=List.eq_nil_iff_forall_not_mem.mpr λk u=>by
   obtain⟨o,hv⟩:=(m k).mp u;obtain⟨p,E,n⟩:=(V.hg.gc _ (lL cs k o)).re;have:=hv (λi=>if i=p then 1 else 0) (C _);unfold jD at this;have a:sm (d+1) (λj=>vc (cs.getD k []) j*if j=p then 1 else 0)=vc (cs.getD k []) p:=by rw[<-Cr (d+1) p (λj=>vc (cs.getD k []) j) (by lia)];exact iB _ _ _ λj _=>dz _ _
   rw[a]at this;exact n this
  rw[w,this];rfl
 .obtain⟨pv,D,f,p,l,z,rfl⟩:=lZ V g e;have:pv=[]:=by
   cases pv with
   |nil=>rfl
   |cons q pv=>
    obtain⟨F,_,B,_,s⟩:=p.pl q bt;have:=jF (m:=d+1) (v:=λi=>if i=q.1 then 1 else 0) s λx ⟨r,hr,_⟩=>by obtain⟨z,b,_⟩:=ie.mp hr;exact absurd b fS
    unfold jD at this;have a:sm (d+1) (λj=>vc q.2 j*if j=q.1 then 1 else 0)=vc q.2 q.1:=by rw[<-Cr (d+1) q.1 (λj=>vc q.2 j) (by lia)];exact iB _ _ _ λj _=>dz _ _
    rw[a]at this;exact absurd this B
  unfold NP;rw[this];simp
end
def vh(a b:Ky):Bool:=a.2.all λk=>decide (k∈b.2)
def kQ{a b:Ky}:vh a b=true↔Jv a b:=by unfold vh Jv;simp
abbrev l4:=Ky×Int
def sD(D:List l4)(f:l4->Int):Int:=(D.map f).sum
def kP(x:l4)(D:List l4)(f:l4->Int):sD (x::D) f=f x+sD D f:=by simp[sD]
def vG(A B:List l4)(f:l4->Int):sD (A++B) f=sD A f+sD B f:=by simp[sD]
def oY{D:List l4}{f:l4->Int}(h:∀x∈D,f x=0):sD D f=0:=by
 induction D with
 |nil=>rfl
 |cons x D ih=>rw[kP,h x bt,ih λy a=>h y (bx _ a)];rfl
def qQ{D:List l4}{f g:l4->Int}(h:∀x∈D,f x=g x):sD D f=sD D g:=by unfold sD;rw[c7 h]
def FO(D:List l4)(f g:l4->Int):sD D (λx=>f x+g x)=sD D f+sD D g:=by
 induction D with
 |nil=>rfl
 |cons x D ih=>rw[kP,kP,kP,ih];lia
def Me(D:List l4)(s:Int)(f:l4->Int):sD D (λx=>s*f x)=s*sD D f:=by
 induction D with
 |nil=>simp[sD]
 |cons x D ih=>rw[kP,kP,ih,eB]
def Rh{D:List l4}{f:l4->Int}(h:∀x∈D,f x<=0):sD D f<=0:=by
 induction D with
 |nil=>exact Int.le_refl _
 |cons x D ih=>rw[kP];have:=h x bt;have:=ih λy a=>h y (bx _ a);lia
def Va{D:List l4}{f:l4->Int}(h:∀x∈D,f x<=0){x:l4}(b:x∈D)(d:f x<0):sD D f<0:=by obtain⟨A,B,rfl⟩:=fX b;rw[vG,kP];have:=Rh (D:=A) (f:=f) λy a=>h y (by simp[a]);have:=Rh (D:=B) (f:=f) λy a=>h y (by simp[a]);lia
def sU{D:List l4}(nd:(D.map (·.1)).Nodup){t:l4}(g:t∈D){f:l4->Int}(h:∀x∈D,x.1≠t.1->f x=0):sD D f=f t:=by obtain⟨A,B,rfl⟩:=fX g;rw[a9,bH,dY]at nd;obtain⟨i,b,d⟩:=nd;rw[bN]at b;rw[vG,kP,oY λx a=>h x (by simp[a]) λe=>d _ (aE.mpr ⟨x,a,rfl⟩) _ bt e,oY λx a=>h x (by simp[a]) λe=>b.1 (e▸aE.mpr ⟨x,a,rfl⟩)];lia
theorem Vi{D:List l4}(nd:(D.map (·.1)).Nodup)(P:Ky->Bool)(J:Ky->Option Ky):∀E:List l4,sD D (λw=>if P w.1 then sD E (λg=>if J g.1=some w.1 then g.2 else 0) else 0)=sD E (λg=>if (∃w∈D,J g.1=some w.1/\P w.1=true) then g.2 else 0)
 |[]=>oY λw _=>by simp[sD]
 |g::E=>by
  rw[kP,<-Vi nd P J E];have:sD D (λw=>if P w.1 then sD (g::E) (λg=>if J g.1=some w.1 then g.2 else 0) else 0)=sD D (λw=>(if P w.1=true/\J g.1=some w.1 then g.2 else 0)+(if P w.1 then sD E (λg=>if J g.1=some w.1 then g.2 else 0) else 0)):=qQ λw _=>by rw[kP];cases P w.1<;>simp
  rw[this,FO];congr 1;by_cases h:∃w∈D,J g.1=some w.1/\P w.1=true
  .rw[aR h];obtain⟨w,hw,a,b⟩:=h;rw[sU nd hw λx _ ne=>aS λq=>ne (by rw[a]at q;exact (Option.some.inj q.2).symm),aR ⟨b,a⟩]
  .rw[aS h];exact oY λw hw=>aS λq=>h ⟨w,hw,q.2,q.1⟩
section
variable {d:Nat}{cs:LL}
structure Fe(d:Nat)(cs:LL)(D:List l4):Prop where
 mf:∀x∈D,Mf d cs x.1
 all:∀y,Mf d cs y->∃m,(y,m)∈D
 nd:(D.map (·.1)).Nodup
 first:∀t B,D=t::B->t.2=1
 next:∀A t B,D=A++t::B->A≠[]->t.2 = -sD A (λg=>if vh g.1 t.1 then g.2 else 0)
 ord:D.Pairwise λx y=>y.1.1<=x.1.1
def Fe.after(V:Vz d cs)(f:cs.length<=6){D:List l4}(M:Fe d cs D){A B:List l4}{t:l4}(e:D=A++t::B):∀g∈B,¬Jv g.1 t.1:=λg b h=>by have nd:=M.nd;have a:=M.ord;rw[e,a9,bH,dY,bN]at nd;rw[e]at a;have o:=(dR.mp (eJ.mp a).2.1).1 g b;have ne:g.1≠t.1:=λq=>nd.2.1.1 (q▸aE.mpr ⟨g,b,rfl⟩);have:=oO V f (M.mf g (by rw[e];simp[b])) (M.mf t (by rw[e];simp)) h ne;lia
def Fe.head(V:Vz d cs)(b:cs.length<=6){D:List l4}(M:Fe d cs D){t:l4}(g:t∈D)(f:t.1.2=[]):t.2=1:=by
 obtain⟨A,B,e⟩:=fX g;cases A with
 |nil=>exact M.first t B e
 |cons h A=>exact absurd (λk a=>by rw[f]at a;cases a) (M.after V b (A:=[]) (t:=h) (B:=A++t::B) e t (by simp))
def Fe.sum(V:Vz d cs)(j:cs.length<=6){D:List l4}(M:Fe d cs D){t:l4}(o:t∈D)(f:t.1.2≠[]):sD D (λg=>if vh g.1 t.1 then g.2 else 0)=0:=by
 obtain⟨A,B,e⟩:=fX o;have p:A≠[]:=λz=>by
  subst z;obtain⟨y,_,h,_,l⟩:=uo V;obtain⟨m,i⟩:=M.all y l;rw[e]at i;rcases aG.mp i with q|q
  .rw[<-q]at f;exact f h
  .exact M.after V j (A:=[]) e (y,m) q λk b=>by have a:k∈y.2:=b;rw[h]at a;cases a
 have n:=M.next A t B e p;rw[e,vG,kP,oY (D:=B) λg r=>aS λq=>M.after V j e g r (kQ.mp q)];rw[aR (kQ.mpr λk b=>b),n];lia
def Sj(d:Nat)(cs:LL)(D:List l4)(a:Nat)(t:Ky):Int:=sD D (λg=>if jn d cs g.1 a=some t then g.2 else 0)
theorem GS(V:Vz d cs)(b:cs.length<=6){D:List l4}(M:Fe d cs D){a:Nat}(f:a<cs.length):∀(N:Nat) (t:l4),t∈D->(a:Int)∈t.1.2->(d:Int)-t.1.1<N->Sj d cs D a t.1=0
 |0,t,ht,_,hN=>by obtain⟨ks,_,ok,_,fl,_⟩:=M.mf t ht;have:=(tR V ok fl).2;lia
 |N+1,t,ht,hat,hN=>by
  have l:=M.mf t ht;have o:=Vi M.nd (λw=>decide ((a:Int)∈w.2)&&vh w t.1) (λg=>jn d cs g a) D;have p:sD D (λg=>if (∃w∈D,jn d cs g.1 a=some w.1/\(decide ((a:Int)∈w.1.2)&&vh w.1 t.1)=true) then g.2 else 0)=sD D (λg=>if vh g.1 t.1 then g.2 else 0):=qQ λg u=>by
   have i:=M.mf g u;by_cases h:Jv g.1 t.1
   .obtain⟨z,n⟩:=DG V b i l h f hat;have J:=yr V b i f n;obtain⟨m,r⟩:=M.all z J.mf;rw[aR (kQ.mpr h),aR ⟨(z,m),r,n,by rw[bU];exact⟨aD J.kin,kQ.mpr (J.least t.1 l h hat)⟩⟩]
   .rw[aS λq=>h (kQ.mp q),aS];rintro⟨w,hw,e,q⟩;rw[bU]at q;exact h λk j=>kQ.mp q.2 k ((yr V b i f e).le k j)
  rw[p,M.sum V b ht (λz=>by rw[z]at hat;cases hat)]at o;have s:sD D (λw=>if (decide ((a:Int)∈w.1.2)&&vh w.1 t.1) then Sj d cs D a w.1 else 0)=Sj d cs D a t.1:=by
   rw[sU M.nd ht λw hw ne=>?_]
   .rw[aR (by rw[bU];exact⟨aD hat,kQ.mpr λk j=>j⟩)]
   .by_cases q:(decide ((a:Int)∈w.1.2)&&vh w.1 t.1)=true
    .rw[aR q];rw[bU]at q;have:=oO V b (M.mf w hw) l (kQ.mp q.2) ne;exact GS V b M f N w hw (of_decide_eq_true q.1) (by lia)
    .rw[aS q]
  rw[<-s];exact o
theorem Q5(V:Vz d cs)(f:cs.length<=6){t:Ky}(b:Mf d cs t){a:Nat}(p:a<cs.length)(h:(a:Int)∈t.2):∀(K:Nat) (g:Ky),Mf d cs g->Jv g t->(a:Int)∉g.2->g.1<K->∃o,Mf d cs o/\(a:Int)∉o.2/\jn d cs o a=some t
 |0,g,mg,_,_,hK=>by obtain⟨ks,_,ok,_,fl,_⟩:=mg;have:=(tR V ok fl).1;lia
 |K+1,g,mg,hgt,hag,hK=>by
  obtain⟨z,w⟩:=DG V f mg b hgt p h;have J:=yr V f mg p w;by_cases e:z=t
  .exact⟨g,mg,hag,by rw[w,e]⟩
  .have zt:=J.least t b hgt h;have s:∃k:Nat,k<cs.length/\(k:Int)∈t.2/\(k:Int)∉z.2:=by
    refine aP λB=>?_;obtain⟨F,v,u,_⟩:=id b;have A:Jv t z:=λk j=>by rw[v]at j;obtain⟨i,x,rfl⟩:=aE.mp j;exact aP λq=>B ⟨i,u.1 i x,by rw[v];exact i7.mpr x,q⟩
    have E:=oO V f J.mf b zt e;have I:=oO V f b J.mf A (Ne.symm e);lia
   obtain⟨k,j,m,n⟩:=s;obtain⟨y,C⟩:=DG V f mg b hgt j m;have Y:=yr V f mg j C;have r:(k:Int)∉g.2:=λq=>n (J.le _ q);have H:=Y.one r;by_cases l:(a:Int)∈y.2
   .have D:=J.least y Y.mf Y.le l;have L:=J.one hag;have:z=y:=aP λne=>by have:=oO V f J.mf Y.mf D ne;lia
    exact absurd (this▸Y.kin) n
   .exact Q5 V f b p h K y Y.mf (Y.least t b hgt m) l (by lia)
def sg(d:Nat)(t:Ky):Int:=if ((d:Int)-t.1) % 2=0 then 1 else -1
theorem Ef(V:Vz d cs)(h:cs.length<=6){D:List l4}(M:Fe d cs D):∀(N:Nat) (t:l4),t∈D->(d:Int)-t.1.1<N->0<sg d t.1*t.2
 |0,t,ht,hN=>by obtain⟨ks,_,ok,_,fl,_⟩:=M.mf t ht;have:=(tR V ok fl).2;lia
 |N+1,t,ht,hN=>by
  have m:=M.mf t ht;obtain⟨R,e0,L,X,U⟩:=uo V;obtain⟨P,F,C,_,flt,_⟩:=id m;cases P with
  |nil=>rw[M.head V h ht F];rw[e0]at flt;unfold sg;rw[<-Option.some.inj flt,X];simp
  |cons a P=>
   have o:a<cs.length:=C.1 a bt;have b:(a:Int)∈t.1.2:=by rw[F];simp
   have S:=GS V h M o (N+1) t ht b hN;have Y:jn d cs t.1 a=some t.1:=by obtain⟨z,H⟩:=DG V h m m (λk p=>p) o b;rw[H,(yr V h m o H).same b]
   have neg:∀g∈D,g.1≠t.1->jn d cs g.1 a=some t.1->sg d t.1*g.2<0:=λg Q ne e=>by
    have J:=yr V h (M.mf g Q) o e;have r:(a:Int)∉g.1.2:=λq=>ne (J.same q).symm;have E:=J.one r;have ih:=Ef V h M N g Q (by lia);have:sg d t.1 = -sg d g.1:=by
     unfold sg;rw[E];by_cases q:((d:Int)-g.1.1) % 2=0
     .rw[aR q,aS (by lia)]
     .rw[aS q,aR (by lia)];rfl
    rw[this,eG];lia
   obtain⟨s,y,n,I⟩:=Q5 V h m o b (d+1) R U (λk p=>by rw[L]at p;cases p) (λq=>by rw[L]at q;cases q) (by lia);obtain⟨m',l⟩:=M.all s y;have i:s≠t.1:=λq=>n (q▸b);obtain⟨A,B,e⟩:=fX ht;have nd:=M.nd;rw[e,a9,bH,dY,bN]at nd;have j:∀x∈A++B,x∈D/\x.1≠t.1:=λx u=>by
    rcases ai.mp u with q|q
    .exact⟨by rw[e];simp[q],λz=>nd.2.2 _ (aE.mpr ⟨x,q,rfl⟩) _ bt z⟩
    .exact⟨by rw[e];simp[q],λz=>nd.2.1.1 (z▸aE.mpr ⟨x,q,rfl⟩)⟩
   have v:∀x∈A++B,sg d t.1*(if jn d cs x.1 a=some t.1 then x.2 else 0)<=0:=λx u=>by
    obtain⟨E,Z⟩:=j x u;split
    .rename_i q;exact Int.le_of_lt (neg x E Z q)
    .simp
   have f:(s,m')∈A++B:=by
    rw[e]at l;rcases ai.mp l with q|q
    .exact ay _ q
    .rcases aG.mp q with w|w
     .exact absurd (congrArg Prod.fst w) i
     .exact bE _ w
   have lt:=Va v f (by rw[aR I];exact neg _ (j _ f).1 i I);have K:sg d t.1*Sj d cs D a t.1=0:=by rw[S];simp
   unfold Sj at K;rw[<-Me,e,vG,kP,aR Y]at K;rw[vG]at lt;lia
end
def R4 i (a:LI):HJ false (.int i) (.tup (a.map T.int))=.ok (.bl (decide (i∈a))):=by
 have f:(a.map T.int).all lN=true:=cN.mpr λx b=>by obtain⟨y,-,rfl⟩:=aE.mp b;rfl
 have g:wV (.int i) (a.map T.int)=decide (i∈a):=by
  unfold wV;rw[cK,Bool.eq_iff_iff,eV,decide_eq_true_iff];constructor
  .rintro⟨x,b,e⟩;have d:IE (T.int x) (T.int i)=true:=e;rw[Qm]at d;rw[<-eq_of_beq d];exact b
  .intro h;exact⟨i,h,by show IE (T.int i) (T.int i)=true;simp⟩
 unfold HJ;dsimp only;rw[f,g];rfl
def N1(g t:Ky):zA [.lst (g.2.map λk=>T.bl (decide (k∈t.2)))]=.ok (.bl (vh g t)):=by have:=rY (g.2.map λk=>decide (k∈t.2));rw[aJ,cJ]at this;exact this
def QJ(t g:Ky)(a:g.2.length<1000):nX c [nL t,nL g]=.ok (.bl (vh g t)):=by
 have sz:1000<sizeLine:=by decide
 exact iQ rfl (iA (qh (ts:=g.2.map λk=>T.bl (decide (k∈t.2))) (jZ g.2 T.int (λk=>T.bl (decide (k∈t.2))) rfl (by lia) (λk _=>⟨_,rfl,rfl,gX rfl rfl (R4 k t.2)⟩) rfl) (N1 g t)))
def n6(D:List l4)(t:Ky):List l4:=D++[(t,-sD D (λg=>if vh g.1 t then g.2 else 0))]
def uP:List Ky->List l4
 |[]=>[]
 |t::r=>r.foldl n6 [(t,1)]
theorem v5:∀(r:List Ky) (D:List l4),(r.foldl n6 D).map (·.1)=D.map (·.1)++r
 |[],D=>by simp
 |t::r,D=>by rw[List.foldl_cons,v5 r];simp[n6]
def pV(Z:List Ky):(uP Z).map (·.1)=Z:=by
 cases Z with
 |nil=>rfl
 |cons t r=>unfold uP;rw[v5];rfl
def Lr(D:List l4):Prop:=(∀t B,D=t::B->t.2=1)/\∀A t B,D=A++t::B->A≠[]->t.2 = -sD A (λg=>if vh g.1 t.1 then g.2 else 0)
def Iq{D:List l4}(h:Lr D)(j:D≠[])(t:Ky):Lr (n6 D t):=by
 unfold n6;refine⟨λu B e=>?_,λA u B e f=>?_⟩
 .cases D with
  |nil=>exact absurd rfl j
  |cons x D=>rw[dX]at e;rw[<-(List.cons.inj e).1];exact h.1 x D rfl
 .rcases fq B with rfl|⟨d,b,rfl⟩
  .have a:=List.append_inj' e rfl;have i:(t,-sD D (λg=>if vh g.1 t then g.2 else 0))=u:=(List.cons.inj a.2).1;rw[<-i,<-a.1]
  .have a:D++[(t,-sD D (λg=>if vh g.1 t then g.2 else 0))]=(A++u::d)++[b]:=by rw[e];simp
   exact h.2 A u d (List.append_inj' a rfl).1 f
theorem Ag:∀(r:List Ky) (D:List l4),Lr D->D≠[]->Lr (r.foldl n6 D)
 |[],_,h,_=>h
 |t::r,D,h,hD=>Ag r _ (Iq h hD t) (by simp[n6])
def DK(Z:List Ky):Lr (uP Z):=by
 cases Z with
 |nil=>exact⟨λt B e=>(nomatch e),λA t B e _=>by simp[uP]at e⟩
 |cons t r=>
  refine Ag r _ ⟨λu B e=>?_,λA u B e a=>?_⟩ (by simp)
  .rw[<-(List.cons.inj e).1]
  .cases A with
   |nil=>exact absurd rfl a
   |cons x A=>have:=congrArg List.length e;simp at this
def Ga(D:List l4)(p:l4->Bool):((D.filter p).map (·.2)).sum=sD D (λg=>if p g then g.2 else 0):=by
 induction D with
 |nil=>rfl
 |cons x D ih=>rw[kP,<-ih,fY];cases p x<;>simp
theorem BZ:∀(D:List l4) (R:List Ky),tO ((D.map (·.1)++R).map nL) (D.map λx=>T.int x.2)=D.map λx=>T.tup [nL x.1,.int x.2]
 |[],R=>by simp[tO]
 |x::D,R=>by have:=BZ D R;unfold tO at this ⊢;simp only[bH,dX,cY];rw[this]
def yt(l:LI):HQ (l.map T.int)=true:=by
 induction l with
 |nil=>rfl
 |cons x l ih=>simp only[bH,HQ,lf,ih];rfl
def TJ{f:Int->T}{a:Pe->M T}{ρ:Pe}{i:Int}(h:a ρ=.ok (.int i)):rW f a ρ=.ok (f i):=by unfold rW;rw[h];rfl
def Jt(D:List l4):List T:=D.map λx=>T.int x.2
def Kf(D:List l4)(t:Ky):Jt (n6 D t)=Jt D++[.int (-((D.filter λx=>vh x.1 t).map (·.2)).sum)]:=by unfold Jt n6;rw[Ga];simp
def Gm(a:Ky)(r:List Ky)(hr:r.length<100)(v:∀g∈a::r,g.2.length<1000):iF c [.lst ((a::r).map nL)]=.ok (Jt (uP (a::r))):=by
 have sz:1000<sizeLine:=by decide
 let R (D:List l4) (f b:Option W):En:=[some (.p (.lst ((a::r).map nL))),some (.o (Jt D)),f,b];obtain⟨h,e,f,b,rfl⟩:=lg (m:=mH 2) (g:=nJ c) nL (λk h=>∃f b,h=R ((r.take k).foldl n6 [(a,1)]) f b) r 0 (R [(a,1)] none none) ⟨none,none,rfl⟩ (by
  rintro i t h s ⟨f,b,rfl⟩;rw[aH]at *;let D:=(r.take i).foldl n6 [(a,1)];have j:D.map (·.1)=a::r.take i:=by show ((r.take i).foldl n6 [(a,1)]).map (·.1)=_;rw[v5];rfl
  have z:D.length<=r.length+1:=by have:=congrArg List.length j;rw[ax,aA,bQ]at this;lia
  have l:(a::r)=D.map (·.1)++r.drop i:=by rw[j,dX,eW]
  have y:nG (gO (gP 0) (gO (gP 1) gR)) (vw (R D (some (.p (nL t))) b))=.ok (D.map λx=>T.tup [nL x.1,.int x.2]):=by have u:nG (gO (gP 0) (gO (gP 1) gR)) (vw (R D (some (.p (nL t))) b))=.ok (tO ((a::r).map nL) (Jt D)):=rfl;rw[u];congr 1;rw[l];exact BZ D _
  have w:lM [none,none,some 2] (nG (gO (gP 0) (gO (gP 1) gR))) (mT 2 (iN (km 0) (iN (km 1) mP))) (jL (hW (gO (gP 2) (gO (gP 0) gR)) (nX c))) (nH c) (vw (R D (some (.p (nL t))) b))=.ok (((D.filter λx=>vh x.1 t).map (·.2)).map T.int):=yU D (λx=>T.tup [nL x.1,.int x.2]) (λx=>T.int x.2) (λx=>vh x.1 t) y (by lia) (λx q=>⟨[some (nL x.1),some (.int x.2),some (nL t)],rfl,iH (jI rfl rfl (QJ t x.1 (v _ (by rw[l];exact ay _ (aE.mpr ⟨x,q,rfl⟩))))),λ_=>rfl⟩) (by rw[aJ];rfl)
  have n:(r.take (i+1)).foldl n6 [(a,1)]=n6 D t:=by rw[c5,s];simp[D]
  refine⟨_,_,rfl,.inl (gW (Oq w (yt _) rfl) (vP (us:=Jt D) (t:=.int (-((D.filter λx=>vh x.1 t).map (·.2)).sum)) rfl ?_ (by unfold Jt;rw[ax];lia) rfl)),some (.p (nL t)),some (.p (.lst (((D.filter λx=>vh x.1 t).map (·.2)).map T.int))),?_⟩
  .exact TJ (mG rfl (FC _))
  .rw[n];show _=[_,some (W.o (Jt (n6 D t))),_,_];rw[Kf];rfl)
 rw[aH,eK]at e;refine By rfl (gW (ρ':=R [(a,1)] none none) (pC rfl rfl) (gW (lz (its:=r.map nL) ?_ e) rfl));rw[pW (Az (ts:=(a::r).map nL) (d:=1) rfl rfl)];rfl
section
variable {d:Nat}{cs:LL}
def QP{a b:Ky}(h:Ae a b=true):b.1<=a.1:=by
 unfold Ae xC ky at h;by_cases e:a.1=b.1
 .lia
 .rw[aS (by simp;lia)]at h;simp at h;lia
def Ni{Z:List Ky}{x:l4}(h:x∈uP Z):x.1∈Z:=by rw[<-pV Z];exact aE.mpr ⟨x,h,rfl⟩
def L5(V:Vz d cs)(u:cs.length<=6){l:List Ky}(i:zQ d cs cs.length l):Fe d cs (uP (jS l)):=by
 have n:(jS l).Perm l:=dU l Ae;refine⟨λx g=>?_,λy s=>?_,?_,(DK _).1,(DK _).2,?_⟩
 .obtain⟨p,e⟩:=(i.2 x.1).mp (n.mem_iff.mp (Ni g));exact GH V (qw (by lia) (aL _) p) e
 .obtain⟨j,_,ok,_,q,_⟩:=s;have:y∈(uP (jS l)).map (·.1):=by
   rw[pV];refine n.mem_iff.mpr ((i.2 y).mpr ⟨λk=>decide (k∈j),?_⟩);rw[<-q];refine sh V (qw (by lia) (aL _) _) ok λv=>?_;have m:∀z,z∈mq cs.length (λk=>decide (k∈j))↔z∈j:=λz=>by unfold mq;rw[aV,aT,decide_eq_true_iff];exact⟨λh=>h.2,λh=>⟨ok.1 z h,h⟩⟩
   unfold xA;constructor
   .intro h r hr;obtain⟨z,f,e⟩:=ie.mp hr;exact h r (ie.mpr ⟨z,(m z).mpr f,e⟩)
   .intro h r hr;obtain⟨z,f,e⟩:=ie.mp hr;exact h r (ie.mpr ⟨z,(m z).mp f,e⟩)
  obtain⟨x,g,e⟩:=aE.mp this;exact⟨x.2,by rw[<-e];exact g⟩
 .rw[pV];exact n.symm.nodup i.1
 .have h:=dW Ng Hl l;have o:(jS l).Pairwise λa b=>b.1<=a.1:=h.imp QP;rw[<-pV (jS l),c8]at o;exact o
def LR(D:List l4):tO ((D.map (·.1)).map nL) (Jt D)=D.map λx=>T.tup [nL x.1,.int x.2]:=by have:=BZ D [];rw[bL]at this;exact this
end
def K7{d:Nat}{cs:LL}(V:Vz d cs)(k:cs.length<=6):∃l,zQ d cs cs.length l/\kH c [jN c d cs]=.ok (Jt (uP (jS l))):=by
 obtain⟨l,f,j⟩:=Ds (c:=c) V k;have h:(jS l).Perm l:=dU l Ae;have b:∀g∈jS l,g.2.length<1000:=λg q=>by obtain⟨p,e⟩:=(f.2 g).mp (h.mem_iff.mp q);obtain⟨u,o,_,s,_⟩:=nB V (qw (by lia) (aL _) p) e;rw[o,ax];lia
 have a:(jS l).length<64:=by rw[h.length_eq];exact wX V k f
 obtain⟨y,n,_⟩:=uo V;have m:y∈jS l:=h.mem_iff.mpr ((f.2 y).mpr ⟨λ_=>false,by
  have:mq cs.length (λ_=>false)=[]:=fL.mpr λ_ _=>by simp
  rw[this];exact n⟩)
 cases i:jS l with
 |nil=>rw[i]at m;cases m
 |cons t r=>rw[i]at b a j;rw[aA]at a;refine⟨l,f,?_⟩;rw[i];exact By rfl (qk (qU (i5 (qU rfl j)) (Gm t r (by lia) b)))
def iU{a:Type}:List a->(List a->Int)->Int
 |[],f=>f []
 |x::l,f=>iU l f+iU l λB=>f (x::B)
section
variable {α:Type}
theorem iM:∀{l:List α} {f g:List α->Int},(∀B,B.Sublist l->f B=g B)->iU l f=iU l g
 |[],f,g,h=>h [] (List.Sublist.refl _)
 |x::l,f,g,h=>by unfold iU;rw[iM λB a=>h B (a.cons x),iM (f:=λB=>f (x::B)) (g:=λB=>g (x::B)) λB a=>h (x::B) (a.cons₂ x)]
theorem md:∀(l:List α),iU l (λ_=>0)=0
 |[]=>rfl
 |x::l=>by unfold iU;rw[md l];rfl
theorem nh(s:Int):∀(l:List α) (f:List α->Int),iU l (λB=>s*f B)=s*iU l f
 |[],f=>rfl
 |x::l,f=>by unfold iU;rw[nh s l f,nh s l λB=>f (x::B),eB]
def pO(B:List α):Int:=if B.length % 2=0 then 1 else -1
def rD(x:α)(B:List α):pO (x::B) = -pO B:=by
 unfold pO;rw[aA];by_cases h:B.length % 2=0
 .rw[aR h,aS (by lia)]
 .rw[aS h,aR (by lia)];rfl
theorem GM{P:α->Bool}:∀{l:List α},(∃x∈l,P x=true)->iU l (λB=>if B.all P then pO B else 0)=0
 |[],⟨_,h,_⟩=>(nomatch h)
 |y::l,⟨x,hx,px⟩=>by
  unfold iU;by_cases a:P y=true
  .have:iU l (λB=>if (y::B).all P then pO (y::B) else 0)=iU l (λB=>(-1)*(if B.all P then pO B else 0)):=iM λB _=>by rw[bW,a,Bool.true_and,rD];split<;>lia
   rw[this,nh];lia
  .have:iU l (λB=>if (y::B).all P then pO (y::B) else 0)=0:=(iM λB _=>aS (by rw[bW];simp[a])).trans (md l);rw[this];rcases aG.mp hx with q|q
   .subst q;exact absurd px a
   .rw[GM ⟨x,q,px⟩];rfl
theorem uz(D:List l4):∀(l:List α) (F:l4->List α->Int),sD D (λg=>iU l (F g))=iU l (λB=>sD D λg=>F g B)
 |[],F=>rfl
 |x::l,F=>by unfold iU;rw[FO,uz D l F,uz D l λg B=>F g (x::B)]
end
section
variable {d:Nat}{cs:LL}
def xu(e:cs.length<=6){B:List Nat}(a:B.Sublist (List.range cs.length)):pM cs B:=⟨λz b=>aT.mp (a.subset b),by have:=a.length_le;rw[eY]at this;lia⟩
def HZ(d:Nat)(cs:LL)(X:Ky):Int:=iU (List.range cs.length) λB=>if FL d cs B=some X then pO B else 0
def HH{b a:List Nat}{v:Vc}(h:∀z∈b,z∈a)(f:xA (d+1) (jv cs a) v):xA (d+1) (jv cs b) v:=λr hr=>by obtain⟨z,g,e⟩:=ie.mp hr;exact f r (ie.mpr ⟨z,h z g,e⟩)
def Ib(V:Vz d cs)(w:cs.length<=6){X:Ky}(q:Mf d cs X){B:List Nat}(x:B.Sublist (List.range cs.length)):(∃g,FL d cs B=some g/\Jv g X)↔B.all (λz=>decide ((z:Int)∈X.2))=true:=by
 obtain⟨u,o,ok,_,l,p⟩:=q;have a:=xu w x;rw[cN];constructor
 .rintro⟨g,e,s⟩ z f;obtain⟨r,i,m,_⟩:=nB V a e;refine aD (s _ ?_);rw[i];exact i7.mpr ((m z).mpr ⟨a.1 z f,λv hv=>hv _ (ie.mpr ⟨z,f,rfl⟩)⟩)
 .intro h;have sub:∀z∈B,z∈u:=λz f=>by have:=of_decide_eq_true (h z f);rw[o]at this;exact i7.mp this
  cases e:FL d cs B with
  |none=>rw[DP V a ok (λv hv=>HH sub hv) e]at l;cases l
  |some g=>refine⟨g,rfl,λk n=>?_⟩;obtain⟨r,i,m,_⟩:=nB V a e;rw[i]at n;obtain⟨j,b,rfl⟩:=aE.mp n;rw[o];refine i7.mpr ((p j).mpr ⟨((m j).mp b).1,λv hv=>((m j).mp b).2 v (HH sub hv)⟩)
def Fe.at_{D:List l4}(M:Fe d cs D)(V:Vz d cs)(a:cs.length<=6){B:List Nat}(b:B.Sublist (List.range cs.length)){g:Ky}(e:FL d cs B=some g):∃m,(g,m)∈D:=M.all g (GH V (xu a b) e)
def Kc(V:Vz d cs)(f:cs.length<=6){D:List l4}(M:Fe d cs D){X:Ky}(i:Mf d cs X):sD D (λg=>if vh g.1 X then HZ d cs g.1 else 0)=iU (List.range cs.length) (λB=>if B.all (λz=>decide ((z:Int)∈X.2)) then pO B else 0):=by
 have k:sD D (λg=>if vh g.1 X then HZ d cs g.1 else 0)=sD D (λg=>iU (List.range cs.length) λB=>if vh g.1 X then (if FL d cs B=some g.1 then pO B else 0) else 0):=qQ λg _=>by
  unfold HZ;cases vh g.1 X
  .simp only[cy,if_false];exact (md _).symm
  .rfl
 rw[k,uz];refine iM λB h=>?_;have b:=Ib V f i h;cases e:FL d cs B with
 |none=>rw[aS (λz=>by obtain⟨g,q,_⟩:=b.mpr z;rw[e]at q;cases q)];exact oY λg _=>by simp
 |some g=>
  obtain⟨m,j⟩:=M.at_ V f h e;rw[sU M.nd j λx _ ne=>by rw[aS (show ¬some g=some x.1 from λz=>ne (Option.some.inj z).symm)];simp]
  dsimp only;rw[aR rfl];by_cases a:vh g X=true
  .rw[aR a,aR (b.mp ⟨g,e,kQ.mp a⟩)]
  .rw[aS a,aS (λz=>a (by obtain⟨n,q,l⟩:=b.mpr z;rw[e]at q;rw[Option.some.inj q];exact kQ.mpr l))]
theorem Cp(V:Vz d cs)(f:cs.length<=6){D:List l4}(M:Fe d cs D):∀(N:Nat) (t:l4),t∈D->(d:Int)-t.1.1<N->t.2=HZ d cs t.1
 |0,t,ht,hN=>by obtain⟨ks,_,ok,_,fl,_⟩:=M.mf t ht;have:=(tR V ok fl).2;lia
 |N+1,t,ht,hN=>by
  have j:=M.mf t ht;have m:=Kc V f M j;by_cases b:t.1.2=[]
  .have one:iU (List.range cs.length) (λB=>if B.all (λz=>decide ((z:Int)∈t.1.2)) then pO B else 0)=1:=by
    rw[b];generalize List.range cs.length=l;induction l with
    |nil=>rfl
    |cons x l ih=>unfold iU;rw[ih];have:iU l (λB=>if (x::B).all (λz=>decide ((z:Int)∈([]:LI))) then pO (x::B) else 0)=0:=(iM λB _=>aS (by simp)).trans (md l);rw[this];rfl
   rw[one]at m;rw[M.head V f ht b,<-m];rw[sU M.nd ht λx h ne=>aS λz=>by
    have n:=kQ.mp z;have:x.1≠t.1:=ne;have:=oO V f (M.mf x h) j n this;have v:x.1.2=[]:=by
     cases e:x.1.2 with
     |nil=>rfl
     |cons k r=>have:=n k (by rw[e];simp);rw[b]at this;cases this
    have u:=oO V f j (M.mf x h) (λk a=>by rw[b]at a;cases a) (Ne.symm ne);lia]
   rw[aR (kQ.mpr λk a=>a)]
  .have s:=M.sum V f ht b;have q:iU (List.range cs.length) (λB=>if B.all (λz=>decide ((z:Int)∈t.1.2)) then pO B else 0)=0:=by
    obtain⟨ks,o,ok,_,_,_⟩:=j;cases ks with
    |nil=>rw[o]at b;exact absurd rfl b
    |cons k r=>refine GM ⟨k,aT.mpr (ok.1 k (by simp)),aD ?_⟩;rw[o];exact i7.mpr (by simp)
   rw[q]at m;have p:sD D (λg=>(if vh g.1 t.1 then g.2 else 0)+(-1)*(if vh g.1 t.1 then HZ d cs g.1 else 0))=0:=by rw[FO,Me,s,m];rfl
   rw[sU M.nd ht λx h ne=>by
    by_cases i:vh x.1 t.1=true
    .have:=oO V f (M.mf x h) j (kQ.mp i) ne;rw[aR i,aR i,Cp V f M N x h (by lia)];lia
    .rw[aS i,aS i];rfl]at p
   rw[aR (kQ.mpr λk a=>a),aR (kQ.mpr λk a=>a)]at p;lia
end
def Oh{f:Pe->M (List T)}{ρ:Pe}{ts:List T}(h:jC f ρ=.ok (.lst ts)):f ρ=.ok ts:=by
 unfold jC at h;cases e:f ρ with
 |bad=>rw[e]at h;cases h
 |er C n=>rw[e]at h;cases h
 |ok us=>rw[e]at h;cases h;rfl
section
variable {d:Nat}{cs:LL}
def Uk(d:Nat)(cs:LL)(m:Int):Int:=iU (List.range cs.length) λB=>if (FL d cs B).map (·.1)=some m then pO B else 0
def SO(V:Vz d cs)(a:cs.length<=6){D:List l4}(M:Fe d cs D)(m:Int):sD D (λg=>if g.1.1=m then g.2 else 0)=Uk d cs m:=by
 have b:sD D (λg=>if g.1.1=m then g.2 else 0)=sD D (λg=>iU (List.range cs.length) λB=>if g.1.1=m then (if FL d cs B=some g.1 then pO B else 0) else 0):=qQ λg j=>by
  have w:=Cp V a M (((d:Int)-g.1.1).toNat+1) g j (by lia);by_cases h:g.1.1=m
  .simp only[aR h];rw[w];rfl
  .simp only[aS h];exact (md _).symm
 rw[b,uz];unfold Uk;refine iM λB f=>?_;cases e:FL d cs B with
 |none=>exact oY λg _=>by simp
 |some g=>
  obtain⟨n,i⟩:=M.at_ V a f e;rw[sU M.nd i λx _ ne=>by rw[aS (show ¬some g=some x.1 from λz=>ne (Option.some.inj z).symm)];simp]
  dsimp only;rw[aR rfl];simp
def DI(V:Vz d cs)(B:cs.length<=6):jM c [jN c d cs]=.ok ((List.range (d+1)).map λ(m:Nat)=>T.int (Uk d cs (m:Int))):=by
 have sz:1000<sizeLine:=by decide
 have hd:=V.hd;obtain⟨l,w,X⟩:=Ds (c:=c) V B;have F:(jS l).Perm l:=dU l Ae;have h:∀g∈jS l,g.2.length<1000:=λg hg=>by obtain⟨p,e⟩:=(w.2 g).mp (F.mem_iff.mp hg);obtain⟨Z,e3,_,hl,_⟩:=nB V (qw (by lia) (aL _) p) e;rw[e3,ax];lia
 have b:(jS l).length<64:=by rw[F.length_eq];exact wX V B w
 have M:=L5 V B w;obtain⟨y,Y,_⟩:=uo V;have L:y∈jS l:=F.mem_iff.mpr ((w.2 y).mpr ⟨λ_=>false,by
  have:mq cs.length (λ_=>false)=[]:=fL.mpr λ_ _=>by simp
  rw[this];exact Y⟩)
 have P:iF c [.lst ((jS l).map nL)]=.ok (Jt (uP (jS l))):=by
  cases N:jS l with
  |nil=>rw[N]at L;cases L
  |cons t r=>rw[N]at h b;rw[aA]at b;exact Gm t r (by lia) h
 let D:=uP (jS l);have S:D.map (·.1)=jS l:=pV _;have u:∀x∈D,0<=x.1.1/\x.1.1<=(d:Int):=λx Q=>by obtain⟨Z,_,ok,_,U,_⟩:=M.mf x Q;exact tR V ok U
 let a (A:List l4):List T:=(List.range (d+1)).map λ(m:Nat)=>T.int (sD A λg=>if g.1.1=(m:Int) then g.2 else 0);let R (A:List l4) (s f:Option W):En:=[some (.p (jN c d cs)),some (.o (a A)),some (.p (.lst ((jS l).map nL))),s,f];obtain⟨E,e,s,f,rfl⟩:=lg (m:=mJ 2 (iZ (mH 3) (iZ (mH 4) mK))) (g:=wm c) (λ(x:l4)=>T.tup [nL x.1,.int x.2]) (λk E=>∃s f,E=R (D.take k) s f) D 0 (R [] none none) ⟨none,none,rfl⟩ (by
  rintro i x E K ⟨s,f,rfl⟩;rw[aH]at *;obtain⟨b1,b2⟩:=u x (au K);obtain⟨m,hm⟩:∃m:Nat,x.1.1=(m:Int):=⟨x.1.1.toNat,by lia⟩;have n:m<d+1:=by lia
  let v:Int:=sD (D.take i) λg=>if g.1.1=(m:Int) then g.2 else 0
  have ix:kW (.lst (a (D.take i))) (.int x.1.1)=.ok (.int v):=by rw[hm];have:rV (a (D.take i)) (m:Int)=some (.int v):=xt (by simp[a,n];rfl);simp only[kW,this]
  refine⟨R (D.take i) (some (.p (nL x.1))) (some (.p (.int x.2))),R (D.take (i+1)) (some (.p (nL x.1))) (some (.p (.int x.2))),rfl,.inl (FI (us:=a (D.take i)) (t:=.int (v+x.2)) (j:=x.1.1) (m:=m) rfl (gX (gX rfl rfl ix) rfl rfl) rfl rfl (by rw[hm];exact BV _ m (by simp[a];exact n)) ?_),_,_,rfl⟩;show R _ _ _=[_,some (.o ((a (D.take i)).set m (.int (v+x.2)))),_,_,_];have:a (D.take (i+1))=(a (D.take i)).set m (.int (v+x.2)):=by
   refine cU (by simp[a]) λq h1 h2=>?_;rw[List.getElem_set];simp only[a,eM,fZ];rw[jJ D i x K,vG];have I:sD [x] (λg=>if g.1.1=(q:Int) then g.2 else 0)=if x.1.1=(q:Int) then x.2 else 0:=by rw[kP];simp[sD]
   rw[I];by_cases C:m=q
   .rw[aR C,aR (by lia),<-C]
   .rw[aS C,aS (by lia),ee]
  simp only[R];rw[this])
 rw[aH,eK]at e;have z:nG (gO (gP 2) (gO (jC (i8 (gO (gP 2) gR) (iF c))) gR)) (lF (R [] none none))=.ok (D.map λx=>T.tup [nL x.1,.int x.2]):=by rw[<-LR,S];have:jC (i8 (gO (gP 2) gR) (iF c)) (lF (R [] none none))=.ok (.lst (Jt D)):=i5 (qU rfl P);simp only[nG,gO,gR,this,L3.M.bind_ok];rfl
 have I:a D=(List.range (d+1)).map λ(m:Nat)=>T.int (Uk d cs (m:Int)):=c7 λm _=>by rw[SO V B M]
 rw[<-I];have J:(List.replicate (d+1) (0:Int)).map T.int=a []:=by refine cU (by simp[a]) λq h1 h2=>?_;simp[a,sD]
 refine By rfl (gW (ρ':=[some (.p (jN c d cs)),some (.o (a [])),none,none,none]) (pC ?_ rfl) (gW (ρ':=R [] none none) (ig (i5 (qU rfl X)) rfl) (gW (lz z e) rfl)));rw[<-J];have H:ik jl (mx c.Cutting "dims" (gP 0) gR (iJ c)) (cM (.int 1)) (lF (iX 5 [jN c d cs]))=.ok (.int ((d+1:Nat):Int)):=gX (uZ d cs rfl) rfl (by rw[jb];simp);have:=QQ (d+1) (by lia) H;exact Oh this
end
def Jn{m k:Nat}{f:Nat->Int}(a:k<m)(h:∀i,i≠k->f i=0):sm m f=f k:=by obtain⟨e,rfl⟩:∃e,m=e+1:=⟨m-1,by lia⟩;rw[Lu e k f (by lia)];have:sm e (λi=>f (sk k i))=0:=(iB _ _ (λ_=>0) λi _=>h _ (by unfold sk;split<;>lia)).trans (lB e);lia
def wJ(m:Nat)(a:List Vc)(v:Vc):Prop:=∀r∈a,jD m r v=0
structure JX(m:Nat)(os:List (Nat×Vc)):Prop where
 lt:∀p∈os,p.1<m/\p.2 p.1≠0
 tri:os.Pairwise λp q=>q.2 p.1=0
theorem R6{m:Nat}{v:Vc}:∀(n:Nat) (os:List (Nat×Vc)),os.length=n->JX m os->(∀p∈os,jD m p.2 v=0)->(∀i,i∉os.map Prod.fst->v i=0)->∀p∈os,v p.1=0
 |0,os,hn,_,_,_=>λp a=>by have:os=[]:=fj.mp hn;subst this;cases a
 |n+1,os,hn,T,ha,out=>by
  rcases fq os with rfl|⟨b,q,k⟩
  .cases hn
  .rw[fu]at k;subst k;have j:=eJ.mp T.tri;have g:=T.lt q (by simp);have l:v q.1=0:=by
    have e:=ha q (by simp);unfold jD at e;rw[Jn g.1 λi f=>by
     by_cases h:i∈b.map Prod.fst
     .obtain⟨p,a,rfl⟩:=aE.mp h;rw[j.2.2 p a q (by simp),d9]
     .rw[out i (by simp only[a9,bH,cn,ai,aj];exact λz=>z.elim h f),eE]]at e
    rcases eF.mp e with z|z
    .exact absurd z g.2
    .exact z
   have o:=R6 n b (by simpa using hn) ⟨λp a=>T.lt p (by simp[a]),j.1⟩ (λp a=>ha p (by simp[a])) λi f=>by
    by_cases d:i=q.1
    .rw[d];exact l
    .exact out i (by simp only[a9,bH,cn,ai,aj];exact λz=>z.elim f d)
   intro p a;rcases ai.mp a with z|z
   .exact o p z
   .rw[aj.mp z];exact l
def HS{m:Nat}{os:List (Nat×Vc)}(T:JX m os)(d:List Vc)(k:∀v:Vc,(∀A∈d,jD m A v=0)->∀p∈os,jD m p.2 v=0):os.length<=d.length:=by
 refine cq λa=>?_;have nd:(os.map Prod.fst).Nodup:=by rw[List.Nodup,c8];exact T.tri.imp_of_mem λ{p q} _ hq e z=>(T.lt q hq).2 (by rw[<-z];exact e)
 obtain⟨v,⟨j,g⟩,out,h⟩:=pR m d (os.map Prod.fst) nd (λt i=>by obtain⟨p,f,rfl⟩:=aE.mp i;exact (T.lt p f).1) (by rw[ax];exact a)
 have z:=R6 os.length os rfl T (k v h) out;have b:j∈os.map Prod.fst:=aP λz=>g (out j z);obtain⟨p,f,rfl⟩:=aE.mp b;exact g (z p f)
def CA(m:Nat)(b:List Vc)(r:Nat):Prop:=∃a,JX m a/\a.length=r/\∀v,wJ m b v↔∀p∈a,jD m p.2 v=0
def CA.uniq{m:Nat}{j f:List Vc}{r g:Nat}(h:CA m j r)(h':CA m f g)(e:∀v,wJ m j v↔wJ m f v):r=g:=by
 obtain⟨d,T,rfl,a⟩:=h;obtain⟨b,l,rfl,i⟩:=h';have k:∀{d b:List (Nat×Vc)},JX m d->(∀v,(∀p∈b,jD m p.2 v=0)->∀p∈d,jD m p.2 v=0)->d.length<=b.length:=λ{d b} T h=>by have:=HS T (b.map Prod.snd) λv hv=>h v λp n=>hv _ (aE.mpr ⟨p,n,rfl⟩);rwa [ax]at this
 exact fv (k T λv hv=>(a v).mp ((e v).mpr ((i v).mpr hv))) (k l λv hv=>(i v).mp ((e v).mp ((a v).mpr hv)))
def tN(u:Vc)(p:Nat)(r:Vc):Vc:=λi=>u p*r (sk p i)-r p*u (sk p i)
section
variable {d p:Nat}{u:Vc}
def Bm(a:p<=d)(x v:Vc):jD (d+1) x v=jD d (λi=>x (sk p i)) (λi=>v (sk p i))+x p*v p:=by unfold jD;rw[Lu d p _ a]
def LX(a:p<=d)(r v:Vc):jD d (tN u p r) (λi=>v (sk p i))=u p*jD (d+1) r v-r p*jD (d+1) u v:=by
 rw[Bm a r v,Bm a u v];have:jD d (tN u p r) (λi=>v (sk p i))=u p*jD d (λi=>r (sk p i)) (λi=>v (sk p i))+(-(r p))*jD d (λi=>u (sk p i)) (λi=>v (sk p i)):=by unfold jD;rw[<-vI];exact iB _ _ _ λi _=>by unfold tN;grind
 rw[this];grind
def Ct(e:p<=d)(f:u p≠0)(B:List Vc)(v:Vc):wJ (d+1) (u::B) v↔jD (d+1) u v=0/\wJ d (B.map (tN u p)) (λi=>v (sk p i)):=by
 constructor
 .intro h;have a:=h u (by simp);refine⟨a,λr hr=>?_⟩;obtain⟨g,b,rfl⟩:=aE.mp hr;rw[LX e,a,h g (by simp[b])];lia
 .rintro⟨a,h⟩ r hr;rcases aG.mp hr with rfl|hr
  .exact a
  .have:=h _ (aE.mpr ⟨r,hr,rfl⟩);rw[LX e,a,eE,Int.sub_zero]at this;rcases eF.mp this with z|z
   .exact absurd z f
   .exact z
def LB(p:Nat)(x:Vc):Vc:=λi=>if i=p then 0 else x (if i<p then i else i-1)
def Bw(x:Vc)(i:Nat):LB p x (sk p i)=x i:=by
 unfold LB sk;by_cases h:i<p
 .rw[aR h,aS (by lia),aR h]
 .rw[aS h,aS (by lia),aS (by lia)];rfl
def QY(x:Vc):LB p x p=0:=aR rfl
def MQ(a:p<=d)(x v:Vc):jD (d+1) (LB p x) v=jD d x (λi=>v (sk p i)):=by rw[Bm a,QY,d9,ee];unfold jD;exact iB _ _ _ λi _=>by dsimp only;rw[Bw]
def Br(g:p<=d)(i:u p≠0){B:List Vc}{r:Nat}(h:CA d (B.map (tN u p)) r):CA (d+1) (u::B) (r+1):=by
 obtain⟨k,T,rfl,a⟩:=h;refine⟨(p,u)::k.map λq=>(sk p q.1,LB p q.2),⟨λq b=>?_,dR.mpr ⟨λq b=>?_,c8.mpr (T.tri.imp λ{x y} e=>?_)⟩⟩,by simp,λv=>?_⟩
 .rcases aG.mp b with rfl|b
  .exact⟨by lia,i⟩
  .obtain⟨q,f,rfl⟩:=aE.mp b;have:=T.lt q f;refine⟨?_,?_⟩
   .show sk p q.1<d+1;unfold sk;split<;>lia
   .show LB p q.2 (sk p q.1)≠0;rw[Bw];exact this.2
 .obtain⟨q,b,rfl⟩:=aE.mp b;exact QY _
 .show LB p y.2 (sk p x.1)=0;rw[Bw];exact e
 .rw[Ct g i,a];constructor
  .rintro⟨j,h⟩ q b;rcases aG.mp b with rfl|b
   .exact j
   .obtain⟨q,f,rfl⟩:=aE.mp b;show jD (d+1) (LB p q.2) v=0;rw[MQ g];exact h q f
  .intro h;refine⟨h (p,u) (by simp),λq b=>?_⟩;rw[<-MQ g];exact h (sk p q.1,LB p q.2) (bx _ (aE.mpr ⟨q,b,rfl⟩))
end
def xh{m:Nat}{u:Vc}(h:∀i,i<m->u i=0)(B:List Vc)(v:Vc):wJ m (u::B) v↔wJ m B v:=by
 have z:jD m u v=0:=(iB _ _ (λ_=>0) λi a=>by rw[h i a,d9]).trans (lB m);exact⟨λq r hr=>q r (by simp[hr]),λq r hr=>by
  rcases aG.mp hr with rfl|hr
  .exact z
  .exact q r hr⟩
theorem qE:∀(n m:Nat) (B:List Vc),B.length=n->∃r,r<=n/\CA m B r
 |0,m,B,hn=>by have:B=[]:=fj.mp hn;subst this;exact⟨0,aL _,[],⟨λ_ h=>(nomatch h),.nil⟩,rfl,λv=>⟨λ_ _ h=>(nomatch h),λ_ _ h=>(nomatch h)⟩⟩
 |n+1,m,B,hn=>by
  cases B with
  |nil=>cases hn
  |cons u B=>
   have b:B.length=n:=by simpa using hn
   by_cases h:∃p,p<m/\u p≠0
   .obtain⟨p,l,f⟩:=h;obtain⟨d,rfl⟩:∃d,m=d+1:=⟨m-1,by lia⟩;obtain⟨r,hr,k⟩:=qE n d (B.map (tN u p)) (by simpa using b);exact⟨r+1,by lia,Br (by lia) f k⟩
   .obtain⟨r,hr,j,T,e,a⟩:=qE n m B b;exact⟨r,by lia,j,T,e,λv=>(xh (λi g=>aP λz=>h ⟨i,g,z⟩) B v).trans (a v)⟩
def mE(d:Nat)(B:List Vc):Prop:=∀v,wJ (d+1) B v->v d=0
def vg{d p:Nat}{u:Vc}(f:p<=d)(a:u p≠0)(B:List Vc):mE (d+1) (u::B)↔mE d (B.map (tN u p)):=by
 constructor
 .intro h w hw;let v:Vc:=λi=>if i=p then -(jD (d+1) (λi=>u (sk p i)) w) else u p*LB p w i
  have b:∀i,v (sk p i)=u p*w i:=λi=>by show (if sk p i=p then _ else u p*LB p w (sk p i))=_;rw[aS (by unfold sk;split<;>lia),Bw]
  have j:v p = -(jD (d+1) (λi=>u (sk p i)) w):=aR rfl;have g:jD (d+1+1) u v=0:=by
   rw[Bm (show p<=d+1 by lia),j];have:jD (d+1) (λi=>u (sk p i)) (λi=>v (sk p i))=u p*jD (d+1) (λi=>u (sk p i)) w:=by unfold jD;rw[<-kC];exact iB _ _ _ λi _=>by dsimp only;rw[b];grind
   rw[this];grind
  have:=h v ((Ct (d:=d+1) (by lia) a B v).mpr ⟨g,λr hr=>by
   have e:jD (d+1) r (λi=>v (sk p i))=u p*jD (d+1) r w:=by unfold jD;rw[<-kC];exact iB _ _ _ λi _=>by dsimp only;rw[b];grind
   rw[e,hw r hr,eE]⟩)
  rw[<-K6 f,b]at this;rcases eF.mp this with z|z
  .exact absurd z a
  .exact z
 .intro h v hv;have:=h _ ((Ct (d:=d+1) (by lia) a B v).mp hv).2;rw[K6 f]at this;exact this
def pT(d:Nat)(B:List Vc):Int:=@ite _ (mE d B) (Classical.propDecidable _) 0 (@ite _ (∃r,CA (d+1) B r/\(B.length+r) % 2=0) (Classical.propDecidable _) 1 (-1))
def oI{d r:Nat}{B:List Vc}(h:¬mE d B)(k:CA (d+1) B r):pT d B=if (B.length+r) % 2=0 then 1 else -1:=by
 unfold pT;rw[aS h];by_cases e:(B.length+r) % 2=0
 .rw[aR e,aR ⟨r,k,e⟩]
 .rw[aS e,aS];rintro⟨f,a,b⟩;rw[k.uniq a λ_=>Iff.rfl]at e;exact e b
def mZ{d:Nat}{B:List Vc}(h:mE d B):pT d B=0:=by unfold pT;rw[aR h]
def K4{d p:Nat}{u:Vc}(b:p<=d)(a:u p≠0)(B:List Vc):pT (d+1) (u::B)=pT d (B.map (tN u p)):=by
 by_cases h:mE d (B.map (tN u p))
 .rw[mZ h,mZ ((vg b a B).mpr h)]
 .obtain⟨r,_,k⟩:=qE _ (d+1) (B.map (tN u p)) rfl;rw[oI h k,oI (λz=>h ((vg b a B).mp z)) (Br (d:=d+1) (by lia) a k),aA,ax];have:(B.length+1+(r+1)) % 2=(B.length+r) % 2:=by lia
  rw[this]
def MJ{d:Nat}{u:Vc}(h:∀i,i<d+1->u i=0)(B:List Vc):pT d (u::B) = -pT d B:=by
 have b:mE d (u::B)↔mE d B:=⟨λq v hv=>q v ((xh h B v).mpr hv),λq v hv=>q v ((xh h B v).mp hv)⟩;by_cases z:mE d B
 .rw[mZ z,mZ (b.mpr z)];rfl
 .obtain⟨r,_,f,T,e,a⟩:=qE _ (d+1) B rfl;rw[oI z ⟨f,T,e,a⟩,oI (λq=>z (b.mp q)) ⟨f,T,e,λv=>(xh h B v).trans (a v)⟩,aA];by_cases q:(B.length+r) % 2=0
  .rw[aR q,aS (by lia)]
  .rw[aS q,aR (by lia)];rfl
def Tx{d:Nat}{u:Vc}(h:∀i,i<d->u i=0)(a:u d≠0)(B:List Vc):pT d (u::B)=0:=mZ λv hv=>by
 have:=hv u (by simp);unfold jD at this;have e:sm (d+1) (λi=>u i*v i)=u d*v d:=by rw[qr,(iB _ _ (λ_=>0) λi b=>by rw[h i b,d9]),lB];lia
 rw[e]at this;rcases eF.mp this with z|z
 .exact absurd z a
 .exact z
def yj{d:Nat}{B B':List Vc}(h:B.length=B'.length)(e:∀v,wJ (d+1) B v↔wJ (d+1) B' v):pT d B=pT d B':=by
 have f:mE d B↔mE d B':=⟨λq v hv=>q v ((e v).mpr hv),λq v hv=>q v ((e v).mp hv)⟩;by_cases z:mE d B
 .rw[mZ z,mZ (f.mp z)]
 .obtain⟨r,_,g,T,b,a⟩:=qE _ (d+1) B rfl;rw[oI z ⟨g,T,b,a⟩,oI (λq=>z (f.mpr q)) ⟨g,T,b,λv=>(e v).symm.trans (a v)⟩,h]
def mn(d:Nat)(us:List Vc):Int:=iU us (pT d)
theorem m9{a b:Type}(t:a->b):∀(l:List a) (F:List b->Int),iU l (λB=>F (B.map t))=iU (l.map t) F
 |[],F=>rfl
 |x::l,F=>by rw[bH];unfold iU;rw[m9 t l F,<-m9 t l λB=>F (t x::B)];rfl
def vZ{d p:Nat}{u:Vc}(b:p<=d)(a:u p≠0)(us:List Vc):mn (d+1) (u::us)=mn (d+1) us+mn d (us.map (tN u p)):=by show iU us (pT (d+1))+iU us (λB=>pT (d+1) (u::B))=_;rw[iM (f:=λB=>pT (d+1) (u::B)) λB _=>K4 b a B,m9 (tN u p) us (pT d)];rfl
def B0{d:Nat}{u:Vc}(h:∀i,i<d->u i=0)(a:u d≠0)(us:List Vc):mn d (u::us)=mn d us:=by show iU us (pT d)+iU us (λB=>pT d (u::B))=_;rw[iM (f:=λB=>pT d (u::B)) (g:=λ_=>0) λB _=>Tx h a B,md];exact ee _
theorem II{d:Nat}{u:Vc}(h:∀i,i<d+1->u i=0):∀us:List Vc,u∈us->mn d us=0
 |us,hu=>by
  have a:∀(A C:List Vc),iU (A++u::C) (pT d)=0:=λA C=>by
   have b:∀(A:List Vc) (P:List Vc),iU (A++u::C) (λB=>pT d (P++B))=0:=by
    intro A;induction A with
    |nil=>
     intro P;show iU C (λB=>pT d (P++B))+iU C (λB=>pT d (P++u::B))=0;have:iU C (λB=>pT d (P++u::B))=iU C (λB=>(-1)*pT d (P++B)):=iM λB _=>by
      have e:pT d (P++u::B)=pT d (u::(P++B)):=yj (by simp;lia) λv=>by
       unfold wJ;constructor
       .intro q r hr;exact q r (by simp at hr ⊢;rcases hr with z|z|z<;>simp[z])
       .intro q r hr;exact q r (by simp at hr ⊢;rcases hr with z|z|z<;>simp[z])
      rw[e,MJ h];lia
     rw[this,nh];lia
    |cons x A ih=>intro P;show iU (A++u::C) (λB=>pT d (P++B))+iU (A++u::C) (λB=>pT d (P++x::B))=0;rw[ih P];have:=ih (P++[x]);simp only[b9,f9]at this;rw[this];rfl
   exact b A []
  obtain⟨A,C,rfl⟩:=fX hu;exact a A C
section
variable {d:Nat}{cs:LL}{B:List Nat}
def BP(cs:LL)(B:List Nat):List Vc:=B.map λz=>vc (cs.getD z [])
def MY{m:Nat}{v:Vc}:wJ m (BP cs B) v↔xA m (jv cs B) v:=by
 unfold wJ xA BP jv;constructor
 .intro h r hr;obtain⟨z,a,rfl⟩:=aE.mp hr;exact h _ (aE.mpr ⟨z,a,rfl⟩)
 .intro h r hr;obtain⟨z,a,rfl⟩:=aE.mp hr;exact h _ (aE.mpr ⟨z,a,rfl⟩)
def CT(V:Vz d cs)(a:pM cs B)(h:FL d cs B=none):pT d (BP cs B)=0:=by
 obtain⟨pv,m,P,r,hr,b⟩:=w5 V a h;refine mZ λv hv=>?_;have j:=MY.mp hv;obtain⟨l,g,k⟩:=P.rr r hr;have e:jD (d+1) (vc r) v=0:=jF k λx ⟨r',hr',ex⟩=>by rw[ex];exact j r' hr'
 unfold jD at e;rw[qr,(iB _ _ (λ_=>0) λi f=>by rw[g i f,d9]),lB,eh]at e;rcases eF.mp e with z|z
 .exact absurd z b
 .exact z
def JN(V:Vz d cs)(J:pM cs B){g:Ky}(h:FL d cs B=some g):∃r:Nat,CA (d+1) (BP cs B) r/\¬mE d (BP cs B)/\(r:Int)=(d:Int)-g.1:=by
 obtain⟨pv,R,f,P,_,K,rfl⟩:=lZ V J h;have D:∀r∈R,∀v:Vc,jD (d+1) (vc r) v=0:=λr hr v=>by obtain⟨Y,D,Z⟩:=P.rr r hr;unfold jD;rw[qr,(iB _ _ (λ_=>0) λi C=>by rw[D i C,d9]),lB,K r hr];lia
 have T:JX (d+1) (pv.map λp=>(p.1,vc p.2)):=⟨λq n=>by obtain⟨p,l,rfl⟩:=aE.mp n;exact⟨by have:=(P.pl p l).1;lia,(P.pl p l).2.2.1⟩,c8.mpr (P.pw.imp λq=>q.2.1)⟩
 have F:∀v,wJ (d+1) (BP cs B) v↔∀p∈pv.map (λp=>(p.1,vc p.2)),jD (d+1) p.2 v=0:=λv=>by
  rw[MY];constructor
  .intro u q n;obtain⟨p,l,rfl⟩:=aE.mp n;exact jF (P.pl p l).2.2.2.2 λx ⟨y,m,s⟩=>by rw[s];exact u y m
  .intro u r hr;refine jF (P.sp r hr) λx L=>?_;rcases L with⟨p,l,s⟩|⟨y,m,s⟩
   .rw[s];exact u (p.1,vc p.2) (aE.mpr ⟨p,l,rfl⟩)
   .rw[s];exact D y m v
 have k:CA (d+1) (BP cs B) pv.length:=⟨_,T,by simp,F⟩;have S:¬mE d (BP cs B):=λC=>by
  have nd:((pv.map Prod.fst)++[d]).Nodup:=by
   refine dY.mpr ⟨?_,by simp,λa u b U e=>?_⟩
   .rw[List.Nodup,c8];exact P.pw.imp λq=>q.1
   .obtain⟨p,l,rfl⟩:=aE.mp u;rw[aj.mp U]at e;have:=(P.pl p l).1;lia
  obtain⟨v,⟨j,w⟩,out,N⟩:=pR (d+1) (pv.map λp=>vc p.2) ((pv.map Prod.fst)++[d]) nd (λt Q=>by
   rcases ai.mp Q with q|q
   .obtain⟨p,l,rfl⟩:=aE.mp q;have:=(P.pl p l).1;lia
   .rw[aj.mp q];lia) (by simp)
  have I:wJ (d+1) (BP cs B) v:=(F v).mpr λq n=>by obtain⟨p,l,rfl⟩:=aE.mp n;exact N _ (aE.mpr ⟨p,l,rfl⟩)
  have H:=C v I;have X:=R6 _ (pv.map λp=>(p.1,vc p.2)) rfl T ((F v).mp I) λi E=>by
   by_cases lF:i=d
   .rw[lF];exact H
   .refine out i λq=>?_;rcases ai.mp q with q|q
    .refine E ?_;rw[aJ];exact q
    .exact lF (aj.mp q)
  by_cases o:j=d
  .rw[o]at w;exact w H
  .have A:j∈pv.map Prod.fst:=aP λz=>w (out j λq=>by
    rcases ai.mp q with q|q
    .exact z q
    .exact o (aj.mp q))
   obtain⟨p,l,rfl⟩:=aE.mp A;exact w (X (p.1,vc p.2) (aE.mpr ⟨p,l,rfl⟩))
 exact⟨pv.length,k,S,by unfold NP;dsimp only;lia⟩
def Vh(V:Vz d cs)(a:pM cs B){g:Ky}(h:FL d cs B=some g):∃(k:CA (d+1) (BP cs B) ((d:Int)-g.1).toNat),¬mE d (BP cs B)/\((((d:Int)-g.1).toNat:Nat):Int)=(d:Int)-g.1:=by
 obtain⟨r,k,b,e⟩:=JN V a h;have:((d:Int)-g.1).toNat=r:=by lia
 rw[this];exact⟨k,b,e⟩
def Nh(V:Vz d cs)(j:pM cs B){g:Ky}(h:FL d cs B=some g):pT d (BP cs B)=sg d g*pO B:=by
 obtain⟨r,k,l,e⟩:=JN V j h;rw[oI l k];have i:(BP cs B).length=B.length:=by simp[BP]
 rw[i];unfold sg pO;have f:((d:Int)-g.1) % 2=0↔r % 2=0:=by lia
 by_cases a:r % 2=0
 .rw[aR (f.mpr a)];by_cases b:B.length % 2=0
  .rw[aR b,aR (by lia)];rfl
  .rw[aS b,aS (by lia)];rfl
 .rw[aS λz=>a (f.mp z)];by_cases b:B.length % 2=0
  .rw[aR b,aS (by lia)];rfl
  .rw[aS b,aR (by lia)];rfl
def rB(cs:LL):(List.range cs.length).map (λz=>vc (cs.getD z []))=cs.map vc:=by
 refine cU (by simp) λi e a=>?_;have b:i<cs.length:=by simpa using a
 simp only[eM,fZ];rw[af,ag b];rfl
def PR(V:Vz d cs)(a:cs.length<=6){D:List l4}(M:Fe d cs D):sD D (λg=>(g.2.natAbs:Int))=mn d (cs.map vc):=by
 have i:sD D (λg=>(g.2.natAbs:Int))=sD D (λg=>iU (List.range cs.length) λB=>sg d g.1*(if FL d cs B=some g.1 then pO B else 0)):=qQ λg f=>by
  have w:=Cp V a M (((d:Int)-g.1.1).toNat+1) g f (by lia);have s:=Ef V a M (((d:Int)-g.1.1).toNat+1) g f (by lia);rw[nh];show _=sg d g.1*HZ d cs g.1;rw[<-w];unfold sg at s ⊢;split at s
  .rename_i h;rw[aR h];lia
  .rename_i h;rw[aS h];lia
 rw[i,uz];unfold mn;rw[<-rB,<-m9];refine iM λB b=>?_;have ok:=xu a b;cases e:FL d cs B with
 |none=>show _=pT d (BP cs B);rw[CT V ok e];exact oY λg _=>by simp
 |some g=>
  show _=pT d (BP cs B);rw[Nh V ok e];obtain⟨n,j⟩:=M.at_ V a b e;rw[sU M.nd j λx _ ne=>by rw[aS (show ¬some g=some x.1 from λz=>ne (Option.some.inj z).symm)];lia]
  dsimp only;rw[aR rfl]
end
def pE{d:Nat}{cs:LL}(V:Vz d cs)(a:cs.length<=6):iS c [jN c d cs]=.ok (.int (mn d (cs.map vc))):=by
 have sz:1000<sizeLine:=by decide
 obtain⟨l,b,i⟩:=K7 (c:=c) V a;have f:(jS l).Perm l:=dU l Ae;have h:(uP (jS l)).length<64:=by have:=congrArg List.length (pV (jS l));rw[ax,f.length_eq]at this;rw[this];exact wX V a b
 have e:lM [none] (jP (jC (i8 (gO (gP 0) gR) (kH c)))) (km 0) (λ_=>.ok true) (oV c) (vw (iX 1 [jN c d cs]))=.ok (((uP (jS l)).map λg=>(g.2.natAbs:Int)).map T.int):=jZ (uP (jS l)) (λg=>T.int g.2) (λg=>T.int (g.2.natAbs:Int)) (pW (i5 (qU rfl i))) (by lia) (λg j=>⟨_,rfl,rfl,mG (t:=.int g.2) rfl (by simp[TB])⟩) (by rw[aJ];rfl)
 refine iQ rfl (iA (qh e ?_));rw[FC];congr 2;exact PR V a (L5 V a b)
def MD kvs k j v:n9 (Gj kvs k v) j=if j=k then some v else n9 kvs j:=by
 have get:∀l:List (LI×T),(l.find? λd=>decide (d.1=j)).map (·.2)=n9 l j:=λ_=>rfl;unfold Gj;by_cases h:(kvs.any λd=>decide (d.1=k))=true
 .rw[aR h];induction kvs with
  |nil=>simp at h
  |cons a l ih=>
   unfold n9 at ih ⊢;rw[bH,List.find?_cons,List.find?_cons];by_cases e:a.1=k
   .rw[aR e];by_cases b:j=k
    .rw[aR b];simp[e,b]
    .rw[aS b];have i:¬a.1=j:=λz=>b (z▸e);simp only[i,decide_false];by_cases f:(l.any λd=>decide (d.1=k))=true
     .rw[ih f,aS b]
     .have:l.map (λd=>if d.1=k then (d.1,v) else d)=l:=by
       conv=>rhs;rw[<-List.map_id l]
       refine c7 λq g=>aS λz=>f (eV.mpr ⟨q,g,by simpa using z⟩)
      rw[this]
   .rw[aS e];have f:(l.any λd=>decide (d.1=k))=true:=by simpa[e] using h
    by_cases b:a.1=j
    .have:¬j=k:=λz=>e (b.trans z);simp[b,this]
    .simp only[b,decide_false];exact ih f
 .rw[aS h];unfold n9;rw[List.find?_append];by_cases b:j=k
  .subst b;have:=List.find?_eq_none.mpr λq g z=>h (eV.mpr ⟨q,g,z⟩);rw[this];simp
  .rw[aS b];have:¬k=j:=λz=>b z.symm;simp[this]
theorem Al:∀b kvs j,(n9 (ur kvs b) j=n9 kvs j/\j∉b.map Prod.fst)\/∃t,n9 (ur kvs b) j=some t/\(j,t)∈b
 |[],_,_=>.inl ⟨rfl,λh=>nomatch h⟩
 | (k,v)::b,kvs,j=>by
  rcases Al b (Gj kvs k v) j with⟨a,e⟩|⟨t,a,e⟩
  .rw[MD]at a;by_cases d:j=k
   .rw[aR d]at a;exact .inr ⟨v,a,by rw[d];simp⟩
   .rw[aS d]at a;exact .inl ⟨a,by simp[d];simpa using e⟩
  .exact .inr ⟨t,a,by simp[e]⟩
theorem AC:∀C:List (LI×LI),zl (C.map pH)=some (C.map λq=>(q.1,tI q.2))
 |[]=>rfl
 |q::C=>by rw[bH];show (kj (q.1.map T.int)).bind _=_;rw[vS,Option.bind_some,AC C];rfl
def To(C:List (LI×LI)) s:(n9 (ur [] (C.map λq=>(q.1,tI q.2))) s=none/\s∉C.map Prod.fst)\/∃q∈C,q.1=s/\n9 (ur [] (C.map λq=>(q.1,tI q.2))) s=some (tI q.2):=by
 rcases Al (C.map λq=>(q.1,tI q.2)) [] s with⟨b,a⟩|⟨t,b,a⟩
 .exact .inl ⟨b,by rw[aJ]at a;exact a⟩
 .obtain⟨q,d,e⟩:=aE.mp a;cases e;exact .inr ⟨q,d,rfl,b⟩
def JM n p:flt (n+1) p=(iT n).flatMap λs=>[s++[-1],s++[1]].filter λs=>Hu (p s):=by unfold flt;rw[iT,List.filter_flatMap]
def C6(h:∀s∈iT n,¬p s->∀v,¬q (s++[v])):flt (n+1) q=(flt n p).flatMap λs=>[s++[-1],s++[1]].filter λs=>Hu (q s):=by
 rw[JM];unfold flt;generalize iT n=l at *;induction l with
 |nil=>rfl
 |cons a l ih=>
  rw[gd,ih λs d=>h s (by simp[d])];by_cases b:p a
  .have e:(a::l).filter (λs=>Hu (p s))=a::l.filter λs=>Hu (p s):=gh (by simpa using b);rw[e,gd]
  .have e:(a::l).filter (λs=>Hu (p s))=l.filter λs=>Hu (p s):=gq (by simpa using b);rw[e];simp[h a (by simp) b]
section
variable {d:Nat}{us:LL}{u s:LI}
def pS i:(us++[u]).getD i []=if i<us.length then us.getD i [] else if i=us.length then u else []:=by
 rw[af,af];by_cases h:i<us.length
 .rw[aR h,List.getElem?_append_left h]
 .rw[aS h,List.getElem?_append_right (by lia)];by_cases a:i=us.length
  .rw[aR a,a,fF];rfl
  .rw[aS a,List.getElem?_eq_none (by simp;lia)];rfl
def uM(b:s.length=n) v i:vc (s++[v]) i=if i<n then vc s i else if i=n then v else 0:=by
 rw[tZ,b];by_cases h:i<n
 .rw[aR h,aR h]
 .rw[aS h,aS h];by_cases a:i=n
  .rw[aR a,a,fF];rfl
  .rw[aS a];exact jg _ _ (by simp;lia)
def nO(b:s.length=us.length)(v:Int) X:On d (us++[u]) (s++[v]) X↔On d us s X/\0<(v:Rat)*mM d X (vc u):=by
 constructor
 .intro h;refine⟨λi a=>?_,?_⟩
  .have:=h i (by simp;lia);rwa [pS,aR a,uM b,aR a]at this
  .have:=h us.length (by simp);rwa [pS,aS (by lia),aR rfl,uM b,aS (by lia),aR rfl]at this
 .rintro⟨f,e⟩ i a;rw[pS,uM b];by_cases q:i<us.length
  .rw[aR q,aR q];exact f i q
  .have:i=us.length:=by simp at a;lia
   rw[aS q,aS q,aR this,aR this];exact e
def GJ(b:s.length=us.length)(h:∀i,i<us.length->kX (hv d (vc (us.getD i [])) (vc P))=vc s i)(a:kX (hv d (vc u) (vc P))=v):∀i,i<(us++[u]).length->kX (hv d (vc ((us++[u]).getD i [])) (vc P))=vc (s++[v]) i:=λi e=>by
 rw[pS,uM b];by_cases q:i<us.length
 .rw[aR q,aR q];exact h i q
 .have:i=us.length:=by simp at e;lia
  rw[aS q,aS q,aR this,aR this];exact a
end
def Pt(j:0<g)(h:1<=o)(k:s = -1\/s=1)(b:∀i,i<d->g*vc Q i=o*vc P i+s*vc u i)(a:g*vc Q d=o*vc P d) :
  g*hv d (vc w) (vc Q)=o*hv d (vc w) (vc P)+s*sm d λi=>vc w i*vc u i:=by
 unfold hv;have e:g*sm d (λi=>vc w i*vc Q i)=o*sm d (λi=>vc w i*vc P i)+s*sm d (λi=>vc w i*vc u i):=by rw[<-kC,<-vI];exact iB d _ _ λi f=>by have:=b i f;grind
 rw[eI,e,show g*(vc w d*vc Q d)=vc w d*(g*vc Q d) by grind,a];grind
theorem Lo:∀(d:Nat) (f:Nat->Int),0<=sm d (λi=>f i*f i)/\((∃i,i<d/\f i≠0)->0<sm d λi=>f i*f i)
 |0,_=>⟨Int.le_refl _,λ⟨_,h,_⟩=>nomatch h⟩
 |d+1,f=>by
  obtain⟨e,b⟩:=Lo d λi=>f (i+1);have a:∀x:Int,0<=x*x/\(x≠0->0<x*x):=λx=>by
   rcases e6 x 0 with h|h|h
   .have:=Int.mul_pos_of_neg_of_neg h h;exact⟨by lia,λ_=>this⟩
   .subst h;exact⟨by decide,λz=>absurd rfl z⟩
   .have:=aY h h;exact⟨by lia,λ_=>this⟩
  rw[sm];have q:=a (f 0);refine⟨by lia,λ⟨i,hi,hf⟩=>?_⟩;cases i with
  |zero=>have:=q.2 hf;lia
  |succ i=>have:=b ⟨i,by lia,hf⟩;lia
def KQ(d:1<=o)(h:(b.natAbs:Int)<o*(a.natAbs:Int))(e:s = -1\/s=1):kX (o*a+s*b)=kX a:=by
 unfold kX;rcases e6 a 0 with q|q|q
 .have:o*a.natAbs = -(o*a):=by rw[show a.natAbs = -a by lia,fJ]
  rw[aS (by lia),aR (by lia),aS (by lia),aR q]
 .subst q;simp at h;lia
 .have:o*a.natAbs=o*a:=by rw[show a.natAbs=a by lia]
  rw[aR (by lia),aR q]
def Pz(hB:B<=2000)(hN:N<=5000)(hd:d<=50)(h2:3*B+N+2*d+4<=N2)(hN2:N2<=5000)(Z:∀w∈us,Gu d B w)(hn:us.length<=8)(hu:Gu d B u) FR
  (hFR:∀d',d=d'+1->∀vs:LL,vs.length=us.length->(∀w∈vs,Gu d' (2*B+1) w)->∃L:List (LI×LI),FR [.lst (vs.map tI),.int (d':Int)]=.ok (.lst (L.map pH))/\Ob d' N vs L) (hL:Ob d N2 us L) :
  ∃L':List (LI×LI),k9 c FR [.lst (L.map pH),.lst (us.map tI),tI u]=.ok (L'.map pH)/\Ob d N2 (us++[u]) L'/\L'.length=L.length+(flt us.length (Rx d us u)).length:=by
 have sz:1000<sizeLine:=by decide
 obtain⟨C,eC,hC,hCp⟩:=vf (c:=c) hB hN hd Z hn hu FR hFR;have Ll:L.length<=256:=by have h1:=congrArg List.length hL.fst;have h2:=xj us.length (Rz d us);have h4:2 ^ us.length<=2 ^ 8:=dI (by decide) hn;rw[ax]at h1;lia
 have rw_:∀q∈L,q.1∈iT us.length/\Rz d us q.1:=λq I=>w9.mp (by rw[<-hL.fst];exact aE.mpr ⟨q,I,rfl⟩);let K:List (LI×T):=ur [] (C.map λq=>(q.1,tI q.2));let D:T:=.dic K;let S (G:List (LI×LI)) (A n a:Option W):En:=[some (.p (.lst (L.map pH))),some (.p (.lst (us.map tI))),some (.p (tI u)),some (.p D),some (.o (G.map pH)),A,n,a];let Ok (q:LI×LI):Prop:=Gp d N2 q.2/\∀i,i<(us++[u]).length->kX (hv d (vc ((us++[u]).getD i [])) (vc q.2))=vc q.1 i;let E:LI->Bool:=λs=>Hu (Rx d us u s);let two:LI->LL:=λs=>[s++[-1],s++[1]].filter λs=>Hu (Rz d (us++[u]) s);have hin:∀(s:LI) (b:Bool) (G:List (LI×LI)) (n a:Option W),(n9 K s).isSome=b->jL (ik (E7 false) (gP 5) (gP 3)) (vw (S G (some (.p (tI s))) n a))=.ok b:=λs b G n a h=>iH (gX (x:=tI s) (y:=D) rfl rfl (by show (match kj (s.map T.int) with|some ns=>M.ok (T.bl (if false then !(n9 K ns).isSome else (n9 K ns).isSome))|none=>M.bad)=_;rw[vS];simp[h]))
 have app:∀(G:List (LI×LI)) (q:LI×LI) (A n a:Option W) {f:Pe->M T},G.length<=600->f (lF (S G A n a))=.ok (pH q)->uI 4 (kn f) (S G A n a)=.nx (S (G++[q]) A n a):=λG q A n a {f} hG h=>vP (us:=G.map pH) rfl h (by rw[ax];lia) (by simp[S]);obtain⟨ρ',e',G,A,n,a,rfl,g1,g2,g3⟩:=lg (m:=mJ 2 (iZ (mH 5) (iZ (mH 6) mK))) (g:=pZ c FR) pH
  (λk ρ=>∃(G:List (LI×LI)) (A n a:Option W),ρ=S G A n a/\G.map Prod.fst=((L.take k).map Prod.fst).flatMap two/\(∀q∈G,Ok q)/\G.length=k+(((L.take k).map Prod.fst).filter E).length) L 0 (S [] none none none) ⟨[],none,none,none,rfl,rfl,(λ_ h=>nomatch h),rfl⟩ (by
   rintro k ⟨s,P⟩ ρ hk ⟨G,A,n,a,rfl,g1,g2,g3⟩;rw[aH]at g1 g3 ⊢;have hm:=au hk;have hkl:=(aa.mp hk).1;have g4:G.length<=2*k:=by have:=fM E ((L.take k).map Prod.fst);simp only[ax,bQ]at this;lia
   have ck:(((L.take (k+1)).map Prod.fst).filter E).length=(((L.take k).map Prod.fst).filter E).length+if E s then 1 else 0:=by rw[jJ L k _ hk,a9,fU,aU];cases h:E s<;>simp[h]
   obtain⟨r1,X0,hX0⟩:=rw_ _ hm;have R:=hL.gp _ hm;have sg:=hL.sg _ hm;dsimp only at r1 R sg hX0;have sl:=(qd r1).1;have H:=M7 R.pos sg λi j=>EX r1 j;have rx:s∈C.map Prod.fst↔Rx d us u s:=by rw[hC,w9];exact⟨λz=>z.2,λz=>⟨r1,z⟩⟩
   have tk:((L.take (k+1)).map Prod.fst).flatMap two=((L.take k).map Prod.fst).flatMap two++two s:=by rw[jJ L k _ hk];simp
   refine⟨S G (some (.p (tI s))) (some (.p (tI P))) a,?_⟩;rcases To C s with⟨v0,v1⟩|⟨q,I,rfl,v1⟩
   .have F:¬Rx d us u s:=λz=>v1 (rx.mpr z);have h0:hv d (vc u) (vc P)≠0:=λz=>F ⟨XP d (vc P),by
     have e:=MP (u:=vc u) R.pos;rw[z]at e;have:=FZ R.pos;rcases Rat.mul_eq_zero.mp e.symm with q|q
     .grind
     .exact q,H⟩
    have la:=tJ (c:=c) (d:=d) (B:=B) (M:=N2) (by lia) (by lia) hd hu.len R.len hu.bn R.bn;have hs:=JF (hv d (vc u) (vc P));generalize hh:hv d (vc u) (vc P)=h at *;have one:kX h = -1\/kX h=1:=by have:=v9 h;have:=(hs.2 h0).2.2;lia
    have r:0<((kX h:Int):Rat)*mM d (XP d (vc P)) (vc u):=by
     have z:∀i,i < [u].length->i=0:=λi j=>by simpa using j
     have:=M7 (us:=[u]) (s:=[kX h]) R.pos (λi j=>by rw[z i j];show kX (hv d (vc u) (vc P))=_;rw[hh];rfl) λi j=>by rw[z i j];exact one.symm
     exact this 0 (by simp)
    have rz1:Rz d (us++[u]) (s++[kX h]):=⟨_,(nO sl _ _).mpr ⟨H,r⟩⟩;have U:∀v:Int,(v = -1\/v=1)->v≠kX h->¬Rz d (us++[u]) (s++[v]):=λv l hne ⟨Y,hY⟩=>by
     obtain⟨y1,y2⟩:=(nO sl _ _).mp hY;have:v = -kX h:=by rcases one with q|q<;>rw[q]at hne ⊢<;>lia
     rw[this]at y2;have c1:((-kX h:Int):Rat) = -((kX h:Int):Rat):=by simp
     rw[c1]at y2;rcases one with q|q
     .rw[q]at r y2;have o:((-1:Int):Rat) = -1:=rfl;rw[o]at r y2;exact F (GR y1 H (by grind) (by grind))
     .rw[q]at r y2;have o:((1:Int):Rat)=1:=rfl;rw[o]at r y2;exact F (GR H y1 (by grind) (by grind))
    have tw:two s=[s++[kX h]]:=by
     show List.filter _ [s++[-1],s++[1]]=_;rcases one with q|q<;>rw[q]at rz1 U ⊢
     .rw[gh (by simpa using rz1),gq (by simpa using U 1 (.inr rfl) (by decide))];rfl
     .rw[gq (by simpa using U (-1) (.inl rfl) (by decide)),gh (by simpa using rz1)];rfl
    refine⟨S (G++[(s++[kX h],P)]) (some (.p (tI s))) (some (.p (tI P))) a,rfl,.inl (jV (hin s false G _ _ (by rw[show n9 K s=none from v0];rfl)) (app G (s++[kX h],P) _ _ _ (by lia) (yc (gX (x:=tI s) (y:=tI [kX h]) rfl (K8 (mN (jI rfl rfl la) (tH h))) (sV _ _ (by simp;lia))) rfl))),_,_,_,_,rfl,?_,?_,by rw[ck,show E s=false from EJ F,aU,g3];simp;lia⟩
    .rw[a9,g1,tk,tw];rfl
    .intro z hz;rcases ai.mp hz with y|y
     .exact g2 z y
     .rw[aj.mp y];exact⟨R,GJ sl sg (by rw[hh])⟩
   .obtain⟨cp,cz,cs,ci⟩:=hCp q I;have hne:∀w∈us,hv d (vc w) (vc q.2)≠0:=λw hw z=>by obtain⟨i,j,e⟩:=fP hw;have:=cs i j;rw[af,ag j,dc,e,z]at this;rcases EX r1 j with y|y<;>rw[y]at this<;>cases this
    have J:∀v:Int,(v = -1\/v=1)->∃Q:LI,kL c [.lst (us.map tI),tI u,tI q.2,.int v]=.ok (tI Q)/\Ok (q.1++[v],Q):=λv l=>by
     obtain⟨Q,g,o,f1,f2,f3,f4,f5,f6,f7,f8⟩:=BR (c:=c) (d:=d) (B:=B) (N:=B+N+d+1) hB (by lia) (by lia) hd (λw hw=>⟨(Z w hw).len,(Z w hw).bn⟩) (by lia) hu.len hu.bn cp hne l;have pos:0<vc Q d:=by have h7:0<o*vc q.2 d:=aY (by lia) cp.pos;rw[<-f7]at h7;exact fH h7 f4
     have of:=λw=>Pt (w:=w) f4 f5 l f6 f7;refine⟨Q,f1,⟨f2,λx hx=>(f3 x hx).mono (by lia),pos⟩,GJ sl (λi j=>?_) ?_⟩
     .have hw:=ph j;rw[<-cs i j,xn f4 (by decide:(0:Int)<1) ((of _).trans (d8 _).symm)];exact KQ f5 (f8 _ hw) l
     .rw[xn f4 (by decide:(0:Int)<1) ((of _).trans (d8 _).symm),cz];have:=(Lo d (vc u)).2 ci;generalize sm d (λi=>vc u i*vc u i)=m at this;unfold kX;rcases l with rfl|rfl
      .rw[aS (by lia),aR (by lia)]
      .rw[aR (by lia)]
    obtain⟨Q1,f1,o1⟩:=J (-1) (.inl rfl);obtain⟨Q2,f2,o2⟩:=J 1 (.inr rfl);have rzo:∀(v:Int) (Q:LI),(v = -1\/v=1)->Ok (q.1++[v],Q)->Rz d (us++[u]) (q.1++[v]):=λv Q l o=>⟨_,M7 o.1.pos o.2 λi j=>by
     rw[uM sl];by_cases y:i<us.length
     .rw[aR y];exact EX r1 y
     .have:i=us.length:=by simp at j;lia
      rw[aS y,aR this];exact l.symm⟩
    have tw:two q.1=[q.1++[-1],q.1++[1]]:=by show List.filter _ [q.1++[-1],q.1++[1]]=_;rw[gh (by simpa using rzo _ _ (.inl rfl) o1),gh (by simpa using rzo _ _ (.inr rfl) o2)];rfl
    have gt:Nz D (tI q.1)=.ok (tI q.2):=by show (match kj (q.1.map T.int) with|some ns=>(match n9 K ns with|some t=>M.ok t|none=>M.bad)|none=>M.bad)=_;rw[vS];dsimp only;rw[show n9 K q.1=some (tI q.2) from v1]
    have turn:∀(G:List (LI×LI)) (v:Int) (Q:LI),G.length<=600->kL c [.lst (us.map tI),tI u,tI q.2,.int v]=.ok (tI Q)->mW c FR (S G (some (.p (tI q.1))) (some (.p (tI P))) (some (.p (.int v))))=.nx (S (G++[(q.1++[v],Q)]) (some (.p (tI q.1))) (some (.p (tI P))) (some (.p (.int v)))):=λG v Q hG hf=>app G (q.1++[v],Q) _ _ _ hG (yc (gX (x:=tI q.1) (y:=tI [v]) rfl (K8 rfl) (sV _ _ (by simp;lia))) (Rr rfl rfl (gX (x:=D) (y:=tI q.1) rfl rfl gt) rfl hf))
    have lp:kM (mH 7) (mW c FR) [T.int (-1),T.int 1] (S G (some (.p (tI q.1))) (some (.p (tI P))) a)=.nx (S ((G++[(q.1++[-1],Q1)])++[(q.1++[1],Q2)]) (some (.p (tI q.1))) (some (.p (tI P))) (some (.p (.int 1)))):=by have s1:mH 7 (T.int (-1)) (S G (some (.p (tI q.1))) (some (.p (tI P))) a)=some (S G (some (.p (tI q.1))) (some (.p (tI P))) (some (.p (.int (-1))))):=rfl;have s2:mH 7 (T.int 1) (S (G++[(q.1++[-1],Q1)]) (some (.p (tI q.1))) (some (.p (tI P))) (some (.p (.int (-1)))))=some (S (G++[(q.1++[-1],Q1)]) (some (.p (tI q.1))) (some (.p (tI P))) (some (.p (.int 1)))):=rfl;rw[kM,s1];dsimp only;rw[turn G (-1) Q1 (by lia) f1];dsimp only;rw[kM,s2];dsimp only;rw[turn _ 1 Q2 (by simp;lia) f2];rfl
    refine⟨_,rfl,.inl (jO (hin q.1 true G _ _ (by rw[show n9 K q.1=some (tI q.2) from v1];rfl)) (lz (DJ (yc (vF rfl) rfl)) lp)),_,_,_,_,rfl,?_,?_,by rw[ck,show E q.1=true from wW (rx.mp (aE.mpr ⟨q,I,rfl⟩)),aU,aU,g3];simp;lia⟩
    .rw[a9,a9,g1,tk,tw,b9];rfl
    .intro z hz;rcases ai.mp hz with y|y
     .rcases ai.mp y with y|y
      .exact g2 z y
      .rw[aj.mp y];exact o1
     .rw[aj.mp y];exact o2)
 rw[aH,eK]at g1 g3;refine⟨G,yz rfl (gW (ρ':=[some (.p (.lst (L.map pH))),some (.p (.lst (us.map tI))),some (.p (tI u)),some (.p D),none,none,none,none]) (ig (mG (i5 (EA rfl rfl eC)) (by show (match zl (C.map pH) with|some ps=>M.ok (T.dic (ur [] ps))|none=>M.bad)=_;rw[AC])) rfl) (gW (ρ':=S [] none none none) (pC (ts:=[]) (by simp) rfl) (gW (lz (pW rfl) e') rfl))),⟨?_,λq I=>(g2 q I).1,λq I=>(g2 q I).2⟩,?_⟩
 .rw[g1,hL.fst,aU,cf];exact (C6 λs hs np v ⟨X,hX⟩=>np ⟨X,((nO (qd hs).1 _ _).mp hX).1⟩).symm
 .rw[g3,hL.fst];congr 2;unfold flt;rw[gw];refine fK λs _=>?_;by_cases h:Rx d us u s
  .have h2:Rz d us s:=let ⟨X,_,z⟩:=h;⟨X,z⟩;simp[E,h,h2]
  .simp[E,h]
noncomputable def Pw:Nat->Nat->Nat
 |0,B=>3*B+4
 |d+1,B=>3*B+Pw d (2*B+1)+2*(d+1)+4
theorem Q3:∀d B,d<=8->Pw d B+3*(B+1)<=6*((B+1)*2 ^ d)+20*d+4
 |0,B,_=>by unfold Pw;simp;lia
 |d+1,B,h=>by
  have a:=Q3 d (2*B+1) (by lia);have e:(2*B+1+1)*2 ^ d=(B+1)*2 ^ (d+1):=by rw[dJ,show 2*B+1+1=(B+1)*2 by lia,Nat.mul_assoc,cm 2]
  rw[e]at a;generalize (B+1)*2 ^ (d+1)=q at *;unfold Pw;lia
def yZ(a:d<=4)(h:(B+1)*2 ^ d<=800):Pw d B<=5000/\B<=2000:=by have:=Q3 d B (by lia);have:(B+1)*1<=(B+1)*2 ^ d:=eP _ (d7 d);lia
def QA(h:f ρ=.ok x):lstM (gO f gR) ρ=.ok [x]:=by
 have:1<=sizeLine:=by decide
 simp[h,this]
theorem Dz:∀n d B us,d<n->d<=4->(B+1)*2 ^ d<=800->us.length<=8->(∀u∈us,Gu d B u)->
  ∃L:List (LI×LI),kR c n [.lst (us.map tI),.int (d:Int)]=.ok (.lst (L.map pH))/\Ob d (Pw d B) us L
 |0,d,B,us,h,_,_,_,_=>absurd h (dH _)
 |n+1,d,B,us,hdn,hd,hB,hn,hus=>by
  have sz:1000<sizeLine:=by decide
  obtain⟨Y,p2⟩:=yZ hd hB;obtain⟨N,n1,n2,n3⟩:∃N,3*B+N+2*d+4<=Pw d B/\N<=5000/\∀b,d=b+1->∀o:LL,o.length<=8->(∀w∈o,Gu b (2*B+1) w)->∃L:List (LI×LI),kR c n [.lst (o.map tI),.int (b:Int)]=.ok (.lst (L.map pH))/\Ob b N o L:=by
   cases d with
   |zero=>exact⟨0,by unfold Pw;lia,by decide,λb h=>nomatch h⟩
   |succ d=>
    have e:(2*B+1+1)*2 ^ d=(B+1)*2 ^ (d+1):=by rw[dJ,show 2*B+1+1=(B+1)*2 by lia,Nat.mul_assoc,cm 2]
    have q:=yZ (d:=d) (by lia) (by rw[e];exact hB);refine⟨Pw d (2*B+1),bI (by rw[Pw]),q.1,λb h o I H=>?_⟩;cases h;exact Dz n d (2*B+1) o (by lia) (by lia) (by rw[e];exact hB) I H
  let S (L:List (LI×LI)) (C s:Option W):En:=[some (.p (.lst (us.map tI))),some (.p (.int (d:Int))),some (.p (.lst (L.map pH))),C,s];let A:LI:=List.replicate d 0++[1];have Q:vc A d=1:=by show vc (List.replicate d 0++[1]) d=1;rw[tZ,bR,aS (by lia),fF];rfl
  have X:Ob d (Pw d B) [] [([],A)]:=by
   refine⟨?_,λq J=>?_,λq J i E=>nomatch E⟩
   .have:([]:LI)∈flt 0 (Rz d []):=w9.mpr ⟨by simp[iT],λ_=>0,λi E=>nomatch E⟩;have l:=xj 0 (Rz d []);show [[]]=flt 0 (Rz d []);revert this l;generalize flt 0 (Rz d [])=f;intro this l;match f,this,l with
    |[a],h,_=>rw[aj.mp h]
    |_::_::_,_,l=>simp at l
   .rw[aj.mp J];refine⟨by simp[A],λx D=>?_,by rw[Q];decide⟩;have R:Bn 1 x:=by
     rcases ai.mp D with z|z
     .rw[List.eq_of_mem_replicate z];unfold Bn;decide
     .rw[aj.mp z];unfold Bn;decide
    exact R.mono (by lia)
  obtain⟨ρ',U,L,C,s,rfl,v⟩:=lg (m:=mJ 2 (iZ (mH 3) (iZ (mH 4) mK))) (g:=Ep c (kR c n)) (λp:LI×Nat=>T.tup [.int (p.2:Int),tI p.1])
   (λk K=>∃(L:List (LI×LI)) (C s:Option W),K=S L C s/\Ob d (Pw d B) (us.take k) L) us.zipIdx 0 (S [([],A)] none none) ⟨_,none,none,rfl,X⟩ (by
    rintro k ⟨u,j⟩ K r ⟨L,C,s,rfl,v⟩;rw[aH]at v ⊢;obtain⟨hku,rfl⟩:us[k]? = some u/\k=j:=by
     rw[List.getElem?_zipIdx]at r;cases D:us[k]? with
     |none=>rw[D]at r;cases r
     |some z=>rw[D]at r;simp at r;exact⟨by rw[r.1],r.2⟩
    have Z:=(aa.mp hku).1;obtain⟨P,eL,F,-⟩:=Pz (c:=c) p2 n2 (by lia) n1 Y (us:=us.take k) (λw hw=>hus w (eQ hw)) (by simp;lia) (hus u (au hku)) (kR c n) (λb h o h1 h2=>n3 b h o (by rw[h1];simp;lia) h2) v;refine⟨_,S P (some (.p (.int (k:Int)))) (some (.p (tI u))),rfl,.inl (ig (i5 (Kl rfl (z9 (d:=k) (ts:=us.map tI) rfl rfl) rfl (by rw[<-dF];exact eL))) rfl),P,_,_,rfl,by rw[jJ us k u hku];exact F⟩)
  rw[aH,gx,eK]at v;refine⟨L,iQ rfl (gW (ρ':=S [([],A)] none none) (ig (i5 (QA (yc (by simp;rfl) (gX (x:=tI (List.replicate d 0)) (y:=tI [1]) (Vv d (by lia) rfl) (K8 rfl) (sV _ _ (by simp;lia)))))) rfl) (gW (lz ((qe rfl).trans (by rw[A1])) U) (iA rfl))),v⟩
def Hr(d:Nat)(X:Nat->Rat)(e:Rat)(Y:Nat->Rat)(x:Vc):mM d (λi=>X i+e*Y i) x=mM d X x+e*pL d (λp=>(x p:Rat)*Y p):=by
 unfold mM;have:pL d (λp=>(x p:Rat)*(X p+e*Y p))=1*pL d (λp=>(x p:Rat)*X p)+e*pL d (λp=>(x p:Rat)*Y p):=by rw[<-se];exact kK _ _ _ λi _=>by grind
 rw[this];grind
def UD(A B:Rat)(g:0<A):∃a:Rat,0<a/\∀e:Rat,(-a<=e/\e<=a)->0<A+e*B:=by
 obtain⟨b,hb0,hb1,hb2⟩:∃b:Rat,0<=b/\B<=b/\-B<=b:=by
  by_cases h:0<=B
  .exact⟨B,h,Rat.le_refl,by grind⟩
  .exact⟨-B,by grind,by grind,Rat.le_refl⟩
 have k:(0:Rat)<b+1:=by grind
 have i:b+1≠0:=λz=>by grind
 let a:Rat:=A*(b+1)⁻¹;have m:a*(b+1)=A:=by show A*(b+1)⁻¹*(b+1)=A;rw[Rat.mul_assoc,Rat.inv_mul_cancel _ i,Rat.mul_one]
 have d:0<a:=aP λq=>by have:=gy (Rat.not_lt.mp q) (fg k);rw[m,Rat.zero_mul]at this;exact absurd g (Rat.not_lt.mpr this)
 refine⟨a,d,λe f=>?_⟩;have p:a*b<A:=by
  have:a*(b+1)=a*b+a:=by grind
  grind
 by_cases h:0<=B
 .have l:=gy f.1 h;have j:=gz hb1 (fg d);have:-a*B = -(a*B):=by grind
  grind
 .have l:=gy f.2 (show 0<=-B by grind);have j:=gz hb2 (fg d);have o:e * -B = -(e*B):=by grind
  have n:a * -B = -(a*B):=by grind
  grind
def WK{d:Nat}{s:LI}{X Y:Nat->Rat}:∀(n:Nat) (us:LL),us.length=n->On d us s X->∃b:Rat,0<b/\∀e:Rat,(-b<=e/\e<=b)->∀i,i<n->0<(vc s i:Rat)*mM d (λi=>X i+e*Y i) (vc (us.getD i [])):=by
 intro n us q h;subst q;have main:∀k,k<=us.length->∃b:Rat,0<b/\∀e:Rat,(-b<=e/\e<=b)->∀i,i<k->0<(vc s i:Rat)*mM d (λi=>X i+e*Y i) (vc (us.getD i [])):=by
  intro k;induction k with
  |zero=>exact λ_=>⟨1,by decide,λ_ _ i g=>absurd g (dH _)⟩
  |succ k ih=>
   intro x;obtain⟨b,v,m⟩:=ih (by lia);have j:=h k (by lia);generalize u:(vc s k:Rat)*mM d X (vc (us.getD k []))=A at j;generalize r:(vc s k:Rat)*pL d (λp=>(vc (us.getD k []) p:Rat)*Y p)=B;obtain⟨a,hδ',hh'⟩:∃a:Rat,0<a/\∀e:Rat,(-a<=e/\e<=a)->0<A+e*B:=UD A B j;refine⟨if b<=a then b else a,by split<;>assumption,λe l i g=>?_⟩;have w:-b<=e/\e<=b:=by split at l<;>grind
   have o:-a<=e/\e<=a:=by split at l<;>grind
   by_cases f:i=k
   .subst f;rw[Hr];have:=hh' e o;rw[<-u,<-r]at this;grind
   .exact m e w i (by lia)
 exact main us.length (aL _)
theorem G2:∀(d:Nat) (f:Nat->Int),pL d (λi=>((f i:Int):Rat))=((sm d f:Int):Rat)
 |0,_=>rfl
 |n+1,f=>by unfold pL sm;rw[G2 n λi=>f (i+1),Rat.intCast_add]
section
variable {d:Nat}{us:LL}{u s:LI}
def U6{p:Nat}(l:p<d)(e:vc u p≠0)(f:s.length=us.length)(h:Rx d us u s){v:Int}(hv:v=1\/v = -1):Rz d (us++[u]) (s++[v]):=by
 obtain⟨X,o,on⟩:=h;obtain⟨a,b,n⟩:=WK (Y:=λi=>(vc u i:Rat)) us.length us rfl on;have q:0<sm d (λi=>vc u i*vc u i):=(Lo d (vc u)).2 ⟨p,l,e⟩;have Q:pL d (λi=>(vc u i:Rat)*(vc u i:Rat))=((sm d (λi=>vc u i*vc u i):Int):Rat):=by rw[<-G2];exact kK _ _ _ λi _=>by rw[fw]
 have k:=FZ q;have m:=fB b k;refine⟨λi=>X i+((v:Rat)*a)*(vc u i:Rat),(nO f v _).mpr ⟨λi g=>n _ ?_ i g,?_⟩⟩
 .rcases hv with rfl|rfl
  .have:((1:Int):Rat)*a=a:=by show (1:Rat)*a=a;exact gA a
   rw[this];constructor<;>grind
  .have:((-1:Int):Rat)*a = -a:=by show (-1:Rat)*a = -a;grind
   rw[this];constructor<;>grind
 .rw[Hr,o,Q];have j:(v:Rat)*(v:Rat)=1:=by
   have hw:v*v=1:=by rcases hv with rfl|rfl<;>rfl
   exact_mod_cast hw
  have:(v:Rat)*(0+(v:Rat)*a*((sm d (λi=>vc u i*vc u i):Int):Rat))=((v:Rat)*(v:Rat))*(a*((sm d (λi=>vc u i*vc u i):Int):Rat)):=by grind
  rw[this,j,gA];exact m
theorem Ee{b f:Type}{F:b->List f}{R:b->Bool}:∀(l:List b),(∀s∈l,(F s).length=1+if R s then 1 else 0)->(l.flatMap F).length=l.length+(l.filter R).length
 |[],_=>rfl
 |a::l,h=>by
  rw[gd,aU,Ee l λs e=>h s (by simp[e]),h a (by simp),fY,aA];cases R a
  .simp only[cy,if_false];lia
  .simp only[if_true,aA];lia
def Sb(r:∀s:LI,s.length=us.length->Rx d us u s->∀v:Int,v=1\/v = -1->Rz d (us++[u]) (s++[v]))(k:∀s,s.length=us.length->Rz d us s->Rx d us u s\/∃X,On d us s X/\mM d X (vc u)≠0) :
  (flt (us.length+1) (Rz d (us++[u]))).length=(flt us.length (Rz d us)).length+(flt us.length (Rx d us u)).length:=by
 have x:=C6 (n:=us.length) (p:=Rz d us) (q:=Rz d (us++[u])) λs f h v ⟨X,hX⟩=>h ⟨X,((nO (qd f).1 v X).mp hX).1⟩;rw[x,Ee (R:=λs=>Hu (Rx d us u s))]
 .congr 1;unfold flt;rw[gw];congr 1;refine fK λs _=>?_;by_cases h:Rx d us u s
  .obtain⟨X,_,on⟩:=id h;rw[wW h,wW (show Rz d us s from ⟨X,on⟩)];rfl
  .rw[EJ h];rfl
 .intro s f;obtain⟨hr,w⟩:=w9.mp f;have e:=(qd hr).1;by_cases h:Rx d us u s
  .rw[aR (wW h),gh (by simpa using r s e h (-1) (.inr rfl)),gh (by simpa using r s e h 1 (.inl rfl))];rfl
  .rw[aS (by rw[EJ h];decide)];obtain⟨X,on,ne⟩:=(k s e w).resolve_left h;rcases Rat.le_total (a:=0) (b:=mM d X (vc u)) with q|q
   .have m:0<mM d X (vc u):=by grind
    have l:Rz d (us++[u]) (s++[1]):=⟨X,(nO e 1 X).mpr ⟨on,by show 0<(1:Rat)*_;rw[gA];exact m⟩⟩;have o:¬Rz d (us++[u]) (s++[-1]):=λ⟨Y,hY⟩=>by obtain⟨i,j⟩:=(nO e (-1) Y).mp hY;have g:0<(-1:Rat)*mM d Y (vc u):=j;exact h (GR on i q (by grind))
    rw[gq (by simpa using o),gh (by simpa using l)];rfl
   .have neg:mM d X (vc u)<0:=by grind
    have l:Rz d (us++[u]) (s++[-1]):=⟨X,(nO e (-1) X).mpr ⟨on,by show 0<(-1:Rat)*_;grind⟩⟩;have o:¬Rz d (us++[u]) (s++[1]):=λ⟨Y,hY⟩=>by obtain⟨i,j⟩:=(nO e 1 Y).mp hY;have g:0<(1:Rat)*mM d Y (vc u):=j;exact h (GR i on (by grind) q)
    rw[gh (by simpa using l),gq (by simpa using o)];rfl
end
def Gn(d:Nat):pT d []=1:=by
 obtain⟨r,hr,k⟩:=qE 0 (d+1) [] rfl;have a:¬mE d []:=λh=>by have:=h (λ_=>1) λr hr=>nomatch hr;exact absurd this (by decide)
 rw[oI a k,aR (by simp;lia)]
def IV{g:Type}{d:Nat}(l:List g)(a b:g->Vc)(h:∀w∈l,∃k:Int,k≠0/\∀i,a w i=k*b w i):mn d (l.map a)=mn d (l.map b):=by
 unfold mn;rw[<-m9,<-m9];refine iM λB m=>yj (by simp) λv=>?_;have f:∀w∈B,(jD (d+1) (a w) v=0↔jD (d+1) (b w) v=0):=λw hw=>by
  obtain⟨k,j,e⟩:=h w (m.subset hw);have:jD (d+1) (a w) v=k*jD (d+1) (b w) v:=by unfold jD;rw[<-kC];exact iB _ _ _ λi _=>by rw[e i,dy]
  rw[this];exact⟨λz=>(eF.mp z).resolve_left j,λz=>by rw[z,eE]⟩
 constructor
 .intro q r hr;obtain⟨w,hw,rfl⟩:=aE.mp hr;exact (f w hw).mp (q _ (aE.mpr ⟨w,hw,rfl⟩))
 .intro q r hr;obtain⟨w,hw,rfl⟩:=aE.mp hr;exact (f w hw).mpr (q _ (aE.mpr ⟨w,hw,rfl⟩))
def Gv(m:Nat)(u:LI)(p:Nat)(w:LI):LI:=(List.range m).map λi=>((vc u p).natAbs:Int)*vc w i-kX (vc u p)*vc w p*vc u i
def Km{m p:Nat}{u w:LI}(b:u.length=m)(hw:w.length=m)(i:Nat):vc (Gv m u p w) i=((vc u p).natAbs:Int)*vc w i-kX (vc u p)*vc w p*vc u i:=by
 by_cases a:i<m
 .rw[jo _ i (by simp[Gv];exact a)];simp[Gv]
 .rw[jg _ i (by simp[Gv];lia),jg w i (by lia),jg u i (by lia)];lia
theorem OD:∀(n d:Nat) (us:LL),us.length=n->(∀u∈us,u.length=d+1)->((flt us.length (Rz d us)).length:Int)=mn d (us.reverse.map vc)
 |0,d,us,hn,_=>by
  have:us=[]:=fj.mp hn;subst this;show ((flt 0 (Rz d [])).length:Int)=pT d [];have:flt 0 (Rz d [])=[[]]:=by unfold flt;have z:Rz d [] []:=⟨λ_=>0,λi b=>absurd b (dH _)⟩;show [[]].filter _=[[]];rw[gh (by simpa using z)];rfl
  rw[this,Gn];rfl
 |n+1,d,us,hn,hl=>by
  rcases fq us with rfl|⟨a,u,I⟩
  .cases hn
  rw[fu]at I;subst I;have k:a.length=n:=by simpa using hn
  have f:∀w∈a,w.length=d+1:=λw hw=>hl w (by simp[hw]);have D:u.length=d+1:=hl u (by simp);have H:=OD n d a k f;rw[gB,gC,f9,bH,aU,cf];by_cases C:∃i,i<d+1/\vc u i≠0
  .by_cases y:∃p,p<d/\vc u p≠0
   .obtain⟨p,P,o⟩:=y;obtain⟨e,rfl⟩:∃e,d=e+1:=⟨d-1,by lia⟩;have A:=Sb (d:=e+1) (us:=a) (u:=u) (λs g h v hv=>U6 P o g h hv) λs g ⟨X,on⟩=>by
     by_cases q:mM (e+1) X (vc u)=0
     .exact .inl ⟨X,q,on⟩
     .exact .inr ⟨X,on,q⟩
    have N:=AX (d:=e) (us:=a) (u:=u) (p:=p) (by lia) o (Gv (e+2) u p) λw hw=>by have vw:=Km (m:=e+2) (p:=p) D (f w hw);refine⟨?_,by simp[Gv];lia,1,((vc u p).natAbs:Int),-(kX (vc u p)*vc w p),by decide,by lia,λi=>by rw[vw i];grind⟩;rw[vw p,<-oN];grind
    have L:flt a.length (Rx (e+1) a u)=flt (a.map λw=>wo (Gv (e+2) u p w) p).length (Rz e (a.map λw=>wo (Gv (e+2) u p w) p)):=by rw[ax];exact AD λs _=>(N s).symm
    have r:=OD n e (a.map λw=>wo (Gv (e+2) u p w) p) (by simpa using k) λw hw=>by obtain⟨x,Q,rfl⟩:=aE.mp hw;have:=BX (row:=Gv (e+2) u p x) (p:=p) (by simp[Gv];lia);simp[Gv]at this ⊢;lia
    rw[A,L,Int.natCast_add,H,r,vZ (d:=e) (p:=p) (by lia) o];congr 1;rw[<-List.map_reverse,aJ,aJ];refine IV a.reverse _ _ λw hw=>⟨kX (vc u p),?_,λi=>?_⟩
    .intro z;have:=oN (vc u p);rw[z,d9]at this;lia
    .have K:=f w (gE.mp hw);show vc (wo (Gv (e+2) u p w) p) i=kX (vc u p)*tN (vc u) p (vc w) i;rw[C0 (by simp[Gv];lia),Km D K,<-oN];unfold tN;grind
   .have j:vc u d≠0:=by
     obtain⟨i,b,h⟩:=C;by_cases lF:i=d
     .rw[<-lF];exact h
     .exact absurd ⟨i,by lia,h⟩ y
    have F:∀i,i<d->vc u i=0:=λi b=>aP λz=>y ⟨i,b,z⟩;have E:∀X,mM d X (vc u) = -(vc u d:Rat):=λX=>by unfold mM;rw[kK d _ (λ_=>0) λi b=>by rw[F i b];grind,ui];grind
    have J:(vc u d:Rat)≠0:=λz=>j (by exact_mod_cast z);have B:∀s,¬Rx d a u s:=λs ⟨X,q,_⟩=>by rw[E]at q;exact J (by grind)
    have A:=Sb (d:=d) (us:=a) (u:=u) (λs _ h=>absurd h (B s)) λs g ⟨X,on⟩=>.inr ⟨X,on,by rw[E];grind⟩;rw[A,yd B,cO,eX,H,B0 F j]
  .have l:∀i,vc u i=0:=λi=>by
    by_cases b:i<d+1
    .exact aP λz=>C ⟨i,b,z⟩
    .exact jg u i (by lia)
   have no:∀s∈iT (a.length+1),¬Rz d (a++[u]) s:=λs g ⟨X,on⟩=>by
    have:=on a.length (by simp);rw[pS,aS (by lia),aR rfl]at this;have e:mM d X (vc u)=0:=by unfold mM;rw[kK d _ (λ_=>0) λi b=>by rw[l i];grind,ui,l d];grind
    rw[e]at this;grind
   have:flt (a.length+1) (Rz d (a++[u]))=[]:=by unfold flt;exact fL.mpr λs g=>by simpa using no s g
   rw[this,II (u:=vc u) (λi _=>l i) _ (by simp)];rfl
def Ap{d:Type}{l b:List d}(h:l.Perm b):∀{f:List d->Int},(∀B B',B.Perm B'->f B=f B')->iU l f=iU b f:=by
 induction h with
 |nil=>exact λ_=>rfl
 |cons x _ ih=>intro f a;unfold iU;rw[ih a,ih (f:=λB=>f (x::B)) λB B' e=>a _ _ (e.cons x)]
 |swap x y l=>intro f a;show (iU l f+iU l λB=>f (x::B))+(iU l (λB=>f (y::B))+iU l λB=>f (y::x::B))=(iU l f+iU l λB=>f (y::B))+(iU l (λB=>f (x::B))+iU l λB=>f (x::y::B));rw[iM (f:=λB=>f (y::x::B)) (g:=λB=>f (x::y::B)) λB _=>a _ _ (List.Perm.swap x y B)];lia
 |trans _ _ ih1 ih2=>intro f a;rw[ih1 a,ih2 a]
def G3{m:Nat}{B B':List Vc}(h:B.Perm B')(v:Vc):wJ m B v↔wJ m B' v:=⟨λq r hr=>q r (h.mem_iff.mpr hr),λq r hr=>q r (h.mem_iff.mp hr)⟩
def JY{a:Type}{B B':List a}(h:B.Perm B'):pO B=pO B':=by unfold pO;rw[h.length_eq]
def lh{d:Nat}{us a:List Vc}(h:us.Perm a):mn d us=mn d a:=Ap h λ_ _ b=>yj b.length_eq (G3 b)
def bD(d:Nat)(m:Int)(B:List Vc):Int:=@ite _ (¬mE d B/\∃r:Nat,CA (d+1) B r/\(r:Int)=(d:Int)-m) (Classical.propDecidable _) 1 0
def yT{d:Nat}{B B':List Vc}(e:∀v,wJ (d+1) B v↔wJ (d+1) B' v):mE d B↔mE d B':=⟨λq v hv=>q v ((e v).mpr hv),λq v hv=>q v ((e v).mp hv)⟩
def Bd{m r:Nat}{B B':List Vc}(e:∀v,wJ m B v↔wJ m B' v)(k:CA m B r):CA m B' r:=by obtain⟨d,T,b,a⟩:=k;exact⟨d,T,b,λv=>(e v).symm.trans (a v)⟩
def GO{d:Nat}{m:Int}{B B':List Vc}(e:∀v,wJ (d+1) B v↔wJ (d+1) B' v):bD d m B=bD d m B':=by
 unfold bD;have:(¬mE d B/\∃r:Nat,CA (d+1) B r/\(r:Int)=(d:Int)-m)↔(¬mE d B'/\∃r:Nat,CA (d+1) B' r/\(r:Int)=(d:Int)-m):=by rw[yT e];exact and_congr_right λ_=>⟨λ⟨r,k,h⟩=>⟨r,Bd e k,h⟩,λ⟨r,k,h⟩=>⟨r,Bd (λv=>(e v).symm) k,h⟩⟩
 by_cases h:¬mE d B/\∃r:Nat,CA (d+1) B r/\(r:Int)=(d:Int)-m
 .rw[aR h,aR (this.mp h)]
 .rw[aS h,aS λz=>h (this.mpr z)]
def J4{d r:Nat}{m:Int}{B:List Vc}(h:¬mE d B)(k:CA (d+1) B r):bD d m B=if (r:Int)=(d:Int)-m then 1 else 0:=by
 unfold bD;by_cases e:(r:Int)=(d:Int)-m
 .rw[aR e,aR ⟨h,r,k,e⟩]
 .rw[aS e,aS];rintro⟨_,f,a,b⟩;rw[k.uniq a λ_=>Iff.rfl]at e;exact e b
def BI{d:Nat}{m:Int}{B:List Vc}(h:mE d B):bD d m B=0:=by unfold bD;rw[aS λz=>z.1 h]
def OU{d p:Nat}{m:Int}{u:Vc}(b:p<=d)(a:u p≠0)(B:List Vc):bD (d+1) m (u::B)=bD d m (B.map (tN u p)):=by
 by_cases h:mE d (B.map (tN u p))
 .rw[BI h,BI ((vg b a B).mpr h)]
 .obtain⟨r,_,k⟩:=qE _ (d+1) (B.map (tN u p)) rfl;rw[J4 h k,J4 (λz=>h ((vg b a B).mp z)) (Br (d:=d+1) (by lia) a k)];by_cases e:(r:Int)=(d:Int)-m
  .rw[aR e,aR (by lia)]
  .rw[aS e,aS (by lia)]
def wD(d:Nat)(m:Int)(us:List Vc):Int:=iU us λB=>bD d m B*pO B
def ql{d:Nat}{m:Int}{us a:List Vc}(h:us.Perm a):wD d m us=wD d m a:=Ap h λ_ _ b=>by rw[GO (G3 b),JY b]
def N9{d p:Nat}{m:Int}{u:Vc}(b:p<=d)(a:u p≠0)(us:List Vc):wD (d+1) m (u::us)=wD (d+1) m us-wD d m (us.map (tN u p)):=by
 show iU us (λB=>bD (d+1) m B*pO B)+iU us (λB=>bD (d+1) m (u::B)*pO (u::B))=_;have:iU us (λB=>bD (d+1) m (u::B)*pO (u::B))=iU us (λB=>(-1)*(bD d m (B.map (tN u p))*pO (B.map (tN u p)))):=iM λB _=>by
  have e:pO (B.map (tN u p))=pO B:=by unfold pO;rw[ax]
  rw[OU b a,rD,e];lia
 rw[this,nh,m9 (tN u p) us λB=>bD d m B*pO B];unfold wD;lia
def S8{d:Nat}{u:Vc}(h:∀i,i<d->u i=0)(a:u d≠0)(B:List Vc):mE d (u::B):=λv hv=>by
 have:=hv u (by simp);unfold jD at this;have e:sm (d+1) (λi=>u i*v i)=u d*v d:=by rw[qr,(iB _ _ (λ_=>0) λi b=>by rw[h i b,d9]),lB];lia
 rw[e]at this;rcases eF.mp this with z|z
 .exact absurd z a
 .exact z
def U3{d:Nat}{m:Int}{u:Vc}(h:∀i,i<d->u i=0)(a:u d≠0)(us:List Vc):wD d m (u::us)=wD d m us:=by show iU us (λB=>bD d m B*pO B)+iU us (λB=>bD d m (u::B)*pO (u::B))=_;rw[iM (f:=λB=>bD d m (u::B)*pO (u::B)) (g:=λ_=>0) λB _=>by rw[BI (S8 h a B),d9],md];exact ee _
def C7{x y:Vc}{m:Nat}{k l:Int}(a:k≠0)(e:∀i,l*y i=k*x i)(B:List Vc)(v:Vc):wJ m (y::x::B) v↔wJ m (y::B) v:=by
 have l:l*jD m y v=k*jD m x v:=by unfold jD;rw[<-kC,<-kC];exact iB _ _ _ λi _=>by rw[<-dy,e i,dy]
 constructor
 .intro q r hr;exact q r (by rcases aG.mp hr with z|z<;>simp[z])
 .intro q r hr;rcases aG.mp hr with rfl|hr
  .exact q _ (by simp)
  .rcases aG.mp hr with rfl|hr
   .have:=q y (by simp);rw[this,eE]at l;exact (eF.mp l.symm).resolve_left a
   .exact q r (by simp[hr])
def SD{d:Nat}{m:Int}{x y:Vc}{k l:Int}(b:k≠0)(e:∀i,l*y i=k*x i){us:List Vc}(g:x∈us):wD d m (y::us)=wD d m us:=by
 obtain⟨A,C,rfl⟩:=fX g;have a:(y::(A++x::C)).Perm (y::x::(A++C)):=(gG).cons y;have f:(A++x::C).Perm (x::(A++C)):=gG;rw[ql a,ql f];show iU (x::(A++C)) (λB=>bD d m B*pO B)+(iU (A++C) (λB=>bD d m (y::B)*pO (y::B))+iU (A++C) λB=>bD d m (y::x::B)*pO (y::x::B))=_;have:iU (A++C) (λB=>bD d m (y::x::B)*pO (y::x::B))=iU (A++C) (λB=>(-1)*(bD d m (y::B)*pO (y::B))):=iM λB _=>by rw[GO (C7 b e B),rD,rD,rD];lia
 rw[this,nh];unfold wD;lia
def Nf{d:Nat}{x y:Vc}{k l:Int}(h:k≠0)(e:∀i,l*y i=k*x i){us:List Vc}(f:x∈us):mn d (y::us)=mn d us:=by
 obtain⟨A,C,rfl⟩:=fX f;have g:(y::(A++x::C)).Perm (y::x::(A++C)):=(gG).cons y;have j:(A++x::C).Perm (x::(A++C)):=gG;rw[lh g,lh j];show iU (x::(A++C)) (pT d)+(iU (A++C) (λB=>pT d (y::B))+iU (A++C) λB=>pT d (y::x::B))=_;have:iU (A++C) (λB=>pT d (y::x::B))=iU (A++C) (λB=>(-1)*pT d (y::B)):=iM λB _=>by
  have a:=C7 (m:=d+1) h e B;by_cases z:mE d (y::B)
  .rw[mZ z,mZ ((yT a).mpr z)];rfl
  .obtain⟨r,_,b⟩:=qE _ (d+1) (y::B) rfl;rw[oI z b,oI (λq=>z ((yT a).mp q)) (Bd (λv=>(a v).symm) b),aA,aA,aA];by_cases q:(B.length+1+r) % 2=0
   .rw[aR q,aS (by lia)];rfl
   .rw[aS q,aR (by lia)];rfl
 rw[this,nh];unfold mn;lia
section
variable {d:Nat}{cs:LL}
def Sk(V:Vz d cs)(b:cs.length<=6)(m:Int):Uk d cs m=wD d m (cs.map vc):=by
 unfold Uk wD;rw[<-rB,<-m9];refine iM λB f=>?_;have ok:=xu b f;have j:pO (B.map λz=>vc (cs.getD z []))=pO B:=by unfold pO;rw[ax]
 rw[j];show _=bD d m (BP cs B)*pO B;cases e:FL d cs B with
 |none=>
  rw[aS (λz=>nomatch z)];have a:=CT V ok e;have l:mE d (BP cs B):=aP λz=>by obtain⟨r,_,k⟩:=qE _ (d+1) (BP cs B) rfl;rw[oI z k]at a;split at a<;>cases a
  rw[BI l,d9]
 |some g=>
  obtain⟨k,i,n⟩:=Vh V ok e;rw[J4 i k];by_cases h:g.1=m
  .rw[aR (by simp[h]),aR (by lia),d8]
  .rw[aS (by simp[h]),aS (by lia),d9]
end
def Wc(x:Vc):Prop:=∀g:Int,(∀i,g ∣ x i)->(∃i,x i≠0)->g.natAbs=1
def JU{row:LI}{g:Int}:(∀i,g ∣ vc row i)↔∀x∈row,g ∣ x:=by
 constructor
 .intro h x b;obtain⟨i,a,rfl⟩:=gH.mp b;rw[<-jo row i a];exact h i
 .intro h i;by_cases a:i<row.length
  .rw[jo row i a];exact h _ (aW a)
  .rw[jg row i (by lia)];exact Int.dvd_zero _
def U1{row:LI}(h:∃i,vc row i≠0):∃x∈row,x≠0:=by
 obtain⟨i,a⟩:=h;by_cases b:i<row.length
 .exact⟨row[i],aW b,by rw[<-jo row i b];exact a⟩
 .exact absurd (jg row i (by lia)) a
def SI{row:LI}{a:Int}(d:a≠0)(l:∀x∈row,a ∣ x)(o:∀e:Int,(∀x∈row,e ∣ x)->e ∣ a):(∀i,vc row i=a*vc (row.map λx=>x.fdiv a) i)/\Wc (vc (row.map λx=>x.fdiv a)):=by
 have e:∀i,vc row i=a*vc (row.map λx=>x.fdiv a) i:=λi=>by
  by_cases b:i<row.length
  .rw[jo row i b,jo _ i (by simpa using b),eM];obtain⟨q,j⟩:=l _ (aW b);rw[j,d6 q d]
  .rw[jg row i (by lia),jg _ i (by simp;lia),eE]
 refine⟨e,λg m p=>?_⟩;have:a*g ∣ a:=o _ (JU.mp λi=>by rw[e i];exact Int.mul_dvd_mul_left a (m i));obtain⟨k,h⟩:=this;rw[dy]at h;have:g*k=1:=by
  have n:a*1=a*(g*k):=by rw[Int.mul_one];exact h
  exact (Int.eq_of_mul_eq_mul_left d n).symm
 have f:=congrArg Int.natAbs this;rw[aZ]at f;exact gI f
def Iv N (J:N<=8000) row (R:row.length<1000) (v:∀x∈row,Bn N x):∃g u,0<g/\kZ c [tI row]=.ok (tI u)/\u.length=row.length/\(∀i,vc row i=g*vc u i)/\Wc (vc u)/\∀y∈u,Bn N y:=by
 have sz:1000<sizeLine:=by decide
 have main:=vb (m:=mH 2) (g:=vt c) T.int
  (λk C=>∃(a:Int) (A:Option W),C=[some (.p (tI row)),some (.p (.int a)),A]/\0<=a/\Bn N a/\(∀x∈row.take k,a ∣ x)/\∀e:Int,(∀x∈row.take k,e ∣ x)->e ∣ a)
  (λt=>t=tI row/\Wc (vc row)) row 0 _ ⟨0,none,rfl,by decide,uA,(λx d=>by simp at d),λe _=>Int.dvd_zero e⟩ (by
   rintro i x C w ⟨a,A,rfl,Q,o,f,n⟩;rw[aH]at f n ⊢;have r:=au w;refine⟨_,rfl,?_⟩;have D:setO 1 (kn (hW (gO (gP 1) (gO (gP 2) gR)) (jA c))) [some (.p (tI row)),some (.p (.int a)),some (.p (.int x))]=.nx [some (.p (tI row)),some (.p (.int (Cu.G a x))),some (.p (.int x))]:=ig (jI rfl rfl (oX a x)) rfl;by_cases h:Cu.G a x=1
   .right;refine⟨_,gW D (jO (iH (gX rfl rfl (by rw[iO,h];rfl))) (iA rfl)),rfl,λg P _=>?_⟩;have s:=JU.mp P;have:g ∣ Cu.G a x:=Int.dvd_coe_gcd (n g λz j=>s z (eQ j)) (s x r);rw[h]at this;obtain⟨k,F⟩:=this;have o:=congrArg Int.natAbs F;rw[aZ]at o;exact gI o.symm
   .left;refine⟨_,gW D (jV (iH (gX rfl rfl (by rw[iO];simp[h]))) rfl),_,_,rfl,Cu.qN _ _,?_,λz j=>?_,λe B=>?_⟩
    .by_cases b:x=0
     .rw[b,Cu.Gi];exact cu (by lia) o
     .have U:=Cu.Up a x b;have S:=Cu.qN a x;exact cu (by lia) (v x r)
    .rw[jJ row i x w]at j;rcases ai.mp j with q|q
     .exact Int.dvd_trans (Cu.zi a x) (f z q)
     .rw[aj.mp q];exact Cu.qX a x
    .rw[jJ row i x w]at B;exact Int.dvd_coe_gcd (n e λz j=>B z (by simp[j])) (B x (by simp)))
 rcases main with⟨I,e,a,A,rfl,Q,o,f,n⟩|⟨t,e,rfl,H⟩
 .rw[aH,eK]at f n;by_cases l:a=0
  .refine⟨1,row,by decide,iQ rfl (gW (ig rfl rfl) (gW (lz rfl e) (l5 (jO (iH (gX rfl rfl (by rw[iO,l];rfl))) (iA rfl)) rfl))),rfl,λi=>by rw[d8],λg _ K=>?_,v⟩;obtain⟨x,d,b⟩:=U1 K;have:=f x d;rw[l]at this;exact absurd (Int.zero_dvd.mp this) b
  .have E:=SI l f n;refine⟨a,row.map (λx=>x.fdiv a),by lia,iQ rfl (gW (ig rfl rfl) (gW (lz rfl e) (gW (jV (iH (gX rfl rfl (by rw[iO];simp[l]))) rfl) (iA ?_)))),by simp,E.1,E.2,λy L=>?_⟩
   .exact mG (i5 (jZ row T.int (λx=>T.int (x.fdiv a)) rfl (by lia) (λx d=>⟨_,rfl,rfl,gX rfl rfl (qT l (o.noPy J))⟩) (by rw[aJ];rfl))) rfl
   .obtain⟨x,d,rfl⟩:=aE.mp L;exact cu (Hi (f x d) l) (v x d)
 .exact⟨1,row,by decide,iQ rfl (gW (ig rfl rfl) (l5 (lz rfl e) rfl)),rfl,λi=>by rw[d8],H,v⟩
def Wv(cut a:LI)(p:Nat):Vc:=λi=>((vc cut p).natAbs:Int)*vc a i-kX (vc cut p)*vc a p*vc cut i
structure Iw(cut other:LI)(p:Nat)(ys:LI):Prop where
 len:ys.length+1=other.length
 pr:Wc (vc ys)
 ex:∃a b:Int,0<a/\0<b/\∀i,a*vc ys i=b*Wv cut other p (sk p i)
def Sl{P:Nat->Prop}:∀n,P n->∃m,m<=n/\P m/\∀k,k<m->¬P k:=by
 intro n;induction n using Nat.strongRecOn with
 |ind n ih=>
  intro h;by_cases z:∃k,k<n/\P k
  .obtain⟨k,a,b⟩:=z;obtain⟨m,d,r⟩:=ih k a b;exact⟨m,by lia,r⟩
  .exact⟨n,aL _,h,λk a b=>z ⟨k,a,b⟩⟩
def HN a (o:a.length<=100) (q:Nat) (n:q<a.length) (h:vc a q≠0) (l:∀k,k<q->vc a k=0):jT c [tI a]=.ok (.int (q:Int)):=by
 obtain⟨b,e,rfl⟩:=qm (c:=jL (ik (iY false) (ik kW (gP 0) (gP 1)) (cM (.int 0)))) (g:=oH c)
  (λb=>∃k:Nat,b=[some (.p (tI a)),some (.p (.int (k:Int)))]/\k<=q) (λb=>match b with|_::some (.p (.int j))::_=>q-j.toNat|_=>0)
  (λb=>b=[some (.p (tI a)),some (.p (.int (q:Int)))]) (by
   rintro b ⟨k,rfl,hk⟩;have i:kW (tI a) (.int (k:Int))=.ok (.int (vc a k)):=lu a k (by lia);by_cases d:vc a k=0
   .have m:k≠q:=λz=>h (by rw[<-z];exact d);refine .inr ⟨iH (gX (gX rfl rfl i) rfl (by rw[iO,d];rfl)),_,.inl (ig (gX rfl rfl (by rw[jb];simp)) rfl),⟨k+1,rfl,by lia⟩,?_⟩;show q-(((k+1:Nat):Int)).toNat<q-((k:Int)).toNat;lia
   .have f:k=q:=aP λz=>d (l k (by lia));exact .inl ⟨iH (gX (gX rfl rfl i) rfl (by rw[iO];simp[d])),by rw[f]⟩)
  ((a.map T.int).length+1) [some (.p (tI a)),some (.p (.int ((0:Nat):Int)))] ⟨0,rfl,by lia⟩ (by rw[ax];lia)
 exact iQ rfl (gW (ig rfl rfl) (gW e (iA rfl)))
def Of{cut d:LI}{p n:Nat}(hc:cut.length=n)(ho:d.length=n)(hn:n<=10)(hp:p<n)(Q:∀x∈cut,Bn 30 x)(K:∀x∈d,Bn 30 x)(h:vc cut p≠0)(J:∀k,k<p->vc cut k=0) :
  ∃f,mQ c [tI cut,tI d]=.ok (tI f)/\Iw cut d p f/\∀y∈f,Bn 61 y:=by
 have L:=HN (c:=c) cut (by lia) p (by lia) h J;obtain⟨r,A,Z,P,Y,g,s,b,w,E,e,o⟩:=uw (c:=c) 30 30 d cut p (by lia) (by lia) (by lia) (by decide) K Q h;have R:=mO (c:=c) r p (by lia) (by lia);have wl:=BX (row:=r) (p:=p) (by lia);obtain⟨C,f,u,S,yl,B,N,F⟩:=Iv (c:=c) 61 (by decide) (wo r p) (by lia) λx v=>P x (by
  unfold wo at v;rcases ai.mp v with q|q
  .exact eQ q
  .exact eR q)
 refine⟨f,iQ rfl (gW (ig (mN rfl L) rfl) (iA (mN (jI (nc rfl rfl rfl A) rfl R) S))),⟨by lia,N,?_⟩,F⟩;have j:∃a b:Int,0<a/\0<b/\∀i,a*vc r i=b*Wv cut d p i:=by
  by_cases z:vc d p=0
  .have l:b=0:=by
    have:=e p;rw[Y,z,eE,eE,eh]at this;rcases eF.mp this.symm with q|q
    .exact q
    .exact absurd q h
   refine⟨((vc cut p).natAbs:Int)*g,s,aY (by lia) w,E,λi=>?_⟩;unfold Wv;rw[z,dy,e i,l];grind
  .obtain⟨I,H⟩:=o z;refine⟨g,1,w,by decide,λi=>?_⟩;unfold Wv;rw[e i,I,H];grind
 obtain⟨a,X,U,m,D⟩:=j;refine⟨a*C,X,aY U u,m,λi=>?_⟩;rw[dy,<-B i,C0 (by lia),D]
def zC d B a b (I:d<=3) (N:B<=1000) (g:GC d B a) (l:GL d B b):kc c [tI a,tI b]=.ok (.bl (jW a b)):=by
 have sz:1000<sizeLine:=by decide
 cases m:jW a b with
 |false=>exact sI d B a b I N g l m
 |true=>
  have A:=g.gl.1;have L:=l.1;obtain⟨q,R,n⟩:=g.re;obtain⟨p,Q,o,C⟩:=rJ (c:=c) a (by lia) ⟨q,by lia,n⟩;have r:=lu b p (by lia);have P:=lu a p o;have E:lM [none,none,some 1,some 2,some 0] (nG (gO (gP 0) (gO (gP 1) gR))) (mT 2 (iN (km 0) (iN (km 1) mP))) (λ_=>.ok true) (pN c) (vw [some (.p (tI a)),some (.p (tI b)),some (.p (.int p))])=.ok (((a.zip b).map λx=>x.1*vc b p==x.2*vc a p).map T.bl):=jZ (a.zip b) (λx=>T.tup [.int x.1,.int x.2]) (λx=>T.bl (x.1*vc b p==x.2*vc a p)) (vM rfl rfl rfl rfl) (by rw[eT];lia) (λx h=>⟨_,rfl,rfl,by have s:=g.gl.2 _ (aX h).1;have J:=l.2 _ (aX h).2;have H:=l.2 _ (getD_mem b p (by lia));have w:=g.gl.2 _ (getD_mem a p o);exact gX (gX rfl (gX rfl rfl r) (ke (s.ok H (by lia) (by lia)))) (gX rfl (gX rfl rfl P) (ke (J.ok w (by lia) (by lia)))) (iO _ _)⟩) (by rw[aJ];rfl)
  refine iQ rfl (gW (ig (mN rfl Q) rfl) (iA (qh E ?_)));rw[rY];congr 2;have e:∀k j,k<a.length->j<k->vc a k*vc b j=vc a j*vc b k:=λk j D v=>by unfold jW at m;have:=cN.mp (cN.mp m k (aT.mpr D)) j (aT.mpr v);simpa using this
  refine cN.mpr λz u=>?_;obtain⟨x,h,rfl⟩:=aE.mp u;obtain⟨i,y,f⟩:=gH.mp h;rw[eT]at y;have F:x.1=vc a i:=by rw[<-f,List.getElem_zip,jo a i (by lia)]
  have K:x.2=vc b i:=by rw[<-f,List.getElem_zip,jo b i (by lia)]
  have:x.1*vc b p=x.2*vc a p:=by
   rw[F,K];rcases fO i p with q|q|q
   .have:=e p i o q;grind
   .rw[q];grind
   .have:=e i p (by lia) q;grind
  simp[this]
def Dg{f:Nat->Bool}{n i:Nat}(d:i<n)(h:f i=true)(a:∀k,k<i->f k=false):∃r,(List.range n).filter f=i::r:=by
 obtain⟨m,rfl⟩:∃m,n=i+(m+1):=⟨n-i-1,by lia⟩;rw[List.range_add,fU];have:(List.range i).filter f=[]:=fL.mpr λk b=>by rw[a k (aT.mp b)];decide
 rw[this,cI,bH,cj,fY,eX,aR h];exact⟨_,rfl⟩
def Es(a:LL)(one:LI):List Nat:=(List.range a.length).filter λi=>jW (a.getD i []) one
def Rl:List Nat->T
 |[]=>.non
 |i::_=>.int (i:Int)
def NA d B (a:LL) one (E:d<=3) (H:B<=1000) (J:a.length<=7) (I:∀s∈a,GC d B s) (D:GL d B one):j5 c [.lst (a.map tI),tI one]=.ok (Rl (Es a one)):=by
 let R (j n:Option W):En:=[some (.p (.lst (a.map tI))),some (.p (tI one)),j,n];have y:nv (a.map tI)=(a.zipIdx).map λq=>T.tup [.int (q.2:Int),tI q.1]:=by unfold nv;rw[dO,aJ];rfl
 have main:=vb (m:=mJ 2 (iZ (mH 2) (iZ (mH 3) mK))) (g:=qc c) (λ(q:LI×Nat)=>T.tup [.int (q.2:Int),tI q.1])
  (λk z=>(∃j n,z=R j n)/\∀i,i<k->jW (a.getD i []) one=false) (λt=>t=Rl (Es a one)) a.zipIdx 0 (R none none) ⟨⟨_,_,rfl⟩,λi h=>absurd h (dH _)⟩ (by
   rintro i q z A ⟨⟨j,n,rfl⟩,b⟩;rw[aH]at b ⊢;rw[List.getElem?_zipIdx]at A;obtain⟨s,v,rfl⟩:=cR.mp A;rw[aH];have w:i<a.length:=(aa.mp v).1;have l:a.getD i []=s:=by rw[af,v];rfl
   have o:=zC (c:=c) d B s one E H (I s (au v)) D;refine⟨_,rfl,?_⟩;cases u:jW s one with
   |true=>rw[u]at o;right;refine⟨_,jO (iH (jI rfl rfl o)) (iA rfl),?_⟩;obtain⟨r,hr⟩:=Dg (f:=λi=>jW (a.getD i []) one) w (by rw[l];exact u) b;unfold Es;rw[hr];rfl
   |false=>
    rw[u]at o;left;refine⟨_,jV (iH (jI rfl rfl o)) rfl,⟨_,_,rfl⟩,λk C=>?_⟩;by_cases x:k=i
    .rw[x,l];exact u
    .exact b k (by lia))
 rcases main with⟨F,e,⟨j,n,rfl⟩,b⟩|⟨t,e,rfl⟩
 .rw[aH,gx]at b;have:Es a one=[]:=fL.mpr λk C=>by rw[b k (aT.mp C)];decide
  rw[this];exact iQ rfl (gW (lz (by rw[qe (ts:=a.map tI) rfl,y]) e) (iA rfl))
 .exact iQ rfl (l5 (lz (by rw[qe (ts:=a.map tI) rfl,y]) e) rfl)
section
variable {α:Type}{m:T->En->Option En}{g:En->List (List T)->sj}{j:Nat}
theorem zW enc (P:Nat->En->List (List T)->Prop):∀(l:List α) (k:Nat) (ρ:En) (d:List (List T)),P k ρ d->
  (∀i a ρ d,l[i]? = some a->P (k+i) ρ d->∃p o f,m (enc a) ρ=some p/\p[j]? = some none/\(g p d=.nx o f\/g p d=.ct o f)/\P (k+i+1) o f)->∃ρ' n,qP m g j (l.map enc) ρ d=.nx ρ' n/\P (k+l.length) ρ' n
 |[],k,ρ,d,h,_=>⟨ρ,d,rfl,h⟩
 |a::l,k,ρ,d,h,st=>by
  obtain⟨p,o,f,r,x,q,u⟩:=st 0 a ρ d rfl h;obtain⟨ρ',n,e,v⟩:=zW enc P l (k+1) o f u λi b ρ d s w=>by have:=st (i+1) b ρ d (by simpa using s) (by rw[show k+(i+1)=k+1+i by lia];exact w);rw[show k+(i+1)+1=k+1+i+1 by lia]at this;exact this
  refine⟨ρ',n,?_,by rw[aA,show k+(l.length+1)=k+1+l.length by lia];exact v⟩;rw[bH];unfold qP;rw[r];dsimp only;rw[x];dsimp only;rcases q with q|q<;>rw[q]<;>exact e
variable {a b:En->List (List T)->sj}{ρ ρ':En}{tss tss':List (List T)}{r:sj}{fc:Pe->M Bool}{ga:En->O}
def rQ(h:a ρ tss=.nx ρ' tss')(d:b ρ' tss'=r):DU a b ρ tss=r:=by unfold DU;rw[h];exact d
def Bi(h:fc (vw ρ)=.ok true)(d:a ρ tss=r):NV fc a b ρ tss=r:=by unfold NV;rw[h];exact d
def Mx(h:fc (vw ρ)=.ok false)(d:b ρ tss=r):NV fc a b ρ tss=r:=by unfold NV;rw[h];exact d
def Cw(h:ga ρ=.nx ρ')(e:ρ'[j]? = some none):sH j ga ρ tss=.nx ρ' tss:=by unfold sH;rw[h];dsimp only;rw[e]
def P7{f:Pe->M (List T)}{us:List T}(h:f (lF ρ)=.ok us)(d:tss.length<sizeLine):Ay f ρ tss=.nx ρ (tss++[us]):=by unfold Ay;rw[h];dsimp only;rw[aR d]
def OK{d f:Pe->M T}{i:Nat}{ts:List T}{t:T}(n:d (lF ρ)=.ok (.int (i:Int)))(k:tss[i]? = some ts)(h:f (lF ρ)=.ok t)(o:ts.length<sizeLine):AE d f ρ tss=.nx ρ (tss.set i (ts++[t])):=by
 have l:i<tss.length:=(aa.mp k).1;have e:wL tss.length (i:Int)=some i:=by unfold wL;rw[aR (by lia),aR (by lia)];simp
 unfold AE;rw[n];dsimp only;rw[e];dsimp only;rw[k];dsimp only;rw[h];dsimp only;rw[aR o]
end
def Ld(D:Nat)(one:LI):Bool:=(one.take D).any (· != 0)
abbrev So:=LL×List (List Nat)
def oT(D:Nat)(S:So)(j:Nat)(one:LI):So:=if Ld D one then (match Es S.1 one with
 |[]=>(S.1++[one],S.2++[[j]])
 |i::_=>(S.1,S.2.set i (S.2.getD i []++[j]))) else S
def pG(D:Nat)(o:Nat->LI):Nat->So
 |0=>([],[])
 |k+1=>oT D (pG D o k) k (o k)
structure WH(D:Nat)(o:Nat->LI)(k:Nat)(S:So):Prop where
 gc:∀s∈S.1,GC D 61 s
 len:S.1.length<=k
 pw:S.1.Pairwise λa b=>jW a b=false
 whl:S.2.length=S.1.length
 wh:∀(i:Nat) s,S.1[i]? = some s->∃j0 r,S.2[i]? = some (j0::r)/\j0<k/\s=o j0/\(j0::r).length<=k
def Q7{D:Nat}{one:LI}(f:one.length=D+1)(b:∀x∈one,Bn 61 x)(h:Ld D one=true):GC D 61 one:=by refine⟨⟨f,b⟩,?_⟩;obtain⟨x,d,a⟩:=eV.mp h;obtain⟨i,e,rfl⟩:=gH.mp d;rw[bQ]at e;refine⟨i,by lia,?_⟩;rw[jo one i (by lia)];rw[fE]at a;simpa using a
def Mj{D:Nat}{o:Nat->LI}{k:Nat}{S:So}(h:WH D o k S)(y:(o k).length=D+1)(v:∀x∈o k,Bn 61 x):WH D o (k+1) (oT D S k (o k)):=by
 have m:∀(i:Nat) s,S.1[i]? = some s->∃g r,S.2[i]? = some (g::r)/\g<k+1/\s=o g/\(g::r).length<=k+1:=λi s e=>by obtain⟨g,r,a,b,d,f⟩:=h.wh i s e;exact⟨g,r,a,by lia,d,by lia⟩
 unfold oT;split
 .rename_i z;split
  .rename_i n;have no:∀s∈S.1,jW s (o k)=false:=λs p=>by obtain⟨i,j,rfl⟩:=gH.mp p;have:=fL.mp n i (aT.mpr j);rw[af,ag j]at this;simpa using this
   refine⟨λs p=>?_,by simp;have:=h.len;lia,eJ.mpr ⟨h.pw,by simp,λa n b v=>by rw[aj.mp v];exact no a n⟩,by simp[h.whl],λi s e=>?_⟩
   .rcases ai.mp p with q|q
    .exact h.gc s q
    .rw[aj.mp q];exact Q7 y v z
   .by_cases j:i<S.1.length
    .dsimp only at e ⊢;rw[List.getElem?_append_left j]at e;rw[List.getElem?_append_left (by rw[h.whl];exact j)];exact m i s e
    .have l:i<(S.1++[o k]).length:=(aa.mp e).1;rw[aU,cf]at l;have u:i=S.1.length:=by lia
     subst u;dsimp only at e ⊢;rw[List.getElem?_append_right (aL _),fF]at e;refine⟨k,[],?_,by lia,by simpa using e.symm,by simp⟩;rw[List.getElem?_append_right (by rw[h.whl];exact aL _),h.whl,fF];rfl
  .rename_i w A n;refine⟨h.gc,by have:=h.len;dsimp only;lia,h.pw,by dsimp only;rw[bV];exact h.whl,λi s e=>?_⟩;obtain⟨g,r,a,b,d,f⟩:=h.wh i s e;by_cases j:w=i
   .subst j;have l:w<S.2.length:=(aa.mp a).1;refine⟨g,r++[k],?_,by lia,d,by simp at f ⊢;lia⟩;dsimp only;rw[List.getElem?_set_self l,af,a];rfl
   .refine⟨g,r,?_,by lia,d,by lia⟩;dsimp only;rw[aq j];exact a
 .exact⟨h.gc,by have:=h.len;lia,h.pw,h.whl,m⟩
theorem Bc{D:Nat}{o:Nat->LI}{n:Nat}(b:∀k,k<n->(o k).length=D+1)(a:∀k,k<n->∀x∈o k,Bn 61 x):∀k,k<=n->WH D o k (pG D o k)
 |0,_=>⟨λ_ h=>(nomatch h),aL _,.nil,rfl,λi s e=>by simp[pG]at e⟩
 |k+1,h=>Mj (Bc b a k (by lia)) (b k (by lia)) (a k (by lia))
def nT(l:List Nat):List T:=l.map λ(k:Nat)=>T.int (k:Int)
def S6{D:Nat}{one:LI}(h:D<=3)(g:one.length=D+1):mB c [.int (D:Int),tI one]=.ok (.bl (Ld D one)):=by
 rw[AZ (c:=c) D (by lia) (tI one) rfl λi e=>by cases e;exact⟨by rw[ax];lia,λt d=>by obtain⟨y,-,rfl⟩:=aE.mp d;rfl⟩]
 congr 2;have a:(one.map T.int).length=D+1:=by simp[g]
 have b:(one.map T.int).all isInt=true:=cN.mpr λx f=>by obtain⟨y,-,rfl⟩:=aE.mp f;rfl
 show (decide ((one.map T.int).length=D+1)&&(one.map T.int).all isInt&&(match kj (one.map T.int) with|some ns=>(ns.take D).any (· != 0)|none=>false))=_;rw[aD a,b,wz];rfl
def QI{cut d:LI}{p D:Nat}(h:Iw cut cut p d):Ld D d=false:=by
 obtain⟨a,b,j,k,e⟩:=h.ex;have z:∀i,vc d i=0:=λi=>by
  have:=e i;have w:Wv cut cut p (sk p i)=0:=by unfold Wv;rw[<-oN];grind
  rw[w,eE]at this;rcases eF.mp this with q|q
  .lia
  .exact q
 unfold Ld;refine bG.mpr λx f=>?_;have f:=eQ f;obtain⟨i,g,rfl⟩:=gH.mp f;rw[<-jo d i g,z i];decide
def t6(d:Nat)(L a:List Vc):Prop:=∀F:List Vc,mn d (F++L)=mn d (F++a)/\∀m,wD d m (F++L)=wD d m (F++a)
section
variable {d:Nat}{L L' L'':List Vc}{x y:Vc}
def t6.refl(L:List Vc):t6 d L L:=λ_=>⟨rfl,λ_=>rfl⟩
def t6.trans(h:t6 d L L')(h':t6 d L' L''):t6 d L L'':=λF=>⟨(h F).1.trans (h' F).1,λm=>((h F).2 m).trans ((h' F).2 m)⟩
def t6.symm(h:t6 d L L'):t6 d L' L:=λF=>⟨(h F).1.symm,λm=>((h F).2 m).symm⟩
def t6.cons(x:Vc)(h:t6 d L L'):t6 d (x::L) (x::L'):=λF=>by have:=h (F++[x]);simp only[b9,f9]at this;exact this
def t6.perm(h:L.Perm L'):t6 d L L':=λF=>⟨lh (h.append_left F),λm=>ql (h.append_left F)⟩
def t6.dup{k l:Int}(b:k≠0)(e:∀i,l*y i=k*x i)(f:x∈L):t6 d (y::L) L:=λF=>by have p:(F++y::L).Perm (y::(F++L)):=gG;have a:x∈F++L:=bE _ f;exact⟨(lh p).trans (Nf b e a),λm=>(ql p).trans (SD b e a)⟩
def t6.no(h:∀i,i<d->y i=0)(a:y d≠0):t6 d (y::L) L:=λF=>by have p:(F++y::L).Perm (y::(F++L)):=gG;exact⟨(lh p).trans (B0 h a _),λm=>(ql p).trans (U3 h a _)⟩
def t6.prop{k l:Int}(a:k≠0)(b:l≠0)(e:∀i,l*y i=k*x i):t6 d (y::L) (x::L):=(t6.dup (y:=x) (x:=y) (L:=y::L) (k:=l) (l:=k) b (λi=>(e i).symm) (by simp)).symm.trans ((t6.perm (List.Perm.swap y x L)).trans (t6.dup a e (by simp)))
end
def AQ{a b:LI}{p:Nat}(m:a.length=b.length)(l:p<a.length)(h:jW a b=true):∀i,vc a p*vc b i=vc b p*vc a i:=λi=>by
 have d:∀k j,k<a.length->j<k->vc a k*vc b j=vc a j*vc b k:=λk j f g=>by unfold jW at h;have:=cN.mp (cN.mp h k (aT.mpr f)) j (aT.mpr g);simpa using this
 by_cases e:i<a.length
 .rcases fO i p with q|q|q
  .have:=d p i l q;grind
  .rw[q];grind
  .have:=d i p e q;grind
 .rw[jg b i (by lia),jg a i (by lia)];lia
def xi{a b:LI}{p:Nat}(d:vc a p≠0)(h:∀i,vc a p*vc b i=vc b p*vc a i):jW a b=true:=by
 unfold jW;refine cN.mpr λk e=>cN.mpr λj f=>?_;have e:=h k;have f:=h j;have:vc a p*(vc a k*vc b j-vc a j*vc b k)=0:=by grind
 have:=(eF.mp this).resolve_left d;simp;lia
theorem Po{D:Nat}{cs:LL}{k p:Nat}{o:Nat->LI}(Y:sL (D+1) 30 cs)(A:k<cs.length)(hp:p<=D)(C:vc (cs.getD k []) p≠0)
  (u:∀j,j<cs.length->Iw (cs.getD k []) (cs.getD j []) p (o j)/\∀y∈o j,Bn 61 y):∀n,n<=cs.length->t6 D ((((List.range n).filter (· != k)).reverse).map λj=>tN (vc (cs.getD k [])) p (vc (cs.getD j []))) ((pG D o n).1.map vc):=by
 have R:∀j,j<cs.length->(cs.getD j []).length=D+1+1:=λj g=>(Y.gc _ (lL cs j g)).gl.1;have v:∀j,j<cs.length->(o j).length=D+1:=λj g=>by have h1:=(u j g).1.len;have h2:=R j g;lia
 have run:=Bc (D:=D) (o:=o) v (λj g=>(u j g).2);have prop:∀j,j<cs.length->∃a b:Int,a≠0/\b≠0/\∀i,b*tN (vc (cs.getD k [])) p (vc (cs.getD j [])) i=a*vc (o j) i:=λj g=>by
  obtain⟨a,b,U,S,e⟩:=(u j g).1.ex;have Q:kX (vc (cs.getD k []) p)≠0:=λz=>by have:=oN (vc (cs.getD k []) p);rw[z,d9]at this;lia
  refine⟨a,b*kX (vc (cs.getD k []) p),by lia,λz=>(eF.mp z).elim (by lia) Q,λi=>?_⟩;rw[e i];unfold Wv tN;rw[<-oN];grind
 intro n;induction n with
 |zero=>exact λ_=>t6.refl _
 |succ n B=>
  intro hn;have B:=B (by lia);have I:=run n (by lia);have T1:(pG D o (n+1))=oT D (pG D o n) n (o n):=rfl;rw[fT,fU,gB,T1];by_cases d:n=k
  .have P:[n].filter (· != k)=[]:=by simp[d]
   have sn:=(u n (by lia)).1;have:Ld D (o n)=false:=QI (cut:=cs.getD k []) (p:=p) (by rw[d]at sn ⊢;exact sn);rw[P,List.reverse_nil,cj];unfold oT;rw[this];exact B
  .have P:[n].filter (· != k)=[n]:=by simp[d]
   rw[P,gC,f9,bH];obtain⟨a,b,U,S,e⟩:=prop n (by lia);refine (t6.cons _ B).trans ?_;unfold oT;cases hc:Ld D (o n) with
   |false=>
    have z:∀i,i<D->vc (o n) i=0:=λi H=>by
     have:=bG.mp hc (vc (o n) i) (by rw[jo (o n) i (by rw[v n (by lia)];lia)];exact au (i:=i) (by rw[List.getElem?_take,aR H,ag (by rw[v n (by lia)];lia)]))
     simpa using this
    have zt:∀i,i<D->tN (vc (cs.getD k [])) p (vc (cs.getD n [])) i=0:=λi H=>by have:=e i;rw[z i H,eE]at this;exact (eF.mp this).resolve_left S
    refine t6.no zt λzd=>?_;have all:∀i,vc (cs.getD k []) p*vc (cs.getD n []) i=vc (cs.getD n []) p*vc (cs.getD k []) i:=λi=>by
     by_cases L:i=p
     .rw[L];grind
     .obtain⟨h,hi'⟩:∃h,sk p h=i:=by
       by_cases q:i<p
       .exact⟨i,by unfold sk;rw[aR q]⟩
       .exact⟨i-1,by unfold sk;rw[aS (by lia)];lia⟩
      have t0:tN (vc (cs.getD k [])) p (vc (cs.getD n [])) h=0:=by
       rcases fO h D with q|q|q
       .exact zt h q
       .rw[q];exact zd
       .unfold tN;have:D+2<=sk p h:=by unfold sk;split<;>lia
        rw[jg (cs.getD n []) (sk p h) (by rw[R n (by lia)];exact this),jg (cs.getD k []) (sk p h) (by rw[R k A];exact this)];lia
      unfold tN at t0;rw[hi']at t0;lia
    have s1:=xi C all;have F:=Y.pw;rw[c9]at F;have gk:cs.getD k []=cs[k]:=by rw[af,ag A];rfl
    have gn:cs.getD n []=cs[n]'(by lia):=by rw[af,ag (by lia)];rfl
    rw[gk,gn]at s1 all;rcases gJ d with q|q
    .have f:=F n k (by lia) A q;obtain⟨s,K,m⟩:=(Y.gc (cs[n]'(by lia)) (aW _)).re;rw[gk]at C;have np:vc (cs[n]'(by lia)) p≠0:=λz=>by have:=all s;rw[z,d9]at this;exact (eF.mp this).elim C m
     rw[xi np λi=>(all i).symm]at f;cases f
    .have f:=F k n A (by lia) q;rw[s1]at f;cases f
   |true=>
    simp only[if_true];cases N:Es (pG D o n).1 (o n) with
    |nil=>refine (t6.prop U S e).trans (t6.perm ?_);show (vc (o n)::(pG D o n).1.map vc).Perm (((pG D o n).1++[o n]).map vc);rw[a9];exact (gK (vc (o n)) ((pG D o n).1.map vc)).symm
    |cons i0 r=>
     have J:i0∈Es (pG D o n).1 (o n):=by rw[N];simp
     obtain⟨m1,m2⟩:=aV.mp J;have w:=aT.mp m1;have E:=I.gc _ (lL (pG D o n).1 i0 w);obtain⟨s,K,m⟩:=E.re;have sp:=AQ (a:=(pG D o n).1.getD i0 []) (b:=o n) (p:=s) (by rw[E.gl.1,v n (by lia)]) (by rw[E.gl.1];lia) m2;have Z:=Q7 (v n (by lia)) (u n (by lia)).2 hc;obtain⟨q2,hq2,X⟩:=Z.re;have bp:vc (o n) s≠0:=λz=>by have:=sp q2;rw[z,d9]at this;exact (eF.mp this).elim m X
     refine t6.dup (x:=vc ((pG D o n).1.getD i0 [])) (k:=a*vc (o n) s) (l:=b*vc ((pG D o n).1.getD i0 []) s) (λz=>(eF.mp z).elim U bp) (λi=>?_) (aE.mpr ⟨_,lL _ i0 w,rfl⟩);have h1:=e i;have h2:=sp i;grind
def E3{n k:Nat}(a:k<n):(List.range n).Perm (k::((List.range n).filter (· != k)).reverse):=by
 refine (List.perm_ext_iff_of_nodup gM (bN.mpr ⟨λh=>?_,(gN _).symm.nodup (gM.filter _)⟩)).mpr λx=>?_
 .have:=gE.mp h;have:=(aV.mp this).2;simp at this
 .rw[aG,gE,aV,aT];by_cases e:x=k
  .subst e;simp[a]
  .simp[e]
def OL{n k:Nat}(h:k<n):((List.range n).filter (· != k)).reverse.Perm (List.range k++(List.range n).drop (k+1)):=by
 refine (gN _).trans ?_;have e:List.range n=List.range k++k::(List.range n).drop (k+1):=by
  have d:(List.range n).take k=List.range k:=by rw[List.take_range,dP (by lia)]
  have g:(List.range n).drop k=k::(List.range n).drop (k+1):=by rw[dC (by rw[eY];exact h),fZ]
  rw[<-d,<-g,eW]
 have nd:(List.range k++k::(List.range n).drop (k+1)).Nodup:=by rw[<-e];exact gM
 have f:(List.range n).filter (· != k)=List.range k++(List.range n).drop (k+1):=by
  rw[e];have a:=dY.mp nd;rw[fU,fY];simp only[bne_self_eq_false,cy,if_false];have i:(List.range k).filter (· != k)=List.range k:=fW.mpr λx b=>by have:=aT.mp b;simp;lia
  have j:((List.range n).drop (k+1)).filter (· != k)=(List.range n).drop (k+1):=fW.mpr λx b=>by have:=(bN.mp a.2.1).1;simp only[bne_iff_ne,ne_eq];intro z;exact this (z▸b)
  rw[i,j];congr 1;rw[<-e]
 rw[f]
def QK{c:Cs}{D:Nat}{cs:LL}{k p:Nat}{o:Nat->LI}(q:sL (D+1) 30 cs)(b:k<cs.length)(f:p<=D)(a:vc (cs.getD k []) p≠0)
  (l:∀j,j<cs.length->Iw (cs.getD k []) (cs.getD j []) p (o j)/\∀y∈o j,Bn 61 y) :
  mn (D+1) (cs.map vc)=mn (D+1) ((cs.take k++cs.drop (k+1)).map vc)+mn D ((pG D o cs.length).1.map vc)/\
  ∀m,wD (D+1) m (cs.map vc)=wD (D+1) m ((cs.take k++cs.drop (k+1)).map vc)-wD D m ((pG D o cs.length).1.map vc):=by
 let F:List Nat:=((List.range cs.length).filter (· != k)).reverse;let R:List Vc:=F.map λz=>vc (cs.getD z []);have g:(cs.map vc).Perm (vc (cs.getD k [])::R):=by rw[<-rB];exact (E3 b).map _
 have i:R.Perm ((cs.take k++cs.drop (k+1)).map vc):=by
  have e:(List.range k++(List.range cs.length).drop (k+1)).map (λz=>vc (cs.getD z []))=(cs.take k++cs.drop (k+1)).map vc:=by rw[a9,a9,dG,rB,<-dG];congr 1;have:=congrArg (List.take k) (rB cs);rw[<-dF,<-dF,List.take_range,dP (by lia)]at this;exact this
  rw[<-e];exact (OL b).map _
 have n:=Po q b f a l cs.length (aL _);have h:R.map (tN (vc (cs.getD k [])) p)=F.map λj=>tN (vc (cs.getD k [])) p (vc (cs.getD j [])):=by show (F.map _).map _=_;rw[aJ];rfl
 have d:=n [];rw[cj,cj]at d;constructor
 .rw[lh g,vZ f a,h,d.1,lh i]
 .intro m;rw[ql g,N9 f a,h,ql i];rw[d.2 m]
def Rp(h:GC d B u):Gu d B u:=⟨h.gl.1,h.gl.2,let ⟨p,_,q⟩:=h.re;⟨p,q⟩⟩
def UH{cs:LL}(h:∀u∈cs,GC d 84 u):∀u∈cs,GC d 90 u:=λu a=>⟨(h u a).gl.mono (by decide),(h u a).re⟩
def sL.sub{cs us:LL}(h:sL d B cs)(s:us.Sublist cs):sL d B us:=⟨λf a=>h.gc f (s.subset a),aO s.length_le h.few,h.pw.sublist s⟩
def UB(g:1<=d/\d<=3) n (f:n<=8):∃N,N<=5000/\∀d',d=d'+1->∀vs:LL,vs.length=n->(∀w∈vs,Gu d' (2*90+1) w)->∃L:List (LI×LI),kR c 5 [.lst (vs.map tI),.int (d':Int)]=.ok (.lst (L.map pH))/\Ob d' N vs L:=by
 obtain⟨a,rfl⟩:∃a,d=a+1:=⟨d-1,by lia⟩;have b:(2*90+1+1)*2 ^ a<=800:=by have:2 ^ a<=2 ^ 2:=dI (by decide) (by lia);lia
 refine⟨Pw a (2*90+1),(yZ (by lia) b).1,λd' h vs i e=>?_⟩;cases h;exact Dz 5 a (2*90+1) vs (by lia) (by lia) b (by lia) e
def FQ{cs:LL}(i:1<=d/\d<=3)(j:∀u∈cs,GC d 90 u)(a:cs.length<=8)(f:GC d 90 u):∃C:List (LI×LI),mm c (kR c 5) [.lst (cs.map tI),tI u]=.ok (C.map pH)/\C.map Prod.fst=flt cs.length (Rx d cs u)/\C.length<=256:=by obtain⟨N,k,g⟩:=UB i cs.length a;obtain⟨C,e,h,-⟩:=vf (by decide) k (by lia) (λw hw=>Rp (j w hw)) a (Rp f) (kR c 5) g;have b:=congrArg List.length h;rw[ax]at b;exact⟨C,e,h,by rw[b];exact aO (xj _ _) (dI (by decide) a)⟩
abbrev rM(cs:LL)(k:Nat):LL:=cs.take k++cs.drop (k+1)
def uC cs k:(rM cs k).Sublist cs:=by rw[show rM cs k=cs.eraseIdx k from (List.eraseIdx_eq_take_drop_succ cs k).symm];exact List.eraseIdx_sublist cs k
def Cz{cs:LL}(h:k<cs.length):(rM cs k).length+1=cs.length:=by simp;lia
def Tp{cs:LL}(h:k<cs.length) i:(rM cs k).getD i []=cs.getD (sk k i) []:=by
 unfold rM sk;rw[af,af];by_cases a:i<k
 .rw[aR a,List.getElem?_append_left (by simp;lia),List.getElem?_take_of_lt a]
 .rw[aS a,List.getElem?_append_right (by simp;lia),bQ,dP (by lia),List.getElem?_drop];congr 2;lia
def P3(h:fa ρ=.ok (.bl true))(a:fb ρ=r):zM fa fb ρ=r:=by unfold zM;rw[iH h,M.bind_ok];exact a
def LK k (n:Nat):jr c [.int k,.int n]=.ok (.bl (decide (0<=k/\k<(n:Int)))):=by
 have w:jK c [.int k]=.ok (.bl true):=rfl;refine iQ rfl (iA (P3 (mN rfl w) ?_));by_cases a:0<=k
 .by_cases b:k<(n:Int)
  .simp[a,b]
  .simp[a,b]
 .simp[a]
def Mz a b (d:a.length+b.length<=1000):jl (.tup a) (.tup b)=.ok (.tup (a++b)):=by
 have sz:1000<sizeLine:=by decide
 show (if _ then _ else _)=_;rw[aR (by lia)]
def UW(h:f ρ=.ok t)(hr:o [t]=r):LN o (gO f gR) ρ=r:=by simp only[LN,gO,gR,h,M.bind_ok];exact hr
def ug{d k:Nat}{cs:LL}(m:1<=d/\d<=3)(a:sL d 84 cs)(i:k<cs.length){f g:Pe->M T}{ρ:Pe}(o:f ρ=.ok (jN c d cs))(b:g ρ=.ok (.int (k:Int))):mx c.Cutting "without" f (gO g gR) (iK c) ρ=.ok (jN c d (rM cs k)):=by
 have q:=a.few;have p:sW c.Cutting "without" (jN c d cs)=.ok ():=by unfold sW jN;exact aR ⟨rfl,rfl⟩
 have fd:∀{ρ:Pe},gP 0 ρ=.ok (jN c d cs)->sY c.Cutting "own_cuts" (gP 0) ρ=.ok (.tup (cs.map tI)):=λh=>yo (C:=c.Cutting) (x:= "own_cuts") (fs:=[("own_cuts",.tup (cs.map tI)),("own_dims",.int d)]) h rfl;have n:iK c [jN c d cs,.int (k:Int)]=.ok (jN c d (rM cs k)):=by have e:=rL (fe:=sY c.Cutting "own_cuts" (gP 0)) (fd:=gP 1) (d:=k) (ts:=cs.map tI) (ρ:=vw (iX 2 [jN c d cs,.int (k:Int)])) (fd rfl) rfl (by rw[ax];lia);have l:=CJ (fe:=sY c.Cutting "own_cuts" (gP 0)) (fd:=ik jl (gP 1) (cM (.int 1))) (d:=k+1) (ts:=cs.map tI) (ρ:=vw (iX 2 [jN c d cs,.int (k:Int)])) (fd rfl) (gX rfl rfl (by rw[jb];simp)) (by lia) (by intro z;have:=congrArg List.length z;simp at this;subst this;simp at i);have j:jr c [.int (k:Int),.int (cs.length:Int)]=.ok (.bl true):=(LK (c:=c) k cs.length).trans (by rw[aD (by lia)]);refine iQ rfl (gW (jV (tU (iH (jI rfl (mG (fd rfl) (by simp)) j)) rfl) rfl) (iA (jI (x:=.int d) (y:=.lst ((rM cs k).map tI)) (yo (C:=c.Cutting) (x:= "own_dims") (fs:=[("own_cuts",.tup (cs.map tI)),("own_dims",.int d)]) rfl rfl) (i5 (UW (t:=.tup ((rM cs k).map tI)) (gX e l ?_) (by simp))) (B6 d 84 (rM cs k) m (by decide) (a.sub (uC cs k))))));rw[<-dF,<-dG,a9];exact Mz _ _ (by simp;lia)
 simp only[mx,o,b,M.bind_ok,p,gR,gO,n,M.noEr_ok]
def IF{d k:Nat}{cs:LL}(f:1<=d/\d<=3)(b:sL d 84 cs)(a:k<cs.length):yG c [jN c d cs,.int (k:Int)]=.ok ((flt (rM cs k).length (Rx d (rM cs k) (cs.getD k []))).map tI):=by
 have sz:1000<sizeLine:=by decide
 have i:=b.few;have j:=Cz a;obtain⟨C,e,h,m⟩:=FQ (c:=c) (cs:=rM cs k) f (UH λu g=>b.gc u ((uC cs k).subset g)) (by lia) (UH b.gc _ (ph a));rw[<-h];refine yz rfl (gW (ig (t:=.lst ((rM cs k).map tI)) (i5 (xy d (rM cs k) (ug f b a rfl rfl))) rfl) (qk (jZ C pH (λq=>tI q.1) (pW (i5 (EA rfl (gX (x:=.lst (cs.map tI)) (y:=.int (k:Int)) (i5 (xy d cs rfl)) rfl (Uo (cs.map tI) k (tI (cs.getD k [])) ?_)) e))) (by lia) (λq l=>⟨_,rfl,rfl,rfl⟩) (by rw[aJ];rfl))));rw[aw,ag a,af,ag a];rfl
theorem Fv{D:Nat}{cs:LL}(hD:1<=D/\D<=2)(hg:sL (D+1) 30 cs)(k:Nat)(hk:k<cs.length):∃(p:Nat) (S:So),
  (p<D+1/\vc (cs.getD k []) p≠0/\∀q,q<p->vc (cs.getD k []) q=0)/\(∃o:Nat->LI,S=pG D o cs.length/\∀j,j<cs.length->Iw (cs.getD k []) (cs.getD j []) p (o j)/\∀y∈o j,Bn 61 y)/\sL D 61 S.1/\rO c [jN c (D+1) cs,.int (k:Int)]=.ok (.tup [jN c D S.1,.lst (S.2.map λl=>T.lst (nT l))]):=by
 have sz:1000<sizeLine:=by decide
 have h7:=hg.few;have C:∀j,j<cs.length->GC (D+1) 30 (cs.getD j []):=λj u=>hg.gc _ (lL cs j u);have w:=C k hk;obtain⟨q0,hq0,hq1⟩:=w.re;obtain⟨p,hpq,Y,B⟩:=Sl (P:=λi=>vc (cs.getD k []) i≠0) q0 hq1;have B:∀q,q<p->vc (cs.getD k []) q=0:=λq hq=>aP λz=>B q hq z;obtain⟨o,H⟩:=nW (P:=λ(j:Nat) (ys:LI)=>mQ c [tI (cs.getD k []),tI (cs.getD j [])]=.ok (tI ys)/\Iw (cs.getD k []) (cs.getD j []) p ys/\∀y∈ys,Bn 61 y) (List.range cs.length) λj u=>by have gj:=C j (aT.mp u);obtain⟨ys,e1,s1,b1⟩:=Of (c:=c) (n:=D+2) w.gl.1 gj.gl.1 (by lia) (by lia) w.gl.2 gj.gl.2 Y B;exact⟨ys,e1,s1,b1⟩
 have H:∀j,j<cs.length->_:=λj u=>H j (aT.mpr u);have ol:∀j,j<cs.length->(o j).length=D+1:=λj u=>by have h1:=(H j u).2.1.len;have h2:=(C j u).gl.1;lia
 have ob:∀j,j<cs.length->∀x∈o j,Bn 61 x:=λj u=>(H j u).2.2;have run:=Bc (D:=D) (o:=o) ol ob;let S (i:Nat):So:=pG D o i;have E:=run cs.length (aL _);have gS:sL D 61 (S cs.length).1:=⟨E.gc,aO E.len h7,E.pw⟩;have ixc:∀j,j<cs.length->kW (.lst (cs.map tI)) (.int (j:Int))=.ok (tI (cs.getD j [])):=λj u=>by have:rV (cs.map tI) (j:Int)=some (tI (cs.getD j [])):=xt (by rw[aw,af,ag u];rfl);simp only[kW,this]
 have alt:∀i,i<cs.length->∀x∈Es (S i).1 (o i),x<(S i).1.length:=λi _ x hx=>aT.mp (aV.mp hx).1;have Z:∀i,Ld D (o i)=false->S (i+1)=S i:=λi h=>by show oT D (S i) i (o i)=_;unfold oT;rw[h];rfl
 have st1:∀i,Ld D (o i)=true->Es (S i).1 (o i)=[]->S (i+1)=((S i).1++[o i],(S i).2++[[i]]):=λi h h'=>by show oT D (S i) i (o i)=_;unfold oT;rw[h,h'];rfl
 have st2:∀i b r,Ld D (o i)=true->Es (S i).1 (o i)=b::r->S (i+1)=((S i).1,(S i).2.set b ((S i).2.getD b []++[i])):=λi b r h h'=>by show oT D (S i) i (o i)=_;unfold oT;rw[h,h'];rfl
 have Q:∀i b,((S i).2.set b ((S i).2.getD b []++[i])).map nT=((S i).2.map nT).set b (nT ((S i).2.getD b [])++[T.int (i:Int)]):=λi b=>by rw[eS];simp[nT]
 have X:∀i b,i<cs.length->b<(S i).1.length->((S i).2.map nT)[b]? = some (nT ((S i).2.getD b []))/\(nT ((S i).2.getD b [])).length<sizeLine:=λi b hi h=>by have I:=run i (by lia);obtain⟨j0,r,a,_,_,f⟩:=I.wh b _ (ag h);have a':(S i).2[b]? = some (j0::r):=a;rw[aw,af,a'];refine⟨rfl,?_⟩;show (nT (j0::r)).length<sizeLine;unfold nT;rw[ax];lia
 have N:∀i,i<cs.length->(S i).1.length<=7/\((S i).2.map nT).length<=7:=λi hi=>by have I:=run i (by lia);have h1:=I.len;have h2:=I.whl;have h1':(S i).1.length<=i:=h1;have h2':(S i).2.length=(S i).1.length:=h2;rw[ax];lia
 let R (sn:LL) (x6 x7 U K:Option W):En:=[some (.p (jN c (D+1) cs)),some (.p (.int (k:Int))),some (.p (.int (D:Int))),some (.p (.lst (cs.map tI))),some (.o (sn.map tI)),none,x6,x7,U,K];obtain⟨A,tss1,e1,⟨y6,y7,y8,y9,rfl⟩,rfl⟩:=zW (j:=5) (m:=mJ 2 (iZ (mH 6) (iZ (mH 7) mK))) (g:=zh c) (λ(q:LI×Nat)=>T.tup [.int (q.2:Int),tI q.1])
  (λi ρ tss=>(∃x6 x7 U K,ρ=R (S i).1 x6 x7 U K)/\tss=(S i).2.map nT) cs.zipIdx 0 (R [] none none none none) [] ⟨⟨_,_,_,_,rfl⟩,rfl⟩ (by
   rintro i q ρ tss hi ⟨⟨x6,x7,U,K,rfl⟩,rfl⟩;rw[aH]at *;rw[List.getElem?_zipIdx]at hi;obtain⟨s,hs,rfl⟩:=cR.mp hi;rw[aH];have d:i<cs.length:=(aa.mp hs).1;have hg':cs.getD i []=s:=by rw[af,hs];rfl
   obtain⟨es,_,_⟩:=H i d;rw[hg']at es;have ic:=S6 (c:=c) (D:=D) (by lia) (ol i d);obtain⟨l1,l2⟩:=N i d;let A:=R (S i).1 (some (.p (.int (i:Int)))) (some (.p (tI s))) U K;let F:=R (S i).1 (some (.p (.int (i:Int)))) (some (.p (tI s))) (some (.p (tI (o i)))) K;have a1:sH 5 (setO 8 (kn (hW (gO (ik kW (gP 3) (gP 1)) (gO (gP 7) gR)) (mQ c)))) A ((S i).2.map nT)=.nx F ((S i).2.map nT):=Cw (ig (jI (gX rfl rfl (ixc k hk)) rfl es) rfl) rfl;cases J:Ld D (o i) with
   |false=>rw[J]at ic;exact⟨A,F,(S i).2.map nT,rfl,rfl,.inl (rQ a1 (Mx (iH (jI rfl rfl ic)) rfl)),⟨_,_,_,_,by rw[Z i J]⟩,by rw[Z i J]⟩
   |true=>
    rw[J]at ic;have pl:=NA (c:=c) D 61 (S i).1 (o i) (by lia) (by decide) l1 (run i (by lia)).gc ⟨ol i d,ob i d⟩;let v:=R (S i).1 (some (.p (.int (i:Int)))) (some (.p (tI s))) (some (.p (tI (o i)))) (some (.p (Rl (Es (S i).1 (o i)))));have a2:sH 5 (setO 9 (wA (hW (gO (gP 4) (gO (gP 8) gR)) (j5 c)))) F ((S i).2.map nT)=.nx v ((S i).2.map nT):=Cw (Hc (jI rfl rfl pl) (by unfold Rl;split<;>rfl) rfl) rfl;cases L:Es (S i).1 (o i) with
    |nil=>
     have t1:jL (ik (FD false) (gP 9) (cM .non)) (vw v)=.ok true:=by show jL (ik (FD false) (gP 9) (cM .non)) (vw (R _ _ _ _ (some (.p (Rl (Es (S i).1 (o i)))))))=_;rw[L];rfl
     have e:=st1 i J L;refine⟨A,R ((S i).1++[o i]) (some (.p (.int (i:Int)))) (some (.p (tI s))) (some (.p (tI (o i)))) (some (.p (Rl (Es (S i).1 (o i))))),(S i).2.map nT++[[.int (i:Int)]],rfl,rfl,.inl (rQ a1 (Bi (iH (jI rfl rfl ic)) (rQ a2 (Bi t1 (rQ (Cw (vP (us:=(S i).1.map tI) rfl rfl (by rw[ax];lia) ?_) rfl) (P7 rfl (by lia))))))),⟨_,_,_,_,by rw[e]⟩,by rw[e];simp[nT]⟩;show R _ _ _ _ _=[_,_,_,_,some (.o ((S i).1.map tI++[tI (o i)])),_,_,_,_,_];simp[R]
    |cons b r=>
     have hi0:b<(S i).1.length:=alt i d b (by rw[L];simp);obtain⟨g1,g2⟩:=X i b d hi0;have t1:jL (ik (FD false) (gP 9) (cM .non)) (vw v)=.ok false:=by show jL (ik (FD false) (gP 9) (cM .non)) (vw (R _ _ _ _ (some (.p (Rl (Es (S i).1 (o i)))))))=_;rw[L];rfl
     have t2:gP 9 (lF v)=.ok (.int (b:Int)):=by show gP 9 (lF (R _ _ _ _ (some (.p (Rl (Es (S i).1 (o i)))))))=_;rw[L];rfl
     have e:=st2 i b r J L;exact⟨A,v,_,rfl,rfl,.inl (rQ a1 (Bi (iH (jI rfl rfl ic)) (rQ a2 (Mx t1 (OK t2 g1 rfl g2))))),⟨_,_,_,_,by rw[e]⟩,by rw[e];exact (Q i b).symm⟩)
 rw[aH,gx]at e1;have hz:nv (cs.map tI)=(cs.zipIdx).map λq=>T.tup [.int (q.2:Int),tI q.1]:=by unfold nv;rw[dO,aJ];rfl
 have i1:=B6 (c:=c) D 61 (S cs.length).1 (by lia) (by decide) gS;have prog:rO c [jN c (D+1) cs,.int (k:Int)]=.ok (.tup [jN c D (S cs.length).1,.lst ((S cs.length).2.map λl=>T.lst (nT l))]):=by
  let R0 (x2 x3 x4 x5:Option W):En:=[some (.p (jN c (D+1) cs)),some (.p (.int (k:Int))),x2,x3,x4,x5,none,none,none,none];have sub:wK (.int ((D+1:Nat):Int)) (.int 1)=.ok (.int (D:Int)):=by rw[qi];congr 2;lia
  have f0:Ai (nq (gO (gP 3) gR)) 5 (mJ 2 (iZ (mH 6) (iZ (mH 7) mK))) (zh c) (R0 (some (.p (.int (D:Int)))) (some (.p (.lst (cs.map tI)))) (some (.o [])) (some (.o [])))=.nx ((R (S cs.length).1 y6 y7 y8 y9).set 5 (some (.o (((S cs.length).2.map nT).map T.lst)))):=by unfold Ai;show O.of (nq (gO (gP 3) gR) (lF (R0 _ _ _ _))) _=_;rw[qe (ts:=cs.map tI) rfl,hz,O.of_ok];show Rm 5 (qP _ _ 5 _ (R [] none none none none) [])=_;rw[e1];rfl
  have n0:iY false (.int (D:Int)) (.int 0)=.ok (.bl false):=by
   have z:((D:Int)==0)=false:=by simp;lia
   rw[iO,z]
  have num:=BW (c:=c) k cs.length hk;refine iQ rfl (gW (ρ':=R0 (some (.p (.int (D:Int)))) none none none) (ig (gX (uZ (D+1) cs rfl) rfl sub) rfl) (gW (jV (QW (iH (gX rfl rfl n0)) (tU (iH (jI rfl (N6 (D+1) cs rfl) num)) rfl)) rfl) (gW (ig (i5 (xy (D+1) cs rfl)) rfl) (gW (pC rfl rfl) (gW (pC rfl rfl) (gW f0 (iA (yc (jI rfl rfl i1) ?_))))))));show M.ok (T.lst (((S cs.length).2.map nT).map T.lst))=_;rw[aJ];rfl
 exact⟨p,S cs.length,⟨by lia,Y,B⟩,⟨o,rfl,λj u=>(H j u).2⟩,gS,prog⟩
def TC{d B:Nat}{cs:LL}(k:sL d B cs){i j:Nat}(a:i<cs.length)(b:j<cs.length)(ne:i≠j):jW (cs.getD i []) (cs.getD j [])=false:=by
 have e:=k.pw;rw[c9]at e;have g:∀i (a:i<cs.length),cs.getD i []=cs[i]:=λi a=>by rw[af,ag a];rfl
 rw[g i a,g j b];rcases gJ ne with q|q
 .exact e i j a b q
 .have f:=e j i b a q;refine Bool.eq_false_iff.mpr λz=>?_;have h:=k.gc _ (aW a);have m:=k.gc _ (aW b);obtain⟨p,u,n⟩:=h.re;have l:=AQ (p:=p) (by rw[h.gl.1,m.gl.1]) (by rw[h.gl.1];lia) z;obtain⟨r,hr,s⟩:=m.re;have o:vc cs[j] p≠0:=λy=>by have:=l r;rw[y,d9]at this;exact (eF.mp this).elim n s
  rw[xi o λi=>(l i).symm]at f;cases f
def Ek{cs:LL}{k:Nat}(a:k<cs.length):cs.Perm (cs.getD k []::rM cs k):=by
 have e:cs=cs.take k++cs.getD k []::cs.drop (k+1):=by rw[af,ag a,dc,<-dC a,eW]
 have p:(cs.take k++cs.getD k []::cs.drop (k+1)).Perm (cs.getD k []::(cs.take k++cs.drop (k+1))):=gG;rw[<-e]at p;exact p
def L4{d B k:Nat}{cs:LL}(f:sL d B cs)(a:k<cs.length):((flt (rM cs k).length (Rx d (rM cs k) (cs.getD k []))).length:Int)=mn d (cs.map vc)-mn d ((rM cs k).map vc):=by
 obtain⟨p,l,j⟩:=(f.gc _ (ph a)).re;have o:=Sb (d:=d) (us:=rM cs k) (u:=cs.getD k []) (λs g h v hv=>U6 l j g h hv) λs g ⟨X,on⟩=>by
  by_cases q:mM d X (vc (cs.getD k []))=0
  .exact .inl ⟨X,q,on⟩
  .exact .inr ⟨X,on,q⟩
 have i:∀u∈rM cs k,u.length=d+1:=λu e=>(f.gc u ((uC cs k).subset e)).gl.1;have n:=OD _ d (rM cs k) rfl i;have b:=OD _ d (rM cs k++[cs.getD k []]) rfl λu e=>by
  rcases ai.mp e with h|h
  .exact i u h
  .rw[aj.mp h];exact (f.gc _ (ph a)).gl.1
 rw[aU,cf,o]at b;rw[lh ((gN _).map vc)]at n b;have m:(rM cs k++[cs.getD k []]).Perm cs:=(gK _ _).trans (Ek a).symm;rw[lh (m.map vc)]at b;lia
theorem UO:∀(l:List Vc),(∀x∈l,x 0≠0)->mn 0 l=1
 |[],_=>by show pT 0 []=1;exact Gn 0
 |x::l,h=>by rw[B0 (λi b=>absurd b (dH i)) (h x (by simp)),UO l λy a=>h y (by simp[a])]
def N7{B k:Nat}{cs:LL}(g:sL 1 B cs)(a:k<cs.length):mn 1 (cs.map vc)=mn 1 ((rM cs k).map vc)+1:=by
 have h:=g.gc _ (ph a);obtain⟨p,r,j⟩:=h.re;have b:p=0:=by lia
 subst b;rw[lh ((Ek a).map vc),bH,vZ (d:=0) (p:=0) (aL 0) j,UO];intro x m;obtain⟨y,o,rfl⟩:=aE.mp m;obtain⟨w,hw,rfl⟩:=aE.mp o;obtain⟨i,n,f⟩:=fP hw;have e:w=cs.getD (sk k i) []:=by rw[<-Tp a,af,ag n,f];rfl
 have s:=Cz a;have l:sk k i<cs.length/\k≠sk k i:=by unfold sk;split<;>lia
 have u:=TC g a l.1 l.2;rw[<-e]at u;have q:=(g.gc w ((uC cs k).subset hw)).gl.1;intro z;have z:vc (cs.getD k []) 0*vc w 1-vc w 0*vc (cs.getD k []) 1=0:=z;refine absurd (xi j λi=>?_) (by rw[u];decide);match i with
 |0=>grind
 |1=>lia
 |i+2=>rw[jg w (i+2) (by lia),jg (cs.getD k []) (i+2) (by have:=h.gl.1;lia)];lia
def NX{d:Nat}{m:Int}(h:(d:Int)<m)(us:List Vc):wD d m us=0:=by
 unfold wD;rw[iM (g:=λ_=>0) λB _=>?_,md];have:bD d m B=0:=by unfold bD;rw[aS];rintro⟨_,r,_,e⟩;lia
 rw[this,d9]
def Fj{d k:Nat}{cs:LL}(a:1<=d/\d<=3)(b:sL d 84 cs)(e:k<cs.length):jy c [jN c d cs,.int (k:Int)]=.ok ((flt (rM cs k).length (Rx d (rM cs k) (cs.getD k []))).map tI):=IF a b e
def LP{a:Type}{f g:a->T}:∀l:List a,tO (l.map f) (l.map g)=l.map λx=>T.tup [f x,g x]:=λl=>by
 rw[DS];induction l with
 |nil=>rfl
 |cons x l ih=>rw[cY,bH,bH,ih]
theorem GZ(D:Nat)(o:Nat->LI):∀n,(pG D o n).1.length<=n
 |0=>aL 0
 |n+1=>by
  have a:=GZ D o n;show (oT D (pG D o n) n (o n)).1.length<=n+1;unfold oT;split
  .split
   .rw[aU,cf];lia
   .exact aO a (by lia)
  .lia
def EE(a b:Int)(h:a=b):iY false (.int a) (.int b)=.ok (.bl true):=by rw[iO,h];simp
def RC(a b:Int)(h:a=b):iY true (.int a) (.int b)=.ok (.bl false):=by rw[t8,h];simp
def IP{d k:Nat}{cs:LL}(l:1<=d/\d<=3)(b:sL d 30 cs)(s:cs.length<=6)(f:k<cs.length):lX c [jN c d cs,.int (k:Int)]=.ok (.bl true):=by
 have sz:1000<sizeLine:=by decide
 have hw:=b.sub (uC cs k);have wl:=Cz f;have V:Vz d cs:=⟨l,b.up62⟩;have C:Vz d (rM cs k):=⟨l,hw.up62⟩;have u:=pE (c:=c) V s;have B:=pE (c:=c) C (by lia);have K:=Fj (c:=c) l (b.mono (by decide)) f;have gc:=L4 b f;let R (q g a:Option W):En:=[some (.p (jN c d cs)),some (.p (.int (k:Int))),q,g,a];have e0:mx c.Cutting "without" (gP 0) (gO (gP 1) gR) (iK c) (lF (R none none none))=.ok (jN c d (rM cs k)):=ug l (b.mono (by decide)) f rfl rfl;have w:∀{ρ:En} {n:Int},(∃q g a,ρ=R q g a)->mn d (cs.map vc)=mn d ((rM cs k).map vc)+n->lC l6 (gO (jC (i8 (gO (gP 0) (gO (gP 1) gR)) (jy c))) gR) (lF ρ)=.ok (.int n):=by rintro ρ n ⟨q,g,a,rfl⟩ hn;refine mG (i5 (EA rfl rfl K)) ?_;simp only[l6,ax];rw[gc];congr 2;lia
 refine iQ rfl (gW (ρ':=R (some (.p (jN c d (rM cs k)))) none none) (ig e0 rfl) ?_);let H (g a:Option W):En:=R (some (.p (jN c d (rM cs k)))) g a;by_cases h1:d=1
 .subst h1;have y:=N7 b f;refine l5 (jO (iH (gX (uZ 1 cs rfl) rfl (iO _ _))) (iA (Sy (gX (mN rfl u) (gX (mN rfl B) rfl (jb _ _)) (EE _ _ y)) (gX (w (ρ:=H none none) ⟨_,_,_,rfl⟩ y) rfl (EE _ _ rfl))))) rfl
 .obtain⟨D,rfl⟩:∃D,d=D+1:=⟨d-1,by lia⟩;obtain⟨p,S,⟨hp,J,-⟩,⟨o,A,P⟩,gS,I⟩:=Fv (c:=c) (by lia) b k f;obtain⟨dr,z⟩:=QK (c:=c) b f (by lia) J P;rw[<-A]at dr z;have F:Vz D S.1:=⟨by lia,gS.mono (by decide)⟩;have v:S.1.length<=6:=by rw[A];exact aO (GZ D o cs.length) s
  have x:=pE (c:=c) F v;have r:∀{E:Nat} {j:LL},Vz E j->j.length<=6->jM c [jN c E j]=.ok ((List.range (E+1)).map λ(m:Nat)=>T.int (wD E (m:Int) (j.map vc))):=λ{E j} Ve h=>by rw[DI Ve h];congr 1;exact c7 λm _=>by rw[Sk Ve h]
  have N:=r V s;have Q:=r C (by lia);have U:=r F v;let L:List Nat:=List.range (D+1+1);have l3:(List.range (D+1)).map (λ(m:Nat)=>T.int (wD D (m:Int) (S.1.map vc)))++[T.int 0]=L.map λ(m:Nat)=>T.int (wD D (m:Int) (S.1.map vc)):=by show _=(List.range (D+1+1)).map _;rw[fT (n:=D+1),a9,List.map_singleton,NX (m:=((D+1:Nat):Int)) (by lia)]
  let i (a:Option W):En:=H (some (.p (jN c D S.1))) a;let e:List T:=L.map λ(m:Nat)=>T.int (wD (D+1) (m:Int) (cs.map vc));have Z:lM [none,none] (nG (gO (jC (i8 (gO (gP 2) gR) (jM c))) (gO (jC (yh (jC (i8 (gO (gP 3) gR) (jM c))) (jC (lstM (gO (cM (.int 0)) gR))))) gR))) (mT 2 (iN (km 0) (iN (km 1) mP))) (λ_=>.ok true) (qR c) (lF (i none))=.ok e:=by
   refine jZ L (λ(m:Nat)=>T.tup [.int (wD (D+1) (m:Int) ((rM cs k).map vc)),.int (wD D (m:Int) (S.1.map vc))]) (λ(m:Nat)=>T.int (wD (D+1) (m:Int) (cs.map vc))) ?_ (by simp[L];lia) (λm hm=>⟨_,rfl,rfl,gX rfl rfl (by rw[qi,z])⟩) rfl;have Y:jC (i8 (gO (gP 2) gR) (jM c)) (lF (i none))=.ok (.lst (L.map λ(m:Nat)=>T.int (wD (D+1) (m:Int) ((rM cs k).map vc)))):=i5 (qU rfl Q);have X:jC (yh (jC (i8 (gO (gP 3) gR) (jM c))) (jC (lstM (gO (cM (.int 0)) gR)))) (lF (i none))=.ok (.lst (L.map λ(m:Nat)=>T.int (wD D (m:Int) (S.1.map vc)))):=by rw[<-l3];exact SE (i5 (qU rfl U)) rfl (by simp;lia)
   rw[<-LP L];simp only[nG,gO,gR,Y,X,L3.M.bind_ok];rfl
  refine gW (jV (iH (gX (uZ (D+1) cs rfl) rfl (by rw[iO];congr 2;simp;lia))) rfl) (gW (ρ':=i none) (ig (gX (jI rfl rfl I) rfl rfl) rfl) (gW (ρ':=i (some (.p (.lst e)))) (ig (i5 Z) rfl) (gW (jV (QW (iH (gX (i5 (qU rfl N)) rfl ?_)) (iH (gX (mN rfl u) (gX (mN rfl B) (mN rfl x) (jb _ _)) (RC _ _ dr)))) rfl) (iA (gX (w (ρ:=i (some (.p (.lst e)))) ⟨_,_,_,rfl⟩ dr) (mN rfl x) (EE _ _ rfl))))));have:=LH true (L.map λ(m:Nat)=>wD (D+1) (m:Int) (cs.map vc)) (L.map λ(m:Nat)=>wD (D+1) (m:Int) (cs.map vc));rw[aJ]at this;refine this.trans ?_;simp
def IB ns:uO c [.scr ns]=.ok (.bl true):=by
 have sz:1000<sizeLine:=by decide
 let b:Nat×LL->T:=λx=>.tup [.int (x.1:Int),.lst (x.2.map tI)];obtain⟨X,v⟩:=nW (P:=λ(k:Nat) (x:Nat×LL)=>(∃a,jU c [.scr ns,.int (k:Int)]=.ok (.int a)/\lj c [.int a,.int 5]=.ok (b x))/\((1<=x.1/\x.1<=3)/\sL x.1 30 x.2)/\x.2.length<=5) [0,1] λk _=>by obtain⟨a,n,-⟩:=Fu (c:=c) ns k;obtain⟨d,z,o,h,E,y⟩:=E5 (c:=c) a 5 (by decide);exact⟨(d,z),⟨a,n,o⟩,⟨h,E⟩,y⟩
 let R (i l f:Option W):En:=[some (.p (.scr ns)),some (.p (.lst ([0,1].map λk=>b (X k)))),i,l,f];obtain⟨q,e,H,I,J,rfl⟩:=AW (m:=mJ 2 (iZ (mH 2) (iZ (mH 3) mK))) (g:=AG c) (λ(k:Nat)=>b (X k)) (λq=>∃i l f,q=R i l f) [0,1,0] (R none none none) ⟨_,_,_,rfl⟩ (by
  rintro k r q ⟨i,l,f,rfl⟩;obtain⟨-,⟨h,u⟩,F⟩:=v k (by simp at r ⊢;lia);have B:=B6 (c:=c) (X k).1 30 (X k).2 h (by decide) u;let s (f:Option W):En:=R (some (.p (.int ((X k).1:Int)))) (some (.p (.lst ((X k).2.map tI)))) f;have C:lM [none,some 4] (nr (gO (lC l6 (gO (gP 3) gR)) gR)) (km 0) (λ_=>.ok true) (AV c) (vw (s (some (.p (jN c (X k).1 (X k).2)))))=.ok ((List.range (X k).2.length).map λ_=>T.bl true):=jZ (List.range (X k).2.length) (λ(j:Nat)=>T.int (j:Int)) (λ_=>T.bl true) (tj (X k).2.length (by lia) (mG (t:=.lst ((X k).2.map tI)) rfl (by simp))) (by rw[eY];lia) (λj w=>⟨_,rfl,rfl,jI rfl rfl (IP h u (by lia) (aT.mp w))⟩) rfl
  have D:zA [.lst ((List.range (X k).2.length).map λ_=>T.bl true)]=.ok (.bl true):=by have:=rY ((List.range (X k).2.length).map λ_=>true);rw[aJ]at this;refine this.trans ?_;simp
  exact⟨_,_,rfl,.inl (gW (ρ':=s (some (.p (jN c (X k).1 (X k).2)))) (ig (jI rfl (i5 (ts:=(X k).2.map tI) rfl) B) rfl) (jV (tU (iH (qh C D)) rfl) rfl)),_,_,_,rfl⟩)
 have A:lM [none,some 0] (nr (gO (cM (.int 2)) gR)) (km 0) (λ_=>.ok true) (AL c) (lF (iX 5 [.scr ns]))=.ok ([0,1].map λk=>b (X k)):=jZ [0,1] (λ(k:Nat)=>T.int (k:Int)) (λk=>b (X k)) (tj 2 (by decide) rfl) (by decide) (λk r=>by obtain⟨⟨a,n,o⟩,-⟩:=v k r;exact⟨_,rfl,rfl,jI (jI rfl rfl n) rfl o⟩) rfl
 exact iQ rfl (gW (ρ':=R none none none) (ig (i5 A) rfl) (gW (lz rfl e) (iA rfl)))
end CL
namespace K46
open PySem L2 L3 CL
def jE(i:Nat):Stmt:=PySem.Challenge.pw_cutlands_k46_whole_a_cut_left_out.main.body.getD i (.Pass ⟨0,0,0,0⟩)
structure Er(c:Cs)(K:W.Frag)(mg:Str->Option Value):Prop where
 here:True
 cl_Cutting:zD K c.Cutting
 na_Cutting_own_cuts:my K c.Cutting "own_cuts"
 na_Cutting_own_dims:my K c.Cutting "own_dims"
 mk_Cutting:W.makesIn K c.Cutting=true
 kp_Cutting:W.keepIn K (.ref c.Cutting)=true
 mg_Cutting:mg "Cutting" = some (.ref c.Cutting)
 k_MOST_CUTS:∃t,mg "MOST_CUTS" = some (.int 7 t)
 k_MOST_DIMS:∃t,mg "MOST_DIMS" = some (.int 3 t)
def VC{K:W.Frag}{h:Heap}{mg:Str->Option Value}{aCutting:Addr}{tMOST_CUTS tMOST_DIMS:_}(X:K.In h)(G:h.Ns mainGlobals mg)(e:W.nsIn K mainGlobals "Cutting" = some (some (.ref aCutting)))(a:W.plainGet K aCutting Str.empty=true)(g:W.hasDictIn K aCutting=true)(b:W.plainOver K aCutting=true)(c:W.findIn K (.ref aCutting) "__setattr__" = some (some (.builtin "object.__setattr__")))(own_cuts:W.findIn K (.ref aCutting) "own_cuts" = some none)(own_dims:W.findIn K (.ref aCutting) "own_dims" = some none)(f:W.makesIn K aCutting=true)(d:W.keepIn K (.ref aCutting)=true)(uMOST_CUTS:W.nsIn K mainGlobals "MOST_CUTS" = some (some (.int 7 tMOST_CUTS)))(uMOST_DIMS:W.nsIn K mainGlobals "MOST_DIMS" = some (some (.int 3 tMOST_DIMS))):Er ⟨aCutting,0,0,0,0,0,0,0,0,0,0,0,0⟩ K mg:=⟨trivial,⟨a,g,b,c⟩,own_cuts,own_dims,f,d,W.mg_of X G e,⟨_,W.mg_of X G uMOST_CUTS⟩,⟨_,W.mg_of X G uMOST_DIMS⟩⟩
def Uw{K:W.Frag}{a g:Addr}{m q:Str}{st:Stmt}{j kV d i b p:Value}{f o:Option Addr}{c:Array (Option Value)}(k:W.findIn K (.ref a) m=some (some (.ref g)))(h:W.isFn K (.ref g)=true)(l:K.lookup g=some ⟨j,f,.func (W.fnOf m q (j7 st) (iR st) (gZ st) .none kV d i o b p),c⟩)(n:W.codeIn K b q=true)(e:W.keepIn K (.ref g)=true):ly K a m q st:=⟨_,_,EI l n e,k,h,e⟩
set_option hygiene false in
local macro_rules|`('x')=>`(by repeat' first|(refine' gU ?_ ?_)|(refine' ia ?_)|(exact jh)|(refine' jc _ nd ?_)|(refine' j4 ?_ ?_ ?_)|(refine' jq ?_)|(refine' Nu _ nd ?_)|(refine' rh ?_)|(refine' ps_dropm ?_)|(exact xo)|(refine' C1 _ nd ?_)|(exact hU _)|(exact kh)|(refine' gY ?_ ?_)|(exact iz)|(refine' GP ?_ ?_)|(refine' ko (by assumption) hr ?_)|(refine' s9 ?_ ?_)|(refine' sA ?_)|(refine' MN hr ?_ ?_)|(refine' EN hr ?_ ?_)|(refine' oU ?_)|(refine' IY ?_)|(refine' xY ?_ ?_)|(refine' uj ?_)|(refine' GK ?_ ?_)|(refine' DA ?_)|(refine' il (ju (K:=K)) lR (by rfl) B.len lS ?_)|(refine' kq Hz G1 ?_ ?_)|(refine' kq L8 JS ?_ ?_)|(refine' kq LY J5 ?_ ?_)|(refine' kq G8 GB ?_ ?_)|(refine' kq op_notN mr_notN ?_ ?_)|(refine' kq Kw JO ?_ ?_)|(exact Ux)|(exact KR)|(exact pm_str)|(refine' qt ?_)|(refine' RA ?_ ?_)|(refine' zm ?_ ?_)|(refine' K1 ?_)|(refine' TV ?_ ?_)|(refine' HE ?_ ?_)|(refine' uy ?_ ?_ ?_)|(exact A9)|(refine' BB ?_)|(refine' rg "tuple" (by decide) B.isinstance B.tuple lG ?_)|(refine' rg "list" (by decide) B.isinstance B.list qu ?_)|(refine' rg "int" (by decide) B.isinstance B.int EL ?_)|(refine' rg "bool" (by decide) B.isinstance B.bool GA ?_)|(refine' kJ (j6 (K:=K)) lI (by rfl) B.tuple lG ?_)|(refine' kJ call_int1 mc_int1 (by rfl) B.int EL ?_)|(refine' il oz tY (by rfl) B.abs tm ?_)|(refine' il (p0 (K:=K) rfl) yq (by rfl) B.all xU ?_)|(refine' j8 ?_)|(refine' xm (by assumption) hr ?_)|(refine' qg (oB (K:=K)) rA (by rfl) B.list qu ?_)|(refine' F8 ?_)|(refine' EK ?_ ?_)|(refine' J0 ?_ ?_)|(refine' yR ?_ ?_)|(refine' zf ?_)|(refine' Bq ?_))
section
variable {P:Program}{w:World}{K:W.Frag}{mg:Str->Option Value}{base:Heap}{c:Cs}(Z:Zx P w K mg base)(B:Bs mg)(ER:Er c K mg)
include Z B ER
theorem o0(D:ib K mg "is_whole" (jE 7)):CP Z "is_whole" 1 (jK c):=lW Z 0 (jK c) ["thing"] ["thing"] rfl D λnd hX hr=>⟨_,(ia (jq (yR (rg "int" (by decide) B.isinstance B.int EL (hU 0)) (zf (Bq (rg "bool" (by decide) B.isinstance B.bool GA (hU 0)))))))⟩
theorem o1(D:ib K mg "sign_of" (jE 9)):CP Z "sign_of" 1 (lq c):=lW Z 0 (lq c) ["number"] ["number"] rfl D λnd hX hr=>⟨_,(gU (j4 (kq L8 JS (hU 0) kh) 'x' jh) (gU (j4 (kq Hz G1 (hU 0) kh) 'x' jh) 'x'))⟩
theorem o2(D:ib K mg "common_divisor" (jE 10)):CP Z "common_divisor" 1 (jA c):=lW Z 0 (jA c) ["one","other","rest"] ["one","other"] rfl D λnd hX hr=>⟨_,(gU (Kv (λρ=>match ρ with|_::some (.p (.int j))::_=>j.natAbs+1|_=>0) PassesOwn.never 'x' 'x') (ia (jq (il oz tY (by rfl) B.abs tm 'x'))))⟩
theorem o3(D:ib K mg "dot" (jE 11)):CP Z "dot" 1 (uk c):=lW Z 0 (uk c) ["numbers","others"] ["numbers","others"] rfl D λnd hX hr=>⟨_,(ia (jq (il (vB (K:=K) rfl) Fp (by rfl) B.sum Gg (gY (j8 (lx ["one","other"] [none,none] hX (oZ B.zip 'x') (λnd hX=>⟨(nE 2 rfl (iG (jm 0 nd) (iG (jm 1 nd) kY))),iV, 'x'⟩))) iz))))⟩
theorem o4(D:ib K mg "first_place" (jE 22)):CP Z "first_place" 1 (jT c):=lW Z 0 (jT c) ["cut","place"] ["cut"] rfl D λnd hX hr=>⟨_,(gU (jc 1 nd kh) (gU (Kv (λρ=>match ρ with|some (.p (.tup ts))::_=>ts.length+1|_=>0) PassesOwn.never 'x' 'x') 'x'))⟩
theorem o5(D:ly K c.Cutting "dims" "Cutting.dims" (m6 (jE 27) 1)):jR P w K mg base c.Cutting "dims" 1 (t5 K (iJ c)):=KF Z 0 (iJ c) ["self"] ["self"] rfl ER.cl_Cutting D λnd hX hr=>⟨_,(ia (jq (tP rfl ER.cl_Cutting ER.na_Cutting_own_dims (hU 0))))⟩
theorem o6(D:ly K c.Cutting "cuts" "Cutting.cuts" (m6 (jE 27) 2)):jR P w K mg base c.Cutting "cuts" 1 (CB K (iI c)):=TU Z 0 (iI c) ["self"] ["self"] rfl ER.cl_Cutting D λnd hX hr=>⟨_,(ia (rh (qg (oB (K:=K)) rA (by rfl) B.list qu (gY (tP rfl ER.cl_Cutting ER.na_Cutting_own_cuts (hU 0)) iz))))⟩
theorem o7(D:ly K c.Cutting "many" "Cutting.many" (m6 (jE 27) 3)):jR P w K mg base c.Cutting "many" 1 (t5 K (kx c)):=KF Z 0 (kx c) ["self"] ["self"] rfl ER.cl_Cutting D λnd hX hr=>⟨_,(ia (jq (il (ju (K:=K)) lR (by rfl) B.len lS (gY (tP rfl ER.cl_Cutting ER.na_Cutting_own_cuts (hU 0)) iz))))⟩
theorem o8(D:ib K mg "lies_in" (jE 35)):CP Z "lies_in" 1 (nX c):=lW Z 0 (nX c) ["flat","other"] ["flat","other"] rfl D λnd hX hr=>⟨_,(ia (jq (il (p0 (K:=K) rfl) yq (by rfl) B.all xU (gY (j8 (lx ["k","flat"] [none,some 0] hX (jj 'x') (λnd hX=>⟨(jm 0 nd),iV,(EW (TQ (K:=K)) (Vk false) (hU 0) 'x' (by rfl))⟩))) iz))))⟩
theorem o9(D:ib K mg "without_place" (jE 41)):CP Z "without_place" 1 (iP c):=lW Z 0 (iP c) ["row","place"] ["row","place"] rfl D λnd hX hr=>⟨_, 'x'⟩
theorem Xm(D:ib K mg "_law_cell_at" (jE 54)):CP Z "_law_cell_at" 1 (jU c):=lW Z 0 (jU c) ["_law_script","_law_k"] ["_law_script","_law_k"] rfl D λnd a hr=>⟨_,(gU (j4 (kq Hz G1 (hU 1) (il (ju (K:=K)) lR (by rfl) B.len lS 'x')) 'x' jh) 'x')⟩
theorem XF(D:ib K mg "_law_draw" (jE 55)):CP Z "_law_draw" 1 (iE c):=lW Z 0 (iE c) ["_law_cell","_law_k","_law_bound","_law_left","_law_j","_law_stir"] ["_law_cell","_law_k","_law_bound"] rfl D λnd a hr=>⟨_,(gU (j4 (kq LY J5 (hU 0) (T3 kh kh)) (gU 'x' (gU (u0 PassesOwn.never rfl (nM B.range 'x') (jQ 4 nd) 'x') 'x')) jh) 'x')⟩
theorem W1(D:ib K mg "_law_same" (jE 56)):CP Z "_law_same" 1 (l8 c):=lW Z 0 (l8 c) ["_law_one","_law_other","_law_k","_law_j"] ["_law_one","_law_other"] rfl D λnd a hr=>⟨_,(gU (u0 PassesOwn.never rfl (nM B.range (gY (il (ju (K:=K)) lR (by rfl) B.len lS 'x') iz)) (jQ 2 nd) (ia (u0 PassesOwn.never rfl (nM B.range 'x') (jQ 3 nd) 'x'))) 'x')⟩
theorem Xl(D:ib K mg "is_number_of" (jE 8))(a:CP Z "is_whole" 1 (jK c)):CP Z "is_number_of" 2 (jr c):=lW Z 1 (jr c) ["thing","many"] ["thing","many"] rfl D λnd b hr=>⟨_,(ia (jq (yR 'x' (zf (Dk G8 GB Hz G1 kh (hU 0) (hU 1))))))⟩
theorem W2(D:ib K mg "lowest" (jE 12))(b:CP Z "common_divisor" 1 (jA c)):CP Z "lowest" 2 (kZ c):=lW Z 1 (kZ c) ["row","divisor","number"] ["row"] rfl D λnd a hr=>⟨_,(gU (jc 1 nd kh) (gU (lY PassesOwn.never rfl (jj (hU 0)) (jQ 2 nd) 'x') (gU 'x' (ia (jq (kJ (j6 (K:=K)) lI (by rfl) B.tuple lG (gY (j8 (lx ["number","divisor"] [none,some 1] a (jj (hU 0)) (λnd a=>⟨(jm 0 nd),iV, 'x'⟩))) iz)))))))⟩
theorem Xh(D:ib K mg "is_dims" (jE 19))(a:CP Z "is_whole" 1 (jK c)):CP Z "is_dims" 2 (nZ c):=lW Z 1 (nZ c) ["thing"] ["thing"] rfl D λnd b hr=>⟨_,(ia (jq (yR 'x' (zf (Dk G8 GB G8 GB kh (hU 0) (Do 3 ER.k_MOST_DIMS))))))⟩
theorem Xz(D:ib K mg "is_cut" (jE 21))(b:CP Z "is_whole" 1 (jK c)):CP Z "is_cut" 2 (mB c):=lW Z 1 (mB c) ["dims","thing"] ["dims","thing"] rfl D λnd a hr=>⟨_,(gU (j4 (IY (xY (oU (sA (rg "tuple" (by decide) B.isinstance B.tuple lG (hU 1)))) (uj (MN hr (il (ju (K:=K)) lR (by rfl) B.len lS 'x') 'x')))) 'x' jh) (gU (j4 (oU (sA (il (p0 (K:=K) rfl) yq (by rfl) B.all xU (gY (j8 (lx ["number"] [none] a (jj (hU 1)) (λnd a=>⟨(jm 0 nd),iV, 'x'⟩))) iz)))) 'x' jh) (ia (jq (il (mR (K:=K) rfl) tT (by rfl) B.any sR (gY (j8 (lx ["number"] [none] a (jj 'x') (λnd a=>⟨(jm 0 nd),iV,(Vt hr (hU 0) kh)⟩))) iz))))))⟩
theorem W6(D:ib K mg "same_spots" (jE 23))(b:CP Z "first_place" 1 (jT c)):CP Z "same_spots" 2 (kc c):=lW Z 1 (kc c) ["one","other","place"] ["one","other"] rfl D λnd a hr=>⟨_,(gU 'x' (ia (jq (il (p0 (K:=K) rfl) yq (by rfl) B.all xU (gY (j8 (lx ["mine","theirs","other","place","one"] [none,none,some 1,some 2,some 0] a (oZ B.zip 'x') (λnd a=>⟨(nE 2 rfl (iG (jm 0 nd) (iG (jm 1 nd) kY))),iV,(Hs hr 'x' 'x')⟩))) iz)))))⟩
theorem W4(D:ib K mg "numbers_in_order" (jE 36))(b:CP Z "lies_in" 1 (nX c)):CF Z "numbers_in_order" 2 (iF c):=yW Z 1 (iF c) ["told","numbers","flat","around"] ["told"] rfl D λnd a hr=>⟨_,(gU 'x' (gU (lY PassesOwn.never rfl (jj 'x') (jQ 2 nd) (gU (pA ["other","number","flat"] [none,none,some 2] 3 nd a (oZ B.zip 'x') (λnd a=>⟨(nE 2 rfl (iG (jm 0 nd) (iG (jm 1 nd) kY))),(qS 'x'),(hU 1)⟩) MM) (ia (oq 1 (pv 1) (K1 (il (vB (K:=K) rfl) Fp (by rfl) B.sum Gg 'x')))))) (ia (yA 1 (pv 1)))))⟩
theorem W5(D:ib K mg "left_at" (jE 39))(a:CP Z "dot" 1 (uk c)):CP Z "left_at" 2 (kD c):=lW Z 1 (kD c) ["cut","point"] ["cut","point"] rfl D λnd b hr=>⟨_, 'x'⟩
theorem Xf(D:ib K mg "_law_cut" (jE 57))(a:CP Z "_law_draw" 1 (iE c)):CP Z "_law_cut" 2 (lE c):=lW Z 1 (lE c) ["_law_cell","_law_k","_law_dims","_law_found","_law_wide","_law_cut_here","_law_way","_law_other","_law_by"] ["_law_cell","_law_k","_law_dims","_law_found"] rfl D λnd b hr=>⟨_,(gU 'x' (gU (pA ["_law_j","_law_wide","_law_cell","_law_k"] [none,some 4,some 0,some 1] 5 nd b (yi.pim (nM B.range 'x')) (λnd b=>⟨(jm 0 nd),iV, 'x'⟩) Ce) (gU 'x' (gU (j4 'x' (ia (Lw 5 nd (EK (j8 (qg (oB (K:=K)) rA (by rfl) B.list qu (gY (uy (GP (hU 3) (ko a hr (gY (hU 0) (gY 'x' (gY (il (ju (K:=K)) lR (by rfl) B.len lS 'x') iz))))) A9 (BB (hU 2))) iz))) 'x'))) jh) (gU (j4 'x' (ia (B1 5 (pv 5) (hU 2) kh)) jh) (gU (j4 (IY (GK 'x' (DA (kq L8 JS (il (ju (K:=K)) lR (by rfl) B.len lS 'x') kh)))) (gU (jc 7 nd (GP (hU 3) (ko a hr (gY (hU 0) (gY 'x' (gY (zm (il (ju (K:=K)) lR (by rfl) B.len lS 'x') kh) iz)))))) (gU 'x' (ia (pA ["_law_one","_law_two","_law_by"] [none,none,some 8] 5 nd b (oZ B.zip 'x') (λnd b=>⟨(nE 2 rfl (iG (jm 0 nd) (iG (jm 1 nd) kY))),iV, 'x'⟩) Ce)))) jh) (gU (j4 'x' (ia (B1 5 (pv 5) 'x' kh)) jh) (ia (jq (kJ (j6 (K:=K)) lI (by rfl) B.tuple lG 'x'))))))))))⟩
theorem XA(D:ib K mg "cleared" (jE 13))(a:CP Z "lowest" 2 (kZ c))(d:CP Z "sign_of" 1 (lq c)):CP Z "cleared" 3 (jt c):=lW Z 2 (jt c) ["row","other","place","often","other_often"] ["row","other","place"] rfl D λnd b hr=>⟨_,(gU 'x' (gU (jc 3 nd (il oz tY (by rfl) B.abs tm 'x')) (gU 'x' (ia (jq (ko a hr (gY (kJ (j6 (K:=K)) lI (by rfl) B.tuple lG (gY (j8 (lx ["mine","theirs","often","other_often"] [none,none,some 3,some 4] b (oZ B.zip 'x') (λnd b=>⟨(nE 2 rfl (iG (jm 0 nd) (iG (jm 1 nd) kY))),iV, 'x'⟩))) iz)) iz)))))))⟩
theorem Xu(D:ib K mg "can_stand" (jE 25))(d:CP Z "is_cut" 2 (mB c))(b:CP Z "same_spots" 2 (kc c)):CP Z "can_stand" 3 (ml c):=lW Z 2 (ml c) ["dims","ahead","thing"] ["dims","ahead","thing"] rfl D λnd a hr=>⟨_,(gU (j4 (IY (xY (kq LY J5 (il (ju (K:=K)) lR (by rfl) B.len lS 'x') (Do 7 ER.k_MOST_CUTS)) (uj 'x'))) 'x' jh) (ia (jq (Bq (il (mR (K:=K) rfl) tT (by rfl) B.any sR (gY (j8 (lx ["cut","thing"] [none,some 2] a (jj (hU 1)) (λnd a=>⟨(jm 0 nd),iV, 'x'⟩))) iz))))))⟩
theorem Xy(D:ib K mg "point_off" (jE 40))(a:CP Z "lowest" 2 (kZ c))(e:CP Z "dot" 1 (uk c))(d:CP Z "left_at" 2 (kD c)):CP Z "point_off" 3 (kL c):=lW Z 2 (kL c) ["ahead","cut","point","sign","often","other","step","parts"] ["ahead","cut","point","sign"] rfl D λnd b hr=>⟨_,(gU (jc 4 nd kh) (gU (lY PassesOwn.never rfl (jj (hU 0)) (jQ 5 nd) (gU (jc 6 nd (il oz tY (by rfl) B.abs tm 'x')) (ia (jc 4 nd (il (IX rfl) Qy (by rfl) B.max SU (gY (hU 4) (gY (s9 (HE (hU 6) (il oz tY (by rfl) B.abs tm 'x')) kh) iz))))))) (gU (pA ["part","number","often","sign"] [none,none,some 4,some 3] 7 nd b (oZ B.zip 'x') (λnd b=>⟨(nE 2 rfl (iG (jm 0 nd) (iG (jm 1 nd) kY))),iV, 'x'⟩) oo) (ia (jq (ko a hr (gY (s9 (kJ (j6 (K:=K)) lI (by rfl) B.tuple lG 'x') 'x') iz)))))))⟩
theorem Xx(D:ib K mg "point_on" (jE 42))(b:CP Z "lowest" 2 (kZ c))(d:CP Z "left_at" 2 (kD c))(e:CP Z "sign_of" 1 (lq c))(f:CP Z "without_place" 1 (iP c)):CP Z "point_on" 3 (lH c):=lW Z 2 (lH c) ["cut","place","point","often","part","others"] ["cut","place","point"] rfl D λnd a hr=>⟨_,(gU (jc 3 nd (il oz tY (by rfl) B.abs tm 'x')) (gU 'x' (gU (jc 5 nd (kJ (j6 (K:=K)) lI (by rfl) B.tuple lG (gY (j8 (lx ["number","often"] [none,some 3] a (jj (hU 2)) (λnd a=>⟨(jm 0 nd),iV, 'x'⟩))) iz))) 'x')))⟩
theorem Xq(D:ib K mg "place_of_same" (jE 51))(a:CP Z "same_spots" 2 (kc c)):CP Z "place_of_same" 3 (j5 c):=lW Z 2 (j5 c) ["seen","one","place","other"] ["seen","one"] rfl D λnd b hr=>⟨_,(gU (lY PassesOwn.never rfl (uT B.enumerate 'x') (tW 2 rfl (jG (jQ 2 nd) (jG (jQ 3 nd) oE))) 'x') 'x')⟩
theorem XD(D:ib K mg "_law_cutting" (jE 58))(d:CP Z "_law_draw" 1 (iE c))(e:CP Z "_law_cut" 2 (lE c))(b:CP Z "_law_same" 1 (l8 c)):CP Z "_law_cutting" 3 (lj c):=lW Z 2 (lj c) ["_law_cell","_law_most","_law_dims","_law_found","_law_k","_law_cut_here"] ["_law_cell","_law_most"] rfl D λnd a hr=>⟨_,(gU 'x' (gU 'x' (gU (u0 PassesOwn.never rfl (nM B.range 'x') (jQ 4 nd) (gU 'x' (ia (j4 (EN hr (j8 (lx ["_law_one","_law_cut_here"] [none,some 5] a (jj (hU 3)) (λnd a=>⟨(jm 0 nd),(qS 'x'),(hU 0)⟩))) (j8 (F8 iz))) (ia (oq 3 (pv 3) (hU 5))) jh)))) 'x')))⟩
theorem Xo(D:ib K mg "checked_cuts" (jE 26))(a:CP Z "is_dims" 2 (nZ c))(b:CP Z "can_stand" 3 (ml c)):CP Z "checked_cuts" 4 (kG c):=lW Z 3 (kG c) ["dims","things","ahead","thing"] ["dims","things"] rfl D λnd d hr=>⟨_,(gU (j4 (IY (xY 'x' (uj (oU (sA (rg "list" (by decide) B.isinstance B.list qu (hU 1))))))) (ia xo) jh) (gU 'x' (gU (lY PassesOwn.never rfl (jj (hU 1)) (jQ 3 nd) (gU 'x' (ia (oq 2 (pv 2) (kJ (j6 (K:=K)) lI (by rfl) B.tuple lG 'x'))))) (ia (jq (kJ (j6 (K:=K)) lI (by rfl) B.tuple lG 'x'))))))⟩
theorem Xw(D:ib K mg "settled" (jE 29))(a:CP Z "cleared" 3 (jt c)):CP Z "settled" 4 (lr c):=lW Z 3 (lr c) ["row","pivots","place","pivot"] ["row","pivots"] rfl D λnd b hr=>⟨_,(gU (lY PassesOwn.never rfl (jj (hU 1)) (tW 2 rfl (jG (jQ 2 nd) (jG (jQ 3 nd) oE))) 'x') 'x')⟩
theorem W9(D:ib K mg "with_pivot" (jE 30))(b:CP Z "cleared" 3 (jt c)):CF Z "with_pivot" 4 (lJ c):=yW Z 3 (lJ c) ["pivots","row","place"] ["pivots","row","place"] rfl D λnd a hr=>⟨_,(ia (rh (EK (j8 (lx ["other_place","pivot","row","place"] [none,none,some 1,some 2] a (jj (hU 0)) (λnd a=>⟨(nE 2 rfl (iG (jm 0 nd) (iG (jm 1 nd) kY))),iV, 'x'⟩))) 'x')))⟩
theorem XE(D:ib K mg "seen_on" (jE 50))(f:CP Z "first_place" 1 (jT c))(b:CP Z "lowest" 2 (kZ c))(d:CP Z "without_place" 1 (iP c))(a:CP Z "cleared" 3 (jt c)):CP Z "seen_on" 4 (mQ c):=lW Z 3 (mQ c) ["cut","other","place"] ["cut","other"] rfl D λnd e hr=>⟨_, 'x'⟩
theorem WZ(D:ly K c.Cutting "__init__" "Cutting.__init__" (m6 (jE 27) 0))(a:CP Z "checked_cuts" 4 (kG c)):C2 P w K mg base "Cutting" c.Cutting 5 (Cy K c.Cutting (ja c)):=Wj Z 4 (ja c) ["self","dims","cuts"] rfl ER.cl_Cutting ER.na_Cutting_own_cuts ER.na_Cutting_own_dims ER.mk_Cutting ER.kp_Cutting ER.mg_Cutting D λhr=>Wx rfl (pv 0) (ko a hr (gY (hU 1) (gY (hU 2) iz))) (pv 0) (hU 1)
theorem XG(D:ib K mg "pivots_and_rests" (jE 31))(d:CP Z "settled" 4 (lr c))(b:CF Z "with_pivot" 4 (lJ c)):CP Z "pivots_and_rests" 5 (jX c):=lW Z 4 (jX c) ["rows","dims","pivots","rests","row","left","places"] ["rows","dims"] rfl D λnd a hr=>⟨_,(gU 'x' (gU 'x' (gU (lY PassesOwn.never rfl (jj (hU 0)) (jQ 4 nd) (gU 'x' (gU (pA ["place","left"] [none,some 5] 6 nd a (yi.pim (nM B.range 'x')) (λnd a=>⟨(jm 0 nd),(qS 'x'),(hU 0)⟩) oo) (ia (j4 'x' (ia (oq 3 (pv 3) (hU 5))) 'x'))))) 'x')))⟩
theorem Xc(D:ib K mg "flat_on" (jE 33))(b:CP Z "pivots_and_rests" 5 (jX c))(d:CP Z "settled" 4 (lr c)):CP Z "flat_on" 6 (ku c):=lW Z 5 (ku c) ["cuts","dims","some","found","pivots","around"] ["cuts","dims","some"] rfl D λnd a hr=>⟨_,(gU (jc 3 nd (ko b hr (gY (j8 (lx ["k","cuts"] [none,some 0] a (jj (hU 2)) (λnd a=>⟨(jm 0 nd),iV, 'x'⟩))) 'x'))) (gU (j4 (sA (il (mR (K:=K) rfl) tT (by rfl) B.any sR (gY (j8 (lx ["rest"] [none] a (jj 'x') (λnd a=>⟨(jm 0 nd),iV,(il (mR (K:=K) rfl) tT (by rfl) B.any sR 'x')⟩))) iz))) 'x' jh) (gU 'x' (gU (pA ["k","cut","pivots"] [none,none,some 4] 5 nd a (uT B.enumerate 'x') (λnd a=>⟨(nE 2 rfl (iG (jm 0 nd) (iG (jm 1 nd) kY))),(qS (oU (sA (il (mR (K:=K) rfl) tT (by rfl) B.any sR 'x')))),(hU 0)⟩) oo) (ia (jq (qt (gY (zm (hU 1) (il (ju (K:=K)) lR (by rfl) B.len lS 'x')) (gY (kJ (j6 (K:=K)) lI (by rfl) B.tuple lG 'x') iz)))))))))⟩
theorem Xi(D:ly K c.Cutting "without" "Cutting.without" (m6 (jE 27) 5))(b:C2 P w K mg base "Cutting" c.Cutting 5 (Cy K c.Cutting (ja c)))(a:CP Z "is_number_of" 2 (jr c)):jR P w K mg base c.Cutting "without" 7 (t5 K (iK c)):=KF Z 6 (iK c) ["self","k"] ["self","k"] rfl ER.cl_Cutting D λnd d hr=>⟨_,(gU (j4 (oU (sA (ko a hr (gY (hU 1) (gY (il (ju (K:=K)) lR (by rfl) B.len lS (gY (tP rfl ER.cl_Cutting ER.na_Cutting_own_cuts (hU 0)) iz)) iz))))) (ia xo) jh) (ia (jq (Kg b hr (gY (tP rfl ER.cl_Cutting ER.na_Cutting_own_dims (hU 0)) (gY (j8 (qg (oB (K:=K)) rA (by rfl) B.list qu (gY (s9 (uy (tP rfl ER.cl_Cutting ER.na_Cutting_own_cuts (hU 0)) A9 (BB (hU 1))) (uy (tP rfl ER.cl_Cutting ER.na_Cutting_own_cuts (hU 0)) (BB 'x') A9)) iz))) iz))))))⟩
theorem Xa(D:ib K mg "flats" (jE 34))(f:HK K mg base "flats")(d:jR P w K mg base c.Cutting "cuts" 1 (CB K (iI c)))(e:jR P w K mg base c.Cutting "dims" 1 (t5 K (iJ c)))(a:CP Z "flat_on" 6 (ku c)):CF Z "flats" 7 (qo c):=SA Z 6 (qo c) ["cutting","cuts","dims","found","k","flat","smaller"] ["cutting"] rfl D f λb nd g hr=>⟨_,(gU (jc 1 nd (j8 (Bt d hr (hU 0)))) (gU (jc 2 nd (yP e hr (hU 0))) (NS (N:=7) 3 4 5 6 nd PassesOwn.never hr b B.list B.sorted 'x' (yi.im (nM B.range (gY (il (ju (K:=K)) lR (by rfl) B.len lS 'x') iz))) 'x')))⟩
theorem Xg(D:ib K mg "trace" (jE 52))(f:jR P w K mg base c.Cutting "cuts" 1 (CB K (iI c)))(g:jR P w K mg base c.Cutting "dims" 1 (t5 K (iJ c)))(e:CP Z "seen_on" 4 (mQ c))(h:CP Z "is_cut" 2 (mB c))(b:C2 P w K mg base "Cutting" c.Cutting 5 (Cy K c.Cutting (ja c)))(a:CP Z "is_number_of" 2 (jr c))(i:CP Z "place_of_same" 3 (j5 c))(d:jR P w K mg base c.Cutting "many" 1 (t5 K (kx c))):CP Z "trace" 7 (rO c):=lW Z 6 (rO c) ["cutting","k","dims","cuts","seen","whence","number","other","one","place"] ["cutting","k"] rfl D λnd j hr=>⟨_,(gU (jc 2 nd (zm (yP g hr (hU 0)) kh)) (gU (j4 (IY (xY 'x' (uj (oU (sA (ko a hr (gY (hU 1) (gY (yP d hr (hU 0)) iz)))))))) (ia xo) jh) (gU (jc 3 nd (j8 (Bt f hr (hU 0)))) (gU 'x' (gU 'x' (gU (Kh 5 PassesOwn.never rfl (uT B.enumerate 'x') (tW 2 rfl (jG (jQ 6 nd) (jG (jQ 7 nd) oE))) (vY (yC 5 'x') (ub (KU 'x' (vY (yC 5 'x') (ub (KU (kq Kw JO (hU 9) KR) (vY (yC 5 (oq 4 (pv 4) (hU 8))) (ub (KY 5 (pv 5) 'x'))) (ub (JJ 5 (pv 5) (hU 9) (hU 6)))))) (Mc 5))))) (ia (jq (qt (gY (Kg b hr 'x') 'x'))))))))))⟩
theorem Xn(D:ib K mg "flat_numbers" (jE 37))(b:CF Z "numbers_in_order" 2 (iF c))(a:CF Z "flats" 7 (qo c)):CF Z "flat_numbers" 8 (kH c):=yW Z 7 (kH c) ["cutting"] ["cutting"] rfl D λnd d hr=>⟨_, 'x'⟩
theorem W3(D:ib K mg "dim_sums" (jE 48))(b:CF Z "flats" 7 (qo c))(d:CF Z "numbers_in_order" 2 (iF c))(a:jR P w K mg base c.Cutting "dims" 1 (t5 K (iJ c))):CF Z "dim_sums" 8 (jM c):=yW Z 7 (jM c) ["cutting","sums","told","flat","number"] ["cutting"] rfl D λnd e hr=>⟨_,(gU (C1 1 nd (J0 'x' (s9 (yP a hr (hU 0)) kh))) (gU 'x' (gU (lY PassesOwn.never rfl (oZ B.zip 'x') (tW 2 rfl (jG (jQ 3 nd) (jG (jQ 4 nd) oE))) (ia (B1 1 (pv 1) 'x' 'x'))) (ia (yA 1 (pv 1))))))⟩
theorem Xs(D:ib K mg "how_many_lands" (jE 49))(b:CF Z "flat_numbers" 8 (kH c)):CP Z "how_many_lands" 9 (iS c):=lW Z 8 (iS c) ["cutting"] ["cutting"] rfl D λnd a hr=>⟨_,(ia (jq (il (vB (K:=K) rfl) Fp (by rfl) B.sum Gg (gY (j8 (lx ["number"] [none] a (jj 'x') (λnd a=>⟨(jm 0 nd),iV,(il oz tY (by rfl) B.abs tm 'x')⟩))) iz))))⟩
theorem WL{k:Nat}{b:List T->M T}(D:ib K mg "crossings" (jE 43))(g:CP Z "without_place" k (iP c))(d:CP Z "cleared" k (jt c))(f:CP Z "point_on" k (lH c))(e:CP Z "cells" k b):CF Z "crossings" (k+1) (lU c b):=yW Z k (lU c b) ["ahead","cut","places","place","traces"] ["ahead","cut"] rfl D λnd a hr=>⟨_,(gU (pA ["place","number"] [none,none] 2 nd a (uT B.enumerate 'x') (λnd a=>⟨(nE 2 rfl (iG (jm 0 nd) (iG (jm 1 nd) kY))),(qS 'x'),(hU 0)⟩) oo) (gU 'x' (gU 'x' (gU (pA ["other","place","cut"] [none,some 3,some 1] 4 nd a (jj (hU 0)) (λnd a=>⟨(jm 0 nd),iV,(ko g hr (gY (ko d hr 'x' (aL _)) 'x') (aL _))⟩) oo) (gU (j4 (sA (il (mR (K:=K) rfl) tT (by rfl) B.any sR (gY (j8 (lx ["trace"] [none] a (jj (hU 4)) (λnd a=>⟨(jm 0 nd),iV,(Bq (il (mR (K:=K) rfl) tT (by rfl) B.any sR 'x'))⟩))) iz))) 'x' jh) (ia (rh (lx ["signs","point","cut","place"] [none,none,some 1,some 3] a (jj (ko e hr (gY (hU 4) (gY (zm (il (ju (K:=K)) lR (by rfl) B.len lS 'x') kh) iz)) (aL _))) (λnd a=>⟨(nE 2 rfl (iG (jm 0 nd) (iG (jm 1 nd) kY))),iV,(qt (gY (hU 0) (gY (ko f hr 'x' (aL _)) iz)))⟩)))))))))⟩
theorem XC{k:Nat}{a:List T->M T}(D:ib K mg "with_one_more" (jE 44))(e:CF Z "crossings" k (lU c a))(d:CP Z "point_off" k (kL c))(f:CP Z "sign_of" k (lq c))(b:CP Z "left_at" k (kD c)):CF Z "with_one_more" (k+1) (k9 c a):=yW Z k (k9 c a) ["found","ahead","cut","crossed","grown","signs","point","sign"] ["found","ahead","cut"] rfl D λnd g hr=>⟨_,(gU (jc 3 nd (kJ (EB rfl (Xr hr)) Pd (by rfl) B.dict Oi (gY (j8 (xm e hr 'x' (aL _))) iz))) (gU 'x' (gU (lY PassesOwn.never rfl (jj (hU 0)) (tW 2 rfl (jG (jQ 5 nd) (jG (jQ 6 nd) oE))) (ia (j4 (OS hr (hU 5) (hU 3)) (ia (lY PassesOwn.never rfl (jj 'x') (jQ 7 nd) (ia (oq 4 (pv 4) (qt (gY 'x' (gY (ko d hr (gY (hU 1) (gY (hU 2) (gY (Sz hr (hU 3) (hU 5)) 'x'))) (aL _)) iz))))))) (ia (oq 4 (pv 4) (qt (gY (s9 (hU 5) (qt (gY (ko f hr (gY (ko b hr 'x' (aL _)) iz) (aL _)) iz))) 'x'))))))) (ia (yA 4 (pv 4))))))⟩
theorem Xt{k m:Nat}(D:ib K mg "cells" (jE 45))(a:CF Z "with_one_more" k (k9 c (kR c m))):CP Z "cells" (k+1) (kR c (m+1)):=lW Z k (kR c (m+1)) ["cuts","dims","found","k","cut"] ["cuts","dims"] rfl D λnd b hr=>⟨_,(gU (jc 2 nd (j8 (F8 (gY (qt (gY (qt iz) (gY (s9 (NT 'x' (hU 1)) 'x') iz))) iz)))) (gU (lY PassesOwn.never rfl (uT B.enumerate 'x') (tW 2 rfl (jG (jQ 3 nd) (jG (jQ 4 nd) oE))) (ia (jc 2 nd (j8 (xm a hr 'x' (aL _)))))) 'x'))⟩
theorem oR(D_crossings:ib K mg "crossings" (jE 43))(D_with_one_more:ib K mg "with_one_more" (jE 44))(D_cells:ib K mg "cells" (jE 45))(O9:CP Z "without_place" 3 (iP c))(O21:CP Z "cleared" 3 (jt c))(O24:CP Z "point_on" 3 (lH c))(O23:CP Z "point_off" 3 (kL c))(O1:CP Z "sign_of" 3 (lq c))(O19:CP Z "left_at" 3 (kD c)):∀m:Nat,CP Z "cells" (3+3*m) (kR c m)
 |0=>UF (k:=2) ["cuts","dims","found","k","cut"] ["cuts","dims"] rfl D_cells
 |m+1=>by have IH:=oR D_crossings D_with_one_more D_cells O9 O21 O24 O23 O1 O19 m;exact Xt Z B ER (k:=3+3*m+2) D_cells (XC Z B ER (k:=3+3*m+1) D_with_one_more (WL Z B ER (k:=3+3*m) D_crossings (O9.mono (by omega)) (O21.mono (by omega)) (O24.mono (by omega)) IH) (O23.mono (by omega)) (O1.mono (by omega)) (O19.mono (by omega)))
theorem W8(D:ib K mg "gone_through" (jE 46))(d:jR P w K mg base c.Cutting "cuts" 1 (CB K (iI c)))(b:jR P w K mg base c.Cutting "without" 7 (t5 K (iK c)))(a:CF Z "crossings" 19 (lU c (kR c 5))):CF Z "gone_through" 20 (jy c):=yW Z 19 (jy c) ["cutting","k","others"] ["cutting","k"] rfl D λnd e hr=>⟨_,(gU (jc 2 nd (j8 (Bt d hr (Q0 b hr (hU 0) 'x')))) (ia (rh (lx ["signs","point"] [none,none] e (jj (j8 (xm a hr (gY (hU 2) (gY (GP (j8 (Bt d hr (hU 0))) (hU 1)) iz))))) (λnd e=>⟨(nE 2 rfl (iG (jm 0 nd) (iG (jm 1 nd) kY))),iV,(hU 0)⟩)))))⟩
theorem W7(D:ib K mg "_law_right" (jE 59))(a:jR P w K mg base c.Cutting "without" 7 (t5 K (iK c)))(f:jR P w K mg base c.Cutting "dims" 1 (t5 K (iJ c)))(g:CP Z "trace" 7 (rO c))(h:CP Z "how_many_lands" 9 (iS c))(d:CF Z "dim_sums" 8 (jM c))(e:CF Z "gone_through" 20 (jy c)):CP Z "_law_right" 21 (lX c):=lW Z 20 (lX c) ["_law_cutting_here","_law_k","_law_rest","_law_seen","_law_due"] ["_law_cutting_here","_law_k"] rfl D λnd b hr=>⟨_,(gU (jc 2 nd (Q0 a hr (hU 0) 'x')) (gU (j4 (EN hr (yP f hr (hU 0)) kh) (ia (jq (yR (Hs hr 'x' 'x') (zf (Hs hr (il (ju (K:=K)) lR (by rfl) B.len lS 'x') kh))))) jh) (gU 'x' (gU (pA ["_law_one","_law_two"] [none,none] 4 nd b (oZ B.zip 'x') (λnd b=>⟨(nE 2 rfl (iG (jm 0 nd) (iG (jm 1 nd) kY))),iV, 'x'⟩) oo) (gU 'x' (ia (jq (Hs hr (il (ju (K:=K)) lR (by rfl) B.len lS 'x') 'x'))))))))⟩
theorem oL{d:Addr}{fd:FuncData}(D:NL K "law" "law" (jE 60) d fd)(e:CP Z "_law_cutting" 3 (lj c))(b:C2 P w K mg base "Cutting" c.Cutting 5 (Cy K c.Cutting (ja c)))(f:CP Z "_law_cell_at" 1 (jU c))(g:CP Z "_law_right" 21 (lX c)):nQ P w K mg base sQ 22 d fd ["_law_script"] (t5 K (uO c)):=Vx Z 21 (uO c) ["_law_script","_law_asked","_law_dims","_law_cuts","_law_cutting_here"] ["_law_script"] rfl D λnd a hr=>⟨_,(gU (pA ["_law_k","_law_script"] [none,some 0] 1 nd a (yi.pim (nM B.range 'x')) (λnd a=>⟨(jm 0 nd),iV, 'x'⟩) oo) (gU (lY PassesOwn.never rfl (jj 'x') (tW 2 rfl (jG (jQ 2 nd) (jG (jQ 3 nd) oE))) (gU (jc 4 nd (Kg b hr (gY (hU 2) (gY (j8 (qg (oB (K:=K)) rA (by rfl) B.list qu 'x')) iz)))) (ia (j4 (oU (sA (il (p0 (K:=K) rfl) yq (by rfl) B.all xU (gY (j8 (lx ["_law_k","_law_cutting_here"] [none,some 4] a (yi.pim (nM B.range (gY (il (ju (K:=K)) lR (by rfl) B.len lS 'x') iz))) (λnd a=>⟨(jm 0 nd),iV, 'x'⟩))) iz)))) 'x' jh)))) 'x'))⟩
end
def RJ{l:W.OpenLaw}{w:World}{K:W.Frag}{h:Heap}{mg:Str->Option Value}{c:Cs}{fa f:Addr}{oc kV C pm i ct:Value}{od an:Option Addr}{N:Array (Option Value)}(X:K.In h)(G:h.Ns mainGlobals mg)(hfa:mg "law" = some (.ref fa))
  (a:W.nsIn K mainGlobals "law" = some (some (.ref f))) (lk:K.lookup f=some ⟨oc,od,.func (W.fnOf "law" "law" (j7 (jE 60)) (iR (jE 60)) (gZ (jE 60)) .none kV C pm an i ct),N⟩) (cc:W.codeIn K i "law" = true) (kk:W.keepIn K (.ref f)=true)
  (B:Bs mg) (ER:Er c K mg) (LF:∀ns:LI,(uO c) [.scr ns]=.ok (.bl true)) (D0:ib K mg "is_whole" (jE 7)) (D1:ib K mg "sign_of" (jE 9)) (D2:ib K mg "common_divisor" (jE 10)) (D3:ib K mg "dot" (jE 11)) (D4:ib K mg "first_place" (jE 22)) (D5:ib K mg "lies_in" (jE 35)) (D6:ib K mg "without_place" (jE 41)) (D7:ib K mg "_law_cell_at" (jE 54)) (D8:ib K mg "_law_draw" (jE 55)) (D9:ib K mg "_law_same" (jE 56)) (D10:ib K mg "is_number_of" (jE 8)) (D11:ib K mg "lowest" (jE 12)) (D12:ib K mg "is_dims" (jE 19)) (R:ib K mg "is_cut" (jE 21)) (D14:ib K mg "same_spots" (jE 23)) (D15:ib K mg "numbers_in_order" (jE 36)) (D16:ib K mg "left_at" (jE 39)) (D17:ib K mg "_law_cut" (jE 57)) (D18:ib K mg "cleared" (jE 13)) (D19:ib K mg "can_stand" (jE 25)) (D20:ib K mg "point_off" (jE 40)) (H:ib K mg "point_on" (jE 42)) (P:ib K mg "place_of_same" (jE 51)) (D23:ib K mg "_law_cutting" (jE 58)) (D24:ib K mg "checked_cuts" (jE 26)) (D25:ib K mg "settled" (jE 29)) (D26:ib K mg "with_pivot" (jE 30)) (Q:ib K mg "seen_on" (jE 50)) (D28:ib K mg "pivots_and_rests" (jE 31)) (L:ib K mg "flat_on" (jE 33)) (J:ib K mg "flats" (jE 34)) (D31:ib K mg "trace" (jE 52)) (D32:ib K mg "flat_numbers" (jE 37)) (D33:ib K mg "dim_sums" (jE 48)) (D34:ib K mg "how_many_lands" (jE 49)) (D35:ib K mg "cells" (jE 45)) (q:ib K mg "crossings" (jE 43)) (D37:ib K mg "with_one_more" (jE 44)) (D38:ib K mg "gone_through" (jE 46)) (D39:ib K mg "_law_right" (jE 59)) (M0:ly K c.Cutting "dims" "Cutting.dims" (m6 (jE 27) 1)) (M1:ly K c.Cutting "cuts" "Cutting.cuts" (m6 (jE 27) 2)) (M2:ly K c.Cutting "many" "Cutting.many" (m6 (jE 27) 3)) (M3:ly K c.Cutting "__init__" "Cutting.__init__" (m6 (jE 27) 0)) (M4:ly K c.Cutting "without" "Cutting.without" (m6 (jE 27) 5)) :
  ∃fd:FuncData,(∀(s:Shared) (v:Value),BindsTo s fd ⟨[v],[]⟩ [("_law_script",v)])/\∀b:Heap,K.In b->b.Ns mainGlobals mg->(∀y∈(["flats"]:List Str),HK K mg b y)->nQ l.prog w K mg b sQ 22 fa fd ["_law_script"] (Lz K):=by
 have e:=hfa.symm.trans (W.mg_of X G a);cases e;refine⟨W.fnOf "law" "law" (j7 (jE 60)) (iR (jE 60)) (gZ (jE 60)) .none kV C pm an i ct,?bnd,λb _ _ LL=>?main⟩
 case main=>have Z:Zx l.prog w K mg b:=⟨trivial⟩;have O0:=o0 Z B ER D0;have O1:=o1 Z B ER D1;have O2:=o2 Z B ER D2;have O3:=o3 Z B ER D3;have O4:=o4 Z B ER D4;have F:=o5 Z B ER M0;have O6:=o6 Z B ER M1;have O7:=o7 Z B ER M2;have O8:=o8 Z B ER D5;have E:=o9 Z B ER D6;have O10:=Xm Z B ER D7;have r:=XF Z B ER D8;have Y:=W1 Z B ER D9;have u:=Xl Z B ER D10 O0;have g:=W2 Z B ER D11 O2;have O15:=Xh Z B ER D12 O0;have A:=Xz Z B ER R O0;have o:=W6 Z B ER D14 O4;have D:=W4 Z B ER D15 O8;have m:=W5 Z B ER D16 O3;have O20:=Xf Z B ER D17 r;have d:=XA Z B ER D18 g O1;have U:=Xu Z B ER D19 A o;have S:=Xy Z B ER D20 g O3 m;have z:=Xx Z B ER H g m O1 E;have I:=Xq Z B ER P o;have O26:=XD Z B ER D23 r O20 Y;have O27:=Xo Z B ER D24 O15 U;have p:=Xw Z B ER D25 d;have O29:=W9 Z B ER D26 d;have O30:=XE Z B ER Q O4 g E d;have j:=WZ Z B ER M3 O27;have O32:=XG Z B ER D28 p O29;have O33:=Xc Z B ER L O32 p;have n:=Xi Z B ER M4 j u;have x:=Xa Z B ER J (LL "flats" (by decide)) O6 F O33;have O36:=Xg Z B ER D31 O6 F O30 A j u I O7;have O37:=Xn Z B ER D32 D x;have O38:=W3 Z B ER D33 x D F;have O39:=Xs Z B ER D34 O37;have O40:=oR Z B ER q D37 D35 (E.mono (by decide)) (d.mono (by decide)) (z.mono (by decide)) (S.mono (by decide)) (O1.mono (by decide)) (m.mono (by decide)) 5;have O41:=WL Z B ER (k:=18) q (E.mono (by decide)) (d.mono (by decide)) (z.mono (by decide)) O40;have O43:=W8 Z B ER D38 O6 n O41;have O44:=W7 Z B ER D39 n F O36 O39 O38 O43;exact (oL Z B ER (EI (st:=jE 60) lk cc kk) O26 j O10 O44).imp (JV λns _ _=>LF ns)
 case bnd=>exact λs v=>.of_eq rfl
end K46
namespace PySem.Challenge.cw_cutlands_k46_whole_a_cut_left_out_holds
def tw2700263652558743348:0=0:=rfl
def tw18183440862191504444:0=0:=rfl
def tw15278986739870761962:0=0:=rfl
def tw8748682221399031943:0=0:=rfl
def tw6578620717515495659:0=0:=rfl
def tw7644846372627478210:0=0:=rfl
def tw11318978807317640967:0=0:=rfl
def tw12383410241028568213:0=0:=rfl
def tw11162389662047790214:0=0:=rfl
def tw8695441456980829063:0=0:=rfl
def tw14022867296199967619:0=0:=rfl
def tw13097628350151411464:0=0:=rfl
def tw2751243453022794567:0=0:=rfl
def tw9212573399707503754:0=0:=rfl
def tw17363961964355268686:0=0:=rfl
def tw9190048460649419819:0=0:=rfl
def tw8191163728139809706:0=0:=rfl
def tw3203165657710064972:0=0:=rfl
def tw2718258830093532448:0=0:=rfl
def tw12588225034702957168:0=0:=rfl
def tw11654945774718622388:0=0:=rfl
def tw11214652059313024540:0=0:=rfl
def tw16876018223599832102:0=0:=rfl
def tw2898077361458982906:0=0:=rfl
def tw381608799195224459:0=0:=rfl
def tw2878482086598732796:0=0:=rfl
def tw18050844186151859038:0=0:=rfl
def tw18265259743530189373:0=0:=rfl
def tw11989771972417146029:0=0:=rfl
def tw14266049684454851695:0=0:=rfl
def tw16272503628730822093:0=0:=rfl
def tw9369832746407329882:0=0:=rfl
def tw18966341016342530:0=0:=rfl
def tw3269680113418878909:0=0:=rfl
def tw6217057227541792036:0=0:=rfl
def tw5162242469299307472:0=0:=rfl
def tw5951646181006168385:0=0:=rfl
def tw17297854354206724434:0=0:=rfl
def tw12246398991865055780:0=0:=rfl
def tw17356770162222042240:0=0:=rfl
def tw15490578361727859525:0=0:=rfl
def tw5163754818680779084:0=0:=rfl
def tw14777614861614982787:0=0:=rfl
def tw18029783493166029216:0=0:=rfl
def tw2907579598717754814:0=0:=rfl
def tw8168653092277109283:0=0:=rfl
def tw206780829270664137:0=0:=rfl
def tw4445983578393409452:0=0:=rfl
def tw16084272380333496517:0=0:=rfl
def tw7926801513773659120:0=0:=rfl
def tw493478132406967001:0=0:=rfl
def tw3553718571775526618:0=0:=rfl
def tw13962855076351593553:0=0:=rfl
def tw14480902040289306129:0=0:=rfl
def tw3388270249978410492:0=0:=rfl
def tw767775767527217136:0=0:=rfl
def tw8880232874079006707:0=0:=rfl
def tw9503459020834222397:0=0:=rfl
def tw8119502906515315042:0=0:=rfl
def tw7481958816548844606:0=0:=rfl
def tw17433650640140434183:0=0:=rfl
def tw701053143334466697:0=0:=rfl
def tw10599660630722503485:0=0:=rfl
def tw15713323564874389211:0=0:=rfl
def tw8528075035497383523:0=0:=rfl
def tw4318174235860791204:0=0:=rfl
def tw11991750773222164293:0=0:=rfl
def tw14848599014190491534:0=0:=rfl
def tw6552459883395187758:0=0:=rfl
def tw17082916112882531654:0=0:=rfl
def tw4153855078137593581:0=0:=rfl
def tw3134471260203404782:0=0:=rfl
def tw10172574814574880397:0=0:=rfl
def tw13204171268400508664:0=0:=rfl
def tw182102731595951831:0=0:=rfl
def tw6626306219229339369:0=0:=rfl
def tw18073869622176439780:0=0:=rfl
def tw235376653534577711:0=0:=rfl
def tw179373704202369503:0=0:=rfl
def tw2843407085081606819:0=0:=rfl
def tw15219355858480677380:0=0:=rfl
def tw15234656803346302380:0=0:=rfl
def tw7709741103348533329:0=0:=rfl
def tw17031141787122622489:0=0:=rfl
def tw11018640138038721398:0=0:=rfl
def tw820185809015003009:0=0:=rfl
def tw13023525821751916256:0=0:=rfl
def tw3225180013802631672:0=0:=rfl
def tw4925199647759679982:0=0:=rfl
def tw15947492498284942464:0=0:=rfl
def tw16343156922120266767:0=0:=rfl
def tw14487361227791273188:0=0:=rfl
def tw3667727873920358736:0=0:=rfl
def tw14303357593845214106:0=0:=rfl
def tw8901747654005226091:0=0:=rfl
def tw4525835623402302102:0=0:=rfl
def tw9904748038417855186:0=0:=rfl
def tw17837909614223181063:0=0:=rfl
def tw14946555587471434654:0=0:=rfl
def tw15817717219846541462:0=0:=rfl
def tw2155951315146281050:0=0:=rfl
def tw17821473718471821699:0=0:=rfl
def tw15333821877715922892:0=0:=rfl
def tw16699287876275491658:0=0:=rfl
def tw12707481865954470825:0=0:=rfl
def tw7069961549591455447:0=0:=rfl
def tw17354179270451198577:0=0:=rfl
def tw12238887598520484909:0=0:=rfl
def tw7778661938793567672:0=0:=rfl
def tw3688197805716746365:0=0:=rfl
def tw12193670033435659739:0=0:=rfl
def tw10741234706320658343:0=0:=rfl
def tw8176554992123806780:0=0:=rfl
def tw3939877618136101024:0=0:=rfl
def tw16451629913507850981:0=0:=rfl
def tw5170718492963006443:0=0:=rfl
def tw12329327824943661519:0=0:=rfl
def tw14386835380452519465:0=0:=rfl
def tw4388061352160051769:0=0:=rfl
def tw18443785055648065063:0=0:=rfl
def tw12998474154865184810:0=0:=rfl
def tw13029330438445694442:0=0:=rfl
def tw8840958929300386931:0=0:=rfl
def tw2672328921160314618:0=0:=rfl
def tw15729796539902049654:0=0:=rfl
def tw13287337605551928978:0=0:=rfl
def tw11628156294064904608:0=0:=rfl
def tw3702713891994379533:0=0:=rfl
def tw9871606112008538226:0=0:=rfl
end PySem.Challenge.cw_cutlands_k46_whole_a_cut_left_out_holds
open PySem PySem.W PyProof.Rows
set_option Elab.async true
theorem PySem.Challenge.cw_cutlands_k46_whole_a_cut_left_out_holds : PySem.Challenge.rw_cutlands_k46_whole_a_cut_left_out.Holds := by
 w_on;o_law;k_head;(case hw=>w_witness2);k_fill;refine L3.Si (l:=PySem.Challenge.rw_cutlands_k46_whole_a_cut_left_out) (k:=22) (x:= "_law_script") ["flats"] rfl ⟨rfl,by decide,by decide⟩ rfl (λw h Y=>PySem.W.km_in_of Y) ?X ?G ?F
 case X=>exact List.forall_mem_cons.mpr ⟨⟨_,rfl⟩,λ_ h=>nomatch h⟩
 case G=>intro w;kernel_rfl
 case F=>intro w mg fa h KX G hmg;refine' K46.RJ KX G hmg ?a ?l ?c ?k ?B ?E (λns=>CL.IB ns) ?_ ?_ ?_ ?_ ?_ ?_ ?_ ?_ ?_ ?_ ?_ ?_ ?_ ?_ ?_ ?_ ?_ ?_ ?_ ?_ ?_ ?_ ?_ ?_ ?_ ?_ ?_ ?_ ?_ ?_ ?_ ?_ ?_ ?_ ?_ ?_ ?_ ?_ ?_ ?_ ?_ ?_ ?_ ?_ ?_;(case a=>k_is);(case l=>k_is);(case c=>k_is);(case k=>k_is);(case B=>constructor<;>(apply mg_none_of KX G;k_is));(case E=>apply K46.VC KX G<;>first | k_is | k_exc | decide);all_goals first | (apply L2.SJ KX G<;>k_is) | (apply K46.Uw<;>first | k_is | k_exc | decide)
