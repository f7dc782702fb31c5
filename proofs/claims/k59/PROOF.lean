import PyProof.Rows.All
import Wide.All
import OpenK.AllK
import Wide.FinOn
import Lean
import PyProof.EqAt
import PyProof.EqKinds
import PyProof.TupleCall
import PyProof.P3Eq
import PyProof.NeData
import PyProof.ReprRoads
import PyProof.ReprLen
import PyProof.Rows.ReprOcc
import PyProof.ConsumeWalk
import PyProof.Rows.SumAny
import PyProof.ZipIter
import PyProof.Rows.ZipGen
import PyProof.Rows.SeqMore
import PyProof.FactsAll.tuple
import PyProof.WalksMore
import PyProof.EnumMake
import PyProof.EnumFor
import PyProof.Rows.MinMaxN
import KE.KDictList
import KE.KRevIter
import KE.KItemsList
import PyProof.Rows.SortWalk
import PyProof.Rows.SetFrom
import PyProof.SetRoads
import PyProof.StrLoop
import PyProof.StrWalks
import PyProof.StrCalls2
import PyProof.StrLawsTight
import PyProof.StrLawsReplace
import PyProof.SliceStr2
import PyProof.StrOps
import PyProof.Rows.DictRows
import KE.KIntText
import PyProof.AttrMissHeap
import KE.KDictOf
import PyProof.Rows.TupDisplay
import PyProof.DictItems
import PyProof.DictItemsLoops
import KE.KPairComp
import PyProof.ExcInit
import PyProof.ExcClass3
import PyProof.InstStoreFacts
import PyProof.Rows.ChunkEnd
import KE.KSortTup
import PyProof.Rows.SortRunsK
import PyProof.SetKind
import PyProof.SetScanFacts
import PyProof.TupleKey
import PyProof.IsRules
import KE.KDictSum
import KE.KLam
import PySem.Challenge.RW_cutlands_k59_whole_lands_tell_their_cuts
set_option bootstrap.genMatcherCode false
set_option maxRecDepth 100000
set_option maxHeartbeats 0
set_option linter.all false
noncomputable section
set_option compiler.extract_closed false
set_option hygiene false
abbrev LI:=List Int
abbrev LL:=List LI
section
open PySem
def aa:=@List.getElem?_eq_some_iff
def ae:=@Heap.get?_push_of_some
def af:=@List.getD_eq_getElem?_getD
def ag:=@List.getElem?_eq_getElem
def ai:=@List.mem_append
def aj:=@List.mem_singleton
def ak:=@wpAny_pure
def ao:=@wpAny_bind
def aq:=@List.getElem?_set_ne
def ar:=@Heap.get?_push_size
def au:=@List.mem_of_getElem?
def av:=@List.getElem?_map
def aw:=@List.length_map
def ax:=@List.mem_append_left
def ay:=@List.length_cons
def aA:=@Int.le_of_lt
def aB:=@decide_eq_false
def aC:=@decide_eq_true
def aD:=@List.mem_map
def aE:=@Nat.lt_of_lt_of_le
def aF:=@List.mem_cons
def aG:=@Nat.zero_add
def aH:=@Bool.false_ne_true
def aI:=@List.map_map
def aJ:=@Int.mul_le_mul_of_nonneg_right
def aK:=@Nat.le_refl
def aL:=@Heap.lt_size
def aM:=@Nat.ne_of_lt
def aN:=@Nat.le_trans
def aO:=@Classical.byContradiction
def aP:=@Int.mul_nonneg
def aQ:=@if_pos
def aR:=@if_neg
def aS:=@List.mem_range
def aT:=@List.length_append
def aU:=@List.mem_filter
def aV:=@List.getElem_mem
def aW:=@List.of_mem_zip
def aX:=@Int.mul_pos
def aY:=@Int.natAbs_mul
def aZ:=@List.map_append
def a9:=@Nat.lt_irrefl
def bc:=@List.eq_of_mem_replicate
def bg:=@Nat.le_of_lt
def bh:=@List.filterMap_cons
def bj:=@List.mem_cons_self
def bx:=@List.mem_cons_of_mem
def bz:=@Array.append_assoc
def bA:=@Array.length_toList
def bB:=@Nat.le_of_eq
def bC:=@Nat.ne_of_gt
def bD:=@Int.mul_one
def bE:=@Int.natCast_nonneg
def bF:=@List.mem_filterMap
def bG:=@List.mem_append_right
def bH:=@List.size_toArray
def bI:=@List.any_eq_false
def bJ:=@Nat.succ_le_succ
def bK:=@List.map_cons
def bL:=@Nat.le_succ
def bM:=@Nat.lt_succ_self
def bN:=@Nat.zero_le
def bO:=@List.append_nil
def bQ:=@List.nodup_cons
def bR:=@Option.isSome_iff_exists
def bS:=@List.length_take
def bT:=@Nat.min_le_right
def bU:=@List.length_replicate
def bV:=@Int.toNat_natCast
def bW:=@Nat.succ_pos
def bX:=@Nat.add_assoc
def bY:=@List.length_drop
def bZ:=@Bool.and_eq_true
def b5:=@Int.ofNat_inj
def b6:=@Nat.sub_le
def b7:=@Int.not_le
def b8:=@List.length_set
def b9:=@List.all_cons
def cf:=@List.any_cons
def cj:=@List.replicate_succ
def cm:=@List.flatten_cons
def cq:=@List.append_assoc
def cu:=@List.foldl_cons
def cv:=@Nat.not_lt_of_le
def cw:=@List.length_singleton
def cx:=@Nat.succ_mul
def cy:=@List.nil_append
def cA:=@Nat.mul_comm
def cB:=@List.map_nil
def cC:=@Nat.le_of_not_lt
def cD:=@Nat.lt_of_le_of_lt
def cE:=@Bool.false_eq_true
def cF:=@List.lookup_cons
def cG:=@Nat.le_of_succ_le
def cH:=@Nat.lt_succ_of_lt
def cI:=@Option.isSome_some
def cJ:=@Nat.le_add_right
def cK:=@Nat.le_succ_of_le
def cL:=@List.range_succ_eq_map
def cN:=@List.all_map
def cO:=@List.any_map
def cP:=@List.take_of_length_le
def cQ:=@List.all_eq_true
def cR:=@List.length_nil
def cS:=@Option.isSome_map
def cT:=@Nat.lt_trans
def cU:=@Option.map_eq_some_iff
def cV:=@Int.toNat_of_nonneg
def cW:=@List.length_pos_iff
def cX:=@Nat.lt_trichotomy
def cY:=@Nat.sub_zero
def cZ:=@List.pairwise_iff_getElem
def c6:=@List.countP_cons
def c7:=@List.mem_iff_getElem?
def c9:=@Int.fmod_def
def dc:=@Int.gcd_dvd_left
def de:=@Int.gcd_dvd_right
def dg:=@Int.dvd_mul_of_dvd_left
def dh:=@Int.fmod_nonneg_of_pos
def du:=@Int.fmod_lt_of_pos
def dw:=@Int.gcd_pos_of_ne_zero_right
def dy:=@Int.ofNat_lt
def dz:=@Int.ofNat_le
def dA:=@Int.mul_assoc
def dB:=@Int.mul_comm
def dC:=@Int.mul_fdiv_cancel_left
def dD:=@Int.ne_of_gt
def dE:=@Int.mul_neg
def dF:=@Int.eq_of_mul_eq_mul_right
def dG:=@Int.mul_ne_zero
def dH:=@Int.gcd_comm
def dI:=@Int.dvd_gcd_mul_iff_dvd_mul
def dJ:=@Nat.eq_zero_or_pos
def dM:=@Nat.le_add_left
def dN:=@List.lookup_cons_self
def dO:=@List.drop_eq_getElem_cons
def dP:=@Nat.le_antisymm
def dQ:=@Int.le_trans
def dR:=@Int.lt_of_lt_of_le
def dS:=@List.mem_nil_iff
def dU:=@List.map_take
def dW:=@List.map_drop
def dX:=@Nat.not_lt_zero
def dY:=@Nat.pow_le_pow_right
def dZ:=@Nat.pow_add
def d6:=@Nat.le_max_left
def d7:=@Nat.pow_succ
def d8:=@Int.natAbs_add_le
def d9:=@Int.natAbs_neg
def eg:=@List.drop_zero
def ez:=@Nat.min_eq_left
def eA:=@List.drop_of_length_le
def eB:=@Int.le_refl
def eD:=@Nat.succ_lt_succ
def eE:=@List.length_reverse
def eF:=@List.cons_append
def eG:=@List.dropLast_concat_getLast
def eI:=@Nat.add_le_add_right
def eJ:=@List.getLast_mem
def eK:=@List.dropLast_subset
def eM:=@List.map_dropLast
def eN:=@List.any_eq_true
def eO:=@Int.lt_asymm
def eP:=@List.zip_cons_cons
def eQ:=@Nat.two_pow_pos
def eR:=@List.length_zip
def eS:=@Int.zero_mul
def eT:=@Int.mul_eq_zero
def eU:=@Int.not_lt
def eV:=@Int.mul_le_mul_of_nonneg_left
def eW:=@Int.mul_zero
def eX:=@Int.dvd_trans
def eY:=@Int.one_mul
def eZ:=@List.take_length
def fg:=@List.getElem_map
def fj:=@Int.neg_mul
def fv:=@Int.mul_add
def fw:=@Nat.le_of_lt_succ
def fz:=@List.length_erase_of_mem
def fC:=@List.map_set
def fE:=@List.countP_mono_left
def fF:=@Nat.lt_of_le_of_ne
def fG:=@Nat.lt_or_ge
def fH:=@Int.sub_nonneg_of_le
def fJ:=@Int.mul_nonpos_of_nonneg_of_nonpos
def fK:=@List.mem_of_mem_erase
def fL:=@List.countP_eq_length_filter
def fM:=@List.nodup_range
def fN:=@Int.le_of_eq
def fO:=@Int.add_nonneg
def fP:=@Int.mul_neg_of_pos_of_neg
def fQ:=@Int.neg_pos_of_neg
def fR:=@Int.sub_pos_of_lt
def fS:=@Rat.intCast_lt_intCast
def fT:=@Rat.intCast_mul
def fU:=@Rat.mul_pos
def fV:=@Rat.le_of_lt
def fW:=@List.sum_cons
def fX:=@Int.fdiv_nonneg
def fY:=@Int.mul_le_mul_of_nonpos_left
def fZ:=@Int.lt_of_le_of_lt
def f9:=@Int.lt_of_mul_lt_mul_right
def gh:=@Int.pow_pos
def gq:=@Int.mul_le_mul
def gw:=@Int.pow_succ
def gx:=@Nat.mul_le_mul_left
def gy:=@Int.eq_of_mul_eq_mul_left
def gz:=@List.mem_or_eq_of_mem_set
def gA:=@List.pairwise_map
def gB:=@List.pairwise_append
def gC:=@List.pairwise_singleton
def gD:=@Int.ne_of_lt
def gE:=@List.map_congr_left
def gF:=@List.length_filter_le
def gG:=@Nat.min_le_left
def gH:=@List.filter_append
def gI:=@List.mem_flatMap
def gJ:=@Nat.mul_le_mul
def gL:=@Int.lt_trichotomy
def gM:=@Rat.lt_of_mul_lt_mul_left
def gN:=@List.ext_getElem
def gO:=@Int.lt_of_mul_lt_mul_left
def gP:=@List.length_eq_zero_iff
def gQ:=@Rat.mul_nonneg
def gR:=@Nat.sub_self
def gS:=@Nat.mul_le_mul_right
def gU:=@List.length_zipIdx
def gW:=@List.filter_sublist
def gX:=@List.length_range
def gY:=@List.mem_of_mem_drop
def gZ:=@Nat.pow_lt_pow_right
def g9:=@List.mem_of_mem_take
def hW:=@Int.mul_sub
def ie:=@Rat.mul_eq_zero
def ig:=@Rat.mul_zero
def ij:=@List.getElem_dropLast
def ik:=@List.getElem_take
def iq:=@Int.pos_of_mul_pos_right
def iw:=@List.map_const'
def iy:=@List.filter_congr
def iz:=@List.mem_zipIdx_iff_getElem?
def iA:=@List.getElem_of_mem
def iB:=@Option.getD_some
def iC:=@List.flatMap_cons
def iD:=@List.filter_cons_of_pos
def iE:=@List.filter_cons_of_neg
def iF:=@Nat.sub_pos_of_lt
def iG:=@List.length_dropLast
def iH:=@Nat.le_zero
def iI:=@List.mem_map_of_mem
def iJ:=@List.count_eq_length
def iK:=@List.zip_map_right
end
set_option Elab.async false
namespace L2
open PySem PySem.Spec PyProof.Rows
abbrev rM:=Sum Int Str
noncomputable def BM:rM->Value->Bool
 |.inl k,v=>Value.isInt k v
 |.inr x,v=>Value.isStrOf x v
def WZ(w:World):rM->Int
 |.inl k=>hashInt k
 |.inr x=>hashStr w x
theorem lT:∀{k} {v},BM k v=true->(∃i t,k=Sum.inl i/\v=Value.int i t)\/(∃x t,k=Sum.inr x/\v=Value.str x t)
 |.inl i,v,h=>by obtain⟨t,e⟩:=Value.isInt_shape h;exact .inl ⟨i,t,rfl,e⟩
 |.inr x,v,h=>by obtain⟨t,e⟩:=Value.isStrOf_shape h;exact .inr ⟨x,t,rfl,e⟩
def I0 i t:BM (.inl i) (.int i t)=true:=by simp[BM,Value.isInt]
def JF x t:BM (.inr x) (.str x t)=true:=by simp[BM,Value.isStrOf]
def Ud a b:decide ((Sum.inl a:rM)=Sum.inl b)=(a==b):=by
 by_cases e:a=b
 .subst e;simp
 .have h:¬(Sum.inl a:rM)=Sum.inl b:=λq=>e (Sum.inl.inj q);rw[aB h];exact (beq_eq_false_iff_ne.mpr e).symm
def TL a b:decide ((Sum.inr a:rM)=Sum.inr b)=decide (a=b):=by
 by_cases e:a=b
 .subst e;simp
 .have h:¬(Sum.inr a:rM)=Sum.inr b:=λq=>e (Sum.inr.inj q);rw[aB h,aB e]
def Uk a b:decide ((Sum.inl a:rM)=Sum.inr b)=false:=aB (λq=>nomatch q)
def Ti a b:decide ((Sum.inr a:rM)=Sum.inl b)=false:=aB (λq=>nomatch q)
noncomputable def nC(prog:Program)(w:World):PySem.KeyKind prog w rM where
 is:=BM
 hash:=WZ w
 inj:=λv a b g d=>by
  rcases lT g with⟨i,t,rfl,rfl⟩|⟨x,t,rfl,rfl⟩
  .rcases lT d with⟨j,u,rfl,e⟩|⟨y,u,rfl,e⟩
   .injection e with c _;rw[c]
   .exact nomatch e
  .rcases lT d with⟨j,u,rfl,e⟩|⟨y,u,rfl,e⟩
   .exact nomatch e
   .injection e with c _;rw[c]
 byValue:=λk v h=>by rcases lT h with⟨i,t,rfl,rfl⟩|⟨x,t,rfl,rfl⟩<;>rfl
 pyHash:=λhv h=>by
  rcases lT hv with⟨i,t,rfl,rfl⟩|⟨x,t,rfl,rfl⟩
  .exact wpAny_pyHash_int h
  .exact wpAny_pyHash_str h
 eqBool:=λf hv h=>by
  rcases lT f with⟨i,t,rfl,rfl⟩|⟨x,t,rfl,rfl⟩
  .rcases lT hv with⟨j,u,rfl,rfl⟩|⟨y,u,rfl,rfl⟩
   .rw[Ud]at h;exact wpAny_eqBool_int h
   .rw[Uk]at h;exact SeqAt.EqAt.int_str i t y u _ _ _ _ h
  .rcases lT hv with⟨j,u,rfl,rfl⟩|⟨y,u,rfl,rfl⟩
   .rw[Ti]at h;exact SeqAt.EqAt.str_int x t j u _ _ _ _ h
   .rw[TL]at h;exact wpAny_eqBool_str h
 «strs»:=λk x t v h=>by
  rcases lT h with⟨i,u,rfl,e⟩|⟨y,u,rfl,e⟩
  .exact nomatch e
  .injection e with c _;subst c;cases v<;>rfl
def Eh prog w i t:(nC prog w).is (.inl i) (.int i t)=true:=I0 i t
def Ed prog w x t:(nC prog w).is (.inr x) (.str x t)=true:=JF x t
end L2
namespace L2
open PySem PySem.Spec PyProof.Rows
inductive V where
 |non|bl (b:Bool)|int (i:Int)|str (x:Str)|byt (b:Array UInt8)|flt (b:UInt64)|ref (a:Addr)|ty (n:String)
 deriving DecidableEq
def kr:V->Value->Prop
 |.non,u=>u=Value.none
 |.bl b,u=>u=Value.bool b
 |.int i,u=>∃t,u=Value.int i t
 |.str x,u=>∃t,u=Value.str x t
 |.byt b,u=>∃t,u=Value.bytes b t
 |.flt b,u=>∃t,u=Value.float b t
 |.ref a,u=>u=Value.ref a
 |.ty n,u=>u=Value.type n
abbrev jZ:List V->List Value->Prop:=Paired kr
def jZ.length(r:jZ xs us):xs.length=us.length:=Paired.length r
theorem jZ.get:∀{a:List V} {us:List Value} {i:Nat} {x:V},jZ a us->a[i]? = some x->∃u,us[i]? = some u/\kr x u
 |_,_,_,_,.nil,e=>by simp at e
 |_,_,0,_,.cons r _,e=>by simp at e;subst e;exact⟨_,rfl,r⟩
 |_,_,i+1,x,.cons _ t,e=>by obtain⟨u,b,c⟩:=jZ.get t e;exact⟨u,by simpa using b,c⟩
theorem jZ.set(r:kr x u):∀{xs} {us} i,jZ xs us->jZ (xs.set i x) (us.set i u)
 |_,_,_,.nil=>.nil
 |_,_,0,.cons _ t=>.cons r t
 |_,_,i+1,.cons q t=>.cons q (jZ.set r i t)
def jZ.append{xs ys us ws}(h:jZ xs us)(s:jZ ys ws):jZ (xs++ys) (us++ws):=by
 induction h with
 |nil=>exact s
 |cons r _ ih=>exact .cons r ih
theorem jZ.take:∀{xs} {us} n,jZ xs us->jZ (xs.take n) (us.take n)
 |_,_,0,_=>.nil
 |_,_,_+1,.nil=>.nil
 |_,_,n+1,.cons r t=>.cons r (jZ.take n t)
theorem jZ.drop:∀{xs} {us} n,jZ xs us->jZ (xs.drop n) (us.drop n)
 |_,_,0,r=>r
 |_,_,_+1,.nil=>.nil
 |_,_,n+1,.cons _ t=>jZ.drop n t
def vK:Option V->Option Value->Prop
 |some v,some u=>kr v u
 |none,none=>True
 |_,_=>False
def KV{a:Type}:List (a×V)->List (a×Value)->Prop:=Paired λ(p:a×V) (q:a×Value)=>p.1=q.1/\kr p.2 q.2
def kV:rM->V
 |.inl i=>.int i
 |.inr x=>.str x
inductive HO where
 |lst (xs:List V)
 |tup (xs:List V)
 |dK (kvs:List (rM×V))|dT (kvs:List (List rM×V))
 |set (S:Int->Bool) (n:Nat)
 |ins (C dx:Addr) (fs:List (Str×V))
 |own (x:Addr)
 |xd (fs:List (Str×V))
 |met (f x:Addr)
 |rng (lo hi:Int)
 |frz (o:Obj) (u:HO)
 |tbl (q:Str) (ps:Array Value)
 |ext (φ:Heap->Prop)
abbrev Hp:=Addr->Option HO
noncomputable def kU(H:Hp)(a:Addr)(o:HO):Hp:=λb=>if b=a then some o else H b
def jb:kU H a o a=some o:=by unfold kU;rw[aQ rfl]
def ja(h:b≠a):kU H a o b=H b:=by unfold kU;rw[aR h]
def OW:kU (kU H a o) a u=kU H a u:=by funext b;unfold kU;split<;>rfl
def Rq{H:Hp}(h:H a=some o)(c:H b=some u)(d:o≠u):a≠b:=by intro e;subst e;rw[h]at c;exact d (Option.some.inj c)
def jO{H:Hp}(h:H a=some o)(c:H b=none):a≠b:=by intro e;subst e;rw[h]at c;cases c
section
variable (P:Program)(w:World)
def Ad(h:Heap)(a:Addr)(b:Array Value):Prop:=∃o,h.get? a=some o/\o.cls=.type "tuple" /\∃n,o.data=.seq b n/\o.dict=none
def Ad.tup(x:Ad h a items):IsTup h a items:=let ⟨o,e,c,n,d,_⟩:=x;⟨o,e,c,n,d⟩
def Ad.new(h:Heap) items:Ad (h.push {cls:=.type "tuple",data:=.seq items}) h.objs.size items:=⟨_,ar _ rfl,rfl,_,rfl,rfl⟩
def Hn:List Value->List Value
 |_::_::c::r=>c::Hn r
 |_=>[]
def mQ(H:Hp)(h:Heap)(a:Addr):HO->Prop
 |.lst c=>c.length<=sizeLine/\∃(its:List Value) (n:Nat),jZ c its/\h.get? a=some {cls:=.type "list",data:=.seq its.toArray n}
 |.tup c=>c.length<=sizeLine/\∃its:List Value,jZ c its/\Ad h a its.toArray
 |.dK kvs=>kvs.length<=sizeLine/\(a==sysModules)=false/\∃vs,KV kvs vs/\h.DictOf (nC P w) a vs
 |.dT kvs=>kvs.length<=sizeLine/\(a==sysModules)=false/\∃c:List (List rM×Addr×Value),
   Paired (λ(p:List rM×V) (q:List rM×Addr×Value)=>p.1=q.1/\H q.2.1=some (.tup (p.1.map kV))/\kr p.2 q.2.2) kvs c/\
   ∃o i j,h.get? a=some o/\o.ExactDict/\o.data=.dict i j/\i.toList=c.map (entryOfKey (tupleKind (nC P w)))/\(c.map (·.1)).Nodup
 |.set S n=>h.SetOf (intKind P w) a S n
 |.ins C dx fs=>H dx=some (.own a)/\fs.length<=1000/\dx≠a/\h.get? a=some (W.instObj C dx)/\
   ∃d,h.Ns1 dx d/\(∀f,vK (fs.lookup f) (d f))/\PySem.Within d (fs.map (·.1))
 |.own _=>∃o,h.get? a=some o
 |.xd fs=>∃d,h.Ns1 a d/\∀f,vK (fs.lookup f) (d f)
 |.rng lo hi=>∃t u v,h.get? a=some {cls:=.type "range",data:=.fields #[.int lo t,.int hi u,.int 1 v]}
 |.frz o u=>h.get? a=some o/\mQ H h a u
 |.tbl q ps=>h.get? a=some {cls:=.none,data:=.fields ps}/\TriplesOk ps.toList/\∀v∈Hn ps.toList,∃b,v=.ref b/\H b=some (.own a)/\h.CodeRec (.ref b) q
 |.met f x=>h.get? a=some (W.methodObj (.ref f) (.ref x))
 |.ext φ=>φ h/\(∃o,h.get? a=some o)/\∀g e:Heap,φ g->(∀o,g.get? a=some o->e.get? a=some o)->φ e
def uT(H:Hp)(h:Heap):Prop:=∀a o,H a=some o->mQ P w H h a o
end
section
variable {P:Program}{w:World}{H H':Hp}{h h':Heap}{a:Addr}{o:HO}
def mQ.lt(x:mQ P w H h a o):a<h.objs.size:=by
 cases o with
 |lst xs=>obtain⟨_,_,_,_,e⟩:=x;exact aL e
 |tup xs=>obtain⟨_,_,_,p⟩:=x;exact (Ad.tup p).lt
 |dK kvs=>obtain⟨_,_,_,_,o,_,_,e,_⟩:=x;exact aL e
 |dT kvs=>obtain⟨_,_,_,_,o,_,_,e,_⟩:=x;exact aL e
 |set S n=>obtain⟨o,_,_,_,e,_⟩:=x;exact aL e
 |ins C dx fs=>obtain⟨_,_,_,e,_⟩:=x;exact aL e
 |own y=>obtain⟨_,e⟩:=x;exact aL e
 |xd fs=>obtain⟨_,⟨_,_,_,e,_⟩,_⟩:=x;exact aL e
 |rng lo hi=>obtain⟨_,_,_,e⟩:=x;exact aL e
 |frz ob u=>obtain⟨e,_⟩:=x;exact aL e
 |tbl q ps=>exact aL x.1
 |met f y=>exact aL (x)
 |ext φ=>obtain⟨_,⟨_,e⟩,_⟩:=x;exact aL e
def Paired.mapP{F G:α->β->Prop}{l₁ l₂}(h:Paired F l₁ l₂)(f:∀a b,F a b->G a b):Paired G l₁ l₂:=by
 induction h with
 |nil=>exact .nil
 |cons r _ ih=>exact .cons (f _ _ r) ih
def Paired.imp'{F G:α->β->Prop}(f:∀a b,F a b->G a b){c:List α}{d:List β}(r:Paired F c d):Paired G c d:=Paired.mapP r f
theorem mQ.stay(x:mQ P w H h a o)(k:∀b u,(b=a\/H b=some (.own a))->h.get? b=some u->h'.get? b=some u)
  (I:∀b,H b=some (.own a)->H' b=some (.own a)) (L:∀b m,H b=some (.tup m)->H' b=some (.tup m)):mQ P w H' h' a o:=by
 induction o with
 |lst m=>obtain⟨z,l,n,r,e⟩:=x;exact⟨z,l,n,r,k _ _ (.inl rfl) e⟩
 |tup m=>obtain⟨z,l,r,g,e,c⟩:=x;exact⟨z,l,r,g,k _ _ (.inl rfl) e,c⟩
 |dK kvs=>obtain⟨z,y,B,r,g,i,j,e,c⟩:=x;exact⟨z,y,B,r,g,i,j,k _ _ (.inl rfl) e,c⟩
 |dT kvs=>obtain⟨z,y,m,r,g,i,j,e,c⟩:=x;exact⟨z,y,m,Paired.mapP r λp q z=>⟨z.1,L _ _ z.2.1,z.2.2⟩,g,i,j,k _ _ (.inl rfl) e,c⟩
 |set S n=>obtain⟨g,i,j,t,e,c⟩:=x;exact⟨g,i,j,t,k _ _ (.inl rfl) e,c⟩
 |ins C dx fs=>obtain⟨d,z,ne,e,D,⟨A,i,j,s,c⟩,r⟩:=x;exact⟨I _ d,z,ne,k _ _ (.inl rfl) e,D,⟨A,i,j,k _ _ (.inr d) s,c⟩,r⟩
 |own y=>obtain⟨g,e⟩:=x;exact⟨g,k _ _ (.inl rfl) e⟩
 |xd fs=>obtain⟨D,⟨A,i,j,e,c⟩,r⟩:=x;exact⟨D,⟨A,i,j,k _ _ (.inl rfl) e,c⟩,r⟩
 |rng lo hi=>obtain⟨t,u,v,e⟩:=x;exact⟨t,u,v,k _ _ (.inl rfl) e⟩
 |frz g u ih=>obtain⟨e,q⟩:=x;exact⟨k _ _ (.inl rfl) e,ih q⟩
 |tbl q ps=>obtain⟨e,t,cs⟩:=x;refine⟨k a _ (.inl rfl) e,t,λv hv=>?_⟩;obtain⟨b,Q,E,c,o,B,N,K,s,J⟩:=cs v hv;cases K;exact⟨_,Q,I _ E,_,o,B,N,rfl,k _ _ (.inr E) s,J⟩
 |met f y=>have e:=x;exact k a _ (.inl rfl) e
 |ext φ=>obtain⟨p,⟨o,e⟩,F⟩:=x;exact⟨F _ _ p λo q=>k _ _ (.inl rfl) q,⟨o,k _ _ (.inl rfl) e⟩,F⟩
def uT.lt(x:uT P w H h)(e:H a=some o):a<h.objs.size:=(x a o e).lt
def uT.fresh(x:uT P w H h)(e:h.objs.size<=a):H a=none:=by
 cases q:H a with
 |none=>rfl
 |some u=>exact absurd (aE (x.lt q) e) (a9 _)
def uT.kept(x:uT P w H h)(k:∀b u,h.get? b=some u->h'.get? b=some u):uT P w H h':=λa o e=>(x a o e).stay (λb u _ q=>k b u q) (λ_ q=>q) λ_ _ q=>q
def uT.laid(x:uT P w H h)(k:∀b u,h.get? b=some u->h'.get? b=some u)(g:h.objs.size<=a)(new:mQ P w (kU H a o) h' a o):uT P w (kU H a o) h':=λb u e=>by
 have f:=x.fresh g;by_cases d:b=a
 .subst d;rw[jb]at e;cases e;exact new
 .rw[ja d]at e;exact (x b u e).stay (λc v _ q=>k c v q) (λc q=>by rw[ja (jO q f)];exact q) λc i q=>by rw[ja (jO q f)];exact q
end
def Rd(H:Hp)(a:Addr)(u:HO):Prop:=H a=some u\/∃o,H a=some (.frz o u)
def Rd.ok(r:Rd H a u)(x:uT P w H h):mQ P w H h a u:=by
 rcases r with r|⟨o,r⟩
 .exact x a u r
 .obtain⟨_,q⟩:=x a _ r;exact q
def UO:Option HO->Prop
 |some (.lst _)=>True
 |some (.dK _)=>True
 |some (.dT _)=>True
 |some (.set _ _)=>True
 |some (.ins _ _ _)=>True
 |some (.ext _)=>True
 |_=>False
section
variable {P:Program}{w:World}{H:Hp}{h h':Heap}{x e:Addr}{o':HO}
def uT.write(ok:uT P w H h)(j:UO (H x))(o:e=x\/H e=some (.own x))(k:∀b u,b≠e->h.get? b=some u->h'.get? b=some u)(m:∃u,h'.get? e=some u)
  (new:mQ P w (kU H x o') h' x o'):uT P w (kU H x o') h':=λb u q=>by
 have d:∀c y,H c=some (.own y)->c≠x:=λc y r z=>by subst z;rw[r]at j;exact j
 have f:∀c l,H c=some (.tup l)->c≠x:=λc l r z=>by subst z;rw[r]at j;exact j
 by_cases g:b=x
 .subst g;rw[jb]at q;cases q;exact new
 .rw[ja g]at q;by_cases a:b=e
  .have n:H b=some (.own x):=by
    rcases o with z|z
    .exact absurd (a.trans z) g
    .rw[a];exact z
   rw[q]at n;cases n;obtain⟨v,hv⟩:=m;exact⟨v,by rw[a];exact hv⟩
  .refine (ok b u q).stay (λc v i r=>k c v ?_ r) (λc r=>by rw[ja (d c b r)];exact r) λc l r=>by rw[ja (f c l r)];exact r
   rcases i with rfl|i
   .exact a
   .rintro rfl;rcases o with z|z
    .exact d c b i z
    .rw[i]at z;cases z;exact g rfl
end
structure Un(fs ex:List Addr)(H H':Hp)(h h':Heap):Prop where
 keep:∀b o,h.get? b=some o->H b=none->b∉fs->b∉ex->h'.get? b=some o
 slot:∀b o,h.get? b=some o->H b=none->b∈fs->b∉ex->∃sl,h'.get? b=some {o with slots:=sl}
 free:∀b o,h.get? b=some o->H b=none->b∉ex->H' b=none
 there:∀b o,h.get? b=some o->b∉ex->∃o',h'.get? b=some o'
 tups:∀b xs,H b=some (.tup xs)->H' b=some (.tup xs)
 frzs:∀b o u,H b=some (.frz o u)->H' b=some (.frz o u)
 tbls:∀b q ps,H b=some (.tbl q ps)->∃more,H' b=some (.tbl q (ps++more))
section
variable {fs fs' ex ex':List Addr}{H H1 H2:Hp}{h h1 h2 h':Heap}{a x e:Addr}{o:HO}
def Un.any(u:Un fs ex H H1 h h1)(q:h.get? b=some ob)(n:H b=none)(d:b∉ex):∃f,h1.get? b=some {ob with slots:=f}:=by
 by_cases c:b∈fs
 .exact u.slot b ob q n c d
 .exact⟨ob.slots,u.keep b ob q n c d⟩
def Un.kept(k:∀b u,h.get? b=some u->h'.get? b=some u):Un fs ex H H h h':=⟨λb c q _ _ _=>k b c q,λb c q _ _ _=>⟨c.slots,k b c q⟩,λ_ _ _ n _=>n,λb c q _=>⟨c,k b c q⟩,λ_ _ q=>q,λ_ _ _ q=>q,λ_ _ d q=>⟨#[],by rw[q];simp⟩⟩
def Un.refl:Un fs ex H H h h:=Un.kept λ_ _ q=>q
def Un.laid(k:∀b u,h.get? b=some u->h'.get? b=some u)(f:h.objs.size<=a)(c:H a=none):Un fs ex H (kU H a o) h h' where
 keep:=λb u q _ _ _=>k b u q
 slot:=λb u q _ _ _=>⟨u.slots,k b u q⟩
 free:=λb u q n _=>by rw[ja (aM (aE (aL q) f))];exact n
 there:=λb u q _=>⟨u,k b u q⟩
 tups:=λb d q=>by rw[ja (jO q c)];exact q
 frzs:=λb u d q=>by rw[ja (jO q c)];exact q
 tbls:=λb _ g q=>⟨#[],by rw[ja (jO q c),q];simp⟩
def Un.write(d:UO (H x))(p:e=x\/H e=some (.own x))(k:∀b u,b≠e->h.get? b=some u->h'.get? b=some u)(g:∃u,h'.get? e=some u):Un fs ex H (kU H x o) h h':=by
 have j:∀b,H b=none->b≠x:=λb n z=>by subst z;rw[n]at d;exact d
 have i:∀b,H b=none->b≠e:=λb n z=>by
  subst z;rcases p with r|r
  .exact j b n r
  .rw[n]at r;cases r
 have f:∀b u,H b=some u->¬UO (some u)->b≠x:=λb u q m z=>by subst z;rw[q]at d;exact m d
 refine⟨λb u q n _ _=>k b u (i b n) q,λb u q n _ _=>⟨u.slots,k b u (i b n) q⟩,λb u q n _=>by rw[ja (j b n)];exact n,λb u q _=>?_,
  λb l q=>by rw[ja (f b _ q λz=>z)];exact q,λb u l q=>by rw[ja (f b _ q λz=>z)];exact q,λb _ s q=>⟨#[],by rw[ja (f b _ q λz=>z),q];simp⟩⟩
 by_cases c:b=e
 .subst c;exact g
 .exact⟨u,k b u c q⟩
end
noncomputable def Wo(h:Heap)(H:Hp):List Addr:=(List.range h.objs.size).filter λa=>(H a).isSome
def LO(h:Heap)(H:Hp):Heap:=W.hideAll h (Wo h H)
def Jj h H:(LO h H).objs.size=h.objs.size:=W.hideAll_size _ _
def Mj(e:h.get? b=some o)(n:H b=none):(LO h H).get? b=some o:=W.hideAll_get _ e λa=>by have q:=(aU.mp a).2;rw[n]at q;simp at q
def Ql(e:(LO h H).get? b=some o):h.get? b=some o/\H b=none:=by
 have a:=W.of_hideAll (Wo h H) e;refine⟨a,?_⟩;cases q:H b with
 |none=>rfl
 |some x=>have c:b∈Wo h H:=aU.mpr ⟨aS.mpr (aL a),by simp[q]⟩;have z:(LO h H).get? b=none:=W.hideAll_none (Wo h H) c;rw[z]at e;cases e
end L2
namespace L2
open PySem PySem.Spec PyProof.Rows
structure Mod(K:W.Frag)(mg:Str->Option Value)(base:Heap):Prop where
 kin:K.In base
 glob:base.Ns mainGlobals mg
 blt:∃mb,base.Ns builtinsNs mb/\∀x:Str,x≠ "__name__" ->mb x=bootBuiltins x
 nolimit:base.NoLimit
 seer:base.NoSeer
def Ny(a:Heap)(H:Hp):Prop:=∀c P b,(c,P)∈a.life.ids->a.CodeRec (.ref c) b->∃d,H P=some (.tbl (b++ ".<locals>.<lambda>") d)
structure Cx where
 prog:Program
 w:World
 K:W.Frag
 mg:Str->Option Value
 base:Heap
 A:Around
 N:List Str
 s₀:Shared
 H₀:Hp
 env:Env
 outer:List Env
 stack:List Env
 ex:List Addr
 fn:Str->Bool
 calm:Bool
 pn:List (Addr×Obj)
 xe:Value->Shared->Prop
noncomputable def JS(l:List Env):List Addr:=l.filterMap (·.frame)
abbrev Cx.fs(X:Cx):List Addr:=JS X.outer
def VS(a:Scope)(x:Str):Prop:=a.names.lookup x=some .local\/a.names.lookup x=some .cell\/a.names.lookup x=some .free
def Hx(a:Scope)(x:Str):Prop:=a.names.lookup x=some .local\/a.names.lookup x=some .cell
def WY(a:Env)(h:Heap)(m:Str->Option Value)(x:Str)(u:Value):Prop:=(a.kindOf x=some .local/\m x=some u)\/((a.kindOf x=some .cell\/a.kindOf x=some .free)/\∃c,a.cells.lookup x=some c/\h.IsCell c (some u))
structure Cx.Ok(X:Cx):Prop where
 mod:Mod X.K X.mg X.base
 kind:X.env.scope.kind=.function
 glob:X.env.globals=mainGlobals
 blt:X.env.builtins=builtinsNs
 above:X.s₀.heap.objs.size<=X.env.locals
 inj:∀x y c,X.env.cells.lookup x=some c->X.env.cells.lookup y=some c->x=y
 has:∀x,(X.env.kindOf x=some .cell\/X.env.kindOf x=some .free)->∃c,X.env.cells.lookup x=some c
 cab:∀x c,X.fn x=true->X.env.cells.lookup x=some c->X.s₀.heap.objs.size<=c
 hd:X.calm=true->X.A.handled=none
 frames:X.A.frames=some X.stack
 stk:X.stack=X.outer\/(X.stack=X.env::X.outer/\X.env.frame=some X.env.locals)
 exf:∀b∈X.ex,b≠X.env.locals/\∀x c,X.env.cells.lookup x=some c->c≠b
 bs:∀b o,X.base.get? b=some o->X.s₀.heap.get? b=some o/\X.H₀ b=none
 bsz:X.base.objs.size<=X.s₀.heap.objs.size
 noex:∀b o,X.base.get? b=some o->b∉X.ex
 exfs:∀b∈X.ex,b∉X.fs
 funs:X.s₀.heap.FunFrames X.base X.outer
 frf:∀b∈X.fs,X.H₀ b=none
 tab:Ny X.base X.H₀
 tree:X.prog.given.tree=none
 dp:X.A.depth+100<recursionLimit
 fst:∃e l,X.stack=e::l/\e.scope.isGenerator=false/\e.scope.isCoroutine=false/\e.builtins=builtinsNs/\e.globals=mainGlobals
structure jq(X:Cx)(iO:List (Addr×Obj))(σ:List (Option V))(H:Hp)(s:Shared):Prop where
 ok:X.Ok
 os:s.os=X.s₀.os
 bare:AllBare s.gens
 base:Un X.fs X.ex X.H₀ H X.s₀.heap s.heap
 loc:∃m,s.heap.Ns X.env.locals m/\∀(i:Nat) (x:Str) (v:V),X.N[i]? = some x->σ[i]? = some (some v)->VS X.env.scope x->∃u,kr v u/\WY X.env s.heap m x u
 cell:∀x c,X.env.cells.lookup x=some c->∃v,s.heap.IsCell c v
 free:H X.env.locals=none
 freeC:∀x c,X.env.cells.lookup x=some c->H c=none
 pin:∀p∈X.pn++iO,s.heap.get? p.1=some p.2/\H p.1=none/\p.1≠X.env.locals/\p.1∉X.fs/\∀v,p.2.data≠.cell v
 hok:uT X.prog X.w H s.heap
 len:σ.length=X.N.length
section
variable {X:Cx}{iO:List (Addr×Obj)}{σ:List (Option V)}{H H':Hp}{s:Shared}{h':Heap}
def Cx.Ok.nofr(ok:X.Ok)(e:X.base.get? b=some o):b∉X.fs:=λa=>by have:=(ok.funs.mem a).1;rw[e]at this;cases this
def jq.bs(I:jq X iO σ H s):∀b o,X.base.get? b=some o->s.heap.get? b=some o/\H b=none:=λb o e=>⟨I.base.keep b o (I.ok.bs b o e).1 (I.ok.bs b o e).2 (I.ok.nofr e) (I.ok.noex b o e),I.base.free b o (I.ok.bs b o e).1 (I.ok.bs b o e).2 (I.ok.noex b o e)⟩
def jq.tab(I:jq X iO σ H s):Ny X.base H:=λc P d a b=>let ⟨ps,e⟩:=I.ok.tab c P d a b;let ⟨more,q⟩:=I.base.tbls _ _ ps e;⟨ps++more,q⟩
def jq.bk(I:jq X iO σ H s):∀b o,X.base.get? b=some o->s.heap.get? b=some o:=λb o e=>(I.bs b o e).1
def jq.mod(I:jq X iO σ H s):Mod X.K X.mg X.base:=I.ok.mod
def jq.kIn(I:jq X iO σ H s):X.K.In s.heap:=I.ok.mod.kin.keeps I.bk
def jq.nolimit(I:jq X iO σ H s):s.heap.NoLimit:=I.ok.mod.nolimit.keeps I.bk
def jq.py(I:jq X iO σ H s):PylongRoom (model X.prog X.w) X.A s:=
 let ⟨_,_,h,g1,g2,g3,g4⟩:=I.ok.fst
 .of I.nolimit I.ok.dp (.of (I.ok.mod.seer.keeps I.bk) I.ok.tree (I.ok.frames.trans (congrArg some h)) g1 g2 g3 g4)
def jq.lt(I:jq X iO σ H s):X.env.locals<s.heap.objs.size:=let ⟨_,hn,_⟩:=I.loc;hn.lt
def jq.sz(I:jq X iO σ H s):X.s₀.heap.objs.size<=s.heap.objs.size:=aN I.ok.above (bg I.lt)
def jq.nofs(I:jq X iO σ H s)(h:s.heap.objs.size<=a):a∉X.fs:=λb=>by obtain⟨_,o,c,_⟩:=I.ok.funs.mem b;exact absurd (aE (aL c) (aN I.sz h)) (a9 _)
def jq.cne(I:jq X iO σ H s):∀x c,X.env.cells.lookup x=some c->c≠X.env.locals:=λx c e z=>by obtain⟨v,o,f,d⟩:=I.cell x c e;obtain⟨m,⟨g,h,i,b,a,_⟩,_⟩:=I.loc;rw[z,b]at f;cases f;rw[a]at d;cases d
def jq.funs(I:jq X iO σ H s):s.heap.FunFrames X.base X.outer:=by
 have all:∀(l:List Env),(∀b∈JS l,b∈X.fs)->X.s₀.heap.FunFrames X.base l->s.heap.FunFrames X.base l:=by
  intro l;induction l with
  |nil=>intro _ _;trivial
  |cons env r ih=>intro f i;obtain⟨j,⟨L,o,c,h,k,g⟩,hr⟩:=i;have d:=f L (by unfold JS;rw[bh,c];exact bj);obtain⟨m,e⟩:=I.base.slot L o k (I.ok.frf L d) d λz=>I.ok.exfs L z d;exact⟨j,⟨L,_,c,h,e,g⟩,ih (λb a=>f b (by unfold JS;rw[bh,c];exact bx _ a)) hr⟩
 exact all X.outer (λ_ a=>a) I.ok.funs
def jq.stack(I:jq X iO σ H s):s.heap.FunFrames X.base X.stack:=by
 rcases I.ok.stk with e|⟨e,b⟩
 .rw[e];exact I.funs
 .rw[e];obtain⟨m,a,_⟩:=I.loc;refine .cons (by rw[I.ok.kind];decide) b a ?_ I.funs;exact Heap.get?_none_of_le (aN I.ok.bsz I.ok.above)
def jq.stkSub(I:jq X iO σ H s):∀b∈JS X.stack,b∈X.env.locals::X.fs:=λb a=>by
 rcases I.ok.stk with e|⟨e,c⟩
 .rw[e]at a;exact bx _ a
 .rw[e]at a;unfold JS at a;rw[bh,c]at a;exact a
def jq.stkFree(I:jq X iO σ H s):∀b∈JS X.stack,H b=none:=λb a=>by
 rcases aF.mp (I.stkSub b a) with e|a
 .rw[e];exact I.free
 .obtain⟨_,o,c,_⟩:=I.ok.funs.mem a;exact I.base.free b o c (I.ok.frf b a) λz=>I.ok.exfs b z a
def jq.step{ch:List Addr}(I:jq X iO σ H s)
  (g:∀b∈ch,(b∈X.ex\/X.s₀.heap.objs.size<=b)/\b≠X.env.locals/\(∀x c,X.env.cells.lookup x=some c->c≠b)/\∀p∈X.pn++iO,p.1≠b)
  (keep:∀b o,b≠X.env.locals->b∉X.fs->b∉ch->s.heap.get? b=some o->H b=none->h'.get? b=some o)
  (B:∀b o,b≠X.env.locals->b∈X.fs->b∉ch->s.heap.get? b=some o->H b=none->∃sl,h'.get? b=some {o with slots:=sl}) (f:∀b o,b∉ch->s.heap.get? b=some o->H b=none->H' b=none)
  (E:∀b o,b∉ch->s.heap.get? b=some o->∃P,h'.get? b=some P)
  (J:∀b C,H b=some (.tup C)->H' b=some (.tup C)) (Q:∀b o u,H b=some (.frz o u)->H' b=some (.frz o u)) (L:∀b q S,H b=some (.tbl q S)->∃K,H' b=some (.tbl q (S++K)))
  (ns:∀m,s.heap.Ns X.env.locals m->h'.Ns X.env.locals m) (Z:uT X.prog X.w H' h') (hg:AllBare g') :
  jq X iO σ H' {s with heap:=h',gens:=g',drawn:=d',toks:=t'}:=by
 have R:∀b o,X.s₀.heap.get? b=some o->b≠X.env.locals:=λb o e=>aM (aE (aL e) I.ok.above);have A:∀b o,X.s₀.heap.get? b=some o->b∉X.ex->b∉ch:=λb o e a D=>by
  rcases (g b D).1 with z|z
  .exact a z
  .exact absurd (aE (aL e) z) (a9 _)
 have h:∀x c,X.env.cells.lookup x=some c->∀v,s.heap.IsCell c v->h'.IsCell c v:=λx c e v ⟨o,F,Y⟩=>by
  have j:c∉ch:=λz=>(g c z).2.2.1 x c e rfl;by_cases hc:c∈X.fs
  .obtain⟨sl,q⟩:=B c o (I.cne x c e) hc j F (I.freeC x c e);exact⟨_,q,Y⟩
  .exact⟨o,keep c o (I.cne x c e) hc j F (I.freeC x c e),Y⟩
 refine⟨I.ok,I.os,hg,⟨λb o e n D a=>?_,λb o e n D a=>?_,λb o e n a=>?_,λb o e a=>?_,λb C e=>J b C (I.base.tups b C e),λb o C e=>Q b o C (I.base.frzs b o C e),λb _ S e=>?_⟩,?_,λx c e=>?_,?_,λx c e=>?_,λp hp=>?_,Z,I.len⟩
 .exact keep b o (R b o e) D (A b o e a) (I.base.keep b o e n D a) (I.base.free b o e n a)
 .obtain⟨sl,y⟩:=I.base.slot b o e n D a;obtain⟨U,N⟩:=B b _ (R b o e) D (A b o e a) y (I.base.free b o e n a);exact⟨U,N⟩
 .obtain⟨P,y⟩:=I.base.there b o e a;exact f b P (A b o e a) y (I.base.free b o e n a)
 .obtain⟨P,y⟩:=I.base.there b o e a;exact E b P (A b o e a) y
 .obtain⟨m1,y⟩:=I.base.tbls b _ S e;obtain⟨m2,N⟩:=L b _ _ y;exact⟨m1++m2,by rw[N,bz]⟩
 .obtain⟨m,hn,hl⟩:=I.loc;refine⟨m,ns m hn,λi x v y N e3=>?_⟩;obtain⟨u,r,l⟩:=hl i x v y N e3;refine⟨u,r,?_⟩;rcases l with l|⟨k,c,e,z⟩
  .exact .inl l
  .exact .inr ⟨k,c,e,h x c e _ z⟩
 .obtain⟨v,z⟩:=I.cell x c e;exact⟨v,h x c e v z⟩
 .obtain⟨m,⟨o,_,_,F,_⟩,_⟩:=I.loc;exact f _ o (λz=>(g _ z).2.1 rfl) F I.free
 .obtain⟨v,o,F,Y⟩:=I.cell x c e;exact f c o (λz=>(g c z).2.2.1 x c e rfl) F (I.freeC x c e)
 .obtain⟨e,n,ne,nf,d⟩:=I.pin p hp;have j:p.1∉ch:=λz=>(g p.1 z).2.2.2 p hp rfl;exact⟨keep p.1 p.2 ne nf j e n,f p.1 p.2 j e n,ne,nf,d⟩
def jq.un(I:jq X iO σ H s)(u:Un X.fs [] H H' s.heap h')(f:uT X.prog X.w H' h'):jq X iO σ H' {s with heap:=h',toks:=t'}:=by obtain⟨m,⟨o,q,v,h,r⟩,_⟩:=id I.loc;obtain⟨x,k⟩:=u.any h I.free (by simp);exact I.step (ch:=[]) (λ_ z=>nomatch z) (λb o _ c _ e n=>u.keep b o e n c ‹_›) (λb o _ c _ e n=>u.slot b o e n c ‹_›) (λb o _ e n=>u.free b o e n ‹_›) (λb o _ e=>u.there b o e ‹_›) u.tups u.frzs u.tbls (λp i=>by obtain⟨l,d,g,a,j⟩:=i;rw[h]at a;cases a;exact⟨_,d,g,k,j⟩) f I.bare
def jq.call(I:jq X iO σ H s)(u:Un (JS X.stack) ch H H' s.heap h')(h:uT X.prog X.w H' h')(y:AllBare g')
  (d:∀b∈ch,(b∈X.ex\/X.s₀.heap.objs.size<=b)/\b≠X.env.locals/\(∀x c,X.env.cells.lookup x=some c->c≠b)/\∀p∈X.pn++iO,p.1≠b) :
  jq X iO σ H' {s with heap:=h',gens:=g',drawn:=d',toks:=t'}:=by
 obtain⟨m,⟨o,C,D,k,r⟩,_⟩:=id I.loc;obtain⟨E,i⟩:=u.any k I.free λz=>(d _ z).2.1 rfl;exact I.step d (λb o i l a e n=>u.keep b o e n (λz=>(aF.mp (I.stkSub b z)).elim i l) a) (λb o _ _ a e n=>u.any e n a) (λb o a e n=>u.free b o e n a) (λb o a e=>u.there b o e a) u.tups u.frzs u.tbls (λB q=>by obtain⟨A,g,j,f,v⟩:=q;rw[k]at f;cases f;exact⟨_,g,j,i,v⟩) h y
def jq.turned(I:jq X iO σ H s)(k:∀b o,b≠it->s.heap.get? b=some o->h'.get? b=some o)(l:H it=none)(f:it≠X.env.locals)
  (i:it∈X.ex\/X.s₀.heap.objs.size<=it) (h:∀x c,X.env.cells.lookup x=some c->c≠it) (y:∀p∈X.pn++iO,p.1≠it):jq X iO σ H {s with heap:=h',toks:=t'}:=by
 have d:∀b u,H b=some u->b≠it:=λb u e z=>by rw[z,l]at e;cases e
 refine I.step (ch:=[it]) (λb g=>?_) (λb o _ _ a e _=>k b o (λz=>a (by simp[z])) e) (λb o _ _ a e _=>⟨o.slots,k b o (λz=>a (by simp[z])) e⟩) (λ_ _ _ _ n=>n)
  (λb o a e=>⟨o,k b o (λz=>a (by simp[z])) e⟩) (λ_ _ e=>e) (λ_ _ _ e=>e) (λb _ C e=>⟨#[],by rw[e];simp⟩) (λm j=>?_) (λb u e=>?_) I.bare
 .have e:b=it:=by simpa using g
  subst e;exact⟨i,f,h,y⟩
 .obtain⟨o,w,A,B,r⟩:=j;exact⟨o,w,A,k _ o (Ne.symm f) B,r⟩
 .refine (I.hok b u e).stay (λc v a q=>k c v ?_ q) (λ_ q=>q) λ_ _ q=>q;rcases a with z|z
  .rw[z];exact d b u e
  .exact d c _ z
def jq.tok(I:jq X iO σ H s) t:jq X iO σ H {s with toks:=t}:=I.un Un.refl I.hok
def jq.kept(I:jq X iO σ H s)(k:∀b u,s.heap.get? b=some u->h'.get? b=some u):jq X iO σ H {s with heap:=h',toks:=t'}:=I.un (Un.kept k) (I.hok.kept k)
def jq.laid(I:jq X iO σ H s)(k:∀b u,s.heap.get? b=some u->h'.get? b=some u)(c:s.heap.objs.size<=a)(new:mQ X.prog X.w (kU H a o) h' a o) :
  jq X iO σ (kU H a o) {s with heap:=h',toks:=t'}:=I.un (Un.laid k c (I.hok.fresh c)) (I.hok.laid k c new)
def jq.write(I:jq X iO σ H s)(c:UO (H x))(d:e=x\/H e=some (.own x))(k:∀b u,b≠e->s.heap.get? b=some u->h'.get? b=some u)(a:∃u,h'.get? e=some u)
  (new:mQ X.prog X.w (kU H x o) h' x o):jq X iO σ (kU H x o) {s with heap:=h',toks:=t'}:=I.un (Un.write c d k a) (I.hok.write c d k a new)
def jq.weak(I:jq X iO σ H s)(c:σ'.length=σ.length)(w:∀(i:Nat) v,σ'[i]? = some (some v)->σ[i]? = some (some v)):jq X iO σ' H s:=⟨I.ok,I.os,I.bare,I.base,let ⟨m,hn,hl'⟩:=I.loc;⟨m,hn,λi x v b d a=>hl' i x v b (w i v d) a⟩,I.cell,I.free,I.freeC,I.pin,I.hok,c.trans I.len⟩
def jq.pins_of(I:jq X iO σ H s)(h:∀p∈pins',s.heap.get? p.1=some p.2/\H p.1=none/\p.1≠X.env.locals/\p.1∉X.fs/\∀v,p.2.data≠.cell v):jq X pins' σ H s:=⟨I.ok,I.os,I.bare,I.base,I.loc,I.cell,I.free,I.freeC,λp a=>(ai.mp a).elim (λz=>I.pin p (ax _ z)) (h p),I.hok,I.len⟩
def EL{N:List Str}(c:N.Nodup){i j:Nat}(a:N[i]? = some x)(b:N[j]? = some x):i=j:=by obtain⟨f,d⟩:=aa.mp a;obtain⟨g,e⟩:=aa.mp b;exact (List.getElem_inj c).mp (d.trans e.symm)
def B4{M:Model}{A:Around}{E:Value->Shared->Prop}{i:Nat}{x:Str}{v:V}{u:Value}{Q:Unit->Shared->Prop}(I:jq X iO σ H s)(hN:X.N.Nodup)(hi:X.N[i]? = some x)(B:Hx X.env.scope x)(r:kr v u)
  (h:∀s',jq X iO (σ.set i (some v)) H s'->(∃a,Heap.SameBut a s.heap s'.heap/\(a=X.env.locals\/X.env.cells.lookup x=some a))->Q () s') (hf:X.fn x=true\/X.env.scope.names.lookup x=some .local:=by first|exact .inl rfl|exact .inr rfl|assumption):wpAny M A (storeName X.env x u) Q E s:=by
 obtain⟨m,hn,hl⟩:=id I.loc;have R:(X.env.scope.kind==.class||(X.env.scope.kind==.module&&X.env.locals != X.env.globals))=false:=by rw[I.ok.kind];rfl
 have F:i<σ.length:=by rw[I.len];exact (aa.mp hi).1
 have cne:=I.cne;have tracked:∀{a:Addr} {h':Heap},(∃o,s.heap.get? a=some o/\H a=none)->Heap.SameBut a s.heap h'->uT X.prog X.w H h':=λ{a h'} ha f b ob e=>by
  obtain⟨_,_,C⟩:=ha;refine (I.hok b ob e).stay (λc w' l q=>(f.2 c ?_).trans q) (λ_ q=>q) λ_ _ q=>q;rintro rfl;rcases l with rfl|l
  .rw[C]at e;cases e
  .rw[C]at l;cases l
 rcases B with J|J
 .refine wpAny_storeName_local J hn (λh' hn' f=>?_) R;obtain⟨oL,_,_,hoL,_⟩:=id hn;refine h _ ⟨I.ok,I.os,I.bare,⟨λb o e n K B=>?_,λb o e n K B=>?_,I.base.free,λb o e B=>?_,I.base.tups,I.base.frzs,I.base.tbls⟩,⟨_,hn',λj y v' g D e3=>?_⟩,λy c e=>?_,I.free,I.freeC,λp hp=>?_,tracked ⟨oL,hoL,I.free⟩ f,by simpa using I.len⟩ ⟨_,f,.inl rfl⟩
  .exact (f.2 b (aM (aE (aL e) I.ok.above))).trans (I.base.keep b o e n K B)
  .obtain⟨sl,g⟩:=I.base.slot b o e n K B;exact⟨sl,(f.2 b (aM (aE (aL e) I.ok.above))).trans g⟩
  .obtain⟨o',g⟩:=I.base.there b o e B;exact⟨o',(f.2 b (aM (aE (aL e) I.ok.above))).trans g⟩
  .by_cases L:j=i
   .subst L;rw[hi]at g;cases g;rw[List.getElem?_set_self F]at D;cases D;exact⟨u,r,.inl ⟨J,by simp⟩⟩
   .rw[aq (Ne.symm L)]at D;obtain⟨u',r',q⟩:=hl j y v' g D e3;refine⟨u',r',?_⟩;rcases q with⟨k,e⟩|⟨k,c,e,z⟩
    .refine .inl ⟨k,?_⟩;have:y≠x:=λe=>L (EL hN g (e▸hi));simp[this,e]
    .exact .inr ⟨k,c,e,z.sameBut f (cne y c e)⟩
  .obtain⟨w',z⟩:=I.cell y c e;exact⟨w',z.sameBut f (cne y c e)⟩
  .obtain⟨e,n,ne,nf,d⟩:=I.pin p hp;exact⟨(f.2 p.1 ne).trans e,n,ne,nf,d⟩
 .have P:X.fn x=true:=by
   rcases hf with z|z
   .exact z
   .rw[z]at J;cases J
  obtain⟨c,l⟩:=I.ok.has x (.inl J);obtain⟨w',z⟩:=I.cell x c l;refine wpAny_storeName_cell I.ok.kind J l z (λh' Y f=>?_);obtain⟨oc,Z,S⟩:=id z;refine h {s with heap:=h'} ⟨I.ok,I.os,I.bare,⟨λb o e n K B=>?_,λb o e n K B=>?_,I.base.free,λb o e B=>?_,I.base.tups,I.base.frzs,I.base.tbls⟩,⟨m,hn.sameBut f (Ne.symm (cne x c l)),λj y v' g D e3=>?_⟩,λy c' e=>?_,I.free,I.freeC,λp hp=>?_,tracked ⟨oc,Z,I.freeC x c l⟩ f,by simpa using I.len⟩ ⟨c,f,.inr l⟩
  .exact (f.2 b (aM (aE (aL e) (I.ok.cab x c P l)))).trans (I.base.keep b o e n K B)
  .obtain⟨sl,g⟩:=I.base.slot b o e n K B;exact⟨sl,(f.2 b (aM (aE (aL e) (I.ok.cab x c P l)))).trans g⟩
  .obtain⟨o',g⟩:=I.base.there b o e B;exact⟨o',(f.2 b (aM (aE (aL e) (I.ok.cab x c P l)))).trans g⟩
  .by_cases L:j=i
   .subst L;rw[hi]at g;cases g;rw[List.getElem?_set_self F]at D;cases D;exact⟨u,r,.inr ⟨.inl J,c,l,Y⟩⟩
   .rw[aq (Ne.symm L)]at D;obtain⟨u',r',q⟩:=hl j y v' g D e3;refine⟨u',r',?_⟩;rcases q with q|⟨k,c',e,z'⟩
    .exact .inl q
    .refine .inr ⟨k,c',e,z'.sameBut f ?_⟩;rintro rfl;exact L (EL hN g (I.ok.inj _ _ _ e l▸hi))
  .by_cases U:c'=c
   .subst U;exact⟨_,Y⟩
   .obtain⟨w2,z2⟩:=I.cell y c' e;exact⟨w2,z2.sameBut f U⟩
  .obtain⟨e,n,ne,nf,d⟩:=I.pin p hp;refine⟨(f.2 p.1 ?_).trans e,n,ne,nf,d⟩;intro q;rw[q,Z]at e;have q':=Option.some.inj e;exact d w' (by rw[<-q'];exact S)
def EY{M:Model}{A:Around}{E:Value->Shared->Prop}{i:Nat}{x:Str}{v:V}{u:Value}{Q:Unit->Shared->Prop}(I:jq X iO σ H s)(d:X.N.Nodup)(b:X.N[i]? = some x)(e:Hx X.env.scope x)(r:kr v u)
  (h:∀a,jq X iO (σ.set i (some v)) H a->Q () a) (c:X.fn x=true\/X.env.scope.names.lookup x=some .local:=by first|exact .inl rfl|exact .inr rfl|assumption):wpAny M A (storeName X.env x u) Q E s:=
 B4 I d b e r (λa f _=>h a f) c
def jq.call'(I:jq X iO σ H s)(g:s'.os=s.os)(u:Un (JS X.stack) ch H H' s.heap s'.heap)(a:uT X.prog X.w H' s'.heap)(f:AllBare s'.gens)
  (d:∀b∈ch,(b∈X.ex\/X.s₀.heap.objs.size<=b)/\b≠X.env.locals/\(∀x c,X.env.cells.lookup x=some c->c≠b)/\∀p∈X.pn++iO,p.1≠b):jq X iO σ H' s':=by
 obtain⟨h',h,k,j,i⟩:=s';have e:=g;subst e;exact I.call u a f d
end
abbrev XK:=Value->Option Addr->Hp->Prop
abbrev St:=List (Option V)
abbrev VK:=V->Hp->Prop
abbrev TE:=St->Hp->VK->Prop
abbrev TT:=St->Hp->(Bool->Hp->Prop)->Prop
abbrev TA:=St->Hp->(List V->Hp->Prop)->Prop
structure xN where
 nx:St->Hp->Prop
 rt:VK
 bk:St->Hp->Prop:=λ_ _=>False
 ct:St->Hp->Prop:=λ_ _=>False
abbrev TS:=xN->St->Hp->Prop
def EP(X:Cx)(d:List (Addr×Obj))(c:St)(Q:VK)(u:Value)(b:Shared):Prop:=∃v a,jq X d c a b/\kr v u/\Q v a
def TP(X:Cx)(e:List (Addr×Obj))(d:St)(Q:Bool->Hp->Prop)(b:Bool)(c:Shared):Prop:=∃a,jq X e d a c/\Q b a
def AP(X:Cx)(e:List (Addr×Obj))(d:St)(Q:List V->Hp->Prop)(us:List Value)(c:Shared):Prop:=∃b a,jq X e d a c/\jZ b us/\Q b a
def SP(X:Cx)(d:List (Addr×Obj))(D:xN)(f:Flow)(c:Shared):Prop:=
 match f with
 |.next=>∃a b,jq X d a b c/\D.nx a b
 |.brk=>∃a b,jq X d a b c/\D.bk a b
 |.cont=>∃a b,jq X d a b c/\D.ct a b
 |.ret u=>∃v a b,jq X d a b c/\kr v u/\D.rt v b
def PE(X:Cx)(e:Expr)(t:TE):Prop:=∀(b:List (Addr×Obj)) (s:Shared) (a:St) (H:Hp) (Q:VK),jq X b a H s->t a H Q->wpAny (model X.prog X.w) X.A (eval e X.env) (EP X b a Q) X.xe s
def PT(X:Cx)(e:Expr)(t:TT):Prop:=∀(b:List (Addr×Obj)) (s:Shared) (a:St) (H:Hp) (Q:Bool->Hp->Prop),jq X b a H s->t a H Q->wpAny (model X.prog X.w) X.A (isTrue e X.env (eval e X.env)) (TP X b a Q) X.xe s
def PW(X:Cx)(e:Expr)(t:TT):Prop:=∀(a:Sem Value) (c:List (Addr×Obj)) (s:Shared) (b:St) (H:Hp) (Q:Bool->Hp->Prop),jq X c b H s->t b H Q->wpAny (model X.prog X.w) X.A (isTrue e X.env a) (TP X c b Q) X.xe s
def PW.pt(h:PW X e t):PT X e t:=h _
def PA(X:Cx)(c:List Expr)(t:TA):Prop:=∀(pos:Pos) (b:List (Addr×Obj)) (s:Shared) (a:St) (H:Hp) (Q:List V->Hp->Prop),jq X b a H s->t a H Q->wpAny (model X.prog X.w) X.A (spliced (backTo pos (starEach c X.env))) (AP X b a Q) X.xe s
def PS(X:Cx)(st:Stmt)(t:TS):Prop:=∀(b:List (Addr×Obj)) (s:Shared) (a:St) (H:Hp) (D:xN),jq X b a H s->t D a H->wpAny (model X.prog X.w) X.A (exec st X.env) (SP X b D) X.xe s
def EO(X:Cx)(st:List Stmt)(t:TS):Prop:=∀(b:List (Addr×Obj)) (s:Shared) (a:St) (H:Hp) (D:xN),jq X b a H s->t D a H->wpAny (model X.prog X.w) X.A (execs st X.env) (SP X b D) X.xe s
def lV{b:Type}{t:Sem b}{Q c:b->Shared->Prop}{M:Model}{A:Around}{E:Value->Shared->Prop}{s:Shared}(h:wpAny M A t Q E s)(d:∀a s,Q a s->c a s):wpAny M A t c E s:=wpAny_mono h d λ_ _ x=>x
end L2
namespace L2
open PySem PySem.Spec PyProof.Rows
section
variable {X:Cx}
def qD(i:Nat):TE:=λa H Q=>∃v,a[i]? = some (some v)/\Q v H
def tC(v:V):TE:=λ_ H Q=>Q v H
def RH(q:X.N[i]? = some x)(hv:VS X.env.scope x)(f:(x==("__debug__" : Str))=false:=by decide)(g:(x==("__classdict__" : Str))=false:=by decide):PE X (.Name x pos) (qD i):=by
 intro k s n H Q I h;obtain⟨v,e,h⟩:=h;obtain⟨m,p,w⟩:=I.loc;obtain⟨u,r,l⟩:=w i x v q e hv;have b:EP X k n Q u s:=⟨v,H,I,r,h⟩;rcases l with⟨d,o⟩|⟨d,c,j,a⟩
 .exact wpAny_Name (wpAny_loadName_local I.ok.kind d p o b) f
 .rcases d with d|d
  .exact wpAny_Name (wpAny_loadName_cell I.ok.kind d j a b) f
  .exact wpAny_Name (wpAny_loadName_free I.ok.kind d j a b g) f
def Tp{i j pos}:PE X (.Constant (.int i) j pos) (tC (.int i)):=λ_ _ _ H _ I h=>wpAny_Constant_int ⟨.int i,H,I.tok _,⟨_,rfl⟩,h⟩
def UJ{b j pos}:PE X (.Constant (.bool b) j pos) (tC (.bl b)):=λ_ _ _ H _ I h=>Constant_bool ⟨.bl b,H,I,rfl,h⟩
def SU{j pos}:PE X (.Constant .none j pos) (tC .non):=λ_ _ _ H _ I h=>Constant_none ⟨.non,H,I,rfl,h⟩
def T9{x j pos}:PE X (.Constant (.str x) j pos) (tC (.str x)):=λ_ _ _ H _ I h=>Calls.Constant_str ⟨.str x,H,I.tok _,⟨_,rfl⟩,h⟩
def Gl(X:Cx)(x:Str):Prop:=X.env.kindOf x=some .globalImplicit
def C3(I:jq X iO σ H s)(c:Gl X x)(a:X.mg x=some u)(h:Q u s)
  (b:(x==("__debug__" : Str))=false:=by decide):wpAny (model X.prog X.w) X.A (eval (.Name x pos) X.env) Q E s:=
 Calls.Name_function_global I.ok.kind c (Calls.loadGlobal_global (by rw[I.ok.glob];exact I.mod.glob.keeps I.bk) a h) b
def sT(I:jq X iO σ H s)(c:Gl X x)(a:X.mg x=none)(hv:bootBuiltins x=some u)(h:Q u s)
  (d:x≠ "__name__" :=by decide) (b:(x==("__debug__" : Str))=false:=by decide):wpAny (model X.prog X.w) X.A (eval (.Name x pos) X.env) Q E s:=by
 obtain⟨g,f,e⟩:=I.mod.blt;exact Calls.Name_function_global I.ok.kind c (Calls.loadGlobal_builtin (by rw[I.ok.glob];exact I.mod.glob.keeps I.bk) a (by rw[I.ok.blt];exact f.keeps I.bk) ((e x d).trans hv) h) b
def PB(c:Gl X x)(a:X.mg x=some u)(r:kr v u)(b:(x==("__debug__" : Str))=false:=by decide):PE X (.Name x pos) (tC v):=λ_ _ _ H _ I h=>C3 I c a ⟨v,H,I,r,h⟩ b
def OI(c:Gl X x)(a:X.mg x=none)(hv:bootBuiltins x=some u)(r:kr v u)(d:x≠ "__name__" :=by decide)(b:(x==("__debug__" : Str))=false:=by decide):PE X (.Name x pos) (tC v):=λ_ _ _ H _ I h=>sT I c a hv ⟨v,H,I,r,h⟩ d b
variable {a b:Expr}{ta tb:TE}{pos:Pos}
def tB(t:TE):TT:=λd H Q=>t d H λx e=>∃c,x=.bl c/\Q c e
def RM(h:PE X e t)(l:∀c,isTrue e X.env c=(do let v <-c;standAt e.pos;holding [v] (truthy v)):=by intro _;rfl):PT X e (tB t):=by intro g s i H Q I hw;refine isTrue_plain (lV (h g s i H _ I hw) λv o n=>?_) (l _);obtain⟨x,j,m,f,k⟩:=n;obtain⟨d,rfl,q⟩:=k;cases f;exact wpAny_truthy_bool ⟨j,m,q⟩
variable {tA tB':TT}{p9:List Expr}
def TU(t u:TT):TT:=λd H Q=>t d H λc e=>if c=true then u d e Q else Q false e
def WA(t u:TT):TT:=λd H Q=>t d H λc e=>if c=true then Q true e else u d e Q
def Sf(t:TT):TT:=λd H Q=>t d H λc e=>Q (!c) e
def OH(f:PT X a tA):PW X (.BoolOp .And [a] pos) tA:=by
 intro j g s d H Q I h;refine isTrue_and (lV (f g s d H Q I h) λc i e=>?_);cases c with
 |true=>exact isTrue_and_nil e
 |false=>exact e
def Tj(f:PT X a tA):PW X (.BoolOp .Or [a] pos) tA:=by
 intro j g s d H Q I h;refine isTrue_or (lV (f g s d H Q I h) λc i e=>?_);cases c with
 |false=>exact isTrue_or_nil e
 |true=>exact e
def Tv(m:PT X a tA)(j:PW X (.BoolOp .And (b::p9) pos) tB'):PW X (.BoolOp .And (a::b::p9) pos) (TU tA tB'):=by
 intro n i s d H Q I h;refine isTrue_and (lV (m i s d H _ I h) λc k l=>?_);obtain⟨f,e,g⟩:=l;cases c with
 |true=>exact j n i k d f Q e g
 |false=>exact⟨f,e,g⟩
def VT(m:PT X a tA)(j:PW X (.BoolOp .Or (b::p9) pos) tB'):PW X (.BoolOp .Or (a::b::p9) pos) (WA tA tB'):=by
 intro n i s d H Q I h;refine isTrue_or (lV (m i s d H _ I h) λc k l=>?_);obtain⟨f,e,g⟩:=l;cases c with
 |true=>exact⟨f,e,g⟩
 |false=>exact j n i k d f Q e g
def Tc(f:PT X a tA):PT X (.UnaryOp .Not a pos) (Sf tA):=by intro g s d H Q I h;exact isTrue_not (f g s d H (λc e=>Q (!c) e) I h)
def Lb(ta tb:TE):TE:=λd H Q=>ta d H λx e=>∃c,x=.bl c/\if c=true then tb d e Q else Q (.bl false) e
def Ui(ta tb:TE):TE:=λd H Q=>ta d H λx e=>∃c,x=.bl c/\if c=true then Q (.bl true) e else tb d e Q
def MQ(ta:TE):TE:=λd H Q=>ta d H λx e=>∃c,x=.bl c/\Q (.bl (!c)) e
def S8{op}(h:PE X a t):PE X (.BoolOp op [a] pos) t:=λd s c H Q I hw=>BoolOp_one (h d s c H Q I hw)
def R5(l:PE X a ta)(j:PE X (.BoolOp .And (b::p9) pos) tb):PE X (.BoolOp .And (a::b::p9) pos) (Lb ta tb):=by
 intro e s f H Q I h;refine BoolOp_and (lV (l e s f H _ I h) λv m n=>?_);obtain⟨x,g,i,k,d⟩:=n;obtain⟨c,rfl,d⟩:=d;cases k;refine wpAny_truthy_bool ?_;cases c with
 |true=>exact j e m f g Q i d
 |false=>exact⟨.bl false,g,i,rfl,d⟩
def UM(l:PE X a ta)(j:PE X (.BoolOp .Or (b::p9) pos) tb):PE X (.BoolOp .Or (a::b::p9) pos) (Ui ta tb):=by
 intro e s f H Q I h;refine BoolOp_or (lV (l e s f H _ I h) λv m n=>?_);obtain⟨x,g,i,k,d⟩:=n;obtain⟨c,rfl,d⟩:=d;cases k;refine wpAny_truthy_bool ?_;cases c with
 |false=>exact j e m f g Q i d
 |true=>exact⟨.bl true,g,i,rfl,d⟩
def SX(k:PE X a ta):PE X (.UnaryOp .Not a pos) (MQ ta):=by intro l s e H Q I h;refine UnaryOp_ (lV (k l s e H _ I h) λv m i=>?_);obtain⟨x,g,f,j,d⟩:=i;obtain⟨c,rfl,d⟩:=d;cases j;exact not_of (wpAny_truthy_bool ⟨.bl (!c),g,f,rfl,d⟩)
def Wy(t:TT)(ta tb:TE):TE:=λd H Q=>t d H λc e=>if c=true then ta d e Q else tb d e Q
def KB(m:PT X c tA)(o:PE X a ta)(l:PE X b tb):PE X (.IfExp c a b pos) (Wy tA ta tb):=by
 intro f s e H Q I h;refine wpAny_IfExp (lV (m f s e H _ I h) λd j n=>?_);obtain⟨i,g,k⟩:=n;cases d with
 |true=>exact o f j e i Q g k
 |false=>exact l f j e i Q g k
end
end L2
namespace L2
open PySem PySem.Spec PyProof.Rows
def nh(K:W.Frag)(H:Hp)(a:Addr)(c:List V):Prop:=
 Rd H a (.lst c)\/
  ∃(o:Obj) (b:Array Value) (n:Nat),K.lookup a=some o/\o.cls=.type "list" /\o.dict=none/\o.data=.seq b n/\b.size<=sizeLine/\jZ c b.toList
def pX(K:W.Frag)(H:Hp)(a:Addr)(c:List V):Prop:=
 Rd H a (.tup c)\/
  ∃(o:Obj) (b:Array Value) (n:Nat),K.lookup a=some o/\o.cls=.type "tuple" /\o.data=.seq b n/\b.size<=sizeLine/\jZ c b.toList
def WD:Value->Option V
 |.none=>some .non
 |.bool b=>some (.bl b)
 |.int i _=>some (.int i)
 |.str x _=>some (.str x)
 |.bytes b _=>some (.byt b)
 |.float b _=>some (.flt b)
 |.ref a=>some (.ref a)
 |.type n=>some (.ty n)
 |_=>none
def kr.abs(r:kr x u):WD u=some x:=by
 cases x with
 |non=>cases r;rfl
 |bl _=>cases r;rfl
 |int _=>obtain⟨t,rfl⟩:=r;rfl
 |str _=>obtain⟨t,rfl⟩:=r;rfl
 |byt _=>obtain⟨t,rfl⟩:=r;rfl
 |flt _=>obtain⟨t,rfl⟩:=r;rfl
 |ref _=>cases r;rfl
 |ty _=>cases r;rfl
def kr.inj(r:kr x u)(q:kr y u):x=y:=Option.some.inj (r.abs.symm.trans q.abs)
def jZ.inj{xs ys us}(h:jZ xs us)(a:jZ ys us):xs=ys:=by
 induction h generalizing ys with
 |nil=>cases a;rfl
 |cons r _ ih=>cases a with|cons r' t'=>rw[r.inj r',ih t']
section
variable {X:Cx}{iO:List (Addr×Obj)}{σ:St}{H:Hp}{s:Shared}{a:Addr}{xs ys:List V}
def nh.of{K:W.Frag}(h:H a=some (.lst xs)):nh K H a xs:=.inl (.inl h)
def pX.of{K:W.Frag}(h:H a=some (.tup xs)):pX K H a xs:=.inl (.inl h)
def jq.list(I:jq X iO σ H s)(h:nh X.K H a xs):∃its:List Value,jZ xs its/\PlainL s.heap a its.toArray/\xs.length<=sizeLine:=by
 rcases h with h|⟨o,its,n,d,c,b,f,g,r⟩
 .obtain⟨z,its,n,r,e⟩:=h.ok I.hok;exact⟨its,r,⟨_,n,e,rfl,rfl,rfl⟩,z⟩
 .refine⟨its.toList,r,⟨o,n,I.kIn a o d,c,b,by simpa using f⟩,?_⟩;have e:=r.length;simp only[bA]at e;exact aN (bB e) g
def jq.tuple(I:jq X iO σ H s)(h:pX X.K H a xs):∃its:List Value,jZ xs its/\IsTup s.heap a its.toArray/\xs.length<=sizeLine:=by
 rcases h with h|⟨o,its,n,c,b,d,f,r⟩
 .obtain⟨z,its,r,p⟩:=h.ok I.hok;exact⟨its,r,p.tup,z⟩
 .refine⟨its.toList,r,⟨o,I.kIn a o c,b,n,by simpa using d⟩,?_⟩;have e:=r.length;simp only[bA]at e;lia
def jq.list_inj(I:jq X iO σ H s)(h:nh X.K H a xs)(k:nh X.K H a ys):xs=ys:=by
 obtain⟨c,r,⟨o,n,e,_,_,d⟩,_⟩:=I.list h;obtain⟨b,i,⟨l,m,f,_,_,g⟩,_⟩:=I.list k;rw[e]at f;cases f;rw[d]at g;injection g with j _;have:c=b:=by simpa using congrArg Array.toList j
 subst this;exact r.inj i
def jq.tuple_inj(I:jq X iO σ H s)(h:pX X.K H a xs)(k:pX X.K H a ys):xs=ys:=by
 obtain⟨c,r,⟨o,e,_,n,d⟩,_⟩:=I.tuple h;obtain⟨b,i,⟨l,f,_,m,g⟩,_⟩:=I.tuple k;rw[e]at f;cases f;rw[d]at g;injection g with j _;have:c=b:=by simpa using congrArg Array.toList j
 subst this;exact r.inj i
end
noncomputable abbrev Cx.wish(X:Cx)(E:Value->Shared->Prop):Cx:={X with xe:=E}
abbrev Cx.nox(X:Cx):Cx:=X.wish λ_ _=>False
def Cx.Ok.wish{X:Cx}(ok:X.Ok) E:(X.wish E).Ok:=⟨ok.mod,ok.kind,ok.glob,ok.blt,ok.above,ok.inj,ok.has,ok.cab,ok.hd,ok.frames,ok.stk,ok.exf,ok.bs,ok.bsz,ok.noex,ok.exfs,ok.funs,ok.frf,ok.tab,ok.tree,ok.dp,ok.fst⟩
def Cx.Ok.unwish{X:Cx}(ok:(X.wish E).Ok):X.Ok:=⟨ok.mod,ok.kind,ok.glob,ok.blt,ok.above,ok.inj,ok.has,ok.cab,ok.hd,ok.frames,ok.stk,ok.exf,ok.bs,ok.bsz,ok.noex,ok.exfs,ok.funs,ok.frf,ok.tab,ok.tree,ok.dp,ok.fst⟩
section
variable {X:Cx}{iO:List (Addr×Obj)}{σ:St}{H:Hp}{s:Shared}{E:Value->Shared->Prop}
def jq.wish(I:jq X iO σ H s) E:jq (X.wish E) iO σ H s:=⟨I.ok.wish E,I.os,I.bare,I.base,I.loc,I.cell,I.free,I.freeC,I.pin,I.hok,I.len⟩
def jq.unwish(I:jq (X.wish E) iO σ H s):jq X iO σ H s:=⟨I.ok.unwish,I.os,I.bare,I.base,I.loc,I.cell,I.free,I.freeC,I.pin,I.hok,I.len⟩
def SP.unwish(h:SP (X.wish E) iO D f s'):SP X iO D f s':=by
 cases f with
 |next=>obtain⟨a,b,I,q⟩:=h;exact⟨a,b,I.unwish,q⟩
 |brk=>obtain⟨a,b,I,q⟩:=h;exact⟨a,b,I.unwish,q⟩
 |cont=>obtain⟨a,b,I,q⟩:=h;exact⟨a,b,I.unwish,q⟩
 |ret u=>obtain⟨v,a,b,I,r,q⟩:=h;exact⟨v,a,b,I.unwish,r,q⟩
def EO.nox{st:List Stmt}(h:EO X.nox st t):EO X st t:=λiO s σ H D I hw=>wpAny_mono (h iO s σ H D (I.wish _) hw) (λ_ _ q=>q.unwish) λ_ _ z=>False.elim z
end
section
variable {X:Cx}{st:Stmt}{p9:List Stmt}{t u:TS}{e:Expr}{te:TE}{pos:Pos}
def NH:TS:=λD a H=>D.nx a H
def Qr(t u:TS):TS:=λD a H=>t {D with nx:=u D} a H
def P7:EO X [] NH:=λ_ _ a H _ I h=>wpAny_execs_nil ⟨a,H,I,h⟩
def EW(k:PS X st t)(j:EO X p9 u):EO X (st::p9) (Qr t u):=by
 intro b s c H D I h;refine wpAny_execs_cons (lV (k b s c H {D with nx:=u D} I h) λf i q=>?_);cases f with
 |next=>obtain⟨a,g,d,q⟩:=q;exact j b i a g D d q
 |ret v=>exact q
 |brk=>exact q
 |cont=>exact q
def HL(b:PS X st t):EO X [st] t:=by
 intro c s a H D I h;refine wpAny_execs_cons (lV (b c s a H D I h) λf d q=>?_);cases f with
 |next=>exact wpAny_execs_nil q
 |ret v=>exact q
 |brk=>exact q
 |cont=>exact q
def jq.quiet(I:jq X iO σ H s):interactive X.env=false:=by simp[interactive,I.ok.kind]
def v8(te:TE):TS:=λD a H=>te a H λ_ b=>D.nx a b
def zm(d:PE X e te)(b:swapsWith e none pos.line X.env=pure false:=by rfl):PS X (.Expr e pos) (v8 te):=by intro c s a H D I h;exact wpAny_Expr_any (lV (d c s a H _ I h) λv s1 ⟨x,H1,I1,r1,q1⟩=>⟨a,H1,I1,q1⟩) I.quiet b
def Dd(te:TE):TS:=λD a H=>te a H D.rt
def CZ(c:PE X e te):PS X (.Return (some e) pos) (Dd te):=by intro b s a H D I h;exact wpAny_Return_some (lV (c b s a H _ I h) λv s1 ⟨x,H1,I1,r1,q1⟩=>⟨x,a,H1,I1,r1,q1⟩)
def TX(c:TT)(t u:TS):TS:=λD a H=>c a H λb d=>if b=true then t D a d else u D a d
def VC(n:PT X c tc)(p:EO X a t)(m:EO X b u):PS X (.If c a b pos) (TX tc t u):=by
 intro g s f H D I h;refine wpAny_If (lV (n g s f H _ I h) λd k o=>?_);obtain⟨j,i,l⟩:=o;cases d with
 |true=>exact p g k f j D i l
 |false=>exact m g k f j D i l
def Ge:TS:=λ_ _ _=>False
def Mz:PS X st Ge:=λ_ _ _ _ _ _ h=>h.elim
end
abbrev TG:=V->St->Hp->(St->Hp->Prop)->Prop
abbrev Oc:=List V->St->Hp->(St->Hp->Prop)->Prop
def PG(X:Cx)(target:Expr)(t:TG):Prop:=
 ∀(d:List (Addr×Obj)) (s:Shared) (b:St) (H:Hp) (v:V) (u:Value) (Q:St->Hp->Prop),jq X d b H s->kr v u->t v b H Q->
  wpAny (model X.prog X.w) X.A (assign target X.env u) (λ_ e=>∃a c,jq X d a c e/\Q a c) X.xe s
def UB(X:Cx)(ts:List Expr)(t:Oc):Prop:=
 ∀(f:List (Addr×Obj)) (s:Shared) (b:St) (H:Hp) (d:List V) (e:List Value) (Q:St->Hp->Prop),jq X f b H s->jZ d e->t d b H Q->
  wpAny (model X.prog X.w) X.A (assignInOrder ((assignEach ts X.env).map (·.2)) e) (λ_ g=>∃a c,jq X f a c g/\Q a c) X.xe s
abbrev Vm:=V->V->V->Hp->(Hp->Prop)->Prop
def Vw(X:Cx)(t:Vm):Prop:=
 ∀(e:List (Addr×Obj)) (s:Shared) (a:St) (H:Hp) (o i v:V) (c d u:Value) (Q:Hp->Prop),jq X e a H s->kr o c->kr i d->kr v u->t o i v H Q->
  wpAny (model X.prog X.w) X.A (setItem c d u) (λ_ f=>∃b,jq X e a b f/\Q b) X.xe s
section
variable {X:Cx}{pos:Pos}
def mx(i:Nat):TG:=λv a H Q=>Q (a.set i (some v)) H
def Hk(b:X.N.Nodup)(c:X.N[i]? = some x)(d:Hx X.env.scope x)(a:X.fn x=true\/X.env.scope.names.lookup x=some .local:=by first|exact .inl rfl|exact .inr rfl|assumption):PG X (.Name x pos) (mx i):=by intro j s g H v u Q I r h;exact wpAny_assign_Name (EY I b c d r (λf e=>⟨_,H,e,h⟩) a)
def IU:Oc:=λb a H Q=>b=[]/\Q a H
def zM(t:TG)(u:Oc):Oc:=λd b H Q=>∃v r,d=v::r/\t v b H λa c=>u r a c Q
def HQ:UB X [] IU:=by intro d s a H b c Q I r h;obtain⟨e,h⟩:=h;subst e;cases r;exact assignInOrder_nil ⟨a,H,I,h⟩
theorem E8(f:PG X e t)(d:UB X es u)
  (n:(assignEach (e::es) X.env).map (·.2)=assign e X.env::(assignEach es X.env).map (·.2):=by rfl):UB X (e::es) (zM t u):=by
 intro b s g H q o Q I r h;obtain⟨v,p,c,h⟩:=h;subst c;cases r with
 |cons r rr=>rw[n];refine assignInOrder_cons (lV (f b s g H _ _ _ I r h) λ_ l m=>?_);obtain⟨a,i,k,j⟩:=m;exact d b l a i _ _ Q k rr j
def JJ(K:W.Frag)(n:Nat)(t:Oc):TG:=λv c H Q=>∃a b,v=.ref a/\pX K H a b/\b.length=n/\t b c H Q
def Ki(q:X.calm=true)(h:UB X es t)
  (l:(assignEach es X.env).length=n:=by rfl) (c:(assignEach es X.env).findIdx? (·.1)=none:=by rfl):PG X (.Tuple es k pos) (JJ X.K n t):=by
 intro i s j H v u Q I r hw;obtain⟨a,y,f,z,w,hw⟩:=hw;subst f;cases r;obtain⟨g,d,m,B⟩:=I.tuple z;refine assign_Tuple_tuple (I.ok.hd q) m (by simp[l,<-w,d.length]) c λA p=>?_;have x:=I.kept (t':=s.toks) λb o e=>p b o (aM (aL e)) e;exact h i _ j H y _ Q x d hw
def Tw(to c:TE)(t:Vm):TG:=λv a H Q=>to a H λo e=>c a e λi d=>t o i v d λb=>Q a b
def SO(D:PE X o to)(n:PE X i ti)(F:Vw X t)
  (A:∀v,assign (.Subscript o i pos) X.env v=(do
   let a <-holding [v] (eval o X.env)
   let b <-holding [v,a] (eval i X.env)
   standAt pos
   holding [v,a,b] (setItem a b v)
   release [v,a,b] []):=by intro _;rfl):PG X (.Subscript o i pos) (Tw to ti t):=by
 intro e s d H v u Q I r h;rw[A];refine ao (wpAny_holding (lV (D e s d H _ I h) λa E c=>?_));obtain⟨x,l,C,f,p⟩:=c;refine ao (wpAny_holding (lV (n e E d l _ C p) λb q c=>?_));obtain⟨y,k,z,g,B⟩:=c;refine ao (wpAny_standAt (ao (wpAny_holding (lV (F e q d k x y v a b u _ z f g r B) λ_ J c=>?_))));obtain⟨j,m,w⟩:=c;exact wpAny_release ⟨d,j,m,w⟩
def q8(te:TE)(g:TG):TS:=λD σ H=>te σ H λx H1=>g x σ H1 D.nx
def Nc(j:PE X e te)(l:PG X tg g)(o:swapsWithSole [tg] e pos.line X.env=pure false:=by rfl)(hw:swappedStores [tg] e X.env=pure none:=by rfl)
  (d:(assignEach [tg] X.env).map (·.2)=[assign tg X.env]:=by rfl):PS X (.Assign [tg] e pos) (q8 te g):=by
 intro a s b H D I h;refine wpAny_Assign_stores (lV (j a s b H _ I h) λv m n=>?_) o hw;obtain⟨x,f,k,c,i⟩:=n;rw[d];exact lV (l a m b f x v _ k c i) λ_ p q=>q
def AC(l:X.N.Nodup)(f:X.N[i]? = some x)(j:Hx X.env.scope x)(n:PE X e te)(q:swapsWith e (some (.Name x pos')) pos.line X.env=pure false:=by rfl)(k:X.fn x=true\/X.env.scope.names.lookup x=some .local:=by first|exact .inl rfl|exact .inr rfl|assumption) :
  PS X (.Assign [.Name x pos'] e pos) (q8 te (mx i)):=by
 intro b s c H D I h;refine wpAny_Assign_Name (lV (n b s c H _ I h) λv u p=>?_) q;obtain⟨y,d,o,a,g⟩:=p;exact EY o l f j a (λr m=>⟨_,d,m,g⟩) k
end
section
variable {X:Cx}{pos:Pos}
def GK(c:TT)(tb:TS):TS:=λD a H=>∃W:Nat->St->Hp->Prop,(∃m,W m a H)/\∀m a H,W m a H->
 c a H λb f=>if b=true then ∃N:St->Hp->Prop,(∀d e,N d e->∃g,g<m/\W g d e)/\tb {D with nx:=N,ct:=N,bk:=D.nx} a f else D.nx a f
def MX(y:PassesOwn (model X.prog X.w) X.A X.env X.xe)(L:PT X c tc)(E:EO X body tb):PS X (.While c body [] pos) (GK tc tb):=by
 intro l s F H D I h;obtain⟨W,⟨S,Q⟩,e⟩:=h;refine wpAny_While (codeAny_whileLoop (λn K=>∃i z,jq X l i z K/\W n i z) ?_ S ⟨F,H,I,Q⟩);rintro n Y ⟨d,x,R,P⟩;refine wpAny_passesOwn y (lV (L l Y d x _ R (e n d x P)) λb J U=>?_);obtain⟨u,B,k⟩:=U;cases b with
 |true=>
  obtain⟨N,C,k⟩:=k;rw[aQ rfl];refine wpAny_passesOwn y (lV (E l J d u _ B k) λf Z j=>?_);cases f with
  |next=>obtain⟨a,g,p,q⟩:=j;obtain⟨o,m,r⟩:=C a g q;exact⟨o,m,a,g,p,r⟩
  |cont=>obtain⟨a,g,p,q⟩:=j;obtain⟨o,m,r⟩:=C a g q;exact⟨o,m,a,g,p,r⟩
  |brk=>exact j
  |ret v=>exact j
 |false=>rw[aR aH];exact wpAny_execs_nil ⟨d,u,B,k⟩
end
structure It where
 go:Nat->Hp->Prop
 yld:Nat->Hp->V->Hp->Prop
 stop:Nat->Hp->Prop
def vN(X:Cx)(a:List (Addr×Obj))(H:Hp)(b:Addr):Prop:=H b=none/\b≠X.env.locals/\b∉X.fs/\(b∈X.ex\/X.s₀.heap.objs.size<=b)/\(∀x c,X.env.cells.lookup x=some c->c≠b)/\∀p∈X.pn++a,p.1≠b
def jq.fpOk(I:jq X iO σ H s)(a:s.heap.objs.size<=b)(d:H' b=none):vN X iO H' b:=by
 refine⟨d,bC (aE I.lt a),I.nofs a,.inr (aN I.sz a),λx c e z=>?_,λp f z=>?_⟩
 .obtain⟨v,q⟩:=I.cell x c e;exact absurd (aE q.lt (by rw[z];exact a)) (a9 _)
 .exact absurd (aE (aL (I.pin p f).1) (by rw[z];exact a)) (a9 _)
structure DK(P:Program)(w:World)(K:W.Frag)(tg:Expr)(J:It)(fp:List Addr)(it:Addr)(tn:Nat->Heap->Prop):Prop where
 mem:it∈fp
 obj:∀i h,tn i h->∀b∈fp,∃o,h.get? b=some o/\∀v,o.data≠.cell v
 keep:∀i h h',tn i h->(∀b∈fp,∀o,h.get? b=some o->h'.get? b=some o)->tn i h'
 item:∀(X:Cx),X.prog=P->X.w=w->X.K=K->X.calm=true->∀(i:Nat) (iO:List (Addr×Obj)) (s:Shared) (σ:St) (H:Hp) (E:Value->Shared->Prop),jq X iO σ H s->(∀b∈fp,vN X iO H b)->tn i s.heap->J.go i H->
  wpAny (model P w) X.A (pyNext (.ref it)) (λr s1=>∃u,r=some u/\
   wpAny (model P w) X.A (letOwnedTupleGo tg (.ref it) u) (λ_ s2=>∃x H',jq X iO σ H' s2/\kr x u/\J.yld i H x H'/\tn (i+1) s2.heap/\∀b∈fp,H' b=none) E s1) E s
 done:∀(X:Cx),X.prog=P->X.w=w->X.K=K->X.calm=true->∀(i:Nat) (iO:List (Addr×Obj)) (s:Shared) (σ:St) (H:Hp) (E:Value->Shared->Prop),jq X iO σ H s->(∀b∈fp,vN X iO H b)->tn i s.heap->J.stop i H->
  wpAny (model P w) X.A (pyNext (.ref it)) (λr s1=>r=none/\jq X iO σ H s1) E s
 self:∀(A:Around) (i:Nat) (s:Shared) (Q:Value->Shared->Prop) (E:Value->Shared->Prop),tn i s.heap->Q (.ref it) s->wpAny (model P w) A (pyIter (.ref it)) Q E s
abbrev TI:=St->Hp->(It->Hp->Prop)->Prop
def W6(X:Cx)(g:List (Addr×Obj))(h:St)(i:Expr)(R:It->Hp->Prop)(a:Value)(f:Shared):Prop:=∃(it:Addr) (e:List Addr) (d:Nat->Heap->Prop) (J:It) (c:Hp),a=.ref it/\jq X g h c f/\DK X.prog X.w X.K i J e it d/\d 0 f.heap/\(∀b∈e,vN X g c b)/\R J c
def PI(X:Cx)(d a:Expr)(e:TI):Prop:=
 ∀(c:List (Addr×Obj)) (s:Shared) (b:St) (H:Hp) (R:It->Hp->Prop),jq X c b H s->e b H R->
  wpAny (model X.prog X.w) X.A (eval a X.env) (λv f=>wpAny (model X.prog X.w) X.A (pyIter v) (W6 X c b d R) X.xe f) X.xe s
theorem Ie{M:Model}{A:Around}{E:Value->Shared->Prop}{s:Shared}{b:Expr}{it:Addr}{u:Value}{o:Obj}{n:String}{vs:Array Value}{Q:Unit->Shared->Prop}(f:s.heap.get? it=some o)(e:o.cls=.type n)(c:o.data=.fields vs)
    (d:["enumerate", "zip", "dict_itemiterator", "dict_reverseitemiterator", "odict_iterator", "itertools.zip_longest", "itertools.pairwise"].contains n=false) (a:Q () s):wpAny M A (letOwnedTupleGo b (.ref it) u) Q E s:=by
  unfold letOwnedTupleGo;cases b<;>first
    |exact ak a
    | (cases u<;>first
        |exact ak a
        | (refine ao (wpAny_load f ?_)
           rw[e,c]
           show wpAny M A (if (["enumerate", "zip", "dict_itemiterator", "dict_reverseitemiterator", "odict_iterator", "itertools.zip_longest", "itertools.pairwise"].contains n&&vs[0]? == some (rawInt _))=true then _ else _) Q E s
           rw[aR (by intro h;rw[d,Bool.false_and]at h;cases h)]
           exact ak a))
noncomputable def WW(K:W.Frag)(a:Addr):It:=⟨λi H=>∃b x,nh K H a b/\b[i]? = some x,λi H x c=>c=H/\∀b,nh K H a b->b[i]? = some x,λi H=>∃b,nh K H a b/\b.length<=i⟩
noncomputable def WB(K:W.Frag)(a:Addr):It:=⟨λi H=>∃b x,pX K H a b/\b[i]? = some x,λi H x c=>c=H/\∀b,pX K H a b->b[i]? = some x,λi H=>∃b,pX K H a b/\b.length<=i⟩
noncomputable def Vn(b:Int)(n:Nat):It:=⟨λi _=>i<n,λi H x a=>a=H/\x=.int (b+i),λi _=>n<=i⟩
def Js{K:W.Frag} a it:DK P w K tg (WW K a) [it] it (λi h=>h.IsListIter it a i) where
 mem:=by simp
 obj:=λi h f b g=>by
  have e:b=it:=by simpa using g
  subst e;obtain⟨o,e,c,d⟩:=f;exact⟨o,e,λv z=>by rw[d]at z;cases z⟩
 keep:=λi h N f k=>f.at λo e=>k it (.head _) o e
 item:=by intro X r hw C Q i U s Y H E I m f L;subst r hw C;obtain⟨xs,x,n,l⟩:=L;obtain⟨y,F,p,hz⟩:=I.list n;obtain⟨u,S,ru⟩:=F.get l;obtain⟨q,J,R,D,B,A⟩:=m it (.head _);refine wpAny_pyNext_list_item f p.isList (by simpa using S) λN j sb=>?_;have I1:=I.turned (t':=s.toks) (λb o g e=>(sb.2 b g).trans e) q J D B A;obtain⟨o,e,c,d⟩:=id j;exact⟨u,rfl,Ie e c d (by decide) ⟨x,H,I1,ru,⟨rfl,λys Z=>by rw[I.list_inj Z n];exact l⟩,j,λb g=>(m b g).1⟩⟩
 done:=by intro X r hw C Q i U s Y H E I m f L;subst r hw C;obtain⟨xs,n,l⟩:=L;obtain⟨y,F,p,hz⟩:=I.list n;obtain⟨q,J,R,D,B,A⟩:=m it (.head _);have hl:=F.length;exact wpAny_pyNext_list_end (I.ok.hd Q) f p.isList (by simp;exact aN (bB hl.symm) l) λN eb=>⟨rfl,I.turned (λb o g e=>eb b o g e) q J D B A⟩
 self:=λ_ _ _ _ _ f h=>wpAny_pyIter_listiter f h
def FV{K:W.Frag} a it:DK P w K tg (WB K a) [it] it (λi h=>h.IsTupleIter it a i) where
 mem:=by simp
 obj:=λi h f b g=>by
  have e:b=it:=by simpa using g
  subst e;obtain⟨o,e,c,d⟩:=f;exact⟨o,e,λv z=>by rw[d]at z;cases z⟩
 keep:=λi h N f k=>f.at λo e=>k it (.head _) o e
 item:=by intro X r hw C Q i U s Y H E I m f L;subst r hw C;obtain⟨xs,x,n,l⟩:=L;obtain⟨y,F,p,hz⟩:=I.tuple n;obtain⟨u,S,ru⟩:=F.get l;obtain⟨q,J,R,D,B,A⟩:=m it (.head _);refine wpAny_pyNext_tuple_item f (p) (by simpa using S) λN j sb=>?_;have I1:=I.turned (t':=s.toks) (λb o g e=>(sb.2 b g).trans e) q J D B A;obtain⟨o,e,c,d⟩:=id j;exact⟨u,rfl,Ie e c d (by decide) ⟨x,H,I1,ru,⟨rfl,λys Z=>by rw[I.tuple_inj Z n];exact l⟩,j,λb g=>(m b g).1⟩⟩
 done:=by intro X r hw C Q i U s Y H E I m f L;subst r hw C;obtain⟨xs,n,l⟩:=L;obtain⟨y,F,p,hz⟩:=I.tuple n;obtain⟨q,J,R,D,B,A⟩:=m it (.head _);have hl:=F.length;exact wpAny_pyNext_tuple_end (I.ok.hd Q) f (p) (by simp;exact aN (bB hl.symm) l) λN eb=>⟨rfl,I.turned (λb o g e=>eb b o g e) q J D B A⟩
 self:=λ_ _ _ _ _ f h=>wpAny_pyIter_tupleiter f h
def GQ{K:W.Frag} it lo n:DK P w K tg (Vn lo n) [it] it (λi h=>IsRangeIter h it (lo+(i:Nat)*1) ((n:Int)-(i:Nat)) 1) where
 mem:=by simp
 obj:=λi h a b c=>by
  have e:b=it:=by simpa using c
  subst e;exact⟨_,a,λv z=>by have F:=z;cases F⟩
 keep:=λi h j a k=>k it (.head _) _ a
 item:=by intro X l hw q r i A s B H E I f a y;subst l hw q;obtain⟨g,x,C,u,p,m⟩:=f it (.head _);have W:=Walks.range (prog:=X.prog) (w:=X.w) (I.ok.hd r) it lo 1 n;refine W.item i s _ _ y a λv j N hv d L=>?_;obtain⟨t,rfl⟩:=hv;have J:jq X A B H {s with heap:=j,toks:=N}:=I.turned (λb o c e=>L b o (by simpa using c) e) g x u p m;refine⟨_,rfl,Ie d rfl rfl (by decide) ⟨.int (lo+i),H,J,⟨t,?_⟩,⟨rfl,rfl⟩,d,λb c=>(f b c).1⟩⟩;rw[bD]
 done:=by intro X l hw q r i A s B H E I f a y;subst l hw q;obtain⟨g,x,C,u,p,m⟩:=f it (.head _);exact wpAny_pyNext_range_end (I.ok.hd r) a (by have:n<=i:=y;lia) λj D=>⟨rfl,I.turned (λb o c e=>D b o c e) g x u p m⟩
 self:=λ_ _ _ _ _ a h=>wpAny_pyIter_rangeiter a h
end L2
namespace L2
open PySem PySem.Spec PyProof.Rows
section
variable {X:Cx}{tg:Expr}
def Kn(K:W.Frag)(e:TE):TI:=λc H R=>e c H λx b=>∃a,x=.ref a/\(∃d,nh K b a d)/\R (WW K a) b
def Sv(K:W.Frag)(e:TE):TI:=λc H R=>e c H λx b=>∃a,x=.ref a/\(∃d,pX K b a d)/\R (WB K a) b
def Qk(r:PE X l tl):PI X tg l (Kn X.K tl):=by
 intro j s k H R I h;refine lV (r j s k H _ I h) λv d u=>?_;obtain⟨x,m,c,g,n⟩:=u;obtain⟨a,e,⟨A,w⟩,q⟩:=n;subst e;cases g;obtain⟨i,z,p,y⟩:=c.list w;refine wpAny_pyIter_list p.isList ?_;refine⟨d.heap.objs.size,[d.heap.objs.size],_,_,m,rfl,c.kept λb o e=>ae _ e,Js a _,⟨_,ar _ rfl,rfl,rfl⟩,λb f=>?_,q⟩;have e:b=d.heap.objs.size:=by simpa using f
 subst e;exact c.fpOk (aK _) (c.hok.fresh (aK _))
def R9(r:PE X l tl):PI X tg l (Sv X.K tl):=by
 intro j s k H R I h;refine lV (r j s k H _ I h) λv d u=>?_;obtain⟨x,m,c,g,n⟩:=u;obtain⟨a,e,⟨A,w⟩,q⟩:=n;subst e;cases g;obtain⟨i,z,p,y⟩:=c.tuple w;refine wpAny_pyIter_tuple (p) ?_;refine⟨d.heap.objs.size,[d.heap.objs.size],_,_,m,rfl,c.kept λb o e=>ae _ e,FV a _,⟨_,ar _ rfl,rfl,rfl⟩,λb f=>?_,q⟩;have e:b=d.heap.objs.size:=by simpa using f
 subst e;exact c.fpOk (aK _) (c.hok.fresh (aK _))
def NY{a c:Int}(I:jq X iO σ H s)(l:-(2 ^ 62)<=a)(k:a<2 ^ 62)(i:-(2 ^ 62)<=c)(f:c<2 ^ 62)
  (q:R (Vn a (c-a).toNat) H):wpAny (model X.prog X.w) X.A (pyIter (.ref s.heap.objs.size)) (W6 X iO σ tg R) E {s with heap:=s.heap.push {cls:=.type "range",data:=.fields #[.int a t,.int c u,.int 1 v]},toks:=tk}:=by
 refine wpAny_pyIter_range (IsRange.new ..) (small_one l k i f) ?_;have d:jq X iO σ H {s with heap:=s.heap.push {cls:=.type "range",data:=.fields #[.int a t,.int c u,.int 1 v]},toks:=tk}:=I.kept λb o e=>ae _ e;refine⟨(s.heap.push {cls:=.type "range",data:=.fields #[.int a t,.int c u,.int 1 v]}).objs.size,[(s.heap.push {cls:=.type "range",data:=.fields #[.int a t,.int c u,.int 1 v]}).objs.size],_,_,H,rfl,
  d.kept λb o e=>ae _ e,GQ _ a (c-a).toNat,?_,λb h=>?_,q⟩
 .have j:a+((0:Nat):Int)*1=a:=by simp
  have g:(((c-a).toNat:Nat):Int)-((0:Nat):Int)=Builtin.Range.rangeSize a c 1:=by rw[rangeSize_one];split<;>lia
  rw[j,g];exact ar _ rfl
 .have e:b=(s.heap.push {cls:=.type "range",data:=.fields #[.int a t,.int c u,.int 1 v]}).objs.size:=by simpa using h
  subst e;exact d.fpOk (aK _) (d.hok.fresh (aK _))
def L7(d:TA):TI:=λa H R=>d a H λb c=>∃j:Int,b=[.int j]/\-(2 ^ 62)<=j/\j<2 ^ 62/\R (Vn 0 j.toNat) c
def IJ(m:Gl X "range")(g:X.mg "range" = none)(i:PA X [a] ta)(o:starEach [a] X.env=[(false,eval a X.env)]:=by rfl):PI X tg (.Call (.Name "range" p) [a] [] pos) (L7 ta):=by
 intro d s f H R I h;refine Call_ (sT I m g boot_range (PyProof.Rows.callWith_type1 (lV (i pos d s f H _ I h) λu x n=>?_) o rfl));obtain⟨w,v,l,c,b⟩:=n;obtain⟨j,e,b,k,q⟩:=b;subst e;cases c with
 |cons r rr=>cases rr;obtain⟨t,rfl⟩:=r;exact call_range_1 (NY l (bE _) (bE _) b k (by simpa using q))
def Ks(j:TI)(g:TG)(tb:TS):TS:=λD a H=>j a H λJ h=>∃W:Nat->Nat->St->Hp->Prop,(∃m,W 0 m a h)/\∀i m a H,W i m a H->
 (J.stop i H/\D.nx a H)\/(J.go i H/\∃N:St->Hp->Prop,(∀b c,N b c->∃e,e<m/\W (i+1) e b c)/\∀x c,J.yld i H x c->g x a c λd f=>tb {D with nx:=N,ct:=N,bk:=D.nx} d f)
noncomputable def Au(a:List Addr)(h:Heap):List (Addr×Obj):=a.filterMap λb=>(h.get? b).map λo=>(b,o)
def sO(a:b∈fp)(e:h.get? b=some o):(b,o)∈Au fp h:=bF.mpr ⟨b,a,by rw[e];rfl⟩
def Jm(d:p∈Au fp h):p.1∈fp/\h.get? p.1=some p.2:=by
 obtain⟨b,a,e⟩:=bF.mp d;cases q:h.get? b with
 |none=>rw[q]at e;cases e
 |some o=>rw[q]at e;have c:=Option.some.inj e;subst c;exact⟨a,q⟩
def jq.pinned(I:jq X iO σ H s)(h:∀b∈fp,vN X iO H b)(j:∀b∈fp,∃o,s.heap.get? b=some o/\∀v,o.data≠.cell v):jq X (iO++Au fp s.heap) σ H s:=I.pins_of λp k=>(ai.mp k).elim (λz=>I.pin p (bG _ z)) λz=>by obtain⟨a,e⟩:=Jm z;obtain⟨g,f,i,_⟩:=h p.1 a;obtain⟨o,c,d⟩:=j p.1 a;rw[e]at c;cases c;exact⟨e,g,f,i,d⟩
def jq.unpinned(I:jq X (iO++pl) σ H s):jq X iO σ H s:=I.pins_of λp a=>I.pin p (bG _ (ax _ a))
theorem Mu(Q:PassesOwn (model X.prog X.w) X.A X.env X.xe)(hc:X.calm=true)(hi:PI X tg iter wi)(hg:PG X tg g)(q:EO X body tb)
  (hs:∀x,foldedSetIterable iter X.env x=pure x:=by intro _;rfl):PS X (.For tg iter body [] pos) (Ks wi g tb):=by
 intro E s σ H D I h;refine wpAny_For (lV (hi E s σ H _ I h) λv s1 h1=>lV h1 λitv s2 h2=>?_) hs;obtain⟨it,R,tn,J,H2,e,I2,T,st2,f2,W,⟨m0,w0⟩,L⟩:=h2;subst e;have j:∀{z:Hp},(∀b∈R,z b=none)->∀b∈R,vN X E z b:=λhn b q=>⟨hn b q,(f2 b q).2⟩;refine codeAny_forLoop_any (λn s'=>∃i c z,jq X E c z s'/\tn i s'.heap/\(∀b∈R,z b=none)/\W i n c z) ?_ m0 ⟨0,σ,H2,I2,st2,λb q=>(f2 b q).1,w0⟩;rintro n s3 ⟨i,l,Y,I3,P,U,w3⟩;rcases L i n l Y w3 with⟨S,qn⟩|⟨go,N,hN,step⟩
 .refine wpAny_passesOwn Q (lV (T.done X rfl rfl rfl hc i E s3 l Y X.xe I3 (j U) P S) λr s4 F=>?_);obtain⟨hr,I4⟩:=F;subst hr;exact wpAny_execs_nil ⟨l,Y,I4,qn⟩
 .refine wpAny_passesOwn Q (lV (T.item X rfl rfl rfl hc i E s3 l Y X.xe I3 (j U) P go) λr s4 F=>?_);obtain⟨u,hr,h4⟩:=F;subst hr;refine wpAny_passesOwn Q (lV h4 λ_ s5 F=>?_);obtain⟨x,H5,I5,r5,y5,C,fr5⟩:=F;have Z:=I5.pinned (j fr5) (T.obj _ _ C);refine wpAny_passesOwn Q (lV (hg _ s5 l H5 x u _ Z r5 (step x H5 y5)) λ_ s6 F=>?_);obtain⟨σ6,H6,I6,q6⟩:=F;refine wpAny_passesOwn Q (lV (q _ s6 σ6 H6 _ I6 q6) λf s7 B=>?_);have p:∀{a:St} {k:Hp},jq X (E++Au R s5.heap) a k s7->N a k->∃m,m<n/\∃i c z,jq X E c z s7/\tn i s7.heap/\(∀b∈R,z b=none)/\W i m c z:=λ{a k} y K=>by obtain⟨m',hm,w7⟩:=hN a k K;refine⟨m',hm,i+1,a,k,y.unpinned,T.keep _ _ _ C λb q o e=>(y.pin (b,o) (bG _ (bG _ (sO q e)))).1,λb q=>?_,w7⟩;obtain⟨o,e,d⟩:=T.obj _ _ C b q;exact (y.pin (b,o) (bG _ (bG _ (sO q e)))).2.1
  cases f with
  |next=>obtain⟨a,k,y,K⟩:=B;exact p y K
  |cont=>obtain⟨a,k,y,K⟩:=B;exact p y K
  |brk=>obtain⟨a,k,y,B⟩:=B;exact⟨a,k,y.unpinned,B⟩
  |ret v=>obtain⟨x7,a,k,y,r7,B⟩:=B;exact⟨x7,a,k,y.unpinned,r7,B⟩
end
end L2
namespace L2
open PySem PySem.Spec PyProof.Rows
abbrev R2:=V->V->Hp->VK->Prop
def sD(X:Cx)(f:Value->Value->Sem Value)(r:R2):Prop:=
 ∀(b:List (Addr×Obj)) (s:Shared) (a:St) (H:Hp) (x y:V) (v u:Value) (Q:VK),jq X b a H s->kr x v->kr y u->r x y H Q->
  wpAny (model X.prog X.w) X.A (f v u) (EP X b a Q) X.xe s
def WS(X:Cx)(f:Value->Sem Value)(r:V->Hp->VK->Prop):Prop:=
 ∀(b:List (Addr×Obj)) (s:Shared) (a:St) (H:Hp) (x:V) (v:Value) (Q:VK),jq X b a H s->kr x v->r x H Q->
  wpAny (model X.prog X.w) X.A (f v) (EP X b a Q) X.xe s
def l6(X:Cx)(f:Value)(r:List V->Hp->VK->Prop):Prop:=
 ∀(d:List (Addr×Obj)) (s:Shared) (a:St) (H:Hp) (b:List V) (c:List Value) (Q:VK),jq X d a H s->jZ b c->r b H Q->
  wpAny (model X.prog X.w) X.A (call f c) (EP X d a Q) X.xe s
def Ac(r:R2)(d tb:TE):TE:=λa H Q=>d a H λx c=>tb a c λy b=>r x y b Q
def WK(r:V->Hp->VK->Prop)(c:TE):TE:=λa H Q=>c a H λx b=>r x b Q
def rI(C:Int->Int->Prop)(g:Int->Int->V):R2:=λx y H Q=>∃i j,x=.int i/\y=.int j/\C i j/\Q (g i j) H
def Gg(g:Int->Int->V):R2:=λx y H Q=>∃i j,x=.int i/\y=.int j/\Q (g i j) H
def rU(g:Int->V):V->Hp->VK->Prop:=λx H Q=>∃i,x=.int i/\Q (g i) H
section
variable {X:Cx}{a b c:Expr}{ta tb tc:TE}{pos:Pos}
def Tz(r:PE X a ta)(l:PE X b tb){R:V->V->Hp->Prop}(I:jq X iO σ H s)
  (h:ta σ H λx j=>tb σ j λy d=>R x y d) {f:Value->Value->Sem Value}
  (p:∀v u i x y d,jq X iO σ d i->kr x v->kr y u->R x y d->wpAny (model X.prog X.w) X.A (f v u) Q X.xe i) :
  wpAny (model X.prog X.w) X.A (eval a X.env) (λv g=>wpAny (model X.prog X.w) X.A (eval b X.env) (λu e=>wpAny (model X.prog X.w) X.A (f v u) Q X.xe e) X.xe g) X.xe s:=by
 refine lV (r iO s σ H _ I h) λv C k=>?_;obtain⟨x,j,B,m,o⟩:=k;refine lV (l iO C σ j _ B o) λu i k=>?_;obtain⟨y,d,q,n,z⟩:=k;exact p v u i x y d q m n z
def KH(n:sD X (binaryOp op) r)(m:PE X a ta)(d:PE X b tb):PE X (.BinOp a op b pos) (Ac r ta tb):=by intro f s g H Q I h;exact wpAny_BinOp (Tz m d I h λv u j x y i l k e q=>n f j g i x y v u Q l k e q)
def UX(f:WS X (unaryOp op) r)(g:PE X a ta):PE X (.UnaryOp op a pos) (WK r ta):=by intro e s d H Q I h;exact UnaryOp_ (lV (g e s d H _ I h) λv s1 ⟨x,H1,I1,r1,q1⟩=>f e s1 d H1 x v Q I1 r1 q1)
def Wz{g:Int->Int->Int}
  (d:∀i j t u s Q E,C i j->Q (.int (g i j) s.toks) {s with toks:=s.toks+1}->wpAny (model X.prog X.w) X.A (f (.int i t) (.int j u)) Q E s) :
  sD X f (rI C λi j=>.int (g i j)):=by
 intro n s o H x y v u Q I l e h;obtain⟨i,j,rfl,rfl,m,q⟩:=h;obtain⟨t,rfl⟩:=l;obtain⟨k,rfl⟩:=e;exact d i j t k s _ _ m ⟨.int (g i j),H,I.tok _,⟨_,rfl⟩,q⟩
def UY{g:Int->Int->Int}
  (d:∀i j t u s Q E,Q (.int (g i j) s.toks) {s with toks:=s.toks+1}->wpAny (model X.prog X.w) X.A (f (.int i t) (.int j u)) Q E s) :
  sD X f (Gg λi j=>.int (g i j)):=by
 intro m s n H x y v u Q I l e h;obtain⟨i,j,rfl,rfl,q⟩:=h;obtain⟨t,rfl⟩:=l;obtain⟨k,rfl⟩:=e;exact d i j t k s _ _ ⟨.int (g i j),H,I.tok _,⟨_,rfl⟩,q⟩
def OB{g:Int->Int->Bool}
  (d:∀(i j:Int) (t u:Tok) (s:Shared) (Q:Value->Shared->Prop) (E:Value->Shared->Prop),Q (.bool (g i j)) s->wpAny (model X.prog X.w) X.A (f (.int i t) (.int j u)) Q E s) :
  sD X f (Gg λi j=>.bl (g i j)):=by
 intro m s n H x y v u Q I l e h;obtain⟨i,j,rfl,rfl,q⟩:=h;obtain⟨t,rfl⟩:=l;obtain⟨k,rfl⟩:=e;exact d i j t k s _ _ ⟨.bl (g i j),H,I,rfl,q⟩
def U0(i j:Int):Prop:=0<=j/\j<=1000000/\i.natAbs<2 ^ 64
def TC:sD X (binaryOp .Add) (Gg λi j=>.int (i+j)):=UY λ_ _ _ _ _ _ _ q=>add_int q
def SN:sD X (binaryOp .Sub) (Gg λi j=>.int (i-j)):=UY λ_ _ _ _ _ _ _ q=>sub_int q
def PP:sD X (binaryOp .Mod) (rI (λ_ j=>j≠0) λi j=>.int (i.fmod j)):=Wz λ_ _ _ _ _ _ _ d q=>mod_int' d q
def Uj:sD X (binaryOp .Pow) (rI U0 λi j=>.int (i ^ j.toNat)):=Wz λ_ _ _ _ _ _ _ d q=>pow_int_small d.1 d.2.1 d.2.2 q
def Xu{g:Int->Int}
  (d:∀i t s Q E,Q (.int (g i) s.toks) {s with toks:=s.toks+1}->wpAny (model X.prog X.w) X.A (f (.int i t)) Q E s) :
  WS X f (rU λi=>.int (g i)):=by
 intro k s j H x v Q I e h;obtain⟨i,rfl,q⟩:=h;obtain⟨t,rfl⟩:=e;exact d i t s _ _ ⟨.int (g i),H,I.tok _,⟨_,rfl⟩,q⟩
def TZ:WS X (unaryOp .USub) (rU λi=>.int (-i)):=Xu λ_ _ _ _ _ q=>neg_int q
end
section
variable {X:Cx}{a b c:Expr}{ta tb tc:TE}{pos:Pos}
def Kv(I:jq X iO σ H s)(q:Q (.bl k) H)(e:k=k'):EP X iO σ Q (.bool k') s:=by subst e;exact⟨.bl k,H,I,rfl,q⟩
def vW:sD X (compareOp .Lt) (Gg λi j=>.bl (decide (i<j))):=OB λ_ _ _ _ _ _ _ q=>lt_int q
def uz:sD X (compareOp .LtE) (Gg λi j=>.bl (decide (i<=j))):=OB λ_ _ _ _ _ _ _ q=>le_int q
def BA:sD X (compareOp .Gt) (Gg λi j=>.bl (decide (j<i))):=OB λ_ _ _ _ _ _ _ q=>gt_int q
def B7:sD X (compareOp .GtE) (Gg λi j=>.bl (decide (j<=i))):=OB λ_ _ _ _ _ _ _ q=>ge_int q
def zN:sD X (compareOp .Is) (λx y H Q=>y=.non/\Q (.bl (decide (x=.non))) H):=by
 intro g s f H x y v u Q I d e h;obtain⟨rfl,q⟩:=h;cases e;refine is_none_gen (Kv I q ?_);cases x<;>first
  | (cases d;rfl)
  | (obtain⟨t,rfl⟩:=d;rfl)
def sS:sD X (compareOp .IsNot) (λx y H Q=>y=.non/\Q (.bl (!decide (x=.non))) H):=by
 intro g s f H x y v u Q I d e h;obtain⟨rfl,q⟩:=h;cases e;refine isnot_none_gen (Kv I q ?_);cases x<;>first
  | (cases d;rfl)
  | (obtain⟨t,rfl⟩:=d;rfl)
def xP b (h:op≠.In:=by decide) (f:op≠.NotIn:=by decide):behindInMarks op b=false:=by
 have e:(op==CmpOp.In)=false:=by cases op<;>first|rfl|exact absurd rfl h
 have d:(op==CmpOp.NotIn)=false:=by cases op<;>first|rfl|exact absurd rfl f
 cases b<;>simp[behindInMarks,e,d]
def OC(o:sD X (compareOp op) r)(n:PE X a ta)(d:PE X b tb)(i:behindInMarks op b=false):PE X (.Compare a [op] [b] pos) (Ac r ta tb):=by intro f s g H Q I h;exact wpAny_Compare1 (Tz n d I h λv u k x y j m l e q=>o f k g j x y v u Q m l e q) i
def yn(t:TE):TT:=λd H Q=>t d H λx e=>∃k,x=.bl k/\Q k e
def QM(p:sD X (compareOp op) r)(n:PE X a ta)(g:PE X b tb)(j:behindInMarks op b=false):PT X (.Compare a [op] [b] pos) (yn (Ac r ta tb)):=by
 intro d s f H Q I h;refine wpAny_isTrue_Compare1 (lV (n d s f H _ I h) λv q w=>?_) j;obtain⟨x,l,o,i,m⟩:=w;refine lV (g d q f l _ o m) λu s2 ⟨y,H2,I2,r2,q2⟩=>lV (p d s2 f H2 x y v u _ I2 i r2 q2) λc s3 ⟨z,H3,I3,r3,k,e,q3⟩=>?_
 subst e;cases r3;exact wpAny_truthy_bool ⟨H3,I3,q3⟩
def zp(r g:R2)(ta tb tc:TE):TE:=λd H Q=>ta d H λx i=>tb d i λy j=>r x y j λz e=>∃k,z=.bl k/\
 (if k=true then tc d e λf h=>g y f h Q else Q (.bl false) e)
theorem MK(A:sD X (compareOp op) r)(i:sD X (compareOp op') r')(q:PE X a ta)(j:PE X b tb)(p:PE X c tc)
  (m:lastMarks [op,op'] [b,c]=false:=by with_unfolding_all rfl):PE X (.Compare a [op,op'] [b,c] pos) (zp r r' ta tb tc):=by
 intro f s g H Q I h;refine Compare_chain (lV (q f s g H _ I h) λv B C=>?_) m;obtain⟨x,n,w,l,o⟩:=C;refine chain_link (lV (j f B g n _ w o) λu s2 ⟨y,H2,I2,r2,q2⟩=>lV (A f s2 g H2 x y v u _ I2 l r2 q2) λd s3 ⟨z,H3,I3,r3,k,e,q3⟩=>?_)
 subst e;cases r3;refine wpAny_truthy_bool ?_;cases k with
 |false=>exact ite_ff ⟨.bl false,H3,I3,rfl,q3⟩
 |true=>exact ite_tt (chain_last (lV (p f s3 g H3 _ I3 q3) λw' s4 ⟨z',H4,I4,r4,q4⟩=>i f s4 g H4 y z' u w' Q I4 r2 r4 q4))
theorem MV(U:sD X (compareOp op) r)(j:sD X (compareOp op') r')(N:PE X a ta)(p:PE X b tb)(K:PE X c tc)
  (B:lastMarks [op,op'] [b,c]=false:=by with_unfolding_all rfl):PT X (.Compare a [op,op'] [b,c] pos) (yn (zp r r' ta tb tc)):=by
 intro f s g H Q I h;refine isTrue_chain (lV (N f s g H _ I h) λv Y i=>?_) B;obtain⟨x,D,P,w,F⟩:=i;refine test_link (lV (p f Y g D _ P F) λu s2 ⟨y,H2,I2,r2,q2⟩=>lV (U f s2 g H2 x y v u _ I2 w r2 q2) λd s3 ⟨z,H3,I3,r3,k,e,q3⟩=>?_)
 subst e;cases r3;refine wpAny_truthy_bool ?_;cases k with
 |false=>obtain⟨k',Z,J⟩:=q3;cases Z;exact ite_ff ⟨H3,I3,J⟩
 |true=>refine ite_tt (test_last (lV (K f s3 g H3 _ I3 q3) λl C i=>?_));obtain⟨R,n,I4,L,m⟩:=i;refine lV (j f C g n y R u l _ I4 r2 L m) λd' s5 i=>?_;obtain⟨z2,q,o,S,k2,A,E⟩:=i;subst A;cases S;exact wpAny_truthy_bool ⟨q,o,E⟩
def C9:(sizeLine:Nat)<2 ^ 63:=by rw[sizeLine_eq];decide
def Fm:sD X (binaryOp .Add) (λx y H Q=>∃i j,x=.str i/\y=.str j/\i.length+j.length<=sizeLine/\Q (.str (i++j)) H):=by intro k s l H x y v u Q I f d h;obtain⟨i,j,rfl,rfl,g,q⟩:=h;obtain⟨t,rfl⟩:=f;obtain⟨e,rfl⟩:=d;exact add_str (λe m=>⟨.str (i++j),H,I.tok _,⟨_,rfl⟩,q⟩) g
def qL(r:jZ [x] us):∃u,us=[u]/\kr x u:=by
 cases r with
 |cons r1 r2=>cases r2;exact⟨_,rfl,r1⟩
def Lq(r:jZ [x,y] us):∃u d,us=[u,d]/\kr x u/\kr y d:=by
 cases r with
 |cons r1 r2=>
  cases r2 with
  |cons r3 r4=>cases r4;exact⟨_,_,rfl,r1,r3⟩
def sC:l6 X (.builtin "abs") (λd H Q=>∃i,d=[.int i]/\Q (.int (if i<0 then -i else i)) H):=by intro j s e H d g Q I r h;obtain⟨i,rfl,q⟩:=h;obtain⟨u,rfl,t,rfl⟩:=qL r;exact call_abs_int λu f=>⟨.int (if i<0 then -i else i),H,I.tok _,⟨_,rfl⟩,q⟩
def IW(f:X.calm=true):l6 X (.builtin "max") (λe H Q=>∃i j,e=[.int i,.int j]/\Q (.int (if j>i then j else i)) H):=by
 intro m s n H e p Q I r h;obtain⟨i,j,rfl,q⟩:=h;obtain⟨u,g,rfl,⟨t,rfl⟩,⟨o,rfl⟩⟩:=Lq r;refine max_two_ints (I.ok.hd f) λl v k=>⟨_,H,I.kept k,?_,q⟩;by_cases d:j>i
 .rw[aQ d,aQ d];exact⟨_,rfl⟩
 .rw[aR d,aR d];exact⟨_,rfl⟩
def xF:l6 X (.type "int") (λd H Q=>(∃i,d=[.int i]/\Q (.int i) H)\/∃k,d=[.bl k]/\Q (.int (if k then 1 else 0)) H):=by
 intro j s f H d g Q I r h;rcases h with⟨i,rfl,q⟩|⟨k,rfl,q⟩
 .obtain⟨u,rfl,t,rfl⟩:=qL r;exact call_int_int ⟨.int i,H,I,⟨_,rfl⟩,q⟩
 .obtain⟨u,rfl,e⟩:=qL r;cases e;exact call_int_bool ⟨.int (if k then 1 else 0),H,I.tok _,⟨_,rfl⟩,q⟩
def RN(K:W.Frag)(x:V)(H:Hp)(n:Nat):Prop:=
 match x with
 |.str y=>y.length<=sizeLine/\n=y.length
 |.byt y=>y.size<=sizeLine/\n=y.size
 |.ref p=>(∃d,nh K H p d/\n=d.length)\/∃d,pX K H p d/\n=d.length
 |_=>False
def N8:l6 X (.builtin "len") (λf H Q=>∃x n,f=[x]/\RN X.K x H n/\Q (.int n) H):=by
 intro v s w H f z Q I r h;obtain⟨x,n,rfl,e,q⟩:=h;obtain⟨u,rfl,m⟩:=qL r;have A:=sizeLine_eq;cases x with
 |str y=>obtain⟨t,rfl⟩:=m;obtain⟨hy,d⟩:y.length<=sizeLine/\n=y.length:=e;subst d;exact len_str (by lia) ⟨.int _,H,I.tok _,⟨_,rfl⟩,q⟩
 |byt y=>obtain⟨t,rfl⟩:=m;obtain⟨hy,d⟩:y.size<=sizeLine/\n=y.size:=e;subst d;exact W.len_bytes (by lia) ⟨.int _,H,I.tok _,⟨_,rfl⟩,q⟩
 |ref p=>
  cases m;have d:=e;rcases d with⟨f,l,d⟩|⟨f,l,d⟩
  .subst d;obtain⟨g,j,k,o⟩:=I.list l;have i:=j.length;exact Calls.call_len_list k.isList (by simp only[bH];omega) ⟨.int f.length,H,I.tok _,⟨_,by simp only[bH];rw[i]⟩,q⟩
  .subst d;obtain⟨g,j,k,o⟩:=I.tuple l;have i:=j.length;exact len_tuple k (by simp only[bH];omega) ⟨.int f.length,H,I.tok _,⟨_,by simp only[bH];rw[i]⟩,q⟩
 |_=>exact (e).elim
end
end L2
namespace L2
open PySem PySem.Spec PyProof.Rows
structure F9(h:Heap)(x dx C:Addr)(mA:Str->Option Value):Prop where
 obj:h.get? x=some (W.instObj C dx)
 ns:h.Ns1 dx mA
 ne:dx≠x
def Jp{h:Heap}(n:h.Ns1 dx mA):∃c,h.get? dx=some c/\∀name,W.lookIn name c=some (mA name):=by
 obtain⟨o,d,m,l,f,k,_,g⟩:=n;refine⟨o,l,λname=>?_⟩;have e:=g name;unfold nsFind findBy at e;rw[<-Array.find?_toList]at e;unfold W.lookIn;rw[f];dsimp only;split
 .rename_i y q;rw[q]at e;exact congrArg some e
 .rename_i q;rw[q]at e;have a:d.toList.any (·.refKey)=false:=by rw[bI];intro y i;obtain⟨z,t,b⟩:=k y (Array.mem_toList_iff.mp i);simp[DictEntry.refKey,b]
  have j:¬d.toList.any (·.refKey)=true:=by rw[a];exact aH
  rw[aR j];exact congrArg some e
def F9.look(I:F9 h x dx C mA):∃a,W.InstAt h x (W.instObj C dx) C (some a)/\∀name,W.lookIn name a=some (mA name):=
 let ⟨a,ho,hl⟩:=Jp I.ns
 ⟨a,⟨I.obj,rfl,rfl,ho⟩,hl⟩
section
variable {prog:Program}{w:World}{A:Around}{E:Value->Shared->Prop}{s:Shared}{K:W.Frag}{x dx C f:Addr}{mA:Str->Option Value}{name:Str}{v:Value}
def PF(X:K.In s.heap)(I:F9 s.heap x dx C mA)(b:W.plainGet K C name=true)(c:W.hasDictIn K C=true)
  (d:W.findIn K (.ref C) name=some none) (hv:mA name=some v) (a:W.handedIn v=true) (h:Q v {s with toks:=s.toks+1}) :
  wpAny (model prog w) A (getAttr (.ref x) name expr) Q E s:=by
 obtain⟨g,J,e⟩:=I.look;exact W.get_value X J (W.plainGet_of b).1 (W.findObj_own c d rfl (by rw[e,hv])) a h
def Kh(X:K.In s.heap)(I:F9 s.heap x dx C mA)(a:W.plainGet K C name=true)
  (c:W.findIn K (.ref C) name=some (some (.ref f))) (b:W.isFn K (.ref f)=true) (hv:mA name=none) (h:Q (.ref f,[.ref x]) s) :
  wpAny (model prog w) A (getMethod (.ref x) name pl) Q E s:=by
 obtain⟨d,J,e⟩:=I.look;exact W.method_fn X J (W.plainGet_of a).1 (W.plainGet_of a).2 c (beq_iff_eq.mp b) (by show (W.lookIn name d).map (·.isSome)=some false;rw[e,hv];rfl) h
def QD(X:K.In s.heap)(I:F9 s.heap x dx C mA)
  (r:W.findIn K (.ref C) "__setattr__" = some (some (.builtin "object.__setattr__"))) (m:W.plainOver K C=true) (l:W.takerIn K C name=some none) (q:W.hasDictIn K C=true)
  (hw:PySem.Within mA ns) (hsz:ns.length<=sizeLine)
  (h:∀d,F9 d x dx C (λy=>if y=name then some v else mA y)->Heap.SameBut dx s.heap d->Q () {s with heap:=d,toks:=s.toks+2}) :
  wpAny (model prog w) A (setAttr (.ref x) name v) Q E s:=by
 obtain⟨u,J,D⟩:=I.look;refine W.set_plain X J r (W.osa_open X J m l λb=>?_);obtain⟨B,o,i⟩:=W.any_some q;have n:=I.obj;refine ao (ak (ao (ao (wpAny_loadPart n (ao (W.Looks.here (W.looks_clsIn X o) ?_))))));rw[i];refine ak (ao (ak (ao ?_)));refine wpAny_nsSet1 I.ns λd a c=>?_;obtain⟨z,p,k,g,e,j⟩:=a.count (PySem.Within.cons name v hw);refine ao (wpAny_lookBehind g (by rw[e];exact pastItsLine_dict (aN j (by rw[ay];exact bJ hsz))) ?_);exact ak (h _ ⟨(c.2 _ (Ne.symm I.ne)).trans I.obj,a,I.ne⟩ c)
def Mq(X:K.In s.heap)(b:W.makesIn K C=true)
  (e:W.findIn K (.ref C) "__init__" = some (some (.ref f))) (c:W.typeIn K (.ref f)=some (.type "function"))
  (h:codeAny (model prog w) (A.under (.builtin "type.__call__" ⟨.ref C::vs,kw⟩)) (.call (.ref f) ⟨.ref (s.heap.objs.size+1)::vs,kw⟩) (W.InitBack (s.heap.objs.size+1) R)
   {s with heap:=(s.heap.push W.emptyDict).push (W.instObj C s.heap.objs.size)}) :
  codeAny (model prog w) A (.call (.ref C) ⟨vs,kw⟩) R s:=by
 obtain⟨i,g,d,t,j⟩:=s;exact W.make_core (W.makes_of X b) (W.looks_findIn X e) (λa=>W.bind_fn X a c) (.inl rfl) h
end
def tP(f:Str)(v:V):List (Str×V)->List (Str×V)
 |[]=>[(f,v)]
 | (g,x)::r=>if g=f then (g,v)::r else (g,x)::tP f v r
theorem yE f g v:∀fs:List (Str×V),(tP f v fs).lookup g=if g=f then some v else fs.lookup g
 |[]=>by
  show List.lookup g [(f,v)]=_;by_cases h:g=f
  .have a:=beq_iff_eq.mpr h;simp only[List.lookup,a,aQ h]
  .have a:=beq_eq_false_iff_ne.mpr h;simp only[List.lookup,a,aR h]
 | (k,x)::r=>by
  have c:=yE f g v r;rw[show tP f v ((k,x)::r)=(if k=f then (k,v)::r else (k,x)::tP f v r) from rfl];by_cases b:k=f
  .rw[aQ b];by_cases h:g=k
   .have a:=beq_iff_eq.mpr h;simp only[List.lookup,a,aQ (h.trans b)]
   .have a:=beq_eq_false_iff_ne.mpr h;simp only[List.lookup,a,aR (λe:g=f=>h (e.trans b.symm))]
  .rw[aR b];by_cases h:g=k
   .have a:=beq_iff_eq.mpr h;simp only[List.lookup,a,aR (λe:g=f=>b (h.symm.trans e))]
   .have a:=beq_eq_false_iff_ne.mpr h;simp only[List.lookup,a];exact c
theorem xw f v:∀fs:List (Str×V),f∈(tP f v fs).map (·.1)/\∀g,g∈fs.map (·.1)->g∈(tP f v fs).map (·.1)
 |[]=>⟨by simp[tP],λg h=>by simp at h⟩
 | (k,x)::r=>by
  obtain⟨c,b⟩:=xw f v r;rw[show tP f v ((k,x)::r)=(if k=f then (k,v)::r else (k,x)::tP f v r) from rfl];by_cases a:k=f
  .rw[aQ a];subst a;exact⟨by simp,λg h=>by simpa using h⟩
  .rw[aR a];refine⟨?_,λg h=>?_⟩
   .rw[bK];exact bx _ c
   .rw[bK]at h ⊢;rcases aF.mp h with e|e
    .exact aF.mpr (.inl e)
    .exact bx _ (b g e)
theorem yx f v:∀fs:List (Str×V),(tP f v fs).length<=fs.length+1
 |[]=>by simp[tP]
 | (k,x)::r=>by
  have b:=yx f v r;rw[show tP f v ((k,x)::r)=(if k=f then (k,v)::r else (k,x)::tP f v r) from rfl];by_cases a:k=f
  .rw[aQ a,ay,ay];exact bL _
  .rw[aR a,ay,ay];exact bJ b
def vK.some_of(r:vK (some v) o):∃u,o=some u/\kr v u:=by
 cases o with
 |none=>exact (r).elim
 |some u=>exact⟨u,rfl,r⟩
def vK.none_of(r:vK none o):o=none:=by
 cases o with
 |none=>rfl
 |some u=>exact (r).elim
def Jc(r:kr v u):W.handedIn u=true:=by
 cases v with
 |non=>cases (r);rfl
 |bl b=>cases (r);rfl
 |int i=>obtain⟨t,e⟩:=(r);cases e;rfl
 |str x=>obtain⟨t,e⟩:=(r);cases e;rfl
 |byt b=>obtain⟨t,e⟩:=(r);cases e;rfl
 |flt b=>obtain⟨t,e⟩:=(r);cases e;rfl
 |ref a=>cases (r);rfl
 |ty n=>cases (r);rfl
section
variable {P:Program}{w:World}{H H':Hp}{h h':Heap}{a C dx:Addr}{fs fs':List (Str×V)}
def yX(c:uT P w H h)(e:H a=some (.ins C dx fs)):∃b,F9 h a dx C b/\(∀f,vK (fs.lookup f) (b f))/\PySem.Within b (fs.map (·.1))/\fs.length<=1000/\H dx=some (.own a):=by obtain⟨d,z,ne,g,b,n,r,q⟩:=(c a _ e);exact⟨b,⟨g,n,ne⟩,r,q,z,d⟩
end
structure BQ(K:W.Frag)(C:Addr):Prop where
 pg:W.plainGet K C Str.empty=true
 hd:W.hasDictIn K C=true
 po:W.plainOver K C=true
 sa:W.findIn K (.ref C) "__setattr__" = some (some (.builtin "object.__setattr__"))
def BQ.get{K:W.Frag}(c:BQ K C) f:W.plainGet K C f=true:=c.pg
def oB(K:W.Frag)(C:Addr)(f:Str):Prop:=W.findIn K (.ref C) f=some none
def oB.taker{K:W.Frag}(n:oB K C f):W.takerIn K C f=some none:=by unfold W.takerIn;rw[show W.findIn K (.ref C) f=some none from n];rfl
structure Qn(K:W.Frag)(C:Addr)(m:Str)(f:Addr):Prop where
 at_:W.findIn K (.ref C) m=some (some (.ref f))
 fn:W.isFn K (.ref f)=true
 kp:W.keepIn K (.ref f)=true
section
variable {X:Cx}{iO:List (Addr×Obj)}{σ:St}{H:Hp}{s:Shared}{a C dx:Addr}{fs:List (Str×V)}{f:Str}{v:V}{A:Around}{E:Value->Shared->Prop}
def FC(I:jq X iO σ H s)(e:H a=some (.ins C dx fs))(c:BQ X.K C)(n:oB X.K C f)(l:fs.lookup f=some v)
  (h:∀u d,jq X iO σ H d->kr v u->Q u d):wpAny (model X.prog X.w) A (getAttr (.ref a) f b) Q E s:=by
 obtain⟨j,O,r,_,_,_⟩:=yX I.hok e;obtain⟨u,i,g⟩:=vK.some_of (by rw[<-l];exact r f);exact PF I.kIn O (c.get f) c.hd n i (Jc g) (h u _ (I.tok _) g)
def Fw(I:jq X iO σ H s)(e:H a=some (.ins C dx fs))(c:BQ X.K C)(k:Qn X.K C m g)(l:fs.lookup m=none)
  (h:Q (.ref g,[.ref a]) s):wpAny (model X.prog X.w) A (getMethod (.ref a) m pl) Q E s:=by
 obtain⟨d,O,r,_,_,_⟩:=yX I.hok e;have b:=vK.none_of (by rw[<-l];exact r m);exact Kh I.kIn O (c.get m) k.at_ k.fn b h
def GV(I:jq X iO σ H s)(e:H a=some (.ins C dx fs))(c:BQ X.K C)(n:oB X.K C f)(k:fs.length<1000)(p:kr y u)
  (h:∀i,jq X iO σ (kU H a (.ins C dx (tP f y fs))) i->Q () i):wpAny (model X.prog X.w) A (setAttr (.ref a) f u) Q E s:=by
 obtain⟨F,O,r,j,_,l⟩:=yX I.hok e;have J:(fs.map (·.1)).length<=sizeLine:=by rw[aw,sizeLine_eq];exact bg (aE k (by decide))
 refine QD I.kIn O c.sa c.po n.taker c.hd j J λB d D=>h _ ?_;have m:∃o,B.get? dx=some o:=let ⟨o,_,_,e',_⟩:=d.ns;⟨o,e'⟩;refine I.write (by rw[e];exact True.intro) (.inr l) (λb q x z=>(D.2 b x).trans z) m ?_;refine⟨by rw[ja O.ne];exact l,?_,O.ne,d.obj,_,d.ns,λg=>?_,λg L=>?_⟩
 .have:=yx f y fs;exact aN this k
 .rw[yE];by_cases q:g=f
  .rw[aQ q,aQ q];exact p
  .rw[aR q,aR q];exact r g
 .by_cases q:g=f
  .rw[q];exact (xw f y fs).1
  .refine (xw f y fs).2 g (j g λz=>L ?_);show (if g=f then some u else F g)=none;rw[aR q];exact z
def jq.made(I:jq X iO σ H s):jq X iO σ (kU (kU H s.heap.objs.size (.own (s.heap.objs.size+1))) (s.heap.objs.size+1) (.ins C s.heap.objs.size []))
  {s with heap:=(s.heap.push W.emptyDict).push (W.instObj C s.heap.objs.size)}:=by
 have c:(s.heap.push W.emptyDict).get? s.heap.objs.size=some W.emptyDict:=ar s.heap rfl;have i:((s.heap.push W.emptyDict).push (W.instObj C s.heap.objs.size)).get? (s.heap.objs.size+1)=some (W.instObj C s.heap.objs.size):=by have:=ar (s.heap.push W.emptyDict) (o:=W.instObj C s.heap.objs.size) rfl;rwa [Heap.size_push]at this
 have g:(s.heap.push W.emptyDict).Ns s.heap.objs.size (λ_=>none):=⟨W.emptyDict,#[],_,c,rfl,(λe j=>absurd j (by simp)),λ_=>rfl⟩;have d:=I.laid (o:=.own (s.heap.objs.size+1)) (t':=s.toks) (λb u q=>ae _ q) (aK _) ⟨_,c⟩;refine d.laid (λb u q=>ae _ q) (bB (Heap.size_push _ _)) ?_;have ne:s.heap.objs.size≠s.heap.objs.size+1:=aM (bM _);refine⟨by rw[ja ne,jb],bN _,ne,i,λ_=>none,(Heap.Ns1.of_empty g).at λo q=>ae _ q,λ_=>True.intro,λy h=>absurd rfl h⟩
def Pc(c:attributeBase e f env (eval e env)=eval e env)
  (h:wpAny (model prog w) A (eval e env) (λo b=>wpAny (model prog w) A (getAttr o f true) Q E b) E s):wpAny (model prog w) A (eval (.Attribute e f pos) env) Q E s:=
 Attribute_any_ h (by rw[arm_eval_Attribute,c])
end
def S0(K:W.Frag)(d:TE)(f:Str):TE:=λc H Q=>d c H λx b=>∃a C e fs v,x=.ref a/\b a=some (.ins C e fs)/\BQ K C/\oB K C f/\fs.lookup f=some v/\Q v b
def SM(K:W.Frag)(h g:TE)(f:Str):TS:=λD b H=>g b H λy e=>h b e λx c=>∃a C d fs,x=.ref a/\c a=some (.ins C d fs)/\BQ K C/\oB K C f/\fs.length<1000/\
 D.nx b (kU c a (.ins C d (tP f y fs)))
section
variable {X:Cx}{o e value:Expr}{f:Str}{pos pos' tpos:Pos}{ta tv:TE}
def Sw(p:PE X e ta)(b:attributeBase e f X.env (eval e X.env)=eval e X.env):PE X (.Attribute e f pos) (S0 X.K ta f):=by intro d s g H Q I h;refine Pc b (lV (p d s g H _ I h) λu E z=>?_);obtain⟨x,i,r,j,a,C,D,fs,v,w,m,c,n,l,q⟩:=z;subst w;obtain rfl:u=Value.ref a:=j;exact FC r m c n l λB A k y=>⟨v,i,k,y,q⟩
def Nn(v:PE X o ta)(hv:PE X value tv)(F:swapsWith value (some (.Attribute o f pos')) pos.line X.env=pure false):PS X (.Assign [.Attribute o f pos'] value pos) (SM X.K ta tv f):=by intro g s b H D I h;refine plainObj_wpAny_Assign_Attribute (lV (hv g s b H _ I h) λu E d=>?_) F;obtain⟨y,j,z,i,q⟩:=d;refine lV (v g E b j _ z q) λB N d=>?_;obtain⟨x,L,p,m,a,C,P,fs,A,r,c,n,l,w⟩:=d;subst A;obtain rfl:B=Value.ref a:=m;exact GV p r c n l i λJ k=>⟨b,_,k,w⟩
end
section
variable {X:Cx}{iO:List (Addr×Obj)}{σ:St}{H:Hp}{s:Shared}{A:Around}{E:Value->Shared->Prop}{Q:Value->Shared->Prop}{c:Value}{b:Bool}
inductive tW(K:W.Frag)(H:Hp):V->Value->Prop where
 |non:tW K H .non (.type "NoneType")
 |bl (x:Bool):tW K H (.bl x) (.type "bool")
 |int (i:Int):tW K H (.int i) (.type "int")
 |str (x:Str):tW K H (.str x) (.type "str")
 |flt (x:UInt64):tW K H (.flt x) (.type "float")
 |lst {a:Addr} {xs:List V} (e:H a=some (.lst xs)):tW K H (.ref a) (.type "list")
 |frz {a:Addr} {o:Obj} {xs:List V} (e:H a=some (.frz o (.lst xs))):tW K H (.ref a) (.type "list")
 |tup {a:Addr} {xs:List V} (e:H a=some (.tup xs)):tW K H (.ref a) (.type "tuple")
 |dK {a:Addr} {kvs:List (rM×V)} (e:H a=some (.dK kvs)):tW K H (.ref a) (.type "dict")
 |dT {a:Addr} {kvs:List (List rM×V)} (e:H a=some (.dT kvs)):tW K H (.ref a) (.type "dict")
 |ins {a C dx:Addr} {fs:List (Str×V)} (e:H a=some (.ins C dx fs)) (cl:BQ K C) (ha:W.findIn K (.ref C) "__class__" = some (some (.builtin "object.__class__")))
   (hn:W.specialIn K (.builtin "object.__class__") "__get__" = some (some (.builtin "getset_descriptor.__get__"))) (htk:W.takesIn K (.builtin "object.__class__")=some true)
   (hm:W.mroIn K C (.type "object")=some true):tW K H (.ref a) (.ref C)
def IZ(I:jq X iO σ H s)(d:kr x u)(ty:tW X.K H x t)(e:W.kitOne X.K t c=some b)(h:∀l,Q (.bool b) {s with toks:=l}) :
  wpAny (model X.prog X.w) A (call (.builtin "isinstance") [u,c]) Q E s:=by
 cases ty with
 |non=>cases (d);exact W.kia_one W.kitx_none I.kIn True.intro e (λz=>nomatch z) h
 |bl y=>cases (d);exact W.kia_one W.kitx_bool I.kIn True.intro e (λz=>nomatch z) h
 |int i=>obtain⟨t,q⟩:=(d);cases q;exact W.kia_one W.kitx_int I.kIn True.intro e (λz=>nomatch z) h
 |str y=>obtain⟨t,q⟩:=(d);cases q;exact W.kia_one W.kitx_str I.kIn True.intro e (λz=>nomatch z) h
 |flt y=>obtain⟨t,q⟩:=(d);cases q;exact W.kia_one W.kitx_float I.kIn True.intro e (λz=>nomatch z) h
 |@lst a j ea=>cases (d);obtain⟨_,_,n,_,f⟩:=(I.hok a _ ea);exact W.kia_one W.kitx_list I.kIn ⟨_,f,rfl⟩ e (λz=>nomatch z) h
 |@frz a ob j ea=>cases (d);obtain⟨_,_,_,n,_,f⟩:=(I.hok a _ ea);exact W.kia_one W.kitx_list I.kIn ⟨_,f,rfl⟩ e (λz=>nomatch z) h
 |@tup a j ea=>cases (d);obtain⟨_,_,_,p⟩:=(I.hok a _ ea);obtain⟨o,f,g,_⟩:=p;exact W.kia_one W.kitx_tuple I.kIn ⟨o,f,g⟩ e (λz=>nomatch z) h
 |@dK a kvs ea=>cases (d);obtain⟨_,_,v,_,p⟩:=(I.hok a _ ea);obtain⟨o,k,m,f,g,_⟩:=p;exact W.kia_one W.kitx_dict I.kIn ⟨o,f,g.1⟩ e (λz=>nomatch z) h
 |@dT a kvs ea=>cases (d);obtain⟨_,_,j,_,o,k,m,f,g,_⟩:=(I.hok a _ ea);exact W.kia_one W.kitx_dict I.kIn ⟨o,f,g.1⟩ e (λz=>nomatch z) h
 |@ins a C dx fs ea cl ha hn htk hm=>cases (d);obtain⟨B,O,_⟩:=yX I.hok ea;obtain⟨r,J,_⟩:=O.look;exact W.kia_one (W.kitx_own (cl.get _) cl.hd ha hn htk hm) I.kIn J e (λz=>nomatch z) h
end
end L2
namespace L2
open PySem PySem.Spec PyProof.Rows
structure lB(k:Nat)(A:Around):Prop where
 hd:A.handled=none
 dp:A.depth+3*k+105<recursionLimit
 un:A.units+16*k+200<cLine
def lB.mono(r:lB k A)(h:j<=k):lB j A:=⟨r.hd,by have:=r.dp;lia,by have:=r.un;lia⟩
def lB.deeper(r:lB (k+1) A) env:lB k (A.deeper env):=⟨r.hd,by have:=r.dp;show A.depth+1+3*k+105<_;lia,by have:=r.un;show A.units+3+16*k+200<_;lia⟩
def GM{A:Around}:(A.under (.builtin "type.__call__" ⟨.ref C::us,kw⟩)).depth=A.depth+1:=by first|rfl|simp[Around.under,Code.weight,Code.isCreation,Code.isGuard,Code.isCaller,Code.frames,Code.isFrame,guardIds]
def FO{A:Around}:(A.under (.builtin "type.__call__" ⟨.ref C::us,kw⟩)).units=A.units+1:=by first|rfl|simp[Around.under,Code.cUnits,Code.frames,Code.isFrame]
def lB.make(r:lB (k+1) A) C us kw:lB k (A.under (.builtin "type.__call__" ⟨.ref C::us,kw⟩)):=⟨r.hd,by have:=r.dp;rw[GM];lia,by have:=r.un;rw[FO];lia⟩
def lB.depth(r:lB k A):A.depth<recursionLimit:=by have:=r.dp;lia
def lB.units(r:lB k A):A.units+64<cLine:=by have:=r.un;lia
def yN:TA:=λ_ H Q=>Q [] H
def vh(f:TE)(e:TA):TA:=λa H Q=>f a H λx d=>e a d λb c=>Q (x::b) c
section
variable {X:Cx}{e:Expr}{es:List Expr}{te:TE}{t:TA}{pos:Pos}
def xE:PA X [] yN:=λ_ _ _ _ H Q I h=>Calls.spliced_nil ⟨[],H,I,.nil,h⟩
def sV(g:PE X e te)(hr:PA X es t)(l:starEach (e::es) X.env=(false,eval e X.env)::starEach es X.env:=by rfl):PA X (e::es) (vh te t):=by intro pos a s b H Q I h;rw[l];refine Calls.spliced_cons (lV (g a s b H _ I h) λu j k=>?_);obtain⟨x,d,i,c,f⟩:=k;exact lV (hr pos a j b d _ i f) λus s2 ⟨xs,H2,I2,r2,q2⟩=>⟨x::xs,H2,I2,.cons c r2,q2⟩
def Sx(t:TA):TE:=λc H Q=>t c H λa b=>a.length<=sizeLine/\∀p,b p=none->Q (.ref p) (kU b p (.tup a))
def Ut(t:TA):TE:=λc H Q=>t c H λa b=>a.length<=sizeLine/\∀p,b p=none->Q (.ref p) (kU b p (.lst a))
def SW{x1}(h:PA X es t):PE X (.Tuple es x1 pos) (Sx t):=by intro d s f H Q I m;refine wpAny_Tuple_spliced (lV (h pos d s f H _ I m) λg c l=>?_);obtain⟨k,i,a,r,z,q⟩:=l;refine⟨by rw[<-r.length];exact z,?_⟩;have j:=a.hok.fresh (aK _);refine⟨.ref c.heap.objs.size,kU i c.heap.objs.size (.tup k),a.laid (λb u e=>ae _ e) (aK _) ?_,rfl,q _ j⟩;exact⟨z,g,r,⟨_,ar _ rfl,rfl,_,rfl,rfl⟩⟩
def Uv(h:PA X es t):PE X (.List es pos) (Ut t):=by intro d s f H Q I m;refine wpAny_List_spliced (lV (h pos d s f H _ I m) λg c l=>?_);obtain⟨k,i,a,r,z,q⟩:=l;refine⟨by rw[<-r.length];exact z,?_⟩;have j:=a.hok.fresh (aK _);refine⟨.ref c.heap.objs.size,kU i c.heap.objs.size (.lst k),a.laid (λb u e=>ae _ e) (aK _) ?_,rfl,q _ j⟩;exact⟨z,g,0,r,ar _ rfl⟩
end
abbrev Sp:=List V->Hp->VK->XK->Prop
abbrev Qx:=List Env->Hp->Shared->XK->Value->Shared->Prop
structure Gn(P:Program)(w:World)(K:W.Frag)(mg:Str->Option Value)(base:Heap)(A:Around)(outer:List Env)(s:Shared)(H:Hp):Prop where
 frames:A.frames=some outer
 mod:Mod K mg base
 bs:∀b o,base.get? b=some o->s.heap.get? b=some o/\H b=none
 bsz:base.objs.size<=s.heap.objs.size
 funs:s.heap.FunFrames base outer
 frf:∀b∈JS outer,H b=none
 hok:uT P w H s.heap
 bare:AllBare s.gens
 tab:Ny base H
 tree:P.given.tree=none
def CE(a:List Env)(P:Program)(w:World)(H:Hp)(s:Shared)(Q:VK)(u:Value)(b:Shared):Prop:=∃v c,b.os=s.os/\AllBare b.gens/\Un (JS a) [] H c s.heap b.heap/\uT P w c b.heap/\kr v u/\Q v c
def CR(c:Qx)(a:List Env)(P:Program)(w:World)(H:Hp)(s:Shared)(Q:VK)(E:XK)(r:Result)(b:Shared):Prop:=
 match r with
 |.ok (.ret u)=>CE a P w H s Q u b
 |.ok _=>False
 |.error e=>c a H s E e b
structure qP(P:Program)(w:World)(K:W.Frag)(mg:Str->Option Value)(base:Heap)(CX:Qx)(k:Nat)(f:Addr)(fd:FuncData)(ps:List Str)(sp:Sp):Prop where
 len:∀vs H Q E,sp vs H Q E->vs.length=ps.length
 run:∀(A:Around) (outer:List Env) (s:Shared) (H:Hp) (args:Args) (us:List Value) (vs:List V) (Q:VK) (E:XK),lB k A->Gn P w K mg base A outer s H->BindsTo s fd args (ps.zip us)->jZ vs us->sp vs H Q E->
  codeAny (model P w) A (.call (.ref f) args) (CR CX outer P w H s Q E) s
def qP.mono{K:W.Frag}(F:qP P w K mg base CX j f fd ps sp)(h:j<=k) :
  qP P w K mg base CX k f fd ps sp:=⟨F.len,λA a s H b d c Q E hr=>F.run A a s H b d c Q E (hr.mono h)⟩
def qP.imp{K:W.Frag}(F:qP P w K mg base CX k f fd ps sp)
  (h:∀vs H Q E,sp' vs H Q E->sp vs H Q E):qP P w K mg base CX k f fd ps sp':=
 ⟨λvs H Q E q=>F.len vs H Q E (h _ _ _ _ q),λA a s H b d vs Q E hr g c hv e=>F.run A a s H b d vs Q E hr g c hv (h _ _ _ _ e)⟩
def Gn.make{K:W.Frag}(e:Gn P w K mg base A outer s H) C us kw :
  Gn P w K mg base (A.under (.builtin "type.__call__" ⟨.ref C::us,kw⟩)) outer s H:=⟨by first|exact e.frames|(simpa[Around.under,Code.envs,Code.isFrame,pushEnvs] using e.frames),e.mod,e.bs,e.bsz,e.funs,e.frf,e.hok,e.bare,e.tab,e.tree⟩
section
variable {X:Cx}{iO:List (Addr×Obj)}{σ:St}{H:Hp}{s s':Shared}
def jq.env0(I:jq X iO σ H s):Gn X.prog X.w X.K X.mg X.base X.A X.stack s H:=⟨I.ok.frames,I.ok.mod,I.bs,aN I.ok.bsz I.sz,I.stack,I.stkFree,I.hok,I.bare,I.tab,I.ok.tree⟩
def jq.after(I:jq X iO σ H s)(h:CE X.stack X.prog X.w H s Q u s'):EP X iO σ Q u s':=by obtain⟨v,f,i,a,un,e,r,q⟩:=h;obtain⟨j,g,d,t,c⟩:=s';obtain rfl:c=s.os:=i;exact⟨v,f,I.call un e a (λb z=>absurd z (by simp)),r,q⟩
end
def B5(d:Sp)(a:List V)(E:XK)(t:TA):TE:=λb H Q=>t b H λc e=>d (c++a) e Q E
def By(C:Addr)(m:Str)(f:Sp)(b:List V)(E:XK)(h:TE)(t:TA):TE:=λc H Q=>h c H λx d=>∃a i fs,x=.ref a/\d a=some (.ins C i fs)/\fs.lookup m=none/\
 t c d λe g=>f (x::(e++b)) g Q E
def Hz(C:Addr)(f:Sp)(b:List V)(E:XK)(t:TA):TE:=λd H Q=>t d H λe c=>∀x a,c x=none->c a=none->a≠x->
 f (.ref x::(e++b)) (kU (kU c a (.own x)) x (.ins C a [])) (λv g=>v=.non/\Q (.ref x) g) E
def ug(K:W.Frag)(fd:FuncData)(c:List Str)(b:List Value):Prop:=∀(s:Shared) (a:List Value),K.In s.heap->(a++b).length=c.length->BindsTo s fd ⟨a,[]⟩ (c.zip (a++b))
def ug.all{K:W.Frag}(h:∀us:List Value,us.length=ps.length->bindArgs fd ⟨us,[]⟩=pure (ps.zip us)):ug K fd ps []:=λs us _ a=>by rw[bO]at a ⊢;exact .of_eq (h us a)
def xy(c:Qx)(X:Cx)(E:XK):Prop:=∀(d:List (Addr×Obj)) (b:St) (H:Hp) (s:Shared) (e:Value) (a:Shared),jq X d b H s->c X.stack H s E e a->X.xe e a
section
variable {X:Cx}{CX:Qx}{k:Nat}{f C:Addr}{fd:FuncData}{ps:List Str}{sp:Sp}{dvs:List V}{ds:List Value}{E:XK}{x m:Str}{p pos apos:Pos}{e o:Expr}{es:List Expr}{ta:TE}{t:TA}
theorem KN(F:qP X.prog X.w X.K X.mg X.base CX k f fd ps sp)(hr:lB k X.A)(g:ug X.K fd ps ds)(d:jZ dvs ds)(j:xy CX X E)
  (I:jq X iO σ H s) (r:jZ vs us) (h:sp (vs++dvs) H Q E):wpAny (model X.prog X.w) X.A (call (.ref f) us) (EP X iO σ Q) X.xe s:=by
 have b:=r.append d;have i:(us++ds).length=ps.length:=by rw[<-b.length];exact F.len _ _ _ _ h
 refine wpAny_call (codeAny_mono (F.run X.A X.stack s H ⟨us,[]⟩ (us++ds) (vs++dvs) Q E hr I.env0 (g s us I.kIn i) b h) λr c a=>?_);cases r with
 |error e=>exact j iO σ H s e c I a
 |ok fl=>
  cases fl with
  |ret u=>exact I.after a
  |next=>exact False.elim a
  |brk=>exact False.elim a
  |cont=>exact False.elim a
def Pv(F:qP X.prog X.w X.K X.mg X.base CX k f fd ps sp)(hr:lB k X.A)(y:Gl X x)(l:X.mg x=some (.ref f))(z:W.keepIn X.K (.ref f)=true)(g:ug X.K fd ps ds)(d:jZ dvs ds)(n:xy CX X E)
  (u:PA X (e::es) t) (b:(x==("__debug__" : Str))=false:=by decide) (v:starEach (e::es) X.env=(false,eval e X.env)::starEach es X.env:=by rfl) (a:(backTo pos (starEach es X.env)).any (·.1)=false:=by rfl) :
  PE X (.Call (.Name x p) (e::es) [] pos) (B5 sp dvs E t):=by
 intro i s j H Q I h;refine wpAny_Call_Name_kw (C3 I y l ?_ b);refine W.callWith_K I.ok.mod.kin z (lV (u pos i s j H _ I h) λD N B=>?_) v a;obtain⟨L,J,c,r,q⟩:=B;refine⟨c.kIn,?_⟩;exact KN F hr g d n c r q
def Lz(B:PE X o ta)(c:BQ X.K C)(d:Qn X.K C m f)(F:qP X.prog X.w X.K X.mg X.base CX k f fd ps sp)(hr:lB k X.A)(i:ug X.K fd ps ds)(g:jZ dvs ds)(v:xy CX X E)
  (r:eval (.Call (.Attribute o m apos) [] [] pos) X.env=(do
   let ov <-eval o X.env
   standAt apos.atName
   let (f,first) <-holding [ov] (getMethod ov m pl)
   callWith pos f first (backTo pos (starEach [] X.env)) (backToKw pos (keywordEach [] X.env))):=by rfl) :
  PE X (.Call (.Attribute o m apos) [] [] pos) (By C m sp dvs E ta yN):=by
 intro j s n H Q I h;refine W.methodCall_KW (lV (B j s n H _ I h) λu P J=>?_) r;obtain⟨x,L,b,y,a,N,fs,D,z,l,q⟩:=J;subst D;obtain rfl:u=Value.ref a:=y;refine Fw b z c d l ?_;exact W.callWith_K0 b.kIn d.kp (KN (vs:=[.ref a]) F hr i g v b (.cons rfl .nil) q)
structure Mk(K:W.Frag)(C f:Addr):Prop where
 makes:W.makesIn K C=true
 init:W.findIn K (.ref C) "__init__" = some (some (.ref f))
 fn:W.isFn K (.ref f)=true
 kp:W.keepIn K (.ref C)=true
theorem K2(M:Mk X.K C f)(F:qP X.prog X.w X.K X.mg X.base CX k f fd ps sp)(hr:lB (k+1) X.A)(j:ug X.K fd ps ds)(i:jZ dvs ds)
  (q:xy CX X E) (I:jq X iO σ H s) (r:jZ vs us)
  (h:∀x c,H x=none->H c=none->c≠x->sp (.ref x::(vs++dvs)) (kU (kU H c (.own x)) x (.ins C c [])) (λv l=>v=.non/\Q (.ref x) l) E) :
  wpAny (model X.prog X.w) X.A (call (.ref C) us) (EP X iO σ Q) X.xe s:=by
 have g:=h (s.heap.objs.size+1) s.heap.objs.size (I.hok.fresh (bL _)) (I.hok.fresh (aK _)) (aM (bM _));have b:=jq.made (C:=C) I;have d:jZ (V.ref (s.heap.objs.size+1)::(vs++dvs)) (Value.ref (s.heap.objs.size+1)::(us++ds)):=.cons rfl (r.append i);have D:(Value.ref (s.heap.objs.size+1)::us++ds).length=ps.length:=by have e:=d.length;rw[F.len _ _ _ _ g]at e;exact e.symm
 refine wpAny_call (Mq I.kIn M.makes M.init (beq_iff_eq.mp M.fn) (codeAny_mono (F.run _ X.stack _ _ ⟨Value.ref (s.heap.objs.size+1)::us,[]⟩ (Value.ref (s.heap.objs.size+1)::(us++ds)) _ _ E (hr.make C us [])
  (b.env0.make C us []) (j _ (Value.ref (s.heap.objs.size+1)::us) b.kIn D) d g) λr y a=>?_))
 cases r with
 |error e=>exact q iO σ _ _ e y b a
 |ok fl=>
  cases fl with
  |ret u=>obtain⟨v,B,n,J,L,z⟩:=b.after a;subst L;exact⟨J,⟨V.ref (s.heap.objs.size+1),B,n,rfl,z⟩⟩
  |next=>exact False.elim a
  |brk=>exact False.elim a
  |cont=>exact False.elim a
def OQ(M:Mk X.K C f)(F:qP X.prog X.w X.K X.mg X.base CX k f fd ps sp)(hr:lB (k+1) X.A)(y:Gl X x)(l:X.mg x=some (.ref C))(g:ug X.K fd ps ds)(d:jZ dvs ds)(n:xy CX X E)
  (u:PA X (e::es) t) (b:(x==("__debug__" : Str))=false:=by decide) (v:starEach (e::es) X.env=(false,eval e X.env)::starEach es X.env:=by rfl) (a:(backTo pos (starEach es X.env)).any (·.1)=false:=by rfl) :
  PE X (.Call (.Name x p) (e::es) [] pos) (Hz C sp dvs E t):=by
 intro i s j H Q I h;refine wpAny_Call_Name_kw (C3 I y l ?_ b);refine W.callWith_K I.ok.mod.kin M.kp (lV (u pos i s j H _ I h) λB L z=>?_) v a;obtain⟨J,D,c,r,q⟩:=z;refine⟨c.kIn,?_⟩;exact K2 M F hr g d n c r q
end
structure lO(N P:List Str)(sc:Scope):Prop where
 kind:sc.kind=.function
 co:sc.isCoroutine=false
 gen:sc.isGenerator=false
 nd:N.Nodup
 pre:N.take P.length=P
 par:∀x∈P,sc.names.lookup x=some .local\/sc.names.lookup x=some .cell
 nofree:∀y∈sc.names,y.2≠.free
theorem BO{kindOf:Str->Option NameKind}:∀{binds} {m},(∀v,(x,v)∉binds)->bindL kindOf binds m x=m x
 |[],_,_=>rfl
 | (n,v)::r,m,h=>by
  unfold bindL;rw[BO λw hw=>h w (bx _ hw)];split
  .have:x≠n:=by rintro rfl;exact h v bj
   simp[this]
  .rfl
theorem BL{kindOf:Str->Option NameKind}:∀{binds} {m},(∀v,(x,v)∉binds)->bindC kindOf binds m x=m x
 |[],_,_=>rfl
 | (n,v)::r,m,h=>by
  unfold bindC;rw[BL λw hw=>h w (bx _ hw)];split
  .rfl
  .have:x≠n:=by rintro rfl;exact h v bj
   simp[this]
theorem Ct{kindOf:Str->Option NameKind}:∀{P:List Str} {vs:List Value} {i:Nat} {m:Str->Option Value},P.Nodup->P[i]? = some x->vs[i]? = some v->kindOf x=some .local->
  bindL kindOf (P.zip vs) m x=some v
 |[],_,_,_,_,h,_,_=>by simp at h
 |_::_,[],_,_,_,_,h,_=>by simp at h
 |p::P,w::vs,0,m,nd,h1,h2,hk=>by simp at h1 h2;subst h1;subst h2;show bindL kindOf ((p,w)::P.zip vs) m p=_;unfold bindL;rw[BO λv hv=>(bQ.mp nd).1 (aW hv).1,aQ hk];simp
 |p::P,w::vs,i+1,m,nd,h1,h2,hk=>by unfold bindL;exact Ct (bQ.mp nd).2 h1 h2 hk
theorem Cp{kindOf:Str->Option NameKind}:∀{P:List Str} {vs:List Value} {i:Nat} {m:Str->Option Value},P.Nodup->P[i]? = some x->vs[i]? = some v->kindOf x≠some .local->
  bindC kindOf (P.zip vs) m x=some v
 |[],_,_,_,_,h,_,_=>by simp at h
 |_::_,[],_,_,_,_,h,_=>by simp at h
 |p::P,w::vs,0,m,nd,h1,h2,hk=>by simp at h1 h2;subst h1;subst h2;show bindC kindOf ((p,w)::P.zip vs) m p=_;unfold bindC;rw[BL λv hv=>(bQ.mp nd).1 (aW hv).1,aR hk];simp
 |p::P,w::vs,i+1,m,nd,h1,h2,hk=>by unfold bindC;exact Cp (bQ.mp nd).2 h1 h2 hk
noncomputable def pP(N:List Str)(vs:List V):St:=vs.map some++List.replicate (N.length-vs.length) none
noncomputable def ur(g:Qx)(P:Program)(w:World)(K:W.Frag)(mg:Str->Option Value)(base:Heap)(N:List Str)(b:Str)(a:Scope)(f:Addr)(d:Value)(A:Around)(outer:List Env)(s:Shared)(H:Hp)(E:XK):Cx where
 prog:=P
 w:=w
 K:=K
 mg:=mg
 base:=base
 A:=A.deeper (envOfC b a s.heap.objs.size f d)
 N:=N
 s₀:=s
 H₀:=H
 env:=envOfC b a s.heap.objs.size f d
 outer:=outer
 stack:=envOfC b a s.heap.objs.size f d::outer
 ex:=[]
 calm:=true
 fn:=λ_=>true
 pn:=[]
 xe:=λe h=>wpAny (model P w) (A.deeper (envOfC b a s.heap.objs.size f d)) (leaving (envOfC b a s.heap.objs.size f d) e) (λ_ c=>g outer H s E e c) (λi c=>g outer H s E i c) h
def qZ{a:Scope}(h:a.names.lookup x=some .cell):∃c,(cellsFrom n a.names []).lookup x=some c:=by have q:=W.cellsFrom_some a.names n [] (.inl h);exact bR.mp q
theorem II{K:W.Frag}
  (S:lO N ps scope) (hr:lB (k+1) A) (g:Gn P w K mg base A outer s H) (J:vs.length=ps.length) (r:jZ vs us)
  (x:InCallC s s.heap.objs.size (bindL (envOfC qual scope s.heap.objs.size f cd).kindOf (ps.zip us) λ_=>none) (cellsFrom (s.heap.objs.size+1) scope.names []) (bindC (envOfC qual scope s.heap.objs.size f cd).kindOf (ps.zip us) λ_=>none) s1) :
  jq (ur CX P w K mg base N qual scope f cd A outer s H E) [] (pP N vs) H s1:=by
 have F:ps.length<=N.length:=by have:=congrArg List.length S.pre;rw[bS]at this;exact aN (bB this.symm) (bT _ _)
 obtain⟨B,Q,rfl,D⟩:=x.done;have j:∀b:Addr,b∉(ur CX P w K mg base N qual scope f cd A outer s H E).ex:=λb z=>absurd (show b∈([]) from z) (by simp);refine⟨⟨g.mod,S.kind,rfl,rfl,aK _,λy z c B d=>?_,λy l=>?_,λy c _ h=>?_,λ_=>hr.hd,Around.frames_deeper g.frames,.inr ⟨rfl,rfl⟩,λb z=>absurd z (j b),g.bs,g.bsz,λb _ _=>j b,λb z=>absurd z (j b),g.funs,g.frf,g.tab,g.tree,(by have:=hr.dp;show A.depth+1+100<_;lia),_,_,rfl,S.gen,S.co,rfl,rfl⟩,
  rfl,g.bare,Un.kept D,⟨_,x.toInCall.ns,λi y v B d R=>?_⟩,λy c h=>⟨_,x.cell y c h⟩,g.hok.fresh (aK _),λy c h=>?_,λp n=>absurd (show p∈([]) from n) (by simp),g.hok.kept D,?_⟩
 .exact name_of_addr x.apart (PySem.mem_of_lookup B) (PySem.mem_of_lookup d)
 .have l:=l;rcases l with l|l
  .exact qZ l
  .exact absurd rfl (S.nofree _ (PySem.mem_of_lookup l))
 .exact bg (x.above y c (PySem.mem_of_lookup h))
 .have o:i<vs.length:=by
   unfold pP at d;by_cases o:i<vs.length
   .exact o
   .rw[List.getElem?_append_right (by simpa using o)]at d;rw[List.getElem?_replicate]at d;split at d<;>cases d
  have I:vs[i]? = some v:=by
   unfold pP at d;rw[List.getElem?_append_left (by simpa using o),av]at d;cases e:vs[i]? with
   |none=>rw[e]at d;cases d
   |some a=>rw[e]at d;cases d;rfl
  obtain⟨u,C,L⟩:=r.get I;have n:ps[i]? = some y:=by rw[<-S.pre,List.getElem?_take_of_lt (aE o (bB J))];exact B
  have m:ps.Nodup:=by rw[<-S.pre];exact S.nd.sublist (List.take_sublist _ _)
  refine⟨u,L,?_⟩;rcases S.par y (au n) with k|k
  .exact .inl ⟨k,Ct m n C k⟩
  .obtain⟨c,e⟩:=qZ k;refine .inr ⟨.inl k,c,e,?_⟩;have q:=x.cell y c e;rw[Cp m n C (by show scope.names.lookup y≠_;rw[k];decide)]at q;exact q
 .exact g.hok.fresh (bg (x.above y c (PySem.mem_of_lookup h)))
 .unfold pP;show _=N.length;rw[aT,aw,bU];lia
theorem VX{K:W.Frag}{Y kV l Z c X oc:Value}(lk:K.lookup f=some ⟨oc,od,.func (W.fnOf name qual params body scope Y kV l Z an c X),osl⟩)(C:W.codeIn K c qual=true)(S:lO N ps scope)
  (B:∀vs H Q E,sp vs H Q E->vs.length=ps.length)
  (i:∀A a s H vs Q E,lB k (A.deeper (envOfC qual scope s.heap.objs.size f c))->sp vs H Q E->
   ∃t,EO (ur CX P w K mg base N qual scope f c A a s H E) body t/\t {nx:=λ_ g=>Q .non g,rt:=Q} (pP N vs) H) :
  qP P w K mg base CX (k+1) f (W.fnOf name qual params body scope Y kV l Z an c X) ps sp:=by
 refine⟨B,λA a s H U us vs Q E hr m hb r p=>?_⟩;have hl:=B _ _ _ _ p;have R:=m.mod.kin.keeps λb o e=>(m.bs b o e).1;have L:=m.mod.nolimit.keeps λb o e=>(m.bs b o e).1;have h:∀y∈ps.zip us,scope.names.lookup y.1=some .local\/(scope.names.lookup y.1=some .cell/\((cellsFrom (s.heap.objs.size+1) scope.names []).lookup y.1).isSome=true):=λ⟨n,v⟩ hy=>by
  rcases S.par n (aW hy).1 with q|q
  .exact .inl q
  .exact .inr ⟨q,W.cellsFrom_some _ _ _ (.inl q)⟩
 refine codeAny_call_function hr.depth (R _ _ lk) rfl S.co S.gen rfl (W.codeRec_of R C) (hb _ _ _ _ ?_);refine wpAny_newFunctionEnv_cells S.kind h λenv he s1 x=>?_;subst he;refine⟨L.keeps x.toInCall.keep,codeAny_func ?_⟩;obtain⟨t,ht,hq⟩:=i A a s H vs Q E (hr.deeper _) p;have I:jq (ur CX P w K mg base N qual scope f c A a s H E) [] (pP N vs) H s1:=II S hr m hl r x;refine wpAny_mono (ht [] s1 (pP N vs) H _ I hq) (λfl D j=>?_) λe D j=>j;have z:∀{d:St} {g:Hp} {v:V} {u:Value},jq (ur CX P w K mg base N qual scope f c A a s H E) [] d g D->kr v u->Q v g->CE a P w H s Q u D:=λ{d g v u} J F q=>⟨v,g,J.os,J.bare,J.base,J.hok,F,q⟩
 cases fl with
 |ret u=>obtain⟨v,d,g,J,F,q⟩:=j;exact z J F q
 |next=>obtain⟨d,g,J,q⟩:=j;exact z (v:=V.non) J rfl q
 |brk=>obtain⟨_,_,_,q⟩:=j;exact False.elim q
 |cont=>obtain⟨_,_,_,q⟩:=j;exact False.elim q
end L2
namespace L2
open PySem PySem.Spec PyProof.Rows
section
variable {X:Cx}{x:Str}{p pos:Pos}{e:Expr}{es:List Expr}{t:TA}{id T:String}{r:List V->Hp->VK->Prop}
def Mg(r:List V->Hp->VK->Prop)(t:TA):TE:=λa H Q=>t a H λb c=>r b c Q
def Eb(j:l6 X (.builtin id) r)(g:Gl X x)(f:X.mg x=none)(hv:bootBuiltins x=some (.builtin id))(k:PA X (e::es) t)(i:x≠ "__name__" :=by decide)(b:(x==("__debug__" : Str))=false:=by decide)
  (l:starEach (e::es) X.env=(false,eval e X.env)::starEach es X.env:=by rfl) (a:(backTo pos (starEach es X.env)).any (·.1)=false:=by rfl):PE X (.Call (.Name x p) (e::es) [] pos) (Mg r t):=by
 intro d s c H Q I h;refine wpAny_Call_Name_kw (sT I g f hv ?_ i b);exact PyProof.Rows.callWith_builtin1 (lV (k pos d s c H _ I h) λus s1 ⟨vs,H1,I1,r1,q1⟩=>j d s1 c H1 vs us Q I1 r1 q1) l a
def yc(j:l6 X (.type T) r)(g:Gl X x)(f:X.mg x=none)(hv:bootBuiltins x=some (.type T))(k:PA X (e::es) t)(i:x≠ "__name__" :=by decide)(b:(x==("__debug__" : Str))=false:=by decide)
  (l:starEach (e::es) X.env=(false,eval e X.env)::starEach es X.env:=by rfl) (a:(backTo pos (starEach es X.env)).any (·.1)=false:=by rfl):PE X (.Call (.Name x p) (e::es) [] pos) (Mg r t):=by
 intro d s c H Q I h;refine wpAny_Call_Name_kw (sT I g f hv ?_ i b);exact PyProof.Rows.callWith_type1 (lV (k pos d s c H _ I h) λus s1 ⟨vs,H1,I1,r1,q1⟩=>j d s1 c H1 vs us Q I1 r1 q1) l a
end
end L2
namespace HT
open PySem PyProof.Rows
section
variable {prog:Program}{w:World}{A:Around}{E:Value->Shared->Prop}{s:Shared}
def cat_tup(v:IsTup s.heap t vs.toArray)(q:IsTup s.heap b ws.toArray)(hv:vs≠[])
  (u:ws=[]->Q (.ref t) s) (r:ws≠[]->Q (.ref s.heap.objs.size) {s with heap:=s.heap.push {cls:=.type "tuple",data:=.seq (vs++ws).toArray}})
  (hsz:vs.length+ws.length<=sizeLine):wpAny (model prog w) A (binaryOp .Add (.ref t) (.ref b)) Q E s:=by
 obtain⟨⟨cls,k,data,p⟩,h,m,n,j⟩:=id v;obtain⟨⟨l,d,i,g⟩,a,c,o,f⟩:=id q;simp only at m j c f;subst m j c f;have e:vs.toArray++ws.toArray=(vs++ws).toArray:=by simp
 by_cases hw:ws=[]
 .exact concat_meets ⟨_,h,rfl⟩ ⟨_,a,rfl⟩ noFill_tuple_add seq_tuple_add PySem.F.slot_tuple_add PySem.F.entry_tuple_add (PySem.F.args_tuple_add_2 _ _)
   (tuple_addW1 t b vs.toArray ws.toArray n o k d p g (by simpa using hv) (by simp[hw])) ⟨h,a,u hw⟩
 .refine concat_meets ⟨_,h,rfl⟩ ⟨_,a,rfl⟩ noFill_tuple_add seq_tuple_add PySem.F.slot_tuple_add PySem.F.entry_tuple_add (PySem.F.args_tuple_add_2 _ _)
   (tuple_addW2 t b vs.toArray ws.toArray n o k d p g (by simpa using hv) (by simpa using hw) (by rw[bH,bH];exact hsz)) ⟨h,a,?_⟩
  rw[e];exact r hw
noncomputable def sIx(n d:Nat):Option Int->Nat
 |none=>d
 |some v=>if v<0 then (v+(n:Int)).toNat else min v.toNat n
def sIx_none n d:sIx n d none=d:=rfl
def sIx_nat(n d k:Nat):sIx n d (some (k:Int))=min k n:=by show (if k<0 then (k+(n:Int)).toNat else min (k:Int).toNat n)=min k n;rw[aR (by lia),bV]
def HA v (n d:Nat):(if v<0 then max (v+(n:Int)) 0 else min v (n:Int))=((sIx n d (some v):Nat):Int):=by
 show (if v<0 then max (v+n) 0 else min v n)=(((if v<0 then (v+n).toNat else min v.toNat n):Nat):Int);by_cases hv:v<0
 .simp only[aQ hv];lia
 .simp only[aR hv];lia
def GE lo a (n:Nat):Builtin.Slice.sliceAdjust lo a 1 (n:Int)=(((sIx n 0 lo:Nat):Int),((sIx n n a:Nat):Int)):=by
 have b:¬(1<0):=by lia
 unfold Builtin.Slice.sliceAdjust;simp only[b,if_false];refine Prod.ext ?_ ?_
 .cases lo with
  |none=>rfl
  |some v=>exact HA v n 0
 .cases a with
  |none=>rfl
  |some v=>exact HA v n n
def GG(i j:Nat):Builtin.Slice.slicePlaces (i:Int) (j:Int) 1=j-i:=by
 unfold Builtin.Slice.slicePlaces;have a:1>0:=by exact bW _
 simp only[a,if_true,Int.ediv_one];split<;>lia
def Ag(p:IsPart v o)(h:Q o s):wpAny (model prog w) A (Builtin.Slice.slicePartIndex v) Q E s:=by
 cases p with
 |none=>exact slicePart_none h
 |int i t=>exact slicePart_int h
def rP{a c:Option Int}{n:Nat}(g:s.heap.IsSliceOf sl vl vu .none)(f:IsPart vl a)(i:IsPart vu c)
  (h:Q (((sIx n 0 a:Nat):Int),1,sIx n n c-sIx n 0 a) s):wpAny (model prog w) A (Builtin.Slice.sliceApplied (.ref sl) (pure (n:Int))) Q E s:=by
 obtain⟨j,d,e,b⟩:=id g;unfold Builtin.Slice.sliceApplied Builtin.Slice.sliceFields;refine ao (ao (wpAny_field d b rfl (ao (wpAny_field d b rfl (ao (wpAny_field d b rfl (ak ?_)))))));refine ao (slicePart_none ?_);rw[aR (by decide)];refine ao (Ag f (ao (Ag i (ao (ak ?_)))));show wpAny _ _ (match Builtin.Slice.sliceAdjust a c 1 n with|(a,c)=>pure (a,(1:Int),Builtin.Slice.slicePlaces a c 1)) _ _ s;rw[GE a c n];show wpAny _ _ (pure (((sIx n 0 a):Int),1,Builtin.Slice.slicePlaces ((sIx n 0 a):Int) ((sIx n n c):Int) 1)) _ _ s;rw[GG];exact ak h
def LX(a:Array Value)(i k:Nat):((List.range k).filterMap λ(m:Nat)=>a[((i:Int)+(m:Int)*1).toNat]?).toArray=((a.toList.drop i).take k).toArray:=by
 have e:(λ(m:Nat)=>a[(i+(m:Int)*1).toNat]?)=λm=>a[i+m]?:=by
  funext m;have:(i+(m:Int)*1).toNat=i+m:=by exact (bX _ _ _).symm
  rw[this]
 rw[e];have:=pick_run a i k;rw[List.filterMap_map]at this;have b:((λx=>a[x]?) ∘ λx=>i+x)=λm=>a[i+m]?:=rfl;rw[b]at this;rw[this]
theorem getItem_tuple_cut{a b:Option Int}(c:IsTup s.heap t items)(j:s.heap.IsSliceOf sl vl vu .none)(n:IsPart vl a)(m:IsPart vu b)
  (hw:¬(sIx items.size 0 a=0/\sIx items.size items.size b=items.size))
  (h:Q (.ref s.heap.objs.size) {s with heap:=s.heap.push {cls:=.type "tuple",data:=.seq ((items.toList.drop (sIx items.size 0 a)).take (sIx items.size items.size b-sIx items.size 0 a)).toArray}})
  (hsz:items.size<=sizeLine):wpAny (model prog w) A (getItem (.ref t) (.ref sl)) Q E s:=by
 have d:sizeOk (.seq ((items.toList.drop (sIx items.size 0 a)).take (sIx items.size items.size b-sIx items.size 0 a)).toArray):=by show ((items.toList.drop (sIx items.size 0 a)).take (sIx items.size items.size b-sIx items.size 0 a)).toArray.size<=sizeLine;rw[bH,bS,bY,bA];omega
 obtain⟨k,g,e,l⟩:=id j;have i:s.TypeIs (.ref sl) "slice" :=⟨k,g,e⟩;unfold getItem;try with_reducible refine wpAny_holding ?_;first|refine ao (ak ?_)|skip
 refine ao (wpAny_sequenceKey c.typeIs (by decide) ?_);refine ao (wpAny_callSpecial?_slot c.typeIs PyProof.Rows.slot_tuple_getitem
  (wpAny_call_entry PyProof.Rows.slot_tuple_getitem c.typeIs entry_tuple_getitem ?_ (args_tuple_getitem _ _)))
 show wpAny _ _ (Builtin.Tuple.tupleItemsOf (.ref t) >>= _) _ _ s;refine ao (tupleItemsOf_ c ?_);refine ao (wpAny_typeOf i ?_);rw[aQ (by decide)];refine ao (rP j n m ?_);have f:¬((((sIx items.size 0 a):Int)==0&&(1:Int)==1&&(sIx items.size items.size b-sIx items.size 0 a)==items.size)=true):=by intro q;rw[bZ,bZ]at q;have o:=eq_of_beq q.1.1;have p:=eq_of_beq q.2;exact hw ⟨b5.mp o,by omega⟩
 show wpAny _ _ (if (((sIx items.size 0 a):Int)==0&&1==1&&(sIx items.size items.size b-sIx items.size 0 a)==items.size)=true then _ else _) _ _ s;rw[aR f,LX];first
  |exact ao (wpAny_newObj_type (ak ⟨_,rfl,ak h⟩) d)
  |exact ao (wpAny_newObj_type (ao (ak (ak ⟨_,rfl,ak h⟩))) d)
  |exact ao (ao (wpAny_newObj_type (ak (ak ⟨_,rfl,ak h⟩)) d))
  |exact ao (ao (wpAny_newObj_type (ak ⟨_,rfl,ak h⟩) d))
end
end HT
namespace L2
open PySem PySem.Spec PyProof.Rows
abbrev TO:=St->Hp->(Option Int->Hp->Prop)->Prop
def PO(X:Cx)(e:Option Expr)(t:TO):Prop:=
 ∀(c:List (Addr×Obj)) (s:Shared) (a:St) (H:Hp) (Q:Option Int->Hp->Prop),jq X c a H s->t a H Q->
  wpAny (model X.prog X.w) X.A (evalPart e X.env) (λu d=>∃o b,jq X c a b d/\IsPart u o/\Q o b) X.xe s
def HV:TO:=λ_ H Q=>Q none H
def Rv(t:TE):TO:=λa H Q=>t a H λx b=>∃i,x=.int i/\Q (some i) b
section
variable {X:Cx}{e:Expr}{te:TE}{lo hi:Option Expr}{tl th:TO}{pos p2:Pos}
def Po:PO X none HV:=by intro b s a H Q I h;rw[evalPart_none];exact ak ⟨none,H,I,.none,h⟩
def Qy(h:PE X e te):PO X (some e) (Rv te):=by intro b s c H Q I hw;rw[evalPart_some];refine lV (h b s c H _ I hw) λu k j=>?_;obtain⟨x,d,g,a,f⟩:=j;obtain⟨i,rfl,q⟩:=f;obtain⟨t,rfl⟩:=a;exact⟨some i,d,g,.int i t,q⟩
def Rh(X:Cx)(r:V->Option Int->Option Int->Hp->VK->Prop):Prop:=
 ∀(f:List (Addr×Obj)) (s:Shared) (a:St) (H:Hp) (x:V) (v c b:Value) (lo hi:Option Int) (d:Addr) (Q:VK),jq X f a H s->kr x v->s.heap.IsSliceOf d c b .none->IsPart c lo->IsPart b hi->r x lo hi H Q->
  ∃T id,typeLookup (.type T) "__getitem__" = pure (some (.builtin id))/\s.TypeIs v T/\wpAny (model X.prog X.w) X.A (getItem v (.ref d)) (EP X f a Q) X.xe s
def Rh.or(h:Rh X r)(l:Rh X r'):Rh X (λx lo hi H Q=>r x lo hi H Q\/r' x lo hi H Q):=by
 intro b s c H x v g i lo hi j Q I f k d a q;rcases q with q|q
 .exact h b s c H x v g i lo hi j Q I f k d a q
 .exact l b s c H x v g i lo hi j Q I f k d a q
def W7(r:V->Option Int->Option Int->Hp->VK->Prop)(te:TE)(tl th:TO):TE:=λa H Q=>te a H λx d=>tl a d λl c=>th a c λu b=>r x l u b Q
def M5(hr:Rh X r)(F:PE X e te)(E:PO X lo tl)(m:PO X hi th):PE X (.Subscript e (.Slice lo hi none p2) pos) (W7 r te tl th):=by intro c s d H Q I h;refine Subscript_ (lV (F c s d H _ I h) λv N f=>?_);obtain⟨x,w,K,k,A⟩:=f;refine wpAny_Slice (lV (E c N d w _ K A) λg B f=>?_);obtain⟨l,p,D,z,J⟩:=f;refine lV (m c B d p _ D J) λi a f=>?_;obtain⟨u,j,y,n,C⟩:=f;rw[evalPart_none];refine ak ?_;have P:jq X c d j {a with heap:=a.heap.push {cls:=.type "slice",data:=.fields #[g,i,.none]}}:=y.kept λb S q=>ae _ q;obtain⟨T,id,R,o,L⟩:=hr c {a with heap:=a.heap.push {cls:=.type "slice",data:=.fields #[g,i,.none]}} d j x v g i l u a.heap.objs.size Q P k (Heap.IsSliceOf.new ..) z n C;exact tail_any o R L (by with_unfolding_all rfl)
noncomputable def Lw(a:List V)(lo hi:Option Int):List V:=(a.drop (HT.sIx a.length 0 lo)).take (HT.sIx a.length a.length hi-HT.sIx a.length 0 lo)
def yr xs lo hi:(Lw xs lo hi).length<=xs.length:=by unfold Lw;rw[bS,bY];exact aN (bT _ _) (b6 _ _)
def UI(K:W.Frag):V->Option Int->Option Int->Hp->VK->Prop:=λx lo hi H Q=>∃a b,x=.ref a/\pX K H a b/\
 ¬(HT.sIx b.length 0 lo=0/\HT.sIx b.length b.length hi=b.length)/\∀p,H p=none->Q (.ref p) (kU H p (.tup (Lw b lo hi)))
def RJ:Rh X (UI X.K):=by
 intro p s u H x v w y lo hi z Q I m n k j h;obtain⟨a,c,rfl,l,hw,q⟩:=h;cases m;obtain⟨d,r,g,i⟩:=I.tuple l;have f:d.toArray.size=c.length:=by rw[bH];exact r.length.symm
 refine⟨"tuple",_,PyProof.Rows.slot_tuple_getitem.lookup,g.typeIs,?_⟩;refine HT.getItem_tuple_cut g n k j (by rw[f];exact hw) ?_ (by rw[f];exact i);rw[f];refine⟨.ref s.heap.objs.size,_,I.laid (λb o q=>ae _ q) (aK _) ?_,rfl,q _ (I.hok.fresh (aK _))⟩;exact⟨aN (yr c lo hi) i,_,(r.drop (HT.sIx c.length 0 lo)).take (HT.sIx c.length c.length hi-HT.sIx c.length 0 lo),Ad.new _ _⟩
def U4(K:W.Frag):R2:=λx y H Q=>∃a b d c,x=.ref a/\y=.ref b/\pX K H a d/\pX K H b c/\d≠[]/\d.length+c.length<=sizeLine/\
 (c=[]->Q (.ref a) H)/\(c≠[]->∀p,H p=none->Q (.ref p) (kU H p (.tup (d++c))))
def jZ.nil_iff(r:jZ xs us):us=[]↔xs=[]:=by
 cases r with
 |nil=>simp
 |cons _ _=>simp
def QF:sD X (binaryOp .Add) (U4 X.K):=by intro B s C H x y v u Q I n i h;obtain⟨a,b,D,E,rfl,rfl,p,j,m,g,l,r⟩:=h;cases n;cases i;obtain⟨k,d,o,_⟩:=I.tuple p;obtain⟨f,c,p2,_⟩:=I.tuple j;refine HT.cat_tup o p2 (λz=>m (d.nil_iff.mp z)) (λz=>⟨.ref a,H,I,rfl,l (c.nil_iff.mp z)⟩) (λz=>?_) (by rw[<-d.length,<-c.length];exact g);refine⟨.ref s.heap.objs.size,_,I.laid (λb A q=>ae _ q) (aK _) ?_,rfl,r (λw=>z (c.nil_iff.mpr w)) _ (I.hok.fresh (aK _))⟩;exact⟨by rw[aT];exact g,_,d.append c,Ad.new _ _⟩
end
end L2
namespace L2
open PySem PySem.Spec PyProof.Rows
noncomputable def zj(n:Nat)(i:Int):Option Nat:=if 0<=i then (if i<n then some i.toNat else none) else if -(n:Int)<=i then some (i+n).toNat else none
noncomputable def rG{b:Type}(a:List b)(i:Int):Option b:=(zj a.length i).bind λj=>a[j]?
def Ht(h:zj n i=some j):seqIndex? i n=some j/\j<n/\-(n:Int)<=i/\i<n:=by
 unfold zj at h;by_cases b:0<=i
 .rw[aQ b]at h;by_cases a:i<n
  .rw[aQ a]at h;have e:=Option.some.inj h;exact⟨by rw[seqIndex_of b a,e],by omega,by lia,a⟩
  .rw[aR a]at h;cases h
 .rw[aR b]at h;by_cases a:-n<=i
  .rw[aQ a]at h;have e:=Option.some.inj h;exact⟨by rw[seqIndex_neg (b7.mp b) a,e],by lia,a,by lia⟩
  .rw[aR a]at h;cases h
def CB{a:List α}{v:α}(h:rG a i=some v):∃j,seqIndex? i a.length=some j/\a[j]? = some v/\j<a.length/\-(a.length:Int)<=i/\i<a.length:=by
 unfold rG at h;cases e:zj a.length i with
 |none=>rw[e]at h;cases h
 |some j=>rw[e]at h;obtain⟨f,d,c,b⟩:=Ht e;exact⟨j,f,h,d,c,b⟩
def NA xs (v:α):rG (xs++[v]) (-1)=some v:=by
 have a:(xs++[v]).length=xs.length+1:=by simp
 have e:zj (xs++[v]).length (-1)=some xs.length:=by unfold zj;rw[a,aR (by decide),aQ (by lia)];congr 1;lia
 unfold rG;rw[e];simp
def G6(b:Expr):Prop:=∀o i,subscripted b false o i=operate [o,i] (getItem o i)
def P6(X:Cx)(r:R2):Prop:=
 ∀(b a:Expr) (d:List (Addr×Obj)) (s:Shared) (c:St) (H:Hp) (x y:V) (v u:Value) (Q:VK),jq X d c H s->kr x v->kr y u->r x y H Q->
  subscripted a false v u=operate [v,u] (getItem v u)->wpAny (model X.prog X.w) X.A (subscriptTail b a v u) (EP X d c Q) X.xe s
def Ys(X:Cx)(id:String)(r:V->List V->Hp->VK->Prop):Prop:=
 ∀(d:List (Addr×Obj)) (s:Shared) (a:St) (H:Hp) (x:V) (b:List V) (v:Value) (c:List Value) (Q:VK),jq X d a H s->kr x v->jZ b c->r x b H Q->
  wpAny (model X.prog X.w) X.A (call (.builtin id) (v::c)) (EP X d a Q) X.xe s
section
variable {X:Cx}{a b:Expr}{ta tb:TE}{pos:Pos}
def P6.or(h:P6 X r)(k:P6 X r'):P6 X (λx y H Q=>r x y H Q\/r' x y H Q):=by
 intro c d i s e H x y v u Q I j f q g;rcases q with q|q
 .exact h c d i s e H x y v u Q I j f q g
 .exact k c d i s e H x y v u Q I j f q g
def U5(hr:P6 X r)(l:PE X a ta)(c:PE X b tb)(m:G6 b):PE X (.Subscript a b pos) (Ac r ta tb):=by intro e s f H Q I h;exact Subscript_ (Tz l c I h λv u i x y g k j d q=>hr a b e i f g x y v u Q k j d q (m _ _))
def VL(K:W.Frag):R2:=λx y H Q=>∃p c i v,x=.ref p/\y=.int i/\nh K H p c/\rG c i=some v/\Q v H
def UU(K:W.Frag):R2:=λx y H Q=>∃p c i v,x=.ref p/\y=.int i/\pX K H p c/\rG c i=some v/\Q v H
def Va:R2:=λx y H Q=>∃z i c,x=.str z/\y=.int i/\z.length<=sizeLine/\rG z.cps.toList i=some c/\Q (.str ⟨#[c]⟩) H
def PM:P6 X (VL X.K):=by
 intro f g F s J H x y v u Q I N D h C;obtain⟨p,Z,i,z,rfl,rfl,R,P,q⟩:=h;cases N;obtain⟨t,rfl⟩:=D;obtain⟨k,r,m,U⟩:=I.list R;obtain⟨j,d,E,Y,B,L⟩:=CB P;obtain⟨w,o,n⟩:=r.get E;have A:=r.length;have S:=C9;have c:EP X F J Q w s:=⟨z,H,I,n,q⟩;by_cases e:0<=i
 .have l:i.toNat=j:=by rw[seqIndex_of e L]at d;exact Option.some.inj d
  exact item_listR m.isList e (by omega) (by rw[l];simpa using o) c C
 .have l:(i+k.toArray.size).toNat=j:=by rw[seqIndex_neg (b7.mp e) B]at d;rw[bH,<-A];exact Option.some.inj d
  exact subscriptTail_builtinR m.isList.typeIs slot_list_getitem.lookup
   (wpAny_getItem_list_neg m.isList (b7.mp e) (by rw[bH]<;>exact A▸B) (by omega) (by rw[l];simpa using o) ⟨rfl,c⟩) C
def lX:P6 X (UU X.K):=by
 intro c d o s B H x y v u Q I C k h F;obtain⟨p,U,i,z,rfl,rfl,J,E,q⟩:=h;cases C;obtain⟨t,rfl⟩:=k;obtain⟨m,r,g,P⟩:=I.tuple J;obtain⟨j,n,l,S,R,N⟩:=CB E;obtain⟨w,A,e⟩:=r.get l;have D:=r.length;have L:=C9;have f:EP X o B Q w s:=⟨z,H,I,e,q⟩;exact subscriptTail_builtinR g.typeIs slot_tuple_getitem.lookup
  (getItem_tuple g (by omega) (by omega) (by rw[bH,<-D];exact n) (by simpa using A) ⟨rfl,f⟩) F
def Si:P6 X Va:=by
 intro d e B s C H x y v u Q I o g h A;obtain⟨z,i,c,rfl,rfl,F,r,q⟩:=h;obtain⟨t,rfl⟩:=o;obtain⟨D,rfl⟩:=g;obtain⟨j,f,l,J,w,n⟩:=CB r;have p:z.cps.toList.length=z.length:=by simp[Str.length]
 rw[p]at f w n;have E:=C9;exact tail_any (typeIs_str s z t) slot_str_getitem.lookup (getItem_str (by have k:decide (i < -(2 ^ 63))=false:=aB (by omega);have m:decide (i >= 2 ^ 63)=false:=aB (by omega);rw[k,m,Bool.or_false]) (by rw[f];simpa using l) ⟨.str ⟨#[c]⟩,H,I.tok _,⟨_,rfl⟩,q⟩) A
def WH(K:W.Frag):R2:=λx y H Q=>VL K x y H Q\/UU K x y H Q\/Va x y H Q
def Ua:P6 X (WH X.K):=PM.or (lX.or Si)
def FI(its:List Value) n j u:Obj.mapSeq (·.setIfInBounds j u) {cls:=.type "list",data:=.seq its.toArray n}={cls:=.type "list",data:=.seq (its.set j u).toArray n}:=by simp[Obj.mapSeq]
def jq.lst(I:jq X iO σ H s)(h:H p=some (.lst xs)) :
  ∃its n,jZ xs its/\s.heap.get? p=some {cls:=.type "list",data:=.seq its.toArray n}/\xs.length<=sizeLine:=by
 obtain⟨z,its,n,r,e⟩:=I.hok p _ h;exact⟨its,n,r,e,z⟩
def jq.lstUpd{its c:List Value}(I:jq X iO σ H s)(h:H p=some (.lst xs))
  (i:s.heap.get? p=some {cls:=.type "list",data:=.seq its.toArray n}) (d:f {cls:=.type "list",data:=.seq its.toArray n}={cls:=.type "list",data:=.seq c.toArray n'}) (r:jZ ys c) (j:ys.length<=sizeLine) t :
  jq X iO σ (kU H p (.lst ys)) {s with heap:=s.heap.update p f,toks:=t}:=by
 have e:(s.heap.update p f).get? p=some {cls:=.type "list",data:=.seq c.toArray n'}:=by rw[Heap.get?_update_self f i (by rw[d]<;>rfl),d]
 refine I.write (by rw[h];trivial) (.inl rfl) (λb u g q=>(Heap.get?_update_other _ _ (Ne.symm g)).trans q) ⟨_,e⟩ ?_;exact⟨j,c,n',r,e⟩
def Iq:V->V->V->Hp->(Hp->Prop)->Prop:=λo i v H Q=>∃p c k j,o=.ref p/\i=.int k/\H p=some (.lst c)/\zj c.length k=some j/\Q (kU H p (.lst (c.set j v)))
def Kz:Vw X Iq:=by
 intro z s A H o i v P K u Q I C D J h;obtain⟨p,F,k,j,rfl,rfl,w,B,q⟩:=h;cases C;obtain⟨t,rfl⟩:=D;obtain⟨c,n,r,g,E⟩:=I.lst w;obtain⟨d,L,y,x⟩:=Ht B;have e:=r.length;have N:=C9;have l:jq X z A (kU H p (.lst (F.set j v))) {s with heap:=s.heap.update p (Obj.mapSeq (·.setIfInBounds j u))}:=I.lstUpd w g (FI c n j u) (r.set J j) (by rw[b8];exact E) s.toks
 by_cases m:0<=k
 .have f:k.toNat=j:=by rw[seqIndex_of m x]at d;exact Option.some.inj d
  exact W.ki_setAt g m (by omega) (by rw[bH,<-e];exact x) (by rw[f];exact⟨_,l,q⟩)
 .have f:(k+c.toArray.size).toNat=j:=by rw[seqIndex_neg (by lia) y]at d;rw[bH,<-e];exact Option.some.inj d
  exact W.ki_setBack g (by lia) (by rw[bH,<-e];exact y) (by omega) (by rw[f];exact⟨_,l,q⟩)
def DA lo hi n:(sliceBounds lo hi none n).1=((HT.sIx n 0 lo:Nat):Int)/\(sliceBounds lo hi none n).2.1=((HT.sIx n n hi:Nat):Int)/\(sliceBounds lo hi none n).2.2=1:=by
 refine⟨?_,?_,rfl⟩
 .cases lo with
  |none=>simp[sliceBounds,HT.sIx]
  |some i=>
   simp only[sliceBounds,HT.sIx,Option.getD_none,show 1>0 by decide,if_true];by_cases h:i<0
   .simp only[h,if_true]<;>lia
   .simp only[h,if_false]<;>lia
 .cases hi with
  |none=>simp[sliceBounds,HT.sIx]
  |some i=>
   simp only[sliceBounds,HT.sIx,Option.getD_none,show 1>0 by decide,if_true];by_cases h:i<0
   .simp only[h,if_true]<;>lia
   .simp only[h,if_false]<;>lia
def Bt(its:List Value) lo hi:slicePick its.toArray lo hi none=((its.drop (HT.sIx its.length 0 lo)).take (HT.sIx its.length its.length hi-HT.sIx its.length 0 lo)).toArray:=by obtain⟨e,c,d⟩:=DA lo hi its.toArray.size;unfold slicePick;rw[e,c,d];simp only[sliceRange_one,pick_run,bH]<;>rfl
def VQ(K:W.Frag):V->Option Int->Option Int->Hp->VK->Prop:=λx e d H Q=>∃a c,x=.ref a/\nh K H a c/\∀p,H p=none->Q (.ref p) (kU H p (.lst (Lw c e d)))
def PY:Rh X (VQ X.K):=by intro u s w H x v y z d g A Q I n o l j h;obtain⟨a,c,rfl,m,q⟩:=h;cases n;obtain⟨k,r,f,i⟩:=I.list m;have e:=r.length;refine⟨"list",_,slot_list_getitem.lookup,f.isList.typeIs,?_⟩;refine wpAny_getItem_list_slice f.isList o l j .none (by simp) ?_ (by rw[bH]<;>exact aN (bB e.symm) i);rw[Bt,<-e];refine⟨.ref s.heap.objs.size,_,I.laid (λb p q=>ae _ q) (aK _) ?_,rfl,q _ (I.hok.fresh (aK _))⟩;exact⟨aN (yr c d g) i,_,0,(r.drop (HT.sIx c.length 0 d)).take (HT.sIx c.length c.length g-HT.sIx c.length 0 d),ar _ rfl⟩
noncomputable def vg:V->Bool
 |.non=>true
 |.bl _=>true
 |.int _=>true
 |.str _=>true
 |_=>false
noncomputable def Oj:V->V->Bool
 |.non,.non=>true
 |.bl a,.bl b=>a==b
 |.bl a,.int b=>(if a then 1 else 0)==b
 |.int a,.bl b=>a==(if b then 1 else 0)
 |.int a,.int b=>a==b
 |.str a,.str b=>a==b
 |_,_=>false
def SV(e:kr y u)(c:kr x v)(g:vg y=true)(f:vg x=true):SeqAt.EqAt A s u v (Oj y x):=by
 cases y with
 |non=>
  cases e;cases x with
  |non=>cases c;exact SeqAt.EqAt.same _
  |bl b=>cases c;exact SeqAt.EqAt.none_bool b
  |int b=>obtain⟨t,rfl⟩:=c;exact SeqAt.EqAt.none_int b t
  |str b=>obtain⟨t,rfl⟩:=c;exact SeqAt.EqAt.none_str b t
  |_=>exact absurd (f) aH
 |bl a=>
  cases e;cases x with
  |non=>cases c;exact SeqAt.EqAt.bool_none a
  |bl b=>cases c;exact SeqAt.EqAt.bool_bool a b
  |int b=>obtain⟨t,rfl⟩:=c;exact SeqAt.EqAt.bool_int a b t
  |str b=>obtain⟨t,rfl⟩:=c;exact SeqAt.EqAt.bool_str a b t
  |_=>exact absurd (f) aH
 |int a=>
  obtain⟨d,rfl⟩:=e;cases x with
  |non=>cases c;exact SeqAt.EqAt.int_none a d
  |bl b=>cases c;exact SeqAt.EqAt.int_bool a d b
  |int b=>obtain⟨t,rfl⟩:=c;exact SeqAt.EqAt.int_int a d b t
  |str b=>obtain⟨t,rfl⟩:=c;exact SeqAt.EqAt.int_str a d b t
  |_=>exact absurd (f) aH
 |str a=>
  obtain⟨d,rfl⟩:=e;cases x with
  |non=>cases c;exact SeqAt.EqAt.str_none a d
  |bl b=>cases c;exact SeqAt.EqAt.str_bool a d b
  |int b=>obtain⟨t,rfl⟩:=c;exact SeqAt.EqAt.str_int a d b t
  |str b=>obtain⟨t,rfl⟩:=c;exact SeqAt.EqAt.str_str a d b t
  |_=>exact absurd (f) aH
 |_=>exact absurd (g) aH
noncomputable def Pi(x:V)(u:Value):Bool:=match u with
 |.none=>Oj .non x
 |.bool b=>Oj (.bl b) x
 |.int i _=>Oj (.int i) x
 |.str z _=>Oj (.str z) x
 |_=>false
def Ld(r:kr y u)(f:vg y=true):Pi x u=Oj y x:=by
 cases y with
 |non=>cases r;rfl
 |bl b=>cases r;rfl
 |int i=>obtain⟨t,rfl⟩:=r;rfl
 |str z=>obtain⟨t,rfl⟩:=r;rfl
 |_=>exact absurd (f) aH
theorem CA:∀{xs} {us},jZ xs us->xs.all vg=true->us.any (Pi x)=xs.any λy=>Oj y x
 |_,_,.nil,_=>rfl
 |y::xs,u::us,.cons r t,f=>by rw[b9,bZ]at f;rw[cf,cf,Ld r f.1,CA t f.2]
theorem Aq(e:kr x v)(d:vg x=true):∀{xs} {us},jZ xs us->xs.all vg=true->∀u∈us,SeqAt.EqAt A s u v (Pi x u)
 |_,_,.nil,_=>λu c=>by cases c
 |y::xs,u::us,.cons r t,f=>λg c=>by
  rw[b9,bZ]at f;rcases aF.mp c with rfl|c
  .rw[Ld r f.1];exact SV r e f.1 d
  .exact Aq e d t f.2 g c
noncomputable def Wd(x:V)(c:List V):Bool:=c.any λy=>Oj y x
def WI(K:W.Frag)(neg:Bool):R2:=λx y H Q=>∃p c,y=.ref p/\(nh K H p c\/pX K H p c)/\vg x=true/\c.all vg=true/\Q (.bl (if neg then !Wd x c else Wd x c)) H
def CQ:sD X (compareOp .NotIn) (WI X.K true):=by
 intro k s l H x y v u Q I f i h;obtain⟨p,m,rfl,d,g,fs,q⟩:=h;cases i;rcases d with d|d
 .obtain⟨c,r,e,j⟩:=I.list d;refine SeqAt.notIn_listAt (Pi x) e.isList (λw hw=>Aq f g r fs w (by simpa using hw)) ⟨.bl _,H,I,rfl,?_⟩;rw[show c.toArray.any (Pi x)=c.any (Pi x) by simp,CA r fs];exact q
 .obtain⟨c,r,e,j⟩:=I.tuple d;refine SeqAt.notIn_tupleAt (Pi x) e (λw hw=>Aq f g r fs w (by simpa using hw)) ⟨.bl _,H,I,rfl,?_⟩;rw[show c.toArray.any (Pi x)=c.any (Pi x) by simp,CA r fs];exact q
def De:l6 X (.type "list") (λC H Q=>∃p i,C=[.ref p]/\(nh X.K H p i\/pX X.K H p i)/\∀l,H l=none->Q (.ref l) (kU H l (.lst i))):=by
 intro D s F H C L Q I r h;obtain⟨p,i,rfl,v,q⟩:=h;obtain⟨u,rfl,J⟩:=qL r;cases J;have m:∀(c:List Value),jZ i c->i.length<=sizeLine->∀(d:Heap) (g:Nat),(∀b B,s.heap.get? b=some B->d.get? b=some B)->
   d.get? s.heap.objs.size=some {cls:=.type "list",dict:=none,data:=.seq c.toArray g,slots:=#[]}->EP X D F Q (.ref s.heap.objs.size) {s with heap:=d}:=λc f k d g j e=>
  ⟨.ref s.heap.objs.size,_,I.laid j (aK _) (show mQ X.prog X.w _ d _ (.lst i) from ⟨k,c,g,f,e⟩),rfl,q _ (I.hok.fresh (aK _))⟩
 rcases v with v|v
 .obtain⟨c,f,y,k⟩:=I.list v;have E:=f.length;obtain⟨o,A,z,n,x⟩:=y.isList;exact call_list_seq p (.inl rfl) A z x (λd g j e=>m c f k d g j e) (by simp only[bH]<;>lia)
 .obtain⟨c,f,y,k⟩:=I.tuple v;have E:=f.length;obtain⟨o,A,z,n,x⟩:=y;exact call_list_seq p (.inr rfl) A z x (λd g j e=>m c f k d g j e) (by simp only[bH]<;>lia)
def A6:l6 X (.type "tuple") (λn H Q=>∃p d,n=[.ref p]/\((nh X.K H p d/\∀l,H l=none->Q (.ref l) (kU H l (.tup d)))\/(pX X.K H p d/\Q (.ref p) H))):=by
 intro v s x H n B Q I r h;obtain⟨p,d,rfl,h⟩:=h;obtain⟨u,rfl,y⟩:=qL r;cases y;rcases h with⟨j,q⟩|⟨j,q⟩
 .obtain⟨c,g,i,k⟩:=I.list j;have A:=g.length;refine call_tuple_list i.isList (λf w=>?_) (by simp only[bH]<;>lia);have m:=I.kept (t':=s.toks) w;have z:jq X v x (kU H f.objs.size (.tup d)) {s with heap:=f.push {cls:=.type "tuple",data:=.seq c.toArray}}:=
   m.laid (λb o e=>ae _ e) (aK _) (⟨k,c,g,Ad.new _ _⟩)
  exact⟨.ref f.objs.size,_,z,rfl,q _ (m.hok.fresh (aK _))⟩
 .obtain⟨c,g,i,k⟩:=I.tuple j;exact call_tuple_same i ⟨.ref p,H,I,rfl,q⟩
def UE(K:W.Frag)(T:String)(x:V)(H:Hp):Prop:=match x with
 |.str _=>T = "str"
 |.int _=>T = "int"
 |.ref p=>(T = "list" /\∃d,nh K H p d)\/(T = "tuple" /\∃o,K.lookup p=some o/\o.cls=.type "tuple" /\o.dict=none)\/
   (T = "dict" /\((∃c,H p=some (.dK c))\/∃c,H p=some (.dT c)))\/(T = "set" /\∃S n,H p=some (.set S n))
 |_=>False
theorem TF{q:List (Addr×Obj)}{u:St}{H:Hp}{s:Shared}{T:String}{x:V}{v:Value}(I:jq X q u H s)(r:kr x v)(ty:UE X.K T x H) :
  s.TypeIs v T/\∀a,v=.ref a->∃k,s.heap.get? a=some k/\k.dict=none:=by
 cases x with
 |str z=>obtain⟨t,rfl⟩:=r;cases (ty);exact⟨typeIs_str s z t,λ_ e=>nomatch e⟩
 |int i=>obtain⟨t,rfl⟩:=r;cases (ty);exact⟨typeIs_int s i t,λ_ e=>nomatch e⟩
 |ref p=>
  cases r;rcases ty with⟨rfl,A,y⟩|⟨rfl,o,d,w,g⟩|⟨rfl,d⟩|⟨rfl,S,n,d⟩
  .obtain⟨m,_,l,_⟩:=I.list y;refine⟨l.isList.typeIs,λa e=>?_⟩;cases e;obtain⟨o,n,e,c,g,_⟩:=l;exact⟨o,e,g⟩
  .refine⟨⟨o,I.kIn p o d,w⟩,λa e=>?_⟩;cases e;exact⟨o,I.kIn _ o d,g⟩
  .have z:∃o,s.heap.get? p=some o/\o.ExactDict:=by
    rcases d with⟨j,d⟩|⟨j,d⟩
    .obtain⟨_,_,_,_,o,_,_,e,f,_⟩:=I.hok p _ d;exact⟨o,e,f⟩
    .obtain⟨_,_,_,_,o,_,_,e,f,_⟩:=I.hok p _ d;exact⟨o,e,f⟩
   obtain⟨o,e,f⟩:=z;refine⟨⟨o,e,f.1⟩,λa h=>?_⟩;cases h;exact⟨o,e,f.2.1⟩
  .obtain⟨o,_,_,_,e,f,_⟩:=I.hok p _ d;refine⟨⟨o,e,f.1⟩,λa h=>?_⟩;cases h;exact⟨o,e,f.2.1⟩
 |_=>exact False.elim ty
def W2(K:W.Frag)(T:String)(r:V->List V->Hp->VK->Prop)(to:TE)(t:TA):TE:=λc H Q=>to c H λx d=>UE K T x d/\t c d λe f=>r x e f Q
variable {o e:Expr}{es:List Expr}{to:TE}{t:TA}{name:Str}{apos cpos:Pos}{T id:String}{r:V->List V->Hp->VK->Prop}
def MN(z:PlainAttrs T)(f:Slot T name id)(k:typeOf (.builtin id)=pure (.type "method_descriptor"))(u:Ys X id r)(B:PE X o to)(A:PA X (e::es) t)
  (c:attributeBase o name X.env (eval o X.env)=eval o X.env:=by rfl)
  (g:((backTo cpos (starEach (e::es) X.env)).all (λx=>!x.1)&&(backToKw cpos (keywordEach [] X.env)).all (λx=>x.1.isSome)
   && decide ((e::es).length+([]:List Keyword).length+(if ([]:List Keyword).isEmpty then 0 else 1)<30))=true:=by rfl)
  (d:(apos.endLine==cpos.line)=true:=by rfl) (E:starEach (e::es) X.env=(false,eval e X.env)::starEach es X.env:=by rfl) (hplain:(backTo cpos (starEach es X.env)).any (·.1)=false:=by rfl) :
  PE X (.Call (.Attribute o name apos) (e::es) [] cpos) (W2 X.K T r to t):=by
 intro i s j H Q I h;refine wpAny_Call_method_late c g d rfl (lV (B i s j H _ I h) λv C D=>?_);obtain⟨x,w,m,l,ty,y⟩:=D;obtain⟨q,p⟩:=TF m l ty;refine⟨T,id,z,f,k,q,p,?_⟩;have n:=A cpos i C j w _ m y;rw[E]at n ⊢;refine Calls.callWith_builtin (by show (false||(backTo cpos (starEach es X.env)).any (·.1))=false;rw[hplain]<;>rfl) (Calls.evalArgs_plain ?_);exact lV n λus s2 ⟨vs,H2,I2,r2,q2⟩=>u i s2 j H2 x vs v us Q I2 l r2 q2
end
end L2
namespace L2
open PySem PySem.Spec PyProof.Rows
def Yb(X:Cx)(id:String)(r:V->List V->Hp->VK->Prop):Prop:=
 ∀(d:List (Addr×Obj)) (s:Shared) (a:St) (H:Hp) (x:V) (b:List V) (v:Value) (c:List Value) (Q:VK),jq X d a H s->kr x v->jZ b c->r x b H Q->
  wpAny (model X.prog X.w) X.A (call (.builtin id) (v::c)) (EP X d a Q) X.xe s
def jZ.one{x us}(h:jZ [x] us):∃u,us=[u]/\kr x u:=by
 cases h with
 |cons r t=>cases t;exact⟨_,rfl,r⟩
theorem jZ.rep(h:jZ xs us):∀k:Nat,jZ (List.replicate k xs).flatten (List.replicate k us).flatten
 |0=>.nil
 |k+1=>by rw[cj,cj,cm,cm];exact jZ.append h (jZ.rep h k)
theorem uH(its:List Value):∀k a,
  List.foldl (λb d=>b++d) a.toArray (List.replicate k its.toArray)=(a++(List.replicate k its).flatten).toArray
 |0,a=>by simp
 |k+1,a=>by
  have e:a.toArray++its.toArray=(a++its).toArray:=by simp
  have c:(a++its)++(List.replicate k its).flatten=a++(List.replicate (k+1) its).flatten:=by rw[cj,cm,cq]
  rw[<-c,<-uH its k (a++its),<-e,cj,cu]
section
variable {X:Cx}{iO:List (Addr×Obj)}{σ:St}{H:Hp}{s:Shared}{l b:Addr}{xs ys zs:List V}
def jq.lset{its a:List Value}(I:jq X iO σ H s)(i:H l=some (.lst xs))
  (e:s.heap.get? l=some {cls:=.type "list",data:=.seq its.toArray n}) (d:f its.toArray=a.toArray) (hv:jZ ys a) (h:ys.length<=sizeLine) :
  jq X iO σ (kU H l (.lst ys)) {s with heap:=s.heap.update l (Obj.mapSeq f),toks:=t'}:=by
 have q:=PySem.IsL.update e f;rw[d]at q;refine I.write (by rw[i];exact trivial) (.inl rfl) (λj u c g=>(Heap.get?_update_other s.heap (Obj.mapSeq f) (Ne.symm c)).trans g) ⟨_,q⟩ ?_;exact⟨h,a,_,hv,q⟩
def jq.lnew(I:jq X iO σ H s)(hv:jZ ys its)(a:ys.length<=sizeLine) :
  jq X iO σ (kU H s.heap.objs.size (.lst ys)) {s with heap:=s.heap.push {cls:=.type "list",data:=.seq its.toArray},toks:=t'}:=
 I.laid (λ_ _ q=>ae _ q) (aK _) ⟨a,its,0,hv,ar _ rfl⟩
def jq.fresh(I:jq X iO σ H s):H s.heap.objs.size=none:=I.hok.fresh (aK _)
def jq.lstM(I:jq X iO σ H s)(a:H l=some (.lst xs)):xs.length<=sizeLine/\∃its n,jZ xs its/\xs.length=its.length/\s.heap.get? l=some {cls:=.type "list",data:=.seq its.toArray n}:=by obtain⟨z,its,n,r,e⟩:=I.hok l _ a;exact⟨z,its,n,r,r.length,e⟩
def Nr(h:n<=sizeLine):Builtin.List.listTooLong n=false:=by unfold Builtin.List.listTooLong;exact aB (cv h)
end
section
variable {X:Cx}
def Di:V->List V->Hp->VK->Prop:=λx b H Q=>∃l a y,x=.ref l/\b=[y]/\H l=some (.lst a)/\a.length<sizeLine/\Q .non (kU H l (.lst (a++[y])))
def xX:Yb X "list.append" Di:=by intro j s k H x o v m Q I c i h;obtain⟨l,p,y,rfl,rfl,b,d,q⟩:=h;cases c;obtain⟨u,rfl,g⟩:=i.one;obtain⟨z,a,n,r,f,e⟩:=I.lstM b;refine call_meets F.slot_list_append ⟨_,e,rfl⟩ F.entry_list_append (F.args_list_append_2 _ _) (PySem.list_append l a.toArray n u (by rw[bH];exact aN (bB f.symm) (bg d))) ⟨e,?_⟩;refine⟨.non,_,I.lset b e (by simp) (r.append (.cons g .nil)) ?_,rfl,q⟩;rw[aT,cw];omega
def Sg:R2:=λx y H Q=>∃l b a c,x=.ref l/\y=.ref b/\H l=some (.lst a)/\H b=some (.lst c)/\a.length+c.length<=sizeLine/\∀p,H p=none->Q (.ref p) (kU H p (.lst (a++c)))
def Kj:sD X (binaryOp .Add) Sg:=by
 intro w s A H x y v u Q I k d h;obtain⟨l,b,F,p,rfl,rfl,o,j,D,q⟩:=h;cases k;cases d;obtain⟨z,c,n,r,E,e⟩:=I.lstM o;obtain⟨B,a,C,i,f,g⟩:=I.lstM j;refine PySem.P.add_list e g ?_ (by rw[bH,bH];lia);have m:c.toArray++a.toArray=(c++a).toArray:=by simp
 rw[m];exact⟨.ref _,_,I.lnew (r.append i) (by rw[aT];omega),rfl,q _ I.fresh⟩
def Vs:R2:=λx y H Q=>∃l k a,x=.ref l/\y=.int k/\H l=some (.lst a)/\-(2 ^ 63)<=k/\k<2 ^ 63/\a.length*k.toNat<=sizeLine/\
 ∀p,H p=none->Q (.ref p) (kU H p (.lst (List.replicate k.toNat a).flatten))
def Cw{b:Type}(a:List b) k:(List.replicate k a).flatten.length=k*a.length:=by
 induction k with
 |zero=>simp
 |succ k ih=>rw[cj,cm,aT,ih,cx,Nat.add_comm]
def RI:sD X (binaryOp .Mult) Vs:=by
 intro L s N H x y v u Q I D w h;obtain⟨l,k,P,rfl,rfl,K,B,A,o,q⟩:=h;cases D;obtain⟨t,rfl⟩:=w;obtain⟨z,b,n,r,J,e⟩:=I.lstM K;have C:b.toArray.size*k.toNat<=sizeLine:=by rw[bH,<-J];exact o
 have d:¬b.toArray.size*k.toNat>(2 ^ 63-1) / 8:=by
  have:sizeLine<=(2 ^ 63-1) / 8:=by decide
  omega
 have f:¬(!Builtin.List.listFitsIndex k)=true:=by rw[fitsIndex_both B A];exact aH
 have c:¬Builtin.List.listTooLong (b.toArray.size*k.toNat)=true:=by rw[Nr C];exact aH
 have g:List.foldl (λi j=>i++j) #[] (List.replicate (if b.toArray.isEmpty=true then 0 else k.toNat) b.toArray)=(List.replicate k.toNat b).flatten.toArray:=by
  have p:∀m:Nat,List.foldl (λi j=>i++j) #[] (List.replicate m b.toArray)=(List.replicate m b).flatten.toArray:=λm=>by have:=uH b m [];rw[cy]at this;exact this
  rw[p];cases b with
  |nil=>simp
  |cons a r'=>rw[aR (by simp)]
 refine wpAny_binaryOp_repeat_ref (by decide) ⟨_,e,rfl⟩ (λE=>typeIs_int E k t) noFill_list_mul F.fills_int_mul F.slot_int_rmul repeat_list F.slot_int_index.lookup
  (call_meets F.slot_int_rmul (typeIs_int s k t) F.entry_int_rmul (F.args_int_rmul_2 _ _) (int___rmul___int_list k t l b.toArray n)
   ⟨e,rfl,⟨_,e,rfl⟩,call_meets F.slot_list_mul ⟨_,e,rfl⟩ F.entry_list_mul (F.args_list_mul_2 _ _) (AutoListH.list___mul___list_int_3 l b.toArray n k t f d c) ⟨e,?_⟩⟩)
 rw[g];exact⟨.ref _,_,I.lnew (r.rep k.toNat) (by rw[Cw,cA];exact o),rfl,q _ I.fresh⟩
end
end L2
namespace Att
open PySem PySem.W PySem.Calls PyProof.Rows
def yR:∀c vs,WellAll P h vs (c.map WData.int)->IntsAre vs c:=by
 intro c;induction c with
 |nil=>intro vs w;rw[cB]at w;cases w;exact .nil
 |cons n c ih=>
  intro vs w;rw[bK]at w;cases w with
  |cons a b=>cases a;exact .cons _ _ (ih _ b)
theorem script_of{l:OpenLaw}(p:l.most=some n)
  (b:l.row.toRowW.claim.pre args=true) (g:WellAll P h vals args) :
  ∃a vs c,vals=[Value.ref a]/\args=[WData.list (c.map WData.int)]/\h.get? a=some {cls:=.type "list",data:=.seq vs.toArray}/\IntsAre vs c/\c.length<=n:=by
 have i:=(pre_splitW b).1;have j:l.pre.holds [] {args:=args}=true:=(pre_splitW b).2;obtain⟨d,r,rfl,m,k⟩:=hasAllW_cons i;obtain rfl:=hasAllW_nil k;obtain⟨u,rfl,s⟩:=hasW_list m;obtain⟨c,rfl⟩:=items_int s;have o:c.length<=n:=by
  unfold OpenLaw.pre at j;have f:(WTm.not (.lt (.lit (.int n)) (.len (.arg 0)))).holds [] {args:=[.list (c.map .int)]}=true:=by have f:=(holds_andW j).1;rw[p]at f;exact f
  have e:=condW_of f (w_not (w_lt w_lit (w_len_list (w_arg rfl))));rw[aw]at e;refine cC λq=>?_;first
   | (rw[aC q']at e;exact absurd e (by decide))
   | (simp at e;exact cv e q)
 cases g with
 |cons w1 w2=>
  cases w2;cases w1 with
  |list ho tQ=>exact⟨_,_,c,rfl,rfl,ho,yR c _ tQ,o⟩
def post_true(l:OpenLaw) args:l.row.toRowW.claim.post args (.bool true) args=true:=
 postW_of
  (show WShape.has [] (.bool true) .bool=true by first|rfl|decide|simp[WShape.has,WShape.arms,WShape.armsAll])
  (w_eq_bool (w_res rfl) w_lit) rfl
end Att
namespace L2
open PySem PySem.Spec PyProof.Rows
theorem BC:∀{vs} {ns},IntsAre vs ns->jZ (ns.map V.int) vs
 |_,_,.nil=>.nil
 |_,_,.cons n t h=>.cons ⟨t,rfl⟩ (BC h)
def S2(H:Hp):Prop:=∀b,H b=none\/∃o a,H b=some (.frz o (.lst a))
def DN(h:Heap)(H:Hp)(a:List (Addr×Addr)):Heap:=⟨(LO h H).objs,{ids:=a}⟩
theorem Nj{K:W.Frag}
  (KX:K.In s₁.heap) (B:s₁.heap.Ns mainGlobals mg) (g:s₁.heap.Ns builtinsNs mb) (Y:∀x:Str,x≠ "__name__" ->mb x=bootBuiltins x) (A:s₁.heap.NoLimit) (l:s₁.heap.NoSeer) (htr:P.given.tree=none) (hg:s₁.gens = #[])
  (I:s₁.heap.get? a=some {cls:=.type "list",data:=.seq vs.toArray}) (hi:IntsAre vs ns) (hl:ns.length<=sizeLine) (hr:lB k callerA)
  (F:∀i:Heap,K.In i->i.Ns mainGlobals mg->qP P w K mg i CX k fa fd [x] sp) (y:∀(s:Shared) (u:Value),BindsTo s fd ⟨[u],[]⟩ [(x,u)])
  (hsp:∀H:Hp,S2 H->nh K H a (ns.map V.int)->sp [.ref a] H (λv _=>v=.bl true) λ_ _ _=>False)
  (Z:∀H e j,CX [] H s₁ (λ_ _ _=>False) e j->False) :
  codeAny (model P w) callerA (.call (.ref fa) ⟨[.ref a],[]⟩) (λr j=>r=.ok (.ret (.bool true))/\OldK s₁.heap j.heap/\j.os=s₁.os/\AllBare j.gens) s₁:=by
 have rv:=BC hi;have N:=hi.length;have p:∀H:Hp,S2 H->nh K H a (ns.map V.int)->uT P w H s₁.heap->(∀b,H b≠none->b=a)->(H a≠none->K.lookup a=none)->
   codeAny (model P w) callerA (.call (.ref fa) ⟨[.ref a],[]⟩) (λr j=>r=.ok (.ret (.bool true))/\OldK s₁.heap j.heap/\j.os=s₁.os/\AllBare j.gens) s₁:=by
  intro H hO hS D hA hK;have base_of:∀{b:Addr} {o:Obj},s₁.heap.get? b=some o->H b=none->(DN s₁.heap H []).get? b=some o:=λe n=>Mj e n;have X:∀{b:Addr} {o:Obj} {R:Array DictEntry} {S:Nat},s₁.heap.get? b=some o->o.data=.dict R S->H b=none:=λ{b o R S} e d=>by
   cases q:H b with
   |none=>rfl
   |some u=>have Q:=hA b (by rw[q];simp);subst Q;rw[I]at e;cases e;have d':=d;cases d'
  have f:∀{b:Addr} {m:Str->Option Value},s₁.heap.Ns b m->(DN s₁.heap H []).Ns b m:=λ{b m} ⟨o,R,S,e,d,r⟩=>⟨o,R,S,base_of e (X e d),d,r⟩;have J:K.In (DN s₁.heap H []):=λb o e=>base_of (KX b o e) (by
   cases q:H b with
   |none=>rfl
   |some u=>have Q:=hA b (by rw[q];simp);subst Q;rw[hK (by rw[q];simp)]at e;cases e)
  have hM:Mod K mg (DN s₁.heap H []):=⟨J,f B,⟨mb,f g,Y⟩,let ⟨mc,h1,h2⟩:=A;⟨mc,f h1,h2⟩,(let ⟨mc,h1,h2⟩:=l.statics;⟨mc,f h1,h2⟩),(let ⟨mc,h1,h2⟩:=l.mods;⟨mc,f h1,h2⟩),(let ⟨mc,h1,h2⟩:=l.imp;⟨mc,f h1,h2⟩),let ⟨mc,bm,U,h1,h2,h3,h4,h5⟩:=l.main;⟨mc,bm,U,f h1,h2,base_of h3 (by
   cases q:H bm with
   |none=>rfl
   |some u=>have Q:=hA bm (by rw[q];simp);rw[Q,I]at h3;cases h3;exact absurd (Value.type.inj h4) (by decide)),h4,h5⟩⟩
  have e0:Gn P w K mg (DN s₁.heap H []) callerA [] s₁ H:=⟨rfl,hM,λb o e=>Ql e,bB (Jj _ _),trivial,λb g=>absurd (show b∈([]) from g) (by simp),D,.of_eq hg,(λc P qn hm=>nomatch (show (c,P)∈([]:List (Addr×Addr)) from hm)),htr⟩;refine codeAny_mono ((F _ J (f B)).run callerA [] s₁ H ⟨[.ref a],[]⟩ [.ref a] [.ref a] _ _ hr e0 (y s₁ (.ref a)) (.cons rfl .nil) (hsp H hO hS)) λr j h=>?_;cases r with
  |error e=>exact (Z H e j h).elim
  |ok fl=>
   cases fl with
   |next=>exact False.elim h
   |brk=>exact False.elim h
   |cont=>exact False.elim h
   |ret u=>
    obtain⟨v,H',os,C,un,E,r',q⟩:=h;have q':=q;subst q';obtain rfl:u=Value.bool true:=r';refine⟨rfl,OldK.of_keep λb o e=>?_,os,C⟩;cases q:H b with
    |none=>exact un.keep b o e q (by intro z;exact absurd (show b∈([]) from z) (by simp)) (by simp)
    |some u=>
     rcases hO b with z|⟨U,xs,z⟩
     .rw[q]at z;cases z
     .have z2:=un.frzs b U _ z;obtain⟨e1,_⟩:=D b _ z;obtain⟨e2,_⟩:=E b _ z2;rw[e]at e1;cases e1;exact e2
 cases hk:K.lookup a with
 |some o=>have e:=KX a o hk;rw[I]at e;cases e;refine p (λ_=>none) (λ_=>.inl rfl) (.inr ⟨_,vs.toArray,_,hk,rfl,rfl,rfl,by rw[bH,N];exact hl,by simpa using rv⟩) (λb u z=>by have L:=z;cases L) (λb z=>absurd rfl z) λz=>absurd rfl z
 |none=>
  refine p (λb=>if b=a then some (.frz {cls:=.type "list",data:=.seq vs.toArray} (.lst (ns.map V.int))) else none) (λb=>?_) (.inl (.inr ⟨{cls:=.type "list",data:=.seq vs.toArray},aQ rfl⟩)) (λb u z=>?_) (λb z=>?_) λ_=>hk
  .by_cases g:b=a
   .exact .inr ⟨_,_,aQ g⟩
   .exact .inl (aR g)
  .by_cases g:b=a
   .have L:=(aQ g).symm.trans z;cases L;subst g;exact⟨I,by rw[aw];exact hl,vs,_,rv,I⟩
   .have L:=(aR g).symm.trans z;cases L
  .by_cases g:b=a
   .exact g
   .exact absurd (aR g) z
end L2
namespace L2
open PySem PySem.Spec PyProof.Rows
noncomputable def uO(s:Stmt)(j:Nat):Stmt:=match s with
 |.ClassDef _ _ _ body _ _ _ _ _ _ _=>body.getD j (.Pass ⟨0,0,0,0⟩)
 |_=>.Pass ⟨0,0,0,0⟩
noncomputable def l3(s:Stmt):Arguments:=match s with
 |.FunctionDef _ a _ _ _ _ _ _ _ _=>a
 |_=>{posonlyargs:=[],args:=[],vararg:=none,kwonlyargs:=[],kw_defaults:=[],kwarg:=none,defaults:=[]}
noncomputable def kg(s:Stmt):List Stmt:=match s with
 |.FunctionDef _ _ b _ _ _ _ _ _ _=>b
 |_=>[]
noncomputable def i9(s:Stmt):Scope:=match s with
 |.FunctionDef _ _ _ _ _ _ sc _ _ _=>sc
 |_=>{kind:=.function,names:=[],isGenerator:=false,isCoroutine:=false}
abbrev A2:Qx:=λ_ _ _ _ _ _=>False
abbrev E0:XK:=λ_ _ _=>False
def MZ:xy A2 X E0:=λ_ _ _ _ _ _ _ h=>h.elim
structure Of(K:W.Frag)(x qual:Str)(st:Stmt)(f:Addr)(fd:FuncData):Prop where
 ex:∃(oc:Value) (od:Option Addr) (kV doc pm:Value) (an:Option Addr) (cdv ct:Value) (osl:Array (Option Value)),
  fd=W.fnOf x qual (l3 st) (kg st) (i9 st) .none kV doc pm an cdv ct/\K.lookup f=some ⟨oc,od,.func fd,osl⟩/\W.codeIn K cdv qual=true
 kp:W.keepIn K (.ref f)=true
section
variable {P:Program}{w:World}{K:W.Frag}{mg:Str->Option Value}{base:Heap}
def Of.ok{st:Stmt}(F:Of K x qual st f fd)(S:lO N ps (i9 st))(g:∀vs H Q E,sp vs H Q E->vs.length=ps.length)
  (c:∀b A a s H vs Q E,lB k (A.deeper (envOfC qual (i9 st) s.heap.objs.size f b))->sp vs H Q E->
   ∃t,EO (ur A2 P w K mg base N qual (i9 st) f b A a s H E).nox (kg st) t/\t {nx:=λ_ m=>Q .non m,rt:=Q} (pP N vs) H):qP P w K mg base A2 (k+1) f fd ps sp:=by
 obtain⟨u,n,kV,j,p,r,b,o,i,rfl,l,d⟩:=F.ex;refine VX l d S g λA a s H vs Q E hr e=>?_;obtain⟨t,h,q⟩:=c b A a s H vs Q E hr e;exact⟨t,h.nox,q⟩
def Of.binds{st:Stmt}(F:Of K x qual st f fd)
  (h:∀(kV b d:Value) (e:Option Addr) (a c:Value) (us:List Value),us.length=ps.length->bindArgs (W.fnOf x qual (l3 st) (kg st) (i9 st) .none kV b d e a c) ⟨us,[]⟩=pure (ps.zip us)):ug K fd ps []:=by
 obtain⟨k,l,kV,b,d,e,a,c,g,rfl,j,i⟩:=F.ex;exact .all (h kV b d e a c)
def GB{st:Stmt}{kV b e a d:Value}(l:K.lookup f=some ⟨oc,od,.func (W.fnOf x qual (l3 st) (kg st) (i9 st) .none kV b e an a d),osl⟩)
  (c:W.codeIn K a qual=true) (k:W.keepIn K (.ref f)=true):Of K x qual st f (W.fnOf x qual (l3 st) (kg st) (i9 st) .none kV b e an a d):=⟨⟨oc,od,kV,b,e,an,a,d,osl,rfl,l,c⟩,k⟩
end
def KZ(hr:lB k A):A.units+1<cLine:=cD (Nat.add_le_add_left (by decide:1<=64) _) hr.units
section
variable {X:Cx}
def pv i (c:X.N[i]? = some x:=by rfl) (hv:VS X.env.scope x:=by first|exact Or.inl rfl|exact Or.inr (Or.inl rfl)|exact Or.inr (Or.inr rfl)) (b:(x==("__debug__" : Str))=false:=by decide)
  (a:(x==("__classdict__" : Str))=false:=by decide):PE X (.Name x pos) (qD i):=RH c hv b a
end
def Kf(o:HO)(x:Option HO):Prop:=match o with
 |.tbl q ps=>∃a,x=some (.tbl q (ps++a))
 |o=>x=some o
def Kf.of(h:x=some o):Kf o x:=by
 cases o with
 |tbl q ps=>exact⟨#[],by rw[h];simp⟩
 |_=>exact h
def Kf.ne(h:Kf o x):x≠none:=by
 cases o with
 |tbl q ps=>obtain⟨m,e⟩:=h;rw[e];exact λz=>nomatch z
 |_=>have e:x=some _:=h;rw[e];exact λz=>nomatch z
def jI(H a:Hp):Prop:=∀b o,H b=some o->Kf o (a b)
def jI.refl H:jI H H:=λ_ _ h=>.of h
def jI.trans(a:jI H H1)(b:jI H1 H2):jI H H2:=λc o h=>by
 have q:=a c o h;cases o with
 |tbl q ps=>obtain⟨m,e⟩:=q;obtain⟨d,f⟩:=b c _ e;exact⟨m++d,by rw[f,bz]⟩
 |_=>exact b c _ q
def jI.seq{K:W.Frag}(e:jI H H')(h:nh K H a xs):nh K H' a xs:=by
 rcases h with (h|⟨o,h⟩)|h
 .exact .inl (.inl (e _ _ h))
 .exact .inl (.inr ⟨o,e _ _ h⟩)
 .exact .inr h
end L2
namespace L2
open PySem PySem.Spec PyProof.Rows
section
variable {P:Program}{w:World}{H:Hp}{h:Heap}{a:Addr}{o:HO}
def uT.track(ok:uT P w H h)(f:H a=none)(new:mQ P w (kU H a o) h a o):uT P w (kU H a o) h:=λb u e=>by
 by_cases d:b=a
 .subst d;rw[jb]at e;cases e;exact new
 .rw[ja d]at e;refine (ok b u e).stay (λ_ _ _ q=>q) (λc q=>?_) λc g q=>?_
  .rw[ja (jO q f)];exact q
  .rw[ja (jO q f)];exact q
end
def jq.track(I:jq X iO σ H s)(d:H a=none)(h:a∈X.ex\/X.s₀.heap.objs.size<=a)
  (i:a≠X.env.locals) (g:∀x c,X.env.cells.lookup x=some c->c≠a) (j:∀p∈X.pn++iO,p.1≠a) (new:mQ X.prog X.w (kU H a o) s.heap a o):jq X iO σ (kU H a o) s:=by
 have J:=I.step (t':=s.toks) (d':=s.drawn) (ch:=[a])
  (λb f=>by
   have e:b=a:=by simpa using f
   subst e;exact⟨h,i,g,j⟩)
  (λ_ _ _ _ _ e _=>e) (λ_ u _ _ _ e _=>⟨u.slots,e⟩)
  (λb u f _ n=>by rw[ja (by simpa using f)];exact n)
  (λ_ u _ e=>⟨u,e⟩)
  (λb l q=>by rw[ja (jO q d)];exact q)
  (λb u v q=>by rw[ja (jO q d)];exact q)
  (λb _ k q=>⟨#[],by rw[ja (jO q d),q];simp⟩)
  (λ_ q=>q) (I.hok.track d new) I.bare
 exact J
noncomputable def pQ(a:Env):List (Str×NameKind)->List (Str×Addr)->List (Str×Addr)
 |[],acc=>acc
 | (n,k)::r,acc=>if k==NameKind.free then (match a.cells.lookup n with
  |some c=>pQ a r ((n,c)::acc)
  |none=>pQ a r acc) else pQ a r acc
def vb(h:∀y∈scope.names,y.2=.free->∃c,env.cells.lookup y.1=some c):closureFor scope env=pure (pQ env scope.names []):=by
 have all:∀(l:List (Str×NameKind)) b,(∀y∈l,y.2=.free->∃c,env.cells.lookup y.1=some c)->
   (forIn l b λx cs=>(if (x.2==NameKind.free)=true then (do
    let a <-cellOf env x.1
    pure (ForInStep.yield ((x.1,a)::cs))) else pure (ForInStep.yield cs):Sem _))=pure (pQ env l b):=by
  intro l;induction l with
  |nil=>intro b _;rfl
  |cons y r ih=>
   intro b i;obtain⟨n,k⟩:=y;rw[List.forIn_cons];by_cases f:(k==NameKind.free)=true
   .obtain⟨c,m⟩:=i (n,k) bj (by simpa using f);have d:=m;have e:cellOf env n=pure c:=by unfold cellOf;rw[d]
    simp only[f,if_true,e,pure_bind];rw[ih _ λy j=>i y (bx _ j)];show pure (pQ env r ((n,c)::b))=pure (if (k==NameKind.free)=true then (match env.cells.lookup n with
     |some c=>pQ env r ((n,c)::b)
     |none=>pQ env r b) else pQ env r b)
    rw[aQ f,d]
   .have g:(k==NameKind.free)=false:=by simpa using f
    simp only[g,cE,if_false,pure_bind];rw[ih _ λy j=>i y (bx _ j)];show pure (pQ env r b)=pure (if (k==NameKind.free)=true then (match env.cells.lookup n with
     |some c=>pQ env r ((n,c)::b)
     |none=>pQ env r b) else pQ env r b)
    rw[aR f]
 have:=all scope.names [] h;unfold closureFor;simp only[pure_bind,bind_pure]at this ⊢;exact this
theorem pB:∀{l} {acc},(∀y d,acc.lookup y=some d->env.cells.lookup y=some d)->(pQ env l acc).lookup x=some c->env.cells.lookup x=some c
 |[],acc,ha,h=>ha x c h
 | (n,k)::r,acc,ha,h=>by
  unfold pQ at h;by_cases b:(k==NameKind.free)=true
  .rw[aQ b]at h;cases e:env.cells.lookup n with
   |none=>rw[e]at h;exact pB ha h
   |some d=>
    rw[e]at h;refine pB (λy d' a=>?_) h;rw[cF]at a;cases q:y==n with
    |true=>rw[q]at a;cases a;rw[beq_iff_eq.mp q];exact e
    |false=>rw[q]at a;exact ha y d' a
  .rw[aR b]at h;exact pB ha h
theorem uD:∀{l} {acc},(∃c,acc.lookup x=some c)->∃c,(pQ env l acc).lookup x=some c
 |[],_,h=>h
 | (n,k)::r,acc,h=>by
  unfold pQ;by_cases a:(k==NameKind.free)=true
  .rw[aQ a];cases e:env.cells.lookup n with
   |none=>exact uD h
   |some d=>
    refine uD ?_;rw[cF];cases q:x==n with
    |true=>exact⟨d,rfl⟩
    |false=>exact h
  .rw[aR a];exact uD h
theorem r9:∀{l} {acc},(x,NameKind.free)∈l->(∃c,env.cells.lookup x=some c)->∃c,(pQ env l acc).lookup x=some c
 | (n,k)::r,acc,b,a=>by
  rcases aF.mp b with e|b
  .cases e;obtain⟨c,a⟩:=a;unfold pQ;rw[aQ (by rfl),a];refine uD ⟨c,?_⟩;rw[cF,beq_self_eq_true]
  .unfold pQ;by_cases f:(k==NameKind.free)=true
   .rw[aQ f];cases env.cells.lookup n with
    |none=>exact r9 b a
    |some d=>exact r9 b a
   .rw[aR f];exact r9 b a
def wC(h:(relabel scope env).names.lookup x=some .cell\/(relabel scope env).names.lookup x=some .free):(x,NameKind.free)∈scope.names\/scope.names.lookup x=some .cell:=by
 have all:∀(l:List (Str×NameKind)),∀k,(k=NameKind.cell\/k=NameKind.free)->
   (l.map λ(n,k)=>if (k==NameKind.free&&env.scope.kind==.function&&env.kindOf n==some .cell) then (n,NameKind.cell) else (n,k)).lookup x=some k->(x,NameKind.free)∈l\/l.lookup x=some .cell:=by
  intro l;induction l with
  |nil=>intro k _ h;simp at h
  |cons y r ih=>
   intro k b h;obtain⟨n,c⟩:=y;rw[bK]at h;by_cases a:(c==NameKind.free&&env.scope.kind==.function&&env.kindOf n==some .cell)=true
   .have d:c=.free:=by simp only[bZ,beq_iff_eq]at a;exact a.1.1
    simp only[a,if_true]at h;rw[cF]at h;cases q:x==n with
    |true=>rw[d,beq_iff_eq.mp q];exact .inl bj
    |false=>
     rw[q]at h;rcases ih k b h with z|z
     .exact .inl (bx _ z)
     .exact .inr (by rw[cF,q];exact z)
   .simp only[a,cE,if_false]at h;rw[cF]at h;cases q:x==n with
    |true=>
     rw[q]at h;have e:c=k:=by simpa using h
     rcases b with rfl|rfl
     .exact .inr (by rw[cF,q,e])
     .rw[e,beq_iff_eq.mp q];exact .inl bj
    |false=>
     rw[q]at h;rcases ih k b h with z|z
     .exact .inl (bx _ z)
     .exact .inr (by rw[cF,q];exact z)
 rcases h with h|h
 .exact all scope.names _ (.inl rfl) h
 .exact all scope.names _ (.inr rfl) h
def CC(h:scope.names.lookup x=some .free):(relabel scope env).names.lookup x=some .cell\/(relabel scope env).names.lookup x=some .free:=by
 have all:∀(l:List (Str×NameKind)),l.lookup x=some .free->
   (l.map λ(n,k)=>if (k==NameKind.free&&env.scope.kind==.function&&env.kindOf n==some .cell) then (n,NameKind.cell) else (n,k)).lookup x=some .cell\/
   (l.map λ(n,k)=>if (k==NameKind.free&&env.scope.kind==.function&&env.kindOf n==some .cell) then (n,NameKind.cell) else (n,k)).lookup x=some .free:=by
  intro l;induction l with
  |nil=>intro h;simp at h
  |cons y r ih=>
   intro h;obtain⟨n,k⟩:=y;rw[bK];rw[cF]at h;cases q:x==n with
   |true=>
    rw[q]at h;have b:k=.free:=by simpa using h
    by_cases a:(k==NameKind.free&&env.scope.kind==.function&&env.kindOf n==some .cell)=true
    .refine .inl ?_;simp only[a,if_true];rw[cF,q]
    .refine .inr ?_;simp only[a,cE,if_false];rw[cF,q,b]
   |false=>
    rw[q]at h;by_cases a:(k==NameKind.free&&env.scope.kind==.function&&env.kindOf n==some .cell)=true
    .simp only[a,if_true];rw[cF,q];exact ih h
    .simp only[a,cE,if_false];rw[cF,q];exact ih h
 exact all scope.names h
def Jr(X:Cx)(a:List Expr)(t:TT):Prop:=
 ∀(d:List (Addr×Obj)) (s:Shared) (b:St) (H:Hp) (Q:Bool->Hp->Prop),jq X d b H s->t b H Q->
  wpAny (model X.prog X.w) X.A (forIn a true λc r=>if r=true then do let ok <-isTrue c X.env (eval c X.env);pure (ForInStep.yield ok) else pure (ForInStep.yield r)) (TP X d b Q) X.xe s
def RX:TT:=λ_ H Q=>Q true H
def Qi:Jr X [] RX:=λ_ _ _ H _ I h=>wpAny_tests_nil ⟨H,I,h⟩
def Pf(b:PT X c t):Jr X [c] t:=λd s a H Q I h=>wpAny_tests_one (b d s a H Q I h)
theorem qY:∀a k b,(cellsFrom k a b).lookup x=some c->b.lookup x=some c\/(k<=c/\(x,NameKind.cell)∈a)
 |[],_,_,h=>.inl h
 | (n,kd)::r,k,b,h=>by
  unfold cellsFrom at h;split at h
  .rename_i e;rcases qY r _ _ h with q|⟨q,m⟩
   .rw[cF]at q;cases d:x==n with
    |true=>rw[d]at q;cases q;refine .inr ⟨aK _,?_⟩;rw[beq_iff_eq.mp d,beq_iff_eq.mp e];exact bj
    |false=>rw[d]at q;exact .inl q
   .exact .inr ⟨cG q,bx _ m⟩
  .rcases qY r _ _ h with q|⟨q,m⟩
   .exact .inl q
   .exact .inr ⟨q,bx _ m⟩
theorem pM:∀a k b,(x,NameKind.cell)∉a->(cellsFrom k a b).lookup x=b.lookup x
 |[],_,_,_=>rfl
 | (n,kd)::r,k,b,h=>by
  unfold cellsFrom;have hr:(x,NameKind.cell)∉r:=λz=>h (bx _ z);split
  .rename_i d;rw[pM r _ _ hr,cF];cases c:x==n with
   |true=>exact absurd (by rw[beq_iff_eq.mp c,beq_iff_eq.mp d];exact bj) h
   |false=>rfl
  .exact pM r _ _ hr
theorem rK:∀a k b,(x,NameKind.cell)∈a->(cellsFrom k a b).lookup x=some c->k<=c
 |[],_,_,h,_=>nomatch h
 | (n,kd)::r,k,b,h,e=>by
  unfold cellsFrom at e;by_cases hr:(x,NameKind.cell)∈r
  .split at e
   .exact cG (rK r _ _ hr e)
   .exact rK r _ _ hr e
  .rcases aF.mp h with q|q
   .cases q;rw[aQ (by rfl),pM r _ _ hr,cF,beq_self_eq_true]at e;cases e;exact aK _
   .exact absurd q hr
theorem rJ:∀d k a,(∀x y c,a.lookup x=some c->a.lookup y=some c->x=y)->(∀x c,a.lookup x=some c->c<k)->
  ∀x y c,(cellsFrom k d a).lookup x=some c->(cellsFrom k d a).lookup y=some c->x=y
 |[],_,_,h,_=>h
 | (n,kd)::r,k,a,h,hl=>by
  unfold cellsFrom;split
  .refine rJ r (k+1) ((n,k)::a) (λx y c b e=>?_) λx c b=>?_
   .rw[cF]at b e;cases f:x==n with
    |true=>
     cases g:y==n with
     |true=>rw[beq_iff_eq.mp f,beq_iff_eq.mp g]
     |false=>rw[f]at b;rw[g]at e;cases b;exact absurd (hl _ _ e) (a9 _)
    |false=>
     rw[f]at b;cases g:y==n with
     |true=>rw[g]at e;cases e;exact absurd (hl _ _ b) (a9 _)
     |false=>rw[g]at e;exact h x y c b e
   .rw[cF]at b;cases f:x==n with
    |true=>rw[f]at b;cases b;exact bM _
    |false=>rw[f]at b;exact cH (hl x c b)
  .exact rJ r k a h hl
theorem qQ:∀a h b,(cellsFrom h.objs.size a b).lookup x=some c->b.lookup x=some c\/(h.objs.size<=c/\(pushCells h a).IsCell c none)
 |[],_,_,e=>.inl e
 | (n,kd)::r,h,b,e=>by
  unfold cellsFrom at e;unfold pushCells;split at e
  .rename_i d;rw[aQ d];have g:(cellsFrom (h.push {cls:=.type "cell",data:=.cell none}).objs.size r ((n,h.objs.size)::b)).lookup x=some c:=by rw[Heap.size_push];exact e
   rcases qQ r _ _ g with q|⟨q,m⟩
   .rw[cF]at q;cases f:x==n with
    |true=>rw[f]at q;cases q;exact .inr ⟨aK _,_,pushCells_keeps r _ _ _ (ar _ rfl),rfl⟩
    |false=>rw[f]at q;exact .inl q
   .rw[Heap.size_push]at q;exact .inr ⟨cG q,m⟩
  .rename_i d;rw[aR d];exact qQ r _ _ e
def xO{M:Model}{A:Around}{E:Value->Shared->Prop}{s:Shared}{a:Scope}{globals:Addr}{closure:List (Str×Addr)}{e:Str}{c:Option Addr}{d:Value}{b:Env}{builtins:Addr}{Q:Env->Shared->Prop}
  (j:Q (newEnv a s.heap.objs.size globals (cellsFrom (s.heap.objs.size+1) a.names closure) e c d (some b) builtins) {s with heap:=pushCells (s.heap.push {cls:=.type "dict",data:=.dict #[]}) a.names}) :
  wpAny M A (newFunctionEnv a globals closure [] e c d (some b) builtins) Q E s:=by
 simp only[newFunctionEnv,cI,if_true];refine ao (wpAny_alloc ?_);refine ao (wpAny_layCells _ (λi f g=>by cases h:f==NameKind.cell<;>simp[h]) _ _ _ _ ?_);rw[show ({s with heap:=s.heap.push {cls:=.type "dict",data:=.dict #[]}}:Shared).heap.objs.size=s.heap.objs.size+1 from Heap.size_push ..];rw[List.forIn_nil];exact ao (ak (ak j))
noncomputable def qB(X:Cx)(N:List Str)(a:Scope)(C:Addr)(b:Shared)(H:Hp)(ex:List Addr)(pn:List (Addr×Obj)):Cx:={X with N:=N,s₀:=b,H₀:=H,env:=compEnvC a (cellsFrom (C+1) a.names (pQ X.env a.names [])) C X.env,outer:=X.stack,ex:=ex,fn:=λx=>a.names.lookup x==some .cell,pn:=pn,xe:=λ_ _=>False}
noncomputable def pull(a:List (Option Nat))(b:St):St:=a.map fun
 |none=>none
 |some j=>(b[j]?).getD none
def W8(J:It)(j:List (Option Nat))(g:TG)(p:TT)(l:TE)(k:St)(o:Hp)(Q:VK):Prop:=∃W:Nat->Nat->List V->Hp->Prop,(∃m,W 0 m [] o)/\∀i m d H,W i m d H->
 (J.stop i H/\∀D,H D=none->Q (.ref D) (kU H D (.lst d)))\/
 (J.go i H/\d.length<sizeLine/\∀x f,J.yld i H x f->g x (pull j k) f λc n=>p c n λb e=>if b=true then l c e λy h=>∃a,a<m/\W (i+1) a (d++[y]) h else ∃a,a<m/\W (i+1) a d e)
def Lf(c:List (Option Nat))(f:TI)(g:TG)(b:TT)(d:TE):TE:=λa H Q=>f a H λJ e=>W8 J c g b d a e Q
end L2
namespace L2
open PySem PySem.Spec PyProof.Rows
section
variable {prog:Program}{w:World}{A:Around}{R:Result->Shared->Prop}{s:Shared}
theorem Dr{u F j:Expr}{q:List Expr}{b:Scope}{pos:Pos}{it p:Value}{a:Env}(J:Nat->Shared->Prop)
  (B:∀n s,J n s->wpAny (model prog w) A (pyNext it) (λr e=>match r with
   |none=>R (.ok .next) e
   |some v=>wpAny (model prog w) A (letOwnedTupleGo F it v) (λ_ f=>wpAny (model prog w) A (assign F a v) (λ_ g=>
     wpAny (model prog w) A (forIn q true λc r=>if r=true then do let ok <-isTrue c a (eval c a);pure (ForInStep.yield ok) else pure (ForInStep.yield r)) (λok d=>
      if ok=true then wpAny (model prog w) A (eval u a) (λx o=>wpAny (model prog w) A (call (.builtin "list.append") [p,x]) (λ_ k=>∃m,m<n/\J m k) (λ_ _=>False) o) (λ_ _=>False) d
      else ∃m,m<n/\J m d) (λ_ _=>False) g) (λ_ _=>False) f) (λ_ _=>False) e) (λ_ _=>False) s)
  (n:Nat) (h:J n s):codeAny (model prog w) A (.compLoop (.ListComp u [⟨F,j,q,0⟩] b pos) 0 it p a) R s:=by
 refine codeAny_loop rfl J (λn s H=>?_) n h;show wpAny _ A ((compTurn (.ListComp u [⟨F,j,q,0⟩] b pos) 0 it p a).onRaise (λx=>do noteFrame x a;theTreesLotGoes x)) _ _ s;refine wpAny_noted ?_;rw[compTurn_list];refine ao (wpAny_standAt (ao (wpAny_mono (B n s H) (λr e i=>?_) λ_ _ z=>z.elim)));cases r with
 |none=>exact ak i
 |some v=>
  refine ao (wpAny_mono i (λ_ f D=>?_) λ_ _ z=>z.elim);refine ao (wpAny_mono D (λ_ g E=>ao (wpAny_mono E (λok d l=>?_) λ_ _ z=>z.elim)) λ_ _ z=>z.elim);cases ok with
  |false=>exact ak ⟨rfl,l⟩
  |true=>exact ao (ao (wpAny_mono l (λx o C=>ao (wpAny_mono C (λ_ k y=>ak (ak ⟨rfl,y⟩)) λ_ _ z=>z.elim)) λ_ _ z=>z.elim))
end
def sR(c:List (Option Nat))(g:TG):Prop:=∀x a H Q,g x a H Q->g x a H λb d=>(∀i j:Nat,c[i]? = some (some j)->b[i]? = a[i]?)/\Q b d
def Av(b:ix[k]? = some none):sR ix (mx k):=λx a H Q h=>by
 refine⟨λi j e=>?_,h⟩;have:k≠i:=by rintro rfl;rw[b]at e;cases e
 rw[aq this]
abbrev Bb(us:List Value):Obj:={cls:=.type "list",data:=.seq us.toArray us.length}
section
variable {X:Cx}{tg elt iter:Expr}{ifs:List Expr}{scope:Scope}{pos:Pos}{N:List Str}{ix:List (Option Nat)}{wi:TI}{g:TG}{tt:TT}{te:TE}
structure Fd(X:Cx)(scope:Scope)(N:List Str)(ix:List (Option Nat)):Prop where
 kind:scope.kind=.function
 sep:∀y∈scope.names,y.2=.cell->scope.names.lookup y.1=some .cell
 names:∀y∈scope.names,y.2=.local->scope.names.lookup y.1=some .local
 fre:∀y∈scope.names,y.2=.free->∃c,X.env.cells.lookup y.1=some c
 len:N.length=ix.length
 ix:∀(i j:Nat) (x:Str),N[i]? = some x->ix[i]? = some (some j)->X.N[j]? = some x/\scope.names.lookup x=some .free/\VS X.env.scope x/\X.env.kindOf x≠some .local
def VN(L:Fd X scope N ix)(I:jq X iO σ H s)(f:∀b∈fp,vN X iO H b)(i:∀b∈fp,b<s.heap.objs.size) o :
  (qB X N scope (s.heap.objs.size+1) {s with heap:=s.heap.push o} H (s.heap.objs.size::fp) (X.pn++iO)).Ok:=by
 have v:jq X iO σ H {s with heap:=s.heap.push o}:=I.kept λb u e=>ae _ e;have sound0:∀x c,(pQ X.env scope.names []).lookup x=some c->X.env.cells.lookup x=some c:=λx c e=>pB (λy d z=>by simp at z) e;have cellLt:∀x c,X.env.cells.lookup x=some c->c<s.heap.objs.size:=λx c e=>let ⟨_,q⟩:=I.cell x c e;q.lt;have h:∀x c,(cellsFrom (s.heap.objs.size+1+1) scope.names (pQ X.env scope.names [])).lookup x=some c->X.env.cells.lookup x=some c\/s.heap.objs.size+1+1<=c:=λx c e=>by
  rcases qY _ _ _ e with q|⟨q,_⟩
  .exact .inl (sound0 x c q)
  .exact .inr q
 refine⟨I.ok.mod,L.kind,I.ok.glob,I.ok.blt,?_,rJ _ _ _ (λx y c j l=>I.ok.inj x y c (sound0 x c j) (sound0 y c l)) (λx c j=>cH (cH (cellLt x c (sound0 x c j)))),λx r=>?_,λx c j l=>?_,I.ok.hd,I.ok.frames,.inl rfl,λb a=>?_,λb u e=>?_,?_,λb u e a=>?_,λb a=>?_,v.stack,I.stkFree,I.tab,I.ok.tree,I.ok.dp,I.ok.fst⟩
 .show (s.heap.push o).objs.size<=s.heap.objs.size+1;rw[Heap.size_push];exact aK _
 .refine bR.mp (W.cellsFrom_some _ _ _ ?_);rcases wC r with k|k
  .exact .inr (bR.mpr (r9 k (L.fre _ k rfl)))
  .exact .inl k
 .have n:(scope.names.lookup x==some .cell)=true:=j;have w:scope.names.lookup x=some .cell:=by simpa using n
  show (s.heap.push o).objs.size<=c;rw[Heap.size_push];exact cG (rK _ _ _ (PySem.mem_of_lookup w) l)
 .rcases aF.mp a with rfl|a
  .refine⟨aM (bM _),λx c e z=>?_⟩;rcases h x c e with q|q
   .exact absurd (cellLt x c q) (by rw[z];exact a9 _)
   .rw[z]at q;lia
  .refine⟨aM (cH (i b a)),λx c e=>?_⟩;rcases h x c e with q|q
   .exact (f b a).2.2.2.2.1 x c q
   .intro z;rw[z]at q;exact absurd (aN (cJ _ 2) q) (Nat.not_le.mpr (i b a))
 .exact⟨ae _ (I.bs b u e).1,(I.bs b u e).2⟩
 .show X.base.objs.size<=(s.heap.push o).objs.size;rw[Heap.size_push];exact cK (aN I.ok.bsz I.sz)
 .have m:=aL (I.bs b u e).1;rcases aF.mp a with rfl|a
  .exact a9 _ m
  .rcases (f b a).2.2.2.1 with z|z
   .exact I.ok.noex b u e z
   .exact absurd (aE (aL e) (aN I.ok.bsz z)) (a9 _)
 .intro z;have p:=I.stkSub b z;rcases aF.mp a with rfl|a
  .rcases aF.mp p with q|q
   .exact absurd I.lt (by rw[<-q];exact a9 _)
   .exact I.nofs (aK _) q
  .rcases aF.mp p with q|q
   .exact (f b a).2.1 q
   .exact (f b a).2.2.1 q
end
end L2
namespace L2
open PySem PySem.Spec PyProof.Rows
section
variable {X:Cx}{tg elt iter:Expr}{ifs:List Expr}{scope:Scope}{pos:Pos}{N:List Str}{ix:List (Option Nat)}{wi:TI}{g:TG}{tt:TT}{te:TE}
def DQ{i:Nat}(h:(pull ix σ)[i]? = some (some v)):∃j,ix[i]? = some (some j)/\σ[j]? = some (some v):=by
 unfold pull at h;rw[av]at h;cases e:ix[i]? with
 |none=>rw[e]at h;cases h
 |some k=>
  rw[e]at h;cases k with
  |none=>cases h
  |some j=>
   refine⟨j,rfl,?_⟩;have a:(σ[j]?).getD none=some v:=by simpa using h
   cases q:σ[j]? with
   |none=>rw[q]at a;cases a
   |some z=>rw[q]at a;simpa using a
theorem Ia{RR:Value->Addr->Result->Shared->Prop}{Q:VK}{W:Nat->Nat->List V->Hp->Prop}
  (hc:X.calm=true) (L:Fd X scope N ix) (hgk:sR ix g)
  (blk:∀C P H ex pn,PG (qB X N scope C P H ex pn) tg g/\Jr (qB X N scope C P H ex pn) ifs tt/\PE (qB X N scope C P H ex pn) elt te)
  (l:jq X iO σ H2 s2) (T:DK X.prog X.w X.K tg J fp it tn) (st2:tn 0 s2.heap) (f2:∀b∈fp,vN X iO H2 b) (w0:W 0 m0 [] H2)
  (turn:∀i m Z H,W i m Z H->(J.stop i H/\∀D,H D=none->Q (.ref D) (kU H D (.lst Z)))\/
   (J.go i H/\Z.length<sizeLine/\∀x s,J.yld i H x s->g x (pull ix σ) s λσ2 H2=>tt σ2 H2 λb H3=>if b=true then te σ2 H3 λy H4=>∃m',m'<m/\W (i+1) m' (Z++[y]) H4 else ∃m',m'<m/\W (i+1) m' Z H3))
  (fin:∀D C m s U,U.heap.Ns C m->vN X iO s C->jq X iO σ s U->Q (.ref D) s->RR (.ref D) C (.ok .next) U) :
  wpAny (model X.prog X.w) X.A (newList []) (λacc P=>wpAny (model X.prog X.w) X.A (newFunctionEnv scope X.env.globals (pQ X.env scope.names []) [] X.env.qual none .none (some X.env)) (λcenv s₄=>codeAny (model X.prog X.w) X.A (.compStart (.ListComp elt [⟨tg,iter,ifs,0⟩] scope pos) 0 (.ref it) acc {cenv with scope:=relabel scope X.env}) (RR acc cenv.locals) s₄) E P) E s2:=by
 refine wpAny_newObj_type (xO ?_);have hCs:(s2.heap.push {cls:=.type "list",dict:=none,data:=.seq ([]).toArray}).objs.size=s2.heap.objs.size+1:=Heap.size_push ..;generalize S:pushCells ((s2.heap.push {cls:=.type "list",dict:=none,data:=.seq ([]).toArray}).push {cls:=.type "dict",data:=.dict #[]}) scope.names=h₁;rw[hCs];have hns₁:h₁.Ns (s2.heap.objs.size+1) (λ_=>none):=by rw[<-S,<-hCs];exact (Heap.Ns.new _ _).keeps (pushCells_keeps _ _)
 have Y:∀x c,(cellsFrom (s2.heap.objs.size+1+1) scope.names (pQ X.env scope.names [])).lookup x=some c->X.env.cells.lookup x=some c\/(s2.heap.objs.size+1+1<=c/\h₁.IsCell c none):=λx c e=>by
  have hs3:((s2.heap.push {cls:=.type "list",dict:=none,data:=.seq ([]).toArray}).push {cls:=.type "dict",data:=.dict #[]}).objs.size=s2.heap.objs.size+1+1:=by rw[Heap.size_push,hCs]
  rw[<-hs3]at e;rcases qQ _ _ _ e with q|⟨q,m⟩
  .exact .inl (pB (λy d z=>by simp at z) q)
  .rw[hs3]at q;rw[S]at m;exact .inr ⟨q,m⟩
 have fpObj:=T.obj 0 _ st2;have hlt:∀b∈fp,b<s2.heap.objs.size:=λb h=>let ⟨_,e,_⟩:=fpObj b h;aL e;have ok:=VN L l f2 hlt {cls:=.type "list",dict:=none,data:=.seq ([]).toArray};have DC:s2.heap.objs.size≠s2.heap.objs.size+1:=aM (bM _);have hold:∀b o,(s2.heap.push {cls:=.type "list",dict:=none,data:=.seq ([]).toArray}).get? b=some o->h₁.get? b=some o:=λb o e=>by rw[<-S];exact pushCells_keeps _ _ _ _ (ae _ e)
 have old:∀b o,s2.heap.get? b=some o->h₁.get? b=some o:=λb o e=>hold b o (ae _ e);have sound:∀x c,(pQ X.env scope.names []).lookup x=some c->X.env.cells.lookup x=some c:=λx c e=>pB (λy d z=>by simp at z) e;have cellLt:∀x c,X.env.cells.lookup x=some c->c<s2.heap.objs.size:=λx c e=>let ⟨_,q⟩:=l.cell x c e;q.lt;have hDn:=l.hok.fresh (aK _);have hCn:=l.hok.fresh (bL _);have F:∀p∈X.pn++iO,p.1<s2.heap.objs.size:=λp f=>aL (l.pin p f).1;have hDfs:s2.heap.objs.size∉JS X.stack:=λz=>by
  rcases aF.mp (l.stkSub _ z) with q|q
  .exact absurd l.lt (by rw[<-q];exact a9 _)
  .exact l.nofs (aK _) q
 have I':jq (qB X N scope (s2.heap.objs.size+1) {s2 with heap:=s2.heap.push {cls:=.type "list",dict:=none,data:=.seq ([]).toArray}} H2 (s2.heap.objs.size::fp) (X.pn++iO))
   [(s2.heap.objs.size,Bb [])] (pull ix σ) H2 {s2 with heap:=h₁,toks:=s2.toks}:=by
  refine⟨ok,rfl,l.bare,Un.kept hold,⟨_,hns₁,λi x v h1 h2 h3=>?_⟩,λx c e=>?_,hCn,λx c e=>?_,λp f=>?_,l.hok.kept old,?_⟩
  .obtain⟨j,ej,es⟩:=DQ h2;obtain⟨q1,q2,q3,q4⟩:=L.ix i j x h1 ej;obtain⟨m,_,hl⟩:=l.loc;obtain⟨u,r,lk⟩:=hl j x v q1 es q3;refine⟨u,r,?_⟩;rcases lk with⟨k,_⟩|⟨k,c,hcl,hv⟩
   .exact absurd k q4
   .obtain⟨c',hc'⟩:=r9 (PySem.mem_of_lookup q2) ⟨c,hcl⟩;have:=sound x c' hc';rw[hcl]at this;cases this;have hnc:(x,NameKind.cell)∉scope.names:=λz=>by have:=L.sep _ z rfl;rw[q2]at this;cases this
    refine .inr ⟨?_,c,(pM _ _ _ hnc).trans hc',let ⟨ob,ho,hd⟩:=hv;⟨ob,old c ob ho,hd⟩⟩;exact CC q2
  .rcases Y x c e with q|⟨_,q⟩
   .obtain⟨v,ob,ho,hd⟩:=l.cell x c q;exact⟨v,ob,old c ob ho,hd⟩
   .exact⟨none,q⟩
  .rcases Y x c e with q|⟨q,_⟩
   .exact l.freeC x c q
   .exact l.hok.fresh (aN (cJ _ 2) q)
  .rcases ai.mp f with f|f
   .obtain⟨e,n,ne,nf,d⟩:=l.pin p f;refine⟨old _ _ e,n,aM (cH (F p f)),λz=>?_,d⟩;rcases aF.mp (l.stkSub _ z) with q|q
    .exact ne q
    .exact nf q
   .have e:p=(s2.heap.objs.size,Bb []):=by simpa using f
    subst e;exact⟨hold _ _ (ar _ rfl),hDn,DC,hDfs,λv z=>by cases z⟩
  .unfold pull;rw[aw];exact L.len.symm
 generalize a:qB X N scope (s2.heap.objs.size+1) {s2 with heap:=s2.heap.push {cls:=.type "list",dict:=none,data:=.seq ([]).toArray}} H2 (s2.heap.objs.size::fp) (X.pn++iO)=X' at I';obtain⟨hg,hif,he⟩:=blk (s2.heap.objs.size+1) {s2 with heap:=s2.heap.push {cls:=.type "list",dict:=none,data:=.seq ([]).toArray}} H2 (s2.heap.objs.size::fp) (X.pn++iO);rw[a]at hg hif he;have stat:∀{s:Hp} {R:List Value},(∀b∈fp,s b=none)->∀b∈fp,vN X' [(s2.heap.objs.size,Bb R)] s b:=λ{s R} hn b h=>by
  subst a;obtain⟨_,f1,f2',f3,f4,f5⟩:=f2 b h;refine⟨hn b h,aM (cH (hlt b h)),λz=>?_,.inl (bx _ h),λx c e=>?_,λp f=>?_⟩
  .rcases aF.mp (l.stkSub _ z) with q|q
   .exact f1 q
   .exact f2' q
  .rcases Y x c e with q|⟨q,_⟩
   .exact f4 x c q
   .intro z;rw[z]at q;exact absurd (aN (cJ _ 2) q) (Nat.not_le.mpr (hlt b h))
  .rcases ai.mp f with f|f
   .exact f5 p f
   .have e:p=(s2.heap.objs.size,Bb R):=by simpa using f
    subst e;exact Ne.symm (aM (hlt b h))
 have loop:codeAny (model X.prog X.w) X.A (.compLoop (.ListComp elt [⟨tg,iter,ifs,0⟩] scope pos) 0 (.ref it) (.ref s2.heap.objs.size) X'.env) (RR (.ref s2.heap.objs.size) (s2.heap.objs.size+1))
   {s2 with heap:=h₁,toks:=s2.toks}:=by
  refine Dr (λn U=>∃i Z R s,jq X' [(s2.heap.objs.size,Bb R)] (pull ix σ) s U/\jZ Z R/\Z.length<=sizeLine/\tn i U.heap/\(∀b∈fp,s b=none)/\W i n Z s) ?_ m0
   ⟨0,[],[],H2,I',.nil,bN _,T.keep _ _ _ st2 λb _ o e=>old b o e,λb h=>(f2 b h).1,w0⟩
  rintro n s3 ⟨i,Z,R,H3,I3,rv,hz,st3,fr3,w3⟩;have hcX:X'.calm=true:=a▸hc;have hA:X'.A=X.A:=a▸rfl;rcases turn i n Z H3 w3 with⟨stop,qn⟩|⟨go,nM,step⟩
  .have hd:=T.done X' (a▸rfl) (a▸rfl) (a▸rfl) hcX i _ s3 _ H3 (λ_ _=>False) I3 (stat fr3) st3 stop;rw[hA]at hd;refine lV hd λr s4 z0=>?_;obtain⟨hr,I4⟩:=z0;subst hr;subst a;obtain⟨m,hn,_⟩:=I4.loc;have hD3:=I4.pin (s2.heap.objs.size,Bb R) (bG _ bj);have u1:Un (JS X.stack) fp H2 H3 s2.heap s4.heap:=by
    have B:=I4.base;have nD:∀b o,s2.heap.get? b=some o->b∉fp->b∉s2.heap.objs.size::fp:=λb o e h z=>by
     rcases aF.mp z with q|q
     .exact absurd (aL e) (by rw[q];exact a9 _)
     .exact h q
    exact⟨λb o e n h hx=>B.keep b o (ae _ e) n h (nD b o e hx),λb o e n h hx=>B.slot b o (ae _ e) n h (nD b o e hx),
     λb o e n hx=>B.free b o (ae _ e) n (nD b o e hx),λb o e hx=>B.there b o (ae _ e) (nD b o e hx),B.tups,B.frzs,B.tbls⟩
   have I5:=l.call' I4.os u1 I4.hok I4.bare λb h=>let ⟨_,f1,_,f3,f4,f5⟩:=f2 b h;⟨f3,f1,f4,f5⟩;have I6:jq X iO σ (kU H3 s2.heap.objs.size (.lst Z)) s4:=I5.track hD3.2.1 (.inr l.sz) (Ne.symm (aM l.lt)) (λx c e z=>absurd (cellLt x c e) (by rw[z];exact a9 _))
    (λp f=>aM (F p f)) ⟨hz,R,R.length,rv,hD3.1⟩
   refine fin _ _ m _ s4 hn ⟨?_,?_,?_,.inr (cK l.sz),λx c e z=>?_,λp f=>?_⟩ I6 (qn _ hD3.2.1)
   .rw[ja (Ne.symm DC)];exact I4.free
   .exact Ne.symm (aM (cH l.lt))
   .exact l.nofs (bL _)
   .exact absurd (cellLt x c e) (by rw[z];exact Nat.not_lt.mpr (bL _))
   .exact aM (cH (F p f))
  .have hd:=T.item X' (a▸rfl) (a▸rfl) (a▸rfl) hcX i _ s3 _ H3 (λ_ _=>False) I3 (stat fr3) st3 go;rw[hA]at hd;refine lV hd λr s4 z0=>?_;obtain⟨u,hr,h4⟩:=z0;subst hr;refine lV h4 λ_ s5 z0=>?_;obtain⟨x,H5,I5,r5,y5,st5,fr5⟩:=z0;have I5':=I5.pinned (stat fr5) (T.obj _ _ st5);have hM:model X'.prog X'.w=model X.prog X.w:=a▸rfl;have hE:X'.xe=λ_ _=>False:=a▸rfl;have a6:=hg _ s5 _ H5 x u _ I5' r5 (hgk x _ H5 _ (step x H5 y5));rw[hM,hA,hE]at a6;refine lV a6 λ_ s6 z0=>?_;obtain⟨σ6,H6,I6,agr,q6⟩:=z0;have a7:=hif _ s6 σ6 H6 _ I6 q6;rw[hM,hA,hE]at a7;refine lV a7 λok s7 z0=>?_;obtain⟨H7,I7,q7⟩:=z0;have back:∀{U:Shared} {s:Hp} {pl:List (Addr×Obj)},jq X' pl σ6 s U->jq X' pl (pull ix σ) s U:=λ{U s pl} I=>by
    refine I.weak ?_ λk v e=>?_
    .have e1:=I.len;have e2:=I3.len;rw[e1,e2]
    .obtain⟨j,ej,_⟩:=DQ e;rw[agr k j ej];exact e
   have held:∀{U:Shared} {s:Hp},jq X' ([(s2.heap.objs.size,Bb R)]++Au fp s5.heap) σ6 s U->tn (i+1) U.heap/\∀b∈fp,s b=none:=λ{U s} I=>by refine⟨T.keep _ _ _ st5 λb h o e=>(I.pin (b,o) (bG _ (bG _ (sO h e)))).1,λb h=>?_⟩;obtain⟨o,e,_⟩:=T.obj _ _ st5 b h;exact (I.pin (b,o) (bG _ (bG _ (sO h e)))).2.1
   cases ok with
   |false=>rw[aR aH]at q7 ⊢;obtain⟨m',hm,w7⟩:=q7;obtain⟨k1,k2⟩:=held I7;exact⟨m',hm,i+1,Z,R,H7,(back I7).unpinned,rv,hz,k1,k2,w7⟩
   |true=>
    rw[aQ rfl]at q7 ⊢;have a8:=he _ s7 σ6 H7 _ I7 q7;rw[hM,hA,hE]at a8;refine lV a8 λy s8 z0=>?_;obtain⟨yv,H8,I8,r8,m',hm,w8⟩:=z0;obtain⟨k1,k2⟩:=held I8;have hD8:=I8.pin (s2.heap.objs.size,Bb R) (bG _ (ax _ bj));have hl:=rv.length;refine append_at hD8.1 λh9 sb hD9=>?_;have I9:jq X' [] (pull ix σ) H8 s8:=(back I8).pins_of λp f=>by simp at f
    have I10:=I9.turned (t':=s8.toks) (λb o h e=>sb.extBut b o h e) hD8.2.1 hD8.2.2.1 (.inl (a▸bj))
     (λx c e z=>by
      subst a;rcases Y x c e with q|⟨q,_⟩
      .exact absurd (cellLt x c q) (by rw[z];exact a9 _)
      .rw[z]at q;lia) (λp f z=>by
      subst a;rcases ai.mp f with f|f
      .exact absurd (F p f) (by rw[z];exact a9 _)
      .simp at f)
    have e9:h9.get? s2.heap.objs.size=some (Bb (R++[y])):=by rw[hD9];simp
    refine⟨m',hm,i+1,Z++[yv],R++[y],H8,I10.pins_of λp f=>?_,rv.append (.cons r8 .nil),by rw[aT,cw];omega,?_,k2,w8⟩
    .have e:p=(s2.heap.objs.size,Bb (R++[y])):=by simpa using f
     subst e;exact⟨e9,hD8.2.1,hD8.2.2.1,hD8.2.2.2.1,λv z=>by cases z⟩
    .exact T.keep _ _ _ k1 λb h o e=>sb.extBut b o (aM (hlt b h)) e
 have loop':=loop;subst a;exact codeAny_compStart_list loop (T.self X.A 0 _ _ _ (T.keep _ _ _ st2 λb _ o e=>old b o e) loop')
def VE(P:X.calm=true)(B:PI X tg iter wi)(L:Fd X scope N ix)(i:sR ix g)
  (j:∀C a H k d,PG (qB X N scope C a H k d) tg g/\Jr (qB X N scope C a H k d) ifs tt/\PE (qB X N scope C a H k d) elt te)
  (U:∀x,foldedSetIterable iter X.env x=pure x:=by intro _;rfl):PE X (.ListComp elt [⟨tg,iter,ifs,0⟩] scope pos) (Lf ix wi g tt te):=by
 intro y s z H Q I h;rw[eval_ListComp];refine wpAny_comprehension_free rfl U (vb L.fre) L.kind L.names (lV (B y s z H _ I h) λv s1 u=>lV u λR s2 r=>?_);obtain⟨it,fp,Z,J,H2,e,K,T,l,p,W,⟨m0,S⟩,c⟩:=r;subst e;refine Ia P L i j K T l p S c λD C m F s' A f w q=>?_;refine⟨m,A,λY E=>⟨.ref D,F,w.turned (λb o n e=>E.extBut b o n e) f.1 f.2.1 f.2.2.2.1 f.2.2.2.2.1 f.2.2.2.2.2,rfl,q⟩⟩
end
end L2
namespace L2
open PySem PySem.Spec PyProof.Rows
structure iX(K:W.Frag)(mg:Str->Option Value)(x:Str)(st:Stmt):Prop where
 ex:∃f fd,Of K x x st f fd/\mg x=some (.ref f)
def To{K:W.Frag}{st:Stmt}{kV d g b e:Value}(X:K.In h)(G:h.Ns mainGlobals mg)
  (a:W.nsIn K mainGlobals x=some (some (.ref f)))
  (l:K.lookup f=some ⟨oc,od,.func (W.fnOf x x (l3 st) (kg st) (i9 st) .none kV d g an b e),osl⟩)
  (c:W.codeIn K b x=true) (k:W.keepIn K (.ref f)=true):iX K mg x st:=⟨f,_,GB l c k,W.mg_of X G a⟩
structure oX(P:Program)(w:World)(K:W.Frag)(mg:Str->Option Value)(base:Heap)(x:Str)(k:Nat)(sp:Sp):Prop where
 ex:∃f fd ps,qP P w K mg base A2 k f fd ps sp/\mg x=some (.ref f)/\W.keepIn K (.ref f)=true/\ug K fd ps []
def oX.mono{K:W.Frag}(h:oX P w K mg base x j sp)(e:j<=k):oX P w K mg base x k sp:=by obtain⟨f,d,g,F,a,b,c⟩:=h.ex;exact⟨f,d,g,F.mono e,a,b,c⟩
def CD{K:W.Frag}{st:Stmt}(D:iX K mg x st)(S:lO N ps (i9 st))
  (g:∀(kV d j:Value) (l:Option Addr) (a i:Value) (us:List Value),us.length=ps.length->bindArgs (W.fnOf x x (l3 st) (kg st) (i9 st) .none kV d j l a i) ⟨us,[]⟩=pure (ps.zip us))
  (e:∀vs H Q E,sp vs H Q E->vs.length=ps.length)
  (c:∀f a A b s H vs Q E,lB k (A.deeper (envOfC x (i9 st) s.heap.objs.size f a))->sp vs H Q E->
   ∃t,EO (ur A2 P w K mg base N x (i9 st) f a A b s H E).nox (kg st) t/\t {nx:=λ_ h=>Q .non h,rt:=Q} (pP N vs) H):oX P w K mg base x (k+1) sp:=by
 obtain⟨f,n,F,m⟩:=D.ex;exact⟨f,n,ps,F.ok S e (c f),m,F.kp,F.binds g⟩
section
variable {X:Cx}{x:Str}{k:Nat}{sp:Sp}{e:Expr}{es:List Expr}{t:TA}{p pos:Pos}
def Em(h:oX X.prog X.w X.K X.mg X.base x k sp)(hr:lB k X.A)(j:PA X (e::es) t)(i:Gl X x:=by rfl)
  (g:(x==("__debug__" : Str))=false:=by decide) (l:starEach (e::es) X.env=(false,eval e X.env)::starEach es X.env:=by rfl) (d:(backTo pos (starEach es X.env)).any (·.1)=false:=by rfl) :
  PE X (.Call (.Name x p) (e::es) [] pos) (B5 sp [] E0 t):=by
 obtain⟨f,m,n,F,a,b,c⟩:=h.ex;exact Pv F hr i a b c .nil MZ j g l d
end
def PR:sD X (binaryOp .Mult) (rI (λi j=>PySem.IntMulOk i j) λi j=>.int (i*j)):=Wz λ_ _ _ _ _ _ _ a q=>mul_int q a
def Mv:sD X (binaryOp .FloorDiv) (rI (λ_ j=>j≠0) λi j=>.int (i.fdiv j)):=λ_ s d H _ _ _ _ _ I c a h=>by obtain⟨i,j,rfl,rfl,b,q⟩:=h;obtain⟨t,rfl⟩:=c;obtain⟨e,rfl⟩:=a;exact floordiv_int b ⟨.int (i.fdiv j),H,I.tok _,⟨_,rfl⟩,q⟩ (.inr I.py)
end L2
namespace L2
open PySem PySem.Spec PyProof.Rows PySem.W
mutual
inductive DV(K:Frag)(H:Hp):V->PyData->Prop
 |non:DV K H .non .none
 |bl (b:Bool):DV K H (.bl b) (.bool b)
 |int (i:Int):DV K H (.int i) (.int i)
 |str (x:Str):DV K H (.str x) (.str x)
 |lst {a:Addr} {xs:List V} {ds:List PyData} (h:nh K H a xs) (hs:T3 K H xs ds):DV K H (.ref a) (.list ds)
 |tup {a:Addr} {xs:List V} {ds:List PyData} (h:pX K H a xs) (hs:T3 K H xs ds):DV K H (.ref a) (.tuple ds)
inductive T3(K:Frag)(H:Hp):List V->List PyData->Prop
 |nil:T3 K H [] []
 |cons {v:V} {d:PyData} {vs:List V} {ds:List PyData} (h:DV K H v d) (hs:T3 K H vs ds):T3 K H (v::vs) (d::ds)
end
section
variable {X:Cx}{iO:List (Addr×Obj)}{σ:St}{H:Hp}{s:Shared}
def DV.reads(I:jq X iO σ H s){v d u}(h:DV X.K H v d):kr v u->∃as,Reads s.heap u d as:=
 DV.rec (motive_1:=λv d _=>∀u,kr v u->∃as,Reads s.heap u d as) (motive_2:=λq p _=>∀c,jZ q c->∃as,ReadsAll s.heap c p as) (λu r=>by cases r;exact⟨_,.none⟩) (λb u r=>by cases r;exact⟨_,.bool b⟩) (λi u r=>by obtain⟨t,rfl⟩:=r;exact⟨_,.int i t⟩) (λx u r=>by obtain⟨t,rfl⟩:=r;exact⟨_,.str x t⟩)
  (λh _ l u r=>by cases r;obtain⟨f,g,⟨o,n,e,k,w,m⟩,_⟩:=I.list h;obtain⟨as,a⟩:=l _ g;exact⟨_,.list e k m (by simpa using a)⟩)
  (λh _ l u r=>by cases r;obtain⟨f,g,⟨o,e,k,n,m⟩,_⟩:=I.tuple h;obtain⟨as,a⟩:=l _ g;exact⟨_,.tuple e k m (by simpa using a)⟩)
  (λc r=>by cases r;exact⟨_,.nil⟩)
  (λ_ _ i j c r=>by
   cases r with
   |cons r1 r2=>obtain⟨as,a⟩:=i _ r1;obtain⟨bs,rb⟩:=j _ r2;exact⟨_,.cons a rb⟩) h u
def GH(K:Frag)(neg:Bool):R2:=λx y H Q=>∃a b,DV K H x a/\DV K H y b/\(a.canLay0=true/\b.canLay0=true/\a.depth<=100)/\Q (.bl (if neg then !PyData.eqv a b else PyData.eqv a b)) H
def Nq(j:X.A.units+200<cLine):sD X (compareOp .Eq) (GH X.K false):=by intro iO s σ H x y v u Q I f b h;obtain⟨k,l,e,d,⟨c,g,i⟩,q⟩:=h;obtain⟨as,a⟩:=e.reads I f;obtain⟨bs,rb⟩:=d.reads I b;exact SeqAt.eqOverData _ _ _ _ _ _ _ _ _ _ _ _ a rb c g (by lia) ⟨.bl _,H,I,rfl,q⟩
def NU(j:X.A.units+200<cLine):sD X (compareOp .NotEq) (GH X.K true):=by intro iO s σ H x y v u Q I f b h;obtain⟨k,l,e,d,⟨c,g,i⟩,q⟩:=h;obtain⟨as,a⟩:=e.reads I f;obtain⟨bs,rb⟩:=d.reads I b;exact SeqAt.neOverData _ _ _ _ _ _ _ _ _ _ _ _ a rb c g (by lia) ⟨.bl _,H,I,rfl,q⟩
def Wh(hr:lB k A):A.units+200<cLine:=by have:=hr.un;lia
end
end L2
namespace L2
open PySem PySem.Spec PyProof.Rows
theorem EJ:∀{bs:List Bool} {us:List Value},jZ (bs.map V.bl) us->us=bs.map Value.bool
 |[],_,.nil=>rfl
 |b::bs,u::us,.cons r t=>by have e:=r;rw[e,EJ t];rfl
theorem sG:∀{ns} {us},jZ (ns.map V.int) us->IntsAre us ns
 |[],_,.nil=>.nil
 |n::ns,u::us,.cons r t=>by obtain⟨a,e⟩:=(r);rw[e];exact .cons n a (sG t)
def JE{bs:List Bool}:(List.range bs.length).all (λi=>bs.getD i false)=bs.all id:=by
 induction bs with
 |nil=>rfl
 |cons b bs ih=>rw[ay,cL,b9,cN,b9,<-ih];rfl
def BX{bs:List Bool}:(List.range bs.length).any (λi=>bs.getD i false)=bs.any id:=by
 induction bs with
 |nil=>rfl
 |cons b bs ih=>rw[ay,cL,cf,cO,cf,<-ih];rfl
section
variable {X:Cx}
def IS{bs:List Bool}:TruthOf prog w A (λi v=>(bs.map Value.bool).toArray[i]? = some v) (λi=>bs.getD i false):=λi v s Q E d a=>by
 have e:(bs.map Value.bool)[i]? = some v:=by simpa using d
 rw[av]at e;cases c:bs[i]? with
 |none=>rw[c]at e;cases e
 |some b=>
  rw[c]at e;cases e;have:bs.getD i false=b:=by rw[af,c];rfl
  dsimp only at a;rw[this]at a;exact ak a
def Ng(l:X.calm=true):l6 X (.builtin "all") (λd H Q=>∃(p:Addr) (bs:List Bool),d=[.ref p]/\nh X.K H p (bs.map V.bl)/\Q (.bl (bs.all id)) H):=by
 intro w s x H d y Q I r h;obtain⟨p,bs,rfl,f,q⟩:=h;obtain⟨u,rfl,k⟩:=qL r;cases k;obtain⟨g,n,c,B⟩:=I.list f;have e:=EJ n;subst e;have a:p<s.heap.objs.size:=by obtain⟨_,e,_⟩:=c.isList;exact aL e
 refine call_all_walk (wpAny_pyIter_list c.isList ⟨s.heap.objs.size,_,_,_,_,_,λi=>bs.getD i false,rfl,Walks.list (A:=X.A.in1) (I.ok.hd l) _ p (aM a) _,⟨⟨_,ar _ rfl,rfl,rfl⟩,c.isList.push _⟩,IS,λv C m=>?_⟩);refine⟨.bl _,H,I.kept (λb o e=>m b o ?_ (ae _ e)),rfl,?_⟩
 .intro j;have:=aL e;have z:b=s.heap.objs.size:=by simpa using j
  rw[z]at this;exact a9 _ this
 .rw[<-JE]at q;simpa using q
def Kq(l:X.calm=true):l6 X (.builtin "sum") (λc H Q=>∃(p:Addr) (b:LI),c=[.ref p]/\nh X.K H p (b.map V.int)/\Q (.int b.sum) H):=by intro v s w H c x Q I r h;obtain⟨p,b,rfl,g,q⟩:=h;obtain⟨u,rfl,k⟩:=qL r;cases k;obtain⟨a,n,j,y⟩:=I.list g;have f:=sG n;obtain⟨c,e⟩:=f.allInts.items;have d:=j.isList;rw[e]at d;refine sum_intListG (I.ok.hd l) d λo z i m=>⟨.int b.sum,H,I.kept m,⟨i,?_⟩,q⟩;rw[preSum_eq,cP (by simp),<-nums_intItems,<-e,show a.toArray.toList=a from rfl,f.numsOf]
def qT:bootBuiltins "all" = some (.builtin "all"):=by decide +kernel
def vD:bootBuiltins "any" = some (.builtin "any"):=by decide +kernel
def L4:bootBuiltins "sum" = some (.builtin "sum"):=by decide +kernel
end
end L2
namespace L2
open PySem PySem.Spec PyProof.Rows
def lD(b:Bool)(h:Heap)(l:Addr)(a:Array Value):Prop:=if b=true then h.IsTuple l a else h.IsList l a
def nK(b:Bool)(h:Heap)(it l:Addr)(k:Nat):Prop:=if b=true then h.IsTupleIter it l k else h.IsListIter it l k
noncomputable def zY(b:Bool):String:=if b=true then "tuple_iterator" else "list_iterator"
def nK.look(x:nK b h it l k):∃o,h.get? it=some o/\o.cls=.type (zY b)/\o.data=.fields #[.ref l,.int k 0]:=by
 cases b with
 |true=>exact (x)
 |false=>exact (x)
def nK.of{k:Nat}(x:∃o,h.get? it=some o/\o.cls=.type (zY b)/\o.data=.fields #[.ref l,.int k 0]):nK b h it l k:=by
 cases b with
 |true=>exact x
 |false=>exact x
def nK.to(x:nK b h it l k)(e:∀o,h.get? it=some o->h'.get? it=some o):nK b h' it l k:=by obtain⟨o,a,q⟩:=x.look;exact .of ⟨o,e o a,q⟩
def lD.look(x:lD b h l xs):∃o n,h.get? l=some o/\o.data=.seq xs n:=by
 cases b with
 |true=>obtain⟨o,c,_,n,a⟩:=(x);exact⟨o,n,c,a⟩
 |false=>obtain⟨o,c,_,n,a⟩:=(x);exact⟨o,n,c,a⟩
def lD.to(x:lD b h l xs)(e:∀o,h.get? l=some o->h'.get? l=some o):lD b h' l xs:=by
 cases b with
 |true=>obtain⟨o,a,q⟩:=(x);exact⟨o,e o a,q⟩
 |false=>obtain⟨o,a,q⟩:=(x);exact⟨o,e o a,q⟩
section
variable {prog:Program}{w:World}{A:Around}{E:Value->Shared->Prop}{s:Shared}
theorem P3(g:s.heap.IsTupleIter it l k)(m:s.heap.IsTuple l xs)
  (h:∀x a,xs[k]? = some x->a.IsTupleIter it l (k+1)->Heap.SameBut it s.heap a->Q x {s with heap:=a})
  (f:xs[k]? = none->A.handled=none/\∀a e,Heap.ExtBut it s.heap a->(∃o,a.get? e=some o/\o.cls=.type "StopIteration")->E (.ref e) {s with heap:=a}) :
  wpAny (model prog w) A (Builtin.SmallTypes.nextOf (.ref it)) Q E s:=by
 obtain⟨u,c,q,b⟩:=id g;obtain⟨r,j,_,n,i⟩:=m;unfold Builtin.SmallTypes.nextOf;refine ao (wpAny_callSpecial?_slot g.typeIs F.slot_tuple_iterator_next (wpAny_call_entry F.slot_tuple_iterator_next g.typeIs F.entry_tuple_iterator_next ?_ (F.args_tuple_iterator_next_1 _)));show wpAny _ _ (field (.ref it) 0 >>= _) _ _ s;refine ao (wpAny_field c b rfl ?_);have ne:(Value.ref l==Value.none)=false:=rfl;simp only[ne,cE,if_false];refine ao (wpAny_field c b rfl (ao (wpAny_seqItems j i ?_)));cases d:xs[k]? with
 |some x=>simp only[bV,d];refine ao (wpAny_setField c b (by simp) (ak ⟨x,rfl,ak (h x _ d ?_ (Heap.SameBut.update ..))⟩));refine⟨_,Heap.get?_update_self _ c (Obj.isFreed_of_fields (Obj.data_mapFields b _)),(Obj.cls_mapFields ..).trans q,?_⟩;rw[Obj.data_mapFields b];simp[rawInt]
 |none=>obtain⟨p,f⟩:=f d;simp only[bV,d];refine ao (wpAny_rule (ao (wpAny_setField c b (by simp) ?_)));show wpAny _ _ (newExc (.type "StopIteration") [] >>= _) _ _ _;simp only[newExc,newTuple];refine ao (ao (wpAny_newObj_type (ao (wpAny_of_eq (by first|rfl|(simp only[firstArgMember];rfl)) (wpAny_newObj_type ?_ (by size_fits)))) (by size_fits)));simp only[raiseNew];refine ao (wpAny_handled ?_);rw[show A.in1.handled=none from p];refine ao (ak (wpAny_throw ?_));exact f _ _ (((Heap.SameBut.update ..).extBut.push _).push _) ⟨_,ar _ rfl,rfl⟩
theorem v7(i:nK b s.heap it l k)(m:lD b s.heap l xs)
  (j:∀x c,xs[k]? = some x->nK b c it l (k+1)->Heap.SameBut it s.heap c->Q x {s with heap:=c})
  (g:xs[k]? = none->A.handled=none/\∀c e,Heap.ExtBut it s.heap c->(∃o,c.get? e=some o/\o.cls=.type "StopIteration")->E (.ref e) {s with heap:=c}) :
  wpAny (model prog w) A (Builtin.SmallTypes.nextOf (.ref it)) Q E s:=by
 cases b with
 |true=>exact P3 i m j g
 |false=>
  have d:=i;have f:=m;cases h:xs[k]? with
  |some x=>exact wpAny_nextOf_list_item d f h λc a b=>j x c h a b
  |none=>obtain⟨n,g⟩:=g h;exact wpAny_nextOf_list_end n d f h g
def KQ{z TI TO n I S R:Addr}{Q:Value->Shared->Prop}(D:ZipApart z TI TO n I S R)
  (N:IsZip s.heap z TI TO .none) (hTI:IsPair s.heap TI (.ref n) (.ref I)) (hTO:IsPair s.heap TO a b)
  (h1:nK b1 s.heap n S k) (h2:nK b2 s.heap I R k) (hl1:lD b1 s.heap S xs) (Z:lD b2 s.heap R ys)
  (yes:∀x y g,xs[k]? = some x->ys[k]? = some y->IsZip g z TI TO (rawInt s.heap.objs.size)->IsPair g TO x y->nK b1 g n S (k+1)->nK b2 g I R (k+1)->IsPair g s.heap.objs.size x y->g.objs.size=s.heap.objs.size+1->
   (∀c o,c≠z->c≠TO->c≠n->c≠I->s.heap.get? c=some o->g.get? c=some o)->Q (.ref s.heap.objs.size) {s with heap:=g})
  (X:xs[k]? = none\/ys[k]? = none->A.handled=none/\∀g e,(∀c o,c≠z->c≠TO->c≠n->c≠I->s.heap.get? c=some o->g.get? c=some o)->(∃o,g.get? e=some o/\o.cls=.type "StopIteration")->E (.ref e) {s with heap:=g}) :
  wpAny (model prog w) A (Builtin.«zip.__next__» ⟨[.ref z],[]⟩) (λfin s'=>∃v,fin=.done (.ret v)/\Q v s') E s:=by
 have p:∀{h:Heap} {e:Addr} {J:Obj} {f:Value},IsZip h z TI TO f->h.get? e=some J->J.cls=.type "StopIteration" ->e≠z:=λ{h e J f} q ge ce u=>by subst u;rw[q]at ge;cases ge;simp at ce
 show wpAny _ _ (field (.ref z) 2 >>= λ_=>_) _ _ _;refine ao (wpAny_field N rfl rfl ?_);refine ao (wpAny_field N rfl rfl (ao (wpAny_seqItems hTI rfl ?_)));unfold Builtin.SmallTypes.ownedTupleIsFree;refine ao (ao (wpAny_field N rfl rfl (ak ?_)));simp only[if_true];refine ao (wpAny_rule (ao (wpAny_field N rfl rfl (ao (wpAny_setField_rec N (by simp) λg1 y1 K=>?_)))));have z1:=y1;simp only[List.zipIdx_cons,List.zipIdx_nil,List.forIn_cons,List.forIn_nil];refine ao (ao (ao (wpAny_onRaise ?_)));refine ao (v7 (h1.to λo e=>K.extBut _ _ D.i1z e) (hl1.to λo e=>K.extBut _ _ D.l1z e) (λx g2 Y t2 C=>ak ?_) (λY=>⟨(X (.inl Y)).1,λg2 e C ⟨J,ge,ce⟩=>?_⟩))
 .have p2:=C.extBut _ _ D.TOi1 (K.extBut _ _ D.TOz hTO);refine ao (wpAny_seqItems p2 rfl (ao (wpAny_updateSeq_pair p2 λg3 q3 H=>?_)));have p3:=q3;refine ao (wpAny_letGo (ak (ao (ao (wpAny_onRaise ?_)))));have l:∀c o,c≠z->c≠n->c≠TO->s.heap.get? c=some o->g3.get? c=some o:=λc o d j i e=>H.extBut _ _ i (C.extBut _ _ j (K.extBut _ _ d e));refine ao (v7 (h2.to λo e=>l _ o D.i2z D.i12.symm D.TOi2.symm e) (Z.to λo e=>l _ o D.l2z D.l2i1 D.l2TO e) (λy g4 P t4 B=>ak ?_) (λP=>⟨(X (.inr P)).1,λg4 e B ⟨J,ge,ce⟩=>?_⟩))
  .have p4:=B.extBut _ _ D.TOi2 p3;refine ao (wpAny_seqItems p4 rfl (ao (wpAny_updateSeq_pair p4 λr q5 F=>?_)));have p5:IsPair r TO x y:=q5;refine ao (wpAny_letGo (ak (ak (ao (wpAny_seqItems p5 rfl (ao (wpAny_newTuple ?_)))))));have sz:r.objs.size=s.heap.objs.size:=by rw[F.1,B.1,H.1,C.1,K.1]
   have z5:=F.extBut _ _ D.TOz.symm (B.extBut _ _ D.i2z.symm (H.extBut _ _ D.TOz.symm (C.extBut _ _ D.i1z.symm z1)));have to5:∀c o,c≠z->c≠TO->c≠n->c≠I->s.heap.get? c=some o->r.get? c=some o:=λc o d j i L e=>F.extBut _ _ j (B.extBut _ _ L (l c o d i j e));unfold Builtin.SmallTypes.ownedTupleHandOut;refine ao (ao (wpAny_setField_rec (ae _ z5) (by simp) λg7 y7 k7=>?_));have z7:=y7;refine wpAny_setField_rec z7 (by simp) λU y8 k8=>?_;have z8:=y8;have up:∀c o,c≠z->(r.push {cls:=.type "tuple",data:=.seq #[x,y]}).get? c=some o->U.get? c=some o:=λc o d e=>k8.extBut _ _ d (k7.extBut _ _ d e);have m:∀c o,c≠z->r.get? c=some o->U.get? c=some o:=λc o d e=>up c o d (ae _ e);have p8:=up _ _ (bC (aL z5)) (ar _ rfl);have s8:U.objs.size=r.objs.size+1:=by rw[k8.1,k7.1,Heap.size_push]
   rw[sz]at z8 p8 s8;refine ak ⟨_,rfl,?_⟩;rw[sz];have e1:=t2.to λo e=>m _ o D.i1z (F.extBut _ _ D.TOi1.symm (B.extBut _ _ D.i12 (H.extBut _ _ D.TOi1.symm e)));have e2:=t4.to λo e=>m _ o D.i2z (F.extBut _ _ D.TOi2.symm e);exact yes x y U Y P z8 (m _ _ D.TOz p5) e1 e2 p8 s8 λc o d j i L e=>m c o d (to5 c o d j i L e)
  .have z4:=B _ _ D.i2z.symm (H.extBut _ _ D.TOz.symm (C.extBut _ _ D.i1z.symm z1));refine wpAny_setField_rec z4 (by simp) λr _ F=>(X (.inr P)).2 r e (λc o d j i L q=>F.extBut _ _ d (B _ _ L (l c o d i j q))) ⟨J,F.extBut _ _ (p z4 ge ce) ge,ce⟩
 .have z2:=C _ _ D.i1z.symm z1;refine wpAny_setField_rec z2 (by simp) λg3 _ H=>(X (.inl Y)).2 g3 e (λc o d j i L q=>H.extBut _ _ d (C _ _ i (K.extBut _ _ d q))) ⟨J,H.extBut _ _ (p z2 ge ce) ge,ce⟩
def DI{z TI TO g f h i:Addr}(D:ZipApart z TI TO g f h i)
  (u:IsZip s.heap z TI TO .none) (p:IsPair s.heap TI (.ref g) (.ref f)) (n:IsPair s.heap TO a b)
  (I:nK b1 s.heap g h k) (B:nK b2 s.heap f i k) (l:lD b1 s.heap h xs) (j:lD b2 s.heap i ys)
  (m:∀x y d,xs[k]? = some x->ys[k]? = some y->IsZip d z TI TO (rawInt s.heap.objs.size)->IsPair d TO x y->nK b1 d g h (k+1)->nK b2 d f i (k+1)->IsPair d s.heap.objs.size x y->d.objs.size=s.heap.objs.size+1->
   (∀c o,c≠z->c≠TO->c≠g->c≠f->s.heap.get? c=some o->d.get? c=some o)->Q (some (.ref s.heap.objs.size)) {s with heap:=d})
  (r:xs[k]? = none\/ys[k]? = none->A.handled=none/\∀d,(∀c o,c≠z->c≠TO->c≠g->c≠f->s.heap.get? c=some o->d.get? c=some o)->Q none {s with heap:=d}) :
  wpAny (model prog w) A (pyNext (.ref z)) Q E s:=by
 have ty:s.TypeIs (.ref z) "zip" :=⟨_,u,rfl⟩;unfold pyNext;refine ao (wpAny_attempt (wpAny_callSpecial?_slot ty F.slot_zip_next (wpAny_call_entry F.slot_zip_next ty F.entry_zip_next
  (KQ D u p n I B l j (λx y d P L J C R v K H N=>ak (m x y d P L J C R v K H N)) λq=>⟨(r q).1,λd e hk ⟨o,ho,hc⟩=>?_⟩) (F.args_zip_next_1 _))))
 exact ao (wpAny_isInstance ⟨o,ho,hc⟩ isSubtype_stop (ak ((r q).2 d hk)))
theorem rT(a:lD b s.heap l xs)
  (h:Q (.ref s.heap.objs.size) {s with heap:=s.heap.push {cls:=.type (zY b),data:=.fields #[.ref l,.int 0 0]}}):wpAny (model prog w) A (pyIter (.ref l)) Q E s:=by
 cases b with
 |true=>exact wpAny_pyIter_tuple (a) h
 |false=>exact wpAny_pyIter_list (a) h
end
noncomputable abbrev zo(b:Bool)(l:Addr):Obj:={cls:=.type (zY b),data:=.fields #[.ref l,.int 0 0]}
abbrev zt(x y:Value):Obj:={cls:=.type "tuple",data:=.seq #[x,y]}
abbrev zz(p q:Addr):Obj:={cls:=.type "zip",data:=.fields #[.none,.bool false,.bool false,.ref p,.ref q]}
noncomputable abbrev CS(b1 b2:Bool)(h:Heap)(l1 l2:Addr):Heap:=
 ((((h.push (zo b1 l1)).push (zo b2 l2)).push (zt (.ref h.objs.size) (.ref (h.push (zo b1 l1)).objs.size))).push (zt .none .none)).push
  (zz ((h.push (zo b1 l1)).push (zo b2 l2)).objs.size (((h.push (zo b1 l1)).push (zo b2 l2)).push (zt (.ref h.objs.size) (.ref (h.push (zo b1 l1)).objs.size))).objs.size)
section
variable {prog:Program}{w:World}{A:Around}{E:Value->Shared->Prop}{s:Shared}
def JP b1 b2 l1 l2 xs ys:Meets (Builtin.«zip.__new__» ⟨[.type "zip",.ref l1,.ref l2],[]⟩) (λ_ R s=>lD b1 s.heap l1 xs/\lD b2 s.heap l2 ys/\
  R (.ok (.ret (.ref ((((s.heap.push (zo b1 l1)).push (zo b2 l2)).push (zt (.ref s.heap.objs.size) (.ref (s.heap.push (zo b1 l1)).objs.size))).push (zt .none .none)).objs.size))) {s with heap:=CS b1 b2 s.heap l1 l2}):=by
 refine .of_wp λprog w A R s h=>?_;obtain⟨f,g,d,l,a⟩:=s;obtain⟨j,c,b⟩:=h;have sz:=sub_zip;have i:=j;have k:lD b2 (Shared.heap ⟨f.push (zo b1 l1),g,d,l,a⟩) l2 ys:=c.to λo e=>ae _ e;wp_walk using rT i,rT k;exact⟨_,rfl,b⟩
def Nf(j:lD b1 s.heap l1 xs)(g:lD b2 s.heap l2 ys)
  (h:∀b,IsZip b (s.heap.objs.size+4) (s.heap.objs.size+2) (s.heap.objs.size+3) .none->IsPair b (s.heap.objs.size+2) (.ref s.heap.objs.size) (.ref (s.heap.objs.size+1))->IsPair b (s.heap.objs.size+3) .none .none->
   nK b1 b s.heap.objs.size l1 0->nK b2 b (s.heap.objs.size+1) l2 0->b.objs.size=s.heap.objs.size+5->(∀c o,s.heap.get? c=some o->b.get? c=some o)->Q (.ref (s.heap.objs.size+4)) {s with heap:=b}) :
  wpAny (model prog w) A (call (.type "zip") [.ref l1,.ref l2]) Q E s:=by
 refine callType_new F.called_zip (by decide) (F.typeCall_zip_2 _ _) (F.newCall_zip_2 _ _) (λm=>F.args_object_init_3 m _ _) F.entry_zip_new (JP b1 b2 l1 l2 xs ys) ⟨j,g,?_⟩;generalize i:s.heap.objs.size=n at *;have d:(s.heap.push (zo b1 l1)).objs.size=n+1:=by rw[Heap.size_push,i]
 have l:((s.heap.push (zo b1 l1)).push (zo b2 l2)).objs.size=n+2:=by rw[Heap.size_push,d]
 generalize a:(s.heap.push (zo b1 l1)).push (zo b2 l2)=g2 at *;have v:∀c o,s.heap.get? c=some o->g2.get? c=some o:=λc o e=>by rw[<-a];exact ae _ (ae _ e)
 have u:g2.get? n=some (zo b1 l1):=by rw[<-a,<-i];exact ae _ (ar _ rfl)
 have q:g2.get? (n+1)=some (zo b2 l2):=by rw[<-a,<-d];exact ar _ rfl
 have k:(g2.push (zt (.ref n) (.ref (n+1)))).objs.size=n+3:=by rw[Heap.size_push,l]
 have f:((g2.push (zt (.ref n) (.ref (n+1)))).push (zt .none .none)).objs.size=n+4:=by rw[Heap.size_push,k]
 have r:CS b1 b2 s.heap l1 l2=((g2.push (zt (.ref n) (.ref (n+1)))).push (zt .none .none)).push (zz (n+2) (n+3)):=by unfold CS;rw[i,d,a,l,k]
 rw[r,d,f];have y:(g2.push (zt (.ref n) (.ref (n+1)))).get? (n+2)=some (zt (.ref n) (.ref (n+1))):=by rw[<-l];exact ar _ rfl
 have x:((g2.push (zt (.ref n) (.ref (n+1)))).push (zt .none .none)).get? (n+3)=some (zt .none .none):=by rw[<-k];exact ar _ rfl
 have p:(((g2.push (zt (.ref n) (.ref (n+1)))).push (zt .none .none)).push (zz (n+2) (n+3))).get? (n+4)=some (zz (n+2) (n+3)):=by rw[<-f];exact ar _ rfl
 have up:∀c o,g2.get? c=some o->(((g2.push (zt (.ref n) (.ref (n+1)))).push (zt .none .none)).push (zz (n+2) (n+3))).get? c=some o:=λc o e=>ae _ (ae _ (ae _ e));exact⟨⟨_,p,rfl⟩,h _ p (ae _ (ae _ y)) (ae _ x) (.of ⟨_,up _ _ u,rfl,rfl⟩) (.of ⟨_,up _ _ q,rfl,rfl⟩) (by rw[Heap.size_push,f]) λc o e=>up c o (v c o e)⟩
end
end L2
namespace L2
open PySem PySem.Spec PyProof.Rows
def jq.turnedL{ch:List Addr}(I:jq X iO σ H s)(k:∀b o,b∉ch->s.heap.get? b=some o->h'.get? b=some o)(f:∀b∈ch,vN X iO H b) :
  jq X iO σ H {s with heap:=h',toks:=t'}:=by
 have d:∀b u,H b=some u->b∉ch:=λb u e z=>by rw[(f b z).1]at e;cases e
 refine I.step (λb g=>let ⟨_,f1,_,f3,f4,f5⟩:=f b g;⟨f3,f1,f4,f5⟩) (λb o _ _ a e _=>k b o a e) (λb o _ _ a e _=>⟨o.slots,k b o a e⟩) (λ_ _ _ _ n=>n)
  (λb o a e=>⟨o,k b o a e⟩) (λ_ _ e=>e) (λ_ _ _ e=>e) (λb _ p e=>⟨#[],by rw[e];simp⟩) (λm h=>?_) (λb u e=>?_) I.bare
 .obtain⟨o,i,j,l,r⟩:=h;exact⟨o,i,j,k _ o (λz=>(f _ z).2.1 rfl) l,r⟩
 .refine (I.hok b u e).stay (λc v a q=>k c v ?_ q) (λ_ q=>q) λ_ _ q=>q;rcases a with z|z
  .rw[z];exact d b u e
  .exact d c _ z
def yP(K:W.Frag)(H:Hp)(b:Bool)(a:Addr)(c:List V):Prop:=if b=true then pX K H a c else nh K H a c
def jq.seqB(I:jq X iO σ H s)(h:yP X.K H b a xs):∃its:List Value,jZ xs its/\lD b s.heap a its.toArray/\xs.length<=sizeLine:=by
 cases b with
 |true=>obtain⟨its,r,p,z⟩:=I.tuple (h);exact⟨its,r,p,z⟩
 |false=>obtain⟨its,r,p,z⟩:=I.list (h);exact⟨its,r,p.isList,z⟩
def jq.seqB_inj(I:jq X iO σ H s)(h:yP X.K H b a xs)(c:yP X.K H b a ys):xs=ys:=by
 cases b with
 |true=>exact I.tuple_inj h c
 |false=>exact I.list_inj h c
noncomputable def WM(K:W.Frag)(d f:Bool)(e c:Addr):It:=
  ⟨λi H=>∃b a x y,yP K H d e b/\yP K H f c a/\b[i]? = some x/\a[i]? = some y,
   λi H v g=>∃p x y,v=.ref p/\H p=none/\g=kU H p (.tup [x,y])/\(∀b,yP K H d e b->b[i]? = some x)/\∀a,yP K H f c a->a[i]? = some y,
   λi H=>∃b a,yP K H d e b/\yP K H f c a/\(b.length<=i\/a.length<=i)⟩
def Mx{K:W.Frag}{x1}{z TI TO l m l1 l2:Addr}(D:ZipApart z TI TO l m l1 l2) :
  DK P w K (.Tuple elts x1 pos) (WM K b1 b2 l1 l2) [z,TI,TO,l,m] z (λi h=>IsZip h z TI TO .none/\IsPair h TI (.ref l) (.ref m)/\(∃a b,IsPair h TO a b)/\nK b1 h l l1 i/\nK b2 h m l2 i) where
 mem:=by simp
 obj:=λi h p b g=>by
  obtain⟨n,f,⟨a,c,j⟩,A,r⟩:=p;have mem:b=z\/b=TI\/b=TO\/b=l\/b=m:=by simpa using g
  rcases mem with rfl|rfl|rfl|rfl|rfl
  .exact⟨_,n,λv q=>by cases q⟩
  .exact⟨_,f,λv q=>by cases q⟩
  .exact⟨_,j,λv q=>by cases q⟩
  .obtain⟨o,e,_,d⟩:=A.look;exact⟨o,e,λv q=>by rw[d]at q;cases q⟩
  .obtain⟨o,e,_,d⟩:=r.look;exact⟨o,e,λv q=>by rw[d]at q;cases q⟩
 keep:=λi h h' p k=>by obtain⟨n,f,⟨a,c,j⟩,A,r⟩:=p;exact⟨k z (.head _) _ n,k TI (.tail _ (.head _)) _ f,⟨a,c,k TO (.tail _ (.tail _ (.head _))) _ j⟩,A.to λo e=>k l (.tail _ (.tail _ (.tail _ (.head _)))) o e,r.to λo e=>k m (.tail _ (.tail _ (.tail _ (.tail _ (.head _))))) o e⟩
 item:=by
  intro X hP hw hK hc i iO s σ H E I hf p hg;subst hP hw hK;obtain⟨n,f,⟨a,c,j⟩,A,r⟩:=p;obtain⟨xs,ys,x,y,q1,Z,e1,e2⟩:=hg;obtain⟨R,r1,p1,z1⟩:=I.seqB q1;obtain⟨L,r2,p2,z2⟩:=I.seqB Z;obtain⟨u,gu,ru⟩:=r1.get e1;obtain⟨v,gv,rv⟩:=r2.get e2;have F:=I.fpOk (aK _) (I.hok.fresh (aK _));refine DI D n f j A r p1 p2 (λJ S h' B C a1 a2 a3 a4 a5 a6 U=>?_) λq=>?_
  .have eu:J=u:=by
    have:R[i]? = some J:=by simpa using B
    rw[gu]at this;cases this;rfl
   have ev:S=v:=by
    have:L[i]? = some S:=by simpa using C
    rw[gv]at this;cases this;rfl
   subst eu;subst ev;refine⟨_,rfl,wpAny_letOwnedTupleGo_zip a1 λN Y sb=>?_⟩;have zT:=bC (aL n);have I1:=I.turnedL (t':=s.toks) (ch:=[z,TO,l,m]) (λb o g e=>have n1:b≠z:=λq=>g (q▸.head _)
    sb.extBut _ _ n1 (U b o n1 (λq=>g (q▸.tail _ (.head _))) (λq=>g (q▸.tail _ (.tail _ (.head _)))) (λq=>g (q▸.tail _ (.tail _ (.tail _ (.head _))))) e))
    (λb g=>hf b ((aF.mp g).elim (λq=>q▸.head _) λh=>.tail _ (.tail _ h)))
   have gT:=sb.extBut _ _ zT a5;have I2:jq X iO σ (kU H s.heap.objs.size (.tup [x,y])) {s with heap:=N}:=I1.track F.1 F.2.2.2.1 F.2.1 F.2.2.2.2.1 F.2.2.2.2.2
    ⟨by refine (?_:2<=sizeLine);decide,[J,S],.cons ru (.cons rv .nil),⟨_,gT,rfl,_,rfl,rfl⟩⟩
   have lt:∀{b o},s.heap.get? b=some o->kU H s.heap.objs.size (.tup [x,y]) b=H b:=λ{b o} e=>ja (aM (aL e));refine⟨.ref s.heap.objs.size,_,I2,rfl,⟨_,x,y,rfl,F.1,rfl,λxs' h=>by rw[I.seqB_inj h q1];exact e1,λys' h=>by rw[I.seqB_inj h Z];exact e2⟩,?_,λb g=>?_⟩
   .have k2:∀c o,c≠z->h'.get? c=some o->N.get? c=some o:=λc o c1 e=>sb.extBut _ _ c1 e;exact⟨Y,k2 _ _ D.TIz (U _ _ D.TIz D.TITO D.TIi1 D.TIi2 f),⟨_,_,k2 _ _ D.TOz a2⟩,a3.to λo e=>k2 _ o D.i1z e,a4.to λo e=>k2 _ o D.i2z e⟩
   .have mem:b=z\/b=TI\/b=TO\/b=l\/b=m:=by simpa using g
    have Q:=(hf b g).1;obtain⟨o1,g1,_⟩:=A.look;obtain⟨o2,g2,_⟩:=r.look;rcases mem with rfl|rfl|rfl|rfl|rfl
    .rw[lt n];exact Q
    .rw[lt f];exact Q
    .rw[lt j];exact Q
    .rw[lt g1];exact Q
    .rw[lt g2];exact Q
  .exfalso;have m1:R.toArray[i]? = some u:=by simpa using gu
   have m2:L.toArray[i]? = some v:=by simpa using gv
   rcases q with q|q
   .rw[m1]at q;cases q
   .rw[m2]at q;cases q
 done:=by
  intro X hP hw hK hc i iO s σ H E I hf p hg;subst hP hw hK;obtain⟨n,f,⟨a,c,j⟩,A,r⟩:=p;obtain⟨xs,ys,q1,Z,hl⟩:=hg;obtain⟨R,r1,p1,z1⟩:=I.seqB q1;obtain⟨L,r2,p2,z2⟩:=I.seqB Z;have n1:=r1.length;have n2:=r2.length;have fpc:∀b∈[z,TO,l,m],vN X iO H b:=λb g=>hf b (by
   have mem:b=z\/b=TO\/b=l\/b=m:=by simpa using g
   rcases mem with rfl|rfl|rfl|rfl<;>simp)
  refine DI D n f j A r p1 p2 (λJ S h' B C a1 a2 a3 a4 a5 a6 U=>?_) λq=>⟨I.ok.hd hc,λh' U=>⟨rfl,I.turnedL (λb o g e=>U b o (λq=>g (by simp[q])) (λq=>g (by simp[q])) (λq=>g (by simp[q])) (λq=>g (by simp[q])) e) fpc⟩⟩;exfalso;have m1:i<R.length:=by
   have:R[i]? = some J:=by simpa using B
   exact (aa.mp this).1
  have m2:i<L.length:=by
   have:L[i]? = some S:=by simpa using C
   exact (aa.mp this).1
  lia
 self:=λ_ _ _ _ _ p h=>wpAny_pyIter_zip p.1 h
def Tn:bootBuiltins "zip" = some (.type "zip"):=by decide +kernel
section
variable {X:Cx}
def SS(K:W.Frag)(d e:Bool)(j:TA):TI:=λf H R=>j f H λh b=>∃c a,h=[.ref c,.ref a]/\(∃i,yP K b d c i)/\(∃g,yP K b e a g)/\R (WM K d e c a) b
def T1{x1}(hg:Gl X "zip")(F:X.mg "zip" = none)(Y:PA X [a,b] ta)(hs:starEach [a,b] X.env=[(false,eval a X.env),(false,eval b X.env)]:=by rfl)
  (d:starEach [b] X.env=[(false,eval b X.env)]:=by rfl):PI X (.Tuple elts x1 tpos) (.Call (.Name "zip" p) [a,b] [] pos) (SS X.K b1 b2 ta):=by
 intro C s E H R I h;refine Call_ (sT I hg F Tn (PyProof.Rows.callWith_type1 (lV (Y pos C s E H _ I h) λN c z0=>?_) (by rw[hs,d]) (by rw[d];rfl)));obtain⟨vs,Q,f,A,k⟩:=z0;obtain⟨B,U,rfl,⟨xs,k⟩,⟨ys,Z⟩,q⟩:=k;obtain⟨u1,u2,rfl,z,D⟩:=Lq A;cases z;cases D;obtain⟨N,S,u,_⟩:=f.seqB k;obtain⟨ws,L,w,_⟩:=f.seqB Z;have j:B<c.heap.objs.size:=by obtain⟨o,n,e,_⟩:=u.look;exact aL e
 have g:U<c.heap.objs.size:=by obtain⟨o,n,e,_⟩:=w.look;exact aL e
 refine Nf u w λh' v m l P J x hk=>?_;refine wpAny_pyIter_zip v ?_;refine⟨_,_,_,_,Q,rfl,f.kept hk,Mx (zipApart_new j g),⟨v,m,⟨_,_,l⟩,P,J⟩,λb y=>?_,q⟩;have i:b=c.heap.objs.size+4\/b=c.heap.objs.size+2\/b=c.heap.objs.size+3\/b=c.heap.objs.size\/b=c.heap.objs.size+1:=by simpa using y
 have r:c.heap.objs.size<=b:=by rcases i with rfl|rfl|rfl|rfl|rfl<;>lia
 exact f.fpOk r (f.hok.fresh r)
end
end L2
namespace L2
open PySem PySem.Spec PyProof.Rows
def qE(h:H p=none):jI H (kU H p o):=λb u e=>by rw[ja (jO e h)];exact .of e
def jI.seqT{K:W.Frag}(e:jI H H')(h:pX K H a xs):pX K H' a xs:=by
 rcases h with (h|⟨o,h⟩)|h
 .exact .inl (.inl (e _ _ h))
 .exact .inl (.inr ⟨o,e _ _ h⟩)
 .exact .inr h
noncomputable def DF(d:List Str)(b a:Scope)(N:List Str)(c:List (Option Nat)):Bool:=
 a.kind==.function&&a.names.all (λy=>!(y.2==NameKind.cell)||a.names.lookup y.1==some .cell)&&a.names.all (λy=>!(y.2==NameKind.local)||a.names.lookup y.1==some .local) &&
 a.names.all (λy=>!(y.2==NameKind.free)||b.names.lookup y.1==some .cell)&&N.length==c.length &&
 (List.range N.length).all (λi=>match c[i]?,N[i]? with
  |some (some j),some x=>d[j]? == some x&&a.names.lookup x==some .free&&b.names.lookup x==some .cell
  |_,_=>true)
def VH(p:∀x,X.env.scope.names.lookup x=some .cell->∃c,X.env.cells.lookup x=some c)(h:DF X.N X.env.scope scope N ix=true):Fd X scope N ix:=by
 unfold DF at h;simp only[bZ]at h;obtain⟨⟨⟨⟨⟨l,k⟩,r⟩,q⟩,o⟩,n⟩:=h;refine⟨by simpa using l,λy d e=>?_,λy d e=>?_,λy d e=>?_,by simpa using o,λi j x f m=>?_⟩
 .have:=cQ.mp k y d;rw[e]at this;simpa using this
 .have:=cQ.mp r y d;rw[e]at this;simpa using this
 .have:=cQ.mp q y d;rw[e]at this;exact p _ (by simpa using this)
 .have s:=(aa.mp f).1;have:=cQ.mp n i (aS.mpr s);rw[f,m]at this;simp only[bZ,beq_iff_eq]at this;obtain⟨⟨a,b⟩,c⟩:=this;exact⟨a,b,.inr (.inl c),λz=>by have g:X.env.scope.names.lookup x=some .local:=z;rw[c]at g;cases g⟩
def L8(L:Fd X scope N ix):∀x,(qB X N scope C s₃ H ex pn).env.scope.names.lookup x=some .cell->∃c,(qB X N scope C s₃ H ex pn).env.cells.lookup x=some c:=λx b=>by
 refine bR.mp (W.cellsFrom_some _ _ _ ?_);rcases wC (.inl b) with a|a
 .exact .inr (bR.mpr (r9 a (L.fre _ a rfl)))
 .exact .inl a
def AU{K:W.Frag}(w:ix[k]? = some none)(p:ix[l]? = some none):sR ix (JJ K 2 (zM (mx k) (zM (mx l) IU))):=by
 rintro x h H Q ⟨a,u,d,y,m,v,r,f,n,g,b,c,q⟩;refine⟨a,u,d,y,m,v,r,f,n,g,b,c,λi j e=>?_,q⟩;have s:k≠i:=by rintro rfl;rw[w]at e;cases e
 have o:l≠i:=by rintro rfl;rw[p]at e;cases e
 rw[aq o,aq s]
end L2
namespace L2
open PySem PySem.Spec PyProof.Rows
structure oN(K:W.Frag)(C:Addr)(m qual:Str)(st:Stmt):Prop where
 ex:∃f fd,Of K m qual st f fd/\Qn K C m f
structure oV(P:Program)(w:World)(K:W.Frag)(mg:Str->Option Value)(base:Heap)(C:Addr)(m:Str)(k:Nat)(sp:Sp):Prop where
 cl:BQ K C
 ex:∃f fd ps,qP P w K mg base A2 k f fd ps sp/\Qn K C m f/\ug K fd ps []
def Hw{K:W.Frag}{st:Stmt}(i:BQ K C)(D:oN K C m qual st)(S:lO N ps (i9 st))
  (g:∀(kV d l:Value) (n:Option Addr) (a j:Value) (us:List Value),us.length=ps.length->bindArgs (W.fnOf m qual (l3 st) (kg st) (i9 st) .none kV d l n a j) ⟨us,[]⟩=pure (ps.zip us))
  (e:∀vs H Q E,sp vs H Q E->vs.length=ps.length)
  (c:∀f a A b s H vs Q E,lB k (A.deeper (envOfC qual (i9 st) s.heap.objs.size f a))->sp vs H Q E->
   ∃t,EO (ur A2 P w K mg base N qual (i9 st) f a A b s H E).nox (kg st) t/\t {nx:=λ_ h=>Q .non h,rt:=Q} (pP N vs) H):oV P w K mg base C m (k+1) sp:=by
 obtain⟨f,o,F,m⟩:=D.ex;exact⟨i,f,o,ps,F.ok S e (c f),m,F.binds g⟩
structure IV(P:Program)(w:World)(K:W.Frag)(mg:Str->Option Value)(base:Heap)(x:Str)(C:Addr)(k:Nat)(sp:Sp):Prop where
 ex:∃f fd ps,qP P w K mg base A2 k f fd ps sp/\Mk K C f/\ug K fd ps []
 mgx:mg x=some (.ref C)
section
variable {X:Cx}{x m:Str}{C:Addr}{k:Nat}{sp:Sp}{e o:Expr}{es:List Expr}{t:TA}{ta:TE}{p pos apos:Pos}
def V0(h:IV X.prog X.w X.K X.mg X.base x C k sp)(hr:lB (k+1) X.A)(i:PA X (e::es) t)(g:Gl X x:=by rfl)
  (d:(x==("__debug__" : Str))=false:=by decide) (j:starEach (e::es) X.env=(false,eval e X.env)::starEach es X.env:=by rfl) (c:(backTo pos (starEach es X.env)).any (·.1)=false:=by rfl) :
  PE X (.Call (.Name x p) (e::es) [] pos) (Hz C sp [] E0 t):=by
 obtain⟨f,l,n,F,a,b⟩:=h.ex;exact OQ a F hr g h.mgx b .nil MZ i d j c
def MD(h:oV X.prog X.w X.K X.mg X.base C m k sp)(hr:lB k X.A)(d:PE X o ta)
  (c:eval (.Call (.Attribute o m apos) [] [] pos) X.env=(do
   let ov <-eval o X.env
   standAt apos.atName
   let (f,first) <-holding [ov] (getMethod ov m pl)
   callWith pos f first (backTo pos (starEach [] X.env)) (backToKw pos (keywordEach [] X.env))):=by rfl) :
  PE X (.Call (.Attribute o m apos) [] [] pos) (By C m sp [] E0 ta yN):=by
 obtain⟨f,g,i,F,a,b⟩:=h.ex;exact Lz d h.cl a F hr b .nil MZ c
end
end L2
namespace L2
open PySem PySem.Spec PyProof.Rows
def Nh(hN:X.N.Nodup)(hy:X.N[i]? = some y)(hx:Hx X.env.scope y)
  (hc:X.calm=true) (hi:PI X tg iter wi) (L:Fd X scope N ix) (l:sR ix g)
  (n:∀C c H r j,PG (qB X N scope C c H r j) tg g/\Jr (qB X N scope C c H r j) ifs tt/\PE (qB X N scope C c H r j) elt te)
  (hf:X.fn y=true\/X.env.scope.names.lookup y=some .local:=by first|exact .inl rfl|exact .inr rfl)
  (p:swapsWith (.ListComp elt [⟨tg,iter,ifs,0⟩] scope pos) (some (.Name y py)) spos.line X.env=pure true:=by rfl)
  (hs:∀x,foldedSetIterable iter X.env x=pure x:=by intro _;rfl):PS X (.Assign [.Name y py] (.ListComp elt [⟨tg,iter,ifs,0⟩] scope pos) spos) (q8 (Lf ix wi g tt te) (mx i)):=by
 intro S s B H D I h;rw[exec_Assign_Name_used _ _ _ _ p];refine ao (wpAny_standAt (ao ?_));rw[arm_evalThenUse_ListComp];refine ao (lV (wpAny_comprehension_free rfl hs (vb L.fre) L.kind L.names (lV (hi S s B H _ I h) λv s1 P=>lV P λitv s2 K=>?_)) λ_ s' q=>ak (ak q));obtain⟨it,fp,tn,J,H2,e,I2,T,A,F,W,⟨m0,w0⟩,d⟩:=K;subst e;refine Ia (Q:=λx Y=>mx i x B Y D.nx) hc L l n I2 T A F w0 d λE0 C m H' s' U f R q=>?_;refine wpAny_assign_Name (B4 (v:=.ref E0) R hN hy hx rfl (λs3 Z k=>?_) hf);obtain⟨a,sb,ha⟩:=k;have ne:C≠a:=by
  rcases ha with z|z
  .rw[z];exact f.2.1
  .exact λw=>f.2.2.2.2.1 y a z w.symm
 exact⟨m,U.sameBut sb ne,λh' u=>⟨_,H',Z.turned (λb o E e=>u.extBut b o E e) f.1 f.2.1 f.2.2.2.1 f.2.2.2.2.1 f.2.2.2.2.2,q⟩⟩
end L2
namespace L2
open PySem PySem.Spec PyProof.Rows
section
variable {κ:Type}[DecidableEq κ]
noncomputable def uS(kvs:List (κ×V))(k:κ):Option V:=(kvs.find? λa=>decide (a.1=k)).map (·.2)
noncomputable def rO(kvs:List (κ×V))(k:κ)(v:V):List (κ×V):=if (kvs.any λa=>decide (a.1=k))=true then kvs.map (λa=>if a.1=k then (a.1,v) else a) else kvs++[(k,v)]
def zV{k:κ}(e:p.1=k):uS (p::r) k=some p.2:=by simp[uS,List.find?_cons,e]
def Aj{k:κ}(e:¬p.1=k):uS (p::r) k=uS r k:=by simp[uS,List.find?_cons,e]
theorem DT k:∀kvs:List (κ×V),(kvs.any λa=>decide (a.1=k))=(uS kvs k).isSome
 |[]=>rfl
 |p::r=>by
  rw[cf];by_cases e:p.1=k
  .simp only[zV e,aC e,Bool.true_or,cI]
  .rw[Aj e,aB e,Bool.false_or];exact DT k r
def rz kvs (k:κ) v:(rO kvs k v).length<=kvs.length+1:=by
 unfold rO;split
 .rw[aw];exact bL _
 .rw[aT,ay,cR];exact aK _
def vK.isSome_eq(r:vK o u):o.isSome=u.isSome:=by
 cases o with
 |none=>cases u with
  |none=>rfl
  |some _=>exact (show False from r).elim
 |some _=>cases u with
  |none=>exact (show False from r).elim
  |some _=>rfl
def KV.val(r:KV kvs vs)(k:κ):vK (uS kvs k) (valueAt vs k):=by
 unfold KV at r;induction r with
 |nil=>exact True.intro
 |@cons p q ps qs h t ih=>
  obtain⟨c,d⟩:=h;by_cases e:p.1=k
  .have a:q.1=k:=c.symm.trans e;have b:valueAt (q::qs) k=some q.2:=by simp[valueAt,List.find?_cons,a]
   rw[zV e,b];exact d
  .have a:¬q.1=k:=λz=>e (c.trans z);have b:valueAt (q::qs) k=valueAt qs k:=by simp[valueAt,List.find?_cons,a]
   rw[Aj e,b];exact ih
def KV.any(r:KV kvs vs)(k:κ):(kvs.any λa=>decide (a.1=k))=vs.any λa=>decide (a.1=k):=by
 unfold KV at r;induction r with
 |nil=>rfl
 |cons h t ih=>rw[cf,cf,ih,h.1]
theorem KV.repl(r:KV kvs vs)(k:κ)(c:kr y u) :
  KV (kvs.map λa=>if a.1=k then (a.1,y) else a) (vs.map λa=>if a.1=k then (a.1,u) else a):=by
 unfold KV at r ⊢;induction r with
 |nil=>exact .nil
 |@cons p q ps qs h t ih=>
  rw[bK,bK];refine .cons ?_ ih;obtain⟨b,d⟩:=h;by_cases e:p.1=k
  .rw[aQ e,aQ (b.symm.trans e)];exact⟨b,c⟩
  .rw[aR e,aR (λz=>e (b.trans z))];exact⟨b,d⟩
def KV.put(r:KV kvs vs)(k:κ)(a:kr y u):KV (rO kvs k y) (stored vs k u):=by
 unfold rO stored;rw[r.any k];by_cases e:(vs.any λb=>decide (b.1=k))=true
 .rw[aQ e,aQ e];exact r.repl k a
 .rw[aR e,aR e];exact Paired.snoc r ⟨rfl,a⟩
def KV.length{kvs:List (κ×V)}(r:KV kvs vs):kvs.length=vs.length:=Paired.length r
end
def Ih(r:kr (kV k) u):(nC P w).is k u=true:=by
 cases k with
 |inl i=>obtain⟨t,e⟩:=(show ∃t,u=Value.int i t from r);subst e;exact Eh P w i t
 |inr x=>obtain⟨t,e⟩:=(show ∃t,u=Value.str x t from r);subst e;exact Ed P w x t
theorem BP:∀{ks} {us},jZ (ks.map kV) us->ItemsAre (nC P w) ks us
 |[],_,r=>by rw[cB]at r;cases r;exact .nil
 |k::ks,_,r=>by
  rw[bK]at r;cases r with
  |cons h t=>exact .cons (Ih h) (BP t)
abbrev KT(H:Hp):List (List rM×V)->List (List rM×Addr×Value)->Prop:=Paired λp q=>p.1=q.1/\H q.2.1=some (.tup (p.1.map kV))/\kr p.2 q.2.2
def KT.val(r:KT H kvs xs) k:vK (uS kvs k) ((atKey xs k).map (·.2)):=by
 induction r with
 |nil=>exact True.intro
 |@cons p q ps qs h t ih=>
  obtain⟨c,_,d⟩:=h;by_cases e:p.1=k
  .have a:q.1=k:=c.symm.trans e;have b:atKey (q::qs) k=some q.2:=by simp[atKey,List.find?_cons,a]
   rw[zV e,b];exact d
  .have a:¬q.1=k:=λz=>e (c.trans z);have b:atKey (q::qs) k=atKey qs k:=by simp[atKey,List.find?_cons,a]
   rw[Aj e,b];exact ih
theorem KT.repl(r:KT H kvs xs) k (d:kr y u) :
  KT H (kvs.map λb=>if b.1=k then (b.1,y) else b) (xs.map (putAt k u)):=by
 induction r with
 |nil=>exact .nil
 |@cons p q ps qs h t ih=>
  rw[bK,bK];refine .cons ?_ ih;obtain⟨a,c,f⟩:=h;unfold putAt;by_cases e:p.1=k
  .rw[aQ e,aQ (a.symm.trans e)];exact⟨a,c,d⟩
  .rw[aR e,aR (λz=>e (a.trans z))];exact⟨a,c,f⟩
def KT.put(r:KT H kvs xs) k (c:H b=some (.tup (k.map kV))) (a:kr y u) :
  KT H (rO kvs k y) (storedH xs k b u):=by
 have e:(kvs.any λd=>decide (d.1=k))=(atKey xs k).isSome:=by rw[DT,(r.val k).isSome_eq,cS]
 unfold rO storedH;rw[e];by_cases q:(atKey xs k).isSome=true
 .rw[aQ q,aQ q];exact r.repl k a
 .rw[aR q,aR q];exact Paired.snoc r ⟨rfl,c,a⟩
def KT.keeps(r:KT H kvs xs)(c:∀b a,H b=some (.tup a)->H' b=some (.tup a)):KT H' kvs xs:=Paired.mapP r λ_ _ z=>⟨z.1,c _ _ z.2.1,z.2.2⟩
section
variable {P:Program}{w:World}{H:Hp}{h:Heap}{a:Addr}
def Rt(ok:uT P w H h)(e:Rd H a u):mQ P w H h a u:=e.ok ok
def Hi(ok:uT P w H h)(e:Rd H a (.dK kvs)):kvs.length<=sizeLine/\(a==sysModules)=false/\∃vs,KV kvs vs/\h.DictOf (nC P w) a vs:=show mQ P w H h a (.dK kvs) from Rt ok e
def U6(ok:uT P w H h)(e:H a=some (.dK kvs)):kvs.length<=sizeLine/\(a==sysModules)=false/\∃vs,KV kvs vs/\h.DictOf (nC P w) a vs:=Hi ok (.inl e)
def AN(ok:uT P w H h)(e:H a=some (.tup (ks.map kV))):(tupleKind (nC P w)).is h ks a:=by obtain⟨_,b,r,o,f,d,n,c,_⟩:=(show mQ P w H h a (.tup (ks.map kV)) from ok a _ e);exact⟨o,b.toArray,n,f,d,c,by simpa using BP r⟩
theorem Ip(ok:uT P w H h)(e:Rd H a (.dT kvs)):kvs.length<=sizeLine/\(a==sysModules)=false/\
  ∃c,KT H kvs c/\h.DictOfH (tupleKind (nC P w)) a c:=by
 obtain⟨z,y,c,r,o,i,k,f,d,n,j,g⟩:=(show mQ P w H h a (.dT kvs) from Rt ok e);refine⟨z,y,c,r,o,i,k,f,d,n,j,λx b=>?_,g⟩;have all:∀{l:List (List rM×V)} {m:List (List rM×Addr×Value)},KT H l m->∀x∈m,(tupleKind (nC P w)).is h x.1 x.2.1:=by
  intro l m q;induction q with
  |nil=>intro x b;exact nomatch b
  |@cons p q ps qs hq t ih=>
   intro x b;rcases aF.mp b with e|b
   .subst e;exact AN ok (by rw[<-hq.1];exact hq.2.1)
   .exact ih x b
 exact all r x b
def Rb(ok:uT P w H h)(e:H a=some (.dT kvs)):kvs.length<=sizeLine/\(a==sysModules)=false/\
  ∃b,KT H kvs b/\h.DictOfH (tupleKind (nC P w)) a b:=Ip ok (.inl e)
end
def JA(H:Hp)(a:Addr)(y:V)(r:Option V):Prop:=(∃c k,Rd H a (.dK c)/\y=kV k/\r=uS c k)\/∃c k b,Rd H a (.dT c)/\y=.ref b/\H b=some (.tup (k.map kV))/\r=uS c k
def Lg(H:Hp)(a:Addr)(y v:V)(d:Hp):Prop:=
 (∃c k,H a=some (.dK c)/\y=kV k/\c.length<sizeLine/\d=kU H a (.dK (rO c k v)))\/
 ∃c k b,H a=some (.dT c)/\y=.ref b/\H b=some (.tup (k.map kV))/\c.length<sizeLine/\d=kU H a (.dT (rO c k v))
def Lg.t{H:Hp}{a b:Addr}{kvs:List (List rM×V)}{k:List rM}{v:V}(e:H a=some (.dT kvs))(d:H b=some (.tup (k.map kV)))(c:kvs.length<sizeLine) :
  Lg H a (.ref b) v (kU H a (.dT (rO kvs k v))):=.inr ⟨kvs,k,b,e,rfl,d,c,rfl⟩
section
variable {X:Cx}{iO:List (Addr×Obj)}{σ:St}{H:Hp}{s:Shared}{a:Addr}{y v:V}{u r:Value}{o:Option V}{A:Around}{E:Value->Shared->Prop}
def jq.big(I:jq X iO σ H s):sysModules<s.heap.objs.size:=by have h:mainGlobals<s.heap.objs.size:=(I.mod.glob.keeps I.bk).lt;exact cT (by decide) h
def J5(C:A.units+1<cLine)(I:jq X iO σ H s)(g:JA H a y (some v))(q:kr y u)(h:∀f x,jq X iO σ H x->kr v f->Q f x) :
  wpAny (model X.prog X.w) A (getItem (.ref a) u) Q E s:=by
 rcases g with⟨m,k,e,i,l⟩|⟨m,k,b,e,i,J,l⟩
 .subst i;obtain⟨z,B,F,c,j⟩:=Hi I.hok e;obtain⟨f,hw,d⟩:=vK.some_of (v:=v) (o:=valueAt F k) (by rw[l];exact c.val k);exact wpAny_getItem_of (Ih q) j.mapOf hw (h f _ (I.tok _) d)
 .subst i;cases (show u=Value.ref b from q);obtain⟨z,B,K,c,j⟩:=Ip I.hok e;obtain⟨f,hw,d⟩:=vK.some_of (v:=v) (o:=(atKey K k).map (·.2)) (by rw[l];exact c.val k);obtain⟨p,D,n⟩:=cU.mp hw;refine wpAny_getItem_heap (tupleKind_room_in1 C) (AN I.hok J) j D ?_;rw[n];exact h f _ (I.tok _) d
def WU(p:A.units+1<cLine)(I:jq X iO σ H s)(g:JA H a y o)(m:kr y u)(h:∀n,jq X iO σ H n->Q (.bool o.isSome) n) :
  wpAny (model X.prog X.w) A (compareOp .In u (.ref a)) Q E s:=by
 rcases g with⟨j,k,e,d,l⟩|⟨j,k,b,e,d,x,l⟩
 .subst d;obtain⟨z,f,B,c,i⟩:=Hi I.hok e;refine wpAny_in_of (Ih m) f i.mapOf ?_;rw[<-(c.val k).isSome_eq,<-l];exact h _ (I.tok _)
 .subst d;cases (show u=Value.ref b from m);obtain⟨z,f,C,c,i⟩:=Ip I.hok e;refine wpAny_in_heap (tupleKind_room_in1 p) (AN I.hok x) f i ?_;have q:=(c.val k).isSome_eq;rw[cS]at q;rw[<-q,<-l];exact h _ (I.tok _)
def C8(I:jq X iO σ H s)(d:UO (H a))(f:Heap.SameBut a s.heap h')(g:∃q,h'.get? a=some q)(new:mQ X.prog X.w (kU H a ob) h' a ob) :
  jq X iO σ (kU H a ob) {s with heap:=h',toks:=t'}:=
 I.write (x:=a) (e:=a) d (.inl rfl) (λb q c z=>(f.2 b c).trans z) g new
def RU(z:kvs.length<=sizeLine)(c:(a==sysModules)=false)(b:KV kvs vs)(d:h'.DictOf (nC P w) a vs) :
  mQ P w H' h' a (.dK kvs):=⟨z,c,vs,b,d⟩
def IX(S:A.units+1<cLine)(I:jq X iO σ H s)(g:Lg H a y v H')(F:kr y u)(N:kr v r)(h:∀K,jq X iO σ H' K->Q () K) :
  wpAny (model X.prog X.w) A (setItem (.ref a) u r) Q E s:=by
 rcases g with⟨f,k,e,n,l,m⟩|⟨f,k,b,e,n,L,l,m⟩
 .subst n m;obtain⟨z,p,Z,d,x⟩:=U6 I.hok e;have B:Z.length<=sizeLine:=by rw[<-d.length];exact z
  have C:(rO f k v).length<=sizeLine:=by have:=rz f k v;omega
  refine wpAny_setItem_pairs (hsz:=B) (Ih F) x λJ i D=>h _ ?_;have he:∃q,J.get? a=some q:=let ⟨q,_,_,j,_⟩:=i;⟨q,j⟩;exact C8 I (by rw[e];exact True.intro) D he (RU C p (d.put k N) i)
 .subst n m;cases (show u=Value.ref b from F);obtain⟨z,p,xs,d,x⟩:=Rb I.hok e;have B:xs.length<=sizeLine:=by rw[<-Paired.length d];exact z
  have C:(rO f k v).length<=sizeLine:=by have:=rz f k v;omega
  refine wpAny_setItem_heap (hsz:=B) (tupleKind_room_in1 S) (AN I.hok L) x λJ i D=>h _ ?_;obtain⟨q,Y,ep,j,R,h3,h4,_,U⟩:=i;refine C8 I (by rw[e];exact True.intro) D ⟨q,j⟩ ⟨C,p,_,(d.put k L N).keeps λc ys P=>?_,q,Y,ep,j,R,h3,h4,U⟩;rw[ja (Rq P e (λz=>nomatch z))];exact P
end
def Sn(i:Expr):Prop:=∀b a,subscripted i false b a=operate [b,a] (getItem b a)
theorem Q6{T id:String}
  (l:typeLookup (.type T) "__getitem__" = pure (some (.builtin id))) (k:Sn slice)
  (h:wpAny (model prog w) A (eval value env) (λo c=>wpAny (model prog w) A (eval slice env) (λi a=>a.TypeIs o T/\wpAny (model prog w) A (getItem o i) Q E a) E c) E s) :
  wpAny (model prog w) A (eval (.Subscript value slice pos) env) Q E s:=by
 refine Subscript_ (wpAny_mono h (λo c f=>wpAny_mono f (λi a b=>?_) λ_ _ x=>x) λ_ _ x=>x);obtain⟨j,b⟩:=b;unfold subscriptTail;refine ao ?_;rw[getitemInPython_of_ne j.not_modules];refine ao (wpAny_specialOf j l ?_);have e:wpAny (model prog w) A (subscripted slice false o i) (λr d=>wpAny (model prog w) A (letTemporaryGo value o r >>= λ_=>pure r) Q E d) E a:=by rw[k o i];exact wpAny_operating (wpAny_mono b (λr d g=>ao (wpAny_letTemporaryGo (ak g))) λ_ _ x=>x)
 first
  |exact ak (ao e)
  |exact ao (ak (ao e))
  |exact ao e
def DP(I:jq X iO σ H s)(g:JA H a y o):s.TypeIs (.ref a) "dict" :=by
 rcases g with⟨c,k,e,_,_⟩|⟨c,k,b,e,_,_,_⟩
 .obtain⟨_,_,f,_,d⟩:=Hi I.hok e;exact d.typeIs
 .obtain⟨_,_,h,_,d⟩:=Ip I.hok e;exact d.typeIs
def M7(e ty:TE):TE:=λb H Q=>e b H λx d=>ty b d λy c=>∃a v,x=.ref a/\JA c a y (some v)/\Q v c
def L5(h ty g:TE):TS:=λD b H=>g b H λv f=>h b f λx e=>ty b e λy d=>∃a c,x=.ref a/\Lg d a y v c/\D.nx b c
section
variable {X:Cx}{o i e value:Expr}{pos pos' tpos:Pos}{td ty tv:TE}
def PN(l:X.A.units+1<cLine)(D:PE X o td)(q:PE X i ty)(J:Sn i):PE X (.Subscript o i pos) (M7 td ty):=by intro d s f H Q I h;refine Q6 PySem.F.slot_dict_getitem.lookup J (lV (D d s f H _ I h) λu E c=>?_);obtain⟨x,n,B,w,r⟩:=c;refine lV (q d E f n _ B r) λL P c=>?_;obtain⟨y,m,j,k,a,v,C,g,z⟩:=c;subst C;obtain rfl:u=Value.ref a:=w;exact⟨DP j g,J5 l j g k λK N p b=>⟨v,m,p,b,z⟩⟩
def QW(k:X.A.units+1<cLine)(K:PE X o td)(p:PE X i ty)(hv:PE X value tv)(N:swapsWith value (some (.Subscript o i pos')) pos.line X.env=pure false) :
  PS X (.Assign [.Subscript o i pos'] value pos) (L5 td ty tv):=by
 intro d s c H D I h;refine wpAny_Assign_Subscript (lV (hv d s c H _ I h) λr L b=>?_) N;obtain⟨v,m,F,Q,q⟩:=b;refine lV (K d L c m _ F q) λu w b=>?_;obtain⟨x,l,C,z,E⟩:=b;refine lV (p d w c l _ C E) λR S b=>?_;obtain⟨y,U,n,j,a,f,J,g,B⟩:=b;subst J;obtain rfl:u=Value.ref a:=z;exact IX k n g j Q λY P=>⟨c,f,P,B⟩
end
def EC(h:Heap)(a:sysModules<h.objs.size):mQ P w H (h.push {cls:=.type "dict",data:=.dict #[]}) h.objs.size (.dT []):=⟨bN _,beq_eq_false_iff_ne.mpr (Ne.symm (aM a)),[],.nil,_,#[],0,ar _ rfl,⟨rfl,rfl,rfl⟩,rfl,rfl,List.nodup_nil⟩
def Fk:TE:=λ_ H Q=>∀p,H p=none->Q (.ref p) (kU H p (.dT []))
section
variable {X:Cx}{pos:Pos}
def Li:PE X (.Dict [] [] pos) Fk:=λc s b H Q I h=>wpAny_Dict_empty ⟨.ref s.heap.objs.size,_,I.laid (a:=s.heap.objs.size) (o:=.dT []) (t':=s.toks) (λ_ _ q=>ae _ q) (aK _) (EC s.heap I.big),rfl,h _ (I.hok.fresh (aK _))⟩
end
end L2
namespace L2
open PySem PySem.Spec PyProof.Rows Builtin
def yL:fillsNumberSlot (.type "tuple") "mul" = pure false:=PySem.fillsNumberSlot_seq F.slot_tuple_mul.lookup (by decide +kernel) F.slot_tuple_rmul.lookup (by decide +kernel)
def CU:seqRepeat? (.type "tuple")=pure (some (.builtin "tuple.__mul__")):=by unfold seqRepeat?;rw[PySem.seqSlot_of (name:= "__mul__") F.slot_tuple_mul.lookup (by decide +kernel),PySem.seqSlot_of (name:= "__rmul__") F.slot_tuple_rmul.lookup (by decide +kernel)];rfl
def AR a t l dct its n sl :
  Meets (Builtin.«int.__rmul__» ⟨[.int a t,.ref l],[]⟩) (λ_ R s=>s.heap.get? l=some ⟨.type "tuple",dct,.seq its n,sl⟩/\R (.ok (.ret Value.notImplemented)) s):=
 .of_wp λb w A R s h=>by obtain⟨f,g,d,c,i⟩:=s;obtain⟨e,h⟩:=h;wp_walk;exact⟨_,rfl,h⟩
def Bq a t l dct its n sl (q:-(2 ^ 63)<=a) (p:a<2 ^ 63) (m:its.size*a.toNat<=sizeLine) :
  Meets (Builtin.«tuple.__mul__» ⟨[.ref l,.int a t],[]⟩) (λ_ R s=>s.heap.get? l=some ⟨.type "tuple",dct,.seq its n,sl⟩/\((its.isEmpty=true\/a=1)->R (.ok (.ret (.ref l))) s)/\
   (¬(its.isEmpty=true\/a=1)->a<=0->R (.ok (.ret (.ref s.heap.objs.size))) {s with heap:=s.heap.push {cls:=.type "tuple",data:=.seq #[]}})/\
   (¬(its.isEmpty=true\/a=1)->0<a->R (.ok (.ret (.ref s.heap.objs.size))) {s with heap:=s.heap.push {cls:=.type "tuple",data:=.seq ((List.replicate a.toNat its).foldl (·++·) #[])}})):=
 .of_wp λk w A R s h=>by
  obtain⟨E,g,d,H,C⟩:=s;obtain⟨F,u,y,v⟩:=h;have r:¬(decide (a < -2 ^ 63)||decide (a >= 2 ^ 63))=true:=by simp;exact⟨q,p⟩
  wp_walk;rw[aR r];wp_walk;by_cases b:its.isEmpty=true\/a=1
  .rw[aQ (by rcases b with c|c<;>simp[c])];wp_walk;exact⟨_,rfl,u b⟩
  .rw[aR (by intro z;exact b (by simpa using z))];by_cases f:a<=0
   .rw[aQ (by simp[f])];wp_walk;exact⟨_,rfl,y b f⟩
   .have x:¬its.isEmpty=true:=λz=>b (.inl z);have D:its.size*a<=sizeLine:=by
     have:((its.size*a.toNat:Nat):Int)<=sizeLine:=by exact_mod_cast m
     rw[Int.natCast_mul,cV (aA (b7.mp f))]at this;exact this
    have I:(sizeLine:Int)=2 ^ 24:=by decide
    rw[aR (by simp[f,x]),aR (by lia)];rw[aR (by simp[Tuple.tupleTooMany];omega)];have o:(List.foldl (λi j=>i++j) #[] (List.replicate a.toNat its)).size<=sizeLine:=by
     have e:=uH its.toList a.toNat [];simp only[cy]at e;have B:List.foldl (λi j=>i++j) #[] (List.replicate a.toNat its)=(List.replicate a.toNat its.toList).flatten.toArray:=by simpa using e
     rw[B,bH,Cw,cA];simpa using m
    wp_walk;exact⟨_,rfl,v b (b7.mp f)⟩
section
variable {X:Cx}
def KG:R2:=λx y H Q=>∃l k a,x=.ref l/\y=.int k/\H l=some (.tup a)/\-(2 ^ 63)<=k/\k<2 ^ 63/\a.length*k.toNat<=sizeLine/\((a=[]\/k=1)->Q (.ref l) H)/\
 (¬(a=[]\/k=1)->∀p,H p=none->Q (.ref p) (kU H p (.tup (List.replicate k.toNat a).flatten)))
def P5:sD X (binaryOp .Mult) KG:=by
 intro iO s σ H x y v u Q I L C h;obtain⟨l,k,j,rfl,rfl,hH,J,E,p,P,m⟩:=h;cases L;obtain⟨t,rfl⟩:=C;obtain⟨a,r,⟨⟨c,d,dt,A⟩,e,U,n,D⟩,_⟩:=I.tuple (pX.of hH);subst U;subst D;have Y:=r.length;have K:a.toArray.size*k.toNat<=sizeLine:=by rw[bH,<-Y];exact p
 have i:a.toArray.isEmpty=true↔j=[]:=by
  cases r with
  |nil=>simp
  |cons _ _=>simp
 have f:(a.toArray.isEmpty=true\/k=1)↔(j=[]\/k=1):=by rw[i]
 have g:List.foldl (λS Z=>S++Z) #[] (List.replicate k.toNat a.toArray)=(List.replicate k.toNat a).flatten.toArray:=by have:=uH a k.toNat [];rw[cy]at this;exact this
 have fr:=I.fresh;refine wpAny_binaryOp_repeat_ref (by decide) ⟨_,e,rfl⟩ (λN=>typeIs_int N k t) yL F.fills_int_mul F.slot_int_rmul CU F.slot_int_index.lookup
  (call_meets F.slot_int_rmul (typeIs_int s k t) F.entry_int_rmul (F.args_int_rmul_2 _ _) (AR k t l d a.toArray n A)
   ⟨e,rfl,⟨_,e,rfl⟩,call_meets F.slot_tuple_mul ⟨_,e,rfl⟩ F.entry_tuple_mul (F.args_tuple_mul_2 _ _) (Bq k t l d a.toArray n A J E K) ⟨e,λz=>?_,λz w=>?_,λz w=>?_⟩⟩)
 .exact⟨.ref l,H,I,rfl,P (f.mp z)⟩
 .have R:k.toNat=0:=by simp[w]
  have q:=m (λy=>z (f.mpr y)) s.heap.objs.size fr;rw[R]at q;exact⟨.ref _,_,I.laid (o:=.tup []) (λb B q=>ae _ q) (aK _) ⟨bN _,[],.nil,Ad.new _ _⟩,rfl,q⟩
 .rw[g];refine⟨.ref _,_,I.laid (o:=.tup (List.replicate k.toNat j).flatten) (λb B q=>ae _ q) (aK _) ⟨?_,_,r.rep k.toNat,Ad.new _ _⟩,rfl,m (λy=>z (f.mpr y)) _ fr⟩;rw[Cw,cA];exact p
def DZ:V->Option Bool
 |.bl b=>some b
 |.int i=>some (i != 0)
 |_=>none
def pA:List V->Option (List Bool)
 |[]=>some []
 |v::vs=>(DZ v).bind λb=>(pA vs).bind λr=>some (b::r)
theorem B8:∀{vs} {bs} {us} {i} {u},pA vs=some bs->jZ vs us->us[i]? = some u->∃v,kr v u/\DZ v=some (bs.getD i false)
 |[],_,_,_,_,_,.nil,e=>by simp at e
 |v::vs,bs,_,i,u,h,.cons r t,e=>by
  cases hv:DZ v with
  |none=>simp[pA,hv]at h
  |some b=>
   cases hr:pA vs with
   |none=>simp[pA,hv,hr]at h
   |some r'=>
    simp[pA,hv,hr]at h;subst h;cases i with
    |zero=>simp at e;subst e;exact⟨v,r,by simpa using hv⟩
    |succ i=>obtain⟨c,a,d⟩:=B8 hr t (by simpa using e);exact⟨c,a,by simpa using d⟩
theorem BZ:∀{vs} {bs},pA vs=some bs->vs.length=bs.length
 |[],_,h=>by cases h;rfl
 |v::vs,bs,h=>by
  cases hv:DZ v with
  |none=>simp[pA,hv]at h
  |some b=>
   cases hr:pA vs with
   |none=>simp[pA,hv,hr]at h
   |some r'=>simp[pA,hv,hr]at h;subst h;simp[BZ hr]
def zU(h:pA vs=some bs)(r:jZ vs us):TruthOf prog w A (λi v=>us.toArray[i]? = some v) (λi=>bs.getD i false):=λi u s Q E e a=>by
 obtain⟨v,d,c⟩:=B8 h r (by simpa using e);dsimp only at a;cases v with
 |bl b=>
  cases d;have:b=bs.getD i false:=by simpa[DZ] using c
  rw[<-this]at a;exact wpAny_truthy_bool a
 |int n=>
  obtain⟨t,rfl⟩:=d;have:(n != 0)=bs.getD i false:=by simpa[DZ] using c
  rw[<-this]at a;exact PyProof.Rows.truthy_int a
 |_=>simp[DZ]at c
def J1(v:X.calm=true):l6 X (.builtin "any") (λw H Q=>∃p vs bs,w=[.ref p]/\(nh X.K H p vs\/pX X.K H p vs)/\pA vs=some bs/\Q (.bl (bs.any id)) H):=by
 intro D s E H w F Q I r h;obtain⟨p,vs,bs,rfl,g,d,q⟩:=h;obtain⟨u,rfl,y⟩:=qL r;cases y;have k:=BZ d;rcases g with g|g
 .obtain⟨c,j,f,B⟩:=I.list g;have n:=j.length;have a:p<s.heap.objs.size:=by obtain⟨_,e,_⟩:=f.isList;exact aL e
  refine call_any_walk (wpAny_pyIter_list f.isList ⟨s.heap.objs.size,_,_,_,_,_,λi=>bs.getD i false,rfl,Walks.list (A:=X.A.in1) (I.ok.hd v) _ p (aM a) _,⟨⟨_,ar _ rfl,rfl,rfl⟩,f.isList.push _⟩,zU d j,λx C m=>?_⟩);refine⟨.bl _,H,I.kept (λb o e=>m b o (λl=>?_) (ae _ e)),rfl,?_⟩
  .have lt:=aL e;have z:b=s.heap.objs.size:=by simpa using l
   rw[z]at lt;exact a9 _ lt
  .rw[<-BX]at q;have:c.toArray.size=bs.length:=by rw[bH];exact n.symm.trans k
   rw[this];exact q
 .obtain⟨c,j,f,B⟩:=I.tuple g;have n:=j.length;have a:p<s.heap.objs.size:=by obtain⟨_,e,_⟩:=f;exact aL e
  have pt:=f;refine call_any_walk (wpAny_pyIter_tuple pt ⟨s.heap.objs.size,_,_,_,_,_,λi=>bs.getD i false,rfl,Walks.tuple (A:=X.A.in1) (I.ok.hd v) _ p (aM a) _,⟨⟨_,ar _ rfl,rfl,rfl⟩,pt.push _⟩,zU d j,λx C m=>?_⟩);refine⟨.bl _,H,I.kept (λb o e=>m b o (λl=>?_) (ae _ e)),rfl,?_⟩
  .have lt:=aL e;have z:b=s.heap.objs.size:=by simpa using l
   rw[z]at lt;exact a9 _ lt
  .rw[<-BX]at q;have:c.toArray.size=bs.length:=by rw[bH];lia
   rw[this];exact q
end
end L2
namespace L2
open PySem PySem.Spec PyProof.Rows
section
variable {prog:Program}{w:World}{A:Around}{E:Value->Shared->Prop}{s:Shared}
def Jv{i:Nat}{Q:Value->Shared->Prop}(F:IsEnum s.heap e it i old)(hi:nK b s.heap it l i)(hl:lD b s.heap l xs)(j:e≠it)
  (D:∀x h,xs[i]? = some x->IsEnumOut h e it ((i:Int)+1) x s.heap.objs.size->nK b h it l (i+1)->h.get? s.heap.objs.size=some {cls:=.type "tuple",data:=.seq #[.int i s.toks,x]}->h.objs.size=s.heap.objs.size+1->
   (∀c o,c≠e->c≠it->s.heap.get? c=some o->h.get? c=some o)->Q (.ref s.heap.objs.size) {s with heap:=h,toks:=s.toks+1})
  (X:xs[i]? = none->A.handled=none/\∀h x,Heap.ExtBut it s.heap h->(∃o,h.get? x=some o/\o.cls=.type "StopIteration")->E (.ref x) {s with heap:=h}) :
  wpAny (model prog w) A (Builtin.«enumerate.__next__» ⟨[.ref e],[]⟩) (λI s'=>∃v,I=.done (.ret v)/\Q v s') E s:=by
 obtain⟨N,g,d,S,os⟩:=s;show wpAny _ _ (field (.ref e) 2 >>= λ_=>_) _ _ _;refine ao (wpAny_field F rfl rfl (ao (v7 hi hl (λx g1 hx Y k1=>?_) X)));have k:=k1;have z:=(k.2 e j).trans F;refine ao (wpAny_field z rfl rfl ?_);refine ao (wpAny_field z rfl rfl ?_);refine ao (wpAny_mkInt (ao (wpAny_setField_rec z (by simp) λg2 y2 C=>?_)));have z2:=y2;refine ao (wpAny_setField_rec z2 (by simp) λm U H=>?_);have z3:=U;refine ao (wpAny_newTuple ?_);have sz:m.objs.size=N.objs.size:=by have a:=H.1;have c:=C.1;have u:=k.1;dsimp only at a c u;lia
 have y:IsEnum (m.push {cls:=.type "tuple",data:=.seq #[.int i S,x]}) e it (i+1) old:=ae _ z3;have el:=aL F;have B:∀c o,c≠e->c≠it->N.get? c=some o->m.get? c=some o:=λc o f r q=>H.extBut c o f (C.extBut c o f (k.extBut c o r q));unfold Builtin.SmallTypes.ownedTupleIsFree;refine ao (ao (wpAny_field y rfl rfl (ak ?_)));simp only[if_true];refine ao (wpAny_rule (ao (wpAny_field y rfl rfl (ao (wpAny_setField_rec y (by simp) λg5 y5 P=>?_)))));have z5:=y5;unfold Builtin.SmallTypes.ownedTupleHandOut;refine ao (ao (wpAny_setField_rec z5 (by simp) λg6 y6 K=>?_));have Z:=y6;refine wpAny_setField_rec Z (by simp) λp y7 L=>?_;have J:=y7;have up:∀c o,c≠e->(m.push {cls:=.type "tuple",data:=.seq #[.int i S,x]}).get? c=some o->p.get? c=some o:=λc o f q=>L.extBut c o f (K.extBut c o f (P.extBut c o f q));have n:∀c o,c≠e->m.get? c=some o->p.get? c=some o:=λc o f q=>up c o f (ae _ q);have tp:=up _ _ (by rw[sz];exact bC el) (ar _ rfl);have R:p.objs.size=m.objs.size+1:=by have a:=L.1;have c:=K.1;have u:=P.1;dsimp only at a c u;rw[Heap.size_push]at u;lia
 refine ao (wpAny_letGo (ak ⟨_,rfl,?_⟩));rw[sz]at J tp R ⊢;exact D x p hx J (Y.to λo q=>n it o (Ne.symm j) (H.extBut it o (Ne.symm j) (C.extBut it o (Ne.symm j) q))) tp R λc o f r q=>n c o f (B c o f r q)
def xB{i:Nat}(h:IsEnum s.heap e it i old)(v:nK b s.heap it l i)(p:lD b s.heap l xs)(f:e≠it)
  (d:∀x a,xs[i]? = some x->IsEnumOut a e it ((i:Int)+1) x s.heap.objs.size->nK b a it l (i+1)->a.get? s.heap.objs.size=some {cls:=.type "tuple",data:=.seq #[.int i s.toks,x]}->a.objs.size=s.heap.objs.size+1->
   (∀c o,c≠e->c≠it->s.heap.get? c=some o->a.get? c=some o)->Q (some (.ref s.heap.objs.size)) {s with heap:=a,toks:=s.toks+1})
  (g:xs[i]? = none->A.handled=none/\∀a,Heap.ExtBut it s.heap a->Q none {s with heap:=a}):wpAny (model prog w) A (pyNext (.ref e)) Q E s:=by
 have ty:s.TypeIs (.ref e) "enumerate" :=⟨_,h,rfl⟩;unfold pyNext;refine ao (wpAny_attempt (wpAny_callSpecial?_slot ty F.slot_enumerate_next (wpAny_call_entry F.slot_enumerate_next ty F.entry_enumerate_next
  (Jv h v p f (λx a r n m k u j=>ak (d x a r n m k u j)) λq=>⟨(g q).1,λa x hk ⟨o,ho,hc⟩=>?_⟩) (F.args_enumerate_next_1 _))))
 exact ao (wpAny_isInstance ⟨o,ho,hc⟩ isSubtype_stop (ak ((g q).2 a hk)))
noncomputable abbrev eo(b:Bool)(l:Addr):Obj:={cls:=.type (zY b),data:=.fields #[.ref l,.int 0 0]}
abbrev en(p:Addr):Obj:={cls:=.type "enumerate",data:=.fields #[.none,.bool false,.ref p,rawInt 0,.none,.none]}
def Gy b l xs:Meets (Builtin.«enumerate.__new__» ⟨[.type "enumerate",.ref l],[]⟩) (λ_ R s=>lD b s.heap l xs/\
  R (.ok (.ret (.ref (s.heap.push (eo b l)).objs.size))) {s with heap:=(s.heap.push (eo b l)).push (en s.heap.objs.size)}):=by
 refine .of_wp λprog w A R s h=>?_;obtain⟨m,g,d,p,k⟩:=s;obtain⟨i,e⟩:=h;have f:=sub_enumerate;have a:=i;obtain⟨o,n,r,j⟩:=a.look;wp_walk using rT a;refine wpAny_stack_any λq=>ak ?_;split
 .rename_i c _ _ _ _ _;cases (c==Value.type "enumerate")
  .wp_walk using rT a;exact⟨_,rfl,e⟩
  .wp_walk using rT a;exact⟨_,rfl,e⟩
 .wp_walk using rT a;exact⟨_,rfl,e⟩
def BE(g:lD b s.heap l xs)
  (h:∀a,IsEnum a (s.heap.objs.size+1) s.heap.objs.size 0 .none->nK b a s.heap.objs.size l 0->a.objs.size=s.heap.objs.size+2->(∀c o,s.heap.get? c=some o->a.get? c=some o)->Q (.ref (s.heap.objs.size+1)) {s with heap:=a}) :
  wpAny (model prog w) A (call (.type "enumerate") [.ref l]) Q E s:=by
 refine callType_new F.called_enumerate (by decide) (F.typeCall_enumerate_1 _) (F.newCall_enumerate_1 _) (λf=>F.args_object_init_2 f _) F.entry_enumerate_new (Gy b l xs) ⟨g,?_⟩;have e:(s.heap.push (eo b l)).objs.size=s.heap.objs.size+1:=Heap.size_push ..;have d:=ar (s.heap.push (eo b l)) (o:=en s.heap.objs.size) rfl;rw[e]at d;rw[e];exact⟨⟨_,d,rfl⟩,h _ d (.of ⟨_,ae _ (ar _ rfl),rfl,rfl⟩) (by rw[Heap.size_push,e]) λc o q=>ae _ (ae _ q)⟩
end
noncomputable def WQ(K:W.Frag)(b:Bool)(l:Addr):It:=
  ⟨λi H=>∃a x,yP K H b l a/\a[i]? = some x,
   λi H v c=>∃p x,v=.ref p/\H p=none/\c=kU H p (.tup [.int i,x])/\∀a,yP K H b l a->a[i]? = some x,
   λi H=>∃a,yP K H b l a/\a.length<=i⟩
def JO{K:W.Frag}{x1}(p:e≠it) :
  DK P w K (.Tuple elts x1 pos) (WQ K b l) [e,it] e (λi h=>(∃a,IsEnum h e it i a)/\nK b h it l i) where
 mem:=by simp
 obj:=λi h j c J=>by
  obtain⟨⟨a,g⟩,m⟩:=j;have mem:c=e\/c=it:=by simpa using J
  rcases mem with rfl|rfl
  .exact⟨_,g,λv q=>by cases q⟩
  .obtain⟨o,q,_,d⟩:=m.look;exact⟨o,q,λv q'=>by rw[d]at q';cases q'⟩
 keep:=λi h N j k=>by obtain⟨⟨a,g⟩,m⟩:=j;exact⟨⟨a,k e (.head _) _ g⟩,m.to λo q=>k it (.tail _ (.head _)) o q⟩
 item:=by
  intro X Q hw Y J i iO s σ H E I F j Z;subst Q hw Y;obtain⟨⟨a,g⟩,m⟩:=j;obtain⟨xs,x,D,e1⟩:=Z;obtain⟨B,R,U,z1⟩:=I.seqB D;obtain⟨u,gu,ru⟩:=R.get e1;have y:=I.fpOk (aK _) (I.hok.fresh (aK _));refine xB g m U p (λC N n a1 a2 a3 a4 L=>?_) λq=>?_
  .have eu:C=u:=by
    have:B[i]? = some C:=by simpa using n
    rw[gu]at this;cases this;rfl
   subst eu;refine⟨_,rfl,wpAny_letOwnedTupleGo_enum a1 λS A sb=>?_⟩;have r:=sb;have zT:=bC (aL g);have I1:=I.turnedL (t':=s.toks+1) (λb o f q=>r.extBut _ _ (λz=>f (by simp[z])) (L b o (λz=>f (by simp[z])) (λz=>f (by simp[z])) q)) (λb f=>F b f);have gT:=r.extBut _ _ zT a3;have I2:jq X iO σ (kU H s.heap.objs.size (.tup [.int i,x])) {s with heap:=S,toks:=s.toks+1}:=I1.track y.1 y.2.2.2.1 y.2.1 y.2.2.2.2.1 y.2.2.2.2.2
    ⟨by show 2<=sizeLine;decide,[.int i s.toks,C],.cons ⟨_,rfl⟩ (.cons ru .nil),⟨_,gT,rfl,_,rfl,rfl⟩⟩
   have lt:∀{b o},s.heap.get? b=some o->kU H s.heap.objs.size (.tup [.int i,x]) b=H b:=λ{b o} q=>ja (aM (aL q));refine⟨.ref s.heap.objs.size,_,I2,rfl,⟨_,x,rfl,y.1,rfl,λxs' h=>by rw[I.seqB_inj h D];exact e1⟩,?_,λb f=>?_⟩
   .exact⟨⟨_,A⟩,a2.to λo q=>r.extBut _ o (Ne.symm p) q⟩
   .have mem:b=e\/b=it:=by simpa using f
    have hn:=(F b f).1;obtain⟨o1,g1,_⟩:=m.look;rcases mem with rfl|rfl
    .rw[lt g];exact hn
    .rw[lt g1];exact hn
  .exfalso;have m1:B.toArray[i]? = some u:=by simpa using gu
   rw[m1]at q;cases q
 done:=by
  intro X Q hw Y J i iO s σ H E I F j Z;subst Q hw Y;obtain⟨⟨a,g⟩,m⟩:=j;obtain⟨xs,D,hl⟩:=Z;obtain⟨B,R,U,z1⟩:=I.seqB D;have n1:=R.length;refine xB g m U p (λC N n a1 a2 a3 a4 L=>?_) λq=>⟨I.ok.hd J,λN L=>⟨rfl,I.turnedL (ch:=[it]) (λb o f q=>L b o (λz=>f (by simp[z])) q) λb f=>F b (by
   have:b=it:=by simpa using f
   simp[this])⟩⟩
  exfalso;have m1:i<B.length:=by
   have:B[i]? = some C:=by simpa using n
   exact (aa.mp this).1
  lia
 self:=λ_ _ _ _ _ j h=>by obtain⟨⟨a,g⟩,_⟩:=j;exact wpAny_pyIter_enum g h
section
variable {X:Cx}
def K8(K:W.Frag)(b:Bool)(f:TA):TI:=λc H R=>f c H λd a=>∃l,d=[.ref l]/\(∃e,yP K a b l e)/\R (WQ K b l) a
def Nz{x1}(C:Gl X "enumerate")(r:X.mg "enumerate" = none)(B:PA X [a] ta)(z:starEach [a] X.env=[(false,eval a X.env)]:=by rfl) :
  PI X (.Tuple elts x1 tpos) (.Call (.Name "enumerate" p) [a] [] pos) (K8 X.K b ta):=by
 intro n s o H R I h;refine Call_ (sT I C r boot_enumerate (PyProof.Rows.callWith_type1 (lV (B pos n s o H _ I h) λv f E=>?_) z rfl));obtain⟨L,w,c,m,e⟩:=E;obtain⟨l,rfl,⟨N,e⟩,q⟩:=e;obtain⟨u,rfl,x⟩:=qL m;cases x;obtain⟨v,A,y,_⟩:=c.seqB e;refine BE y λJ i F j D=>?_;refine wpAny_pyIter_enum i ?_;refine⟨_,_,_,_,w,rfl,c.kept D,JO (Nat.succ_ne_self _),⟨⟨_,i⟩,F⟩,λb k=>?_,q⟩;have d:b=f.heap.objs.size+1\/b=f.heap.objs.size:=by simpa using k
 have g:f.heap.objs.size<=b:=by rcases d with rfl|rfl<;>lia
 exact c.fpOk g (c.hok.fresh g)
end
end L2
namespace L2
open PySem PySem.Spec PyProof.Rows
section
variable {X:Cx}
def J8(B:X.calm=true):l6 X (.builtin "min") (λc H Q=>∃p d,c=[.ref p]/\nh X.K H p (d.map V.int)/\d≠[]/\∀m∈d,(∀a∈d,m<=a)->Q (.int m) H):=by
 intro J s L H c N Q I r h;obtain⟨p,d,rfl,x,g,q⟩:=h;obtain⟨u,rfl,A⟩:=qL r;cases A;obtain⟨y,D,z,P⟩:=I.list x;have o:=sG D;obtain⟨c,e⟩:=o.allInts.items;have b:d=c.toList.map (·.1):=by rw[<-o.numsOf,<-nums_intItems,<-e]
 have f:0<c.size:=by have n:=cW.mpr g;rw[b,aw,bA]at n;exact n
 have l:=z.isList;rw[e]at l;refine min_intList (I.ok.hd B) l f λv E R hv C=>?_;obtain⟨t,rfl⟩:=intItems_at hv;obtain⟨F,w⟩:=argBest_lt (numAt c) (c.size-1);refine⟨.int _,H,I.kept C,⟨t,rfl⟩,q _ ?_ λa k=>?_⟩
 .rw[b,numAt_eq];exact getD_mem (by rw[aw,bA];omega)
 .rw[b]at k;obtain⟨j,i,rfl⟩:=mem_getD k;rw[aw,bA]at i;rw[<-numAt_eq];exact w j (Nat.le_sub_of_add_le i)
end
end L2
namespace HT
open PySem PySem.Spec PyProof.Rows
section
variable {prog:Program}{w:World}{A:Around}{E:Value->Shared->Prop}{s:Shared}
def getItem_tuple_all{a d:Option Int}(c:IsTup s.heap t items)(i:s.heap.IsSliceOf sl vl vu .none)(k:IsPart vl a)(l:IsPart vu d)
  (hw:sIx items.size 0 a=0/\sIx items.size items.size d=items.size) (h:Q (.ref t) s):wpAny (model prog w) A (getItem (.ref t) (.ref sl)) Q E s:=by
 obtain⟨m,g,f,j⟩:=id i;have e:s.TypeIs (.ref sl) "slice" :=⟨m,g,f⟩;unfold getItem;try with_reducible refine wpAny_holding ?_;first|refine ao (ak ?_)|skip
 refine ao (wpAny_sequenceKey c.typeIs (by decide) ?_);refine ao (wpAny_callSpecial?_slot c.typeIs PyProof.Rows.slot_tuple_getitem
  (wpAny_call_entry PyProof.Rows.slot_tuple_getitem c.typeIs entry_tuple_getitem ?_ (args_tuple_getitem _ _)))
 show wpAny _ _ (Builtin.Tuple.tupleItemsOf (.ref t) >>= _) _ _ s;refine ao (tupleItemsOf_ c ?_);refine ao (wpAny_typeOf e ?_);rw[aQ (by decide)];refine ao (rP i k l ?_);have b:(((sIx items.size 0 a):Int)==0&&(1:Int)==1&&(sIx items.size items.size d-sIx items.size 0 a)==items.size)=true:=by rw[hw.1,hw.2];simp
 show wpAny _ _ (if (((sIx items.size 0 a):Int)==0&&1==1&&(sIx items.size items.size d-sIx items.size 0 a)==items.size)=true then _ else _) _ _ s;rw[aQ b];refine ao (ao (wpAny_typeOf c.typeIs (ak ?_)));rw[aQ (by decide)];refine ao (wpAny_rule ?_);exact ak ⟨_,rfl,ak h⟩
end
end HT
namespace L2
open PySem PySem.Spec PyProof.Rows
section
variable {X:Cx}
def VZ(K:W.Frag):V->Option Int->Option Int->Hp->VK->Prop:=λx d c H Q=>∃a b,x=.ref a/\pX K H a b/\(HT.sIx b.length 0 d=0/\HT.sIx b.length b.length c=b.length)/\Q (.ref a) H
def OA:Rh X (VZ X.K):=by
 intro m s n H x v p w l o y Q I i k f d h;obtain⟨a,j,rfl,g,hw,q⟩:=h;cases i;obtain⟨b,r,c,u⟩:=I.tuple g;have e:b.toArray.size=j.length:=by rw[bH];exact r.length.symm
 refine⟨"tuple",_,PyProof.Rows.slot_tuple_getitem.lookup,c.typeIs,?_⟩;exact HT.getItem_tuple_all c k f d (by rw[e];exact hw) ⟨.ref a,H,I,rfl,q⟩
end
end L2
namespace L2
open PySem PySem.Spec PyProof.Rows
section
variable {prog:Program}{w:World}{A:Around}{E:Value->Shared->Prop}{s:Shared}{d it:Addr}{es:Array DictEntry}{ep i:Nat}
def xU(h:Heap)(d:Addr)(es:Array DictEntry)(ep:Nat):Prop:=∃o,h.get? d=some o/\o.ExactDict/\o.data=.dict es ep
def xU.to(x:xU h d es ep)(k:∀o,h.get? d=some o->h'.get? d=some o):xU h' d es ep:=let ⟨o,a,r⟩:=x;⟨o,k o a,r⟩
def xU.lt(x:xU h d es ep):d<h.objs.size:=let ⟨_,a,_⟩:=x;aL a
def xU.ty(x:xU s.heap d es ep):s.TypeIs (.ref d) "dict" :=by obtain⟨o,a,c,_⟩:=x;exact⟨o,a,c.1⟩
def NT(e:(d==sysModules)=false)(x:xU s.heap d es ep)
  (q:Q (.ref s.heap.objs.size) {s with heap:=s.heap.push {cls:=.type "dict_keyiterator",data:=.fields #[.ref d,.int 0 0,.int es.size 0,.int ep 0]}}):wpAny (model prog w) A (pyIter (.ref d)) Q E s:=by
 obtain⟨o,a,c,b⟩:=id x;refine wpAny_pyIter_slot x.ty F.slot_dict_iter (wpAny_call_entry F.slot_dict_iter x.ty F.entry_dict_iter ?_ (F.args_dict_iter_1 _));unfold Builtin.«dict.__iter__»;refine ao ?_;unfold Builtin.Dict.dictSlotNone;refine ao (wpAny_notOrdered_dict x.ty ?_);show wpAny _ _ (pure (Value.ref d)) _ _ s;refine ak ?_;show wpAny _ _ (Builtin.Dict.showsAll d >>= λ_=>_) _ _ s;unfold Builtin.Dict.showsAll;rw[aR (by rw[e];exact λz=>nomatch z)];refine ao (ak (ao (wpAny_dictEntries a b (ao (wpAny_dictEpoch a b ?_)))));refine ao (wpAny_newObj_type (ak ⟨_,rfl, "dict_keyiterator",_,⟨_,ar _ rfl,rfl⟩,F.slot_dict_keyiterator_next.lookup,?_⟩));simpa[rawInt] using q
def RW(j:s.heap.IsKeyIter it d i es.size ep)(x:xU s.heap d es ep) hi
  (q:∀e,e.IsKeyIter it d (i+1) es.size ep->Heap.SameBut it s.heap e->Q (some es[i].key) {s with heap:=e}):wpAny (model prog w) A (pyNext (.ref it)) Q E s:=by
 obtain⟨o,a,c,b⟩:=id j;obtain⟨l,g,m,k⟩:=id x;have f:Builtin.Dict_items.ownsTuple "dict_keyiterator" = false:=by decide
 unfold pyNext;refine ao (wpAny_attempt (wpAny_callSpecial?_slot j.typeIs F.slot_dict_keyiterator_next (wpAny_call_entry F.slot_dict_keyiterator_next j.typeIs F.entry_dict_keyiterator_next ?_ (F.args_dict_keyiterator_next_1 _))));refine ao (ak (ao (ao ?_)));first|refine ao (wpAny_typeNameOfWhole_keyiter j.typeIs (ak (ao (wpAny_fieldsOf a b ?_))))|refine ao (wpAny_typeNameOf_keyiter j.typeIs (ak (ao (wpAny_fieldsOf a b ?_))))
 simp only[f,cE,if_false];show wpAny _ _ (if (Value.ref d==Value.none)=true then _ else _) _ _ s;rw[aR (λz=>nomatch z)];refine ao (ak (ao (wpAny_dictEntries g k ?_)));rw[aR (by simp)];refine ao (ak (ao (wpAny_dictEpoch g k ?_)));rw[aR (by simp)];refine ak ?_;simp only[show ¬(i<0) from by lia,if_false,bV,Array.getElem?_eq_getElem hi];refine ao ?_;first|refine ao (wpAny_typeNameOfWhole_keyiter j.typeIs (ak (ao (wpAny_isOneOf_keyiter j.typeIs ?_))))|refine ao (wpAny_typeNameOf_keyiter j.typeIs (ak (ao (wpAny_isOneOf_keyiter j.typeIs ?_))))
 show wpAny _ _ (setField (.ref it) 1 (rawInt (i+1)) >>= λ_=>_) _ _ s;refine ao (wpAny_setField a b (by simp) ?_);have h:(s.heap.update it (Obj.mapFields (·.setIfInBounds 1 (rawInt (i+1))))).IsKeyIter it d (i+1) es.size ep:=⟨_,Heap.get?_update_self _ a (Obj.isFreed_of_fields (Obj.data_mapFields b _)),(Obj.cls_mapFields ..).trans c,by rw[Obj.data_mapFields b];simp[rawInt]⟩
 refine ao (wpAny_holding (ao (wpAny_isOneOf_keyiter h.typeIs ?_)));exact ak (ak ⟨_,rfl,ak (q _ h (Heap.SameBut.update ..))⟩)
def Pg(k:A.handled=none)(j:s.heap.IsKeyIter it d es.size es.size ep)(x:xU s.heap d es ep)(q:∀f,Heap.ExtBut it s.heap f->Q none {s with heap:=f}) :
  wpAny (model prog w) A (pyNext (.ref it)) Q E s:=by
 obtain⟨o,a,c,b⟩:=id j;obtain⟨l,g,m,h⟩:=id x;have e:Builtin.Dict_items.ownsTuple "dict_keyiterator" = false:=by decide
 unfold pyNext;refine ao (wpAny_attempt (wpAny_callSpecial?_slot j.typeIs F.slot_dict_keyiterator_next (wpAny_call_entry F.slot_dict_keyiterator_next j.typeIs F.entry_dict_keyiterator_next ?_ (F.args_dict_keyiterator_next_1 _))));refine ao (ak (ao (ao ?_)));first|refine ao (wpAny_typeNameOfWhole_keyiter j.typeIs (ak (ao (wpAny_fieldsOf a b ?_))))|refine ao (wpAny_typeNameOf_keyiter j.typeIs (ak (ao (wpAny_fieldsOf a b ?_))))
 simp only[e,cE,if_false];show wpAny _ _ (if (Value.ref d==Value.none)=true then _ else _) _ _ s;rw[aR (λz=>nomatch z)];refine ao (ak (ao (wpAny_dictEntries g h ?_)));rw[aR (by simp)];refine ao (ak (ao (wpAny_dictEpoch g h ?_)));rw[aR (by simp)];refine ak ?_;simp only[show ¬(es.size<0) from by lia,if_false,bV,Array.getElem?_eq_none (aK es.size)];refine ao ?_;first|refine ao (wpAny_typeNameOfWhole_keyiter j.typeIs (ak ?_))|refine ao (wpAny_typeNameOf_keyiter j.typeIs (ak ?_))
 show wpAny _ _ (setField (.ref it) 0 .none >>= λ_=>_) _ _ s;refine ao (wpAny_setField a b (by simp) ?_);refine ao ?_;simp only[newExc,newTuple];refine ao (wpAny_newObj_type ?_ (by size_fits));refine ao (wpAny_of_eq (by first|rfl|(simp only[firstArgMember];rfl)) ?_);refine wpAny_newObj_type ?_ (by size_fits);simp only[raiseNew];refine ao (wpAny_handled ?_);rw[show A.in1.handled=none from k];refine ao (ak (wpAny_throw ?_));refine ao (wpAny_isInstance ⟨_,ar _ rfl,rfl⟩ isSubtype_stop ?_);exact ak (q _ (((Heap.SameBut.update ..).extBut.push _).push _))
def Ju(g:A.handled=none) I d (ne:d≠I) es ep :
  Walks prog w A I [I,d] [I] es.size (λi v=>∃e,es[i]? = some e/\v=e.key) (λi h=>h.IsKeyIter I d i es.size ep/\xU h d es ep) where
 sub:=λb a=>by simp at a;simp[a]
 frame:=λ_ _ _ x k=>⟨x.1.at λo e=>k I (.head _) o e,x.2.to λo e=>k d (.tail _ (.head _)) o e⟩
 item:=λi s Q E f x q=>RW x.1 x.2 f λc j k=>q _ c s.toks ⟨es[i],by simp[f],rfl⟩ ⟨j,x.2.to λo e=>k.extBut d o ne e⟩ λb o a e=>k.extBut b o (λz=>a (by simp[z])) e
 done:=λs Q E x q=>Pg g x.1 x.2 λc k=>q c s.toks λb o a e=>k b o (λz=>a (by simp[z])) e
 self:=λ_ _ _ _ x q=>wpAny_pyIter_keyiter x.1 q
def Pt(b:(d==sysModules)=false):W.KdlSrc prog w "dict" d d es.size (λi v=>∃e,es[i]? = some e/\v=e.key) (λh=>xU h d es ep) where
 type:=λ_ x=>x.ty
 there:=λ_ x=>⟨x.lt,x.lt⟩
 keep:=λ_ _ x k=>x.to λo e=>k d (.inl rfl) o e
 notList:=by decide
 notTuple:=by decide
 hint:=λ_ _ _ _ x q=>W.kdl_hint_dict x.ty q
 iter:=λ_ _ a x=>⟨_,_,(λ_ _ q=>NT b x q),Ju a _ d (aM x.lt) es ep,⟨⟨_,ar _ rfl,rfl,rfl⟩,x.to λo e=>ae _ e⟩⟩
end
def yt{xs us}(a:xs.length=us.length)(h:∀(i:Nat) v,us[i]? = some v->∃x,xs[i]? = some x/\kr x v):jZ xs us:=by
 induction xs generalizing us with
 |nil=>cases us with
  |nil=>exact .nil
  |cons=>cases a
 |cons x xs ih=>cases us with
  |nil=>cases a
  |cons u us=>obtain⟨b,e,r⟩:=h 0 u rfl;cases e;exact .cons r (ih (Nat.succ.inj a) λi=>h (i+1))
def BD{F:α->β->Prop}{l:List α}{m:List β}{i:Nat}{a:α}(h:Paired F l m)(e:l[i]? = some a):∃b,m[i]? = some b/\F a b:=by
 induction h generalizing i with
 |nil=>cases e
 |cons h _ ih=>cases i with
  |zero=>cases e;exact⟨_,rfl,h⟩
  |succ i=>exact ih (i:=i) e
section
variable {X:Cx}
theorem FK(Z:X.calm=true):l6 X (.type "list") (λE H Q=>∃a kvs,E=[.ref a]/\H a=some (.dT kvs)/\∀(l:Addr) (bs:List Addr),H l=none->bs.length=kvs.length->
  (∀(i:Nat) (b:Addr),bs[i]? = some b->∃k v,kvs[i]? = some (k,v)/\H b=some (.tup (k.map kV)))->Q (.ref l) (kU H l (.lst (bs.map V.ref)))):=by
 intro iO s σ H E us Q I r h;obtain⟨a,kvs,rfl,e,q⟩:=h;obtain⟨u,rfl,U⟩:=qL r;cases U;obtain⟨z,R,g,C,o,x,ep,ho,ex,dt,D,nd⟩:=(I.hok a _ e);have sz:x.size=g.length:=by rw[<-bA,D,aw]
 have p:=Paired.length C;refine W.kdl_call (Pt R) (I.ok.hd Z) (⟨o,ho,ex,dt⟩:xU s.heap a x ep) (by rw[sz,<-p];exact z) λK tk c S P hl d=>?_;have A:∀(i:Nat) v,c[i]? = some v->∃y,g[i]? = some y/\v=.ref y.2.1:=λi v hv=>by
  obtain⟨en,N,L⟩:=d.2 i v hv;have m:x.toList[i]? = some en:=by simpa using N
  rw[D,av]at m;cases f:g[i]? with
  |none=>rw[f]at m;cases m
  |some y=>rw[f]at m;cases m;exact⟨y,rfl,L⟩
 have Y:c.size=g.length:=by rw[<-sz];exact d.1
 have va:jZ ((g.map λy=>y.2.1).map V.ref) c.toList:=by refine yt (by simp[Y]) λi v hv=>?_;obtain⟨y,n,B⟩:=A i v (by simpa using hv);exact⟨.ref y.2.1,by simp[n],by rw[B];rfl⟩
 refine⟨.ref s.heap.objs.size,_,I.laid P (aK _) (show mQ X.prog X.w _ K _ (.lst ((g.map λy=>y.2.1).map V.ref)) from ⟨by simp[<-p];exact z,c.toList,S,va,by simpa using hl⟩),rfl,q _ _ (I.hok.fresh (aK _)) (by simp[p]) λi b j=>?_⟩;rw[av]at j;cases f:g[i]? with
 |none=>rw[f]at j;cases j
 |some y=>
  rw[f]at j;cases j;have F:i<kvs.length:=by rw[p];exact (aa.mp f).1
  obtain⟨y',n,B,J,e4⟩:=BD C (ag F);rw[f]at n;cases n;exact⟨_,_,ag F,J⟩
end
end L2
namespace L2
open PySem PySem.Spec PyProof.Rows
noncomputable def WR(K:W.Frag)(a:Addr)(n:Nat):It:=⟨λi H=>i<n/\∃b x,nh K H a b/\b.length=n/\b[n-1-i]? = some x,λi H x c=>c=H/\∀b,nh K H a b->b[n-1-i]? = some x,λi H=>i=n/\∃b,nh K H a b⟩
def NJ{K:W.Frag} a it n:DK P w K tg (WR K a n) [it] it (λi h=>h.IsRevIter it a ((n:Int)-1-i)) where
 mem:=by simp
 obj:=λi h f b g=>by
  obtain rfl:b=it:=by simpa using g
  obtain⟨o,e,c,d⟩:=f;exact⟨o,e,λv z=>by rw[d]at z;cases z⟩
 keep:=λi h L f k=>f.at λo e=>k it (.head _) o e
 item:=by
  intro X q hw B Q i Y s σ H E I l f F;subst q hw B;obtain⟨hi,xs,x,J,hn,N⟩:=F;obtain⟨S,rv,p,hz⟩:=I.list J;obtain⟨u,U,ru⟩:=rv.get N;obtain⟨m,D,R,C,A,y⟩:=l it (.head _);have r:n-1-i=((n-1-i:Nat):Int):=by omega
  rw[r]at f;refine wpAny_pyNext_rev_item f p.isList (by simpa using U) λL j sb=>?_;have I1:=I.turned (t':=s.toks) (λb o g e=>(sb.2 b g).trans e) m D C A y;have Z:((n-1-i:Nat):Int)-1=n-1-((i+1):Int):=by lia
  rw[Z]at j;obtain⟨o,e,c,d⟩:=id j;exact⟨u,rfl,Ie e c d (by decide) ⟨x,H,I1,ru,⟨rfl,λys hy=>by rw[I.list_inj hy J];exact N⟩,j,λb g=>(l b g).1⟩⟩
 done:=by
  intro X q hw B Q i Y s σ H E I l f F;subst q hw B;obtain⟨rfl,xs,J⟩:=F;obtain⟨m,D,R,C,A,y⟩:=l it (.head _);have r:(i:Int)-1-i = -1:=by lia
  rw[r]at f;exact wpAny_pyNext_rev_end (I.ok.hd Q) f λL eb=>⟨rfl,I.turned (λb o g e=>eb b o g e) m D C A y⟩
 self:=λ_ _ _ _ _ f h=>wpAny_pyIter_revIter f h
section
variable {X:Cx}{tg:Expr}
def R4(K:W.Frag)(e:TA):TI:=λc H R=>e c H λd b=>∃l a,d=[.ref l]/\nh K b l a/\R (WR K l a.length) b
def Ol(D:Gl X "reversed")(v:X.mg "reversed" = none)(A:PA X [a] ta)(F:starEach [a] X.env=[(false,eval a X.env)]:=by rfl) :
  PI X tg (.Call (.Name "reversed" p) [a] [] pos) (R4 X.K ta):=by
 intro g s i H R I h;refine Call_ (sT I D v (by decide +kernel:bootBuiltins "reversed" = some (.type "reversed")) (PyProof.Rows.callWith_type1 (lV (A pos g s i H _ I h) λL c E=>?_) F rfl));obtain⟨N,j,f,r,x⟩:=E;obtain⟨l,m,rfl,J,q⟩:=x;obtain⟨u,rfl,y⟩:=qL r;cases y;obtain⟨d,C,w,P⟩:=f.list J;have B:=C.length;refine call_reversed_list w.isList ?_;have z:jq X g i j {c with heap:=c.heap.push (revObj l (d.toArray.size-1))}:=f.kept λb o e=>ae _ e;have k:(c.heap.push (revObj l (d.toArray.size-1))).IsRevIter c.heap.objs.size l (m.length-1-(0:Int)):=⟨_,ar _ rfl,rfl,by simp[revObj,B]⟩;refine wpAny_pyIter_revIter k ?_;refine⟨c.heap.objs.size,[c.heap.objs.size],_,_,j,rfl,z,NJ l _ m.length,k,λb n=>?_,q⟩;obtain rfl:b=c.heap.objs.size:=by simpa using n
 exact f.fpOk (aK _) (f.hok.fresh (aK _))
end
end L2
namespace L2
open PySem PySem.Spec PyProof.Rows
abbrev V9(h:Heap)(e it:Addr)(i:Int)(item:Value)(a:Addr)(f:Bool):Prop:=h.get? e=some {cls:=.type "enumerate",dict:=none,data:=.fields #[rawInt a,.bool f,.ref it,rawInt i,.none,item],slots:=#[]}
section
variable {prog:Program}{w:World}{A:Around}{E:Value->Shared->Prop}{s:Shared}
theorem Fs{i:Nat}{Q:Value->Shared->Prop}(R:V9 s.heap e it i old a f)(ha:s.heap.get? a=some oa)(P:a≠e)(J:a≠it)(hi:nK b s.heap it l i)(hl:lD b s.heap l xs)(k:e≠it)
  (D:∀x h,xs[i]? = some x->V9 h e it ((i:Int)+1) old a true->nK b h it l (i+1)->h.get? s.heap.objs.size=some {cls:=.type "tuple",data:=.seq #[.int i s.toks,x]}->h.objs.size=s.heap.objs.size+1->
   (∀c o,c≠e->c≠it->s.heap.get? c=some o->h.get? c=some o)->Q (.ref s.heap.objs.size) {s with heap:=h,toks:=s.toks+1})
  (no:xs[i]? = none->A.handled=none/\∀h x,Heap.ExtBut it s.heap h->(∃o,h.get? x=some o/\o.cls=.type "StopIteration")->E (.ref x) {s with heap:=h}) :
  wpAny (model prog w) A (Builtin.«enumerate.__next__» ⟨[.ref e],[]⟩) (λU s'=>∃v,U=.done (.ret v)/\Q v s') E s:=by
 obtain⟨L,g,d,m,I⟩:=s;show wpAny _ _ (field (.ref e) 2 >>= λ_=>_) _ _ _;refine ao (wpAny_field R rfl rfl (ao (v7 hi hl (λx F Y X k1=>?_) no)));have r:=k1;have K:=(r.2 e k).trans R;show wpAny _ _ (field (.ref e) 3 >>= λ_=>_) _ _ ⟨F,g,d,m,I⟩;refine ao (wpAny_field K rfl rfl ?_);show wpAny _ _ (field (.ref e) 4 >>= λ_=>_) _ _ ⟨F,g,d,m,I⟩;refine ao (wpAny_field K rfl rfl ?_);show wpAny _ _ (mkInt i >>= λ_=>_) _ _ ⟨F,g,d,m,I⟩;refine ao (wpAny_mkInt (ao (wpAny_setField_rec K (by simp) λg2 y2 N=>?_)));have z2:=y2;refine ao (wpAny_setField_rec z2 (by simp) λn y3 S=>?_);have z3:=y3;refine ao (wpAny_newTuple ?_);have sz:n.objs.size=L.objs.size:=by have a:=S.1;have c:=N.1;have u:=r.1;dsimp only at a c u;lia
 have H:V9 (n.push {cls:=.type "tuple",data:=.seq #[.int i m,x]}) e it ((i:Int)+1) old a f:=ae _ z3;have el:=aL R;have C:∀c o,c≠e->c≠it->L.get? c=some o->n.get? c=some o:=λc o p y q=>S.extBut c o p (N.extBut c o p (r.extBut c o y q));have a4:(n.push {cls:=.type "tuple",data:=.seq #[.int i m,x]}).get? a=some oa:=ae _ (C a oa P J ha);have tp:(n.push {cls:=.type "tuple",data:=.seq #[.int i m,x]}).get? n.objs.size=some {cls:=.type "tuple",data:=.seq #[.int i m,x]}:=ar _ rfl;have up:∀c o,c≠e->c≠it->L.get? c=some o->(n.push {cls:=.type "tuple",data:=.seq #[.int i m,x]}).get? c=some o:=λc o p y q=>ae _ (C c o p y q);have Z:∀o,F.get? it=some o->(n.push {cls:=.type "tuple",data:=.seq #[.int i m,x]}).get? it=some o:=λo q=>ae _ (S.extBut it o (Ne.symm k) (N.extBut it o (Ne.symm k) q));show wpAny _ _ (Builtin.SmallTypes.ownedTupleIsFree (.ref e) >>= λ_=>_) _ _ _;unfold Builtin.SmallTypes.ownedTupleIsFree;refine ao (ao (wpAny_field H rfl rfl ?_));show wpAny _ _ (loadIfAlive ((a:Int).toNat) >>= λ_=>_) _ _ _;rw[bV];refine ao (W.kdx_alive a4 ?_);simp only[Option.isNone_some,cE,if_false];refine ao (wpAny_field H rfl (x:=.bool f) rfl ?_);cases f with
 |true=>rw[aR (λz=>nomatch z)];refine ak ?_;simp only[cE,if_false];refine ak ⟨_,rfl,?_⟩;rw[sz]at tp ⊢;exact D x _ Y H (X.to Z) tp (by rw[Heap.size_push,sz]) up
 |false=>rw[aQ (show (Value.bool false != Value.bool true)=true from rfl)];refine ao (wpAny_setField_rec H (by simp) λg5 y5 k5=>?_);have z5:=y5;have j:=k5;refine ak ?_;simp only[cE,if_false];refine ak ⟨_,rfl,?_⟩;have B:=j.extBut _ _ (by rw[sz];exact bC el) tp;rw[sz]at B ⊢;exact D x g5 Y z5 (X.to λo q=>j.extBut it o (Ne.symm k) (Z o q)) B (by rw[j.1,Heap.size_push,sz]) λc o p y q=>j.extBut c o p (up c o p y q)
def IK(h:Heap)(e it:Addr)(i:Nat):Prop:=(i=0/\∃b,IsEnum h e it 0 b)\/∃b a f c,V9 h e it i b a f/\h.get? a=some c/\a≠e/\a≠it
def IK.keep(x:IK h e it i)(v:∀o,h.get? S=some o->o.cls=.type "list")(d:∀b o,b≠S->h.get? b=some o->h'.get? b=some o)(g:∀o,h.get? S=some o->∃k,h'.get? S=some k)(l:e≠S):IK h' e it i:=by
 rcases x with⟨z,c,q⟩|⟨c,a,f,p,q,r,n,m⟩
 .exact .inl ⟨z,c,d _ _ l q⟩
 .by_cases u:a=S
  .subst u;obtain⟨k,j⟩:=g p r;exact .inr ⟨c,a,f,k,d _ _ l q,j,n,m⟩
  .exact .inr ⟨c,a,f,p,d _ _ l q,d _ _ u r,n,m⟩
def Ab(st:IK s.heap e it i)(K:nK b s.heap it l i)(J:lD b s.heap l xs)(h:e≠it)(u:e<s.heap.objs.size)(D:it<s.heap.objs.size)
  (g:∀x d,xs[i]? = some x->IK d e it (i+1)->nK b d it l (i+1)->d.get? s.heap.objs.size=some {cls:=.type "tuple",data:=.seq #[.int i s.toks,x]}->d.objs.size=s.heap.objs.size+1->
   (∀c o,c≠e->c≠it->s.heap.get? c=some o->d.get? c=some o)->Q (some (.ref s.heap.objs.size)) {s with heap:=d,toks:=s.toks+1})
  (v:xs[i]? = none->A.handled=none/\∀d,Heap.ExtBut it s.heap d->Q none {s with heap:=d}):wpAny (model prog w) A (pyNext (.ref e)) Q E s:=by
 rcases st with⟨rfl,j,n⟩|⟨j,a,f,H,n,I,r,p⟩
 .exact xB n K J h (λx d B z y m C k=>g x d B (.inr ⟨x,_,false,_,by simpa using z,m,bC u,bC D⟩) y m C k) v
 .have ty:s.TypeIs (.ref e) "enumerate" :=⟨_,n,rfl⟩;unfold pyNext;refine ao (wpAny_attempt (wpAny_callSpecial?_slot ty F.slot_enumerate_next (wpAny_call_entry F.slot_enumerate_next ty F.entry_enumerate_next
   (Fs n I r p K J h (λx d B z y m C k=>ak (g x d B (.inr ⟨j,a,true,H,by simpa using z,k a H r p I,r,p⟩) y m C k)) λq=>⟨(v q).1,λd x hk ⟨o,ho,hc⟩=>?_⟩) (F.args_enumerate_next_1 _))))
  exact ao (wpAny_isInstance ⟨o,ho,hc⟩ isSubtype_stop (ak ((v q).2 d hk)))
def J6:typeLookup (.type "enumerate") "__len__" = pure none:=by rw[typeLookup_type,builtinLookup_eq_fast];kernel_rfl
def FU:typeLookup (.type "enumerate") "__length_hint__" = pure none:=by rw[typeLookup_type,builtinLookup_eq_fast];kernel_rfl
def WX(us:List Value)(b:Addr)(h:Heap)(as:List Addr):Prop:=∀(j:Nat) (a:Addr),as[j]? = some a->b<a/\∃t x,us[j]? = some x/\h.get? a=some {cls:=.type "tuple",data:=.seq #[.int j t,x]}
section
variable {R:Result->Shared->Prop}{us:List Value}{b:Bool}
theorem QC{S e it l:Addr}(hh:A.handled=none)(Q:e≠S)(K:it≠S)(hlS:l≠S)(hle:l≠e)(hli:l≠it)(Y:e≠it)(hn:us.length<=sizeLine)(res:Value){C:Heap}(H:e<C.objs.size/\it<C.objs.size/\S<C.objs.size)
  (hR:∀r J d c as,(∀c o,c≠S->c≠e->c≠it->C.get? c=some o->r.get? c=some o)->r.get? S=some {cls:=.type "list",dict:=none,data:=.seq d c,slots:=#[]}->as.length=us.length->(∀a∈as,C.objs.size<=a)->WX us 0 r as->
   d.toList=as.map Value.ref->R (.ok (.ret res)) {s with heap:=r,toks:=J}) :
  ∀(k i:Nat) (h:Heap) (J c:Nat) (d:Array Value) (as:List Addr),us.length-i=k->i<=us.length->IK h e it i->nK b h it l i->lD b h l us.toArray->(∀c o,c≠S->c≠e->c≠it->C.get? c=some o->h.get? c=some o)->C.objs.size<=h.objs.size->
   h.get? S=some {cls:=.type "list",dict:=none,data:=.seq d c,slots:=#[]}->d.toList=as.map Value.ref->as.length=i->(∀a∈as,C.objs.size<=a)->WX us 0 h as->
   codeAny (model prog w) A (.builtin "list.extend.loop" ⟨[.ref S,.ref e,res],[]⟩) R {s with heap:=h,toks:=J}:=by
 intro k;induction k with
 |zero=>
  intro i h J c d as hk hi L N I g f hS m v p hG;refine codeAny_builtin PySem.F.entry_extend_loop ?_;rw[Around.under_plainId PySem.F.plain_extend_loop _];show wpAny _ A.in1 (pyNext (.ref e) >>= λ_=>_) _ _ _;refine ao (Ab L N I Y (aE H.1 f) (aE H.2.1 f) (λx r hx=>?_) λ_=>⟨hh,λr ex=>?_⟩)
  .have:us[i]? = none:=List.getElem?_eq_none (by lia);have P:us[i]? = some x:=by simpa using hx
   rw[this]at P;cases P
  .refine ak (hR r J d c as (λc o q1 q2 U e=>ex c o U (g c o q1 q2 U e)) (ex S _ (Ne.symm K) hS) (by lia) p (λj a D=>?_) m);obtain⟨y,t,x,e1,e2⟩:=hG j a D;have z:=p a (au D);exact⟨y,t,x,e1,ex a _ (bC (aE H.2.1 z)) e2⟩
 |succ k ih=>
  intro i h J c d as hk hi L N I g f hS m v p hG;have n:d.size=i:=by rw[<-bA,m,aw,v]
  refine codeAny_builtin PySem.F.entry_extend_loop ?_;rw[Around.under_plainId PySem.F.plain_extend_loop _];show wpAny _ A.in1 (pyNext (.ref e) >>= λ_=>_) _ _ _;refine ao (Ab L N I Y (aE H.1 f) (aE H.2.1 f) (λx r hx st' it' ht hz u=>?_) λq=>?_)
  .dsimp only at ht hz u ⊢;have B:=u S _ (Ne.symm Q) (Ne.symm K) hS;have up:∀c o,c≠S->r.get? c=some o->(r.update S (Obj.mapSeq (·.push (Value.ref h.objs.size)))).get? c=some o:=λc o z e=>(Heap.get?_update_other _ _ (Ne.symm z)).trans e;have Z:=aE H.2.2 f;refine ao (wpAny_updateSeq B rfl (ak ⟨plainId_quiet PySem.F.plain_extend_loop _,ih (i+1) _ (J+1) _ (d.push (Value.ref h.objs.size)) (as++[h.objs.size]) (by omega) (by lia)
    (st'.keep (λo ho=>by rw[B]at ho;cases ho;rfl) up (λo ho=>⟨_,Heap.get?_update_self _ B rfl⟩) Q) (it'.to λo q=>up it o K q) (I.to λo q=>up l o hlS (u l o hle hli q))
    (λc o q1 q2 U e=>up c o q1 (u c o q2 U (g c o q1 q2 U e))) (by rw[Heap.size_update];show C.objs.size<=r.objs.size;lia) (Heap.get?_update_self _ B rfl) (by rw[Array.toList_push,m,aZ];rfl) (by rw[aT,v];rfl) (λa X=>?_) (λj a D=>?_)⟩) (by rw[n];exact aN hi hn) (by rw[Array.size_push,n];lia))
   .rcases ai.mp X with X|X
    .exact p a X
    .rw[aj.mp X];exact f
   .rcases cX j as.length with q|q|q
    .rw[List.getElem?_append_left q]at D;obtain⟨y,t,x',e1,e2⟩:=hG j a D;have z:=p a (au D);have n1:=bC (aE H.2.2 z);have n2:=bC (aE H.1 z);have n3:=bC (aE H.2.1 z);exact⟨y,t,x',e1,up a _ n1 (u a _ n2 n3 e2)⟩
    .subst q;have z:h.objs.size=a:=by simpa using D
     subst z;refine⟨cD (bN _) Z,J,x,by rw[v];simpa using hx,?_⟩;rw[v];exact up _ _ (bC Z) ht
    .have V6:(as++[h.objs.size])[j]? = none:=List.getElem?_eq_none (by rw[aT,cw];exact q);rw[V6]at D;cases D
  .exfalso;have:i<us.length:=by lia
   simp[this]at q
def Fo(hh:A.handled=none)(Y:IsEnum s.heap e it 0 .none)(hi:nK b s.heap it l 0)(hl:lD b s.heap l us.toArray)(N:l≠e)(Z:l≠it)(X:e≠it)(hn:us.length<=sizeLine)(H:it<s.heap.objs.size)(L:l<s.heap.objs.size)
  (q:∀m tk d c as,(∀c o,c≠e->c≠it->s.heap.get? c=some o->m.get? c=some o)->m.get? s.heap.objs.size=some {cls:=.type "list",dict:=none,data:=.seq d c,slots:=#[]}->as.length=us.length->(∀a∈as,s.heap.objs.size<a)->WX us 0 m as->
   d.toList=as.map Value.ref->Q (.ref s.heap.objs.size) {s with heap:=m,toks:=tk}):wpAny (model prog w) A (call (.type "list") [.ref e]) Q E s:=by
 have x:=aL Y;refine callType_codes (Q₁:=λD i=>D=.ref s.heap.objs.size/\i={s with heap:=s.heap.push {cls:=.type "list",data:=.seq #[]}}) PySem.F.called_list (PySem.F.typeCall_list_1 _) PySem.F.entry_list_init
  (code_list_new _ ⟨rfl,rfl⟩) λD i y=>?_
 obtain⟨rfl,rfl⟩:=y;generalize f:s.heap.objs.size=S at *;have I:(s.heap.push {cls:=.type "list",data:=.seq #[]}).get? S=some {cls:=.type "list",data:=.seq #[]}:=by rw[<-f];exact ar _ rfl
 have kp:∀c o,s.heap.get? c=some o->(s.heap.push {cls:=.type "list",data:=.seq #[]}).get? c=some o:=λc o z=>ae _ z;refine⟨⟨_,I,rfl⟩,PySem.F.args_list_init_2 _ _,?_⟩;show wpAny _ _ (do let old <-Builtin.List.listItems (.ref S);Builtin.List.listUpdate (.ref S) (λ_=>#[]);letGo old.toList.reverse;Builtin.List.listExtendWith (.ref S) (.ref e) .none) _ _ {s with heap:=s.heap.push {cls:=.type "list",data:=.seq #[]}};refine ao ?_;unfold Builtin.List.listItems;refine ao (wpAny_seqItems I rfl (ak ?_));refine ao (wpAny_updateSeq I rfl ?_);have v:=Heap.get?_update_self (Obj.mapSeq (λ_=>(#[]))) I rfl;have k2:∀c o,c≠S->s.heap.get? c=some o->((s.heap.push {cls:=.type "list",data:=.seq #[]}).update S (Obj.mapSeq (λ_=>(#[])))).get? c=some o:=λc o p z=>(Heap.get?_update_other _ _ (Ne.symm p)).trans (kp c o z);refine ao (wpAny_letGo ?_);have g:=aM x;have n:=aM H;have r:=aM L;have u:=k2 e _ g Y;unfold Builtin.List.listExtendWith;have k:Shared.TypeIs {s with heap:=(s.heap.push {cls:=.type "list",data:=.seq #[]}).update S (Obj.mapSeq (λ_=>(#[])))} (.ref e) "enumerate" :=⟨_,u,rfl⟩;refine ao (wpAny_typeOf k ?_);have g1:Builtin.List.listSameRef (.ref S) (.ref e)=false:=by simp[Builtin.List.listSameRef,Ne.symm g]
 have g2:(Value.type "enumerate" == Value.type "list")=false:=by decide
 have g3:(Value.type "enumerate" == Value.type "tuple")=false:=by decide
 simp only[g1,g2,g3,Bool.or_false,cE,if_false];refine ao (wpAny_pyIter_enum u ?_);refine ao (wpAny_holding ?_);unfold Builtin.List.listLengthHint;refine ao (wpAny_specialOf k J6 ?_);refine ao (wpAny_specialOf k FU ?_);refine ak ?_;refine ao (wpAny_rule (ao ?_));refine ao (wpAny_updateSeq v rfl ?_);have B:=Heap.get?_update_self (Obj.mapSeq (·.push Value.none)) v rfl;refine wpAny_updateSeq B rfl ?_;have K:=Heap.get?_update_self (Obj.mapSeq (·.pop)) B rfl;have J:∀c o,c≠S->s.heap.get? c=some o->((((s.heap.push {cls:=.type "list",data:=.seq #[]}).update S (Obj.mapSeq (λ_=>(#[])))).update S (Obj.mapSeq (·.push Value.none))).update S (Obj.mapSeq (·.pop))).get? c=some o:=λc o p z=>(Heap.get?_update_other _ _ (Ne.symm p)).trans ((Heap.get?_update_other _ _ (Ne.symm p)).trans (k2 c o p z))
 have h:((((s.heap.push {cls:=.type "list",data:=.seq #[]}).update S (Obj.mapSeq (λ_=>(#[])))).update S (Obj.mapSeq (·.push Value.none))).update S (Obj.mapSeq (·.pop))).objs.size=S+1:=by rw[Heap.size_update,Heap.size_update,Heap.size_update,Heap.size_push,f]
 refine ak ⟨plainId_quiet PySem.F.plain_extend_loop _,?_⟩;generalize hh4:((((s.heap.push {cls:=.type "list",data:=.seq #[]}).update S (Obj.mapSeq (λ_=>(#[])))).update S (Obj.mapSeq (·.push Value.none))).update S (Obj.mapSeq (·.pop)))=h4 at *;refine QC (A:=A.in1) hh g n r N Z X hn .none ⟨by rw[h];exact cH x,by rw[h];exact cH H,by rw[h];exact bM _⟩ (λm tk d c as kk P e1 e2 e3 e4=>⟨rfl,?_⟩)
  us.length 0 h4 _ _ #[] [] (cY _) (bN _) (.inl ⟨rfl,_,J e _ g Y⟩) (hi.to λo z=>J it o n z) (hl.to λo z=>J l o r z) (λ_ _ _ _ _ z=>z) (aK _) K rfl rfl (λa U=>nomatch U) (λj a hj=>by simp at hj)
 exact q m tk d c as (λc o z1 z2 C=>kk c o (λzz=>by rw[zz]at C;exact absurd (aL C) (by rw[f];exact a9 _)) z1 z2 (J c o (λzz=>by rw[zz]at C;exact absurd (aL C) (by rw[f];exact a9 _)) C)) P e1 (λa U=>by have:=e2 a U;rw[h]at this;exact this) e3 e4
end
end
end L2
namespace L2
open PySem PySem.Spec PyProof.Rows
section
variable {X:Cx}
theorem zL(n:jZ xs us)(e:2<=sizeLine):∀(as:List Addr) (j:Nat) (H:Hp),jq X iO σ H s->(∀a∈as,vN X iO H a)->as.Nodup->
  (∀i a,as[i]? = some a->∃t x,us[j+i]? = some x/\s.heap.get? a=some {cls:=.type "tuple",data:=.seq #[.int ((j+i:Nat):Int) t,x]})->
  ∃d,jq X iO σ d s/\jI H d/\(∀a,a∉as->d a=H a)/\∀i a,as[i]? = some a->∃x,xs[j+i]? = some x/\d a=some (.tup [.int ((j+i:Nat):Int),x])
 |[],j,H,I,_,_,_=>⟨H,I,.refl _,λ_ _=>rfl,λi a h=>by simp at h⟩
 |a::as,j,H,I,hf,nd,hg=>by
  obtain⟨t,u,q,y⟩:=hg 0 a rfl;obtain⟨o,N,Q,K,J,D⟩:=hf a (.head _);have B:j+0<xs.length:=by rw[n.length];exact (aa.mp q).1
  have r:=ag B;obtain⟨R,p,P⟩:=n.get r;rw[q]at p;cases p;have L:jq X iO σ (kU H a (.tup [.int ((j+0):Int),xs[j+0]])) s:=I.track o K N J D ⟨e,[.int ((j+0):Int) t,u],.cons ⟨_,rfl⟩ (.cons P .nil),⟨_,y,rfl,_,rfl,rfl⟩⟩;obtain⟨l,m⟩:=bQ.mp nd;obtain⟨d,A,v,C,w⟩:=zL n e as (j+1) _ L (λb c=>by obtain⟨g0,F⟩:=hf b (by simp[c]);have ne:b≠a:=λz=>l (z▸c);exact⟨by rw[ja ne];exact g0,F⟩) m (λi b c=>by obtain⟨E,k,f,g⟩:=hg (i+1) b c;rw[show j+(i+1)=j+1+i by lia]at f g;exact⟨E,k,f,g⟩)
  refine⟨d,A,(qE o).trans v,λb c=>?_,λi b c=>?_⟩
  .rw[C b (λz=>c (by simp[z])),ja (λz=>c (by simp[z]))]
  .cases i with
   |zero=>simp at c;subst c;exact⟨_,r,v _ _ jb⟩
   |succ i=>obtain⟨k,f,g⟩:=w i b c;rw[show j+1+i=j+(i+1) by lia]at f g;exact⟨k,f,g⟩
def WN(K:W.Frag)(h:TA):TE:=λf H Q=>h f H λg d=>∃b l e,g=[.ref l]/\yP K d b l e/\∀(p:Addr) (as:List Addr) (c:Hp),jI d c->d p=none->c p=some (.lst (as.map V.ref))->as.length=e.length->
 (∀(i:Nat) (a:Addr),as[i]? = some a->d a=none/\a≠p/\∃x,e[i]? = some x/\c a=some (.tup [.int (i:Int),x]))->Q (.ref p) c
def LM(hc:X.calm=true)(hg:Gl X "list")(r:X.mg "list" = none)(Z:Gl X "enumerate")(S:X.mg "enumerate" = none)(f:PA X [a] ta)(hs:starEach [a] X.env=[(false,eval a X.env)]:=by rfl)
  (he:starEach [Expr.Call (.Name "enumerate" p2) [a] [] pos2] X.env=[(false,eval (.Call (.Name "enumerate" p2) [a] [] pos2) X.env)]:=by rfl) :
  PE X (.Call (.Name "list" p1) [.Call (.Name "enumerate" p2) [a] [] pos2] [] pos) (WN X.K ta):=by
 intro iO s σ H Q I h;refine wpAny_Call_Name_kw (sT I hg r (by decide +kernel:bootBuiltins "list" = some (.type "list")) ?_);refine PyProof.Rows.callWith_type1 ?_ he rfl;rw[he];refine Calls.spliced_cons (Call_ (sT I Z S boot_enumerate (PyProof.Rows.callWith_type1 (lV (f pos2 iO s σ H _ I h) λus C z0=>?_) hs rfl)));obtain⟨vs,H1,m,r1,q1⟩:=z0;obtain⟨b,l,xs,rfl,hq,q⟩:=q1;obtain⟨u,rfl,rx⟩:=qL r1;cases rx;obtain⟨us,rv,k,hz⟩:=m.seqB hq;refine BE k λp P R d hk=>Calls.spliced_nil ?_;have N:l<C.heap.objs.size:=by obtain⟨o,n,e,_⟩:=k.look;exact aL e
 have U:=rv.length;refine Fo (m.ok.hd hc) P R (k.to λo e=>hk l o e) (aM (cH N)) (aM N) (Nat.succ_ne_self _) (by rw[<-U];exact hz) (by show _<p.objs.size;rw[d];exact bL _) (by rw[d];exact aE N (cJ _ _)) λh2 tk w c as k2 hS A B J y=>?_;have kk:∀b o,C.heap.get? b=some o->h2.get? b=some o:=λb o e=>by have lt:=aL e;exact k2 b o (aM (cH lt)) (aM lt) (hk b o e)
 have I2:=m.kept (t':=tk) kk;have fp:∀b,C.heap.objs.size<=b->vN X iO H1 b:=λb hb=>m.fpOk hb (m.hok.fresh hb);have g:∀a∈as,C.heap.objs.size<=a:=λa f=>by have:=B a f;rw[d]at this;lia
 have nd:as.Nodup:=by refine cZ.mpr λi j D hj hij e=>?_;obtain⟨_,t1,x1,_,g1⟩:=J i _ (ag D);obtain⟨_,t2,x2,_,g2⟩:=J j _ (ag hj);rw[e,g2]at g1;simp at g1;lia
 obtain⟨H',I3,s3,o3,g3⟩:=zL rv (by decide) as 0 H1 I2 (λa f=>fp a (g a f)) nd (λi a f=>by obtain⟨_,t,x,E,F⟩:=J i a f;rw[aG];exact⟨t,x,E,F⟩)
 have Y:p.objs.size∉as:=λr=>a9 _ (B _ r);have L:H1 p.objs.size=none:=m.hok.fresh (by rw[d];exact cJ _ _);obtain⟨f0,f1,f2,f3,f4,f5⟩:=fp p.objs.size (by rw[d];exact cJ _ _);have va:jZ (as.map V.ref) w.toList:=by
  rw[y];refine yt (by simp) λi v hv=>?_;rw[av]at hv ⊢;cases D:as[i]? with
  |none=>rw[D]at hv;cases hv
  |some a'=>rw[D]at hv;cases hv;exact⟨_,rfl,rfl⟩
 have I4:jq X iO σ (kU H' p.objs.size (.lst (as.map V.ref))) {C with heap:=h2,toks:=tk}:=I3.track (by rw[o3 _ Y];exact f0) f3 f1 f4 f5 ⟨by rw[aw,A,<-U];exact hz,w.toList,c,va,by simpa using hS⟩;refine⟨.ref p.objs.size,_,I4,rfl,q _ as _ (s3.trans (qE (by rw[o3 _ Y];exact f0))) L jb (by rw[A,U]) λi a f=>?_⟩;have r:=au f;have ne:a≠p.objs.size:=λz=>Y (z▸r);obtain⟨x,E,F⟩:=g3 i a f;rw[aG]at E F;exact⟨m.hok.fresh (g a r),ne,x,E,by rw[ja ne];exact F⟩
end
end L2
namespace L2
open PySem PySem.Spec PyProof.Rows
section
variable {X:Cx}{o e:Expr}{to:TE}{t:TA}{apos cpos:Pos}
def Su(to:TE)(t:TA):TE:=λb H Q=>to b H λx d=>∃p a,x=.ref p/\d p=some (.tup ((a:LI).map V.int))/\t b d λf c=>∃k,f=[.int k]/\c p=some (.tup (a.map V.int))/\Q (.int (a.count k:Nat)) c
theorem AD(b:∀a t,f (.int a t)=(a==k)):∀{ns} {its},IntsAre its ns->List.countP f its=ns.count k
 |_,_,.nil=>rfl
 |_,_,.cons n t h=>by rw[c6,List.count_cons,AD b h,b]
theorem OO(ho:PE X o to)(ha:PA X [e] t)
  (c:attributeBase o "count" X.env (eval o X.env)=eval o X.env:=by rfl)
  (g:((backTo cpos (starEach [e] X.env)).all (λx=>!x.1)&&(backToKw cpos (keywordEach [] X.env)).all (λx=>x.1.isSome)
   && decide (([e]:List Expr).length+([]:List Keyword).length+(if ([]:List Keyword).isEmpty then 0 else 1)<30))=true:=by rfl)
  (d:(apos.endLine==cpos.line)=true:=by rfl) (hs:starEach [e] X.env=(false,eval e X.env)::starEach [] X.env:=by rfl) (hplain:(backTo cpos (starEach [] X.env)).any (·.1)=false:=by rfl) :
  PE X (.Call (.Attribute o "count" apos) [e] [] cpos) (Su to t):=by
 intro B s C H Q I h;refine wpAny_Call_method_late c g d rfl (lV (ho B s C H _ I h) λv s1 q=>?_);obtain⟨x,H1,J,P,p,ns,ex,S,q1⟩:=q;subst ex;cases P;obtain⟨z,U,r,o1,w,g2,n1,g3,g4⟩:=(J.hok p _ S);refine⟨"tuple", "tuple.count",PySem.F.plainAttrs_tuple,PySem.F.slot_tuple_count,PySem.F.type_tuple_count,⟨o1,w,g2⟩,λa ea=>?_,?_⟩
 .cases ea;exact⟨o1,w,g4⟩
 have L:=ha cpos B s1 C H1 _ J q1;rw[hs]at L ⊢;refine Calls.callWith_builtin (by show (false||(backTo cpos (starEach [] X.env)).any (·.1))=false;rw[hplain]<;>rfl) (Calls.evalArgs_plain ?_);refine lV L λus s2 q=>?_;obtain⟨vs,H2,E,Z,k,Y,j,q2⟩:=q;subst Y;obtain⟨u,rfl,ru⟩:=Z.one;obtain⟨K,rfl⟩:=ru;obtain⟨z2,b,rv,o2,A,R,n2,h3,h4⟩:=(E.hok p _ j);have D:=sG rv;let f:Value->Bool:=λv=>match v with
  |.int a _=>a==k
  |_=>false
 have hc:=AD (f:=f) (λa t=>rfl) D;obtain⟨oc,od,oda,l⟩:=o2;subst R h3 h4;have N:∀y∈b.toArray,MeetsSeq.EqGives y (.int k K) (f y):=λy m=>by obtain⟨i,n⟩:=c7.mp (show y∈b by simpa using m);obtain⟨t',rfl⟩:=D.int_at i y n;exact .int _ _ _ _
 refine call_meets PySem.F.slot_tuple_count ⟨_,A,rfl⟩ PySem.F.entry_tuple_count (PySem.F.args_tuple_count_2 _ _) (SeqAt.tuple_countAt p b.toArray n2 none l (.int k K) f) ⟨A,λy m=>(N y m).at _ _,?_⟩;refine⟨.int (ns.count k),H2,E.tok _,⟨s2.toks,?_⟩,q2⟩;rw[<-hc]
end
end L2
namespace L2
open PySem PySem.Spec PyProof.Rows
def OK:typeLookup (.type "list") "keys" = pure none:=by rw[typeLookup_type,builtinLookup_eq_fast];kernel_rfl
def B6:entryFor table "dict.update.loop" = some Builtin.«dict.update.loop»:=entryFor_of_tree (by kernel_rfl)
def uF:plainId "dict.update.loop" = true:=by decide +kernel
def Jx
  (p:s.heap.get? a=some o) (q:o.cls=.type "list") (f:o.data=.seq xs k) (n:o.dict=none) (C:A.handled=none)
  (h:∀m r,(∀b l,s.heap.get? b=some l->m.get? b=some l)->Q none {s with heap:=m,toks:=r}) :
  wpAny (model prog w) A (getAttr? (.ref a) "keys") Q E s:=by
 obtain⟨c,x,B,D⟩:=o;simp only at q f n;subst q f n;obtain⟨z,g,d,r,y⟩:=s;have u:∀j,(⟨z,g,d,j,y⟩:Shared).TypeIs (.ref a) "list" :=λ_=>⟨_,p,rfl⟩;have P:=sub_AttributeError;have L:=F.slot_list_getattribute.lookup;have J:=F.slot_list_getattribute.bind (.ref a);have H:=am_list_getattr_none;unfold getAttr? getAttrBy? getAttrBy;(repeat (any_goals (first|assumption|exact u _|((with_reducible show wpAny _ _ (call (Value.builtin "list.__getattribute__") _ _) _ _ _);refine call_meets F.slot_list_getattribute (u _) am_entry_list_getattribute (F.args_list_getattribute_2 _ _) (meets_getattribute_miss_list a xs k D "keys" _ OK (by decide +kernel) (by size_fits)) ⟨p,C,λm j e i=>?_⟩)|wp_step)));obtain⟨I,K,N⟩:=i.there;unfold getattributeRaised;(repeat (any_goals (first|assumption|wp_step)));exact h _ _ λb l v=>i.keeps b l v
section
variable {X:Cx}{iO:List (Addr×Obj)}{σ:St}{H:Hp}{s:Shared}
abbrev Pr:=Addr×Addr×List rM×V
def Q3(H:Hp)(q:Pr):Prop:=H q.1=some (.tup [.ref q.2.1,q.2.2.2])/\H q.2.1=some (.tup (q.2.2.1.map kV))
noncomputable def xM(kvs:List (List rM×V))(a:List Pr):List (List rM×V):=a.foldl (λk q=>rO k q.2.2.1 q.2.2.2) kvs
def Ja(u:A.units<cLine)(I:jq X iO σ H s)(e:H d=some (.dT kvs))(i:H b=some (.tup (k.map kV)))(l:kvs.length<sizeLine)(L:kr v r)
  (h:∀a t',Heap.SameBut d s.heap a->jq X iO σ (kU H d (.dT (rO kvs k v))) {s with heap:=a,toks:=t'}->Q () {s with heap:=a,toks:=t'}):wpAny (model X.prog X.w) A (dictSet d (.ref b) r) Q E s:=by
 obtain⟨z,o,J,f,x⟩:=Rb I.hok e;have N:J.length<=sizeLine:=by rw[<-Paired.length f];exact z
 have C:(rO kvs k v).length<=sizeLine:=by have:=rz kvs k v;omega
 refine wpAny_dictSet_heap u (AN I.hok i) x λa g m=>h a _ m ?_;obtain⟨q,B,F,j,p,K,D,_,y⟩:=g;refine C8 I (by rw[e];exact True.intro) m ⟨q,j⟩ ⟨C,o,_,(f.put k i L).keeps λc P n=>?_,q,B,F,j,p,K,D,y⟩;rw[ja (Rq n e (λz=>nomatch z))];exact n
theorem E9(hh:A.handled=none)(Y:A.units+1<cLine) :
  ∀c a H kvs s t,jq X iO σ H s->H d=some (.dT kvs)->H l=some (.lst ((a++c).map λq=>.ref q.1))->(∀q∈c,Q3 H q)->kvs.length+c.length<=sizeLine->
  s.heap.IsListIter it l a.length->vN X iO H it->(∀n,jq X iO σ (kU H d (.dT (xM kvs c))) n->R (.ok (.ret .none)) n)->
  codeAny (model X.prog X.w) A (.builtin "dict.update.loop" ⟨[.ref d,.ref it,.int (a.length:Int) t,.none],[]⟩) R s
 |[],a,H,kvs,s,t,I,ed,el,_,hz,hit,hf,hR=>by
  obtain⟨its,S,K,_⟩:=I.list (nh.of el);have hn:=S.length;rw[bO,aw]at hn;obtain⟨f,D,U,B,p,m⟩:=hf;refine codeAny_builtin B6 ?_;rw[Around.under_plainId uF _];refine ao (wpAny_pyNext_list_end hh hit K.isList (by simp[hn]) λh' eb=>?_);have C:=I.turned (t':=s.toks) (λb o E e=>eb b o E e) f D B p m;refine ao (ak (ak (hR _ ?_)));have e:kU H d (.dT (xM kvs []))=H:=by
   funext b;by_cases q:b=d
   .subst q;rw[jb,ed];rfl
   .rw[ja q]
  rw[e];exact C
 |q::c,a,H,kvs,s,t,I,ed,el,hp,hz,hit,hf,hR=>by
  obtain⟨its,S,K,_⟩:=I.list (nh.of el);obtain⟨f,D,U,B,p,m⟩:=id hf;obtain⟨h1,h2⟩:=hp q (.head _);obtain⟨u,F,ru⟩:=S.get (i:=a.length) (x:=.ref q.1) (by simp);cases (ru);refine codeAny_builtin B6 ?_;rw[Around.under_plainId uF _];refine ao (wpAny_pyNext_list_item hit K.isList (by simpa using F) λh' h sb=>?_);have C:=I.turned (t':=s.toks) (λb o E e=>(sb.2 b E).trans e) f D B p m;obtain⟨ks,rk,⟨ot,et,ct,nt,dt⟩,_⟩:=C.tuple (pX.of h1);obtain⟨k,v,rfl,Q,N⟩:=Lq rk;cases (Q);refine ao (wpAny_holding (ao (wpAny_tryCatch ?_)));unfold Builtin.Dict.pairItems;refine ao (wpAny_typeOf ⟨_,et,ct⟩ ?_);rw[aQ (by decide)];refine ao (wpAny_seqItems et dt (ak ?_));have J:kvs.length+(c.length+1)<=sizeLine:=hz;refine wpAny_holding (Ja Y C ed h2 (cD (cJ _ _) J) N λh2' t2 P I2=>?_);have g:it≠d:=λz=>by rw[z,ed]at f;cases f
  have ne:∀b o,H b=some o->(∀kvs,o≠.dT kvs)->kU H d (.dT (rO kvs q.2.2.1 q.2.2.2)) b=some o:=λb o e z=>by rw[ja (λw=>by rw[w,ed]at e;cases e;exact z _ rfl)];exact e
  refine ak ⟨plainId_quiet uF _,?_⟩;have L:=h.extBut P.extBut g;have j:=E9 hh Y c (a++[q]) (kU H d (.dT (rO kvs q.2.2.1 q.2.2.2))) (rO kvs q.2.2.1 q.2.2.2) _ 0 I2 jb (by rw[cq];exact ne _ _ el (λ_ z=>nomatch z)) (λr hr=>⟨ne _ _ (hp r (by simp[hr])).1 (λ_ z=>nomatch z),ne _ _ (hp r (by simp[hr])).2 (λ_ z=>nomatch z)⟩) (by have:=rz kvs q.2.2.1 q.2.2.2;lia) (by simpa using L) ⟨by rw[ja g];exact f,D,U,B,p,m⟩ (λn Z=>hR n (by
   have e:∀x y:HO,kU (kU H d x) d y=kU H d y:=λx y=>by
    funext b;by_cases z:b=d
    .subst z;rw[jb,jb]
    .rw[ja z,ja z,ja z]
   rw[e]at Z;exact Z))
  rw[aT]at j;exact j
def GD(hc:X.calm=true)(hu:X.A.units+4<cLine):l6 X (.type "dict") (λL H Q=>∃l g,L=[.ref l]/\H l=some (.lst (g.map λq=>.ref q.1))/\(∀q∈g,Q3 H q)/\∀d,H d=none->Q (.ref d) (kU H d (.dT (xM [] g)))):=by
 intro iO s σ H L us Q I r h;obtain⟨l,g,rfl,D,hp,q⟩:=h;obtain⟨u,rfl,rx⟩:=qL r;cases rx;have K:=I.ok.hd hc;refine callType_codes (Q₁:=λi c=>i=.ref s.heap.objs.size/\c={s with heap:=s.heap.push {cls:=.type "dict",data:=.dict #[]}}) F.kt_called_dict (F.kt_typeCall_dict_1 _) F.entry_dict_init (kt_code_dict_new _ ⟨rfl,rfl⟩) ?_;rintro i c ⟨rfl,rfl⟩;have a:=I.hok.fresh (aK s.heap.objs.size);have N:(s.heap.push {cls:=.type "dict",data:=.dict #[]}).get? s.heap.objs.size=some {cls:=.type "dict",data:=.dict #[]}:=ar _ rfl;refine⟨⟨_,N,rfl⟩,F.args_dict_init_2 _ _,?_⟩;have E:=I.laid (t':=s.toks) (λ_ _ q=>ae _ q) (aK _) (EC s.heap I.big);have f:kU H s.heap.objs.size (.dT []) l=some (.lst (g.map λq=>.ref q.1)):=by rw[ja (jO D a)];exact D
 obtain⟨U,rv,pl,C⟩:=E.list (nh.of f);rw[aw]at C;obtain⟨ol,nl,m,w,P,R⟩:=id pl;unfold Builtin.«dict.__init__»;refine ao ?_;unfold Builtin.Dict.selfAndRest;refine ao (wpAny_notOrdered_dict ⟨_,N,rfl⟩ ?_);refine ak ?_;show wpAny _ _ (Builtin.Dict.updateFrom "dict.__init__" s.heap.objs.size (.ref l) [] .none) _ _ _;unfold Builtin.Dict.updateFrom;refine ao (wpAny_typeOf ⟨_,m,w⟩ ?_);rw[aQ (by decide)];refine ao (Jx m w R P K λS J Y=>?_);have j:=E.kept (t':=J) Y;rw[aQ (by rfl)];refine ao (wpAny_rule ?_);obtain⟨B,Z,k,_⟩:=j.list (nh.of f);refine ao (wpAny_pyIter_list k.isList ?_);have I3:jq X iO σ (kU H s.heap.objs.size (.dT [])) {s with heap:=S.push {cls:=.type "list_iterator",data:=.fields #[.ref l,.int 0 0]},toks:=J}:=j.kept λb o e=>ae _ e;refine ak ⟨plainId_quiet uF _,E9 (A:=X.A.in1) K (by show X.A.units+1+1<_;lia) g [] _ [] _ _ I3 jb f (λr hr=>?_) (by simpa using C) ⟨_,ar _ rfl,rfl,rfl⟩ (j.fpOk (aK _) (j.hok.fresh (aK _))) λs' v=>⟨rfl,.ref s.heap.objs.size,_,?_,rfl,q _ a⟩⟩
 .obtain⟨p,n⟩:=hp r hr;exact⟨by rw[ja (jO p a)];exact p,by rw[ja (jO n a)];exact n⟩
 .have e:∀x y:HO,kU (kU H s.heap.objs.size x) s.heap.objs.size y=kU H s.heap.objs.size y:=λx y=>by
   funext b;by_cases z:b=s.heap.objs.size
   .subst z;rw[jb,jb]
   .rw[ja z,ja z,ja z]
  rw[e]at v;exact v
end
end L2
namespace L2
open PySem PySem.Spec PyProof.Rows
section
variable {X:Cx}{iO:List (Addr×Obj)}{σ:St}{H:Hp}{s:Shared}{d:Addr}{kvs:List (List rM×V)}{st:Stmt}{t:TS}
def jq.fast(I:jq X iO σ H s)(e:H d=some (.dT kvs)):∃f,s.heap.get? d=some f/\jq X iO σ (kU H d (.frz f (.dT kvs))) s:=by
 obtain⟨z,y,g,r,o,j,m,c,h,p,l,i⟩:=(I.hok d _ e);have ne:∀{b u},H b=some u->(∀k,u≠.dT k)->kU H d (.frz o (.dT kvs)) b=some u:=λ{b u} q n=>by rw[ja (λz=>by subst z;rw[e]at q;cases q;exact n _ rfl)];exact q
 refine⟨o,c,I.un ⟨λ_ _ q _ _ _=>q,λb a q _ _ _=>⟨a.slots,q⟩,λb a _ n _=>by rw[ja (λz=>by subst z;rw[e]at n;cases n)];exact n,λb a q _=>⟨a,q⟩,
  λb g q=>ne q (λ_ z=>nomatch z),λb o u q=>ne q (λ_ z=>nomatch z),λb w v q=>⟨#[],by rw[ne q (λ_ z=>nomatch z)];simp⟩⟩
  (I.hok.write (by rw[e];exact True.intro) (.inl rfl) (λ_ _ _ q=>q) ⟨o,c⟩ ⟨c,z,y,g,Paired.mapP r λ_ _ q=>⟨q.1,ne q.2.1 (λ_ z=>nomatch z),q.2.2⟩,o,j,m,c,h,p,l,i⟩)⟩
def Mt(Q:VK):VK:=λv H=>∃d kvs,v=.ref d/\H d=some (.dT kvs)/\∀a,Q v (kU H d (.frz a (.dT kvs)))
def P8(h:EP X iO σ (Mt Q) u s):EP X iO σ Q u s:=by obtain⟨v,j,a,f,d,kvs,e,i,g⟩:=h;obtain⟨c,_,b⟩:=a.fast i;exact⟨v,_,b,f,g c⟩
def JX(h:l6 X f r):l6 X f (λa H Q=>r a H (Mt Q)):=λiO s σ H a b Q I c q=>lV (h iO s σ H a b _ I c q) λ_ _ z=>P8 z
end
end L2
namespace L2.Sp
open PySem PySem.SetTable
end L2.Sp
namespace L2.Sp
open PySem PySem.SetTable
end L2.Sp
namespace L2.Sp
open PySem PySem.SetTable
end L2.Sp
namespace L2.Sp
open PySem PySem.SetTable
end L2.Sp
namespace L2.Sp
open PySem PySem.SetTable PyProof.Rows
end L2.Sp
namespace L2.Sp
open PySem PySem.SetTable PyProof.Rows
end L2.Sp
namespace L2.Sp
open PySem PySem.SetTable PyProof.Rows
end L2.Sp
namespace L2.Sp
open PySem PySem.SetTable PyProof.Rows
end L2.Sp
namespace L2.Sp
open PySem PySem.SetTable PyProof.Rows
end L2.Sp
namespace Cu
noncomputable def G(a b:Int):Int:=(Int.gcd a b:Nat)
def Ga a b:G b (Int.fmod a b)=G a b:=by
 unfold G;have e:=c9 a b;rw[e];congr 1;apply Nat.dvd_antisymm
 .apply Int.dvd_gcd
  .have h:=dc b (a-b*Int.fdiv a b);have g:=de b (a-b*Int.fdiv a b);have d:=Int.dvd_add g (dg (c:=Int.fdiv a b) h);have f:a-b*Int.fdiv a b+b*Int.fdiv a b=a:=by lia
   rw[f]at d;exact d
  .exact dc b _
 .apply Int.dvd_gcd
  .exact de a b
  .exact Int.dvd_sub (dc a b) (dg (de a b))
def J9 a b (h:b≠0):(Int.fmod a b).natAbs<b.natAbs:=by
 rcases Int.lt_or_gt_of_ne h with c|c
 .have e:=dh (-a) (show 0 < -b by lia);have d:=du (-a) (show 0 < -b by lia);rw[Int.neg_fmod_neg]at e d;omega
 .have e:=dh a c;have d:=du a c;omega
def NR a:G a 0=(a.natAbs:Int):=by unfold G;rw[Int.gcd_zero_right]
def zX a b:0<=G a b:=bE _
def zv a b (h:b≠0):0<G a b:=by have:=dw a h;unfold G;exact dy.mpr this
def ng a b:G a b ∣ a:=dc a b
def mq a b:G a b ∣ b:=de a b
def Ww a b (h:b≠0):G a b<=(b.natAbs:Int):=by have:=Int.natAbs_dvd_natAbs.mpr (mq a b);have c:=Nat.le_of_dvd (by simp[h]) this;have:=zX a b;exact dz.mpr c
structure V4(t b p q:Int):Prop where
 pos:0<q
 one:G p q=1
 is:p*b=t*q
def Al(f:b≠0)(l:g≠0)(k:g=G t b\/g = - G t b)(j:0<q)(d:t=g*p)(a:b=g*q):V4 t b p q:=by
 refine⟨j,?_,?_⟩
 .have c:Int.gcd t b=g.natAbs*Int.gcd p q:=by rw[d,a,Int.gcd_mul_left]
  have i:g.natAbs=Int.gcd t b:=by unfold G at k;omega
  rw[i]at c;have h:=dw t f;have e:Int.gcd p q=1:=by
   have:Int.gcd t b*1=Int.gcd t b*Int.gcd p q:=by rw[<-c,Nat.mul_one]
   exact (Nat.eq_of_mul_eq_mul_left h this).symm
  unfold G;rw[e];rfl
 .have:p*(g*q)=g*p*q:=by rw[<-dA,dB p g]
  rw[<-a,<-d]at this;exact this
def rB g p (a:g≠0):Int.fdiv (g*p) g=p:=by exact dC p a
def EB t b (g:b≠0):V4 t b (Int.fdiv t (if b<0 then-G t b else G t b)) (Int.fdiv b (if b<0 then-G t b else G t b)):=by
 have d:=zv t b g;obtain⟨p,f⟩:=ng t b;obtain⟨q,e⟩:=mq t b;by_cases h:b<0
 .rw[aQ h];have k:t=(-G t b)*(-p):=by rw[Int.neg_mul_neg];exact f
  have c:b=(-G t b)*(-q):=by rw[Int.neg_mul_neg];exact e
  have i:Int.fdiv t (-G t b) = -p:=by have:=rB (-G t b) (-p) (by lia);rw[<-k]at this;exact this
  have j:Int.fdiv b (-G t b) = -q:=by have:=rB (-G t b) (-q) (by lia);rw[<-c]at this;exact this
  rw[i,j];refine Al g (by lia) (Or.inr rfl) ?_ k c;by_cases a:0 < -q
  .exact a
  .exfalso;have:0<=q:=by lia
   have:=aP (aA d) this;lia
 .rw[aR h];have i:Int.fdiv t (G t b)=p:=by have:=rB (G t b) p (dD d);rw[<-f]at this;exact this
  have j:Int.fdiv b (G t b)=q:=by have:=rB (G t b) q (dD d);rw[<-e]at this;exact this
  rw[i,j];refine Al g (dD d) (Or.inl rfl) ?_ f e;by_cases a:0<q
  .exact a
  .exfalso;have:0<=-q:=by lia
   have:=aP (aA d) this;rw[dE]at this;lia
def LK(l:b≠0)(d:b'≠0)(h:V4 t b p q)(c:V4 t' b' p' q')(e:t*b'=t'*b):p=p'/\q=q':=by
 have f:p*q'=p'*q:=by
  have n:(p*q')*(b*b')=(p'*q)*(b*b'):=by
   have g:(p*q')*(b*b')=(p*b)*(q'*b'):=by ac_rfl
   have k:(p'*q)*(b*b')=(p'*b')*(q*b):=by ac_rfl
   have u:(t*q)*(q'*b')=(t*b')*(q*q'):=by ac_rfl
   have j:(t'*q')*(q*b)=(t'*b)*(q*q'):=by ac_rfl
   rw[g,k,h.is,c.is,u,j,e]
  exact dF (dG l d) n
 have r:Int.gcd q p=1:=by have:=h.one;unfold G at this;rw[dH];exact b5.mp this
 have m:Int.gcd q' p'=1:=by have:=c.one;unfold G at this;rw[dH];exact b5.mp this
 have i:q ∣ q':=by have:q ∣ p*q':=⟨p',by rw[f,dB]⟩;have a:=dI.mpr this;rw[r]at a;simpa using a
 have s:q' ∣ q:=by have:q' ∣ p'*q:=⟨p,by rw[<-f,dB]⟩;have a:=dI.mpr this;rw[m]at a;simpa using a
 have o:=Int.dvd_antisymm (aA h.pos) (aA c.pos) i s;subst o;refine⟨dF (by have:=h.pos;exact dD this) f,rfl⟩
end Cu
namespace Cu
open PySem PyProof.Rows
open PySem.Builtin.Int (intBits)
def noPy(h:intBits y<=m)(b:m<=8000):PySem.Builtin.divisionGoesByPylong x y=false:=by
 refine PyProof.noPylong_of_log2 ?_;rcases dJ y.natAbs with a|c
 .rw[a];decide
 .refine (Nat.log2_lt (bC c)).mpr ?_;exact lt_pow_of_bits h (aN b (dM _ _))
def DW(p q:Int)(a:0<q):p.fdiv q*q<=p/\p<p.fdiv q*q+q:=by have e:=dh p a;have d:=du p a;have c:=c9 p q;have b:p.fdiv q*q=q*p.fdiv q:=dB _ _;omega
end Cu
namespace L2
open PySem PySem.Spec PyProof.Rows
def Lk:l6 X (.builtin "isinstance") (λa H Q=>∃x T t b,a=[x,.ty T]/\tW X.K H x t/\W.kitOne X.K t (.type T)=some b/\Q (.bl b) H):=by
 intro d s f H a g Q I r h;obtain⟨x,T,t,b,rfl,ty,e,q⟩:=h;cases r with
 |cons r1 r2=>
  cases r2 with
  |cons r3 r4=>cases r4;cases (r3);exact IZ I r1 ty e λc=>⟨.bl b,H,I.tok c,rfl,q⟩
def Ta:bootBuiltins "isinstance" = some (.builtin "isinstance"):=by decide +kernel
def xr:bootBuiltins "abs" = some (.builtin "abs"):=by decide +kernel
def AF:bootBuiltins "int" = some (.type "int"):=by decide +kernel
def Hr:bootBuiltins "bool" = some (.type "bool"):=by decide +kernel
def kz:bootBuiltins "tuple" = some (.type "tuple"):=by decide +kernel
def k9:bootBuiltins "len" = some (.builtin "len"):=by decide +kernel
end L2
namespace L2
open PySem PySem.W PySem.Spec PyProof.Rows
def Jw{l:W.OpenLaw}{n k:Nat}{q:Program}{i:List Str}{XP:(Str->Option Value)->Heap->Prop}{S:World->Heap->Prop}{d:DefRec}{K:Params->W.Frag}{X:Qx}{sp:W.Frag->Sp}{x:Str}
  (hn:l.most=some n) (E:n<=sizeLine) (R:d.params.defaults=[]) (hr:lB k callerA) (hi:importsNone q=true) (ht:l.prog.given.tree=none)
  (hY:∀(w:World) (h:Heap),S w h->(K w.params).In h)
  (F:∀(w:World) (m:Str->Option Value) (fa:Addr) (h:Heap),(K w.params).In h->h.Ns mainGlobals m->m d.name=some (.ref fa)->
   ∃fd:FuncData,(∀(s:Shared) (u:Value),BindsTo s fd ⟨[u],[]⟩ [(x,u)])/\
    ∀c:Heap,(K w.params).In c->c.Ns mainGlobals m->qP l.prog w (K w.params) m c X k fa fd [x] (sp (K w.params)))
  (J:∀(K:W.Frag) (H:Hp) (a:Addr) (p:LI),p.length<=n->(∀z∈p,PySem.Builtin.Int.intBits z<=2 ^ 20)->S2 H->nh K H a (p.map V.int)->sp K [.ref a] H (λv _=>v=.bl true) λ_ _ _=>False)
  (Q:∀(H:Hp) (s:Shared) (e:Value) (D:Shared),X [] H s (λ_ _ _=>False) e D->False) :
  W.WalkO q i XP S l.row.toRowW d [] (λf vs=>PySem.call f vs):=by
 intro w Z A m mb G Y fa o pm cd doc dV kV ho hd hcd hD P hg args vals as C B hrd N hlo;obtain rfl:dV=.none:=Dflts.none hD R;obtain rfl:kV=.none:=Dflts.noKw hD;obtain⟨a,vs,p,rfl,rfl,y,j,nM⟩:=Att.script_of hn C N;have hb:∀z∈p,PySem.Builtin.Int.intBits z<=2 ^ 20:=λz hz=>by have h1:=(layW_cons B).1;have L:=layableW_item h1 (WData.int z) (aD.mpr ⟨z,hz,rfl⟩);exact PyData.bits_of_layable (layable_int L)
 have U:=hY w _ Y;obtain⟨fd,I,hF⟩:=F w m fa _ U G.T.g P;refine enter_call (codeAny_mono (Nj U G.T.g G.T.b G.T.builtins G.T.nolimit (G.T.seer hi) ht hg y j (aN nM E) hr hF I (λH hO hS=>J _ H a p nM hb hO hS) λH e D=>Q H A e D) λr D hq=>?_);obtain⟨rfl,L,h3,h4⟩:=hq;exact⟨.inl ⟨.bool true,.bool true,[],rfl,λ_=>rfl,.bool true,Att.post_true l _,λ_=>⟨List.Pairwise.nil,λ_ hm=>(nomatch hm)⟩⟩,L,h3,h4⟩
end L2
namespace C4
def Xx(c e:LI):Prop:=∀i j,i<c.length->j<c.length->c.getD i 0*e.getD j 0=c.getD j 0*e.getD i 0
def par_of_place(d:c.getD p 0≠0)(h:∀i,i<c.length->c.getD i 0*e.getD p 0=e.getD i 0*c.getD p 0):Xx c e:=λi j l a=>by have g:=h i l;have k:=h j a;refine dF d ?_;have b:c.getD i 0*e.getD j 0*c.getD p 0=c.getD i 0*(e.getD j 0*c.getD p 0):=dA _ _ _;have f:c.getD j 0*e.getD i 0*c.getD p 0=c.getD j 0*(e.getD i 0*c.getD p 0):=dA _ _ _;rw[b,f,<-g,<-k,<-dA,<-dA,dB (c.getD i 0) (c.getD j 0)]
end C4
namespace L3
open PySem L2
inductive T where
 |non|bl (b:Bool)|int (i:Int)|str (x:Str)
 |tup (ts:List T)|lst (ts:List T)|scr (ns:LI)
 |obj (C:Addr) (fs:List (Str×T))|emp
 |dic (kvs:List (LI×T))
inductive M(α:Type) where
 |bad|ok (a:α)|er (C:Addr) (n:Option Int)
namespace M
noncomputable def bind{c b:Type}(m:M c)(k:c->M b):M b:=match m with
 |.bad=>.bad
 |.ok a=>k a
 |.er C n=>.er C n
instance:Monad M where
 pure:=.ok
 bind:=M.bind
noncomputable def res{b:Type}(m:M b)(P:b->Prop)(E:Addr->Option Int->Prop):Prop:=match m with
 |.bad=>False
 |.ok a=>P a
 |.er C n=>E C n
def res.unb{m:M α}{k:α->M β}{P:β->Prop}(h:res (m.bind k) P E):res m (λa=>res (k a) P E) E:=by cases m<;>exact h
def res.mono{m:M α}{P P':α->Prop}(h:res m P E)(c:∀a,P a->P' a)(b:∀C n,E C n->E' C n):res m P' E':=by
 cases m with
 |bad=>exact h
 |ok a=>exact c a h
 |er C n=>exact b C n h
noncomputable def noEr{a:Type}(m:M a):M a:=match m with
 |.er _ _=>.bad
 |m=>m
def res.noEr{m:M α}{P:α->Prop}(h:res m.noEr P E):res m P E':=by
 cases m with
 |bad=>exact h
 |ok a=>exact h
 |er C n=>exact h.elim
@[simp] theorem bind_ok a (k:α->M β):M.bind (.ok a) k=k a:=rfl
@[simp] theorem VB(k:α->M β):M.bind (.bad:M α) k=.bad:=rfl
@[simp] theorem Wl C n (k:α->M β):M.bind (.er C n:M α) k=.er C n:=rfl
noncomputable def NoE{a:Type}(m:M a):Prop:=∀C n,m≠.er C n
def res.ne{m:M α}{P:α->Prop}(h:res m P E)(ne:NoE m):res m P E':=by
 cases m with
 |bad=>exact h
 |ok a=>exact h
 |er C n=>exact absurd rfl (ne C n)
@[simp] theorem noEr_ok(a:α):noEr (.ok a)=.ok a:=rfl
end M
mutual
inductive mG(K:W.Frag)(F:Hp):V->T->Prop
 |non:mG K F .non .non
 |bl (b:Bool):mG K F (.bl b) (.bl b)
 |int (i:Int):mG K F (.int i) (.int i)
 |str (x:Str):mG K F (.str x) (.str x)
 |tup {a:Addr} {xs:List V} {ts:List T} (h:F a=some (.tup xs)) (r:jr K F xs ts):mG K F (.ref a) (.tup ts)
 |lst {a:Addr} {xs:List V} {ts:List T} (h:F a=some (.lst xs)) (r:jr K F xs ts):mG K F (.ref a) (.lst ts)
 |scr {a:Addr} {ns:LI} (h:nh K F a (ns.map V.int)):mG K F (.ref a) (.scr ns)
 |obj {a C dx:Addr} {fs:List (Str×V)} {ts:List (Str×T)} (h:F a=some (.ins C dx fs)) (r:uR K F fs ts):mG K F (.ref a) (.obj C ts)
 |emp {a:Addr} (h:F a=some (.dK [])):mG K F (.ref a) .emp
 |dic {a:Addr} {o:Obj} {xs:List (List rM×V)} {kvs:List (LI×T)} (h:F a=some (.frz o (.dT xs))) (r:pR K F xs kvs):mG K F (.ref a) (.dic kvs)
inductive jr(K:W.Frag)(F:Hp):List V->List T->Prop
 |nil:jr K F [] []
 |cons {v:V} {t:T} {vs:List V} {ts:List T} (h:mG K F v t) (r:jr K F vs ts):jr K F (v::vs) (t::ts)
inductive uR(K:W.Frag)(F:Hp):List (Str×V)->List (Str×T)->Prop
 |nil:uR K F [] []
 |cons {x:Str} {v:V} {t:T} {vs:List (Str×V)} {ts:List (Str×T)} (h:mG K F v t) (r:uR K F vs ts):uR K F ((x,v)::vs) ((x,t)::ts)
inductive pR(K:W.Frag)(F:Hp):List (List rM×V)->List (LI×T)->Prop
 |nil:pR K F [] []
 |cons {k:LI} {v:V} {t:T} {vs:List (List rM×V)} {ts:List (LI×T)} (h:mG K F v t) (r:pR K F vs ts):pR K F ((k.map Sum.inl,v)::vs) ((k,t)::ts)
end
section
variable {K:W.Frag}{F F':Hp}
def mG.mono(s:jI F F'){v t}(r:mG K F v t):mG K F' v t:=
 mG.rec (motive_1:=λv t _=>mG K F' v t) (motive_2:=λv t _=>jr K F' v t) (motive_3:=λv t _=>uR K F' v t) (motive_4:=λv t _=>pR K F' v t) .non .bl .int .str (λh _=>.tup (s _ _ h)) (λh _=>.lst (s _ _ h)) (λh=>.scr (s.seq h)) (λh _=>.obj (s _ _ h)) (λh=>.emp (s _ _ h)) (λh _=>.dic (s _ _ h))
  .nil (λ_ _=>.cons) .nil (λ_ _=>.cons) .nil (λ_ _=>.cons) r
def jr.ind{P:List V->List T->Prop}(a:P [] [])(b:∀v t vs ts,mG K F v t->jr K F vs ts->P vs ts->P (v::vs) (t::ts)){vs ts}(r:jr K F vs ts):P vs ts:=
 jr.rec (motive_1:=λ_ _ _=>True) (motive_2:=λv t _=>P v t) (motive_3:=λ_ _ _=>True) (motive_4:=λ_ _ _=>True) ⟨⟩ (λ_=>⟨⟩) (λ_=>⟨⟩) (λ_=>⟨⟩) (λ_ _ _=>⟨⟩) (λ_ _ _=>⟨⟩) (λ_=>⟨⟩) (λ_ _ _=>⟨⟩) (λ_=>⟨⟩) (λ_ _ _=>⟨⟩)
  a (λh r _=>b _ _ _ _ h r) ⟨⟩ (λ_ _ _ _=>⟨⟩) ⟨⟩ (λ_ _ _ _=>⟨⟩) r
def uR.ind{P:List (Str×V)->List (Str×T)->Prop}(a:P [] [])(b:∀x v t vs ts,mG K F v t->uR K F vs ts->P vs ts->P ((x,v)::vs) ((x,t)::ts)){vs ts}(r:uR K F vs ts):P vs ts:=
 uR.rec (motive_1:=λ_ _ _=>True) (motive_2:=λ_ _ _=>True) (motive_3:=λv t _=>P v t) (motive_4:=λ_ _ _=>True) ⟨⟩ (λ_=>⟨⟩) (λ_=>⟨⟩) (λ_=>⟨⟩) (λ_ _ _=>⟨⟩) (λ_ _ _=>⟨⟩) (λ_=>⟨⟩) (λ_ _ _=>⟨⟩) (λ_=>⟨⟩) (λ_ _ _=>⟨⟩)
  ⟨⟩ (λ_ _ _ _=>⟨⟩) a (λh r _=>b _ _ _ _ _ h r) ⟨⟩ (λ_ _ _ _=>⟨⟩) r
def pR.ind{P:List (List rM×V)->List (LI×T)->Prop}(a:P [] [])(b:∀k v t vs ts,mG K F v t->pR K F vs ts->P vs ts->P ((k.map Sum.inl,v)::vs) ((k,t)::ts)){vs ts}(r:pR K F vs ts):P vs ts:=
 pR.rec (motive_1:=λ_ _ _=>True) (motive_2:=λ_ _ _=>True) (motive_3:=λ_ _ _=>True) (motive_4:=λv t _=>P v t) ⟨⟩ (λ_=>⟨⟩) (λ_=>⟨⟩) (λ_=>⟨⟩) (λ_ _ _=>⟨⟩) (λ_ _ _=>⟨⟩) (λ_=>⟨⟩) (λ_ _ _=>⟨⟩) (λ_=>⟨⟩) (λ_ _ _=>⟨⟩)
  ⟨⟩ (λ_ _ _ _=>⟨⟩) ⟨⟩ (λ_ _ _ _=>⟨⟩) a (λh r _=>b _ _ _ _ _ h r) r
def jr.mono(s:jI F F'){vs ts}(r:jr K F vs ts):jr K F' vs ts:=jr.ind .nil (λ_ _ _ _ h _=>.cons (h.mono s)) r
def pR.mono(s:jI F F'){vs ts}(r:pR K F vs ts):pR K F' vs ts:=pR.ind .nil (λ_ _ _ _ _ h _=>.cons (h.mono s)) r
def jr.length{vs ts}(r:jr K F vs ts):vs.length=ts.length:=jr.ind (P:=λa b=>a.length=b.length) rfl (λ_ _ _ _ _ _=>congrArg Nat.succ) r
theorem jr.get:∀{vs:List V} {ts:List T} {i:Nat} {t:T},jr K F vs ts->ts[i]? = some t->∃v,vs[i]? = some v/\mG K F v t
 |_,_,_,_,.nil,e=>by simp at e
 |_,_,0,_,.cons h _,e=>by simp at e;subst e;exact⟨_,rfl,h⟩
 |_,_,i+1,_,.cons _ r,e=>by obtain⟨v,a,h⟩:=jr.get r (by simpa using e);exact⟨v,by simpa using a,h⟩
def jr.at_{i:Nat}(r:jr K F vs ts)(e:vs[i]? = some v):∃t,ts[i]? = some t/\mG K F v t:=by
 have b:i<ts.length:=by rw[<-r.length];exact (aa.mp e).1
 obtain⟨c,a,h⟩:=r.get (ag b);rw[e]at a;cases a;exact⟨_,ag b,h⟩
def jr.append{vs us ts ss}(r:jr K F vs ts)(q:jr K F us ss):jr K F (vs++us) (ts++ss):=jr.ind (P:=λa b=>jr K F (a++us) (b++ss)) q (λ_ _ _ _ h _=>.cons h) r
theorem jr.set(q:mG K F v t):∀{vs} {ts} i,jr K F vs ts->jr K F (vs.set i v) (ts.set i t)
 |_,_,_,.nil=>.nil
 |_,_,0,.cons _ r=>.cons q r
 |_,_,i+1,.cons h r=>.cons h (jr.set q i r)
theorem jr.take:∀{vs} {ts} n,jr K F vs ts->jr K F (vs.take n) (ts.take n)
 |_,_,0,_=>.nil
 |_,_,_+1,.nil=>.nil
 |_,_,n+1,.cons h r=>.cons h (jr.take n r)
theorem jr.drop:∀{vs} {ts} n,jr K F vs ts->jr K F (vs.drop n) (ts.drop n)
 |_,_,0,r=>r
 |_,_,_+1,.nil=>.nil
 |_,_,n+1,.cons _ r=>jr.drop n r
theorem jr.rep:∀{vs} {ts} n,jr K F vs ts->jr K F (List.replicate n vs).flatten (List.replicate n ts).flatten
 |_,_,0,_=>.nil
 |_,_,n+1,r=>by rw[cj,cj,cm,cm];exact r.append (jr.rep n r)
theorem jr.ints:∀{vs:List V} {a:LI},jr K F vs (a.map T.int)->vs=a.map V.int
 |_,[],.nil=>rfl
 |_,_::_,.cons h r=>by cases h;rw[jr.ints r];rfl
theorem jr.bls:∀{vs:List V} {a:List Bool},jr K F vs (a.map T.bl)->vs=a.map V.bl
 |_,[],.nil=>rfl
 |_,_::_,.cons h r=>by cases h;rw[jr.bls r];rfl
theorem jr.of_ints:∀(a:LI),jr K F (a.map V.int) (a.map T.int)
 |[]=>.nil
 |n::a=>.cons (.int n) (jr.of_ints a)
def uR.look{fs ts}(r:uR K F fs ts):ts.lookup f=some t->∃v,fs.lookup f=some v/\mG K F v t:=
 uR.ind (P:=λa b=>b.lookup f=some t->∃v,a.lookup f=some v/\mG K F v t) nofun (λx v u i ts h _ d e=>by
  by_cases c:f=x
  .subst c;rw[dN]at e ⊢;cases e;exact⟨_,rfl,h⟩
  .have g:(f==x)=false:=by simpa using c
   rw[cF,g]at e ⊢;exact d e) r
def uR.none_{fs ts}(r:uR K F fs ts):ts.lookup f=none->fs.lookup f=none:=
 uR.ind (P:=λa b=>b.lookup f=none->a.lookup f=none) (λ_=>rfl) (λx v u i ts h _ d e=>by
  by_cases c:f=x
  .subst c;rw[dN]at e;cases e
  .have g:(f==x)=false:=by simpa using c
   rw[cF,g]at e ⊢;exact d e) r
end
def Fe(h:Kf o (some u))(b:∀q a,u≠.tbl q a):o=u:=by
 cases o with
 |tbl q a=>obtain⟨m,e⟩:=h;exact absurd (Option.some.inj e) (b _ _)
 |_=>exact (Option.some.inj h).symm
def Rw{x y:Option HO}(h:Kf o x)(k:∀a,x=some a->Kf a y):Kf o y:=by
 cases o with
 |tbl q ps=>obtain⟨m,e⟩:=h;obtain⟨b,c⟩:=k _ e;exact⟨m++b,by rw[c,bz]⟩
 |_=>exact k _ h
def AJ{H:Hp}(h:Kf u (H b))(a:H p=none):b≠p:=λz=>h.ne (by rw[z];exact a)
structure Gr(F H F' H':Hp):Prop where
 ff:jI F F'
 fh:jI F' H'
 hh:jI H H'
 nw:∀a,F' a≠none->F a≠none\/H a=none\/∃xs,H a=some (.tup xs)
def Gr.refl(h:jI F H):Gr F H F H:=⟨.refl _,h,.refl _,λ_ h=>.inl h⟩
def jF(h:jI H H')(e:H' a=none):H a=none:=by
 cases q:H a with
 |none=>rfl
 |some o=>exact absurd e (h a o q).ne
def Gr.trans(g:Gr F H F' H')(b:Gr F' H' F'' H''):Gr F H F'' H'':=
 ⟨g.ff.trans b.ff,b.fh,g.hh.trans b.hh,λa d=>by
  rcases b.nw a d with q|q|⟨c,q⟩
  .exact g.nw a q
  .exact .inr (.inl (jF g.hh q))
  .cases z:H a with
   |none=>exact .inr (.inl rfl)
   |some o=>exact .inr (.inr ⟨c,by have k:=g.hh a o z;rw[q]at k;rw[Fe k λ_ _ y=>nomatch y]⟩)⟩
def Gr.new(s:jI F H)(h:H p=none):Gr F H (kU F p o) (kU H p o):=by
 have c:=jF s h;refine⟨λb u e=>?_,λb u e=>?_,λb u e=>?_,λb a=>?_⟩
 .rw[ja (jO e c)];exact .of e
 .by_cases q:b=p
  .subst q;rw[jb]at e ⊢;exact .of e
  .rw[ja q]at e ⊢;exact s b u e
 .rw[ja (jO e h)];exact .of e
 .by_cases q:b=p
  .subst q;exact .inr (.inl h)
  .rw[ja q]at a;exact .inl a
def Gr.new'(s:jI F H)(h:H p=none):Gr F H F (kU H p o):=by
 refine⟨.refl _,λb u e=>?_,λb u e=>?_,λb a=>.inl a⟩
 .rw[ja (AJ (s b u e) h)];exact s b u e
 .rw[ja (jO e h)];exact .of e
def Gr.take(g:Gr F0 H0 F H)(h:H p=some o)(c:F p=none)(d:H0 p=none):Gr F0 H0 (kU F p o) H:=by
 refine⟨λb u e=>?_,λb u e=>?_,g.hh,λb a=>?_⟩
 .rw[ja (AJ (g.ff b u e) c)];exact g.ff b u e
 .by_cases q:b=p
  .subst q;rw[jb]at e;cases e;exact .of h
  .rw[ja q]at e;exact g.fh b u e
 .by_cases q:b=p
  .subst q;exact .inr (.inl d)
  .rw[ja q]at a;exact g.nw b a
def mK(a:F p=none):jI F (kU F p o):=λb u e=>by rw[ja (jO e a)];exact .of e
abbrev Pe:=List (Option T)
section
variable (K:W.Frag)
def ph(F:Hp)(a:St)(ρ:Pe):Prop:=∀(i:Nat) (t:T),ρ[i]? = some (some t)->∃v,a[i]? = some (some v)/\mG K F v t
def ph.mono{K:W.Frag}(h:ph K F σ ρ)(s:jI F F'):ph K F' σ ρ:=λi t e=>let ⟨v,a,b⟩:=h i t e;⟨v,a,b.mono s⟩
def Xy(E:XK)(C:Addr)(n:Option Int)(F H:Hp):Prop:=match n with
 |none=>E (.ref C) none H
 |some i=>∀a,F a=some (.xd [("at",.int i)])->E (.ref C) (some a) H
def kE(E:XK)(F H:Hp)(C:Addr)(n:Option Int):Prop:=∀b a,Gr F H b a->Xy E C n b a
def kE.go(h:kE E F H C n)(g:Gr F H F1 H1):kE E F1 H1 C n:=λc b a=>h c b (g.trans a)
def kV(F H:Hp)(Q:VK)(t:T):Prop:=∀v b a,Gr F H b a->mG K b v t->Q v a
def kB(F H:Hp)(Q:Bool->Hp->Prop)(b:Bool):Prop:=∀c a,Gr F H c a->Q b a
def kA(F H:Hp)(Q:List V->Hp->Prop)(ts:List T):Prop:=∀b c a,Gr F H c a->jr K c b ts->Q b a
def kF(F H:Hp)(Q:VK)(ts:List T):Prop:=∀l c b a,Gr F H b a->H l=none->b l=none->a l=some (.lst c)->jr K b c ts->Q (.ref l) a
noncomputable def ME(E:XK)(t:TE)(f:Pe->M T):Prop:=∀F H a b Q,jI F H->ph K F a b->(f b).res (kV K F H Q) (kE E F H)->t a H Q
noncomputable def MT(E:XK)(t:TT)(f:Pe->M Bool):Prop:=∀F H a b Q,jI F H->ph K F a b->(f b).res (kB F H Q) (kE E F H)->t a H Q
noncomputable abbrev ba:=List T
noncomputable def MA(E:XK)(t:TA)(f:Pe->M ba):Prop:=∀F H a b Q,jI F H->ph K F a b->(f b).res (kA K F H Q) (kE E F H)->t a H Q
noncomputable def MF(E:XK)(t:TE)(f:Pe->M ba):Prop:=∀F H a b Q,jI F H->ph K F a b->(f b).res (kF K F H Q) (kE E F H)->t a H Q
end
section
variable {K:W.Frag}{E:XK}{t u ta tb:TE}{f g fa fb:Pe->M T}
def kV.go{t:T}(h:kV K F H Q t)(g:Gr F H F1 H1):kV K F1 H1 Q t:=λv c b a r=>h v c b (g.trans a) r
def kB.go{t:Bool}(h:kB F H Q t)(g:Gr F H F1 H1):kB F1 H1 Q t:=λc b a=>h c b (g.trans a)
def kF.go{t:List T}(h:kF K F H Q t)(g:Gr F H F1 H1):kF K F1 H1 Q t:=λl j k i e a b c d=>h l j k i (g.trans e) (jF g.hh a) b c d
def kV.now{t:T}(h:kV K F H Q t)(s:jI F H)(r:mG K F v t):Q v H:=h v F H (.refl s) r
def kF.of(h:kV K F H Q (.lst ts)):kF K F H Q ts:=λl d i c g e b a r=>h (.ref l) (kU i l (.lst d)) c (g.take a b e) (.lst jb (r.mono (mK b)))
def MF.me{f:Pe->M ba}(h:MF K E t f):ME K E t (λρ=>(f ρ).bind λts=>.ok (.lst ts)):=λF H a ρ Q s V r=>h F H a ρ Q s V ((M.res.unb r).mono (λts q=>kF.of q) λ_ _ z=>z)
def ME.run{k:T->M α}{P:α->Prop}(h:ME K E t f)(s:jI F H)(v:ph K F σ ρ)(r:((f ρ).bind k).res P (kE E F H))
  (d:∀x w b a,Gr F H b a->mG K b w x->(k x).res P (kE E b a)->Q w a):t σ H Q:=
 h F H σ ρ Q s v ((M.res.unb r).mono (λx q w b a g c=>d x w b a g c (q.mono (λ_ z=>z) λ_ _ z=>z.go g)) λ_ _ z=>z)
def MT.run{t:TT}{f:Pe->M Bool}{k:Bool->M α}{P:α->Prop}(h:MT K E t f)(s:jI F H)(v:ph K F σ ρ)(r:((f ρ).bind k).res P (kE E F H))
  (c:∀x b a,Gr F H b a->(k x).res P (kE E b a)->Q x a):t σ H Q:=
 h F H σ ρ Q s v ((M.res.unb r).mono (λx q b a g=>c x b a g (q.mono (λ_ z=>z) λ_ _ z=>z.go g)) λ_ _ z=>z)
def MA.run{t:TA}{f:Pe->M ba}{k:List T->M α}{P:α->Prop}(h:MA K E t f)(s:jI F H)(v:ph K F σ ρ)(r:((f ρ).bind k).res P (kE E F H))
  (d:∀x w b a,Gr F H b a->jr K b w x->(k x).res P (kE E b a)->Q w a):t σ H Q:=
 h F H σ ρ Q s v ((M.res.unb r).mono (λx q w b a g c=>d x w b a g c (q.mono (λ_ z=>z) λ_ _ z=>z.go g)) λ_ _ z=>z)
@[simp] noncomputable def iM(i:Nat):Pe->M T:=λa=>match a[i]? with
 |some (some t)=>.ok t
 |_=>.bad
def SQ:ME K E (qD i) (iM i):=λF H b c Q s V r=>by
 unfold iM at r;split at r
 .rename_i t e;obtain⟨v,a,h⟩:=V i t e;exact⟨v,a,r.now s h⟩
 .exact r.elim
@[simp] noncomputable def cM(t:T):Pe->M T:=λ_=>.ok t
def NO{t:T}(h:∀F,mG K F v t):ME K E (tC v) (cM t):=λF H a b Q s V r=>kV.now r s (h F)
@[simp] noncomputable def iU(o:T->T->M T)(fa fb:Pe->M T):Pe->M T:=λa=>(fa a).bind λx=>(fb a).bind λy=>o x y
structure MR(K:W.Frag)(r:R2)(o:T->T->M T):Prop where
 ne:∀x y,M.NoE (o x y)
 ok:∀F H v w x y Q,jI F H->mG K F v x->mG K F w y->(o x y).res (kV K F H Q) (λ_ _=>False)->r v w H Q
def HJ(hr:MR K r o)(k:ME K E ta fa)(c:ME K E tb fb):ME K E (Ac r ta tb) (iU o fa fb):=λF H n m Q s V q=>by refine k.run s V q λx v p A a d j=>?_;refine c.run a.fh (V.mono a.ff) j λy w e i b h l=>?_;exact hr.ok e i v w x y Q b.fh (d.mono b.ff) h ((l.ne (hr.ne x y)).mono (λ_ z=>z.go (a.trans b)) λ_ _ z=>z)
noncomputable def oZ(C:Int->Int->Bool)(g:Int->Int->T):T->T->M T
 |.int i,.int j=>if C i j then .ok (g i j) else .bad
 |_,_=>.bad
def Fc{g:Int->Int->T} x y:M.NoE (oZ C g x y):=λa n=>by
 unfold oZ;split
 .split<;>exact λz=>nomatch z
 .exact λz=>nomatch z
def mG.int_inv(h:mG K F v (.int i)):v=.int i:=by cases h;rfl
def mG.lst_inv(h:mG K F v (.lst ts)):∃a b,v=.ref a/\F a=some (.lst b)/\jr K F b ts:=by cases h;exact⟨_,_,rfl,‹_›,‹_›⟩
def mG.tup_inv(h:mG K F v (.tup ts)):∃a b,v=.ref a/\F a=some (.tup b)/\jr K F b ts:=by cases h;exact⟨_,_,rfl,‹_›,‹_›⟩
def jr.two(h:jr K F vs [.int i,.int j]):vs=[.int i,.int j]:=by
 cases h with
 |cons h t=>
  cases t with
  |cons h2 t=>cases t;rw[h.int_inv,h2.int_inv]
def Dx{g:Int->Int->V}(d:∀i j,Cb i j=true->C i j)(c:∀F i j,mG K F (g i j) (gt i j)):MR K (rI C g) (oZ Cb gt):=⟨Fc,λF H v w x y Q s a b q=>by
 unfold oZ at q;split at q
 .rename_i i j;rw[a.int_inv,b.int_inv];by_cases h:Cb i j=true
  .rw[aQ h]at q;exact⟨i,j,rfl,rfl,d i j h,kV.now q s (c F i j)⟩
  .rw[aR h]at q;exact q.elim
 .exact q.elim⟩
def v5{g:Int->Int->V}(c:∀F i j,mG K F (g i j) (gt i j)):MR K (Gg g) (oZ (λ_ _=>true) gt):=⟨Fc,λF H v w x y Q s a b q=>by
 unfold oZ at q;split at q
 .rw[a.int_inv,b.int_inv];exact⟨_,_,rfl,rfl,kV.now q s (c F _ _)⟩
 .exact q.elim⟩
@[simp] noncomputable def pW(o:Int->T)(fa:Pe->M T):Pe->M T:=λa=>(fa a).bind λx=>match x with
 |.int i=>.ok (o i)
 |_=>.bad
def Vo{g:Int->V}(j:∀F i,mG K F (g i) (gt i))(h:ME K E ta fa):ME K E (WK (rU g) ta) (pW gt fa):=λF H l k Q s V q=>by
 refine h.run s V q λx v a e c d b=>?_;cases d<;>first
  |exact b.elim
  |exact⟨_,rfl,b _ a e c (j a _)⟩
@[simp] noncomputable def jE(fa:Pe->M T):Pe->M Bool:=λa=>(fa a).bind λx=>match x with
 |.bl b=>.ok b
 |_=>.bad
def KI(h:ME K E ta fa):MT K E (tB ta) (jE fa):=λF H i j Q s V q=>by
 refine h.run s V q λx v c d b e a=>?_;cases e<;>first
  |exact a.elim
  |exact⟨_,rfl,a c d b⟩
def Iv(a:ME K E ta fa):MT K E (yn ta) (jE fa):=KI a
section
variable {c d:TT}{fc fd:Pe->M Bool}
@[simp] noncomputable def nP(fc fd:Pe->M Bool):Pe->M Bool:=λa=>(fc a).bind λb=>if b then fd a else .ok false
@[simp] noncomputable def vV(fc fd:Pe->M Bool):Pe->M Bool:=λa=>(fc a).bind λb=>if b then .ok true else fd a
@[simp] noncomputable def lY(fc:Pe->M Bool):Pe->M Bool:=λa=>(fc a).bind λb=>.ok (!b)
def SH(l:MT K E c fc)(k:MT K E d fd):MT K E (TU c d) (nP fc fd):=λF H j m Q s V q=>by
 refine l.run s V q λb e h a i=>?_;cases b with
 |true=>rw[aQ rfl];exact k e h j m Q a.fh (V.mono a.ff) (i.mono (λ_ z=>z.go a) λ_ _ z=>z)
 |false=>rw[aR aH];exact i e h a
def UK(l:MT K E c fc)(k:MT K E d fd):MT K E (WA c d) (vV fc fd):=λF H j m Q s V q=>by
 refine l.run s V q λb e h a i=>?_;cases b with
 |true=>rw[aQ rfl];exact i e h a
 |false=>rw[aR aH];exact k e h j m Q a.fh (V.mono a.ff) (i.mono (λ_ z=>z.go a) λ_ _ z=>z)
def Ub(h:MT K E c fc):MT K E (Sf c) (lY fc):=λF H k l Q s V q=>by refine h.run s V q λb e i a j=>?_;exact j e i a
@[simp] noncomputable def UZ(fc:Pe->M Bool)(fa fb:Pe->M T):Pe->M T:=λa=>(fc a).bind λb=>if b then fa a else fb a
def UW(m:MT K E c fc)(n:ME K E ta fa)(l:ME K E tb fb):ME K E (Wy c ta tb) (UZ fc fa fb):=λF H e k Q s V q=>by
 refine m.run s V q λb h i a j=>?_;cases b with
 |true=>rw[aQ rfl];exact n h i e k Q a.fh (V.mono a.ff) (j.mono (λ_ z=>z.go a) λ_ _ z=>z)
 |false=>rw[aR aH];exact l h i e k Q a.fh (V.mono a.ff) (j.mono (λ_ z=>z.go a) λ_ _ z=>z)
end
@[simp] noncomputable def Be(fa fb:Pe->M T):Pe->M T:=λa=>(jE fa a).bind λb=>if b then fb a else .ok (.bl false)
@[simp] noncomputable def Vp(fa fb:Pe->M T):Pe->M T:=λa=>(jE fa a).bind λb=>if b then .ok (.bl true) else fb a
@[simp] noncomputable def Du(fa:Pe->M T):Pe->M T:=λa=>(jE fa a).bind λb=>.ok (.bl (!b))
def Qp(j:ME K E ta fa)(i:ME K E tb fb):ME K E (Lb ta tb) (Be fa fb):=λF H h k Q s V q=>by
 refine (KI j).run s V q λb c d a e=>?_;cases b with
 |true=>rw[aQ rfl];exact i c d h k Q a.fh (V.mono a.ff) (e.mono (λ_ z=>z.go a) λ_ _ z=>z)
 |false=>rw[aR aH];exact e _ c d a (.bl _)
def Tq(j:ME K E ta fa)(i:ME K E tb fb):ME K E (Ui ta tb) (Vp fa fb):=λF H h k Q s V q=>by
 refine (KI j).run s V q λb c d a e=>?_;cases b with
 |true=>rw[aQ rfl];exact e _ c d a (.bl _)
 |false=>rw[aR aH];exact i c d h k Q a.fh (V.mono a.ff) (e.mono (λ_ z=>z.go a) λ_ _ z=>z)
def Qu(e:ME K E ta fa):ME K E (MQ ta) (Du fa):=λF H i j Q s V q=>by refine (KI e).run s V q λb c d a h=>?_;exact h _ c d a (.bl _)
@[simp] noncomputable def iL(fa:Pe->M T)(fr:Pe->M ba):Pe->M ba:=λa=>(fa a).bind λx=>(fr a).bind λb=>.ok (x::b)
@[simp] noncomputable def iQ:Pe->M ba:=λ_=>.ok []
def Gk:MA K E yN iQ:=λF H a b Q s V q=>q [] F H (.refl s) .nil
def Qc{c:TA}{fr:Pe->M ba}(k:ME K E ta fa)(hr:MA K E c fr):MA K E (vh ta c) (iL fa fr):=λF H o n Q s V q=>by refine k.run s V q λx v p r a d j=>?_;refine hr.run a.fh (V.mono a.ff) j λw m e i b h l=>?_;exact l (v::m) e i (a.trans b) (.cons (d.mono b.ff) h)
@[simp] noncomputable def E7(ts:List T):M ba:=if ts.length<=sizeLine then .ok ts else .bad
@[simp] noncomputable def kH(fr:Pe->M ba):Pe->M T:=λb=>(fr b).bind λa=>(E7 a).bind λa=>.ok (.tup a)
@[simp] noncomputable def lstM(fr:Pe->M ba):Pe->M ba:=λa=>(fr a).bind E7
def S6{e:TA}{fr:Pe->M ba}(hr:MA K E e fr):ME K E (Sx e) (kH fr):=λF H k j Q s V q=>by
 refine hr.run s V q λi n l m b c a=>?_;unfold E7 at a;by_cases h:i.length<=sizeLine
 .rw[aQ h]at a;refine⟨by rw[c.length];exact h,λp d=>?_⟩;exact a (.ref p) _ _ (b.trans (.new b.fh d)) (.tup jb (c.mono (Gr.new b.fh d).ff))
 .rw[aR h]at a;exact a.elim
def So{e:TA}{fr:Pe->M ba}(hr:MA K E e fr):MF K E (Ut e) (lstM fr):=λF H m l Q s V q=>by
 refine hr.run s V q λj k i n b d a=>?_;unfold E7 at a;by_cases h:j.length<=sizeLine
 .rw[aQ h]at a;refine⟨by rw[d.length];exact h,λp c=>?_⟩;exact a p k i _ (b.trans (.new' b.fh c)) (jF b.hh c) (jF b.fh c) jb d
 .rw[aR h]at a;exact a.elim
end
end L3
namespace L3
open PySem L2
inductive W where
 |p (t:T)|o (ts:List T)|d (kvs:List (LI×T))
abbrev En:=List (Option W)
@[simp] def WO:Option W->Option T
 |some (.p t)=>some t
 |_=>none
@[simp] def WJ:Option W->Option T
 |some (.p t)=>some t
 |some (.o ts)=>some (.lst ts)
 |_=>none
@[simp] noncomputable def qH(ρ:En):Pe:=ρ.map WO
@[simp] noncomputable def vw(ρ:En):Pe:=ρ.map WJ
mutual
@[simp] noncomputable def lf:T->Bool
 |.lst _=>false
 |.scr _=>false
 |.dic _=>false
 |.tup ts=>Fu ts
 |.obj _ fs=>Wa fs
 |_=>true
@[simp] noncomputable def Fu:List T->Bool
 |[]=>true
 |t::ts=>lf t&&Fu ts
noncomputable def Wa:List (Str×T)->Bool
 |[]=>true
 |t::ts=>lf t.2&&Wa ts
end
structure Fz where
 hp:Hp
 lt:List (Nat×Addr×List V)
instance:Coe Fz Hp:=⟨Fz.hp⟩
structure Lv(H0 F H:Hp)(σ:St)(ρ:En)(e:Nat×Addr×List V):Prop where
 h:H e.2.1=some (.lst e.2.2)
 f:F e.2.1=none
 z:H0 e.2.1=none
 d:∀(i:Nat) (ts:List T),ρ[i]? = some (some (.o ts))->σ[i]?≠some (some (.ref e.2.1))
def DR(K:W.Frag)(F:Hp)(a:List (List rM×V))(kvs:List (LI×T)):Prop:=Paired (λ(p:List rM×V) (q:LI×T)=>p.1=q.1.map Sum.inl/\mG K F p.2 q.2) a kvs
def DR.mono(s:jI F F')(h:DR K F xs kvs):DR K F' xs kvs:=Paired.imp' (λ_ _ q=>⟨q.1,q.2.mono s⟩) h
structure Dv(K:W.Frag)(H0 F H:Hp)(σ:St)(ρ:En):Prop where
 at_:∀(i:Nat) kvs,ρ[i]? = some (some (.d kvs))->∃a,σ[i]? = some (some (.ref a))/\F a=none/\H0 a=none/\∃xs,H a=some (.dT xs)/\DR K F xs kvs
 dj:∀(i j:Nat) kvs kvs',ρ[i]? = some (some (.d kvs))->ρ[j]? = some (some (.d kvs'))->i≠j->σ[i]?≠σ[j]?
def Kb{a:Type}{l:List a}{x y:a}(h:(l.set i x)[i]? = some y):y=x:=by
 rw[List.getElem?_set]at h;simp only[if_true]at h;split at h
 .exact (Option.some.inj h).symm
 .cases h
def Jq{a:Type}{l:List a}{x y:a}(h:(l.set i x)[j]? = some y):(j=i/\y=x)\/(j≠i/\l[j]? = some y):=by
 by_cases e:j=i
 .subst e;exact .inl ⟨rfl,Kb h⟩
 .rw[aq (λz=>e z.symm)]at h;exact .inr ⟨e,h⟩
def Dv.heap(d:Dv K H0 F H σ ρ)(s:jI F F')(h:∀a b,H a=some (.dT b)->F a=none->F' a=none/\H' a=some (.dT b)):Dv K H0 F' H' σ ρ:=⟨λi c e=>let ⟨a,e1,e2,e3,b,e4,e5⟩:=d.at_ i c e;let ⟨h1,h2⟩:=h a b e4 e2;⟨a,e1,h1,e3,b,h2,e5.mono s⟩,d.dj⟩
def Dv.set(d:Dv K H0 F H σ ρ)(hw:∀kvs,w≠some (.d kvs)):Dv K H0 F H (σ.set i v) (ρ.set i w):=by
 refine⟨λj kvs e=>?_,λj k kvs b e l c=>?_⟩
 .rcases Jq e with⟨rfl,q⟩|⟨f,q⟩
  .exact absurd q.symm (hw kvs)
  .obtain⟨a,h,r⟩:=d.at_ j kvs q;exact⟨a,by rw[aq (λz=>f z.symm)];exact h,r⟩
 .rcases Jq e with⟨rfl,q⟩|⟨f,q⟩
  .exact absurd q.symm (hw kvs)
  .rcases Jq l with⟨rfl,g⟩|⟨m,g⟩
   .exact absurd g.symm (hw b)
   .rw[aq (λz=>f z.symm),aq (λz=>m z.symm)];exact d.dj j k kvs b q g c
def Dv.setR(d:Dv K H0 F H σ ρ)(hw:∀kvs,w≠some (.d kvs)):Dv K H0 F H σ (ρ.set i w):=by
 refine⟨λj kvs e=>?_,λj k kvs a e g b=>?_⟩
 .rcases Jq e with⟨rfl,q⟩|⟨f,q⟩
  .exact absurd q.symm (hw kvs)
  .exact d.at_ j kvs q
 .rcases Jq e with⟨rfl,q⟩|⟨f,q⟩
  .exact absurd q.symm (hw kvs)
  .rcases Jq g with⟨rfl,c⟩|⟨h,c⟩
   .exact absurd c.symm (hw a)
   .exact d.dj j k kvs a q c b
structure Sr(K:W.Frag)(F0:Fz)(H0 F H:Hp)(σ:St)(ρ:En):Prop where
 gr:Gr F0.hp H0 F H
 len:σ.length=ρ.length
 pv:∀(i:Nat) (t:T),ρ[i]? = some (some (.p t))->∃v,σ[i]? = some (some v)/\mG K F v t
 ov:∃ad:Nat->Addr,(∀(i:Nat) (ts:List T),ρ[i]? = some (some (.o ts))->σ[i]? = some (some (.ref (ad i)))/\F (ad i)=none/\H0 (ad i)=none/\∃vs,H (ad i)=some (.lst vs)/\jr K F vs ts)/\
  ∀(i j:Nat) (ts us:List T),ρ[i]? = some (some (.o ts))->ρ[j]? = some (some (.o us))->i≠j->ad i≠ad j
 lv:∀e∈F0.lt,Lv H0 F H σ ρ e
 sl:∀(j:Nat) (l:Addr) (vs:List V),F0.lt.lookup j=some (l,vs)->ρ[j]? = some none->σ[j]? = some (some (.ref l))
 dv:Dv K H0 F H σ ρ
section
variable {K:W.Frag}{F0:Fz}{H0 F H F' H':Hp}{σ:St}{ρ:En}
def Sr.vars(r:Sr K F0 H0 F H σ ρ):ph K F σ (qH ρ):=λi t e=>by
 unfold qH at e;rw[av]at e;cases q:ρ[i]? with
 |none=>rw[q]at e;cases e
 |some w=>
  rw[q]at e;cases w with
  |none=>cases e
  |some w=>
   cases w with
   |p t'=>cases e;exact r.pv i _ q
   |o ts=>cases e
   |d kvs=>cases e
def Sr.grow(r:Sr K F0 H0 F H σ ρ)(g:Gr F H F' H'):Sr K F0 H0 F' H' σ ρ:=by
 obtain⟨j,m,l⟩:=r.ov;refine⟨r.gr.trans g,r.len,λi t e=>?_,⟨j,λi o e=>?_,l⟩,λe p=>?_,r.sl,r.dv.heap g.ff λa x k s=>⟨?_,g.hh _ _ k⟩⟩
 .obtain⟨v,a,b⟩:=r.pv i t e;exact⟨v,a,b.mono g.ff⟩
 .obtain⟨a,b,c,n,d,q⟩:=m i o e;refine⟨a,?_,c,n,g.hh _ _ d,q.mono g.ff⟩;cases z:F' (j i) with
  |none=>rfl
  |some u=>
   rcases g.nw (j i) (by rw[z];exact λw=>nomatch w) with y|y|⟨_,y⟩
   .exact absurd b y
   .rw[d]at y;cases y
   .rw[d]at y;cases y
 .have L:=r.lv e p;refine⟨g.hh _ _ L.h,?_,L.z,L.d⟩;cases z:F' e.2.1 with
  |none=>rfl
  |some u=>
   rcases g.nw e.2.1 (by rw[z];exact λw=>nomatch w) with y|y|⟨_,y⟩
   .exact absurd L.f y
   .rw[L.h]at y;cases y
   .rw[L.h]at y;cases y
 .cases z:F' a with
  |none=>rfl
  |some u=>
   rcases g.nw a (by rw[z];exact λw=>nomatch w) with y|y|⟨_,y⟩
   .exact absurd s y
   .rw[k]at y;cases y
   .rw[k]at y;cases y
theorem Sr.lend(r:Sr K F0 H0 F H σ ρ):∃l,jI F l/\Gr F0.hp H0 l H/\ph K l σ (vw ρ)/\
  (∀F' H',Gr l H F' H'->∃j,Gr F H j H'/\jI F j/\jI j F'/\(∀a,F' a≠none->j a=none->∃L,F' a=some (.lst L))/\(∀a,F' a≠none->j a=none->H a≠none)):=by
 classical
 obtain⟨I,m,N⟩:=r.ov;let f:Addr->Prop:=λa=>∃i h,ρ[i]? = some (some (.o h))/\I i=a;let l:Hp:=λa=>if f a then H a else F a
 have x:jI F l:=λa o e=>by
  have:¬f a:=by rintro⟨i,h,q,rfl⟩;obtain⟨_,b,_⟩:=m i h q;rw[b]at e;cases e
  show Kf o (if f a then H a else F a);rw[aR this];exact .of e
 have J:jI l H:=λa o e=>by
  by_cases q:f a
  .have s:(if f a then H a else F a)=some o:=e;rw[aQ q]at s;exact .of s
  .have s:(if f a then H a else F a)=some o:=e;rw[aR q]at s;exact r.gr.fh a o s
 have A:∀a,f a->l a=H a:=λa q=>aQ q;have D:∀a,¬f a->l a=F a:=λa q=>aR q;refine⟨l,x,⟨r.gr.ff.trans x,J,r.gr.hh,λa k=>?_⟩,λi t e=>?_,λF' H' g=>?_⟩
 .by_cases q:f a
  .obtain⟨i,h,e,rfl⟩:=q;exact .inr (.inl (m i h e).2.2.1)
  .rw[D a q]at k;exact r.gr.nw a k
 .unfold vw at e;rw[av]at e;cases q:ρ[i]? with
  |none=>rw[q]at e;cases e
  |some w=>
   rw[q]at e;cases w with
   |none=>cases e
   |some w=>
    cases w with
    |p t'=>cases e;obtain⟨v,a,b⟩:=r.pv i _ q;exact⟨v,a,b.mono x⟩
    |o h=>cases e;obtain⟨a,b,c,y,d,z⟩:=m i h q;exact⟨_,a,.lst (by rw[A _ ⟨i,h,q,rfl⟩];exact d) (z.mono x)⟩
    |d kvs=>cases e
 .let j:Hp:=λa=>if f a then none else F' a
  have u:∀a,¬f a->j a=F' a:=λa q=>aR q;have C:∀a,f a->j a=none:=λa q=>aQ q;have E:jI F j:=λa o e=>by
   have:¬f a:=by rintro⟨i,h,q,rfl⟩;obtain⟨_,b,_⟩:=m i h q;rw[b]at e;cases e
   rw[u a this];exact (x.trans g.ff) _ _ e
  have B:jI j F':=λa o e=>by
   by_cases q:f a
   .rw[C a q]at e;cases e
   .rw[u a q]at e;exact .of e
  refine⟨j,⟨E,B.trans g.fh,g.hh,λa k=>?_⟩,E,B,λa k n=>?_,λa k n=>?_⟩
  .by_cases q:f a
   .exact absurd (C a q) k
   .rw[u a q]at k;rcases g.nw a k with z|z
    .rw[D a q]at z;exact .inl z
    .exact .inr z
  .by_cases q:f a
   .obtain⟨i,h,e,rfl⟩:=id q;obtain⟨_,_,_,y,d,_⟩:=m i h e;exact⟨y,g.ff _ (.lst y) (by rw[A _ q];exact d)⟩
   .rw[u a q]at n;exact absurd n k
  .by_cases q:f a
   .obtain⟨i,h,e,rfl⟩:=id q;obtain⟨_,_,_,y,d,_⟩:=m i h e;rw[d];exact λz=>nomatch z
   .rw[u a q]at n;exact absurd n k
def mG.less(sb:jI Fb F)(h:∀a,F a≠none->Fb a=none->∃c,F a=some (.lst c)){v t}(r:mG K F v t):lf t=true->mG K Fb v t:=by
 have d:∀a u,F a=some u->(∀c,u≠.lst c)->(∀q m,u≠.tbl q m)->Fb a=some u:=λa u e n g=>by
  cases q:Fb a with
  |none=>obtain⟨c,z⟩:=h a (by rw[e];exact nofun) q;rw[e]at z;cases z;exact absurd rfl (n c)
  |some u'=>have k:=sb a u' q;rw[e]at k;rw[Fe k g]
 exact mG.rec (motive_1:=λv t _=>lf t=true->mG K Fb v t) (motive_2:=λv t _=>Fu t=true->jr K Fb v t) (motive_3:=λv t _=>Wa t=true->uR K Fb v t) (motive_4:=λ_ _ _=>True) (λ_=>.non) (λb _=>.bl b) (λi _=>.int i) (λx _=>.str x)
  (λe _ f l=>.tup (d _ _ e nofun nofun) (f (by simpa[lf] using l))) (λ_ _ _ l=>by simp[lf]at l) (λ_ l=>by simp[lf]at l) (λe _ f l=>.obj (d _ _ e nofun nofun) (f (by simpa[lf] using l))) (λe _=>.emp (d _ _ e nofun nofun)) (λ_ _ _ l=>by simp[lf]at l)
  (λ_=>.nil) (λ_ _ i j l=>by rw[Fu,bZ]at l;exact .cons (i l.1) (j l.2)) (λ_=>.nil) (λ_ _ i j l=>by rw[Wa,bZ]at l;exact .cons (i l.1) (j l.2)) ⟨⟩ (λ_ _ _ _=>⟨⟩) r
def jr.less(sb:jI Fb F)(h:∀a,F a≠none->Fb a=none->∃d,F a=some (.lst d)){vs ts}(r:jr K F vs ts):Fu ts=true->jr K Fb vs ts:=jr.ind (P:=λa b=>Fu b=true->jr K Fb a b) (λ_=>.nil) (λ_ _ _ _ q _ c l=>by rw[Fu,bZ]at l;exact .cons (mG.less sb h q l.1) (c l.2)) r
end
end L3
namespace L3
open PySem L2
def kT(K:W.Frag)(F H:Hp)(Q:VK)(ts us:List T):Prop:=∀p l d c a b,Gr F H a b->H l=none->a l=none->H p=none->a p=none->p≠l->b l=some (.lst c)->b p=some (.tup (d++[.ref l]))->jr K a d ts->jr K a c us->Q (.ref p) b
def kT.of(h:kV K F H Q (.tup (ts++[.lst us]))):kT K F H Q ts us:=λp l v k j u g a b c d e f i r s=>by
 have q:=g.take f b a;have n:kU j l (.lst k) p=none:=by rw[ja e];exact d
 have o:jI j (kU j l (.lst k)):=mK b;have m:jI (kU j l (.lst k)) (kU (kU j l (.lst k)) p (.tup (v++[.ref l]))):=mK n;exact h (.ref p) _ u (q.take i n c) (.tup jb ((r.mono (o.trans m)).append (.cons (.lst (m _ _ jb) (s.mono (o.trans m))) .nil)))
inductive O where
 |bad|nx (ρ:En)|rt (t:T)|rf (ts:List T)|rn (ts us:List T)|bk (ρ:En)|ct (ρ:En)|er (C:Addr) (n:Option Int)
section
variable (K:W.Frag)(E:XK)
def kN(e:Fz)(d F:Hp)(D:St->Hp->Prop)(ρ:En):Prop:=∀c b a,jI F c->Sr K e d c b a ρ->D a b
noncomputable def O.res(o:O)(b:Fz)(a F:Hp)(D:xN):Prop:=match o with
 |.bad=>False
 |.nx ρ=>kN K b a F D.nx ρ
 |.rt t=>kV K b.hp a D.rt t
 |.rf ts=>kF K b.hp a D.rt ts
 |.rn ts us=>kT K b.hp a D.rt ts us
 |.bk ρ=>kN K b a F D.bk ρ
 |.ct ρ=>kN K b a F D.ct ρ
 |.er C n=>kE E b.hp a C n
noncomputable def MS(t:TS)(g:En->O):Prop:=∀d b F H a c D,Sr K d b F H a c->(g c).res K E d b F D->t D a H
end
section
variable {K:W.Frag}{E:XK}{t u ta tb:TE}{f fa fb:Pe->M T}{F0:Fz}{H0 F H F1 H1:Hp}{σ:St}{ρ:En}{D:xN}
def kN.go(h:kN K F0 H0 F N ρ)(s:jI F F1):kN K F0 H0 F1 N ρ:=λd c a b r=>h d c a (s.trans b) r
def O.res.go{o:O}(h:o.res K E F0 H0 F D)(s:jI F F1):o.res K E F0 H0 F1 D:=by
 cases o with
 |bad=>exact h
 |nx ρ=>exact kN.go h s
 |rt t=>exact h
 |rf ts=>exact h
 |rn ts us=>exact h
 |bk ρ=>exact kN.go h s
 |ct ρ=>exact kN.go h s
 |er C n=>exact h
noncomputable def O.of{b:Type}(m:M b)(k:b->O):O:=match m with
 |.bad=>.bad
 |.ok a=>k a
 |.er C n=>.er C n
@[simp] theorem O.of_ok(a:α) k:O.of (.ok a) k=k a:=rfl
@[simp] theorem O.of_bad k:O.of (.bad:M α) k=.bad:=rfl
@[simp] theorem O.of_er C n k:O.of (.er C n:M α) k=.er C n:=rfl
def O.res_of{m:M α}{k:α->O}(h:(O.of m k).res K E F0 H0 F D):m.res (λa=>(k a).res K E F0 H0 F D) (kE E F0.hp H0):=by cases m<;>exact h
@[simp] noncomputable def iZ(a b:En->O):En->O:=λρ=>match a ρ with
 |.nx ρ'=>b ρ'
 |o=>o
def S3{t u:TS}(g:MS K E t a)(d:MS K E u b):MS K E (Qr t u) (iZ a b):=λF0 H0 F H σ ρ D r q=>by
 refine g F0 H0 F H σ ρ _ r ?_;unfold iZ at q;cases e:a ρ with
 |nx ρ'=>rw[e]at q;intro i j c s h;exact d F0 H0 i j c ρ' D h (q.go s)
 |bad=>rw[e]at q;exact q
 |rt t=>rw[e]at q;exact q
 |rf ts=>rw[e]at q;exact q
 |rn ts us=>rw[e]at q;exact q
 |bk ρ=>rw[e]at q;exact q
 |ct ρ=>rw[e]at q;exact q
 |er C n=>rw[e]at q;exact q
@[simp] noncomputable def ju:En->O:=λρ=>.nx ρ
def QG:MS K E NH ju:=λF0 H0 F H σ ρ D r q=>q F H σ (.refl _) r
def Mc:MS K E Ge (λ_=>.bad):=λ_ _ _ _ _ _ _ _ q=>q
def MT.inS(j:MT K E c fc)(r:Sr K F0 H0 F H σ ρ)(q:(O.of (fc (vw ρ)) k).res K E F0 H0 F D)
  (o:∀b d e,jI F d->Sr K F0 H0 d e σ ρ->(k b).res K E F0 H0 d D->Q b e):c σ H Q:=by
 obtain⟨i,p,g0,V,a⟩:=r.lend;refine j i H σ (vw ρ) Q g0.fh V ((O.res_of q).mono (λb z d e g=>?_) λC n z=>z.go g0);obtain⟨l,m,h,_⟩:=a d e g;exact o b l e h (r.grow m) (z.go h)
@[simp] noncomputable def mB(d:Pe->M Bool)(a b:En->O):En->O:=λρ=>.of (d (vw ρ)) λc=>if c then a ρ else b ρ
def U3{t u:TS}(i:MT K E c fc)(h:MS K E t a)(g:MS K E u b):MS K E (TX c t u) (mB fc a b):=λF0 H0 F H σ ρ D r q=>by
 refine i.inS r q λc j k s d e=>?_;cases c with
 |true=>rw[aQ rfl];exact h _ _ _ _ _ _ _ d e
 |false=>rw[aR aH];exact g _ _ _ _ _ _ _ d e
@[simp] noncomputable def jy(f:Pe->M T):En->O:=λρ=>.of (f (vw ρ)) λt=>.rt t
def Sq(h:ME K E t f):MS K E (Dd t) (jy f):=λF0 H0 F H σ ρ D r q=>by obtain⟨c,d,g0,V,a⟩:=r.lend;exact h c H σ (vw ρ) _ g0.fh V ((O.res_of q).mono (λb z=>kV.go z g0) λC n z=>z.go g0)
@[simp] noncomputable def rh(f:Pe->M ba):En->O:=λρ=>.of (f (vw ρ)) λt=>.rf t
def Ov{f:Pe->M ba}(h:MF K E t f):MS K E (Dd t) (rh f):=λF0 H0 F H σ ρ D r q=>by obtain⟨c,d,g0,V,a⟩:=r.lend;exact h c H σ (vw ρ) _ g0.fh V ((O.res_of q).mono (λb z=>kF.go z g0) λC n z=>z.go g0)
@[simp] noncomputable def sU(i:Nat):En->O:=λρ=>match ρ[i]? with
 |some (some (.o ts))=>.rf ts
 |_=>.bad
def Jh:MS K E (Dd (qD i)) (sU i):=λF0 H0 F H σ ρ D r q=>by
 unfold sU at q;split at q
 .rename_i k e;obtain⟨g,h,l⟩:=r.ov;obtain⟨a,b,c,j,d,z⟩:=h i k e;exact⟨_,a,q (g i) j F H r.gr c b d z⟩
 .exact q.elim
def wO{a:Type}{l:List a}{x y:a}(h:(l.set i x)[i]? = some y):y=x:=by
 rw[List.getElem?_set]at h;simp only[if_true]at h;split at h
 .exact (Option.some.inj h).symm
 .cases h
def jj{a:Type}{l:List a}{x y:a}(h:(l.set i x)[j]? = some y):(j=i/\y=x)\/(j≠i/\l[j]? = some y):=by
 by_cases e:j=i
 .subst e;exact .inl ⟨rfl,wO h⟩
 .rw[aq (λz=>e z.symm)]at h;exact .inr ⟨e,h⟩
def uJ{a:Type}{l:List a}{x:a}(h:i<l.length):(l.set i x)[i]? = some x:=by rw[List.getElem?_set_self h]
def Sr.setP(r:Sr K F0 H0 F H σ ρ)(h:mG K F v x):Sr K F0 H0 F H (σ.set i (some v)) (ρ.set i (some (.p x))):=by
 obtain⟨s,A,y⟩:=r.ov;refine⟨r.gr,by simp[r.len],λj t e=>?_,⟨s,λj m e=>?_,λj k m B e N=>?_⟩,λe J=>?_,λj l C n q=>?_,r.dv.set λ_ z=>nomatch z⟩
 .have I:j<ρ.length:=by simpa using (aa.mp e).1
  rcases jj e with⟨rfl,q⟩|⟨c,q⟩
  .cases q;exact⟨v,uJ (by rw[r.len];exact I),h⟩
  .obtain⟨w,a,b⟩:=r.pv j t q;exact⟨w,by rw[aq (λz=>c z.symm)];exact a,b⟩
 .rcases jj e with⟨rfl,q⟩|⟨c,q⟩
  .cases q
  .obtain⟨a,b⟩:=A j m q;exact⟨by rw[aq (λz=>c z.symm)];exact a,b⟩
 .rcases jj e with⟨rfl,q⟩|⟨c,q⟩
  .cases q
  .rcases jj N with⟨rfl,o⟩|⟨P,o⟩
   .cases o
   .exact y j k m B q o
 .have L:=r.lv e J;refine⟨L.h,L.f,L.z,λj m q=>?_⟩;rcases jj q with⟨rfl,g⟩|⟨c,g⟩
  .cases g
  .rw[aq (λz=>c z.symm)];exact L.d j m g
 .rcases jj q with⟨rfl,g⟩|⟨c,g⟩
  .cases g
  .rw[aq (λz=>c z.symm)];exact r.sl j l C n g
def Sr.setO(r:Sr K F0 H0 F H σ ρ)(g:Gr F H F1 H1)(x:H l=none)(hf:F1 l=none)(hv:H1 l=some (.lst vs))(hr:jr K F1 vs ts) :
  Sr K F0 H0 F1 H1 (σ.set i (some (.ref l))) (ρ.set i (some (.o ts))):=by
 have p:=r.grow g;obtain⟨N,B,_⟩:=r.ov;obtain⟨y,P,Z⟩:=p.ov;have R:∀j m,ρ[j]? = some (some (.o m))->y j≠l:=λj m e z=>by
  obtain⟨a,_⟩:=P j m e;obtain⟨Q,_,_,vs0,Y,_⟩:=B j m e;rw[a]at Q;have:y j=N j:=by simpa using Q
  rw[<-this,z,x]at Y;cases Y
 refine⟨p.gr,by simp[r.len],λj t e=>?_,⟨λj=>if j=i then l else y j,λj m e=>?_,λj k m X e U v=>?_⟩,λe S=>?_,λj l' I A q=>?_,p.dv.set λ_ z=>nomatch z⟩
 .rcases jj e with⟨rfl,q⟩|⟨c,q⟩
  .cases q
  .obtain⟨w,a,b⟩:=p.pv j t q;exact⟨w,by rw[aq (λz=>c z.symm)];exact a,b⟩
 .have C:j<ρ.length:=by simpa using (aa.mp e).1
  rcases jj e with⟨rfl,q⟩|⟨c,q⟩
  .cases q;dsimp only;rw[aQ rfl];exact⟨uJ (by rw[r.len];exact C),hf,jF r.gr.hh x,vs,hv,hr⟩
  .dsimp only;rw[aR c];obtain⟨a,b⟩:=P j m q;exact⟨by rw[aq (λz=>c z.symm)];exact a,b⟩
 .rcases jj e with⟨rfl,q⟩|⟨c,q⟩
  .rcases jj U with⟨rfl,s⟩|⟨J,s⟩
   .exact absurd rfl v
   .dsimp only;rw[aQ rfl,aR J];exact λz=>R k X s z.symm
  .rcases jj U with⟨rfl,s⟩|⟨J,s⟩
   .dsimp only;rw[aR c,aQ rfl];exact R j m q
   .dsimp only;rw[aR c,aR J];exact Z j k m X q s v
 .have L:=p.lv e S;have L0:=r.lv e S;refine⟨L.h,L.f,L.z,λj ts q=>?_⟩;rcases jj q with⟨rfl,n⟩|⟨c,n⟩
  .intro z;have z':=wO z;have:e.2.1=l:=by simpa using z'
   rw[<-this,L0.h]at x;cases x
  .rw[aq (λz=>c z.symm)];exact L.d j ts n
 .rcases jj q with⟨rfl,n⟩|⟨c,n⟩
  .cases n
  .rw[aq (λz=>c z.symm)];exact r.sl j l' I A n
@[simp] noncomputable def j9(f:Pe->M T)(ρ:En):M T:=f (qH ρ)
@[simp] noncomputable def qr(f:Pe->M T)(ρ:En):M T:=(f (vw ρ)).bind λt=>if lf t then .ok t else .bad
def ME.inH(h:ME K E t f)(r:Sr K F0 H0 F H σ ρ)(q:(O.of (j9 f ρ) k).res K E F0 H0 F D)
  (d:∀x v a b,Gr F H a b->mG K a v x->Sr K F0 H0 a b σ ρ->(k x).res K E F0 H0 a D->Q v b):t σ H Q:=
 h F H σ (qH ρ) Q r.gr.fh r.vars ((O.res_of q).mono (λx z v a b g c=>d x v a b g c (r.grow g) (z.go g.ff)) λC n z=>z.go r.gr)
def ME.inB(h:ME K E t f)(r:Sr K F0 H0 F H σ ρ)(q:(O.of (qr f ρ) k).res K E F0 H0 F D)
  (s:∀x v a b,Gr F H a b->mG K a v x->Sr K F0 H0 a b σ ρ->(k x).res K E F0 H0 a D->Q v b):t σ H Q:=by
 obtain⟨l,w,g0,V,c⟩:=r.lend;refine h l H σ (vw ρ) Q g0.fh V ((M.res.unb (O.res_of q)).mono (λx z v a b g m=>?_) λC n z=>z.go g0);obtain⟨p,j,o,i,d,_⟩:=c a b g;by_cases e:lf x=true
 .rw[aQ e]at z;exact s x v p b j (m.less i d e) (r.grow j) (O.res.go z o)
 .rw[aR e]at z;exact z.elim
@[simp] noncomputable def setO(i:Nat)(f:En->M T):En->O:=λρ=>.of (f ρ) λt=>.nx (ρ.set i (some (.p t)))
def Iw(h:ME K E t f):MS K E (q8 t (mx i)) (setO i (j9 f)):=λF0 H0 F H σ ρ D r q=>h.inH r q λx v e c g d a b=>b e c _ (.refl _) (a.setP d)
def Q7(h:ME K E t f):MS K E (q8 t (mx i)) (setO i (qr f)):=λF0 H0 F H σ ρ D r q=>h.inB r q λx v e c g d a b=>b e c _ (.refl _) (a.setP d)
@[simp] noncomputable def sW(f:Pe->M ba)(ρ:En):M ba:=f (qH ρ)
@[simp] noncomputable def yG(f:Pe->M ba)(ρ:En):M ba:=(f (vw ρ)).bind λa=>if Fu a then .ok a else .bad
def MF.inH{f:Pe->M ba}(h:MF K E t f)(r:Sr K F0 H0 F H σ ρ)(q:(O.of (sW f ρ) k).res K E F0 H0 F D)
  (j:∀ts l vs e i,Gr F H e i->H l=none->e l=none->i l=some (.lst vs)->jr K e vs ts->(k ts).res K E F0 H0 e D->Q (.ref l) i):t σ H Q:=
 h F H σ (qH ρ) Q r.gr.fh r.vars ((O.res_of q).mono (λts z l vs e i g a b c d=>j ts l vs e i g a b c d (z.go g.ff)) λC n z=>z.go r.gr)
def MF.inB{f:Pe->M ba}(h:MF K E t f)(r:Sr K F0 H0 F H σ ρ)(q:(O.of (yG f ρ) k).res K E F0 H0 F D)
  (x:∀ts l vs e i,Gr F H e i->H l=none->e l=none->i l=some (.lst vs)->jr K e vs ts->(k ts).res K E F0 H0 e D->Q (.ref l) i):t σ H Q:=by
 obtain⟨y,A,g0,V,j⟩:=r.lend;refine h y H σ (vw ρ) Q g0.fh V ((M.res.unb (O.res_of q)).mono (λts z l vs e i g a b c d=>?_) λC n z=>z.go g0);obtain⟨v,w,s,o,m,_⟩:=j e i g;by_cases p:Fu ts=true
 .rw[aQ p]at z;exact x ts l vs v i w a (jF o b) c (d.less o m p) (O.res.go z s)
 .rw[aR p]at z;exact z.elim
@[simp] noncomputable def qC(i:Nat)(f:En->M ba):En->O:=λρ=>.of (f ρ) λa=>.nx (ρ.set i (some (.o a)))
def CI{f:Pe->M ba}(h:MF K E t f):MS K E (q8 t (mx i)) (qC i (sW f)):=λF0 H0 F H σ ρ D r q=>h.inH r q λn l m e k g a b c d j=>j e k _ (.refl _) (r.setO g a b c d)
def Oo{f:Pe->M ba}(h:MF K E t f):MS K E (q8 t (mx i)) (qC i (yG f)):=λF0 H0 F H σ ρ D r q=>h.inB r q λn l m e k g a b c d j=>j e k _ (.refl _) (r.setO g a b c d)
@[simp] noncomputable def vm(f:En->M T):En->O:=λρ=>.of (f ρ) λ_=>.nx ρ
def NC(h:ME K E t f):MS K E (v8 t) (vm (j9 f)):=λF0 H0 F H σ ρ D r q=>h.inH r q λx v d c g e a b=>b d c _ (.refl _) a
def Sr.change(r:Sr K F0 H0 F H σ ρ)(e:ρ[i]? = some (some (.o ts)))(hw:jr K F ws us) :
  ∃l vs,σ[i]? = some (some (.ref l))/\H l=some (.lst vs)/\jr K F vs ts/\Sr K F0 H0 F (kU H l (.lst ws)) σ (ρ.set i (some (.o us))):=by
 obtain⟨B,N,A⟩:=r.ov;obtain⟨a,b,c,vs,d,z⟩:=N i ts e;refine⟨B i,vs,a,d,z,⟨r.gr.ff,λp u q=>?_,λp u q=>?_,r.gr.nw⟩,by simp[r.len],λj t q=>?_,⟨B,λj s q=>?_,λj k s x q P m=>?_⟩,λQ Y=>?_,λj X n C q=>?_,(r.dv.heap (.refl _) λp xs I _=>⟨by assumption,by rw[ja (λz=>by rw[z,d]at I;cases I)];exact I⟩).setR λ_ z=>nomatch z⟩
 .rw[ja (jO q b)];exact r.gr.fh p u q
 .rw[ja (jO q c)];exact r.gr.hh p u q
 .rcases jj q with⟨rfl,g⟩|⟨v,g⟩
  .cases g
  .exact r.pv j t g
 .rcases jj q with⟨rfl,g⟩|⟨v,g⟩
  .cases g;exact⟨a,b,c,ws,jb,hw⟩
  .obtain⟨a',U,S,n,R,Z⟩:=N j s g;exact⟨a',U,S,n,by rw[ja (A j i s ts g e v)];exact R,Z⟩
 .rcases jj q with⟨rfl,g⟩|⟨v,g⟩
  .rcases jj P with⟨rfl,y⟩|⟨hk,y⟩
   .exact absurd rfl m
   .exact A j k ts x e y m
  .rcases jj P with⟨rfl,y⟩|⟨hk,y⟩
   .exact A j k s ts g e m
   .exact A j k s x g y m
 .have L:=r.lv Q Y;have J:Q.2.1≠B i:=λw=>L.d i ts e (by rw[w];exact a);refine⟨by rw[ja J];exact L.h,L.f,L.z,λj s q=>?_⟩;rcases jj q with⟨rfl,g⟩|⟨v,g⟩
  .exact L.d _ ts e
  .exact L.d j s g
 .rcases jj q with⟨rfl,g⟩|⟨v,g⟩
  .cases g
  .exact r.sl j X n C g
@[simp] noncomputable def pS(ρ:En)(i:Nat):M ba:=match ρ[i]? with
 |some (some (.o ts))=>.ok ts
 |_=>.bad
def vY(h:pS ρ i=.ok ts):ρ[i]? = some (some (.o ts)):=by
 unfold pS at h;split at h
 .rename_i a e;cases h;exact e
 .cases h
@[simp] noncomputable def si(i:Nat)(f:En->M T):En->O:=λρ=>.of (pS ρ i) λa=>.of (f ρ) λt=>if a.length<sizeLine then .nx (ρ.set i (some (.o (a++[t])))) else .bad
def Ak(r:Sr K F0 H0 F H σ ρ)(e:ρ[i]? = some (some (.o ts)))(n:mG K F v x)
  (q:(if ts.length<sizeLine then O.nx (ρ.set i (some (.o (ts++[x])))) else .bad).res K E F0 H0 F D):∃l,σ[i]? = some (some (.ref l))/\Di (.ref l) [v] H λ_ H1=>D.nx σ H1:=by
 by_cases g:ts.length<sizeLine
 .rw[aQ g]at q;obtain⟨k,h,_⟩:=r.ov;obtain⟨_,_,_,p,d,z⟩:=h i ts e;obtain⟨l,b,j,c,s,m⟩:=r.change e (z.append (.cons n .nil));have:b=p:=by
   have a:=(h i ts e).1;rw[j]at a;have:l=k i:=by simpa using a
   rw[this,d]at c;cases c;rfl
  subst this;exact⟨l,j,l,b,v,rfl,rfl,c,by rw[z.length];exact g,q F _ _ (.refl _) m⟩
 .rw[aR g]at q;exact q.elim
def J4(K:W.Frag)(i:Nat)(a:TE):TE:=W2 K "list" Di (qD i) (vh a yN)
def Qe(p:∀l w H,H l=some (.lst w)->UE K "list" (.ref l) H)(h:ME K E t f):MS K E (v8 (J4 K i t)) (si i (j9 f)):=λF0 H0 F H σ ρ D r q=>by
 unfold si at q;cases e:pS ρ i with
 |bad=>rw[e]at q;exact q.elim
 |er C n=>unfold pS at e;split at e<;>cases e
 |ok ts=>rw[e]at q;have j:=vY e;obtain⟨y,k,_⟩:=r.ov;obtain⟨a,_,_,B,d,_⟩:=k i ts j;refine⟨_,a,p _ _ _ d,?_⟩;refine h.inH r q λx v z A g o m s=>?_;obtain⟨l,c,b⟩:=Ak m j o s;rw[a]at c;cases c;exact b
def Qm(p:∀l w H,H l=some (.lst w)->UE K "list" (.ref l) H)(h:ME K E t f):MS K E (v8 (J4 K i t)) (si i (qr f)):=λF0 H0 F H σ ρ D r q=>by
 unfold si at q;cases e:pS ρ i with
 |bad=>rw[e]at q;exact q.elim
 |er C n=>unfold pS at e;split at e<;>cases e
 |ok ts=>rw[e]at q;have j:=vY e;obtain⟨y,k,_⟩:=r.ov;obtain⟨a,_,_,B,d,_⟩:=k i ts j;refine⟨_,a,p _ _ _ d,?_⟩;refine h.inB r q λx v z A g o m s=>?_;obtain⟨l,c,b⟩:=Ak m j o s;rw[a]at c;cases c;exact b
@[simp] noncomputable def yf(i:Nat)(b:En->M T)(f:En->M T):En->O:=λρ=>.of (pS ρ i) λa=>.of (f ρ) λt=>.of (b ρ) λk=>match k with
 |.int k=>match zj a.length k with
  |some j=>.nx (ρ.set i (some (.o (a.set j t))))
  |none=>.bad
 |_=>.bad
theorem LS{i:Nat}{ts:List T}{x y:T}{v w:V}{l:Addr}(p:Sr K F0 H0 F H σ ρ)(m:ρ[i]? = some (some (.o ts)))(q:σ[i]? = some (some (.ref l)))(C:mG K F v x)(h:mG K F w y)
  (b:(match y with
   |.int k=>match zj ts.length k with
    |some j=>O.nx (ρ.set i (some (.o (ts.set j x))))
    |none=>.bad
   |_=>.bad).res K E F0 H0 F D):Iq (.ref l) w v H λB=>D.nx σ B:=by
 cases h with
 |int k=>
  dsimp only at b;cases g:zj ts.length k with
  |none=>rw[g]at b;exact b.elim
  |some j=>
   rw[g]at b;obtain⟨A,n,_⟩:=p.ov;obtain⟨_,_,_,I,d,z⟩:=n i ts m;obtain⟨J,c,r,e,L,s⟩:=p.change m (z.set C j);rw[q]at r;cases r;have:c=I:=by
    have a:=(n i ts m).1;rw[q]at a;have:l=A i:=by simpa using a
    rw[this,d]at e;cases e;rfl
   subst this;exact⟨l,c,k,j,rfl,rfl,e,by rw[z.length];exact g,b F _ _ (.refl _) s⟩
 |_=>exact b.elim
def Uc(h:ME K E t f)(s:ME K E tk fk):MS K E (q8 t (Tw (qD i) tk Iq)) (yf i (qr fk) (qr f)):=λF0 H0 F H σ ρ D r q=>by
 unfold yf at q;cases e:pS ρ i with
 |bad=>rw[e]at q;exact q.elim
 |er C n=>unfold pS at e;split at e<;>cases e
 |ok ts=>rw[e]at q;have c:=vY e;obtain⟨z,d,_⟩:=r.ov;have a:=(d i ts c).1;refine h.inB r q λx v I J g l j o=>⟨_,a,?_⟩;exact s.inB j o λy w A B m b k p=>LS k c a (l.mono m.ff) b p
end
end L3
namespace L3
open PySem L2
section
variable {K:W.Frag}{E:XK}{t u ta tb:TE}{f fa fb:Pe->M T}{F0:Fz}{H0 F H F1 H1:Hp}{σ:St}{ρ:En}{D:xN}
structure Bm(K:W.Frag)(J:It)(its:List T)(F1:Hp):Prop where
 go:∀i H,jI F1 H->i<its.length->J.go i H
 stop:∀H,jI F1 H->J.stop its.length H
 yld:∀(i:Nat) t F H x H',jI F1 F->jI F H->its[i]? = some t->J.yld i H x H'->∃F',Gr F H F' H'/\mG K F' x t
def kI(K:W.Frag)(F H:Hp)(R:It->Hp->Prop)(its:List T):Prop:=∀J b a,Gr F H b a->Bm K J its b->R J a
noncomputable def MI(K:W.Frag)(E:XK)(w:TI)(f:Pe->M ba):Prop:=∀F H σ ρ R,jI F H->ph K F σ ρ->(f ρ).res (kI K F H R) (kE E F H)->w σ H R
def Ya(K:W.Frag)(F H:Hp)(R:It->Hp->Prop)(its:List T):Prop:=∀J b a,Gr F H b a->(∀F1,Bm K J its F1)->R J a
noncomputable def UR(K:W.Frag)(E:XK)(w:TI)(f:Pe->M ba):Prop:=∀F H σ ρ R,jI F H->ph K F σ ρ->(f ρ).res (Ya K F H R) (kE E F H)->w σ H R
def UR.mi{f:Pe->M ba}(h:UR K E w f):MI K E w f:=λF H σ ρ R s V q=>h F H σ ρ R s V (q.mono (λc z J a b g i=>z J a b g (i a)) λ_ _ z=>z)
@[simp] noncomputable def V8(fa:Pe->M T):Pe->M ba:=λρ=>(fa ρ).bind λx=>match x with
 |.lst ts=>.ok ts
 |.scr ns=>.ok (ns.map T.int)
 |_=>.bad
@[simp] noncomputable def W9(fa:Pe->M T):Pe->M ba:=λρ=>(fa ρ).bind λx=>match x with
 |.tup ts=>.ok ts
 |_=>.bad
def HX(c:nh K F a xs)(r:jr K F xs ts):Bm K (WW K a) ts F where
 go:=λi H s j=>by have e:xs[i]? = some (xs[i]'(by rw[r.length];exact j)):=ag _;exact⟨xs,_,s.seq c,e⟩
 stop:=λH s=>⟨xs,s.seq c,by rw[r.length];exact aK _⟩
 yld:=λi t k H x o g d e y=>by obtain⟨rfl,l⟩:=y;have m:=l xs ((g.trans d).seq c);obtain⟨n,b,h⟩:=r.at_ m;rw[e]at b;cases b;exact⟨k,.refl d,h.mono g⟩
def xG(s:jI F H)(h:F a=some (.tup xs)):pX K H a xs:=pX.of (s _ _ h)
def T7(c:F a=some (.tup xs))(r:jr K F xs ts):Bm K (WB K a) ts F where
 go:=λi H s j=>by have e:xs[i]? = some (xs[i]'(by rw[r.length];exact j)):=ag _;exact⟨xs,_,xG s c,e⟩
 stop:=λH s=>⟨xs,xG s c,by rw[r.length];exact aK _⟩
 yld:=λi t k H x o g d e y=>by obtain⟨rfl,l⟩:=y;have m:=l xs (xG (g.trans d) c);obtain⟨n,b,h⟩:=r.at_ m;rw[e]at b;cases b;exact⟨k,.refl d,h.mono g⟩
def CJ(d:ME K E ta fa):MI K E (Kn K ta) (V8 fa):=λF H σ ρ R s V q=>by
  refine d.run s V q λx v F1 H1 a c b=>?_;cases c<;>first
    |exact b.elim
    | (rename_i h r
       exact⟨_,rfl,⟨_,nh.of (a.fh _ _ h)⟩,b _ F1 H1 a (HX (nh.of h) r)⟩)
    | (rename_i h
       exact⟨_,rfl,⟨_,a.fh.seq h⟩,b _ F1 H1 a (HX h (jr.of_ints _))⟩)
def Tr(d:ME K E ta fa):MI K E (Sv K ta) (W9 fa):=λF H σ ρ R s V q=>by
  refine d.run s V q λx v F1 H1 a c b=>?_;cases c<;>first
    |exact b.elim
    | (rename_i h r
       exact⟨_,rfl,⟨_,pX.of (a.fh _ _ h)⟩,b _ F1 H1 a (T7 h r)⟩)
def U2:(2:Int) ^ 62=4611686018427387904:=by decide +kernel
def Wp:(2:Int) ^ 63=9223372036854775808:=by decide +kernel
noncomputable def DH(j:Int):Bool:=decide (j.natAbs<4611686018427387904)
def uG(h:DH j=true):-(2 ^ 62)<=j/\j<2 ^ 62:=by rw[U2];have:=of_decide_eq_true h;omega
def nB(h:j.natAbs<=1000000):DH j=true:=aC (cD h (by decide))
noncomputable def DE(a:Int)(n:Nat):List T:=(List.range n).map λ(i:Nat)=>T.int (a+(i:Int))
def Tt F:Bm K (Vn lo n) (DE lo n) F where
 go:=λi H s a=>by show i<n;simpa[DE] using a
 stop:=λH s=>by simp[DE,Vn]
 yld:=λi t b H x d g c e y=>by
  obtain⟨rfl,rfl⟩:=y;have a:i<n:=by simpa[DE] using (aa.mp e).1
  have:t=.int (lo+i):=by unfold DE at e;rw[av,List.getElem?_range a]at e;cases e;rfl
  rw[this];exact⟨b,.refl c,.int _⟩
@[simp] noncomputable def qc(fa:Pe->M ba):Pe->M ba:=λρ=>(fa ρ).bind λa=>match a with
 |[.int j]=>if DH j then .ok (DE 0 j.toNat) else .bad
 |_=>.bad
def Pk{ta:TA}{fa:Pe->M ba}(h:MA K E ta fa):UR K E (L7 ta) (qc fa):=λF H σ ρ R s V q=>by
 refine h.run s V q λk i F1 H1 e g c=>?_;split at c
 .rename_i j;split at c
  .rename_i d;cases g with
   |cons a b=>cases a;cases b;exact⟨j,rfl,(uG d).1,(uG d).2,c _ F1 H1 e Tt⟩
  .exact c.elim
 .exact c.elim
noncomputable def seqB(b:Bool):T->M ba
 |.tup ts=>if b then .ok ts else .bad
 |.lst ts=>if b then .bad else .ok ts
 |.scr ns=>if b then .bad else .ok (ns.map T.int)
 |_=>.bad
def Dk(r:mG K F v x)(e:seqB b x=.ok ts):∃a c,v=.ref a/\(∀H,jI F H->yP K H b a c)/\jr K F c ts:=by
 cases r<;>try (cases e)
 .rename_i a c d h r;cases b with
  |true=>cases e;exact⟨a,c,rfl,λH s=>by unfold yP;rw[aQ rfl];exact pX.of (s _ _ h),r⟩
  |false=>cases e
 .rename_i a c d h r;cases b with
  |true=>cases e
  |false=>cases e;exact⟨a,c,rfl,λH s=>by unfold yP;rw[aR aH];exact nh.of (s _ _ h),r⟩
 .rename_i a g h;cases b with
  |true=>cases e
  |false=>cases e;exact⟨a,_,rfl,λH s=>by unfold yP;rw[aR aH];exact s.seq h,jr.of_ints g⟩
noncomputable def Dm(b a:List T):List T:=(b.zip a).map λp=>T.tup [p.1,p.2]
def TV(j:∀H,jI F H->yP K H b1 l1 xs)(d:jr K F xs ts)(h:∀H,jI F H->yP K H b2 l2 ys)(l:jr K F ys us):Bm K (WM K b1 b2 l1 l2) (Dm ts us) F where
 go:=λi H s J=>by
  have a:i<ts.length/\i<us.length:=by simp[Dm]at J;omega
  have c:xs[i]? = some (xs[i]'(by rw[d.length];exact a.1)):=ag _;have k:ys[i]? = some (ys[i]'(by rw[l.length];exact a.2)):=ag _;exact⟨xs,ys,_,_,j H s,h H s,c,k⟩
 stop:=λH s=>⟨xs,ys,j H s,h H s,by simp[Dm,d.length,l.length];lia⟩
 yld:=λi t L H x N b m e y=>by
  obtain⟨p,A,B,rfl,v,rfl,c,k⟩:=y;obtain⟨q,I,w⟩:=d.at_ (c xs (j H (b.trans m)));obtain⟨n,r,C⟩:=l.at_ (k ys (h H (b.trans m)));have:t=.tup [q,n]:=by unfold Dm at e;rw[av,(List.getElem?_zip_eq_some (z:=(q,n))).mpr ⟨I,r⟩]at e;cases e;rfl
  rw[this];have g:=Gr.new (o:=.tup [A,B]) m v;exact⟨_,g,.tup jb (.cons ((w.mono b).mono g.ff) (.cons ((C.mono b).mono g.ff) .nil))⟩
noncomputable def Uu(d e:Bool)(fa:Pe->M ba):Pe->M ba:=λρ=>(fa ρ).bind λa=>match a with
 |[x,y]=>(seqB d x).bind λb=>(seqB e y).bind λc=>.ok (Dm b c)
 |_=>.bad
def Dq:seqB b x≠.er C n:=by cases x<;>cases b<;>exact λz=>nomatch z
def NM{ta:TA}{fa:Pe->M ba}(v:MA K E ta fa):MI K E (SS K b1 b2 ta) (Uu b1 b2 fa):=λF H σ ρ R s V q=>by
 refine v.run s V q λA z F1 H1 h l d=>?_;split at d
 .rename_i x y;cases l with
  |cons a b=>
   cases b with
   |cons b c=>
    cases c;cases e:seqB b1 x with
    |bad=>rw[e]at d;exact d.elim
    |er C n=>exact absurd e Dq
    |ok ts=>
     rw[e]at d;cases g:seqB b2 y with
     |bad=>simp only[g,M.bind_ok]at d;exact d.elim
     |er C n=>exact absurd g Dq
     |ok us=>simp only[g,M.bind_ok]at d;obtain⟨p,r,rfl,j,o⟩:=Dk a e;obtain⟨m,w,rfl,i,k⟩:=Dk b g;exact⟨p,m,rfl,⟨r,j _ h.fh⟩,⟨w,i _ h.fh⟩,d _ F1 H1 h (TV j o i k)⟩
 .exact d.elim
def MG(K:W.Frag)(g:TG)(m:T->Pe->Option Pe):Prop:=∀F H σ (ρ:Pe) x t ρ' Q,jI F H->σ.length=ρ.length->ph K F σ ρ->mG K F x t->m t ρ=some ρ'->(∀a,a.length=ρ'.length->ph K F a ρ'->Q a H)->g x σ H Q
def Vl(K:W.Frag)(g:Oc)(m:List T->Pe->Option Pe):Prop:=∀F H σ (ρ:Pe) xs ts ρ' Q,jI F H->σ.length=ρ.length->ph K F σ ρ->jr K F xs ts->m ts ρ=some ρ'->(∀a,a.length=ρ'.length->ph K F a ρ'->Q a H)->g xs σ H Q
@[simp] def kK(i:Nat):T->Pe->Option Pe:=λt ρ=>some (ρ.set i (some t))
def ph.set{ρ:Pe}(V:ph K F σ ρ)(d:σ.length=ρ.length)(h:mG K F v x):ph K F (σ.set i (some v)) (ρ.set i (some x)):=λj t e=>by
 have c:j<ρ.length:=by simpa using (aa.mp e).1
 rcases jj e with⟨rfl,q⟩|⟨c,q⟩
 .cases q;exact⟨v,uJ (by rw[d];exact c),h⟩
 .obtain⟨w,a,b⟩:=V j t q;exact⟨w,by rw[aq (λz=>c z.symm)];exact a,b⟩
def Qf:MG K (mx i) (kK i):=λF H σ ρ x t b Q s a V r e k=>by cases e;exact k _ (by simp[a]) (V.set a r)
@[simp] noncomputable def nR:List T->Pe->Option Pe
 |[],ρ=>some ρ
 |_::_,_=>none
@[simp] def jM(m:T->Pe->Option Pe)(n:List T->Pe->Option Pe):List T->Pe->Option Pe
 |[],_=>none
 |t::ts,ρ=>(m t ρ).bind (n ts)
def PQ:Vl K IU nR:=λF H σ ρ g h c Q s d V r e k=>by
 cases r with
 |nil=>cases e;exact⟨rfl,k σ d V⟩
 |cons a b=>cases e
def La(o:MG K g m)(l:Vl K gs n):Vl K (zM g gs) (jM m n):=λF H σ ρ y x d Q s p V r e k=>by
 cases r with
 |nil=>cases e
 |cons a b=>
  rename_i v t j c;have e:(m t ρ).bind (n c)=some d:=e;cases q:m t ρ with
  |none=>rw[q]at e;cases e
  |some ρ1=>rw[q]at e;refine⟨v,j,rfl,o F H σ ρ v t ρ1 _ s p V a q λh i w=>?_⟩;exact l F H h ρ1 j c d Q s i w b e k
@[simp] noncomputable def nO(k:Nat)(m:List T->Pe->Option Pe):T->Pe->Option Pe
 |.tup ts,ρ=>if ts.length=k then m ts ρ else none
 |_,_=>none
def SF(h:Vl K g m):MG K (JJ K k g) (nO k m):=λF H σ ρ x t b Q s i V r e q=>by
 cases r with
 |tup hx rs=>
  rename_i a j c;have e:(if c.length=k then m c ρ else none)=some b:=e;by_cases d:c.length=k
  .rw[aQ d]at e;exact⟨_,_,rfl,pX.of (s _ _ hx),by rw[rs.length];exact d,h F H σ ρ _ _ b Q s i V rs e q⟩
  .rw[aR d]at e;cases e
 |_=>cases e
noncomputable def OZ(K:W.Frag)(g:TG)(m:T->En->Option En):Prop:=∀F0 H0 F H σ ρ x t b Q,Sr K F0 H0 F H σ ρ->mG K F x t->m t ρ=some b->(∀a,Sr K F0 H0 F H a b->Q a H)->g x σ H Q
noncomputable def Lo(K:W.Frag)(g:Oc)(m:List T->En->Option En):Prop:=∀F0 H0 F H σ ρ c d b Q,Sr K F0 H0 F H σ ρ->jr K F c d->m d ρ=some b->(∀a,Sr K F0 H0 F H a b->Q a H)->g c σ H Q
@[simp] noncomputable def lq(i:Nat):T->En->Option En:=λt ρ=>some (ρ.set i (some (.p t)))
def KW:OZ K (mx i) (lq i):=λF0 H0 F H σ ρ x t a Q s r e k=>by cases e;exact k _ (s.setP r)
@[simp] noncomputable def lF:List T->En->Option En
 |[],ρ=>some ρ
 |_::_,_=>none
@[simp] noncomputable def jf(m:T->En->Option En)(n:List T->En->Option En):List T->En->Option En
 |[],_=>none
 |t::ts,ρ=>(m t ρ).bind (n ts)
def L9:Lo K IU lF:=λF0 H0 F H σ ρ d g c Q s r e k=>by
 cases r with
 |nil=>cases e;exact⟨rfl,k σ s⟩
 |cons a b=>cases e
def JG(l:OZ K g m)(j:Lo K gs n):Lo K (zM g gs) (jf m n):=λF0 H0 F H σ ρ w p d Q s r e k=>by
 cases r with
 |nil=>cases e
 |cons a b=>
  rename_i v t i c;have e:(m t ρ).bind (n c)=some d:=e;cases q:m t ρ with
  |none=>rw[q]at e;cases e
  |some ρ1=>rw[q]at e;refine⟨v,i,rfl,l F0 H0 F H σ ρ v t ρ1 _ s a q λh o=>?_⟩;exact j F0 H0 F H h ρ1 i c d Q o b e k
@[simp] noncomputable def lG(k:Nat)(m:List T->En->Option En):T->En->Option En
 |.tup ts,ρ=>if ts.length=k then m ts ρ else none
 |_,_=>none
def PU(h:Lo K g m):OZ K (JJ K k g) (lG k m):=λF0 H0 F H σ ρ x t b Q s r e q=>by
 cases r with
 |tup hx rs=>
  rename_i a i c;have e:(if c.length=k then m c ρ else none)=some b:=e;by_cases d:c.length=k
  .rw[aQ d]at e;exact⟨_,_,rfl,pX.of (s.gr.fh _ _ hx),by rw[rs.length];exact d,h F0 H0 F H σ ρ _ _ b Q s rs e q⟩
  .rw[aR d]at e;cases e
 |_=>cases e
noncomputable def kX(m:T->En->Option En)(g:En->O):List T->En->O
 |[],ρ=>.nx ρ
 |t::ts,ρ=>match m t ρ with
  |none=>.bad
  |some ρ1=>match g ρ1 with
   |.nx ρ2=>kX m g ts ρ2
   |.ct ρ2=>kX m g ts ρ2
   |.bk ρ2=>.nx ρ2
   |o=>o
theorem Gc{tb:TS}{J:It}(hg:OZ K g m)(hb:MS K E tb gb){G:Hp->Hp->Prop}(U:∀i F H,G F H->i<its.length->J.go i H)(S:∀F H,G F H->J.stop its.length H)(Q:∀(i:Nat) t F H x c,G F H->its[i]? = some t->J.yld i H x c->∃d,Gr F H d c/\mG K d x t)
  (R:∀d c b ρ',jI F1 d->Sr K F0 H0 d c b ρ'->G d c) (r:Sr K F0 H0 F H σ ρ) (s1:jI F1 F)
  (q:(kX m gb its ρ).res K E F0 H0 F D):∃W:Nat->Nat->St->Hp->Prop,(∃m,W 0 m σ H)/\∀i m σ H,W i m σ H->
 (J.stop i H/\D.nx σ H)\/(J.go i H/\∃N:St->Hp->Prop,(∀b c,N b c->∃Z,Z<m/\W (i+1) Z b c)/\∀x c,J.yld i H x c->g x σ c λX H2=>tb {D with nx:=N,ct:=N,bk:=D.nx} X H2):=by
 refine⟨λi k b c=>i<=its.length/\k=its.length-i/\∃d ρ',jI F1 d/\Sr K F0 H0 d c b ρ'/\(kX m gb (its.drop i) ρ').res K E F0 H0 d D,⟨_,bN _,rfl,F,ρ,s1,r,by simpa using q⟩,?_⟩
 rintro i k v L ⟨hi,rfl,I,A,w,p,a⟩
 by_cases h:i<its.length
 .right;refine⟨U i I L (R _ _ _ _ w p) h,λb c=>∃d ρ',jI F1 d/\Sr K F0 H0 d c b ρ'/\(kX m gb (its.drop (i+1)) ρ').res K E F0 H0 d D,λb c z=>⟨its.length-(i+1),by omega,h,rfl,z⟩,λx c y=>?_⟩;have et:=ag h;obtain⟨F3,o,rp⟩:=Q i _ I L x c (R _ _ _ _ w p) et y;rw[dO h]at a;unfold kX at a;cases P:m its[i] A with
  |none=>rw[P]at a;exact a.elim
  |some ρ3=>
   rw[P]at a;refine hg F0 H0 F3 c v A x _ ρ3 _ (p.grow o) rp P λb r'=>?_;refine hb F0 H0 F3 c b ρ3 _ r' ?_;dsimp only at a;cases j:gb ρ3 with
   |bad=>rw[j]at a;exact a.elim
   |nx ρ4=>rw[j]at a;exact λd Y B s l=>⟨d,ρ4,(w.trans o.ff).trans s,l,O.res.go a (o.ff.trans s)⟩
   |ct ρ4=>rw[j]at a;exact λd Y B s l=>⟨d,ρ4,(w.trans o.ff).trans s,l,O.res.go a (o.ff.trans s)⟩
   |bk ρ4=>rw[j]at a;exact kN.go a o.ff
   |rt t=>rw[j]at a;exact a
   |rf ts=>rw[j]at a;exact a
   |rn ts us=>rw[j]at a;exact a
   |er C n=>rw[j]at a;exact a
 .left;have e:i=its.length:=by exact dP hi (cC h)
  subst e;refine⟨S I L (R _ _ _ _ w p),?_⟩;rw[List.drop_length]at a;exact a I L v (.refl _) p
def BK{tb:TS}(l:OZ K g m)(j:MS K E tb gb)(a:Bm K J its F1)(r:Sr K F0 H0 F H σ ρ)(n:jI F1 F)
  (q:(kX m gb its ρ).res K E F0 H0 F D):∃W:Nat->Nat->St->Hp->Prop,(∃m,W 0 m σ H)/\∀i m σ H,W i m σ H->
 (J.stop i H/\D.nx σ H)\/(J.go i H/\∃N:St->Hp->Prop,(∀c b,N c b->∃h,h<m/\W (i+1) h c b)/\∀x b,J.yld i H x b->g x σ b λd k=>tb {D with nx:=N,ct:=N,bk:=D.nx} d k):=
 Gc (G:=λF H=>jI F1 F/\jI F H) l j (λi F H q o=>a.go i H (q.1.trans q.2) o) (λF H q=>a.stop H (q.1.trans q.2)) (λi t F H x b q e y=>a.yld i t F H x b q.1 q.2 e y) (λ_ _ _ _ s r=>⟨s,r.gr.fh⟩) r n q
@[simp] noncomputable def nH(b:Pe->M ba)(m:T->En->Option En)(g:En->O):En->O:=λρ=>.of (b (qH ρ)) λa=>kX m g a ρ
def TB{tb:TS}(h:MI K E w fi)(e:OZ K g m)(c:MS K E tb gb):MS K E (Ks w g tb) (nH fi m gb):=λF0 H0 F H σ ρ D r q=>h F H σ (qH ρ) _ r.gr.fh r.vars ((O.res_of q).mono (λd z J i j b a=>BK e c a (r.grow b) (.refl _) (z.go b.ff)) λC n z=>z.go r.gr)
@[simp] noncomputable def yD(b:Pe->M ba)(m:T->En->Option En)(g:En->O):En->O:=λρ=>.of (b (vw ρ)) λa=>kX m g a ρ
def Qd{tb:TS}(p:UR K E w fi)(o:OZ K g m)(d:MS K E tb gb):MS K E (Ks w g tb) (yD fi m gb):=λF0 H0 F H σ ρ D r q=>by obtain⟨s,v,g0,V,a⟩:=r.lend;refine p s H σ (vw ρ) _ g0.fh V ((O.res_of q).mono (λe z J h k j c=>?_) λC n z=>z.go g0);obtain⟨l,b,i,_⟩:=a h k j;exact BK o d (c l) (r.grow b) (.refl _) (z.go i)
noncomputable def pD(c:Pe->M Bool)(g:En->O):Nat->En->O
 |0,_=>.bad
 |n+1,ρ=>.of (c (vw ρ)) λb=>if b then (match g ρ with
   |.nx ρ2=>pD c g n ρ2
   |.ct ρ2=>pD c g n ρ2
   |.bk ρ2=>.nx ρ2
   |o=>o) else .nx ρ
def Kr{tb:TS}(h:En->Nat)(L:MT K E c fc)(I:MS K E tb gb):MS K E (GK c tb) (λρ=>pD fc gb (h ρ) ρ):=λF0 H0 F H σ ρ D r q=>by
 refine⟨λn g o=>∃e d,jI F e/\Sr K F0 H0 e o g d/\(pD fc gb n d).res K E F0 H0 e D,⟨h ρ,F,ρ,.refl _,r,q⟩,?_⟩;rintro n k P ⟨N,l,A,J,p⟩;cases n with
 |zero=>exact p.elim
 |succ n=>
  unfold pD at p;refine L.inS J p λb B y x w a=>?_;cases b with
  |true=>
   rw[aQ rfl]at a ⊢;refine⟨λg o=>∃e d,jI F e/\Sr K F0 H0 e o g d/\(pD fc gb n d).res K E F0 H0 e D,λg o z=>⟨n,bM n,z⟩,?_⟩;refine I F0 H0 B y k l _ w ?_;cases i:gb l with
   |bad=>rw[i]at a;exact a.elim
   |nx ρ4=>rw[i]at a;exact λe v m s j=>⟨e,ρ4,(A.trans x).trans s,j,O.res.go a s⟩
   |ct ρ4=>rw[i]at a;exact λe v m s j=>⟨e,ρ4,(A.trans x).trans s,j,O.res.go a s⟩
   |bk ρ4=>rw[i]at a;exact a
   |rt t=>rw[i]at a;exact a
   |rf ts=>rw[i]at a;exact a
   |rn ts us=>rw[i]at a;exact a
   |er C n=>rw[i]at a;exact a
  |false=>rw[aR aH]at a ⊢;exact a B y k (.refl _) w
@[simp] noncomputable def rD(a:List (Option Nat))(ρ:Pe):Pe:=a.map fun
 |none=>none
 |some j=>(ρ[j]?).getD none
def ph.pull{ρ:Pe}(V:ph K F σ ρ) ix:ph K F (L2.pull ix σ) (rD ix ρ):=λi t e=>by
 unfold rD at e;rw[av]at e;cases q:ix[i]? with
 |none=>rw[q]at e;cases e
 |some w=>
  rw[q]at e;cases w with
  |none=>cases e
  |some j=>
   have c:(ρ[j]?).getD none=some t:=by simpa using e
   cases z:ρ[j]? with
   |none=>rw[z]at c;cases c
   |some y=>rw[z]at c;have:y=some t:=c;rw[this]at z;obtain⟨v,a,b⟩:=V j t z;refine⟨v,?_,b⟩;unfold L2.pull;rw[av,q];simp[a]
@[simp] noncomputable def wc(m:T->Pe->Option Pe)(a:Pe->M Bool)(c:Pe->M T)(ρ:Pe)(t:T):M (Option T):=match m t ρ with
 |none=>.bad
 |some ρ1=>(a ρ1).bind λb=>if b then (c ρ1).bind λx=>.ok (some x) else .ok none
noncomputable def ua(k:T->M (Option T)):List T->M ba
 |[]=>.ok []
 |t::ts=>(k t).bind λo=>(ua k ts).bind λr=>.ok (match o with
  |some x=>x::r
  |none=>r)
def Od:XK:=λ_ _ _=>False
def Sm:MT K E RX (λ_=>.ok true):=λF H σ ρ Q s V q=>q F H (.refl s)
theorem KJ{ρ:Pe}(hg:MG K g m)(ht:MT K Od tt ft)(he:ME K Od te fe)(V:ph K F1 σ ρ)
  (h:Bm K J its F1) (s:jI F1 H1) (hl:its.length<sizeLine) (q:(ua (wc m ft fe (rD ix ρ)) its).res (kF K F1 H1 Q) (λ_ _=>False)):W8 J ix g tt te σ H1 Q:=by
 refine⟨λi k R H=>i<=its.length/\k=its.length-i/\∃X l,Gr F1 H1 X H/\jr K X R l/\l.length<=i/\(ua (wc m ft fe (rD ix ρ)) (its.drop i)).res (λU=>kF K F1 H1 Q (l++U)) (λ_ _=>False),
  ⟨_,bN _,rfl,F1,[],.refl s,.nil,bN _,by simpa using q⟩,?_⟩
 rintro i k R N ⟨hi,rfl,S,l,c,A,tl,p⟩;by_cases a:i<its.length
 .right;refine⟨h.go i N (c.ff.trans c.fh) a,by rw[A.length];lia,λx L y=>?_⟩;have et:=ag a;obtain⟨Z,r,rp⟩:=h.yld i _ S N x L c.ff c.fh et y;rw[dO a]at p;unfold ua at p;have j:=M.res.unb p;unfold wc at j;cases B:m its[i] (rD ix ρ) with
  |none=>rw[B]at j;exact j.elim
  |some ρ3=>
   rw[B]at j;have d:=c.trans r;have V3:=(V.mono d.ff).pull ix;refine hg Z L _ _ x _ ρ3 _ r.fh (by simp[L2.pull,rD]) V3 rp B λo hl' V'=>?_;have q4:=M.res.unb j;refine ht Z L o ρ3 _ r.fh V' (q4.mono (λb z Y H4 n=>?_) λ_ _ z=>z.elim);cases b with
   |true=>rw[aQ rfl]at z ⊢;have q5:=M.res.unb z;refine he Y H4 o ρ3 _ n.fh (V'.mono n.ff) (q5.mono (λx' z' v F5 H5 g5 C=>?_) λ_ _ z=>z.elim);refine⟨its.length-(i+1),by omega,a,rfl,F5,l++[x'],(d.trans n).trans g5,(A.mono (r.ff.trans (n.ff.trans g5.ff))).append (.cons C .nil),by simp;omega,?_⟩;have P:=M.res.unb z';exact P.mono (λU w=>by rw[cq];exact w) λ_ _ w=>w
   |false=>rw[aR aH]at z ⊢;refine⟨its.length-(i+1),by lia,a,rfl,Y,l,d.trans n,A.mono (r.ff.trans n.ff),cK tl,?_⟩;exact M.res.unb z
 .left;have e:i=its.length:=by exact dP hi (cC a)
  subst e;rw[List.drop_length]at p;refine⟨h.stop N (c.ff.trans c.fh),λD I=>?_⟩;have j:kF K F1 H1 Q l:=by simpa[ua,M.res] using p
  exact j D R S _ (c.trans (.new' c.fh I)) (jF c.hh I) (jF c.fh I) jb A
def Rc(i:MI K E w fi)(h:MG K g m)(c:MT K Od tt ft)(e:ME K Od te fe) :
  MF K E (Lf ix w g tt te) (λρ=>(fi ρ).bind λits=>(if its.length<sizeLine then ua (wc m ft fe (rD ix ρ)) its else .bad).noEr):=λF H σ ρ Q s V q=>by
 refine i F H σ ρ _ s V ((M.res.unb q).mono (λits z J j k b a=>?_) λ_ _ z=>z);split at z
 .rename_i d;exact KJ h c e (V.mono b.ff) a b.fh d (z.noEr.mono (λ_ w=>w.go b) λ_ _ w=>w)
 .exact z.elim
end
end L3
namespace L3
open PySem L2
section
variable {K:W.Frag}{E:XK}{t u ta tb:TE}{f fa fb:Pe->M T}{F0:Fz}{H0 F H F1 H1:Hp}{σ:St}{ρ:En}{D:xN}
noncomputable def A0(K:W.Frag)(F:List T->M T):Sp:=λb H Q E=>∃a F0,jI F0 H/\jr K F0 b a/\(F a).res (kV K F0 H Q) (kE E F0 H)
noncomputable def Fi(K:W.Frag)(F:List T->M ba):Sp:=λb H Q E=>∃a F0,jI F0 H/\jr K F0 b a/\(F a).res (kF K F0 H Q) (kE E F0 H)
@[simp] noncomputable def iV(fa:Pe->M ba)(F:List T->M T):Pe->M T:=λρ=>(fa ρ).bind λa=>(F a).noEr
@[simp] noncomputable def ke(fa:Pe->M ba)(F:List T->M ba):Pe->M ba:=λρ=>(fa ρ).bind λa=>(F a).noEr
section
variable {tr:TA}{fr:Pe->M ba}{Fn:List T->M T}{Ff:List T->M ba}{E':XK}
def NB(d:MA K E tr fr):ME K E (B5 (A0 K Fn) [] E' tr) (iV fr Fn):=λF H σ ρ Q s V q=>by refine d.run s V q λb g F1 H1 a c e=>?_;exact⟨b,F1,a.fh,by rw[bO];exact c,(e.mono (λ_ z=>kV.go z a) λ_ _ z=>z).noEr⟩
def M8(d:MA K E tr fr):MF K E (B5 (Fi K Ff) [] E' tr) (ke fr Ff):=λF H σ ρ Q s V q=>by refine d.run s V q λb g F1 H1 a c e=>?_;exact⟨b,F1,a.fh,by rw[bO];exact c,(e.mono (λ_ z=>kF.go z a) λ_ _ z=>z).noEr⟩
@[simp] noncomputable def AE(C:Addr)(m:Str)(x:T):M Unit:=match x with
 |.obj C' fs=>if C'=C/\fs.lookup m=none then .ok () else .bad
 |_=>.bad
@[simp] noncomputable def BN(C:Addr)(m:Str)(a:Pe->M T)(fr:Pe->M ba)(F:List T->M T):Pe->M T:=λρ=>(a ρ).bind λx=>(AE C m x).bind λ_=>(fr ρ).bind λb=>(F (x::b)).noEr
@[simp] noncomputable def yd(C:Addr)(m:Str)(a:Pe->M T)(fr:Pe->M ba)(F:List T->M ba):Pe->M ba:=λρ=>(a ρ).bind λx=>(AE C m x).bind λ_=>(fr ρ).bind λb=>(F (x::b)).noEr
def Hm(r:mG K F v x)(e:AE C m x=.ok ()):∃a b fs,v=.ref a/\F a=some (.ins C b fs)/\fs.lookup m=none:=by
 cases r with
 |obj h rs=>
  rename_i a d b fs c;have e:(if d=C/\List.lookup m c=none then M.ok () else M.bad)=.ok ():=e;by_cases g:d=C/\List.lookup m c=none
  .obtain⟨rfl,i⟩:=g;exact⟨a,b,fs,rfl,h,rs.none_ i⟩
  .rw[aR g]at e;cases e
 |_=>cases e
def H9:AE C m x≠.er C' n:=by
 unfold AE;split
 .split<;>exact λz=>nomatch z
 .exact λz=>nomatch z
def Mn(r:ME K E ta fa)(hr:MA K E tr fr):ME K E (By C m (A0 K Fn) [] E' ta tr) (BN C m fa fr Fn):=λF H σ ρ Q s V q=>by
 refine r.run s V q λx v F1 H1 b g c=>?_;cases e:AE C m x with
 |bad=>rw[e]at c;exact c.elim
 |er C n=>exact absurd e H9
 |ok u=>rw[e]at c;obtain⟨a,p,fs,rfl,h,l⟩:=Hm g e;refine⟨a,p,fs,rfl,b.fh _ _ h,l,?_⟩;refine hr.run b.fh (V.mono b.ff) c λk y i w d j o=>?_;exact⟨x::k,i,d.fh,by rw[bO];exact .cons (g.mono d.ff) j,(o.mono (λ_ z=>kV.go z (b.trans d)) λ_ _ z=>z).noEr⟩
def K9(r:ME K E ta fa)(hr:MA K E tr fr):MF K E (By C m (Fi K Ff) [] E' ta tr) (yd C m fa fr Ff):=λF H σ ρ Q s V q=>by
 refine r.run s V q λx v F1 H1 b g c=>?_;cases e:AE C m x with
 |bad=>rw[e]at c;exact c.elim
 |er C n=>exact absurd e H9
 |ok u=>rw[e]at c;obtain⟨a,p,fs,rfl,h,l⟩:=Hm g e;refine⟨a,p,fs,rfl,b.fh _ _ h,l,?_⟩;refine hr.run b.fh (V.mono b.ff) c λk y i w d j o=>?_;exact⟨x::k,i,d.fh,by rw[bO];exact .cons (g.mono d.ff) j,(o.mono (λ_ z=>kF.go z (b.trans d)) λ_ _ z=>z).noEr⟩
end
@[simp] noncomputable def Wu:O->M T
 |.nx _=>.ok .non
 |.rt t=>.ok t
 |.rf ts=>.ok (.lst ts)
 |.rn ts us=>.ok (.tup (ts++[.lst us]))
 |.er C n=>.er C n
 |_=>.bad
@[simp] noncomputable def WL:O->M ba
 |.rf ts=>.ok ts
 |.er C n=>.er C n
 |_=>.bad
@[simp] noncomputable def jG(n:Nat)(ts:List T):En:=ts.map (λt=>some (W.p t))++List.replicate (n-ts.length) none
@[simp] noncomputable def mF(k n:Nat)(g:En->O):List T->M T:=λa=>if a.length=k then Wu (g (jG n a)) else .bad
@[simp] noncomputable def zw(k n:Nat)(g:En->O):List T->M ba:=λa=>if a.length=k then WL (g (jG n a)) else .bad
def BW{n i:Nat}(e:(jG n ts)[i]? = some (some (.d kvs))):False:=by
 unfold jG at e;rw[List.getElem?_append]at e;split at e
 .rw[av]at e;cases q:ts[i]? with
  |none=>rw[q]at e;cases e
  |some x=>rw[q]at e;cases e
 .rw[List.getElem?_replicate]at e;split at e<;>cases e
def Ek(s:jI F H)(r:jr K F vs ts):Sr K ⟨F,[]⟩ H F H (pP N vs) (jG N.length ts):=by
 refine⟨.refl s,?_,λi t e=>?_,⟨λ_=>0,λi k e=>?_,λi j k m e=>?_⟩,λ_ l=>(nomatch l),λ_ _ _ h=>(by cases h),⟨λi c e=>(BW e).elim,λi j c d e=>(BW e).elim⟩⟩
 .simp[L2.pP,jG,r.length]
 .unfold jG at e;rw[List.getElem?_append]at e;split at e
  .rename_i g;rw[av]at e;cases q:ts[i]? with
   |none=>rw[q]at e;cases e
   |some x=>rw[q]at e;cases e;obtain⟨v,a,b⟩:=r.get q;refine⟨v,?_,b⟩;unfold L2.pP;rw[List.getElem?_append_left (by simpa[r.length] using g),av,a];rfl
  .rw[List.getElem?_replicate]at e;split at e<;>cases e
 .exfalso;unfold jG at e;rw[List.getElem?_append]at e;split at e
  .rw[av]at e;cases q:ts[i]? with
   |none=>rw[q]at e;cases e
   |some x=>rw[q]at e;cases e
  .rw[List.getElem?_replicate]at e;split at e<;>cases e
 .exfalso;unfold jG at e;rw[List.getElem?_append]at e;split at e
  .rw[av]at e;cases q:ts[i]? with
   |none=>rw[q]at e;cases e
   |some x=>rw[q]at e;cases e
  .rw[List.getElem?_replicate]at e;split at e<;>cases e
def FJ(h:A0 K (mF k n g) vs H Q E):vs.length=k:=by
 obtain⟨b,F0,s,r,q⟩:=h;unfold mF at q;by_cases a:b.length=k
 .rw[r.length];exact a
 .rw[aR a]at q;exact q.elim
def C2{t:TS}(d:MS K E t g)(h:A0 K (mF k N.length g) vs H Q E):t {nx:=λ_ b=>Q .non b,rt:=Q} (pP N vs) H:=by
 obtain⟨a,F0,s,r,q⟩:=h;unfold mF at q;by_cases c:a.length=k
 .rw[aQ c]at q;refine d ⟨F0,[]⟩ H F0 H _ _ _ (Ek s r) ?_;cases e:g (jG N.length a) with
  |bad=>rw[e]at q;exact q
  |nx ρ=>rw[e]at q;exact λl b j _ i=>q .non l b i.gr .non
  |rt t=>rw[e]at q;exact q
  |rf a=>rw[e]at q;exact kF.of q
  |rn a us=>rw[e]at q;exact kT.of q
  |bk ρ=>rw[e]at q;exact q.elim
  |ct ρ=>rw[e]at q;exact q.elim
  |er C n=>rw[e]at q;exact q
 .rw[aR c]at q;exact q.elim
def HS(h:Fi K (zw k n g) vs H Q E):vs.length=k:=by
 obtain⟨b,F0,s,r,q⟩:=h;unfold zw at q;by_cases a:b.length=k
 .rw[r.length];exact a
 .rw[aR a]at q;exact q.elim
def E3{t:TS}(c:MS K E t g)(h:Fi K (zw k N.length g) vs H Q E):t {nx:=λ_ d=>Q .non d,rt:=Q} (pP N vs) H:=by
 obtain⟨a,F0,s,r,q⟩:=h;unfold zw at q;by_cases b:a.length=k
 .rw[aQ b]at q;refine c ⟨F0,[]⟩ H F0 H _ _ _ (Ek s r) ?_;cases e:g (jG N.length a) with
  |bad=>rw[e]at q;exact q
  |nx ρ=>rw[e]at q;exact q.elim
  |rt t=>rw[e]at q;exact q.elim
  |rf a=>rw[e]at q;exact q
  |rn a us=>rw[e]at q;exact q.elim
  |bk ρ=>rw[e]at q;exact q.elim
  |ct ρ=>rw[e]at q;exact q.elim
  |er C n=>rw[e]at q;exact q
 .rw[aR b]at q;exact q.elim
@[simp] noncomputable def Gq(C:Addr)(x:Str)(fa:Pe->M T):Pe->M T:=λρ=>(fa ρ).bind λo=>match o with
 |.obj C' fs=>if C'=C then (match fs.lookup x with
  |some t=>.ok t
  |none=>.bad) else .bad
 |_=>.bad
def Te(l:BQ K C)(m:oB K C x)(n:ME K E ta fa):ME K E (S0 K ta x) (Gq C x fa):=λF H σ ρ Q s V q=>by
 refine n.run s V q λo v F1 H1 c i b=>?_;cases i with
 |obj h rs=>
  rename_i a d p fs k;dsimp only at b;by_cases g:d=C
  .subst g;rw[aQ rfl]at b;cases e:List.lookup x k with
   |none=>rw[e]at b;exact b.elim
   |some y=>rw[e]at b;obtain⟨w,r,j⟩:=rs.look e;exact⟨a,d,p,fs,w,rfl,c.fh _ _ h,l,m,r,b w F1 H1 c j⟩
  .rw[aR g]at b;exact b.elim
 |_=>exact b.elim
end
end L3
namespace L3
open PySem L2 PySem.Spec PyProof.Rows
structure Pm(K:W.Frag)(E:XK)(X:Cx)(e:Expr)(t:TE)(f:Pe->M T):Prop where
 pe:PE X e t
 me:ME K E t f
structure Hs(K:W.Frag)(E:XK)(X:Cx)(e:Expr)(t:TE)(f:Pe->M ba):Prop where
 pe:PE X e t
 mf:MF K E t f
structure EI(K:W.Frag)(E:XK)(X:Cx)(e:Expr)(t:TT)(f:Pe->M Bool):Prop where
 pt:PT X e t
 mt:MT K E t f
structure RO(K:W.Frag)(E:XK)(X:Cx)(e:Expr)(t:TT)(f:Pe->M Bool):Prop where
 pw:PW X e t
 mt:MT K E t f
structure Et(K:W.Frag)(E:XK)(X:Cx)(es:List Expr)(t:TA)(f:Pe->M ba):Prop where
 pa:PA X es t
 ma:MA K E t f
structure Og(K:W.Frag)(E:XK)(X:Cx)(tg it:Expr)(w:TI)(f:Pe->M ba):Prop where
 pi:PI X tg it w
 mi:MI K E w f
structure Cy(K:W.Frag)(E:XK)(X:Cx)(tg it:Expr)(w:TI)(f:Pe->M ba):Prop where
 pi:PI X tg it w
 mi:UR K E w f
structure UG(K:W.Frag)(X:Cx)(tg:Expr)(g:TG)(m:T->Pe->Option Pe):Prop where
 pg:PG X tg g
 mg:MG K g m
structure OS(K:W.Frag)(X:Cx)(tg:List Expr)(g:Oc)(m:List T->Pe->Option Pe):Prop where
 pg:UB X tg g
 mg:Vl K g m
structure Uy(K:W.Frag)(X:Cx)(tg:Expr)(g:TG)(m:T->En->Option En):Prop where
 pg:PG X tg g
 mg:OZ K g m
structure Q0(K:W.Frag)(X:Cx)(tg:List Expr)(g:Oc)(m:List T->En->Option En):Prop where
 pg:UB X tg g
 mg:Lo K g m
structure xt(K:W.Frag)(E:XK)(X:Cx)(st:Stmt)(t:TS)(g:En->O):Prop where
 ps:PS X st t
 ms:MS K E t g
structure vL(K:W.Frag)(E:XK)(X:Cx)(sts:List Stmt)(t:TS)(g:En->O):Prop where
 ps:EO X sts t
 ms:MS K E t g
noncomputable def MO(K:W.Frag)(E:XK)(t:TO)(f:Pe->M (Option Int)):Prop:=∀F H a c Q,jI F H->ph K F a c->(f c).res (λo=>∀d b,Gr F H d b->Q o b) (kE E F H)->t a H Q
structure Ws(K:W.Frag)(E:XK)(X:Cx)(e:Option Expr)(t:TO)(f:Pe->M (Option Int)):Prop where
 po:PO X e t
 mo:MO K E t f
structure Lp(K:W.Frag)(E:XK)(X:Cx)(es:List Expr)(t:TT)(f:Pe->M Bool):Prop where
 pf:Jr X es t
 mt:MT K E t f
section
variable {K:W.Frag}{E:XK}{X:Cx}{a b c e o:Expr}{es:List Expr}{ta tb tc te to:TE}{fa fb fc fe fo:Pe->M T}{tr:TA}{fr:Pe->M ba}{pos p p2 apos:Pos}
def iS i (g:X.N[i]? = some x:=by rfl) (hv:VS X.env.scope x:=by first|exact Or.inl rfl|exact Or.inr (Or.inl rfl)|exact Or.inr (Or.inr rfl)) (f:(x==("__debug__" : Str))=false:=by decide)
  (d:(x==("__classdict__" : Str))=false:=by decide):Pm K E X (.Name x pos) (qD i) (iM i):=⟨pv i g hv f d,SQ⟩
def jz{j pos}:Pm K E X (.Constant (.int i) j pos) (tC (.int i)) (cM (.int i)):=⟨Tp,NO λ_=>.int i⟩
def M4{b:Bool}{j pos}:Pm K E X (.Constant (.bool b) j pos) (tC (.bl b)) (cM (.bl b)):=⟨UJ,NO λ_=>.bl b⟩
noncomputable abbrev b4:=cM .non
def oF{j pos}:Pm K E X (.Constant .none j pos) (tC .non) b4:=⟨SU,NO λ_=>.non⟩
def Kw{j pos}:Pm K E X (.Constant (.str x) j pos) (tC (.str x)) (cM (.str x)):=⟨T9,NO λ_=>.str x⟩
def wK i (d:∃t,X.mg x=some (.int i t)) (g:Gl X x:=by rfl) (f:(x==("__debug__" : Str))=false:=by decide):Pm K E X (.Name x pos) (tC (.int i)) (cM (.int i)):=let ⟨t,h⟩:=d;⟨PB g h ⟨t,rfl⟩ f,NO λ_=>.int i⟩
def kf(h:Hs K E X e te f):Pm K E X e te (λρ=>(f ρ).bind λts=>.ok (.lst ts)):=⟨h.pe,h.mf.me⟩
def zR(g:sD X (binaryOp op) r)(hr:MR K r m)(f:Pm K E X a ta fa)(d:Pm K E X b tb fb):Pm K E X (.BinOp a op b pos) (Ac r ta tb) (iU m fa fb):=⟨KH g f.pe d.pe,HJ hr f.me d.me⟩
def NI(K:W.Frag):R2:=λx y H Q=>(Gg λi j=>.int (i+j)) x y H Q\/(∃i j,x=.str i/\y=.str j/\i.length+j.length<=sizeLine/\Q (.str (i++j)) H)\/Sg x y H Q\/
 ∃a b d f,x=.ref a/\y=.ref b/\H a=some (.tup d)/\H b=some (.tup f)/\d.length+f.length<=sizeLine/\(d=[]->Q (.ref b) H)/\(d≠[]->f=[]->Q (.ref a) H)/\(d≠[]->f≠[]->∀p,H p=none->Q (.ref p) (kU H p (.tup (d++f))))
def QU(S:X.K=K:=by rfl):sD X (binaryOp .Add) (NI K):=by
 subst S;intro g s i H x y v u Q I f d h;rcases h with h|h|h|h
 .exact TC g s i H x y v u Q I f d h
 .exact Fm g s i H x y v u Q I f d h
 .exact Kj g s i H x y v u Q I f d h
 .obtain⟨a,b,z,ys,rfl,rfl,w,n,hz,D,q2,P⟩:=h;by_cases j:z=[]
  .subst j;cases f;cases d;obtain⟨B,A,N,_⟩:=I.tuple (pX.of w);obtain⟨q,r2,p2,_⟩:=I.tuple (pX.of n);cases A;obtain⟨⟨c1,R,e1,s1⟩,m,Y,n1,l⟩:=id N;obtain⟨⟨c2,Z,e2,J⟩,r,L,U,k⟩:=id p2;subst Y l L k;exact concat_meets ⟨_,m,rfl⟩ ⟨_,r,rfl⟩ noFill_tuple_add seq_tuple_add PySem.F.slot_tuple_add PySem.F.entry_tuple_add (PySem.F.args_tuple_add_2 _ _) (tuple_addW0 a b _ _ n1 U R Z s1 J (by simp)) ⟨m,r,⟨.ref b,H,I,rfl,D rfl⟩⟩
  .exact QF g s i H _ _ v u Q I f d ⟨a,b,z,ys,rfl,rfl,pX.of w,pX.of n,j,hz,λe=>q2 j e,λe p C=>P j e p C⟩
noncomputable def jU:T->T->M T
 |.int i,.int j=>.ok (.int (i+j))
 |.str i,.str j=>if i.length+j.length<=sizeLine then .ok (.str (i++j)) else .bad
 |.lst a,.lst b=>if a.length+b.length<=sizeLine then .ok (.lst (a++b)) else .bad
 |.tup a,.tup b=>if a.length+b.length<=sizeLine then .ok (.tup (a++b)) else .bad
 |_,_=>.bad
def QI x y:M.NoE (jU x y):=λC n=>by unfold jU;split<;>first|(intro z;cases z;done)|(split<;>intro z<;>cases z)
def QE:MR K (NI K) jU:=⟨QI,λF H v w x y Q s n rb q=>by
 cases n with
 |int i=>
  cases rb with
  |int j=>exact .inl ⟨i,j,rfl,rfl,kV.now q s (.int _)⟩
  |_=>exact q.elim
 |str i=>
  cases rb with
  |str j=>
   have d:(if i.length+j.length<=sizeLine then M.ok (T.str (i++j)) else M.bad).res (kV K F H Q) (λ_ _=>False):=q;by_cases h:i.length+j.length<=sizeLine
   .rw[aQ h]at d;exact .inr (.inl ⟨i,j,rfl,rfl,h,kV.now d s (.str _)⟩)
   .rw[aR h]at d;exact d.elim
  |_=>exact q.elim
 |lst h1 r1=>
  cases rb with
  |lst h2 r2=>
   rename_i a l g b m f;have d:(if g.length+f.length<=sizeLine then M.ok (T.lst (g++f)) else M.bad).res (kV K F H Q) (λ_ _=>False):=q;by_cases h:g.length+f.length<=sizeLine
   .rw[aQ h]at d;refine .inr (.inr (.inl ⟨a,b,l,m,rfl,rfl,s _ _ h1,s _ _ h2,by rw[r1.length,r2.length];exact h,λp k=>?_⟩));exact d (.ref p) _ _ (.new s k) (.lst jb ((r1.append r2).mono (Gr.new s k).ff))
   .rw[aR h]at d;exact d.elim
  |_=>exact q.elim
 |tup h1 r1=>
  cases rb with
  |tup h2 r2=>
   rename_i a l g b m f;have d:(if g.length+f.length<=sizeLine then M.ok (T.tup (g++f)) else M.bad).res (kV K F H Q) (λ_ _=>False):=q;by_cases h:g.length+f.length<=sizeLine
   .rw[aQ h]at d;refine .inr (.inr (.inr ⟨a,b,l,m,rfl,rfl,s _ _ h1,s _ _ h2,by rw[r1.length,r2.length];exact h,λe=>?_,λ_ e=>?_,λ_ _ p k=>?_⟩))
    .subst e;cases r1;exact kV.now d s (.tup h2 r2)
    .subst e;cases r2;exact kV.now d s (.tup h1 (by rw[bO];exact r1))
    .exact d (.ref p) _ _ (.new s k) (.tup jb ((r1.append r2).mono (Gr.new s k).ff))
   .rw[aR h]at d;exact d.elim
  |_=>exact q.elim
 |_=>exact q.elim⟩
def rF(g:Pm K E X a ta fa)(d:Pm K E X b tb fb)(f:X.K=K:=by rfl):Pm K E X (.BinOp a .Add b pos) (Ac (NI K) ta tb) (iU jU fa fb):=zR (QU f) QE g d
@[simp] noncomputable def zA(fa fb:Pe->M T):Pe->M ba:=λd=>(fa d).bind λx=>(fb d).bind λy=>match x,y with
 |.lst a,.lst b=>if a.length+b.length<=sizeLine then .ok (a++b) else .bad
 |_,_=>.bad
def Gz(u:Pm K E X a ta fa)(n:Pm K E X b tb fb):Hs K E X (.BinOp a .Add b pos) (Ac Sg ta tb) (zA fa fb):=by
 refine⟨KH Kj u.pe n.pe,λF H L J Q s V q=>?_⟩;refine u.me.run s V q λx v N P i z C=>?_;refine n.me.run i.fh (V.mono i.ff) C λy w r B d A m=>?_;cases z with
 |lst h1 t1=>
  cases A with
  |lst h2 t2=>
   rename_i a D l b I j;have g:(if l.length+j.length<=sizeLine then M.ok (l++j) else M.bad).res (kF K F H Q) (kE E r B):=m;by_cases h:l.length+j.length<=sizeLine
   .rw[aQ h]at g;refine⟨a,b,D,I,rfl,rfl,d.fh _ _ (d.ff _ _ h1),d.fh _ _ h2,by rw[t1.length,t2.length];exact h,λp k=>?_⟩;have f:=i.trans d;exact g p _ r _ (f.trans (.new' d.fh k)) (jF f.hh k) (jF d.fh k) jb ((t1.mono d.ff).append t2)
   .rw[aR h]at g;exact g.elim
  |_=>exact m.elim
 |_=>exact m.elim
noncomputable def tO:T->T->M T:=oZ (λ_ _=>true) λi j=>.int (i-j)
def zx(f:Pm K E X a ta fa)(d:Pm K E X b tb fb):Pm K E X (.BinOp a .Sub b pos) (Ac (Gg λi j=>.int (i-j)) ta tb) (iU tO fa fb):=zR SN (v5 λ_ _ _=>.int _) f d
instance {i j:Int}:Decidable (PySem.IntMulOk i j):=inferInstanceAs (Decidable (¬_))
noncomputable def kP:T->T->M T:=oZ (λi j=>decide (PySem.IntMulOk i j)) λi j=>.int (i*j)
def SR(f:Pm K E X a ta fa)(d:Pm K E X b tb fb):Pm K E X (.BinOp a .Mult b pos) (Ac (rI (λi j=>PySem.IntMulOk i j) λi j=>.int (i*j)) ta tb) (iU kP fa fb):=zR PR (Dx (λi j h=>of_decide_eq_true h) λ_ _ _=>.int _) f d
noncomputable def qj:T->T->M T:=oZ (λ_ j=>decide (j≠0)) λi j=>.int (i.fdiv j)
def Ha(f:Pm K E X a ta fa)(d:Pm K E X b tb fb):Pm K E X (.BinOp a .FloorDiv b pos) (Ac (rI (λ_ j=>j≠0) λi j=>.int (i.fdiv j)) ta tb) (iU qj fa fb):=zR Mv (Dx (λi j h=>by simpa using h) λ_ _ _=>.int _) f d
noncomputable def zQ:T->T->M T:=oZ (λ_ j=>decide (j≠0)) λi j=>.int (i.fmod j)
def Sz(f:Pm K E X a ta fa)(d:Pm K E X b tb fb):Pm K E X (.BinOp a .Mod b pos) (Ac (rI (λ_ j=>j≠0) λi j=>.int (i.fmod j)) ta tb) (iU zQ fa fb):=zR PP (Dx (λi j h=>by simpa using h) λ_ _ _=>.int _) f d
noncomputable def OU:T->T->M T:=oZ (λi j=>decide (0<=j)&&decide (j<=1000000)&&decide (i.natAbs<18446744073709551616)) λi j=>.int (i ^ j.toNat)
def TM(f:Pm K E X a ta fa)(d:Pm K E X b tb fb):Pm K E X (.BinOp a .Pow b pos) (Ac (rI U0 λi j=>.int (i ^ j.toNat)) ta tb) (iU OU fa fb):=zR Uj (Dx (λi j h=>by simp only[bZ,decide_eq_true_eq]at h;exact⟨h.1.1,h.1.2,h.2⟩) λ_ _ _=>.int _) f d
def GR(d:Pm K E X a ta fa):Pm K E X (.UnaryOp .USub a pos) (WK (rU λi=>.int (-i)) ta) (pW (λi=>.int (-i)) fa):=⟨UX TZ d.pe,Vo (λ_ _=>.int _) d.me⟩
@[simp] noncomputable def Dp(fa fb:Pe->M T):Pe->M ba:=λd=>(fa d).bind λx=>(fb d).bind λy=>match x,y with
 |.lst a,.int k=>if DH k=true/\a.length*k.toNat<=sizeLine then .ok (List.replicate k.toNat a).flatten else .bad
 |_,_=>.bad
def KC(u:Pm K E X a ta fa)(n:Pm K E X b tb fb):Hs K E X (.BinOp a .Mult b pos) (Ac Vs ta tb) (Dp fa fb):=by
 refine⟨KH RI u.pe n.pe,λF H J I Q s V q=>?_⟩;refine u.me.run s V q λx v L N i z C=>?_;refine n.me.run i.fh (V.mono i.ff) C λy w r B d A m=>?_;cases z with
 |lst h1 t1=>
  cases A with
  |int k=>
   rename_i a D l;have g:(if DH k=true/\l.length*k.toNat<=sizeLine then M.ok (List.replicate k.toNat l).flatten else M.bad).res (kF K F H Q) (kE E r B):=m;by_cases h:DH k=true/\l.length*k.toNat<=sizeLine
   .rw[aQ h]at g;refine⟨a,k,D,rfl,rfl,d.fh _ _ (d.ff _ _ h1),by have:=uG h.1;rw[U2]at this;rw[Wp];exact dQ (by decide) this.1,by have:=uG h.1;rw[U2]at this;rw[Wp];exact dR this.2 (by decide),by rw[t1.length];exact h.2,λp j=>?_⟩;have f:=i.trans d;exact g p _ r _ (f.trans (.new' d.fh j)) (jF f.hh j) (jF d.fh j) jb ((t1.mono d.ff).rep k.toNat)
   .rw[aR h]at g;exact g.elim
  |_=>exact m.elim
 |_=>exact m.elim
def qd(h:Pm K E X e te fe)(f:∀d,isTrue e X.env d=(do let v <-d;standAt e.pos;holding [v] (truthy v)):=by intro _;rfl):EI K E X e (tB te) (jE fe):=⟨RM h.pe f,KI h.me⟩
section
variable {tA tD:TT}{fA fD:Pe->M Bool}{p9:List Expr}
def lS(h:EI K E X a tA fA):EI K E X (.UnaryOp .Not a pos) (Sf tA) (lY fA):=⟨Tc h.pt,Ub h.mt⟩
def rL(h:RO K E X a tA fA):EI K E X a tA fA:=⟨PW.pt h.pw,h.mt⟩
def oY(h:EI K E X a tA fA):RO K E X (.BoolOp .And [a] pos) tA fA:=⟨OH h.pt,h.mt⟩
def nq(h:EI K E X a tA fA):RO K E X (.BoolOp .Or [a] pos) tA fA:=⟨Tj h.pt,h.mt⟩
def qu(h:EI K E X a tA fA)(d:RO K E X (.BoolOp .And (b::p9) pos) tD fD):RO K E X (.BoolOp .And (a::b::p9) pos) (TU tA tD) (nP fA fD):=⟨Tv h.pt d.pw,SH h.mt d.mt⟩
def oI(h:EI K E X a tA fA)(d:RO K E X (.BoolOp .Or (b::p9) pos) tD fD):RO K E X (.BoolOp .Or (a::b::p9) pos) (WA tA tD) (vV fA fD):=⟨VT h.pt d.pw,UK h.mt d.mt⟩
def t6{op}(h:Pm K E X a ta fa):Pm K E X (.BoolOp op [a] pos) ta fa:=⟨S8 h.pe,h.me⟩
def vH(h:Pm K E X a ta fa)(d:Pm K E X (.BoolOp .And (b::p9) pos) tb fb):Pm K E X (.BoolOp .And (a::b::p9) pos) (Lb ta tb) (Be fa fb):=⟨R5 h.pe d.pe,Qp h.me d.me⟩
def Rk(h:Pm K E X a ta fa)(d:Pm K E X (.BoolOp .Or (b::p9) pos) tb fb):Pm K E X (.BoolOp .Or (a::b::p9) pos) (Ui ta tb) (Vp fa fb):=⟨UM h.pe d.pe,Tq h.me d.me⟩
def zZ(h:Pm K E X a ta fa):Pm K E X (.UnaryOp .Not a pos) (MQ ta) (Du fa):=⟨SX h.pe,Qu h.me⟩
def Rn(h:EI K E X c tA fA)(f:Pm K E X a ta fa)(d:Pm K E X b tb fb):Pm K E X (.IfExp c a b pos) (Wy tA ta tb) (UZ fA fa fb):=⟨KB h.pt f.pe d.pe,UW h.mt f.me d.me⟩
end
def xH(h:sD X (compareOp op) r)(hr:MR K r m)(f:Pm K E X a ta fa)(d:Pm K E X b tb fb)(g:behindInMarks op b=false:=by exact xP _):Pm K E X (.Compare a [op] [b] pos) (Ac r ta tb) (iU m fa fb):=⟨OC h f.pe d.pe g,HJ hr f.me d.me⟩
def jN(h:sD X (compareOp op) r)(hr:MR K r m)(f:Pm K E X a ta fa)(d:Pm K E X b tb fb)(g:behindInMarks op b=false:=by exact xP _):EI K E X (.Compare a [op] [b] pos) (yn (Ac r ta tb)) (jE (iU m fa fb)):=⟨QM h f.pe d.pe g,Iv (HJ hr f.me d.me)⟩
noncomputable def GY:T->T->M T:=oZ (λ_ _=>true) λi j=>.bl (decide (i<j))
noncomputable def Fv:T->T->M T:=oZ (λ_ _=>true) λi j=>.bl (decide (i<=j))
noncomputable def Iy:T->T->M T:=oZ (λ_ _=>true) λi j=>.bl (decide (j<i))
noncomputable def QX:T->T->M T:=oZ (λ_ _=>true) λi j=>.bl (decide (j<=i))
def vZ:MR K (Gg λi j=>.bl (decide (i<j))) GY:=v5 λ_ _ _=>.bl _
def uf:MR K (Gg λi j=>.bl (decide (i<=j))) Fv:=v5 λ_ _ _=>.bl _
def Ci:MR K (Gg λi j=>.bl (decide (j<i))) Iy:=v5 λ_ _ _=>.bl _
def Bv:MR K (Gg λi j=>.bl (decide (j<=i))) QX:=v5 λ_ _ _=>.bl _
@[simp] noncomputable def Tu(m f:T->T->M T)(fa fb fc:Pe->M T):Pe->M T:=λd=>(fa d).bind λx=>(fb d).bind λy=>(m x y).bind λz=>match z with
 |.bl true=>(fc d).bind λw=>f y w
 |.bl false=>.ok (.bl false)
 |_=>.bad
def Ex(hr:MR K r m)(f:MR K r' m')(ha:ME K E ta fa)(I:ME K E tb fb)(Y:ME K E tc fc):ME K E (zp r r' ta tb tc) (Tu m m' fa fb fc):=λF H σ ρ Q s V q=>by
 refine ha.run s V q λx v F1 H1 h J S=>?_;refine I.run h.fh (V.mono h.ff) S λy w L P n u q2=>?_;refine hr.ok L P v w x y _ n.fh (J.mono n.ff) u (((M.res.unb q2).ne (hr.ne x y)).mono (λz j v3 U N g B=>?_) λ_ _ z=>z);have d:=(h.trans n).trans g;cases B with
 |bl k=>
  refine⟨k,rfl,?_⟩;cases k with
  |true=>rw[aQ rfl];have i:=j.mono (λ_ z=>z) λ_ _ z=>z.go g;refine Y.run g.fh (V.mono d.ff) i λA w4 R D l Z C=>?_;exact f.ok R D w w4 y A Q l.fh (u.mono (g.ff.trans l.ff)) Z ((C.ne (f.ne y A)).mono (λ_ z=>z.go (d.trans l)) λ_ _ z=>z)
  |false=>rw[aR aH];exact j _ U N d (.bl _)
 |_=>exact j.elim
def DL(k:sD X (compareOp op) r)(hr:MR K r m)(f:sD X (compareOp op') r')(d:MR K r' m')(i:Pm K E X a ta fa)(g:Pm K E X b tb fb)(h:Pm K E X c tc fc)
  (j:lastMarks [op,op'] [b,c]=false:=by with_unfolding_all rfl):Pm K E X (.Compare a [op,op'] [b,c] pos) (zp r r' ta tb tc) (Tu m m' fa fb fc):=⟨MK k f i.pe g.pe h.pe j,Ex hr d i.me g.me h.me⟩
def Cc(k:sD X (compareOp op) r)(hr:MR K r m)(f:sD X (compareOp op') r')(d:MR K r' m')(i:Pm K E X a ta fa)(g:Pm K E X b tb fb)(h:Pm K E X c tc fc)
  (j:lastMarks [op,op'] [b,c]=false:=by with_unfolding_all rfl):EI K E X (.Compare a [op,op'] [b,c] pos) (yn (zp r r' ta tb tc)) (jE (Tu m m' fa fb fc)):=⟨MV k f i.pe g.pe h.pe j,Iv (Ex hr d i.me g.me h.me)⟩
mutual
noncomputable def vM:T->Bool
 |.str x=>PyData.canLay0 (.str x)
 |.lst ts=>xi ts
 |.tup ts=>xi ts
 |.scr _=>false
 |.obj _ _=>false
 |.emp=>false
 |.dic _=>false
 |_=>true
noncomputable def xi:List T->Bool
 |[]=>true
 |t::ts=>vM t&&xi ts
end
mutual
def DG:T->PyData
 |.non=>.none
 |.bl b=>.bool b
 |.int i=>.int i
 |.str x=>.str x
 |.lst ts=>.list (yJ ts)
 |.tup ts=>.tuple (yJ ts)
 |.scr _=>.none
 |.obj _ _=>.none
 |.emp=>.none
 |.dic _=>.none
def yJ:List T->List PyData
 |[]=>[]
 |t::ts=>DG t::yJ ts
end
def Rm{F:Hp}{v:V}{t:T}(r:mG K F v t):vM t=true->DV K F v (DG t):=
 mG.rec (motive_1:=λv t _=>vM t=true->DV K F v (DG t)) (motive_2:=λv t _=>xi t=true->T3 K F v (yJ t)) (motive_3:=λ_ _ _=>True) (motive_4:=λ_ _ _=>True) (λ_=>.non) (λb _=>.bl b) (λi _=>.int i) (λx _=>.str x)
  (λh _ a l=>.tup (pX.of h) (a (by simpa[vM] using l))) (λh _ a l=>.lst (nh.of h) (a (by simpa[vM] using l))) (λ_ l=>by simp[vM]at l) (λ_ _ _ l=>by simp[vM]at l) (λ_ l=>by simp[vM]at l) (λ_ _ _ l=>by simp[vM]at l)
  (λ_=>.nil) (λ_ _ i j l=>by rw[xi,bZ]at l;exact .cons (i l.1) (j l.2)) ⟨⟩ (λ_ _ _ _=>⟨⟩) ⟨⟩ (λ_ _ _ _=>⟨⟩) r
mutual
theorem C1:∀t,vM t=true->(DG t).canLay0=true
 |.non,_=>rfl
 |.bl b,_=>rfl
 |.int i,_=>rfl
 |.str x,h=>by simpa[vM,DG] using h
 |.lst ts,h=>by rw[DG,PyData.canLay0];exact AX ts (by simpa[vM] using h)
 |.tup ts,h=>by rw[DG,PyData.canLay0];exact AX ts (by simpa[vM] using h)
 |.scr _,h=>by simp[vM]at h
 |.obj _ _,h=>by simp[vM]at h
 |.emp,h=>by simp[vM]at h
 |.dic _,h=>by simp[vM]at h
theorem AX:∀ts,xi ts=true->PyData.canLayAll0 (yJ ts)=true
 |[],_=>rfl
 |t::ts,h=>by rw[xi,bZ]at h;rw[yJ,PyData.canLayAll0,C1 t h.1,AX ts h.2];rfl
end
noncomputable def IB(x y:T):Bool:=(DG x).eqv (DG y)
noncomputable def AL(b a:List T):Bool:=PyData.eqvAll (yJ b) (yJ a)
noncomputable def HD(t:T):Nat:=(DG t).depth
noncomputable def ym(ts:List T):Nat:=PyData.depthAll (yJ ts)
@[simp] theorem Wj i:HD (.int i)=0:=rfl
@[simp] theorem WC i:HD (.bl i)=0:=rfl
@[simp] theorem Wi i:HD (.str i)=0:=rfl
@[simp] theorem Wg:HD .non=0:=rfl
@[simp] theorem Wf ts:HD (.lst ts)=ym ts+1:=by unfold HD ym;rw[DG,PyData.depth]
@[simp] theorem Qv ts:HD (.tup ts)=ym ts+1:=by unfold HD ym;rw[DG,PyData.depth]
@[simp] theorem VJ:ym []=0:=rfl
@[simp] theorem Ka t ts:ym (t::ts)=max (HD t) (ym ts):=by unfold HD ym;rw[yJ,PyData.depthAll]
@[simp] theorem Pp i j:IB (.int i) (.int j)=(i==j):=rfl
@[simp] theorem Wq i j:IB (.str i) (.str j)=(i==j):=rfl
def IA xs ys:IB (.lst xs) (.lst ys)=AL xs ys:=by unfold IB AL;rw[DG,DG,PyData.eqv]
def sX xs ys:IB (.tup xs) (.tup ys)=AL xs ys:=by unfold IB AL;rw[DG,DG,PyData.eqv]
def xI x xs y ys:AL (x::xs) (y::ys)=(IB x y&&AL xs ys):=by unfold IB AL;rw[yJ,yJ,PyData.eqvAll]
noncomputable def ji(neg:Bool):T->T->M T:=λx y=>if vM x&&vM y&&decide (HD x<=100) then .ok (.bl (if neg then !IB x y else IB x y)) else .bad
def DV.same{F H:Hp}(s:jI F H){v:V}{d:PyData}(r:DV K F v d):DV K H v d:=DV.rec (motive_1:=λv d _=>DV K H v d) (motive_2:=λv d _=>T3 K H v d) .non .bl .int .str (λh _=>.lst (s.seq h)) (λh _=>.tup (s.seqT h)) .nil (λ_ _=>.cons) r
def OM x y:M.NoE (ji neg x y):=λC n=>by unfold ji;split<;>exact λz=>nomatch z
def HE(neg:Bool):MR K (GH K neg) (ji neg):=⟨OM,λF H v w x y Q s a rb q=>by
 unfold ji at q;by_cases h:(vM x&&vM y&&decide (HD x<=100))=true
 .rw[aQ h]at q;simp only[bZ,decide_eq_true_eq]at h;refine⟨DG x,DG y,DV.same s (Rm a h.1.1),DV.same s (Rm rb h.1.2),⟨C1 x h.1.1,C1 y h.1.2,by exact h.2⟩,?_⟩;exact kV.now q s (.bl _)
 .rw[aR h]at q;exact q.elim⟩
def AW{k:Nat}(hr:lB k X.A)(f:Pm K E X a ta fa)(d:Pm K E X b tb fb)(e:X.K=K:=by rfl)(c:behindInMarks .Eq b=false:=by exact xP _):Pm K E X (.Compare a [.Eq] [b] pos) (Ac (GH K false) ta tb) (iU (ji false) fa fb):=xH (e▸Nq (Wh hr)) (HE false) f d c
def Oa{k:Nat}(hr:lB k X.A)(f:Pm K E X a ta fa)(d:Pm K E X b tb fb)(e:X.K=K:=by rfl)(c:behindInMarks .NotEq b=false:=by exact xP _):Pm K E X (.Compare a [.NotEq] [b] pos) (Ac (GH K true) ta tb) (iU (ji true) fa fb):=xH (e▸NU (Wh hr)) (HE true) f d c
def FF{k:Nat}(hr:lB k X.A)(f:Pm K E X a ta fa)(d:Pm K E X b tb fb)(e:X.K=K:=by rfl)(c:behindInMarks .Eq b=false:=by exact xP _):EI K E X (.Compare a [.Eq] [b] pos) (yn (Ac (GH K false) ta tb)) (jE (iU (ji false) fa fb)):=jN (e▸Nq (Wh hr)) (HE false) f d c
def sN{k:Nat}(hr:lB k X.A)(f:Pm K E X a ta fa)(d:Pm K E X b tb fb)(e:X.K=K:=by rfl)(c:behindInMarks .NotEq b=false:=by exact xP _):EI K E X (.Compare a [.NotEq] [b] pos) (yn (Ac (GH K true) ta tb)) (jE (iU (ji true) fa fb)):=jN (e▸NU (Wh hr)) (HE true) f d c
@[simp] noncomputable def mE(neg:Bool):T->T->M T:=λx y=>match y with
 |.non=>.ok (.bl (match x with|.non=>!neg|_=>neg))
 |_=>.bad
def Ic x y:M.NoE (mE neg x y):=λC n=>by cases y<;>exact λz=>nomatch z
def zH:MR K (λx y H Q=>y=.non/\Q (.bl (decide (x=.non))) H) (mE false):=⟨Ic,λF H v w x y Q s a rb q=>by
 cases rb with
 |non=>refine⟨rfl,?_⟩;cases a<;>exact kV.now q s (.bl _)
 |_=>exact q.elim⟩
def sI:MR K (λx y H Q=>y=.non/\Q (.bl (!decide (x=.non))) H) (mE true):=⟨Ic,λF H v w x y Q s a rb q=>by
 cases rb with
 |non=>refine⟨rfl,?_⟩;cases a<;>exact kV.now q s (.bl _)
 |_=>exact q.elim⟩
noncomputable def mN:T->Bool
 |.non=>true
 |.bl _=>true
 |.int _=>true
 |.str _=>true
 |_=>false
noncomputable def yI(x:T)(ts:List T):Bool:=ts.any λy=>IB y x
def mG.flat{F:Hp}{v:V}{x:T}(r:mG K F v x)(h:mN x=true):vg v=true:=by cases r<;>first|rfl|(simp[mN]at h;done)
theorem jr.flat{F:Hp}:∀{vs:List V} {a:List T},jr K F vs a->a.all mN=true->vs.all vg=true
 |_,_,.nil,_=>rfl
 |_,_,.cons h r,q=>by rw[b9,bZ]at q ⊢;exact⟨h.flat q.1,jr.flat r q.2⟩
def UQ{F:Hp}{v w:V}{x y:T}(r:mG K F v x)(a:mG K F w y)(h:mN x=true)(b:mN y=true):Oj v w=IB x y:=by cases r<;>first|(exfalso;simp[mN]at h;done)|(cases a<;>first|(exfalso;simp[mN]at b;done)|rfl|simp[Oj,sX])
theorem Lx{F:Hp}{v:V}{x:T}(r:mG K F v x)(h:mN x=true):∀{vs:List V} {a:List T},jr K F vs a->a.all mN=true->Wd v vs=yI x a
 |_,_,.nil,_=>rfl
 |_,_,.cons q rs,l=>by rw[b9,bZ]at l;have b:=Lx r h rs l.2;unfold Wd yI at b ⊢;rw[cf,cf,b,UQ q r l.1 h]
noncomputable def Mw(neg:Bool):T->T->M T:=λx y=>match y with
 |.lst ts=>if mN x&&ts.all mN then .ok (.bl (if neg then !yI x ts else yI x ts)) else .bad
 |.tup ts=>if mN x&&ts.all mN then .ok (.bl (if neg then !yI x ts else yI x ts)) else .bad
 |_=>.bad
def QK x y:M.NoE (Mw neg x y):=λC n=>by unfold Mw;split<;>first|(intro z;cases z;done)|(split<;>intro z<;>cases z)
def Vz(neg:Bool):MR K (WI K neg) (Mw neg):=⟨QK,λF H v w x y Q s e rb q=>by
 cases rb with
 |lst h r=>
  rename_i a f d;have c:(if mN x&&d.all mN then M.ok (T.bl (if neg then !yI x d else yI x d)) else M.bad).res (kV K F H Q) (λ_ _=>False):=q;by_cases b:(mN x&&d.all mN)=true
  .rw[aQ b]at c;rw[bZ]at b;exact⟨a,f,rfl,.inl (nh.of (s _ _ h)),e.flat b.1,r.flat b.2,by rw[Lx e b.1 r b.2];exact kV.now c s (.bl _)⟩
  .rw[aR b]at c;exact c.elim
 |tup h r=>
  rename_i a f d;have c:(if mN x&&d.all mN then M.ok (T.bl (if neg then !yI x d else yI x d)) else M.bad).res (kV K F H Q) (λ_ _=>False):=q;by_cases b:(mN x&&d.all mN)=true
  .rw[aQ b]at c;rw[bZ]at b;exact⟨a,f,rfl,.inr (pX.of (s _ _ h)),e.flat b.1,r.flat b.2,by rw[Lx e b.1 r b.2];exact kV.now c s (.bl _)⟩
  .rw[aR b]at c;exact c.elim
 |_=>exact q.elim⟩
end
end L3
namespace L3
open PySem L2 PySem.Spec PyProof.Rows
section
variable {K:W.Frag}{E:XK}{X:Cx}{a b c e o tg it:Expr}{es:List Expr}{ta tb tc te to:TE}{fa fb fc fe fo:Pe->M T}{tr:TA}{fr:Pe->M ba}{pos p p2 apos:Pos}
def jc:Et K E X [] yN iQ:=⟨xE,Gk⟩
def iW(d:Pm K E X e te fe)(hr:Et K E X es tr fr)(f:starEach (e::es) X.env=(false,eval e X.env)::starEach es X.env:=by rfl):Et K E X (e::es) (vh te tr) (iL fe fr):=⟨sV d.pe hr.pa f,Qc d.me hr.ma⟩
def rE{x1}(h:Et K E X es tr fr):Pm K E X (.Tuple es x1 pos) (Sx tr) (kH fr):=⟨SW h.pa,S6 h.ma⟩
def FM(h:Et K E X es tr fr):Hs K E X (.List es pos) (Ut tr) (lstM fr):=⟨Uv h.pa,So h.ma⟩
structure MC(K:W.Frag)(r:List V->Hp->VK->Prop)(o:List T->M T):Prop where
 ne:∀xs,M.NoE (o xs)
 ok:∀F H vs xs Q,jI F H->jr K F vs xs->(o xs).res (kV K F H Q) (λ_ _=>False)->r vs H Q
structure Wv(K:W.Frag)(r:List V->Hp->VK->Prop)(o:List T->M ba):Prop where
 ne:∀xs,M.NoE (o xs)
 ok:∀F H vs xs Q,jI F H->jr K F vs xs->(o xs).res (kF K F H Q) (λ_ _=>False)->r vs H Q
@[simp] noncomputable def lC(o:List T->M T)(fr:Pe->M ba):Pe->M T:=λd=>(fr d).bind o
@[simp] noncomputable def G9(o:List T->M ba)(fr:Pe->M ba):Pe->M ba:=λd=>(fr d).bind o
def RF{o:List T->M T}(f:MC K r o)(m:MA K E tr fr):ME K E (Mg r tr) (lC o fr):=λF H u n Q s V q=>by refine m.run s V q λg l i j d h k=>?_;exact f.ok i j l g Q d.fh h ((k.ne (f.ne g)).mono (λ_ z=>z.go d) λ_ _ z=>z)
def VD{o:List T->M ba}(f:Wv K r o)(m:MA K E tr fr):MF K E (Mg r tr) (G9 o fr):=λF H u n Q s V q=>by refine m.run s V q λg l i j d h k=>?_;exact f.ok i j l g Q d.fh h ((k.ne (f.ne g)).mono (λ_ z=>z.go d) λ_ _ z=>z)
section
variable {x:Str}{id T':String}{r:List V->Hp->VK->Prop}{m:List T->M T}{mf:List T->M ba}
def i8(l:l6 X (.builtin id) r)(g:MC K r m)(j:Gl X x)(i:X.mg x=none)(hv:bootBuiltins x=some (.builtin id))(h:Et K E X (e::es) tr fr)(k:x≠ "__name__" :=by decide)(f:(x==("__debug__" : Str))=false:=by decide)
  (n:starEach (e::es) X.env=(false,eval e X.env)::starEach es X.env:=by rfl) (d:(backTo pos (starEach es X.env)).any (·.1)=false:=by rfl):Pm K E X (.Call (.Name x p) (e::es) [] pos) (Mg r tr) (lC m fr):=⟨Eb l j i hv h.pa k f n d,RF g h.ma⟩
def j8(l:l6 X (.type T') r)(g:MC K r m)(j:Gl X x)(i:X.mg x=none)(hv:bootBuiltins x=some (.type T'))(h:Et K E X (e::es) tr fr)(k:x≠ "__name__" :=by decide)(f:(x==("__debug__" : Str))=false:=by decide)
  (n:starEach (e::es) X.env=(false,eval e X.env)::starEach es X.env:=by rfl) (d:(backTo pos (starEach es X.env)).any (·.1)=false:=by rfl):Pm K E X (.Call (.Name x p) (e::es) [] pos) (Mg r tr) (lC m fr):=⟨yc l j i hv h.pa k f n d,RF g h.ma⟩
def om(l:l6 X (.type T') r)(g:Wv K r mf)(j:Gl X x)(i:X.mg x=none)(hv:bootBuiltins x=some (.type T'))(h:Et K E X (e::es) tr fr)(k:x≠ "__name__" :=by decide)(f:(x==("__debug__" : Str))=false:=by decide)
  (n:starEach (e::es) X.env=(false,eval e X.env)::starEach es X.env:=by rfl) (d:(backTo pos (starEach es X.env)).any (·.1)=false:=by rfl):Hs K E X (.Call (.Name x p) (e::es) [] pos) (Mg r tr) (G9 mf fr):=⟨yc l j i hv h.pa k f n d,VD g h.ma⟩
end
@[simp] noncomputable def lK:List T->M T
 |[.lst ts]=>.ok (.int ts.length)
 |[.tup ts]=>.ok (.int ts.length)
 |[.scr ns]=>.ok (.int ns.length)
 |[.str z]=>if z.length<=sizeLine then .ok (.int z.length) else .bad
 |_=>.bad
def Qh xs:M.NoE (lK xs):=λC n=>by unfold lK;split<;>first|(intro z;cases z;done)|(split<;>first|(intro z;cases z;done)|(split<;>intro z<;>cases z))
def kZ:MC K (λg H Q=>∃x n,g=[x]/\RN K x H n/\Q (.int n) H) lK:=⟨Qh,λF H i g Q s r q=>by
 cases r with
 |nil=>exact q.elim
 |cons h t=>
  cases t with
  |cons _ _=>cases h<;>exact q.elim
  |nil=>
   cases h with
   |lst h r=>exact⟨_,_,rfl,.inl ⟨_,nh.of (s _ _ h),rfl⟩,by rw[r.length];exact kV.now q s (.int _)⟩
   |tup h r=>exact⟨_,_,rfl,.inr ⟨_,pX.of (s _ _ h),rfl⟩,by rw[r.length];exact kV.now q s (.int _)⟩
   |scr h=>exact⟨_,_,rfl,.inl ⟨_,s.seq h,rfl⟩,by rw[aw];exact kV.now q s (.int _)⟩
   |str z=>
    have d:(if z.length<=sizeLine then M.ok (T.int z.length) else M.bad).res (kV K F H Q) (λ_ _=>False):=q;by_cases f:z.length<=sizeLine
    .rw[aQ f]at d;exact⟨_,z.length,rfl,⟨f,rfl⟩,kV.now d s (.int _)⟩
    .rw[aR f]at d;exact d.elim
   |_=>exact q.elim⟩
@[simp] noncomputable def zC:List T->M T
 |[.int i]=>.ok (.int (if i<0 then -i else i))
 |_=>.bad
def OL xs:M.NoE (zC xs):=λC n=>by unfold zC;split<;>first|(intro z;cases z;done)|(split<;>first|(intro z;cases z;done)|(split<;>intro z<;>cases z))
def xJ:MC K (λd H Q=>∃i,d=[.int i]/\Q (.int (if i<0 then -i else i)) H) zC:=⟨OL,λF H f d Q s r q=>by
 cases r with
 |nil=>exact q.elim
 |cons h t=>
  cases t with
  |cons _ _=>cases h<;>exact q.elim
  |nil=>
   cases h with
   |int i=>exact⟨i,rfl,kV.now q s (.int _)⟩
   |_=>exact q.elim⟩
@[simp] noncomputable def BI:List T->M T
 |[.int i,.int j]=>.ok (.int (if j>i then j else i))
 |_=>.bad
def LB xs:M.NoE (BI xs):=λC n=>by unfold BI;split<;>first|(intro z;cases z;done)|(split<;>first|(intro z;cases z;done)|(split<;>intro z<;>cases z))
def QT:MC K (λd H Q=>∃i j,d=[.int i,.int j]/\Q (.int (if j>i then j else i)) H) BI:=⟨LB,λF H f d Q s r q=>by
 unfold BI at q;split at q
 .exact⟨_,_,r.two,kV.now q s (.int _)⟩
 .exact q.elim⟩
@[simp] noncomputable def zP:List T->M T
 |[.int i]=>.ok (.int i)
 |[.bl k]=>.ok (.int (if k then 1 else 0))
 |_=>.bad
def KD xs:M.NoE (zP xs):=λC n=>by unfold zP;split<;>first|(intro z;cases z;done)|(split<;>first|(intro z;cases z;done)|(split<;>intro z<;>cases z))
def CG:MC K (λd H Q=>(∃i,d=[.int i]/\Q (.int i) H)\/∃k,d=[.bl k]/\Q (.int (if k then 1 else 0)) H) zP:=⟨KD,λF H f d Q s r q=>by
 cases r with
 |nil=>exact q.elim
 |cons h t=>
  cases t with
  |cons _ _=>cases h<;>exact q.elim
  |nil=>
   cases h with
   |int i=>exact .inl ⟨i,rfl,kV.now q s (.int _)⟩
   |bl k=>exact .inr ⟨k,rfl,kV.now q s (.int _)⟩
   |_=>exact q.elim⟩
@[simp] noncomputable def lJ:List T->M T
 |[.lst ts]=>.ok (.tup ts)
 |[.tup ts]=>.ok (.tup ts)
 |[.scr ns]=>.ok (.tup (ns.map T.int))
 |_=>.bad
def Fj xs:M.NoE (lJ xs):=λC n=>by unfold lJ;split<;>first|(intro z;cases z;done)|(split<;>first|(intro z;cases z;done)|(split<;>intro z<;>cases z))
def kQ:MC K (λg H Q=>∃p f,g=[.ref p]/\((nh K H p f/\∀l,H l=none->Q (.ref l) (kU H l (.tup f)))\/(pX K H p f/\Q (.ref p) H))) lJ:=⟨Fj,λF H i g Q s r q=>by
 cases r with
 |nil=>exact q.elim
 |cons h t=>
  cases t with
  |cons _ _=>cases h<;>exact q.elim
  |nil=>
   cases h with
   |lst h r=>exact⟨_,_,rfl,.inl ⟨nh.of (s _ _ h),λl d=>q (.ref l) _ _ (.new s d) (.tup jb (r.mono (Gr.new s d).ff))⟩⟩
   |scr h=>exact⟨_,_,rfl,.inl ⟨s.seq h,λl d=>q (.ref l) _ _ (.new s d) (.tup jb (jr.of_ints _))⟩⟩
   |tup h r=>exact⟨_,_,rfl,.inr ⟨pX.of (s _ _ h),kV.now q s (.tup h r)⟩⟩
   |_=>exact q.elim⟩
@[simp] noncomputable def p7:List T->M ba
 |[.lst ts]=>.ok ts
 |[.tup ts]=>.ok ts
 |[.scr ns]=>.ok (ns.map T.int)
 |_=>.bad
def JH xs:M.NoE (p7 xs):=λC n=>by unfold p7;split<;>first|(intro z;cases z;done)|(split<;>first|(intro z;cases z;done)|(split<;>intro z<;>cases z))
def pT:Wv K (λg H Q=>∃p f,g=[.ref p]/\(nh K H p f\/pX K H p f)/\∀l,H l=none->Q (.ref l) (kU H l (.lst f))) p7:=⟨JH,λF H i g Q s r q=>by
 cases r with
 |nil=>exact q.elim
 |cons h t=>
  cases t with
  |cons _ _=>cases h<;>exact q.elim
  |nil=>
   cases h with
   |lst h r=>exact⟨_,_,rfl,.inl (nh.of (s _ _ h)),λl d=>q l _ F _ (.new' s d) d (jF s d) jb r⟩
   |scr h=>exact⟨_,_,rfl,.inl (s.seq h),λl d=>q l _ F _ (.new' s d) d (jF s d) jb (jr.of_ints _)⟩
   |tup h r=>exact⟨_,_,rfl,.inr (pX.of (s _ _ h)),λl d=>q l _ F _ (.new' s d) d (jF s d) jb r⟩
   |_=>exact q.elim⟩
def kq:List T->Option (LI)
 |[]=>some []
 |.int i::ts=>(kq ts).bind λr=>some (i::r)
 |_::_=>none
theorem mX:∀{ts} {ns},kq ts=some ns->ts=ns.map T.int
 |[],_,e=>by cases e;rfl
 |t::ts,ns,e=>by
  cases t with
  |int i=>
   cases q:kq ts with
   |none=>simp[kq,q]at e
   |some r=>simp[kq,q]at e;subst e;rw[mX q];rfl
  |_=>cases e
@[simp] theorem qG ns:kq (ns.map T.int)=some ns:=by
 induction ns with
 |nil=>rfl
 |cons n ns ih=>simp[kq,ih]
def vj:List T->Option (List Bool)
 |[]=>some []
 |.bl i::ts=>(vj ts).bind λr=>some (i::r)
 |_::_=>none
theorem BB:∀{ts} {ns},vj ts=some ns->ts=ns.map T.bl
 |[],_,e=>by cases e;rfl
 |t::ts,ns,e=>by
  cases t with
  |bl i=>
   cases q:vj ts with
   |none=>simp[vj,q]at e
   |some r=>simp[vj,q]at e;subst e;rw[BB q];rfl
  |_=>cases e
@[simp] theorem V1 ns:vj (ns.map T.bl)=some ns:=by
 induction ns with
 |nil=>rfl
 |cons n ns ih=>simp[vj,ih]
@[simp] noncomputable def Fx:List T->M T
 |[.lst ts]=>match kq ts with
  |some ns=>.ok (.int ns.sum)
  |none=>.bad
 |_=>.bad
def QA xs:M.NoE (Fx xs):=λC n=>by unfold Fx;split<;>first|(intro z;cases z;done)|(split<;>first|(intro z;cases z;done)|(split<;>intro z<;>cases z))
def LN:MC K (λg H Q=>∃(p:Addr) (d:LI),g=[.ref p]/\nh K H p (d.map V.int)/\Q (.int d.sum) H) Fx:=⟨QA,λF H j g Q s r q=>by
 cases r with
 |nil=>exact q.elim
 |cons h t=>
  cases t with
  |cons _ _=>cases h<;>exact q.elim
  |nil=>
   cases h with
   |lst h r=>
    rename_i a g i;have f:(match kq i with|some d=>M.ok (T.int d.sum)|none=>M.bad).res (kV K F H Q) (λ_ _=>False):=q;cases e:kq i with
    |none=>rw[e]at f;exact f.elim
    |some d=>rw[e]at f;rw[mX e]at r;have:=r.ints;subst this;exact⟨a,d,rfl,nh.of (s _ _ h),kV.now f s (.int _)⟩
   |_=>exact q.elim⟩
@[simp] noncomputable def wL:List T->M T
 |[.lst ts]=>match vj ts with
  |some ns=>.ok (.bl (ns.all id))
  |none=>.bad
 |_=>.bad
def PD xs:M.NoE (wL xs):=λC n=>by unfold wL;split<;>first|(intro z;cases z;done)|(split<;>first|(intro z;cases z;done)|(split<;>intro z<;>cases z))
def qO:MC K (λf H Q=>∃(p:Addr) (bs:List Bool),f=[.ref p]/\nh K H p (bs.map V.bl)/\Q (.bl (bs.all id)) H) wL:=⟨PD,λF H i f Q s r q=>by
 cases r with
 |nil=>exact q.elim
 |cons h t=>
  cases t with
  |cons _ _=>cases h<;>exact q.elim
  |nil=>
   cases h with
   |lst h r=>
    rename_i a f g;have d:(match vj g with|some ns=>M.ok (T.bl (ns.all id))|none=>M.bad).res (kV K F H Q) (λ_ _=>False):=q;cases e:vj g with
    |none=>rw[e]at d;exact d.elim
    |some ns=>rw[e]at d;rw[BB e]at r;have:=r.bls;subst this;exact⟨a,ns,rfl,nh.of (s _ _ h),kV.now d s (.bl _)⟩
   |_=>exact q.elim⟩
@[simp] noncomputable def UD:T->String
 |.non=> "NoneType"
 |.bl _=> "bool"
 |.int _=> "int"
 |.str _=> "str"
 |.tup _=> "tuple"
 |.lst _=> "list"
 |.scr _=> "script"
 |.obj _ _=> "object"
 |.emp=> "dict"
 |.dic _=> "table"
@[simp] noncomputable def OR(n:String)(x:T):M T:=match x with
 |.scr _=>.bad
 |.obj _ _=>.bad
 |.dic _=>.bad
 |x=>.ok (.bl (UD x==n||(n == "int" && UD x == "bool")))
def U8(r:mG K F v x)(s:jI F H)(k:∀f,x≠.scr f)(g:∀C fs,x≠.obj C fs)(d:∀j,x≠.dic j):tW K H v (.type (UD x)):=by
 cases r with
 |non=>exact .non
 |bl b=>exact .bl b
 |int i=>exact .int i
 |str x=>exact .str x
 |tup h r=>exact .tup (s _ _ h)
 |lst h r=>exact .lst (s _ _ h)
 |scr h=>exact absurd rfl (k _)
 |obj h r=>exact absurd rfl (g _ _)
 |emp h=>exact .dK (s _ _ h)
 |dic h r=>exact absurd rfl (d _)
@[simp] noncomputable def ux(n:String)(fe:Pe->M T):Pe->M T:=λd=>(fe d).bind λx=>OR n x
theorem S5(D:∀t∈["NoneType", "bool", "int", "str", "tuple", "list", "dict"],W.kitOne K (.type t) (.type n)=some (t==n||(n == "int" && t == "bool")))(A:ME K E te fe) :
  ME K E (Mg (λB H Q=>∃x T t b,B=[x,.ty T]/\tW K H x t/\W.kitOne K t (.type T)=some b/\Q (.bl b) H) (vh te (vh (tC (.ty n)) yN))) (ux n fe):=λF H J I Q s V q=>by
 refine A.run s V q λx v y j k w g=>?_;have d:∀b,OR n x=.ok (.bl b)->(∀i,x≠.scr i)->(∀C fs,x≠.obj C fs)->(∀h,x≠.dic h)->b=(UD x==n||(n == "int" && UD x == "bool"))->∃f T t b,[v,L2.V.ty n]=[f,.ty T]/\tW K j f t/\W.kitOne K t (.type T)=some b/\Q (.bl b) j:=by
  intro b e m l r u;rw[e]at g;refine⟨v,n,_,b,rfl,U8 w k.fh m l r,?_,g _ y j k (.bl _)⟩;rw[u];refine D _ ?_;cases x with
  |scr i=>exact absurd rfl (m i)
  |obj C fs=>exact absurd rfl (l C fs)
  |dic h=>exact absurd rfl (r h)
  |_=>simp[UD]
 cases x with
 |scr i=>exact g.elim
 |obj C fs=>exact g.elim
 |dic h=>exact g.elim
 |non=>exact d _ rfl (λ_ z=>nomatch z) (λ_ _ z=>nomatch z) (λ_ z=>nomatch z) rfl
 |bl _=>exact d _ rfl (λ_ z=>nomatch z) (λ_ _ z=>nomatch z) (λ_ z=>nomatch z) rfl
 |int _=>exact d _ rfl (λ_ z=>nomatch z) (λ_ _ z=>nomatch z) (λ_ z=>nomatch z) rfl
 |str _=>exact d _ rfl (λ_ z=>nomatch z) (λ_ _ z=>nomatch z) (λ_ z=>nomatch z) rfl
 |tup _=>exact d _ rfl (λ_ z=>nomatch z) (λ_ _ z=>nomatch z) (λ_ z=>nomatch z) rfl
 |lst _=>exact d _ rfl (λ_ z=>nomatch z) (λ_ _ z=>nomatch z) (λ_ z=>nomatch z) rfl
 |emp=>exact d _ rfl (λ_ z=>nomatch z) (λ_ _ z=>nomatch z) (λ_ z=>nomatch z) rfl
def Qj K:∀n∈["int", "bool", "str", "tuple", "list"],∀t∈["NoneType", "bool", "int", "str", "tuple", "list", "dict"],W.kitOne K (.type t) (.type n)=some (t==n||(n == "int" && t == "bool")):=by intro n d t f;simp only[aF,dS,or_false]at d f;rcases d with rfl|rfl|rfl|rfl|rfl<;>rcases f with rfl|rfl|rfl|rfl|rfl|rfl|rfl<;>rfl
def oW n (j:n∈["int", "bool", "str", "tuple", "list"]) (f:X.mg "isinstance" = none) (m:X.mg x=none) (q:bootBuiltins x=some (.type n)) (r:Pm K E X e te fe) (u:X.K=K:=by rfl) (l:Gl X "isinstance" :=by rfl) (h:Gl X x:=by rfl)
  (i:x≠ "__name__" :=by decide) (k:(x==("__debug__" : Str))=false:=by decide)
  (s:starEach [e,.Name x p3] X.env=(false,eval e X.env)::starEach [.Name x p3] X.env:=by rfl) (g:starEach [.Name x p3] X.env=(false,eval (.Name x p3) X.env)::starEach [] X.env:=by rfl) (d:(backTo pos (starEach [.Name x p3] X.env)).any (·.1)=false:=by rfl) :
  Pm K E X (.Call (.Name "isinstance" p) [e,.Name x p3] [] pos) (Mg (λv H Q=>∃x T t b,v=[x,.ty T]/\tW K H x t/\W.kitOne K t (.type T)=some b/\Q (.bl b) H) (vh te (vh (tC (.ty n)) yN))) (ux n fe):=by
 subst u;exact⟨Eb Lk l f Ta (sV r.pe (sV (OI h m q rfl i k) xE g) s) (by decide) (by decide) s d,S5 (Qj X.K n j) r.me⟩
@[simp] noncomputable def jA:T->T->M T
 |.lst ts,.int i=>match rG ts i with
  |some t=>.ok t
  |none=>.bad
 |.tup ts,.int i=>match rG ts i with
  |some t=>.ok t
  |none=>.bad
 |.scr ns,.int i=>match rG ns i with
  |some t=>.ok (.int t)
  |none=>.bad
 |.str z,.int i=>if z.length<=sizeLine then (match rG z.cps.toList i with
  |some c=>.ok (.str ⟨#[c]⟩)
  |none=>.bad) else .bad
 |_,_=>.bad
def Ii(r:jr K F vs ts)(h:rG ts i=some t):∃v,rG vs i=some v/\mG K F v t:=by
 unfold rG at h ⊢;rw[r.length];cases e:zj ts.length i with
 |none=>rw[e]at h;cases h
 |some j=>rw[e]at h;exact r.get h
def qA(f:α->β) l i:rG (l.map f) i=(rG l i).map f:=by
 unfold rG;rw[aw];cases zj l.length i with
 |none=>rfl
 |some j=>simp
def R8 x y:M.NoE (jA x y):=λC n=>by unfold jA;split<;>first|(intro z;cases z;done)|(split<;>first|(intro z;cases z;done)|(split<;>intro z<;>cases z))
def VY:MR K (WH K) jA:=⟨R8,λF H v w x y Q s d rb q=>by
 unfold jA at q;split at q
 .rename_i k i;rw[rb.int_inv];obtain⟨a,f,rfl,h,r⟩:=d.lst_inv;split at q
  .rename_i t e;obtain⟨v,g,j⟩:=Ii r e;exact .inl ⟨a,f,i,v,rfl,rfl,nh.of (s _ _ h),g,kV.now q s j⟩
  .exact q.elim
 .rename_i k i;rw[rb.int_inv];obtain⟨a,f,rfl,h,r⟩:=d.tup_inv;split at q
  .rename_i t e;obtain⟨v,g,j⟩:=Ii r e;exact .inr (.inl ⟨a,f,i,v,rfl,rfl,pX.of (s _ _ h),g,kV.now q s j⟩)
  .exact q.elim
 .rename_i m i;rw[rb.int_inv];cases d with
  |scr h=>
   split at q
   .rename_i t e;exact .inl ⟨_,_,i,.int t,rfl,rfl,s.seq h,by rw[qA,e];rfl,kV.now q s (.int _)⟩
   .exact q.elim
 .rename_i z i;rw[rb.int_inv];cases d with
  |str z=>
   split at q
   .rename_i l;split at q
    .rename_i c e;exact .inr (.inr ⟨z,i,c,rfl,rfl,l,e,kV.now q s (.str _)⟩)
    .exact q.elim
   .exact q.elim
 .exact q.elim⟩
def Hu(f:Pm K E X a ta fa)(d:Pm K E X b tb fb)(h:G6 b:=by intro _ _;rfl)(g:X.K=K:=by rfl):Pm K E X (.Subscript a b pos) (Ac (WH K) ta tb) (iU jA fa fb):=⟨U5 (g▸Ua) f.pe d.pe h,HJ VY f.me d.me⟩
def NS:Ws K E X none HV (λ_=>.ok none):=⟨Po,λF H d f Q s V q=>q F H (.refl s)⟩
@[simp] noncomputable def jL(fe:Pe->M T):Pe->M (Option Int):=λd=>(fe d).bind λx=>match x with
 |.int i=>.ok (some i)
 |_=>.bad
def K4(h:Pm K E X e te fe):Ws K E X (some e) (Rv te) (jL fe):=⟨Qy h.pe,λF H l m Q s V q=>by
 refine h.me.run s V q λx v g j f k d=>?_;cases k with
 |int i=>exact⟨i,rfl,d g j f⟩
 |_=>exact d.elim⟩
noncomputable def pC{g:Type}(d:List g)(f h:Option Int):List g:=(d.drop (HT.sIx d.length 0 f)).take (HT.sIx d.length d.length h-HT.sIx d.length 0 f)
def SY xs lo hi:Lw xs lo hi=pC xs lo hi:=rfl
def jr.cut(r:jr K F vs ts) lo hi:jr K F (pC vs lo hi) (pC ts lo hi):=by unfold pC;rw[r.length];exact (r.drop _).take _
def zI(f:α->β) l lo hi:pC (l.map f) lo hi=(pC l lo hi).map f:=by unfold pC;rw[aw,dU,dW]
section
variable {lo hi:Option Expr}{tl th:TO}{fl fh:Pe->M (Option Int)}
def MO.run{k:Option Int->M α}{P:α->Prop}(h:MO K E t f)(s:jI F H)(v:ph K F σ ρ)(r:((f ρ).bind k).res P (kE E F H))
  (j:∀x i d,Gr F H i d->(k x).res P (kE E i d)->Q x d):t σ H Q:=
 h F H σ ρ Q s v ((M.res.unb r).mono (λx q i d g=>j x i d g (q.mono (λ_ z=>z) λ_ _ z=>z.go g)) λ_ _ z=>z)
@[simp] noncomputable def kM(fe:Pe->M T)(fl fh:Pe->M (Option Int)):Pe->M T:=λd=>(fe d).bind λx=>(fl d).bind λl=>(fh d).bind λh=>match x with
 |.tup ts=>.ok (.tup (pC ts l h))
 |.lst ts=>.ok (.lst (pC ts l h))
 |.scr ns=>.ok (.lst ((pC ns l h).map T.int))
 |_=>.bad
def El(A:Pm K E X e te fe)(z:Ws K E X lo tl fl)(B:Ws K E X hi th fh)(J:X.K=K:=by rfl):Pm K E X (.Subscript e (.Slice lo hi none p2) pos) (W7 (λx lo hi H Q=>VQ K x lo hi H Q\/(UI K x lo hi H Q\/VZ K x lo hi H Q)) te tl th) (kM fe fl fh):=by
 subst J;refine⟨M5 (PY.or (RJ.or OA)) A.pe z.po B.po,λF H S P Q s V q=>?_⟩;refine A.me.run s V q λx v U Z j D I=>?_;refine z.mo.run j.fh (V.mono j.ff) I λl R Y m L=>?_;refine B.mo.run m.fh ((V.mono j.ff).mono m.ff) L λu y w d k=>?_;have g:=(j.trans m).trans d;have C:=D.mono (m.ff.trans d.ff);cases C with
 |lst h r=>exact .inl ⟨_,_,rfl,nh.of (d.fh _ _ h),λp f=>k (.ref p) _ _ (g.trans (.new d.fh f)) (.lst jb ((r.cut l u).mono (Gr.new d.fh f).ff))⟩
 |scr h=>exact .inl ⟨_,_,rfl,d.fh.seq h,λp f=>k (.ref p) _ _ (g.trans (.new d.fh f)) (.lst jb (by rw[SY,zI];exact jr.of_ints _))⟩
 |tup h r=>
  rename_i a xs i;have n:(M.ok (T.tup (pC i l u))).res (kV X.K F H Q) (kE E y w):=k;by_cases hw:HT.sIx i.length 0 l=0/\HT.sIx i.length i.length u=i.length
  .have N:pC i l u=i:=by unfold pC;rw[hw.1,hw.2];simp
   rw[N]at n;exact .inr (.inr ⟨_,_,rfl,pX.of (d.fh _ _ h),by rw[r.length];exact hw,n _ y w g (.tup h r)⟩)
  .exact .inr (.inl ⟨_,_,rfl,pX.of (d.fh _ _ h),by rw[r.length];exact hw,λp f=>n (.ref p) _ _ (g.trans (.new d.fh f)) (.tup jb ((r.cut l u).mono (Gr.new d.fh f).ff))⟩)
 |_=>exact k.elim
end
section
variable {x:Str}{k:Nat}{Fn:List T->M T}{Ff:List T->M ba}
def kW(h:oX X.prog X.w X.K X.mg X.base x j (A0 K Fn))(hr:lB k X.A)(g:Et K E X (e::es) tr fr)(l:j<=k:=by decide)(i:Gl X x:=by rfl)
  (f:(x==("__debug__" : Str))=false:=by decide) (m:starEach (e::es) X.env=(false,eval e X.env)::starEach es X.env:=by rfl) (d:(backTo pos (starEach es X.env)).any (·.1)=false:=by rfl) :
  Pm K E X (.Call (.Name x p) (e::es) [] pos) (B5 (A0 K Fn) [] E0 tr) (iV fr Fn):=⟨Em (h.mono l) hr g.pa i f m d,NB g.ma⟩
def Dg(h:oX X.prog X.w X.K X.mg X.base x j (Fi K Ff))(hr:lB k X.A)(g:Et K E X (e::es) tr fr)(l:j<=k:=by decide)(i:Gl X x:=by rfl)
  (f:(x==("__debug__" : Str))=false:=by decide) (m:starEach (e::es) X.env=(false,eval e X.env)::starEach es X.env:=by rfl) (d:(backTo pos (starEach es X.env)).any (·.1)=false:=by rfl) :
  Hs K E X (.Call (.Name x p) (e::es) [] pos) (B5 (Fi K Ff) [] E0 tr) (ke fr Ff):=⟨Em (h.mono l) hr g.pa i f m d,M8 g.ma⟩
end
def VA(K:W.Frag)(t:TE):TI:=λd H R=>Kn K t d H R\/Sv K t d H R
@[simp] noncomputable def jP(fa:Pe->M T):Pe->M ba:=λd=>(fa d).bind λx=>match x with
 |.lst ts=>.ok ts
 |.scr ns=>.ok (ns.map T.int)
 |.tup ts=>.ok ts
 |_=>.bad
def R7(g:ME K E ta fa):MI K E (VA K ta) (jP fa):=λF H f d R s V q=>by
 unfold jP at q;cases e:fa d with
 |bad=>rw[e]at q;exact q.elim
 |er C n=>rw[e]at q;exact .inl (CJ g F H f d R s V (by unfold V8;rw[e];exact q))
 |ok x=>
  rw[e]at q;cases x with
  |lst ts=>exact .inl (CJ g F H f d R s V (by unfold V8;rw[e];exact q))
  |scr ns=>exact .inl (CJ g F H f d R s V (by unfold V8;rw[e];exact q))
  |tup ts=>exact .inr (Tr g F H f d R s V (by unfold W9;rw[e];exact q))
  |_=>exact q.elim
def jk(d:Pm K E X a ta fa)(i:X.K=K:=by rfl):Og K E X tg a (VA K ta) (jP fa):=by
 subst i;refine⟨λg s f H R I h=>?_,R7 d.me⟩;rcases h with h|h
 .exact Qk d.pe g s f H R I h
 .exact R9 d.pe g s f H R I h
def Rl(K:W.Frag)(ta:TA):TI:=λd H R=>∃f g,SS K f g ta d H R
@[simp] noncomputable def seqT:T->M ba
 |.lst ts=>.ok ts
 |.scr ns=>.ok (ns.map T.int)
 |.tup ts=>.ok ts
 |_=>.bad
@[simp] noncomputable def nF(fa:Pe->M ba):Pe->M ba:=λh=>(fa h).bind λd=>match d with
 |[x,y]=>(seqT x).bind λf=>(seqT y).bind λg=>.ok (Dm f g)
 |_=>.bad
noncomputable def v9:T->Bool
 |.tup _=>true
 |_=>false
def G3 x:seqT x=seqB (v9 x) x:=by cases x<;>rfl
def OE(h:MA K E tr fr):MI K E (Rl K tr) (nF fr):=λF H f d R s V q=>by
 unfold nF at q;cases e:fr d with
 |bad=>rw[e]at q;exact q.elim
 |er C n=>rw[e]at q;exact⟨true,true,NM h F H f d R s V (by unfold Uu;rw[e];exact q)⟩
 |ok xs=>
  rw[e]at q;match xs,e,q with
  |[],_,q=>exact q.elim
  |[_],_,q=>exact q.elim
  |[x,y],e,q=>refine⟨v9 x,v9 y,NM h F H f d R s V ?_⟩;unfold Uu;rw[e];have g:((seqT x).bind λi=>(seqT y).bind λj=>M.ok (Dm i j)).res (kI K F H R) (kE E F H):=q;rw[G3 x,G3 y]at g;exact g
  |_::_::_::_,_,q=>exact q.elim
def lW{x1}(i:X.mg "zip" = none)(f:Et K E X [a,b] tr fr)(k:X.K=K:=by rfl)(j:Gl X "zip" :=by rfl)(l:starEach [a,b] X.env=[(false,eval a X.env),(false,eval b X.env)]:=by rfl)
  (d:starEach [b] X.env=[(false,eval b X.env)]:=by rfl):Og K E X (.Tuple elts x1 tpos) (.Call (.Name "zip" p) [a,b] [] pos) (Rl K tr) (nF fr):=by
 subst k;refine⟨λm s g H R I h=>?_,OE f.ma⟩;obtain⟨n,q,h⟩:=h;exact T1 j i f.pa l d m s g H R I h
def qw(g:X.mg "range" = none)(d:Et K E X [a] tr fr)(f:Gl X "range" :=by rfl)(h:starEach [a] X.env=[(false,eval a X.env)]:=by rfl):Cy K E X tg (.Call (.Name "range" p) [a] [] pos) (L7 tr) (qc fr):=⟨IJ f g d.pa h,Pk d.ma⟩
def Cy.pim(h:Cy K E X tg it w f):Og K E X tg it w f:=⟨h.pi,h.mi.mi⟩
section
variable {x:Str}{g:TG}{gs:Oc}{m:T->Pe->Option Pe}{ms:List T->Pe->Option Pe}{mo:T->En->Option En}{mos:List T->En->Option En}{n:Nat}
def jC i (j:X.N.Nodup) (d:Hx X.env.scope x:=by first|exact Or.inl rfl|exact Or.inr rfl) (f:X.N[i]? = some x:=by rfl) (h:X.fn x=true\/X.env.scope.names.lookup x=some .local:=by first|exact .inl rfl|exact .inr rfl|assumption):UG K X (.Name x pos) (mx i) (kK i):=⟨Hk j f d h,Qf⟩
def jJ i (j:X.N.Nodup) (d:Hx X.env.scope x:=by first|exact Or.inl rfl|exact Or.inr rfl) (f:X.N[i]? = some x:=by rfl) (h:X.fn x=true\/X.env.scope.names.lookup x=some .local:=by first|exact .inl rfl|exact .inr rfl|assumption):Uy K X (.Name x pos) (mx i) (lq i):=⟨Hk j f d h,KW⟩
def kY:OS K X [] IU nR:=⟨HQ,PQ⟩
def lU:Q0 K X [] IU lF:=⟨HQ,L9⟩
def jg(f:UG K X e g m)(d:OS K X es gs ms)(h:(assignEach (e::es) X.env).map (·.2)=assign e X.env::(assignEach es X.env).map (·.2):=by rfl):OS K X (e::es) (zM g gs) (jM m ms):=⟨E8 f.pg d.pg h,La f.mg d.mg⟩
def jB(f:Uy K X e g mo)(d:Q0 K X es gs mos)(h:(assignEach (e::es) X.env).map (·.2)=assign e X.env::(assignEach es X.env).map (·.2):=by rfl):Q0 K X (e::es) (zM g gs) (jf mo mos):=⟨E8 f.pg d.pg h,JG f.mg d.mg⟩
def mL n (j:X.calm=true) (h:OS K X es gs ms) (i:X.K=K:=by rfl) (f:(assignEach es X.env).length=n:=by rfl) (d:(assignEach es X.env).findIdx? (·.1)=none:=by rfl):UG K X (.Tuple es k pos) (JJ K n gs) (nO n ms):=by subst i;exact⟨Ki j h.pg f d,SF h.mg⟩
def oG n (j:X.calm=true) (h:Q0 K X es gs mos) (i:X.K=K:=by rfl) (f:(assignEach es X.env).length=n:=by rfl) (d:(assignEach es X.env).findIdx? (·.1)=none:=by rfl):Uy K X (.Tuple es k pos) (JJ K n gs) (lG n mos):=by subst i;exact⟨Ki j h.pg f d,PU h.mg⟩
end
section
variable {elt iter:Expr}{ifs:List Expr}{scope:Scope}{N:List Str}{ix:List (Option Nat)}{wi:TI}{g:TG}{tt:TT}{fi:Pe->M ba}{m:T->Pe->Option Pe}{ft:Pe->M Bool}
def jo:Lp K E X [] RX (λ_=>.ok true):=⟨Qi,Sm⟩
def oE(h:EI K E X c t f):Lp K E X [c] t f:=⟨Pf h.pt,h.mt⟩
@[simp] noncomputable def lH(ix:List (Option Nat))(fi:Pe->M ba)(m:T->Pe->Option Pe)(ft:Pe->M Bool)(fe:Pe->M T):Pe->M ba:=λf=>(fi f).bind λd=>(if d.length<sizeLine then ua (wc m ft fe (rD ix f)) d else .bad).noEr
def U7(q:X.calm=true)(k:Og K E X tg iter wi fi)(L:Fd X scope N ix)(j:sR ix g)
  (f:∀C d H i h,UG K (qB X N scope C d H i h) tg g m/\Lp K Od (qB X N scope C d H i h) ifs tt ft/\Pm K Od (qB X N scope C d H i h) elt te fe)
  (l:∀x,foldedSetIterable iter X.env x=pure x:=by intro _;rfl):Hs K E X (.ListComp elt [⟨tg,iter,ifs,0⟩] scope pos) (Lf ix wi g tt te) (lH ix fi m ft fe):=by
 obtain⟨r,s,n⟩:=f 0 X.s₀ X.H₀ [] [];exact⟨VE q k.pi L j (λC d H i h=>⟨(f C d H i h).1.pg,(f C d H i h).2.1.pf,(f C d H i h).2.2.pe⟩) l,Rc k.mi r.mg s.mt n.me⟩
end
end
end L3
namespace L3
open PySem L2 PySem.Spec PyProof.Rows
section
variable {K:W.Frag}{E:XK}{X:Cx}{a b c e o tg it:Expr}{es:List Expr}{ta tb tc te to:TE}{fa fb fc fe fo:Pe->M T}{tr:TA}{fr:Pe->M ba}{pos pos' p p2 apos:Pos}{st:Stmt}{p9:List Stmt}{t u:TS}{g g':En->O}{ff:Pe->M ba}{x:Str}
def je:vL K E X [] NH ju:=⟨P7,QG⟩
def iT(h:xt K E X st t g):vL K E X [st] t g:=⟨HL h.ps,h.ms⟩
def iN(h:xt K E X st t g)(d:vL K E X p9 u g'):vL K E X (st::p9) (Qr t u) (iZ g g'):=⟨EW h.ps d.ps,S3 h.ms d.ms⟩
def wm:xt K E X st Ge (λ_=>.bad):=⟨Mz,Mc⟩
def jS(h:Pm K E X e te fe):xt K E X (.Return (some e) pos) (Dd te) (jy fe):=⟨CZ h.pe,Sq h.me⟩
def oK(h:Hs K E X e te ff):xt K E X (.Return (some e) pos) (Dd te) (rh ff):=⟨CZ h.pe,Ov h.mf⟩
def wZ i (h:PE X (.Name x p) (qD i)):xt K E X (.Return (some (.Name x p)) pos) (Dd (qD i)) (sU i):=⟨CZ h,Jh⟩
def jK{tc:TT}{fc:Pe->M Bool}(f:EI K E X c tc fc)(h:vL K E X A t g)(d:vL K E X B u g'):xt K E X (.If c A B pos) (TX tc t u) (mB fc g g'):=⟨VC f.pt h.ps d.ps,U3 f.mt h.ms d.ms⟩
def FX{tc:TT}{fc:Pe->M Bool}(d:En->Nat)(i:PassesOwn (model X.prog X.w) X.A X.env X.xe)(f:EI K E X c tc fc)(h:vL K E X A t g):xt K E X (.While c A [] pos) (GK tc t) (λρ=>pD fc g (d ρ) ρ):=⟨MX i f.pt h.ps,Kr d f.mt h.ms⟩
section
variable {w:TI}{fi:Pe->M ba}{gt:TG}{m:T->En->Option En}{A:List Stmt}
def ka(j:PassesOwn (model X.prog X.w) X.A X.env X.xe)(k:X.calm=true)(h:Og K E X tg it w fi)(d:Uy K X tg gt m)(f:vL K E X A t g)(i:∀x,foldedSetIterable it X.env x=pure x:=by intro _;rfl):xt K E X (.For tg it A [] pos) (Ks w gt t) (nH fi m g):=⟨Mu j k h.pi d.pg f.ps i,TB h.mi d.mg f.ms⟩
def xh(j:PassesOwn (model X.prog X.w) X.A X.env X.xe)(k:X.calm=true)(h:Cy K E X tg it w fi)(d:Uy K X tg gt m)(f:vL K E X A t g)(i:∀x,foldedSetIterable it X.env x=pure x:=by intro _;rfl):xt K E X (.For tg it A [] pos) (Ks w gt t) (yD fi m g):=⟨Mu j k h.pi d.pg f.ps i,Qd h.mi d.mg f.ms⟩
end
def RP i (z:X.N.Nodup) (v:Hx X.env.scope x)
  (A:X.calm=true) (n:Og K E X tg iter wi fi) (L:Fd X scope N ix) (k:sR ix gt)
  (f:∀C d H j h,UG K (qB X N scope C d H j h) tg gt m/\Lp K Od (qB X N scope C d H j h) ifs tt ft/\Pm K Od (qB X N scope C d H j h) elt te fe)
  (r:MF K E (Lf ix wi gt tt te) (lH ix fi m ft fe)->MS K E (q8 (Lf ix wi gt tt te) (mx i)) gm)
  (s:X.N[i]? = some x:=by rfl) (y:X.fn x=true\/X.env.scope.names.lookup x=some .local:=by first|exact .inl rfl|exact .inr rfl)
  (l:swapsWith (.ListComp elt [⟨tg,iter,ifs,0⟩] scope pos) (some (.Name x py)) spos.line X.env=pure true:=by rfl)
  (B:∀x,foldedSetIterable iter X.env x=pure x:=by intro _;rfl):xt K E X (.Assign [.Name x py] (.ListComp elt [⟨tg,iter,ifs,0⟩] scope pos) spos) (q8 (Lf ix wi gt tt te) (mx i)) gm:=by
 obtain⟨q,D,w⟩:=f 0 X.s₀ X.H₀ [] [];exact⟨Nh z s v A n.pi L k (λC d H j h=>⟨(f C d H j h).1.pg,(f C d H j h).2.1.pf,(f C d H j h).2.2.pe⟩) y l B,r (Rc n.mi q.mg D.mt w.me)⟩
def jX i (j:X.N.Nodup) (h:Pm K E X e te fe) (l:Hx X.env.scope x:=by first|exact Or.inl rfl|exact Or.inr rfl) (k:X.N[i]? = some x:=by rfl) (d:swapsWith e (some (.Name x pos')) pos.line X.env=pure false:=by rfl) (f:X.fn x=true\/X.env.scope.names.lookup x=some .local:=by first|exact .inl rfl|exact .inr rfl|assumption) :
  xt K E X (.Assign [.Name x pos'] e pos) (q8 te (mx i)) (setO i (j9 fe)):=⟨AC j k l h.pe d f,Iw h.me⟩
def DU i (j:X.N.Nodup) (h:Pm K E X e te fe) (l:Hx X.env.scope x:=by first|exact Or.inl rfl|exact Or.inr rfl) (k:X.N[i]? = some x:=by rfl) (d:swapsWith e (some (.Name x pos')) pos.line X.env=pure false:=by rfl) (f:X.fn x=true\/X.env.scope.names.lookup x=some .local:=by first|exact .inl rfl|exact .inr rfl|assumption) :
  xt K E X (.Assign [.Name x pos'] e pos) (q8 te (mx i)) (setO i (qr fe)):=⟨AC j k l h.pe d f,Q7 h.me⟩
def wV i (j:X.N.Nodup) (h:Hs K E X e te ff) (l:Hx X.env.scope x:=by first|exact Or.inl rfl|exact Or.inr rfl) (k:X.N[i]? = some x:=by rfl) (d:swapsWith e (some (.Name x pos')) pos.line X.env=pure false:=by rfl) (f:X.fn x=true\/X.env.scope.names.lookup x=some .local:=by first|exact .inl rfl|exact .inr rfl|assumption) :
  xt K E X (.Assign [.Name x pos'] e pos) (q8 te (mx i)) (qC i (sW ff)):=⟨AC j k l h.pe d f,CI h.mf⟩
def Lr i (j:X.N.Nodup) (h:Hs K E X e te ff) (l:Hx X.env.scope x:=by first|exact Or.inl rfl|exact Or.inr rfl) (k:X.N[i]? = some x:=by rfl) (d:swapsWith e (some (.Name x pos')) pos.line X.env=pure false:=by rfl) (f:X.fn x=true\/X.env.scope.names.lookup x=some .local:=by first|exact .inl rfl|exact .inr rfl|assumption) :
  xt K E X (.Assign [.Name x pos'] e pos) (q8 te (mx i)) (qC i (yG ff)):=⟨AC j k l h.pe d f,Oo h.mf⟩
def se(h:MF K E te ff):MS K E (q8 te (mx i)) (setO i (j9 λρ=>(ff ρ).bind λts=>.ok (.lst ts))):=Iw h.me
def Fy(h:H l=some (.lst xs)):UE K "list" (.ref l) H:=.inl ⟨rfl,_,nh.of h⟩
def qW i (hv:PE X (.Name x p) (qD i)) (m:Pm K E X e te fe) (n:starEach [e] X.env=(false,eval e X.env)::starEach [] X.env:=by rfl) (q:X.K=K:=by rfl)
  (d:attributeBase (.Name x p) "append" X.env (eval (.Name x p) X.env)=eval (.Name x p) X.env:=by rfl)
  (j:((backTo pos (starEach [e] X.env)).all (λx=>!x.1)&&(backToKw pos (keywordEach [] X.env)).all (λx=>x.1.isSome)&&decide (([e]:List Expr).length+([]:List Keyword).length+(if ([]:List Keyword).isEmpty then 0 else 1)<30))=true:=by rfl)
  (f:(apos.endLine==pos.line)=true:=by rfl) (hplain:(backTo pos (starEach [] X.env)).any (·.1)=false:=by rfl) (k:swapsWith (.Call (.Attribute (.Name x p) "append" apos) [e] [] pos) none pos'.line X.env=pure false:=by rfl) :
  xt K E X (.Expr (.Call (.Attribute (.Name x p) "append" apos) [e] [] pos) pos') (v8 (J4 K i te)) (si i (j9 fe)):=by
 subst q;exact⟨zm (MN PySem.F.plainAttrs_list PySem.F.slot_list_append PySem.F.type_list_append xX hv (sV m.pe xE n) d j f n hplain) k,Qe (λl r H h=>Fy h) m.me⟩
def NL i (hv:PE X (.Name x p) (qD i)) (m:Pm K E X e te fe) (n:starEach [e] X.env=(false,eval e X.env)::starEach [] X.env:=by rfl) (q:X.K=K:=by rfl)
  (d:attributeBase (.Name x p) "append" X.env (eval (.Name x p) X.env)=eval (.Name x p) X.env:=by rfl)
  (j:((backTo pos (starEach [e] X.env)).all (λx=>!x.1)&&(backToKw pos (keywordEach [] X.env)).all (λx=>x.1.isSome)&&decide (([e]:List Expr).length+([]:List Keyword).length+(if ([]:List Keyword).isEmpty then 0 else 1)<30))=true:=by rfl)
  (f:(apos.endLine==pos.line)=true:=by rfl) (hplain:(backTo pos (starEach [] X.env)).any (·.1)=false:=by rfl) (k:swapsWith (.Call (.Attribute (.Name x p) "append" apos) [e] [] pos) none pos'.line X.env=pure false:=by rfl) :
  xt K E X (.Expr (.Call (.Attribute (.Name x p) "append" apos) [e] [] pos) pos') (v8 (J4 K i te)) (si i (qr fe)):=by
 subst q;exact⟨zm (MN PySem.F.plainAttrs_list PySem.F.slot_list_append PySem.F.type_list_append xX hv (sV m.pe xE n) d j f n hplain) k,Qm (λl r H h=>Fy h) m.me⟩
def wH i (hv:PE X (.Name x p) (qD i)) (d:Pm K E X b tb fb) (h:Pm K E X e te fe)
  (j:∀v,assign (.Subscript (.Name x p) b p2) X.env v=(do
   let ov <-holding [v] (eval (.Name x p) X.env)
   let iv <-holding [v,ov] (eval b X.env)
   standAt p2
   holding [v,ov,iv] (setItem ov iv v)
   release [v,ov,iv] []):=by intro _;rfl)
  (k:swapsWithSole [.Subscript (.Name x p) b p2] e pos.line X.env=pure false:=by rfl) (hw:swappedStores [.Subscript (.Name x p) b p2] e X.env=pure none:=by rfl)
  (f:(assignEach [.Subscript (.Name x p) b p2] X.env).map (·.2)=[assign (.Subscript (.Name x p) b p2) X.env]:=by rfl) :
  xt K E X (.Assign [.Subscript (.Name x p) b p2] e pos) (q8 te (Tw (qD i) tb Iq)) (yf i (qr fb) (qr fe)):=⟨Nc h.pe (SO hv d.pe Kz j) k hw f,Uc h.me d.me⟩
def Kg(h:Pm K E X e te fe)(d:swapsWith e none pos.line X.env=pure false:=by rfl):xt K E X (.Expr e pos) (v8 te) (vm (j9 fe)):=⟨zm h.pe d,NC h.me⟩
end
section
variable {P:Program}{w:World}{K:W.Frag}{mg:Str->Option Value}{base:Heap}{x:Str}{st:Stmt}{N ps:List Str}{k:Nat}{g:En->O}
def Wt(D:iX K mg x st)(S:lO N ps (i9 st))
  (d:∀(kV c j:Value) (l:Option Addr) (b i:Value) (us:List Value),us.length=ps.length->bindArgs (W.fnOf x x (l3 st) (kg st) (i9 st) .none kV c j l b i) ⟨us,[]⟩=pure (ps.zip us))
  (m:∀(f:Addr) (b:Value) (A:Around) (a:List Env) (s:Shared) (H:Hp) (E:XK),lB k (A.deeper (envOfC x (i9 st) s.heap.objs.size f b))->∃t,vL K E (ur A2 P w K mg base N x (i9 st) f b A a s H E).nox (kg st) t g) :
  oX P w K mg base x (k+1) (A0 K (mF ps.length N.length g)):=
 CD D S d (λe H Q E h=>FJ h) λf b A a s H e Q E hr h=>let ⟨t,hp⟩:=m f b A a s H E hr;⟨t,hp.ps,C2 hp.ms h⟩
def WT(D:iX K mg x st)(S:lO N ps (i9 st))
  (d:∀(kV c j:Value) (l:Option Addr) (b i:Value) (us:List Value),us.length=ps.length->bindArgs (W.fnOf x x (l3 st) (kg st) (i9 st) .none kV c j l b i) ⟨us,[]⟩=pure (ps.zip us))
  (m:∀(f:Addr) (b:Value) (A:Around) (a:List Env) (s:Shared) (H:Hp) (E:XK),lB k (A.deeper (envOfC x (i9 st) s.heap.objs.size f b))->∃t,vL K E (ur A2 P w K mg base N x (i9 st) f b A a s H E).nox (kg st) t g) :
  oX P w K mg base x (k+1) (Fi K (zw ps.length N.length g)):=
 CD D S d (λe H Q E h=>HS h) λf b A a s H e Q E hr h=>let ⟨t,hp⟩:=m f b A a s H E hr;⟨t,hp.ps,E3 hp.ms h⟩
end
end L3
namespace L3
open PySem L2 PySem.Spec PyProof.Rows
section
variable {K:W.Frag}{E:XK}{X:Cx}{a b c e o tg it:Expr}{es:List Expr}{ta tb tc te to:TE}{fa fb fc fe fo:Pe->M T}{tr:TA}{fr:Pe->M ba}{pos p p2 apos:Pos}
@[simp] noncomputable def kh(f:Pe->M ba):Pe->M T:=λd=>(f d).bind λg=>.ok (.lst g)
def jH(f:X.K=K:=by rfl):l6 X (.builtin "len") (λd H Q=>∃x n,d=[x]/\RN K x H n/\Q (.int n) H):=f▸N8
def Cv(h:X.calm=true)(g:X.K=K:=by rfl):l6 X (.builtin "sum") (λf H Q=>∃(p:Addr) (d:LI),f=[.ref p]/\nh K H p (d.map V.int)/\Q (.int d.sum) H):=g▸Kq h
def mj(g:X.calm=true)(f:X.K=K:=by rfl):l6 X (.builtin "all") (λd H Q=>∃(p:Addr) (bs:List Bool),d=[.ref p]/\nh K H p (bs.map V.bl)/\Q (.bl (bs.all id)) H):=f▸Ng g
def pI(g:X.calm=true)(f:X.K=K:=by rfl):l6 X (.builtin "any") (λd H Q=>∃p vs bs,d=[.ref p]/\(nh K H p vs\/pX K H p vs)/\pA vs=some bs/\Q (.bl (bs.any id)) H):=f▸J1 g
def j4(g:X.K=K:=by rfl):l6 X (.type "tuple") (λf H Q=>∃p d,f=[.ref p]/\((nh K H p d/\∀l,H l=none->Q (.ref l) (kU H l (.tup d)))\/(pX K H p d/\Q (.ref p) H))):=g▸A6
def mR(g:X.K=K:=by rfl):l6 X (.type "list") (λf H Q=>∃p d,f=[.ref p]/\(nh K H p d\/pX K H p d)/\∀l,H l=none->Q (.ref l) (kU H l (.lst d))):=g▸De
def J7(d:X.K=K:=by rfl):sD X (compareOp .NotIn) (WI K true):=d▸CQ
def Qw:T->Option Bool
 |.bl b=>some b
 |.int i=>some (i != 0)
 |_=>none
def tY:List T->Option (List Bool)
 |[]=>some []
 |v::vs=>(Qw v).bind λb=>(tY vs).bind λr=>some (b::r)
def Io{vs ts}(r:jr K F vs ts):pA vs=tY ts:=jr.ind (P:=λa b=>pA a=tY b) rfl (λv t vs ts h _ d=>by
 have e:DZ v=Qw t:=by cases h<;>rfl
 rw[pA,tY,d,e]) r
@[simp] theorem AS(d:LI):tY (d.map T.int)=some (d.map λn=>n != 0):=by
 induction d with
 |nil=>rfl
 |cons n d ih=>simp[tY,Qw,ih]
@[simp] theorem Uz ns:tY (ns.map T.bl)=some ns:=by
 induction ns with
 |nil=>rfl
 |cons n ns ih=>simp[tY,Qw,ih]
@[simp] noncomputable def uZ(ts:List T):M T:=match tY ts with
 |some bs=>.ok (.bl (bs.any id))
 |none=>.bad
@[simp] noncomputable def tN:List T->M T
 |[.lst ts]=>uZ ts
 |[.tup ts]=>uZ ts
 |_=>.bad
def KS ts:M.NoE (uZ ts):=λC n=>by unfold uZ;split<;>intro z<;>cases z
def QQ xs:M.NoE (tN xs):=λC n=>by unfold tN;split<;>first|exact KS _ C n|(intro z;cases z)
def vF:MC K (λf H Q=>∃p vs bs,f=[.ref p]/\(nh K H p vs\/pX K H p vs)/\pA vs=some bs/\Q (.bl (bs.any id)) H) tN:=⟨QQ,λF H vs f Q s r q=>by
 cases r with
 |nil=>exact q.elim
 |cons h t=>
  cases t with
  |cons _ _=>cases h<;>exact q.elim
  |nil=>
   cases h with
   |lst h r=>
    rename_i a f g;have d:(uZ g).res (kV K F H Q) (λ_ _=>False):=q;unfold uZ at d;cases e:tY g with
    |none=>rw[e]at d;exact d.elim
    |some bs=>rw[e]at d;exact⟨a,f,bs,rfl,.inl (nh.of (s _ _ h)),by rw[Io r];exact e,kV.now d s (.bl _)⟩
   |tup h r=>
    rename_i a f g;have d:(uZ g).res (kV K F H Q) (λ_ _=>False):=q;unfold uZ at d;cases e:tY g with
    |none=>rw[e]at d;exact d.elim
    |some bs=>rw[e]at d;exact⟨a,f,bs,rfl,.inr (pX.of (s _ _ h)),by rw[Io r];exact e,kV.now d s (.bl _)⟩
   |_=>exact q.elim⟩
noncomputable def DO:T->T->M T
 |.tup a,.int k=>if DH k=true/\a.length*k.toNat<=sizeLine then .ok (.tup (List.replicate k.toNat a).flatten) else .bad
 |_,_=>.bad
def Md x y:M.NoE (DO x y):=λC n=>by unfold DO;split<;>first|(split<;>intro z<;>cases z)|(intro z;cases z)
def Px:MR K KG DO:=⟨Md,λF H v w x y Q s j rb q=>by
 cases j with
 |tup h r=>
  cases rb with
  |int k=>
   rename_i a l f;have d:(if DH k=true/\f.length*k.toNat<=sizeLine then M.ok (T.tup (List.replicate k.toNat f).flatten) else M.bad).res (kV K F H Q) (λ_ _=>False):=q;by_cases g:DH k=true/\f.length*k.toNat<=sizeLine
   .rw[aQ g]at d;refine⟨a,k,l,rfl,rfl,s _ _ h,by have:=uG g.1;rw[U2]at this;rw[Wp];exact dQ (by decide) this.1,by have:=uG g.1;rw[U2]at this;rw[Wp];exact dR this.2 (by decide),by rw[r.length];exact g.2,λz=>?_,λz p i=>?_⟩
    .have:(List.replicate k.toNat f).flatten=f:=by
      rcases z with z|z
      .subst z;cases r;simp
      .subst z;simp
     rw[this]at d;exact kV.now d s (.tup h r)
    .exact d (.ref p) _ _ (.new s i) (.tup jb ((r.rep k.toNat).mono (Gr.new s i).ff))
   .rw[aR g]at d;exact d.elim
  |_=>exact q.elim
 |_=>exact q.elim⟩
@[simp] noncomputable def G5(fa fb:Pe->M T):Pe->M T:=iU DO fa fb
def HH(f:Pm K E X a ta fa)(d:Pm K E X b tb fb):Pm K E X (.BinOp a .Mult b pos) (Ac KG ta tb) (G5 fa fb):=zR P5 Px f d
noncomputable def qg(d:List T):List T:=(d.zipIdx).map λp=>T.tup [.int (p.2:Int),p.1]
def ML(K:W.Frag)(ta:TA):TI:=λd H R=>∃b,K8 K b ta d H R
@[simp] noncomputable def rZ(fa:Pe->M ba):Pe->M ba:=λf=>(fa f).bind λd=>match d with
 |[x]=>(seqT x).bind λg=>.ok (qg g)
 |_=>.bad
def Qg{b:Bool}(h:∀H,jI F H->yP K H b l xs)(f:jr K F xs ts):Bm K (WQ K b l) (qg ts) F where
 go:=λi H s w=>by
  have j:i<ts.length:=by simpa[qg] using w
  have d:xs[i]? = some (xs[i]'(by rw[f.length];exact j)):=ag _;exact⟨xs,_,h H s,d⟩
 stop:=λH s=>⟨xs,h H s,by simp[qg,f.length]⟩
 yld:=λi t z H x A m k e y=>by
  obtain⟨p,u,rfl,q,rfl,d⟩:=y;obtain⟨n,v,r⟩:=f.at_ (d xs (h H (m.trans k)));have:t=.tup [.int i,n]:=by unfold qg at e;rw[av,List.getElem?_zipIdx,v]at e;simp at e;exact e.symm
  rw[this];have g:=Gr.new (o:=.tup [.int i,u]) k q;exact⟨_,g,.tup jb (.cons (.int _) (.cons ((r.mono m).mono g.ff) .nil))⟩
noncomputable def GJ(b:Bool)(fa:Pe->M ba):Pe->M ba:=λg=>(fa g).bind λd=>match d with
 |[x]=>(seqB b x).bind λf=>.ok (qg f)
 |_=>.bad
def ET{b:Bool}(u:MA K E tr fr):MI K E (K8 K b tr) (GJ b fr):=λF H w v R s V q=>by
 refine u.run s V q λz y j l g i d=>?_;split at d
 .rename_i x;cases i with
  |cons a c=>
   cases c;cases f:seqB b x with
   |bad=>rw[f]at d;exact d.elim
   |er C n=>exact absurd f Dq
   |ok ts=>rw[f]at d;obtain⟨m,r,rfl,h,k⟩:=Dk a f;exact⟨m,rfl,⟨r,h _ g.fh⟩,d _ j l g (Qg h k)⟩
 .exact d.elim
def OV(h:MA K E tr fr):MI K E (ML K tr) (rZ fr):=λF H f d R s V q=>by
 unfold rZ at q;cases e:fr d with
 |bad=>rw[e]at q;exact q.elim
 |er C n=>rw[e]at q;exact⟨true,ET h F H f d R s V (by unfold GJ;rw[e];exact q)⟩
 |ok xs=>
  rw[e]at q;match xs,e,q with
  |[],_,q=>exact q.elim
  |[x],e,q=>refine⟨v9 x,ET h F H f d R s V ?_⟩;unfold GJ;rw[e];have g:((seqT x).bind λi=>M.ok (qg i)).res (kI K F H R) (kE E F H):=q;rw[G3 x]at g;exact g
  |_::_::_,_,q=>exact q.elim
def xg{x1}(g:X.mg "enumerate" = none)(d:Et K E X [a] tr fr)(j:X.K=K:=by rfl)(i:Gl X "enumerate" :=by rfl)(k:starEach [a] X.env=[(false,eval a X.env)]:=by rfl) :
  Og K E X (.Tuple elts x1 tpos) (.Call (.Name "enumerate" p) [a] [] pos) (ML K tr) (rZ fr):=by
 subst j;refine⟨λl s f H R I h=>?_,OV d.ma⟩;obtain⟨b,h⟩:=h;exact Nz i g d.pa k l s f H R I h
end
structure Bs(mg:Str->Option Value):Prop where
 abs:mg "abs" = none
 isinstance:mg "isinstance" = none
 int:mg "int" = none
 bool:mg "bool" = none
 len:mg "len" = none
 range:mg "range" = none
 tuple:mg "tuple" = none
 list:mg "list" = none
 str:mg "str" = none
 all:mg "all" = none
 any:mg "any" = none
 sum:mg "sum" = none
 zip:mg "zip" = none
 max:mg "max" = none
 min:mg "min" = none
 enumerate:mg "enumerate" = none
 reversed:mg "reversed" = none
 set:mg "set" = none
 dict:mg "dict" = none
 sorted:mg "sorted" = none
def mO:bootBuiltins "list" = some (.type "list"):=by decide +kernel
def Tf:bootBuiltins "max" = some (.builtin "max"):=by decide +kernel
def T6:bootBuiltins "min" = some (.builtin "min"):=by decide +kernel
end L3
namespace L3
open PySem L2
section
variable {α:Type}
theorem Cr enc f:∀(l:List α),(∀a∈l,k (enc a)=.ok (some (f a)))->ua k (l.map enc)=.ok (l.map f)
 |[],_=>rfl
 |a::l,h=>by rw[bK,ua,h a (by simp),M.bind_ok,Cr enc f l λb c=>h b (by simp[c])];rfl
theorem wA enc f p:∀(l:List α),(∀a∈l,k (enc a)=.ok (if p a then some (f a) else none))->ua k (l.map enc)=.ok ((l.filter p).map f)
 |[],_=>rfl
 |a::l,h=>by
  rw[bK,ua,h a (by simp),M.bind_ok,wA enc f p l λb d=>h b (by simp[d])];by_cases c:p a=true
  .simp[c]
  .simp[c]
theorem kj enc (P:Nat->En->Prop):∀(l:List α) (k:Nat) (ρ:En),P k ρ->
  (∀i a ρ,l[i]? = some a->P (k+i) ρ->∃d c,m (enc a) ρ=some d/\(g d=.nx c\/g d=.ct c)/\P (k+i+1) c)->∃ρ',kX m g (l.map enc) ρ=.nx ρ'/\P (k+l.length) ρ'
 |[],k,ρ,h,_=>⟨ρ,rfl,h⟩
 |a::l,k,ρ,h,st=>by
  obtain⟨d,c,p,f,q⟩:=st 0 a ρ rfl h;obtain⟨ρ',e,n⟩:=kj enc P l (k+1) c q λi b ρ j o=>by have:=st (i+1) b ρ (by simpa using j) (by rw[show k+(i+1)=k+1+i by lia];exact o);rw[show k+1+i+1=k+(i+1)+1 by lia];exact this
  refine⟨ρ',?_,by rw[ay,show k+(l.length+1)=k+1+l.length by lia];exact n⟩;rw[bK,kX,p];rcases f with f|f<;>(dsimp only;rw[f];exact e)
theorem uN enc (P:En->Prop):∀(l:List α) (ρ:En),P ρ->
  (∀a∈l,∀ρ,P ρ->∃d c,m (enc a) ρ=some d/\(g d=.nx c\/g d=.ct c)/\P c)->∃ρ',kX m g (l.map enc) ρ=.nx ρ'/\P ρ'
 |[],ρ,h,_=>⟨ρ,rfl,h⟩
 |a::l,ρ,h,st=>by obtain⟨d,c,n,f,o⟩:=st a (by simp) ρ h;obtain⟨ρ',e,j⟩:=uN enc P l c o λb i ρ k=>st b (by simp[i]) ρ k;refine⟨ρ',?_,j⟩;rw[bK,kX,n];rcases f with f|f<;>(dsimp only;rw[f];exact e)
theorem tm(P:En->Prop)(b:En->Nat)(R:En->Prop)(st:∀ρ,P ρ->(c (vw ρ)=.ok false/\R ρ)\/(c (vw ρ)=.ok true/\∃a,(g ρ=.nx a\/g ρ=.ct a)/\P a/\b a<b ρ)) :
  ∀n ρ,P ρ->b ρ<n->∃ρ',pD c g n ρ=.nx ρ'/\R ρ'
 |0,ρ,_,h=>absurd h (dX _)
 |n+1,ρ,hP,hn=>by
  rcases st ρ hP with⟨e,r⟩|⟨e,a,d,f,i⟩
  .exact⟨ρ,by rw[pD,e];rfl,r⟩
  .obtain⟨ρ',j,r⟩:=tm P b R st n a f (aE i (Nat.sub_le_of_le_add hn));refine⟨ρ',?_,r⟩;rw[pD,e,O.of_ok,aQ rfl];rcases d with d|d<;>(rw[d];exact j)
end
def zb{c:Type}(l:List c) enc f (j:fi ρ=.ok (l.map enc)) (n:l.length<sizeLine)
  (e:∀a∈l,∃b,m (enc a) (rD ix ρ)=some b/\ft b=.ok true/\fe b=.ok (f a)):lH ix fi m ft fe ρ=.ok (l.map f):=by
 have h:=Cr (k:=wc m ft fe (rD ix ρ)) enc f l λa g=>by obtain⟨b,i,o,d⟩:=e a g;unfold wc;rw[i];dsimp only;rw[o,M.bind_ok,aQ rfl,d];rfl
 unfold lH;rw[j,M.bind_ok,aw,aQ n,h];rfl
theorem Gm{c:Type}(l:List c) enc f p (n:fi ρ=.ok (l.map enc)) (o:l.length<sizeLine)
  (g:∀a∈l,∃b,m (enc a) (rD ix ρ)=some b/\ft b=.ok (p a)/\(p a=true->fe b=.ok (f a))):lH ix fi m ft fe ρ=.ok ((l.filter p).map f):=by
 have h:=wA (k:=wc m ft fe (rD ix ρ)) enc f p l λa i=>by
  obtain⟨b,j,q,e⟩:=g a i;unfold wc;rw[j];dsimp only;rw[q,M.bind_ok];cases d:p a with
  |true=>rw[aQ rfl,aQ rfl,e d];rfl
  |false=>rw[aR aH,aR aH]
 unfold lH;rw[n,M.bind_ok,aw,aQ o,h];rfl
def j5{c:Type}(l:List c) enc f (e:fi ρ=.ok (l.map enc)) (g:l.length<sizeLine)
  (d:∀a∈l,∃b,m (enc a) (rD ix ρ)=some b/\ft b=.ok true/\fe b=.ok (f a)) (hr:l.map f=ts):lH ix fi m ft fe ρ=.ok ts:=by rw[<-hr];exact zb l enc f e g d
def sZ{c:Type}(l:List c) enc f p (e:fi ρ=.ok (l.map enc)) (g:l.length<sizeLine)
  (d:∀a∈l,∃b,m (enc a) (rD ix ρ)=some b/\ft b=.ok (p a)/\(p a=true->fe b=.ok (f a))) (hr:(l.filter p).map f=ts):lH ix fi m ft fe ρ=.ok ts:=by rw[<-hr];exact Gm l enc f p e g d
def VU lo n:DE lo n=(List.range n).map λ(i:Nat)=>T.int (lo+(i:Int)):=rfl
noncomputable def tI(a:LI):T:=.tup (a.map T.int)
def tL(a:LI):T:=.lst (a.map T.int)
def fr(p:Int×Int):T:=.tup [.int p.1,.int p.2]
noncomputable def tS(s:List (Int×Int)):T:=.tup (s.map fr)
def Dh(l:List α)(i:Int)(c:0<=i)(d:i<l.length):∃a,rG l i=some a/\a∈l:=by
 unfold rG zj;rw[aQ c,aQ d];have b:i.toNat<l.length:=by omega
 exact⟨l[i.toNat],by simp[b],aV _⟩
def jx(h:PySem.IntMulOk i j):kP (.int i) (.int j)=.ok (.int (i*j)):=by simp[kP,oZ,h]
def mY(h:j≠0):qj (.int i) (.int j)=.ok (.int (i.fdiv j)):=by simp[qj,oZ,h]
def Ep(h:j≠0)(_:Builtin.divisionGoesByPylong i j=false):qj (.int i) (.int j)=.ok (.int (i.fdiv j)):=mY h
def sL(h:j≠0):zQ (.int i) (.int j)=.ok (.int (i.fmod j)):=by simp[zQ,oZ,h]
@[simp] theorem jY i j:jU (.int i) (.int j)=.ok (.int (i+j)):=rfl
@[simp] theorem nT i j:tO (.int i) (.int j)=.ok (.int (i-j)):=rfl
@[simp] theorem uB i j:GY (.int i) (.int j)=.ok (.bl (decide (i<j))):=rfl
@[simp] theorem Dc i j:Fv (.int i) (.int j)=.ok (.bl (decide (i<=j))):=rfl
@[simp] theorem C0 i j:Iy (.int i) (.int j)=.ok (.bl (decide (j<i))):=rfl
@[simp] theorem wg i j:QX (.int i) (.int j)=.ok (.bl (decide (j<=i))):=rfl
@[simp] theorem jW i j:ji false (.int i) (.int j)=.ok (.bl (i==j)):=by simp[ji,vM,sX]
@[simp] theorem md i j:ji true (.int i) (.int j)=.ok (.bl (!(i==j))):=by simp[ji,vM,sX]
def xV(h:i.natAbs<2 ^ 64):PySem.IntMulOk i j:=IntMulOk.of_left (PyProof.Rows.intBits_le h)
def GW(h:j.natAbs<2 ^ 64):PySem.IntMulOk i j:=PySem.IntMulOk.of_right (PyProof.Rows.intBits_le h)
def Bn(n:Nat)(x:Int):Prop:=x.natAbs<2 ^ n
def Bn.mono(h:Bn m x)(a:m<=n):Bn n x:=aE h (dY (by decide) a)
def Bn.mul(h:Bn m x)(a:Bn n y):Bn (m+n) (x*y):=by unfold Bn at *;rw[aY,dZ];exact Nat.mul_lt_mul'' h a
def Bn.add(h:Bn m x)(c:Bn n y):Bn (max m n+1) (x+y):=by have a:Bn (max m n) x:=h.mono (d6 _ _);have b:Bn (max m n) y:=c.mono (Nat.le_max_right _ _);unfold Bn at *;rw[d7];have:=d8 x y;lia
def Bn.neg(h:Bn m x):Bn m (-x):=by unfold Bn at *;rw[d9];exact h
def Bn.sub(h:Bn m x)(a:Bn n y):Bn (max m n+1) (x-y):=by rw[Int.sub_eq_add_neg];exact h.add a.neg
def Bn.ok(h:Bn m x)(c:Bn n y)(b:m<=2 ^ 20)(a:n<=2 ^ 20):PySem.IntMulOk x y:=IntMulOk.of_bits (aN (PyProof.Rows.intBits_le h) b) (aN (PyProof.Rows.intBits_le c) a)
def Bn.noPy(h:Bn n y)(a:n<=8000):Builtin.divisionGoesByPylong x y=false:=Cu.noPy (PyProof.Rows.intBits_le h) a
section
variable {a b g:En->O}{ρ ρ':En}{r:O}{fc:Pe->M Bool}{f:Pe->M T}{ff:Pe->M ba}{t:T}{ts:List T}{k n i:Nat}
def iR(d:a ρ=.nx ρ')(c:b ρ'=r):iZ a b ρ=r:=by unfold iZ;rw[d];exact c
def lE(c:a ρ=.rt t)(hr:.rt t=r):iZ a b ρ=r:=by unfold iZ;rw[c];exact hr
def jR(h:fc (vw ρ)=.ok true)(c:a ρ=r):mB fc a b ρ=r:=by unfold mB;rw[h];exact c
def jw(h:fc (vw ρ)=.ok false)(c:b ρ=r):mB fc a b ρ=r:=by unfold mB;rw[h];exact c
def iY(h:f (qH ρ)=.ok t)(hr:ρ'=ρ.set i (some (.p t))):setO i (j9 f) ρ=.nx ρ':=by unfold setO j9;rw[h,hr];rfl
def Da(h:f (vw ρ)=.ok t)(c:lf t=true)(hr:ρ'=ρ.set i (some (.p t))):setO i (qr f) ρ=.nx ρ':=by unfold setO qr;rw[h,hr];simp[c]
def pH(h:ff (qH ρ)=.ok ts)(hr:ρ'=ρ.set i (some (.o ts))):qC i (sW ff) ρ=.nx ρ':=by unfold qC sW;rw[h,hr];rfl
def Ox(h:ff (vw ρ)=.ok ts)(c:Fu ts=true)(hr:ρ'=ρ.set i (some (.o ts))):qC i (yG ff) ρ=.nx ρ':=by unfold qC yG;rw[h,hr];simp[c]
def xx(c:ρ[i]? = some (some (.o us)))(h:f (qH ρ)=.ok t)(d:us.length<sizeLine)(hr:ρ'=ρ.set i (some (.o (us++[t])))):si i (j9 f) ρ=.nx ρ':=by unfold si j9 pS;rw[c,h,hr];simp[d]
def OF(c:ρ[i]? = some (some (.o us)))(h:f (vw ρ)=.ok t)(e:lf t=true)(d:us.length<sizeLine)(hr:ρ'=ρ.set i (some (.o (us++[t])))):si i (qr f) ρ=.nx ρ':=by unfold si qr pS;rw[c,h,hr];simp[d,e]
def zy(e:ρ[i]? = some (some (.o us)))(h:f (vw ρ)=.ok t)(l:lf t=true)(d:fk (vw ρ)=.ok (.int j))(c:zj us.length j=some m)(hr:ρ'=ρ.set i (some (.o (us.set m t)))):yf i (qr fk) (qr f) ρ=.nx ρ':=by unfold yf qr pS;rw[e,h,d,hr];simp[l,c]
def i7(h:f (vw ρ)=.ok t):jy f ρ=.rt t:=by unfold jy;rw[h];rfl
def pL(h:ff (vw ρ)=.ok ts):rh ff ρ=.rf ts:=by unfold rh;rw[h];rfl
def sJ(h:f (qH ρ)=.ok t):vm (j9 f) ρ=.nx ρ:=by unfold vm j9;rw[h];rfl
def ku(h:fi (qH ρ)=.ok its)(c:kX m g its ρ=r):nH fi m g ρ=r:=by unfold nH;rw[h];exact c
def uM(h:fi (vw ρ)=.ok its)(c:kX m g its ρ=r):yD fi m g ρ=r:=by unfold yD;rw[h];exact c
def jh(c:ts.length=k)(h:g (jG n ts)=.rt t):mF k n g ts=.ok t:=by unfold mF;rw[aQ c,h];rfl
def NW(c:ts.length=k)(h:g (jG n ts)=.nx ρ):mF k n g ts=.ok .non:=by unfold mF;rw[aQ c,h];rfl
def pF(c:ts.length=k)(h:g (jG n ts)=.rf us):zw k n g ts=.ok us:=by unfold zw;rw[aQ c,h];rfl
end
def K5 n:DE 0 n=(List.range n).map λ(i:Nat)=>T.int (i:Int):=by simp[DE]
theorem uh{d:Type} f:∀(l:List d),(∀a∈l,vM (f a)=true)->xi (l.map f)=true
 |[],_=>rfl
 |a::l,h=>by rw[bK,xi,h a (by simp),uh f l λb c=>h b (by simp[c])];rfl
theorem uy{c:Type} f n:∀(l:List c),(∀a∈l,HD (f a)<=n)->ym (l.map f)<=n
 |[],_=>bN _
 |a::l,h=>by rw[bK,Ka];have g:=h a (by simp);have e:=uy f n l λb d=>h b (by simp[d]);lia
@[simp] theorem UF(a:LI):xi (a.map T.int)=true:=uh _ _ λ_ _=>rfl
def xQ(a:LI):ym (a.map T.int)<=0:=uy _ _ _ λ_ _=>aK _
@[simp] theorem S7 ns:vM (tI ns)=true:=by simp[tI,vM]
def RY ns:HD (tI ns)<=1:=by unfold tI;rw[Qv];have:=xQ ns;exact bJ this
@[simp] theorem UL(l:LL):xi (l.map tI)=true:=uh _ _ λ_ _=>S7 _
def wI(l:LL):ym (l.map tI)<=1:=uy _ _ _ λ_ _=>RY _
@[simp] theorem K0 l:AL l []=l.isEmpty:=by cases l<;>rfl
theorem E6{d:Type} f (c:∀a b,IB (f a) (f b)=true↔a=b):∀(l m:List d),AL (l.map f) (m.map f)=true↔l=m
 |[],[]=>by simp[xI]
 |[],b::m=>⟨λz=>(nomatch (show false=true from z)),λz=>nomatch z⟩
 |a::l,[]=>by simp[xI]
 |a::l,b::m=>by rw[bK,bK,xI,bZ,c a b,E6 f c l m];simp
def Bw(l m:LI):AL (l.map T.int) (m.map T.int)=decide (l=m):=by
 have h:=E6 T.int (λa b=>by simp[sX]) l m;by_cases e:l=m
 .rw[aC e];exact h.mpr e
 .rw[aB e];cases c:AL (l.map T.int) (m.map T.int) with
  |false=>rfl
  |true=>exact absurd (h.mp c) e
def KY neg (l m:LI):ji neg (.tup (l.map T.int)) (.tup (m.map T.int))=.ok (.bl (if neg then !decide (l=m) else decide (l=m))):=by have h:=xQ l;unfold ji;rw[aQ (by simp[vM];exact aN h (dM _ _)),sX,Bw]
def Sj neg (l m:LI):ji neg (.lst (l.map T.int)) (.lst (m.map T.int))=.ok (.bl (if neg then !decide (l=m) else decide (l=m))):=by have h:=xQ l;unfold ji;rw[aQ (by simp[vM];exact aN h (dM _ _)),IA,Bw]
def uA neg ts (h:xi ts=true) (a:ym ts<=90):ji neg (.lst ts) (.lst [])=.ok (.bl (if neg then !ts.isEmpty else ts.isEmpty)):=by unfold ji;rw[aQ (by simp[vM,h,xi];exact aN a (dM _ _)),IA,K0]
def qJ{a:Type} f (l:List a):qg (l.map f)=l.zipIdx.map λp=>T.tup [.int (p.2:Int),f p.1]:=by unfold qg;rw[List.zipIdx_map,aI];rfl
def LV{a b:Type} f (g:b->T) (l:List a) m:Dm (l.map f) (m.map g)=(l.zip m).map λp=>T.tup [f p.1,g p.2]:=by unfold Dm;rw[List.zip_map,aI];rfl
theorem C7{d:Type} f:∀(l:List d),(∀a∈l,lf (f a)=true)->Fu (l.map f)=true
 |[],_=>rfl
 |a::l,h=>by rw[bK,Fu,h a (by simp),C7 f l λb c=>h b (by simp[c])];rfl
@[simp] theorem NG(a:LI):Fu (a.map T.int)=true:=C7 _ _ λ_ _=>rfl
@[simp] theorem NF ns:lf (tI ns)=true:=by simp[tI]
@[simp] theorem QL(l:LL):Fu (l.map tI)=true:=C7 _ _ λ_ _=>NF _
section
variable {α:Type}{fe fd fl:Pe->M T}{ρ:Pe}{ts:List T}{d k:Nat}
def BU(l:List α)(d:Nat):pC l none (some (d:Int))=l.take d:=by
 unfold pC;rw[HT.sIx_none,HT.sIx_nat,eg,cY];by_cases h:d<=l.length
 .rw[ez h]
 .rw[Nat.min_eq_right (bg (Nat.lt_of_not_le h)),cP (aK _),cP (by lia)]
def uK(l:List α)(d:Nat):pC l (some (d:Int)) none=l.drop d:=by
 unfold pC;rw[HT.sIx_none,HT.sIx_nat];by_cases h:d<=l.length
 .rw[ez h,cP (by simp)]
 .rw[Nat.min_eq_right (bg (Nat.lt_of_not_le h)),eA (aK _),eA (by lia),List.take_nil]
def SE n d:HT.sIx n d (some (-1))=n-1:=by unfold HT.sIx;dsimp only;rw[aQ (by decide)];lia
def Jz(l:List α):pC l none (some (-1))=l.dropLast:=by unfold pC;rw[HT.sIx_none,SE,eg,cY,List.dropLast_eq_take]
def xb(h:fe ρ=.ok (.tup ts))(a:fd ρ=.ok (.int (d:Int)))(b:d<=ts.length):kM fe (λ_=>.ok none) (jL fd) ρ=.ok (.tup (ts.take d)):=by simp only[kM,jL,h,a,M.bind_ok,BU]
def Bx(h:fe ρ=.ok (.lst ts))(a:fd ρ=.ok (.int (d:Int))):kM fe (λ_=>.ok none) (jL fd) ρ=.ok (.lst (ts.take d)):=by simp only[kM,jL,h,a,M.bind_ok,BU]
noncomputable abbrev ab:=cM (.int 1)
def zW(h:fe ρ=.ok (.tup ts))(a:ts≠[]):kM fe (λ_=>.ok none) (jL (pW (λi=>.int (-i)) ab)) ρ=.ok (.tup ts.dropLast):=by have e:jL (pW (λi=>.int (-i)) ab) ρ=.ok (some (-1)):=rfl;simp only[kM,h,e,M.bind_ok,Jz]
def ES(h:fe ρ=.ok (.tup ts))(a:fd ρ=.ok (.int (d:Int)))(c:0<d)(b:ts≠[]):kM fe (jL fd) (λ_=>.ok none) ρ=.ok (.tup (ts.drop d)):=by simp only[kM,jL,h,a,M.bind_ok,uK]
def Jb(h:fe ρ=.ok (.lst ts))(a:fd ρ=.ok (.int (d:Int))):kM fe (jL fd) (λ_=>.ok none) ρ=.ok (.lst (ts.drop d)):=by simp only[kM,jL,h,a,M.bind_ok,uK]
def mP(h:lc ρ=.ok ts)(hr:o [.lst ts]=r):lC o (iL (kh lc) iQ) ρ=r:=by simp only[lC,iL,iQ,kh,h,M.bind_ok];exact hr
def nV(h:f ρ=.ok t)(hr:o [t]=r):lC o (iL f iQ) ρ=r:=by simp only[lC,iL,iQ,h,M.bind_ok];exact hr
def j3(h:lc ρ=.ok ts):kh lc ρ=.ok (.lst ts):=by simp only[kh,h,M.bind_ok]
def Ae(h:fe ρ=.ok (.tup ts)):jP fe ρ=.ok ts:=by simp only[jP,h,M.bind_ok]
def wG(h:fe ρ=.ok (.lst ts)):jP fe ρ=.ok ts:=by simp only[jP,h,M.bind_ok]
def i6(h:fe ρ=.ok (.bl b)):jE fe ρ=.ok b:=by simp only[jE,h,M.bind_ok]
def og(h:fc ρ=.ok b)(hr:(!b)=r):L3.lY fc ρ=.ok r:=by simp only[L3.lY,h,M.bind_ok,hr]
def iP(b:fa ρ=.ok x)(a:fb ρ=.ok y)(hr:o x y=r):iU o fa fb ρ=r:=by simp only[iU,b,a,M.bind_ok];exact hr
def nU(h:f ρ=.ok x)(hr:F [x]=.ok t):iV (iL f iQ) F ρ=.ok t:=by simp only[iV,iL,iQ,h,hr,M.bind_ok];rfl
def jv(h:f ρ=.ok x)(a:g ρ=.ok y)(hr:F [x,y]=.ok t):iV (iL f (iL g iQ)) F ρ=.ok t:=by simp only[iV,iL,iQ,h,a,hr,M.bind_ok];rfl
def mv{f g k:Pe->M T}(h:f ρ=.ok x)(b:g ρ=.ok y)(a:k ρ=.ok z)(hr:F [x,y,z]=.ok t):iV (iL f (iL g (iL k iQ))) F ρ=.ok t:=by simp only[iV,iL,iQ,h,b,a,hr,M.bind_ok];rfl
def HU{f g k l:Pe->M T}(h:f ρ=.ok x)(c:g ρ=.ok y)(b:k ρ=.ok z)(a:l ρ=.ok u)(hr:F [x,y,z,u]=.ok t):iV (iL f (iL g (iL k (iL l iQ)))) F ρ=.ok t:=by simp only[iV,iL,iQ,h,c,b,a,hr,M.bind_ok];rfl
end
section
variable {ρ:Pe}{ts:List T}{F:List T->M ba}{f g k l:Pe->M T}{x y z u:T}
def vG(h:f ρ=.ok x)(hr:F [x]=.ok ts):ke (iL f iQ) F ρ=.ok ts:=by simp only[ke,iL,iQ,h,hr,M.bind_ok];rfl
def F7(h:f ρ=.ok x)(a:g ρ=.ok y)(hr:F [x,y]=.ok ts):ke (iL f (iL g iQ)) F ρ=.ok ts:=by simp only[ke,iL,iQ,h,a,hr,M.bind_ok];rfl
def Gh(h:f ρ=.ok x)(b:g ρ=.ok y)(a:k ρ=.ok z)(hr:F [x,y,z]=.ok ts):ke (iL f (iL g (iL k iQ))) F ρ=.ok ts:=by simp only[ke,iL,iQ,h,b,a,hr,M.bind_ok];rfl
def Nv(h:f ρ=.ok x)(c:g ρ=.ok y)(b:k ρ=.ok z)(a:l ρ=.ok u)(hr:F [x,y,z,u]=.ok ts):ke (iL f (iL g (iL k (iL l iQ)))) F ρ=.ok ts:=by simp only[ke,iL,iQ,h,c,b,a,hr,M.bind_ok];rfl
end
def nG{a b:Type}{l:List a}{m:List b}{f:a->T}{g:b->T}(e:fa ρ=.ok x)(h:seqT x=.ok (l.map f))(c:fb ρ=.ok y)(d:seqT y=.ok (m.map g)) :
  nF (iL fa (iL fb iQ)) ρ=.ok ((l.zip m).map λp=>T.tup [f p.1,g p.2]):=by
 rw[<-LV];simp only[nF,iL,iQ,e,c,M.bind_ok,h,d]
end L3
namespace L3
open PySem L2 PySem.Spec PyProof.Rows
section
variable {K:W.Frag}{E:XK}{X:Cx}{a b c e o tg it:Expr}{es:List Expr}{ta tb tc te to:TE}{fa fb fc fe fo:Pe->M T}{tr:TA}{fr:Pe->M ba}{pos p p2 apos:Pos}
def GA:LI->Int
 |[]=>0
 |a::l=>l.foldl min a
def xu(l:LI):∀a:Int,(l.foldl min a=a\/l.foldl min a∈l)/\l.foldl min a<=a/\∀b∈l,l.foldl min a<=b:=by
 induction l with
 |nil=>intro a;exact⟨.inl rfl,eB _,λb d=>nomatch d⟩
 |cons x l ih=>
  intro a;obtain⟨g,i,f⟩:=ih (min a x);rw[cu];refine⟨?_,by lia,λb d=>?_⟩
  .rcases g with h|h
   .by_cases j:a<=x
    .left;lia
    .right;rw[h,show min a x=x by lia];simp
   .right;simp[h]
  .rcases aF.mp d with rfl|d
   .omega
   .exact f b d
def Ey(h:l≠[]):GA l∈l:=by
 cases l with
 |nil=>exact absurd rfl h
 |cons a l=>
  rcases (xu l a).1 with e|e
  .show l.foldl min a∈a::l;rw[e];simp
  .exact bx _ e
def G8{b:Int}(h:b∈l):GA l<=b:=by
 cases l with
 |nil=>exact nomatch h
 |cons a l=>
  rcases aF.mp h with rfl|h
  .exact (xu l b).2.1
  .exact (xu l a).2.2 b h
@[simp] noncomputable def Ce:List T->M T
 |[.lst ts]=>match kq ts with
  |some (n::ns)=>.ok (.int (GA (n::ns)))
  |_=>.bad
 |_=>.bad
def Nw xs:M.NoE (Ce xs):=λC n=>by unfold Ce;split<;>first|(intro z;cases z;done)|(split<;>intro z<;>cases z)
def FD(h:X.calm=true)(g:X.K=K:=by rfl):l6 X (.builtin "min") (λf H Q=>∃p d,f=[.ref p]/\nh K H p (d.map V.int)/\d≠[]/\∀m∈d,(∀a∈d,m<=a)->Q (.int m) H):=g▸L2.J8 h
def Ou:MC K (λi H Q=>∃p d,i=[.ref p]/\nh K H p (d.map V.int)/\d≠[]/\∀m∈d,(∀a∈d,m<=a)->Q (.int m) H) Ce:=⟨Nw,λF H v i Q s r q=>by
 cases r with
 |nil=>exact q.elim
 |cons h t=>
  cases t with
  |cons _ _=>cases h<;>exact q.elim
  |nil=>
   cases h with
   |lst h r=>
    rename_i a i j;have f:(match kq j with|some (n::d)=>M.ok (T.int (GA (n::d)))|_=>M.bad).res (kV K F H Q) (λ_ _=>False):=q;cases e:kq j with
    |none=>rw[e]at f;exact f.elim
    |some d=>
     cases d with
     |nil=>rw[e]at f;exact f.elim
     |cons n d=>
      rw[e]at f;rw[mX e]at r;have:=r.ints;subst this;refine⟨a,n::d,rfl,nh.of (s _ _ h),by simp,λm u g=>?_⟩;have:m=GA (n::d):=by have l:=g _ (Ey (by simp));have k:=G8 u;exact Int.le_antisymm l k
      rw[this];exact kV.now f s (.int _)
   |_=>exact q.elim⟩
end
section
variable {K:W.Frag}{E:XK}{X:Cx}{F0:Fz}{H0 F H:Hp}{σ:L2.St}{ρ:En}
def Sr.freeze(r:Sr K F0 H0 F H σ ρ)(e:ρ[j]? = some (some (.o ts))):∃R,jI F R/\Sr K F0 H0 R H σ (ρ.set j (some (.p (.lst ts)))):=by
 obtain⟨n,Q,P⟩:=r.ov;obtain⟨a,b,c,S,d,z⟩:=Q j ts e;have s:jI F (kU F (n j) (.lst S)):=mK b;refine⟨kU F (n j) (.lst S),s,⟨r.gr.ff.trans s,λp u q=>?_,r.gr.hh,λp l=>?_⟩,by simp[r.len],λi t q=>?_,⟨n,λi A q=>?_,λi k A D q q' I=>?_⟩,λU he=>?_,λi l' m C q=>?_,(r.dv.heap s λp xs l fp=>⟨by rw[ja (λz=>by rw[z,d]at l;cases l)];exact fp,l⟩).setR λ_ z=>nomatch z⟩
 .by_cases l:p=n j
  .subst l;rw[jb]at q;cases q;exact d
  .rw[ja l]at q;exact r.gr.fh p u q
 .by_cases Y:p=n j
  .subst Y;exact .inr (.inl c)
  .rw[ja Y]at l;exact r.gr.nw p l
 .rcases jj q with⟨rfl,g⟩|⟨B,g⟩
  .cases g;exact⟨_,a,.lst jb (z.mono s)⟩
  .obtain⟨v,x,y⟩:=r.pv i t g;exact⟨v,x,y.mono s⟩
 .rcases jj q with⟨rfl,g⟩|⟨B,g⟩
  .cases g
  .obtain⟨a',b',Z,m,d',z'⟩:=Q i A g;exact⟨a',by rw[ja (P i j A ts g e B)];exact b',Z,m,d',z'.mono s⟩
 .rcases jj q with⟨rfl,g⟩|⟨B,g⟩
  .cases g
  .rcases jj q' with⟨rfl,N⟩|⟨hk,N⟩
   .cases N
   .exact P i k A D g N I
 .have L:=r.lv U he;have J:U.2.1≠n j:=λw=>L.d j ts e (by rw[w];exact a);refine⟨L.h,by rw[ja J];exact L.f,L.z,λi A q=>?_⟩;rcases jj q with⟨rfl,g⟩|⟨B,g⟩
  .cases g
  .exact L.d i A g
 .rcases jj q with⟨rfl,g⟩|⟨B,g⟩
  .cases g
  .exact r.sl i l' m C g
@[simp] noncomputable def UC(j:Nat)(g:En->O):En->O:=λρ=>match ρ[j]? with
 |some (some (.o ts))=>g (ρ.set j (some (.p (.lst ts))))
 |_=>.bad
def Vu j (h:MS K E t g):MS K E t (UC j g):=λF0 H0 F H σ ρ D r q=>by
 unfold UC at q;split at q
 .rename_i c e;obtain⟨b,s,a⟩:=r.freeze e;exact h F0 H0 b H σ _ D a (q.go s)
 .exact q.elim
def T5 j (h:xt K E X s t g):xt K E X s t (UC j g):=⟨h.ps,Vu j h.ms⟩
def VO(e:ρ[j]? = some (some (.o ts)))(h:g (ρ.set j (some (.p (.lst ts))))=r):UC j g ρ=r:=by unfold UC;rw[e];exact h
end
def MJ(K:W.Frag):Sp:=λd H Q _=>∃(a:Addr) (b:LI),d=[.ref a]/\nh K H a (b.map V.int)/\b.length<=63/\(∀z∈b,Builtin.Int.intBits z<=2 ^ 20)/\∀c,Q (.bl true) c
def NV{K:W.Frag}(h:∀b:LI,b.length<=63->(∀z∈b,Builtin.Int.intBits z<=2 ^ 20)->F [.scr b]=.ok (.bl true)) vs H Q E (z:MJ K vs H Q E):A0 K F vs H Q E:=by obtain⟨a,b,rfl,c,e,d,f⟩:=z;refine⟨[.scr b],H,.refl _,.cons (.scr c) .nil,?_⟩;rw[h b e d];intro v j i g r;cases r;exact f _
def WV{K:W.Frag}{st:Stmt}(F:Of K x x st f fd)(S:lO N ps (i9 st))
  (d:∀(f:Addr) (b:Value) (A:Around) (a:List Env) (s:Shared) (H:Hp) (E:XK),lB k (A.deeper (envOfC x (i9 st) s.heap.objs.size f b))->∃t,vL K E (ur A2 P w K mg base N x (i9 st) f b A a s H E).nox (kg st) t g) :
  qP P w K mg base A2 (k+1) f fd ps (A0 K (mF ps.length N.length g)):=
 F.ok S (λc H Q E h=>FJ h) λb A a s H c Q E hr h=>let ⟨t,hp⟩:=d f b A a s H E hr;⟨t,hp.ps,C2 hp.ms h⟩
def V5{l:W.OpenLaw}{q:Program}{k:Nat}{x:Str}{c:List Str}{XP:(Str->Option Value)->Heap->Prop}{i:World->Heap->Prop}{d:DefRec}{K:Params->W.Frag}(n:l.most=some 63)(hr:lB k callerA)(g:d.params.defaults=[])(y:PyProof.Rows.importsNone q=true)(o:l.prog.given.tree=none)
  (p:∀(w:World) (h:Heap),i w h->(K w.params).In h)
  (F:∀(w:World) (e:Str->Option Value) (fa:Addr) (h:Heap),(K w.params).In h->h.Ns mainGlobals e->e d.name=some (.ref fa)->
   ∃fd:FuncData,(∀(s:Shared) (u:Value),BindsTo s fd ⟨[u],[]⟩ [(x,u)])/\∀b:Heap,(K w.params).In b->b.Ns mainGlobals e->qP l.prog w (K w.params) e b A2 k fa fd [x] (MJ (K w.params))) :
  W.WalkO q c XP i l.row.toRowW d [] (λf vs=>PySem.call f vs):=
 L2.Jw n (by decide) g hr y o p F (λ_ _ a v r j _ m=>⟨a,v,rfl,m,r,j,λ_=>rfl⟩) λ_ _ _ _ z=>z
end L3
namespace L3
open PySem L2 PySem.Spec PyProof.Rows
section
variable {K:W.Frag}{E:XK}{t:TE}{f:Pe->M T}
def kO(K:W.Frag)(F H:Hp)(x:Addr)(Q:VK)(t:T):Prop:=∀b c,jI F b->jI b c->(∀a o,a≠x->H a=some o->Kf o (c a))->(∀a,b a≠none->F a≠none\/H a=none\/a=x\/∃d,H a=some (.tup d))->mG K b (.ref x) t->Q .non c
noncomputable def G4(K:W.Frag)(C:Addr)(d:List T->M T):Sp:=λe H Q _=>∃x g c b a,e=.ref x::c/\H x=some (.ins C g [])/\a x=none/\jI a H/\jr K a c b/\(d b).noEr.res (kO K a H x Q) (λ_ _=>False)
def Mi{fr:Pe->M ba}(X:MA K E tr fr):ME K E (Hz C (G4 K C Fn) [] E' tr) (iV fr Fn):=λF H σ Z Q s V q=>by
 refine X.run s V q λD U N A g I i=>?_;intro x m l v B;have w:kU A m (.own x) x=none:=by rw[ja (λz=>B z.symm)];exact l
 have j:jI A (kU (kU A m (.own x)) x (.ins C m [])):=(qE v).trans (qE w);refine⟨x,m,U,D,N,by rw[bO],jb,jF g.fh l,g.fh.trans j,I,?_⟩;cases e:Fn D with
 |bad=>rw[e]at i;exact i.elim
 |er C n=>rw[e]at i;exact i.elim
 |ok t=>
  rw[e]at i;intro R S a b c d r;refine⟨rfl,i (.ref x) R S ⟨g.ff.trans a,b,λp o h=>?_,λp P=>?_⟩ r⟩
  .have J:=g.hh p o h;have u:p≠x:=AJ J l;exact Rw (g.hh.trans j p o h) λL e=>c p L u e
  .rcases d p P with z|z|z|⟨Y,z⟩
   .exact g.nw p z
   .exact .inr (.inl (jF g.hh (jF j z)))
   .rw[z];exact .inr (.inl (jF g.hh l))
   .cases y:H p with
    |none=>exact .inr (.inl rfl)
    |some o=>exact .inr (.inr ⟨Y,by have k:=g.hh.trans j p o y;rw[z]at k;rw[Fe k λ_ _ y=>nomatch y]⟩)
noncomputable def Ck(C:Addr)(n:Nat)(e h:Str)(d g:Pe->M T):List T->M T:=λc=>if c.length=n then (d (none::c.map some)).bind λa=>(g (none::c.map some)).bind λb=>.ok (.obj C [(e,a),(h,b)]) else .bad
structure WE(K:W.Frag)(E:XK)(X:Cx)(body:List Stmt)(f1 f2:Str)(g1 g2:Pe->M T):Prop where
 ex:∃(t1 t2:TE),EO X body (Qr (SM K (qD 0) t1 f1) (SM K (qD 0) t2 f2))/\ME K E t1 g1/\ME K E t2 g2
def Wx(h:X.K=K)(d:PE X o1 (qD 0))(g:Pm K E X a1 t1 g1)(c:PE X o2 (qD 0))(e:Pm K E X a2 t2 g2)
  (a:swapsWith a1 (some (.Attribute o1 f1 p1)) q1.line X.env=pure false:=by rfl) (b:swapsWith a2 (some (.Attribute o2 f2 p2)) q2.line X.env=pure false:=by rfl) :
  WE K E X [.Assign [.Attribute o1 f1 p1] a1 q1,.Assign [.Attribute o2 f2 p2] a2 q2] f1 f2 g1 g2:=by
 subst h;exact⟨t1,t2,EW (Nn d g.pe a) (HL (Nn c e.pe b)),g.me,e.me⟩
theorem S1{st:Stmt}(cl:BQ K C)(n1:oB K C f1)(n2:oB K C f2)(ne:f1≠f2)(D:oN K C "__init__" qual st)(S:lO N N (i9 st))
  (mk:W.makesIn K C=true) (kp:W.keepIn K (.ref C)=true) (hm:mg x=some (.ref C)) (hN:N.length=n+1)
  (hb:∀(kV doc pm:Value) (an:Option Addr) (j ct:Value) (us:List Value),us.length=N.length->bindArgs (W.fnOf "__init__" qual (l3 st) (kg st) (i9 st) .none kV doc pm an j ct) ⟨us,[]⟩=pure (N.zip us))
  (hT:∀(f:Addr) (j:Value) (A:Around) (d:List Env) (s:Shared) (H:Hp) (E:XK),lB k (A.deeper (envOfC qual (i9 st) s.heap.objs.size f j))->WE K E (ur A2 P w K mg base N qual (i9 st) f j A d s H E).nox (kg st) f1 f2 g1 g2) :
  IV P w K mg base x C (k+1) (G4 K C (Ck C n f1 f2 g1 g2)):=by
 obtain⟨fi,fd,F,Mm⟩:=D.ex;refine⟨⟨fi,fd,N,F.ok S (λvs H Q E h=>?_) (λj A d s H vs Q E hr h=>?_),⟨mk,Mm.at_,Mm.fn,kp⟩,F.binds hb⟩,hm⟩
 .obtain⟨x,B,us,u,F0,rfl,X,fx,s,r,q⟩:=h;unfold Ck at q;by_cases J:u.length=n
  .rw[ay,r.length,J,hN]
  .rw[aR J]at q;exact q.elim
 .obtain⟨x,B,us,u,F0,rfl,X,fx,s0,r,q⟩:=h;obtain⟨t1,t2,ps,m1,m2⟩:=(hT fi j A d s H E hr).ex;refine⟨_,ps,?_⟩;unfold Ck at q;by_cases J:u.length=n
  .rw[aQ J]at q;have V:ph K F0 (pP N (.ref x::us)) (none::u.map some):=λi t e=>by
    cases i with
    |zero=>cases e
    |succ i=>
     rw[List.getElem?_cons_succ,av]at e;cases hq:u[i]? with
     |none=>rw[hq]at e;cases e
     |some y=>rw[hq]at e;cases e;obtain⟨v,a,b⟩:=r.get hq;refine⟨v,?_,b⟩;unfold L2.pP;rw[List.getElem?_append_left (by rw[aw,ay];exact eD (aa.mp a).1),av,List.getElem?_cons_succ,a];rfl
   cases Y:g1 (none::u.map some) with
   |bad=>rw[Y]at q;exact q.elim
   |er C n=>rw[Y]at q;exact q.elim
   |ok a=>
    rw[Y,L3.M.bind_ok]at q;cases Z:g2 (none::u.map some) with
    |bad=>rw[Z]at q;exact q.elim
    |er C n=>rw[Z]at q;exact q.elim
    |ok b=>
     rw[Z,L3.M.bind_ok]at q;refine m1 F0 H _ _ _ s0 V ?_;rw[Y];intro v R H1 c r1;have hx1:=c.hh _ _ X;have I:R x=none:=by
      cases z:R x with
      |none=>rfl
      |some o=>
       rcases c.nw x (by rw[z];exact λy=>nomatch y) with y|y|⟨_,y⟩
       .exact absurd fx y
       .rw[X]at y;cases y
       .rw[X]at y;cases y
     refine⟨.ref x,rfl,x,C,B,[],rfl,hx1,cl,n1,by decide,?_⟩;have s1:jI R (kU H1 x (.ins C B (tP f1 v []))):=λp o h=>by
      have l:p≠x:=λz=>by rw[z,I]at h;cases h
      rw[ja l];exact c.fh p o h
     refine m2 R _ _ _ _ s1 (V.mono c.ff) ?_;rw[Z];intro U L H3 g r2;have hx3:=g.hh x _ jb;have fx2:L x=none:=by
      cases z:L x with
      |none=>rfl
      |some o=>
       rcases g.nw x (by rw[z];exact λy=>nomatch y) with y|y|⟨_,y⟩
       .exact absurd I y
       .rw[jb]at y;cases y
       .rw[jb]at y;cases y
     refine⟨.ref x,rfl,x,C,B,_,rfl,hx3,cl,n2,by show 1<1000;decide,?_⟩;have ep:tP f2 U (tP f1 v [])=[(f1,v),(f2,U)]:=by show (if f1=f2 then _ else _)=_;rw[aR ne];rfl
     have sF:jI L (kU L x (.ins C B [(f1,v),(f2,U)])):=qE fx2;refine q (kU L x (.ins C B [(f1,v),(f2,U)])) _ ((c.ff.trans g.ff).trans sF) (λp o h=>?_) (λp o l h=>?_) (λp l=>?_) (.obj jb (.cons (r1.mono (g.ff.trans sF)) (.cons (r2.mono sF) .nil)))
     .by_cases l:p=x
      .subst l;rw[jb]at h;rw[jb,ep];exact .of h
      .rw[ja l]at h ⊢;exact g.fh p o h
     .rw[ja l];exact Rw (c.hh p o h) λo' e=>g.hh p o' (by rw[ja l];exact e)
     .by_cases m:p=x
      .exact .inr (.inr (.inl m))
      .rw[ja m]at l;rcases g.nw p l with z|z|⟨xs,z⟩
       .rcases c.nw p z with y|y|y
        .exact .inl y
        .exact .inr (.inl y)
        .exact .inr (.inr (.inr y))
       .rw[ja m]at z;exact .inr (.inl (jF c.hh z))
       .rw[ja m]at z;cases y:H p with
        |none=>exact .inr (.inl rfl)
        |some o=>exact .inr (.inr (.inr ⟨xs,by have k:=c.hh p o y;rw[z]at k;rw[Fe k λ_ _ y=>nomatch y]⟩))
  .rw[aR J]at q;exact q.elim
end
section
variable {X:Cx}{K:W.Frag}{E:XK}{x m:Str}{C:Addr}{k:Nat}{Fn:List T->M T}{Ff:List T->M ba}{e o:Expr}{es:List Expr}{tr:TA}{fr:Pe->M ba}{ta:TE}{fa:Pe->M T}{p pos apos:Pos}
def VI(h:IV X.prog X.w X.K X.mg X.base x C j (G4 K C Fn))(hr:lB k X.A)(c:Et K E X (e::es) tr fr)(f:j+1<=k:=by decide)(d:Gl X x:=by rfl)
  (b:(x==("__debug__" : Str))=false:=by decide) (g:starEach (e::es) X.env=(false,eval e X.env)::starEach es X.env:=by rfl) (a:(backTo pos (starEach es X.env)).any (·.1)=false:=by rfl) :
  Pm K E X (.Call (.Name x p) (e::es) [] pos) (Hz C (G4 K C Fn) [] E0 tr) (iV fr Fn):=⟨V0 h (hr.mono f) c.pa d b g a,Mi c.ma⟩
def Me(h:oV X.prog X.w X.K X.mg X.base C m j (A0 K Fn))(hr:lB k X.A)(a:Pm K E X o ta fa)(c:j<=k:=by decide)
  (b:eval (.Call (.Attribute o m apos) [] [] pos) X.env=(do
   let ov <-eval o X.env
   standAt apos.atName
   let (f,first) <-holding [ov] (getMethod ov m pl)
   callWith pos f first (backTo pos (starEach [] X.env)) (backToKw pos (keywordEach [] X.env))):=by rfl) :
  Pm K E X (.Call (.Attribute o m apos) [] [] pos) (By C m (A0 K Fn) [] E0 ta yN) (BN C m fa iQ Fn):=⟨MD h (hr.mono c) a.pe b,Mn a.me Gk⟩
def KL(h:oV X.prog X.w X.K X.mg X.base C m j (Fi K Ff))(hr:lB k X.A)(a:Pm K E X o ta fa)(c:j<=k:=by decide)
  (b:eval (.Call (.Attribute o m apos) [] [] pos) X.env=(do
   let ov <-eval o X.env
   standAt apos.atName
   let (f,first) <-holding [ov] (getMethod ov m pl)
   callWith pos f first (backTo pos (starEach [] X.env)) (backToKw pos (keywordEach [] X.env))):=by rfl) :
  Hs K E X (.Call (.Attribute o m apos) [] [] pos) (By C m (Fi K Ff) [] E0 ta yN) (yd C m fa iQ Ff):=⟨MD h (hr.mono c) a.pe b,K9 a.me Gk⟩
def MB(b:X.K=K)(c:BQ K C)(d:oB K C f)(h:Pm K E X e ta fa)(a:attributeBase e f X.env (eval e X.env)=eval e X.env:=by rfl):Pm K E X (.Attribute e f pos) (S0 X.K ta f) (Gq C f fa):=by subst b;exact⟨Sw h.pe a,Te c d h.me⟩
@[simp] noncomputable def My(f:Pe->M T)(m:T->En->Option En):En->O:=λa=>O.of (j9 f a) λt=>match m t a with
 |some ρ'=>.nx ρ'
 |none=>.bad
def Sy{m:T->En->Option En}(h:ME K E t f)(y:OZ K g m):MS K E (q8 t g) (My f m):=λi s F H j b D r q=>
 h.inH r q λx v c d z n l a=>by
  cases e:m x b with
  |none=>rw[e]at a;exact a.elim
  |some ρ'=>rw[e]at a;exact y i s c d j b v x ρ' _ l n e λu w=>a c d _ (.refl _) w
def QJ{m:T->En->Option En}(b:Pm K E X e t f)(a:Uy K X tg g m)(d:swapsWithSole [tg] e pos.line X.env=pure false:=by rfl)(hw:swappedStores [tg] e X.env=pure none:=by rfl)
  (c:(assignEach [tg] X.env).map (·.2)=[assign tg X.env]:=by rfl):xt K E X (.Assign [tg] e pos) (q8 t g) (My f m):=⟨Nc b.pe a.pg d hw c,Sy b.me a.mg⟩
def RK{m:T->En->Option En}(h:f (qH ρ)=.ok t)(a:m t ρ=some ρ'):My f m ρ=.nx ρ':=by unfold My j9;rw[h];simp[a]
end
section
variable {P:Program}{w:World}{K:W.Frag}{mg:Str->Option Value}{base:Heap}{C:Addr}{m qual:Str}{st:Stmt}{N ps:List Str}{k:Nat}{g:En->O}
def VW(i:BQ K C)(D:oN K C m qual st)(S:lO N ps (i9 st))
  (d:∀(kV c l:Value) (n:Option Addr) (b j:Value) (us:List Value),us.length=ps.length->bindArgs (W.fnOf m qual (l3 st) (kg st) (i9 st) .none kV c l n b j) ⟨us,[]⟩=pure (ps.zip us))
  (o:∀(f:Addr) (b:Value) (A:Around) (a:List Env) (s:Shared) (H:Hp) (E:XK),lB k (A.deeper (envOfC qual (i9 st) s.heap.objs.size f b))->∃t,vL K E (ur A2 P w K mg base N qual (i9 st) f b A a s H E).nox (kg st) t g) :
  oV P w K mg base C m (k+1) (A0 K (mF ps.length N.length g)):=
 Hw i D S d (λe H Q E h=>FJ h) λf b A a s H e Q E hr h=>let ⟨t,hp⟩:=o f b A a s H E hr;⟨t,hp.ps,C2 hp.ms h⟩
def Vh(i:BQ K C)(D:oN K C m qual st)(S:lO N ps (i9 st))
  (d:∀(kV c l:Value) (n:Option Addr) (b j:Value) (us:List Value),us.length=ps.length->bindArgs (W.fnOf m qual (l3 st) (kg st) (i9 st) .none kV c l n b j) ⟨us,[]⟩=pure (ps.zip us))
  (o:∀(f:Addr) (b:Value) (A:Around) (a:List Env) (s:Shared) (H:Hp) (E:XK),lB k (A.deeper (envOfC qual (i9 st) s.heap.objs.size f b))->∃t,vL K E (ur A2 P w K mg base N qual (i9 st) f b A a s H E).nox (kg st) t g) :
  oV P w K mg base C m (k+1) (Fi K (zw ps.length N.length g)):=
 Hw i D S d (λe H Q E h=>HS h) λf b A a s H e Q E hr h=>let ⟨t,hp⟩:=o f b A a s H E hr;⟨t,hp.ps,E3 hp.ms h⟩
end
end L3
namespace L3
open PySem L2 PySem.Spec PyProof.Rows
section
variable {K:W.Frag}{E:XK}{X:Cx}{a tg:Expr}{tr:TA}{fr:Pe->M ba}{p p2 pos pos2:Pos}{F:Hp}
def T8(d:nh K F l xs)(r:jr K F xs ts):Bm K (WR K l xs.length) ts.reverse F where
 go:=λi H s c=>by rw[eE,<-r.length]at c;exact⟨c,xs,_,s.seq d,rfl,ag (by omega)⟩
 stop:=λH s=>⟨by rw[eE,r.length],xs,s.seq d⟩
 yld:=λi t j H x o g f e y=>by
  obtain⟨rfl,k⟩:=y;have m:=k xs ((g.trans f).seq d);obtain⟨n,b,h⟩:=r.at_ m;have c:i<ts.length:=by simpa using (aa.mp e).1
  rw[List.getElem?_reverse c,<-r.length]at e;rw[e]at b;cases b;exact⟨j,.refl f,h.mono g⟩
@[simp] noncomputable def IT(fa:Pe->M ba):Pe->M ba:=λc=>(fa c).bind λb=>match b with
 |[.lst ts]=>.ok ts.reverse
 |_=>.bad
def RV(g:MA K E tr fr):MI K E (R4 K tr) (IT fr):=λF H k j R s V q=>by
 refine g.run s V q λn o e f c d b=>?_;cases d with
 |nil=>exact b.elim
 |cons h t=>
  cases t with
  |cons _ _=>cases h<;>exact b.elim
  |nil=>
   cases h with
   |lst h r=>rename_i l i m;refine⟨l,i,rfl,nh.of (c.fh _ _ h),b _ e f c (T8 (nh.of h) r)⟩
   |_=>exact b.elim
def G7(c:X.mg "reversed" = none)(b:Et K E X [a] tr fr)(e:X.K=K:=by rfl)(d:Gl X "reversed" :=by rfl)(f:starEach [a] X.env=[(false,eval a X.env)]:=by rfl):Og K E X tg (.Call (.Name "reversed" p) [a] [] pos) (R4 K tr) (IT fr):=by subst e;exact⟨Ol d c b.pa f,RV b.ma⟩
@[simp] noncomputable def Vt(fa:Pe->M ba):Pe->M ba:=λc=>(fa c).bind λb=>match b with
 |[x]=>(seqT x).bind λd=>.ok (qg d)
 |_=>.bad
theorem zD:∀{vs} {ts},vs.length=ts.length->(∀(i:Nat) t,ts[i]? = some t->∃v,vs[i]? = some v/\mG K F v t)->jr K F vs ts
 |[],[],_,_=>.nil
 |v::vs,t::ts,hl,h=>by obtain⟨c,e,r⟩:=h 0 t rfl;simp at e;subst e;exact .cons r (zD (by simpa using hl) λi t b=>by simpa using h (i+1) t (by simpa using b))
def Vi(ha:MA K E tr fr):MF K E (WN K tr) (Vt fr):=λF H σ ρ Q s va q=>by
 classical
 refine ha.run s va q λxs ws B w j Z A=>?_;have z:∀(b:Bool) (l:Addr) (J:List V) (I:List T),yP K w b l J->jr K B J I->kF K F H Q (qg I)->∃b' U y,[V.ref l]=[.ref U]/\yP K w b' U y/\∀(p:Addr) (as:List Addr) (g:Hp),jI w g->w p=none->g p=some (.lst (as.map V.ref))->as.length=y.length->
   (∀(i:Nat) (a:Addr),as[i]? = some a->w a=none/\a≠p/\∃x,y[i]? = some x/\g a=some (.tup [.int i,x]))->Q (.ref p) g:=λb l J I hq r qk=>by
  refine⟨b,l,J,rfl,hq,λp as g sm S hl C L=>?_⟩;let D:Hp:=λc=>if c∈as then g c else B c
  have k:∀c,c∈as->D c=g c:=λc d=>aQ d;have f:∀c,c∉as->D c=B c:=λc d=>aR d;have new:∀c,c∈as->w c=none:=λc d=>by obtain⟨i,m⟩:=c7.mp d;exact (L i c m).1
  have R:jI B D:=λc o e=>by rw[f c (λd=>(j.fh c o e).ne (new c d))];exact .of e
  have Y:p∉as:=λd=>by obtain⟨i,m⟩:=c7.mp d;exact (L i p m).2.1 rfl
  have gr:Gr B w D g:=⟨R,λc o e=>by
   by_cases d:c∈as
   .rw[k c d]at e;exact .of e
   .rw[f c d]at e;exact j.fh.trans sm c o e,sm,λc d=>by
   by_cases P:c∈as
   .exact .inr (.inl (new c P))
   .rw[f c P]at d;exact .inl d⟩
  refine qk p (as.map V.ref) D g (j.trans gr) (jF j.hh S) (by rw[f p Y];exact jF j.fh S) hl (zD (by simp[qg,C,r.length]) λi t v=>?_);unfold qg at v;rw[av,List.getElem?_zipIdx]at v;cases m:I[i]? with
  |none=>rw[m]at v;cases v
  |some u=>
   rw[m]at v;simp at v;have n:i<as.length:=by rw[C,r.length];exact (aa.mp m).1
   obtain⟨h1,h2,x,e1,e2⟩:=L i _ (ag n);obtain⟨x',N,rx⟩:=r.get m;rw[e1]at N;cases N;refine⟨.ref as[i],by rw[av,ag n];rfl,?_⟩;rw[<-v];exact .tup (by rw[k _ (aV n)];exact e2) (.cons (.int _) (.cons (rx.mono R) .nil))
 cases Z with
 |nil=>exact A.elim
 |cons h t=>
  cases t with
  |cons _ _=>cases h<;>exact A.elim
  |nil=>
   cases h with
   |lst h r=>exact z false _ _ _ (nh.of (j.fh _ _ h)) r A
   |tup h r=>exact z true _ _ _ (pX.of (j.fh _ _ h)) r A
   |scr h=>exact z false _ _ _ (j.fh.seq h) (jr.of_ints _) A
   |_=>exact A.elim
def UV(i:X.calm=true)(e:X.mg "list" = none)(c:X.mg "enumerate" = none)(d:Et K E X [a] tr fr)(h:X.K=K:=by rfl)(g:Gl X "list" :=by rfl)(b:Gl X "enumerate" :=by rfl)(f:starEach [a] X.env=[(false,eval a X.env)]:=by rfl)
  (j:starEach [Expr.Call (.Name "enumerate" p2) [a] [] pos2] X.env=[(false,eval (.Call (.Name "enumerate" p2) [a] [] pos2) X.env)]:=by rfl) :
  Hs K E X (.Call (.Name "list" p) [.Call (.Name "enumerate" p2) [a] [] pos2] [] pos) (WN K tr) (Vt fr):=by
 subst h;exact⟨LM i g e b c d.pa f j,Vi d.ma⟩
end
section
variable {K:W.Frag}{E:XK}{X:Cx}{F0:Fz}{H0 F H:Hp}{σ:L2.St}{ρ:En}{x:Str}{e:Expr}{pos pos' p pd:Pos}
noncomputable def tV(kvs:List (LI×T))(k:LI)(v:T):List (LI×T):=if (kvs.any λa=>decide (a.1=k))=true then kvs.map (λa=>if a.1=k then (a.1,v) else a) else kvs++[(k,v)]
theorem zh:∀{a b:LI},a.map (Sum.inl:Int->rM)=b.map Sum.inl->a=b
 |[],[],_=>rfl
 |[],_::_,h=>nomatch h
 |_::_,[],h=>nomatch h
 |x::a,y::b,h=>by simp only[bK,List.cons.injEq]at h;rw[Sum.inl.inj h.1,zh h.2]
def DR.put(h:DR K F xs kvs) k (r:mG K F v t):DR K F (rO xs (k.map Sum.inl) v) (tV kvs k t):=by
 have b:(xs.any λa=>decide (a.1=k.map Sum.inl))=kvs.any λa=>decide (a.1=k):=by
  induction h with
  |nil=>rfl
  |cons q _ ih=>
   rename_i x y _ _ _;rw[cf,cf,ih];congr 1;by_cases z:y.1=k
   .rw[aC z,aC (by rw[q.1,z])]
   .rw[aB z,aB (λw=>z (zh (by rw[<-q.1,w])))]
 unfold rO tV;rw[b];generalize (kvs.any λa=>decide (a.1=k))=bb;split
 .clear b;unfold DR at h ⊢;induction h with
  |nil=>exact .nil
  |cons q _ ih=>
   rename_i x y _ _ _;refine .cons ?_ ih;dsimp only;by_cases z:y.1=k
   .rw[aQ (by rw[q.1,z]),aQ z];exact⟨q.1,r⟩
   .rw[aR (λw=>z (zh (by rw[<-q.1,w]))),aR z];exact q
 .clear b;unfold DR at h ⊢;induction h with
  |nil=>exact .cons ⟨rfl,r⟩ .nil
  |cons q _ ih=>exact .cons q ih
@[simp] noncomputable def Nu(i:Nat):En->O:=λρ=>.nx (ρ.set i (some (.d [])))
def Sr.setD{p:Addr}(r:Sr K F0 H0 F H σ ρ)(C:H p=none):Sr K F0 H0 F (kU H p (.dT [])) (σ.set i (some (.ref p))) (ρ.set i (some (.d []))):=by
 have Y:=jF r.gr.fh C;have y:=r.grow (Gr.new' (o:=.dT []) r.gr.fh C);obtain⟨R,U,S⟩:=y.ov;refine⟨y.gr,by simp[r.len],λj t e=>?_,⟨R,λj N e=>?_,λj k N ws e A s=>?_⟩,λe he=>?_,λj l' P I q=>?_,⟨λj c e=>?_,λj k c u e A s=>?_⟩⟩
 .rcases jj e with⟨rfl,q⟩|⟨g,q⟩
  .cases q
  .obtain⟨w,a,b⟩:=y.pv j t q;exact⟨w,by rw[aq (λz=>g z.symm)];exact a,b⟩
 .rcases jj e with⟨rfl,q⟩|⟨g,q⟩
  .cases q
  .obtain⟨a,b⟩:=U j N q;exact⟨by rw[aq (λz=>g z.symm)];exact a,b⟩
 .rcases jj e with⟨rfl,q⟩|⟨g,q⟩
  .cases q
  .rcases jj A with⟨rfl,n⟩|⟨D,n⟩
   .cases n
   .exact S j k N ws q n s
 .have L:=y.lv e he;refine⟨L.h,L.f,L.z,λj Z q=>?_⟩;rcases jj q with⟨rfl,v⟩|⟨g,v⟩
  .cases v
  .rw[aq (λz=>g z.symm)];exact L.d j Z v
 .rcases jj q with⟨rfl,v⟩|⟨g,v⟩
  .cases v
  .rw[aq (λz=>g z.symm)];exact r.sl j l' P I v
 .have l:j<ρ.length:=by simpa using (aa.mp e).1
  rcases jj e with⟨rfl,q⟩|⟨g,q⟩
  .cases q;exact⟨p,uJ (by rw[r.len];exact l),Y,jF r.gr.hh C,[],jb,.nil⟩
  .obtain⟨a,J,rr⟩:=y.dv.at_ j c q;exact⟨a,by rw[aq (λz=>g z.symm)];exact J,rr⟩
 .have B:∀(m:Nat) c,ρ[m]? = some (some (.d c))->σ[m]?≠some (some (.ref p)):=λm c q w=>by
   obtain⟨a,J,_,_,xs,Q,_⟩:=r.dv.at_ m c q;rw[J]at w;have:a=p:=by simpa using w
   rw[this,C]at Q;cases Q
  have l:∀{m:Nat} {z},(ρ.set i (some (W.d [])))[m]? = some z->m<σ.length:=λ{m z} q=>by rw[r.len];simpa using (aa.mp q).1
  rcases jj e with⟨rfl,q⟩|⟨g,q⟩
  .rcases jj A with⟨rfl,n⟩|⟨D,n⟩
   .exact absurd rfl s
   .rw[uJ (l e),aq (λz=>D z.symm)];exact λw=>B k u n w.symm
  .rcases jj A with⟨rfl,n⟩|⟨D,n⟩
   .rw[uJ (l A),aq (λz=>g z.symm)];exact B j c q
   .rw[aq (λz=>g z.symm),aq (λz=>D z.symm)];exact r.dv.dj j k c u q n s
def Qo:MS K E (q8 Fk (mx i)) (Nu i):=λF0 H0 F H σ ρ D r q p a=>q F _ _ (.refl _) (r.setD a)
def Mp i (c:X.N.Nodup) (f:Hx X.env.scope x:=by first|exact Or.inl rfl|exact Or.inr rfl) (d:X.N[i]? = some x:=by rfl) (a:swapsWith (.Dict [] [] pd) (some (.Name x pos')) pos.line X.env=pure false:=by rfl) (b:X.fn x=true\/X.env.scope.names.lookup x=some .local:=by first|exact .inl rfl|exact .inr rfl|assumption) :
  xt K E X (.Assign [.Name x pos'] (.Dict [] [] pd) pos) (q8 Fk (mx i)) (Nu i):=⟨AC c d f Li a b,Qo⟩
@[simp] noncomputable def xo(ρ:En)(i:Nat):M (List (LI×T)):=match ρ[i]? with
 |some (some (.d kvs))=>.ok kvs
 |_=>.bad
def Jo(h:xo ρ i=.ok kvs):ρ[i]? = some (some (.d kvs)):=by
 unfold xo at h;split at h
 .rename_i a e;cases h;exact e
 .cases h
noncomputable def Vd(ρ:En)(i:Nat)(kvs:List (LI×T))(t:T):T->O
 |.tup ks=>match kq ks with
  |some ns=>if kvs.length<sizeLine then .nx (ρ.set i (some (.d (tV kvs ns t)))) else .bad
  |none=>.bad
 |_=>.bad
@[simp] noncomputable def Ao(i:Nat)(b f:En->M T):En->O:=λρ=>.of (xo ρ i) λa=>.of (f ρ) λt=>.of (b ρ) λk=>Vd ρ i a t k
def Sr.changeD(r:Sr K F0 H0 F H σ ρ)(e:ρ[i]? = some (some (.d kvs)))(N:σ[i]? = some (some (.ref a)))(fa:F a=none)(I:H0 a=none)(P:H a=some (.dT xs))(hy:DR K F ys kvs'):Sr K F0 H0 F (kU H a (.dT ys)) σ (ρ.set i (some (.d kvs'))):=by
 obtain⟨Y,h1,h2⟩:=r.ov;refine⟨⟨r.gr.ff,λp u q=>?_,λp u q=>?_,r.gr.nw⟩,by simp[r.len],λj t q=>?_,⟨Y,λj v q=>?_,λj k v C q y g=>?_⟩,λR he=>?_,λj l' n A q=>?_,⟨λj o q=>?_,λj k o s q y g=>?_⟩⟩
 .rw[ja (jO q fa)];exact r.gr.fh p u q
 .rw[ja (jO q I)];exact r.gr.hh p u q
 .rcases jj q with⟨rfl,c⟩|⟨m,c⟩
  .cases c
  .exact r.pv j t c
 .rcases jj q with⟨rfl,c⟩|⟨m,c⟩
  .cases c
  .obtain⟨a',b',c',n,B,z'⟩:=h1 j v c;exact⟨a',b',c',n,by rw[ja (λz=>by rw[z,P]at B;cases B)];exact B,z'⟩
 .rcases jj q with⟨rfl,c⟩|⟨m,c⟩
  .cases c
  .rcases jj y with⟨rfl,l⟩|⟨Q,l⟩
   .cases l
   .exact h2 j k v C c l g
 .have L:=r.lv R he;have D:R.2.1≠a:=λw=>by have:=L.h;rw[w,P]at this;cases this
  refine⟨by rw[ja D];exact L.h,L.f,L.z,λj v q=>?_⟩;rcases jj q with⟨rfl,c⟩|⟨m,c⟩
  .cases c
  .exact L.d j v c
 .rcases jj q with⟨rfl,c⟩|⟨m,c⟩
  .cases c
  .exact r.sl j l' n A c
 .rcases jj q with⟨rfl,c⟩|⟨m,c⟩
  .cases c;exact⟨a,N,fa,I,ys,jb,hy⟩
  .obtain⟨b,J,e2,S,Z,U,e5⟩:=r.dv.at_ j o c;have:b≠a:=λz=>r.dv.dj j i o kvs c e m (by rw[J,N,z]);exact⟨b,J,e2,S,Z,by rw[ja this];exact U,e5⟩
 .rcases jj q with⟨rfl,c⟩|⟨m,c⟩
  .rcases jj y with⟨rfl,l⟩|⟨Q,l⟩
   .exact absurd rfl g
   .exact r.dv.dj j k kvs s e l g
  .rcases jj y with⟨rfl,l⟩|⟨Q,l⟩
   .exact r.dv.dj j k o kvs c e g
   .exact r.dv.dj j k o s c l g
def Pd(h:ME K E t f)(Z:ME K E tk fk):MS K E (L5 (qD i) tk t) (Ao i (qr fk) (qr f)):=λF0 H0 F H σ ρ D r q=>by
 unfold Ao at q;cases e:xo ρ i with
 |bad=>rw[e]at q;exact q.elim
 |er C n=>unfold xo at e;split at e<;>cases e
 |ok kvs=>
  rw[e]at q;have o:=Jo e;obtain⟨a,l,_⟩:=r.dv.at_ i kvs o;refine h.inB r q λx v F' H' g Q N S=>⟨_,l,?_⟩;refine Z.inB N S λy w u R B k z J=>?_;obtain⟨P,j,fa,L,xs,A,dr⟩:=z.dv.at_ i kvs o;rw[l]at j;have:a=P:=by simpa using j
  subst this;cases k with
  |tup h rs=>
   rename_i b vs I;have c:(match kq I with
    |some ns=>if kvs.length<sizeLine then O.nx (ρ.set i (some (.d (tV kvs ns x)))) else .bad
    |none=>.bad).res K E F0 H0 u D:=J
   cases s:kq I with
   |none=>rw[s]at c;exact c.elim
   |some ns=>
    rw[s]at c;dsimp only at c;by_cases m:kvs.length<sizeLine
    .rw[aQ m]at c;have U:=mX s;rw[U]at rs;have ev:=rs.ints;have Y:R b=some (.tup ((ns.map Sum.inl).map L2.kV)):=by rw[aI,B.fh _ _ h,ev];rfl
     refine⟨a,_,rfl,Lg.t A Y (by rw[Paired.length dr];exact m),?_⟩;exact c u _ _ (.refl _) (z.changeD o l fa L A (dr.put ns (Q.mono B.ff)))
    .rw[aR m]at c;exact c.elim
  |_=>exact J.elim
def EG i (hr:lB k X.A) (b:PE X (.Name x p) (qD i)) (a:Pm K E X i_ tk fk) (hv:Pm K E X v t f) (c:swapsWith v (some (.Subscript (.Name x p) i_ pos')) pos.line X.env=pure false:=by rfl) :
  xt K E X (.Assign [.Subscript (.Name x p) i_ pos'] v pos) (L5 (qD i) tk t) (Ao i (qr fk) (qr f)):=⟨QW (KZ hr) b a.pe hv.pe c,Pd hv.me a.me⟩
@[simp] noncomputable def xk(i:Nat):En->O:=λρ=>match ρ[i]? with
 |some (some (.d kvs))=>.rf (kvs.map λa=>tI a.1)
 |_=>.bad
def RD:List V->Hp->VK->Prop:=λd H Q=>∃a c,d=[.ref a]/\H a=some (.dT c)/\∀(l:Addr) (bs:List Addr),H l=none->bs.length=c.length->
  (∀(i:Nat) (b:Addr),bs[i]? = some b->∃k v,c[i]? = some (k,v)/\H b=some (.tup (k.map L2.kV)))->Q (.ref l) (kU H l (.lst (bs.map V.ref)))
def Gs:MS K E (Dd (Mg RD (vh (qD i) yN))) (xk i):=λF0 H0 F H σ ρ D r q=>by
 classical
 unfold xk at q;split at q
 .rename_i s e;obtain⟨a,ea,fa,za,xs,Y,dr⟩:=r.dv.at_ i s e;refine⟨_,ea,a,xs,rfl,Y,λl bs w m L=>?_⟩;let u:Hp:=λc=>if c∈bs then H c else F c
  have f:∀c,c∈bs->u c=H c:=λc b=>aQ b;have d:∀c,c∉bs->u c=F c:=λc b=>aR b;have tp:∀c,c∈bs->∃B,H c=some (.tup B):=λc b=>by obtain⟨j,S⟩:=c7.mp b;obtain⟨k,v,_,h⟩:=L j c S;exact⟨_,h⟩
  have U:jI F u:=λc o h=>by
   by_cases b:c∈bs
   .rw[f c b];exact r.gr.fh c o h
   .rw[d c b];exact .of h
  have ln:l∉bs:=λb=>by obtain⟨B,h⟩:=tp l b;rw[w]at h;cases h
  have I:jI H (kU H l (.lst (bs.map V.ref))):=qE w;refine q l (bs.map V.ref) u _ ⟨r.gr.ff.trans U,λc o h=>?_,r.gr.hh.trans I,λc b=>?_⟩ (jF r.gr.hh w) (by rw[d l ln];exact jF r.gr.fh w) jb (zD (by simp[m,Paired.length dr]) λj t n=>?_)
  .by_cases b:c∈bs
   .rw[f c b]at h;exact I c o h
   .rw[d c b]at h;exact r.gr.fh.trans I c o h
  .by_cases P:c∈bs
   .obtain⟨B,h⟩:=tp c P;cases z:H0 c with
    |none=>exact .inr (.inl rfl)
    |some o=>exact .inr (.inr ⟨B,by have k:=r.gr.hh c o z;rw[h]at k;rw[Fe k λ_ _ y=>nomatch y]⟩)
   .rw[d c P]at b;exact r.gr.nw c b
  .rw[av]at n;cases A:s[j]? with
   |none=>rw[A]at n;cases n
   |some kv=>
    rw[A]at n;have C:tI kv.1=t:=by simpa using n
    have g:j<bs.length:=by rw[m,Paired.length dr];exact (aa.mp A).1
    obtain⟨k,v,R,N⟩:=L j _ (ag g);obtain⟨Z,J,Q,_⟩:=BD dr R;rw[A]at J;cases J;refine⟨.ref bs[j],by rw[av,ag g];rfl,?_⟩;rw[<-C];have e5:k=kv.1.map Sum.inl:=Q;rw[e5,aI]at N;exact .tup (by rw[f _ (aV g)];exact N) (jr.of_ints _)
 .exact q.elim
def LU i (d:X.calm=true) (b:X.mg "list" = none) (f:PE X (.Name x p) (qD i)) (c:Gl X "list" :=by rfl) (a:starEach [Expr.Name x p] X.env=[(false,eval (.Name x p) X.env)]:=by rfl) :
  xt K E X (.Return (some (.Call (.Name "list" p1) [.Name x p] [] pos1)) pos) (Dd (Mg RD (vh (qD i) yN))) (xk i):=
 ⟨CZ (yc (FK d) c b mO (sV f xE a) (by decide) (by decide) a rfl),Gs⟩
end
section
variable {K:W.Frag}{E:XK}{X:Cx}{t:TE}
@[simp] noncomputable def B2(i:Nat)(f:En->M ba):En->O:=λa=>.of (pS a i) λb=>.of (f a) λc=>if b.length<sizeLine then .nx (a.set i (some (.o (b++[.lst c])))) else .bad
def NQ(s:∀l w H,H l=some (.lst w)->UE K "list" (.ref l) H)(h:MF K E t f):MS K E (v8 (J4 K i t)) (B2 i (yG f)):=λy B F H z p D r q=>by
 unfold B2 at q;cases e:pS p i with
 |bad=>rw[e]at q;exact q.elim
 |er C n=>unfold pS at e;split at e<;>cases e
 |ok ts=>rw[e]at q;have k:=vY e;obtain⟨x,o,_⟩:=r.ov;obtain⟨a,_,_,L,d,_⟩:=o i ts k;refine⟨_,a,s _ _ _ d,?_⟩;refine h.inB r q λA l P I J g v c hv hr u=>?_;have m:=g.take hv c v;obtain⟨N,j,b⟩:=Ak (r.grow m) k (.lst jb (hr.mono (mK c))) (u.go (mK c));rw[a]at j;cases j;exact b
variable {e:Expr}{te:TE}{ff:Pe->M ba}{p apos pos pos':Pos}
def JL i (hv:PE X (.Name x p) (qD i)) (f:Hs K E X e te ff) (g:starEach [e] X.env=(false,eval e X.env)::starEach [] X.env:=by rfl) (j:X.K=K:=by rfl)
  (a:attributeBase (.Name x p) "append" X.env (eval (.Name x p) X.env)=eval (.Name x p) X.env:=by rfl)
  (c:((backTo pos (starEach [e] X.env)).all (λx=>!x.1)&&(backToKw pos (keywordEach [] X.env)).all (λx=>x.1.isSome)&&decide (([e]:List Expr).length+([]:List Keyword).length+(if ([]:List Keyword).isEmpty then 0 else 1)<30))=true:=by rfl)
  (b:(apos.endLine==pos.line)=true:=by rfl) (hplain:(backTo pos (starEach [] X.env)).any (·.1)=false:=by rfl) (d:swapsWith (.Call (.Attribute (.Name x p) "append" apos) [e] [] pos) none pos'.line X.env=pure false:=by rfl) :
  xt K E X (.Expr (.Call (.Attribute (.Name x p) "append" apos) [e] [] pos) pos') (v8 (J4 K i te)) (B2 i (yG ff)):=by
 subst j;exact⟨zm (MN PySem.F.plainAttrs_list PySem.F.slot_list_append PySem.F.type_list_append xX hv (sV f.pe xE g) a c b g hplain) d,NQ (λl k H h=>Fy h) f.mf⟩
end
end L3
namespace L3
open PySem L2 PySem.Spec PyProof.Rows
def R1:Nat->(List Value->Prop)->Prop
 |0,P=>P []
 |k+1,P=>∀v,R1 k λus=>P (v::us)
def uC{k P}(h:R1 k P)(us:List Value)(e:us.length=k):P us:=by
 subst e;induction us generalizing P with
 |nil=>exact h
 |cons v us ih=>exact ih (h v)
def Wm(X:Cx):Prop:=∀x,X.env.scope.names.lookup x=some .cell->∃c,X.env.cells.lookup x=some c
structure Zx(P:Program)(w:World)(K:W.Frag)(mg:Str->Option Value)(base:Heap):Prop where
 here:True
section
variable {P:Program}{w:World}{K:W.Frag}{mg:Str->Option Value}{base:Heap}
noncomputable abbrev CP(_:Zx P w K mg base)(x:Str)(k:Nat)(F:List T->M T):Prop:=oX P w K mg base x k (A0 K F)
noncomputable abbrev CF(_:Zx P w K mg base)(x:Str)(k:Nat)(F:List T->M ba):Prop:=oX P w K mg base x k (Fi K F)
end
section
variable {P:Program}{w:World}{K:W.Frag}{mg:Str->Option Value}{base:Heap}{x m qual:Str}{C:Addr}{st:Stmt}{g:En->O}
noncomputable abbrev Vf(P:Program)(w:World)(K:W.Frag)(mg:Str->Option Value)(base:Heap)(k:Nat)(qual:Str)(st:Stmt)(N:List Str)(g:En->O):Prop:=∀{f:Addr} {cdv:Value} {A:Around} {outer:List Env} {s:Shared} {H:Hp} {E:XK},N.Nodup->Wm (ur A2 P w K mg base N qual (i9 st) f cdv A outer s H E).nox->lB k (A.deeper (envOfC qual (i9 st) s.heap.objs.size f cdv))->∃t,vL K E (ur A2 P w K mg base N qual (i9 st) f cdv A outer s H E).nox (kg st) t g
abbrev UA(x qual:Str)(st:Stmt)(ps:List Str):Prop:=∀(kV doc pm:Value) (an:Option Addr) (cdv ct:Value),R1 ps.length λus=>bindArgs (W.fnOf x qual (l3 st) (kg st) (i9 st) .none kV doc pm an cdv ct) ⟨us,[]⟩=pure (ps.zip us)
def kJ(_:Zx P w K mg base) k F N n (e:F=mF (List.take n N).length N.length g) (D:iX K mg x st) (o:Vf P w K mg base k x st N g) (S:lO N (List.take n N) (i9 st):=by constructor<;>first|rfl|decide +kernel)
  (i:UA x x st (List.take n N):=by first|exact λ_ _ _ _ _ _ _ _=>rfl|exact λ_ _ _ _ _ _ _=>rfl|exact λ_ _ _ _ _ _ _ _ _=>rfl|exact λ_ _ _ _ _ _ _ _ _ _=>rfl|exact λ_ _ _ _ _ _ _ _ _ _ _=>rfl|exact λ_ _ _ _ _ _=>rfl) :
  oX P w K mg base x (k+1) (A0 K F):=e▸Wt D S (λa b c d e f j l=>uC (i a b c d e f) j l) λ_ _ _ _ _ _ _ r=>o S.nd (λ_ h=>qZ h) r
def tH(_:Zx P w K mg base) k F N n (e:F=zw (List.take n N).length N.length g) (D:iX K mg x st) (o:Vf P w K mg base k x st N g) (S:lO N (List.take n N) (i9 st):=by constructor<;>first|rfl|decide +kernel)
  (i:UA x x st (List.take n N):=by first|exact λ_ _ _ _ _ _ _ _=>rfl|exact λ_ _ _ _ _ _ _=>rfl|exact λ_ _ _ _ _ _ _ _ _=>rfl|exact λ_ _ _ _ _ _ _ _ _ _=>rfl|exact λ_ _ _ _ _ _ _ _ _ _ _=>rfl|exact λ_ _ _ _ _ _=>rfl) :
  oX P w K mg base x (k+1) (Fi K F):=e▸WT D S (λa b c d e f j l=>uC (i a b c d e f) j l) λ_ _ _ _ _ _ _ r=>o S.nd (λ_ h=>qZ h) r
def Vj(_:Zx P w K mg base) k F N ps (e:F=mF ps.length N.length g) (l:BQ K C) (D:oN K C m qual st) (o:Vf P w K mg base k qual st N g) (S:lO N ps (i9 st):=by constructor<;>first|rfl|decide +kernel)
  (i:UA m qual st ps:=by first|exact λ_ _ _ _ _ _ _=>rfl|exact λ_ _ _ _ _ _ _ _=>rfl|exact λ_ _ _ _ _ _ _ _ _=>rfl) :
  oV P w K mg base C m (k+1) (A0 K F):=e▸VW l D S (λa b c d e f j n=>uC (i a b c d e f) j n) λ_ _ _ _ _ _ _ r=>o S.nd (λ_ h=>qZ h) r
def SD(_:Zx P w K mg base) k F N ps (e:F=zw ps.length N.length g) (l:BQ K C) (D:oN K C m qual st) (o:Vf P w K mg base k qual st N g) (S:lO N ps (i9 st):=by constructor<;>first|rfl|decide +kernel)
  (i:UA m qual st ps:=by first|exact λ_ _ _ _ _ _ _=>rfl|exact λ_ _ _ _ _ _ _ _=>rfl|exact λ_ _ _ _ _ _ _ _ _=>rfl) :
  oV P w K mg base C m (k+1) (Fi K F):=e▸Vh l D S (λa b c d e f j n=>uC (i a b c d e f) j n) λ_ _ _ _ _ _ _ r=>o S.nd (λ_ h=>qZ h) r
def US(_:Zx P w K mg base) k F N ps (e:F=mF ps.length N.length g) (D:Of K x x st f fd) (a:Vf P w K mg base k x st N g) (S:lO N ps (i9 st):=by constructor<;>first|rfl|decide +kernel) :
  qP P w K mg base A2 (k+1) f fd ps (A0 K F):=e▸WV D S λ_ _ _ _ _ _ _ r=>a S.nd (λ_ h=>qZ h) r
def WG(_:Zx P w K mg base) k F N (e:F=Ck C n f1 f2 g1 g2) (y:BQ K C) (B:oB K C f1) (v:oB K C f2) (p:W.makesIn K C=true) (l:W.keepIn K (.ref C)=true) (o:mg x=some (.ref C)) (D:oN K C "__init__" qual st)
  (I:∀{f:Addr} {i:Value} {A:Around} {h:List Env} {s:Shared} {H:Hp} {E:XK},lB k (A.deeper (envOfC qual (i9 st) s.heap.objs.size f i))->WE K E (ur A2 P w K mg base N qual (i9 st) f i A h s H E).nox (kg st) f1 f2 g1 g2)
  (S:lO N N (i9 st):=by constructor<;>first|rfl|decide +kernel) (j:UA "__init__" qual st N:=by exact λ_ _ _ _ _ _ _ _ _=>rfl) (ne:f1≠f2:=by decide) (u:N.length=n+1:=by rfl) :
  IV P w K mg base x C (k+1) (G4 K C F):=e▸S1 y B v ne D S p l o u (λa b c d e f q z=>uC (j a b c d e f) q z) λ_ _ _ _ _ _ _ r=>I r
end
section
variable {K:W.Frag}{E:XK}{X:Cx}{tg elt iter:Expr}{ifs:List Expr}{scope:Scope}{wi:TI}{g:TG}{tt:TT}{te:TE}{fe:Pe->M T}{fi:Pe->M ba}{m:T->Pe->Option Pe}{ft:Pe->M Bool}{pos:Pos}{x:Str}
noncomputable abbrev W3(K:W.Frag)(X:Cx)(scope:Scope)(N:List Str)(tg elt:Expr)(ifs:List Expr)(g:TG)(tt:TT)(te:TE)(m:T->Pe->Option Pe)(ft:Pe->M Bool)(fe:Pe->M T):Prop:=∀{C s₃ H ex pn},N.Nodup->Wm (qB X N scope C s₃ H ex pn)->UG K (qB X N scope C s₃ H ex pn) tg g m/\Lp K Od (qB X N scope C s₃ H ex pn) ifs tt ft/\Pm K Od (qB X N scope C s₃ H ex pn) elt te fe
def jV N ix (h:Wm X) (e:Og K E X tg iter wi fi) (b:W3 K X scope N tg elt ifs g tt te m ft fe) (f:DF X.N X.env.scope scope N ix=true:=by rfl) (a:sR ix g:=by first|exact Av rfl|exact AU rfl rfl) (nd:N.Nodup:=by decide) (d:X.calm=true:=by rfl)
  (c:∀x,foldedSetIterable iter X.env x=pure x:=by intro _;rfl):Hs K E X (.ListComp elt [⟨tg,iter,ifs,0⟩] scope pos) (Lf ix wi g tt te) (lH ix fi m ft fe):=
 let L:=VH h f
 U7 d e L a (λ_ _ _ _ _=>b nd (L8 L)) c
def ue N ix i (j:X.N.Nodup) (p:Wm X) (n:Og K E X tg iter wi fi) (c:W3 K X scope N tg elt ifs g tt te m ft fe)
  (d:MF K E (Lf ix wi g tt te) (lH ix fi m ft fe)->MS K E (q8 (Lf ix wi g tt te) (mx i)) gm) (o:DF X.N X.env.scope scope N ix=true:=by rfl) (a:sR ix g:=by first|exact Av rfl|exact AU rfl rfl) (nd:N.Nodup:=by decide) (f:Hx X.env.scope x:=by first|exact Or.inl rfl|exact Or.inr rfl) (k:X.calm=true:=by rfl)
  (l:X.N[i]? = some x:=by rfl) (h:X.fn x=true\/X.env.scope.names.lookup x=some .local:=by first|exact .inl rfl|exact .inr rfl)
  (b:swapsWith (.ListComp elt [⟨tg,iter,ifs,0⟩] scope pos) (some (.Name x py)) spos.line X.env=pure true:=by rfl)
  (e:∀x,foldedSetIterable iter X.env x=pure x:=by intro _;rfl):xt K E X (.Assign [.Name x py] (.ListComp elt [⟨tg,iter,ifs,0⟩] scope pos) spos) (q8 (Lf ix wi g tt te) (mx i)) gm:=
 let L:=VH p o
 RP i j f k n L a (λ_ _ _ _ _=>c nd (L8 L)) d l h b e
end
end L3
namespace L3
open PySem L2 PySem.Spec PyProof.Rows
section
variable {K:W.Frag}{E:XK}{X:Cx}{o e:Expr}{to:TE}{tr:TA}{fo:Pe->M T}{fr:Pe->M ba}{apos cpos:Pos}
@[simp] noncomputable def JY(fo:Pe->M T)(fr:Pe->M ba):Pe->M T:=λa=>(fo a).bind λx=>match x with
 |.tup ts=>(match kq ts with
  |some ns=>(fr a).bind λb=>(match b with
   |[.int k]=>.ok (.int (ns.count k:Nat))
   |_=>.bad)
  |none=>.bad)
 |_=>.bad
def R3(y:ME K E to fo)(w:MA K E tr fr):ME K E (Su to tr) (JY fo fr):=λF H A z Q s i q=>by
 refine y.run s i q λx v B C c j b=>?_;cases j with
 |tup h r=>
  rename_i a I u;dsimp only at b;cases g:kq u with
  |none=>rw[g]at b;exact b.elim
  |some ns=>
   rw[g]at b;have e:=mX g;subst e;have l:=r.ints;subst l;refine⟨a,ns,rfl,c.fh _ _ h,?_⟩;refine w.run c.fh (i.mono c.ff) b λJ D m p d n f=>?_;split at f
   .rename_i k;cases n with
    |cons a1 b1=>cases a1;cases b1;exact⟨k,rfl,d.fh _ _ (d.ff _ _ h),f _ m p (c.trans d) (.int _)⟩
   .exact f.elim
 |_=>exact b.elim
def RZ(d:Pm K E X o to fo)(f:Et K E X [e] tr fr)
  (a:attributeBase o "count" X.env (eval o X.env)=eval o X.env:=by rfl)
  (c:((backTo cpos (starEach [e] X.env)).all (λx=>!x.1)&&(backToKw cpos (keywordEach [] X.env)).all (λx=>x.1.isSome)
   && decide (([e]:List Expr).length+([]:List Keyword).length+(if ([]:List Keyword).isEmpty then 0 else 1)<30))=true:=by rfl)
  (b:(apos.endLine==cpos.line)=true:=by rfl) (g:starEach [e] X.env=(false,eval e X.env)::starEach [] X.env:=by rfl) (hplain:(backTo cpos (starEach [] X.env)).any (·.1)=false:=by rfl) :
  Pm K E X (.Call (.Attribute o "count" apos) [e] [] cpos) (Su to tr) (JY fo fr):=⟨OO d.pe f.pa a c b g hplain,R3 d.me f.ma⟩
end
end L3
namespace L3
open PySem L2 PySem.Spec PyProof.Rows
section
variable {K:W.Frag}{E:XK}{F H:Hp}{X:Cx}{a b:Expr}{ta tb:TE}{fa fb:Pe->M T}{pos:Pos}
def pR.dr{xs kvs}(r:pR K F xs kvs):DR K F xs kvs:=pR.ind (P:=DR K F) .nil (λ_ _ _ _ _ h _=>.cons ⟨rfl,h⟩) r
def DR.rd{xs kvs}(r:DR K F xs kvs):pR K F xs kvs:=by
 have q:Paired _ xs kvs:=r;clear r;induction q with
 |nil=>exact .nil
 |cons h _ ih=>rename_i p q _ _ _;cases p;cases q;obtain⟨e,h⟩:=h;cases e;exact .cons h ih
noncomputable def pY(kvs:List (LI×T))(k:LI):Option T:=(kvs.find? λc=>decide (c.1=k)).map (·.2)
def pR.val k {c kvs} (r:pR K F c kvs):(pY kvs k=none/\uS c (k.map Sum.inl)=none)\/∃t v,pY kvs k=some t/\uS c (k.map Sum.inl)=some v/\mG K F v t:=
 pR.ind (P:=λc kvs=>(pY kvs k=none/\uS c (k.map Sum.inl)=none)\/∃t v,pY kvs k=some t/\uS c (k.map Sum.inl)=some v/\mG K F v t) (.inl ⟨rfl,rfl⟩) (λj v t _ _ h _ d=>by
  unfold pY uS;by_cases e:j=k
  .subst e;exact .inr ⟨t,v,by simp,by simp,h⟩
  .rw[List.find?_cons_of_neg (by simpa using e),List.find?_cons_of_neg (by simpa using λz=>e (zh z))];exact d) r
def zu:List T->Option (List (LI×T))
 |[]=>some []
 |.tup [.tup ks,v]::r=>(kq ks).bind λc=>(zu r).bind λq=>some ((c,v)::q)
 |_=>none
noncomputable def wz(kvs c:List (LI×T)):List (LI×T):=c.foldl (λk q=>tV k q.1 q.2) kvs
@[simp] noncomputable def Ew:List T->M T
 |[.lst ts]=>match zu ts with
  |some ps=>.ok (.dic (wz [] ps))
  |none=>.bad
 |_=>.bad
def Ml xs:M.NoE (Ew xs):=λC n=>by unfold Ew;split<;>first|(intro z;cases z;done)|(split<;>intro z<;>cases z)
theorem MM:∀{vs} {ts} {ps},jr K F vs ts->zu ts=some ps->∃l:List Pr,vs=l.map (λq=>.ref q.1)/\(∀q∈l,Q3 F q)/\pR K F (l.map λq=>(q.2.2.1,q.2.2.2)) ps
 |_,[],_,.nil,e=>by cases e;exact⟨[],rfl,(λ_ h=>nomatch h),pR.nil⟩
 |_,t::ts,ps,.cons h r,e=>by
  unfold zu at e;split at e
  .rename_i z;cases z
  .rename_i i v m z;cases z;cases d:kq i with
   |none=>rw[d]at e;cases e
   |some ns=>
    rw[d]at e;cases c:zu ts with
    |none=>rw[c]at e;cases e
    |some q=>
     rw[c]at e;cases e;obtain⟨l,rfl,j,g⟩:=MM r c;cases h with
     |tup h rs=>
      cases rs with
      |cons h1 rs=>
       cases rs with
       |cons hv rs=>
        cases rs;cases h1 with
        |tup hb rk=>
         rw[mX d]at rk;rename_i a f b n;refine⟨(a,b,ns.map Sum.inl,f)::l,rfl,λq k=>?_,.cons hv g⟩;rcases aF.mp k with rfl|z
         .exact⟨h,by rw[hb,rk.ints,aI];rfl⟩
         .exact j q z
  .cases e
theorem BY:∀l {xs} {kvs ps},pR K F (l.map λq=>(q.2.2.1,q.2.2.2)) ps->pR K F xs kvs->pR K F (xM xs l) (wz kvs ps)
 |[],_,_,ps,h,r=>by cases h;exact r
 |q::l,xs,kvs,ps,h,r=>by
  generalize e:(q::l).map (λq:Pr=>(q.2.2.1,q.2.2.2))=m at h;cases h with
  |nil=>cases e
  |cons h1 h2=>rw[bK]at e;obtain⟨c,i⟩:=List.cons.inj e;subst i;have d:=(Prod.mk.inj c).1;have f:=(Prod.mk.inj c).2;rename_i k v t g;show pR K F (xM (rO xs q.2.2.1 q.2.2.2) l) (wz (tV kvs k t) g);refine BY l h2 ?_;rw[d,f];exact (r.dr.put _ h1).rd
def QN:MC K (λi H Q=>∃l e,i=[.ref l]/\H l=some (.lst (e.map λq=>.ref q.1))/\(∀q∈e,Q3 H q)/\∀d,H d=none->Mt Q (.ref d) (kU H d (.dT (xM [] e)))) Ew:=⟨Ml,λF H m i Q s r q=>by
 unfold Ew at q;split at q
 .split at q
  .rename_i n _ e c;cases r with
   |cons h t=>
    cases t;cases h with
    |lst h r=>obtain⟨l,rfl,g,j⟩:=MM r c;refine⟨_,l,rfl,s _ _ h,λp c=>⟨s _ _ (g p c).1,s _ _ (g p c).2⟩,λd f=>?_⟩;exact⟨d,_,rfl,jb,λk=>by rw[OW];exact q (.ref d) _ _ (.new s f) (.dic jb ((BY l j .nil).mono (Gr.new s f).ff))⟩
  .exact q.elim
 .exact q.elim⟩
def Py:bootBuiltins "dict" = some (.type "dict"):=by decide +kernel
def Xv(hr:lB k A):A.units+4<cLine:=by have:=hr.un;lia
noncomputable def FG(neg:Bool):T->T->M T
 |.tup ks,.dic kvs=>match kq ks with
  |some ns=>.ok (.bl (if neg then !(pY kvs ns).isSome else (pY kvs ns).isSome))
  |none=>.bad
 |_,_=>.bad
def Tg:R2:=λy x H Q=>∃a o,x=.ref a/\JA H a y o/\Q (.bl o.isSome) H
def Uo(d:X.A.units+1<cLine):sD X (compareOp .In) Tg:=by intro i s j H x y v u Q I f c h;obtain⟨a,o,rfl,g,q⟩:=h;cases c;exact WU d I g f λk e=>⟨.bl _,H,e,rfl,q⟩
def Oq x y:M.NoE (FG neg x y):=λC n=>by unfold FG;split<;>first|(intro z;cases z;done)|(split<;>intro z<;>cases z)
def VR{kvs:List (LI×T)}{c:LI}(s:jI F H)(g:F p=some (.tup vs))(e:jr K F vs (c.map T.int))(f:F d=some (.frz o (.dT xs))):JA H d (.ref p) (uS xs (c.map Sum.inl)):=.inr ⟨xs,_,p,(.inr ⟨o,s _ _ f⟩),rfl,by rw[s _ _ g,e.ints,aI];rfl,rfl⟩
def TQ:MR K Tg (FG false):=⟨Oq,λF H v w x y Q s e rb q=>by
 unfold FG at q;split at q
 .split at q
  .rename_i h kvs _ f g;cases e with
   |tup hp rk=>
    cases rb with
    |dic hd rd=>rw[mX g]at rk;refine⟨_,_,rfl,VR (kvs:=kvs) s hp rk hd,?_⟩;rcases rd.val f with⟨c,d⟩|⟨t,v,c,d,_⟩<;>(rw[c]at q;rw[d];exact kV.now q s (.bl _))
  .exact q.elim
 .exact q.elim⟩
def Oy(hr:lB k X.A)(e:Pm K E X a ta fa)(d:Pm K E X b tb fb)(c:behindInMarks .In b=false:=by rfl):EI K E X (.Compare a [.In] [b] pos) (yn (Ac Tg ta tb)) (jE (iU (FG false) fa fb)):=jN (Uo (KZ hr)) TQ e d c
noncomputable def Nk:T->T->M T
 |.dic kvs,.tup ks=>match kq ks with
  |some ns=>match pY kvs ns with
   |some t=>.ok t
   |none=>.bad
  |none=>.bad
 |_,_=>.bad
def Uh(z:ME K E ta fa)(k:ME K E tb fb):ME K E (M7 ta tb) (iU Nk fa fb):=λF H D C Q s V q=>by
 refine z.run s V q λx v I L e l r=>?_;refine k.run e.fh (V.mono e.ff) r λy w m p h n c=>?_;have j:=l.mono h.ff;unfold Nk at c;split at c
 .split at c
  .rename_i kvs N _ A B;split at c
   .rename_i t d;cases j with
    |dic hd rd=>
     cases n with
     |tup hp rk=>
      rw[mX B]at rk;rcases rd.val A with⟨f,i⟩|⟨J,u,f,i,o⟩
      .rw[f]at d;cases d
      .rw[f]at d;cases d;have g:=VR (kvs:=kvs) h.fh hp rk hd;rw[i]at g;exact⟨_,u,rfl,g,c _ m p (e.trans h) o⟩
   .exact c.elim
  .exact c.elim
 .exact c.elim
def Se(hr:lB k X.A)(d:Pm K E X a ta fa)(c:Pm K E X b tb fb)(e:Sn b:=by intro _ _;rfl):Pm K E X (.Subscript a b pos) (M7 ta tb) (iU Nk fa fb):=⟨PN (KZ hr) d.pe c.pe e,Uh d.me c.me⟩
end
section
variable {P:Program}{w:World}{K:W.Frag}{mg:Str->Option Value}{base:Heap}{x:Str}{st:Stmt}
def UN N ps (e:F=λ_=>.bad) (D:iX K mg x st) (S:lO N ps (i9 st):=by constructor<;>first|rfl|decide +kernel)
  (j:UA x x st ps:=by first|exact λ_ _ _ _ _ _ _ _=>rfl|exact λ_ _ _ _ _ _ _=>rfl|exact λ_ _ _ _ _ _ _ _ _=>rfl):oX P w K mg base x (k+1) (A0 K F):=by
 have i:∀g H Q E,¬A0 K F g H Q E:=λg H Q E h=>by subst e;obtain⟨_,_,_,_,_,z⟩:=h
 exact CD D S (λa b c d e f l m=>uC (j a b c d e f) l m) (λg H Q E h=>absurd h (i _ _ _ _)) λ_ _ _ _ _ _ _ _ _ _ h=>absurd h (i _ _ _ _)
end
end L3
namespace CL
open PySem L2 L3
structure Cs where
 Cutting:Addr
 Desk:Addr
 CutError:Addr
 NoCutting:Addr
 NoTable:Addr
 NoFraction:Addr
 NoSpot:Addr
 NoSigns:Addr
 NoLand:Addr
 NoFace:Addr
 NoNumber:Addr
 NoText:Addr
 NoDeed:Addr
noncomputable abbrev a0:=iM 0
noncomputable abbrev bd:=iM 1
noncomputable abbrev bi:=iM 2
def wN(c:Cs):En->O:=(iZ (setO 2 (j9 (iU zQ a0 bd)))
  (iZ (setO 0 (j9 bd))
  (setO 1 (j9 bi))))
noncomputable abbrev ac:=cM (.int 0)
noncomputable abbrev bv:=iL a0 iQ
noncomputable abbrev ei:=iU (ji true) bd ac
def xm(c:Cs):En->O:=(iZ (λa=>pD (jE ei) (wN c) ((λa=>match a with|_::some (.p (.int j))::_=>j.natAbs+1|_=>0) a) a)
  (jy (lC zC bv)))
def jQ(c:Cs):List T->M T:=mF 2 3 (xm c)
noncomputable abbrev ap:=iL (iM 1) iQ
noncomputable abbrev b3:=iL a0 ap
noncomputable abbrev gi:=iU (ji false) bd ac
def Ul(c:Cs):En->O:=(iZ (mB (jE gi) (λ_=>.bad) ju)
  (iZ (setO 2 (j9 (iV b3 (jQ c))))
  (iZ (mB (jE (iU GY bd ac)) (setO 2 (j9 (pW (λi=>.int (-i)) bi))) ju)
  (jy (kH (iL (iU qj a0 bi) (iL (iU qj bd bi) iQ)))))))
def oM(c:Cs):List T->M T:=mF 2 3 (Ul c)
noncomputable abbrev c4:=iU jA a0 ab
noncomputable abbrev db:=iU jA a0 ac
noncomputable abbrev fy:=iU jA bd ab
noncomputable abbrev iu:=iU jA bd ac
def Ur(c:Cs):En->O:=(iZ (mB (jE (iU (ji false) iu ac)) (λ_=>.bad) ju)
  (jy (iV (iL (iU kP db fy) (iL (iU kP c4 iu) iQ)) (oM c))))
def t5(c:Cs):List T->M T:=mF 2 2 (Ur c)
noncomputable abbrev df:=iU jA a0 bd
def rH(c:Cs):En->O:=(iZ (mB (jE (iU GY bd (lC lK bv))) (jy df) ju)
  (jy ac))
def lh(c:Cs):List T->M T:=mF 2 2 (rH c)
def TR(c:Cs):En->O:=(jy (iV (iL (iU jU (iU kP db fy) (iU kP iu c4)) (iL (iU kP c4 fy) iQ)) (oM c)))
def Ay(c:Cs):List T->M T:=mF 2 2 (TR c)
def QY(c:Cs):En->O:=(jy (iV (iL (iU tO (iU kP db fy) (iU kP iu c4)) (iL (iU kP c4 fy) iQ)) (oM c)))
def xj(c:Cs):List T->M T:=mF 2 2 (QY c)
def Oz(c:Cs):En->O:=(jy (iV (iL (iU kP db iu) (iL (iU kP c4 fy) iQ)) (oM c)))
def rj(c:Cs):List T->M T:=mF 2 2 (Oz c)
def TH(c:Cs):En->O:=(jy (iU GY (iU kP db fy) (iU kP iu c4)))
def mM(c:Cs):List T->M T:=mF 2 2 (TH c)
def Fp(c:Cs):En->O:=(jy (iU qj db c4))
def lN(c:Cs):List T->M T:=mF 1 1 (Fp c)
def Dt(c:Cs):En->O:=(jy (pW (λi=>.int (-i)) (iU qj (pW (λi=>.int (-i)) db) c4)))
def mz(c:Cs):List T->M T:=mF 1 1 (Dt c)
def GI(c:Cs):En->O:=(jy (Be (ux "int" a0) (Du (ux "bool" a0))))
def kc(c:Cs):List T->M T:=mF 1 1 (GI c)
def IE(c:Cs):En->O:=(iZ (mB (jE (iU Iy a0 ac)) (jy ab) ju)
  (iZ (mB (jE (iU GY a0 ac)) (jy (pW (λi=>.int (-i)) ab)) ju)
  (jy ac)))
def kG(c:Cs):List T->M T:=mF 1 1 (IE c)
noncomputable abbrev bo:=jy (cM (.bl false))
noncomputable abbrev di:=cM (.int 2)
def Bi(c:Cs):En->O:=(iZ (mB (vV (lY (jE (ux "tuple" a0))) (jE (iU (ji true) (lC lK bv) di))) bo ju)
  (iZ (mB (vV (lY (jE (iV (iL db iQ) (kc c)))) (lY (jE (iV (iL c4 iQ) (kc c))))) bo ju)
  (jy (Be (iU QX c4 ab) (iU (ji false) (iV (iL db (iL c4 iQ)) (jQ c)) ab)))))
def mH(c:Cs):List T->M T:=mF 1 1 (Bi c)
noncomputable abbrev fI:=cM (.int 3)
def JC(c:Cs):En->O:=(jy (Be (iV bv (kc c)) (Tu Fv Fv ab a0 fI)))
def oj(c:Cs):List T->M T:=mF 1 1 (JC c)
def AG(c:Cs):Pe->M T:=(iV bv (mH c))
noncomputable abbrev b0:=kK 0
noncomputable abbrev dm:=lC lK ap
noncomputable abbrev gk:=jP bd
noncomputable abbrev ii:=jE (iU (ji true) dm a0)
noncomputable abbrev ky:=jE (ux "tuple" bd)
def IM(c:Cs):En->O:=(iZ (mB (vV (lY ky) ii) bo ju)
  (jy (lC wL (iL (kh (lH [none] gk b0 (λ_=>.ok true) (AG c))) iQ))))
def rY(c:Cs):List T->M T:=mF 2 2 (IM c)
def xD(c:Cs):Pe->M T:=(iV bv (kc c))
noncomputable abbrev ic:=iU (ji true) a0 ac
def xA(c:Cs):Pe->M T:=ic
def Lj(c:Cs):En->O:=(iZ (mB (vV (lY ky) (jE (iU (ji true) dm (iU jU a0 ab)))) bo ju)
  (iZ (mB (lY (jE (lC wL (iL (kh (lH [none] gk b0 (λ_=>.ok true) (xD c))) iQ)))) bo ju)
  (jy (lC tN (iL (kh (lH [none] (jP (kM bd (λ_=>.ok none) (jL a0))) b0 (λ_=>.ok true) (xA c))) iQ)))))
def pV(c:Cs):List T->M T:=mF 2 2 (Lj c)
def tX(c:Cs):En->O:=(setO 1 (j9 (iU jU bd ab)))
def Bo(c:Cs):En->O:=(iZ (setO 1 (j9 ac))
  (iZ (λa=>pD (jE (iU (ji false) df ac)) (tX c) ((λa=>match a with|some (.p (.tup ts))::_=>ts.length+1|_=>0) a) a)
  (jy bd)))
def nS(c:Cs):List T->M T:=mF 1 2 (Bo c)
noncomputable abbrev bu:=iM 3
noncomputable abbrev c5:=iM 4
def vy(c:Cs):Pe->M T:=(iU (ji false) (iU kP a0 (iU jA bi bu)) (iU kP bd (iU jA c5 bu)))
noncomputable abbrev ah:=nO 2 (jM (kK 0) (jM (kK 1) nR))
def Df(c:Cs):En->O:=(iZ (setO 2 (j9 (iV bv (nS c))))
  (jy (lC wL (iL (kh (lH [none,none,some 1,some 2,some 0] (nF b3) ah (λ_=>.ok true) (vy c))) iQ))))
def oH(c:Cs):List T->M T:=mF 2 3 (Df c)
noncomputable abbrev bw:=iM 5
noncomputable abbrev ca:=setO 2 (j9 (iU jU (iU kP bi (iU jA bw ab)) (iU kP (iU kP (iM 4) (iU jA bw ac)) bu)))
noncomputable abbrev gV:=setO 3 (j9 (iU kP bu (iU jA bw ab)))
def GU(c:Cs):En->O:=(iZ ca
  gV)
noncomputable abbrev be:=iL (iM 2) iQ
noncomputable abbrev bP:=jf (lq 4) (jf (lq 5) lF)
def JD(c:Cs):En->O:=(iZ (setO 2 (j9 (pW (λi=>.int (-i)) (iU jA a0 (pW (λi=>.int (-i)) ab)))))
  (iZ (setO 3 (j9 ab))
  (iZ (nH (nF (iL (kM a0 (λ_=>.ok none) (jL (pW (λi=>.int (-i)) ab))) ap)) (lG 2 bP) (GU c))
  (jy (iV be (kG c))))))
def sh(c:Cs):List T->M T:=mF 2 6 (JD c)
def tf(c:Cs):Pe->M T:=(iV b3 (oH c))
def E4(c:Cs):En->O:=(iZ (mB (vV (jE (iU QX dm (cM (.int 7)))) (lY (jE (iV (iL a0 be) (pV c))))) bo ju)
  (jy (Du (lC tN (iL (kh (lH [none,some 2] gk b0 (λ_=>.ok true) (tf c))) iQ)))))
def oo(c:Cs):List T->M T:=mF 3 3 (E4 c)
noncomputable abbrev bf:=iL (iM 3) iQ
noncomputable abbrev g8:=iL bi bf
def tJ(c:Cs):En->O:=(iZ (mB (lY (jE (iV (iL a0 g8) (oo c)))) (λ_=>.bad) ju)
  (si 2 (j9 (lC lJ bf))))
noncomputable abbrev io:=sW (lstM iQ)
noncomputable abbrev ld:=jE (ux "list" bd)
def zE(c:Cs):En->O:=(iZ (mB (vV (lY (jE (iV bv (oj c)))) (lY ld)) (λ_=>.bad) ju)
  (iZ (qC 2 io)
  (iZ (nH gk (lq 3) (tJ c))
  (jy (lC lJ be)))))
def l8(c:Cs):List T->M T:=mF 2 4 (zE c)
noncomputable abbrev h8:=iL bd be
def l5(c:Cs):List T->M T:=Ck c.Cutting 2 "own_cuts" "own_dims" (iV h8 (l8 c)) bd
def AI(c:Cs):En->O:=(jy (Gq c.Cutting "own_dims" a0))
def lx(c:Cs):List T->M T:=mF 1 1 (AI c)
def Af(c:Cs):En->O:=(rh (G9 p7 (iL (Gq c.Cutting "own_cuts" a0) iQ)))
def lu(c:Cs):List T->M ba:=zw 1 1 (Af c)
def DJ(c:Cs):En->O:=(setO 3 (j9 (iU qj bu bi)))
def FP(c:Cs):En->O:=(iZ (mB (jE (iU QX a0 (iU OU (cM (.int 10)) (cM (.int 18))))) (iZ (setO 3 (j9 a0))
  (iZ (yD (qc ap) (lq 4) (DJ c))
  (jy (iU zQ bu bi)))) ju)
  (iZ (setO 5 (j9 (iU zQ (iU kP (iU jU (iU jU (iU zQ a0 (cM (.int 1000000007))) (iU kP (cM (.int 1009)) bd)) (cM (.int 17))) (cM (.int 69621))) (cM (.int 2147483647)))))
  (iZ (setO 5 (j9 (iU zQ (iU jU (iU jU (iU kP bw bw) (iU kP (cM (.int 40503)) bd)) (cM (.int 5))) (cM (.int 2147483629)))))
  (jy (iU zQ (iU qj (iU zQ (iU kP bw (cM (.int 48271))) (cM (.int 2147483647))) (cM (.int 32))) bi)))))
def jD(c:Cs):List T->M T:=mF 3 6 (FP c)
def yp(c:Cs):En->O:=(mB (jE (iU (ji true) (iU kP (iU jA a0 bi) (iU jA bd bu)) (iU kP (iU jA a0 bu) (iU jA bd bi)))) bo ju)
def Ef(c:Cs):En->O:=(yD (qc be) (lq 3) (yp c))
noncomputable abbrev li:=cM (.bl true)
def FW(c:Cs):En->O:=(iZ (yD (qc (iL (lC lK bv) iQ)) (lq 2) (Ef c))
  (jy li))
def n8(c:Cs):List T->M T:=mF 2 4 (FW c)
def MY(c:Cs):Pe->M T:=(iU kP a0 bd)
def Vq(c:Cs):En->O:=(jy (lC Fx (iL (kh (lH [none,none] (nF b3) ah (λ_=>.ok true) (MY c))) iQ)))
def vX(c:Cs):List T->M T:=mF 2 2 (Vq c)
def Cj(c:Cs):En->O:=(iZ (setO 1 (j9 (iV h8 (jQ c))))
  (mB (jE (iU (ji false) bd ab)) (jy a0) ju))
def JT(c:Cs):Pe->M T:=(iU qj a0 bd)
noncomputable abbrev ek:=jP a0
def N3(c:Cs):En->O:=(iZ (setO 1 (j9 ac))
  (iZ (nH ek (lq 2) (Cj c))
  (iZ (mB (jE gi) (jy a0) ju)
  (jy (lC lJ (iL (kh (lH [none,some 1] ek b0 (λ_=>.ok true) (JT c))) iQ))))))
def mW(c:Cs):List T->M T:=mF 1 3 (N3 c)
def FA(c:Cs):Pe->M T:=(iU jU (iU kP bi a0) (iU kP bu bd))
def Jl(c:Cs):En->O:=(iZ (mB (jE (iU (ji false) (iU jA a0 bi) ac)) (jy a0) ju)
  (iZ (setO 3 (j9 (lC zC (iL (iU jA bd bi) iQ))))
  (iZ (setO 4 (j9 (iU kP (pW (λi=>.int (-i)) (iU jA a0 bi)) (iV (iL (iU jA bd bi) iQ) (kG c)))))
  (jy (iV (iL (lC lJ (iL (kh (lH [none,none,some 3,some 4] (nF b3) ah (λ_=>.ok true) (FA c))) iQ)) iQ) (mW c))))))
def j7(c:Cs):List T->M T:=mF 3 5 (Jl c)
noncomputable abbrev gg:=kh (lstM (iL ac iQ))
noncomputable abbrev ia:=iL c5 iQ
def yq(c:Cs):En->O:=(iZ (qC 4 (sW (Dp gg (lC lK bv))))
  (iZ (yf 4 (qr bi) (qr ab))
  (si 1 (qr (iU jU bu (lC lJ ia))))))
noncomputable abbrev dk:=lG 2 (jf (lq 2) (jf (lq 3) lF))
def FN(c:Cs):En->O:=(iZ (qC 1 io)
  (iZ (nH (rZ bv) dk (yq c))
  (sU 1)))
def m9(c:Cs):List T->M ba:=zw 1 5 (FN c)
def vE(c:Cs):En->O:=(setO 0 (j9 (iV (iL a0 (iL bu be)) (j7 c))))
def IY(c:Cs):En->O:=(iZ (nH gk dk (vE c))
  (jy a0))
def nA(c:Cs):List T->M T:=mF 2 4 (IY c)
def uX(c:Cs):Pe->M T:=(kH (iL a0 (iL (iV (iL bd g8) (j7 c)) iQ)))
def C5(c:Cs):En->O:=(rh (zA (kh (lH [none,none,some 1,some 2] ek ah (λ_=>.ok true) (uX c))) (kh (lstM (iL (kH (iL bi ap)) iQ)))))
def nv(c:Cs):List T->M ba:=zw 3 3 (C5 c)
def qq(c:Cs):Pe->M T:=a0
noncomputable abbrev cb:=kh (lstM iQ)
noncomputable abbrev da:=iM 6
def nL(c:Cs):En->O:=(iZ (setO 5 (j9 (iV (iL c5 be) (nA c))))
  (iZ (setO 6 (j9 (kh (lH [none,some 5] (qc ap) b0 (jE (iU (ji true) (iU jA bd a0) ac)) (qq c)))))
  (mB (jE (iU (ji false) da cb)) (si 3 (j9 bw)) (setO 2 (j9 (kh (ke (iL bi (iL bw (iL (iU jA da ac) iQ))) (nv c))))))))
def vS(c:Cs):En->O:=(iZ (setO 2 (j9 cb))
  (iZ (qC 3 io)
  (iZ (nH ek (lq 4) (nL c))
  (jy (kH g8)))))
def kb(c:Cs):List T->M T:=mF 2 7 (vS c)
def AY(c:Cs):Pe->M T:=a0
def zF(c:Cs):Pe->M T:=a0
def Bu(c:Cs):En->O:=(iZ (setO 2 (j9 (kh (lH [none,none] ek ah (λ_=>.ok true) (AY c)))))
  (rh (lH [none,some 2] (qc ap) b0 (jE (iU (Mw true) a0 bd)) (zF c))))
def nW(c:Cs):List T->M ba:=zw 2 3 (Bu c)
noncomputable abbrev dd:=iL ab iQ
def ub(c:Cs):En->O:=(setO 2 (j9 (iV (iL bi (iL (iV (iL (kH (iL bu dd)) ia) (rj c)) iQ)) (xj c))))
noncomputable abbrev bq:=jf (lq 3) (jf (lq 4) lF)
noncomputable abbrev ll:=lG 2 bq
def Gw(c:Cs):En->O:=(iZ (setO 2 (j9 (kH (iL (iU jA a0 dm) dd))))
  (iZ (nH (nF b3) ll (ub c))
  (jy bi)))
def mV(c:Cs):List T->M T:=mF 2 5 (Gw c)
def yj(c:Cs):En->O:=(yf 2 (qr bu) (qr (iV (iL (iV (iL c5 ap) (mV c)) (iL (kH (iL (iU jA c5 bu) dd)) iQ)) (t5 c))))
def K3(c:Cs):En->O:=(iZ (qC 2 (sW (G9 p7 ap)))
  (iZ (nH ek ll (yj c))
  (jy (lC lJ be))))
def t9(c:Cs):List T->M T:=mF 2 5 (K3 c)
def wX(c:Cs):En->O:=(setO 1 (j9 (iU qj (iU kP bd (iU jA bi ab)) (iV (iL bd (iL (iU jA bi ab) iQ)) (jQ c)))))
def wJ(c:Cs):Pe->M T:=(iU kP db (iU qj bd c4))
def DM(c:Cs):En->O:=(iZ (setO 1 (j9 ab))
  (iZ (nH ek (lq 2) (wX c))
  (jy (iV (iL (lC lJ (iL (kh (lH [none,some 1] ek b0 (λ_=>.ok true) (wJ c))) iQ)) iQ) (mW c)))))
def lA(c:Cs):List T->M T:=mF 1 3 (DM c)
def JV(c:Cs):En->O:=(jy (iU tO (iV (iL (kM a0 (λ_=>.ok none) (jL (pW (λi=>.int (-i)) ab))) (iL (kM bd (λ_=>.ok none) (jL (pW (λi=>.int (-i)) ab))) iQ)) (vX c)) (iU kP (iU jA a0 (pW (λi=>.int (-i)) ab)) (iU jA bd (pW (λi=>.int (-i)) ab)))))
def mh(c:Cs):List T->M T:=mF 2 2 (JV c)
def wD(c:Cs):En->O:=(iZ (setO 6 (j9 (lC zC (iL (iV (iL (kM bw (λ_=>.ok none) (jL (pW (λi=>.int (-i)) ab))) (iL (kM bd (λ_=>.ok none) (jL (pW (λi=>.int (-i)) ab))) iQ)) (vX c)) iQ))))
  (setO 4 (j9 (lC BI (iL c5 (iL (iU jU (iU qj da (lC zC (iL (iV (iL bw be) (mh c)) iQ))) ab) iQ))))))
def w6(c:Cs):Pe->M T:=(iU jU (iU kP bi a0) (iU kP bu bd))
noncomputable abbrev jd:=iL (iM 7) iQ
def EA(c:Cs):En->O:=(iZ (setO 4 (j9 ab))
  (iZ (nH ek (lq 5) (wD c))
  (iZ (setO 7 (j9 (kh (lH [none,none,some 4,some 3] (nF (iL (kM bi (λ_=>.ok none) (jL (pW (λi=>.int (-i)) ab))) (iL (kM bd (λ_=>.ok none) (jL (pW (λi=>.int (-i)) ab))) iQ))) ah (λ_=>.ok true) (w6 c)))))
  (jy (iV (iL (iU jU (lC lJ jd) (kH (iL (iU kP c5 (iU jA bi (pW (λi=>.int (-i)) ab))) iQ))) iQ) (mW c))))))
def mw(c:Cs):List T->M T:=mF 4 8 (EA c)
noncomputable abbrev e6:=jL (iU jU bd ab)
def yQ(c:Cs):En->O:=(jy (iU jU (kM a0 (λ_=>.ok none) (jL bd)) (kM a0 e6 (λ_=>.ok none))))
def kS(c:Cs):List T->M T:=mF 2 2 (yQ c)
def yA(c:Cs):Pe->M T:=(iU kP bd a0)
def F6(c:Cs):En->O:=(iZ (setO 3 (j9 (lC zC (iL df iQ))))
  (iZ (setO 4 (j9 (iU kP (pW (λi=>.int (-i)) (iV (iL df iQ) (kG c))) (iV (iL (iV b3 (kS c)) be) (mh c)))))
  (iZ (setO 5 (j9 (lC lJ (iL (kh (lH [none,some 3] (jP bi) b0 (λ_=>.ok true) (yA c))) iQ))))
  (jy (iV (iL (iU jU (iU jU (kM bw (λ_=>.ok none) (jL bd)) (kH ia)) (kM bw (jL bd) (λ_=>.ok none))) iQ) (mW c))))))
def n5(c:Cs):List T->M T:=mF 3 6 (F6 c)
def w9(c:Cs)(a:List T->M T):Pe->M T:=a0
def wa(c:Cs)(a:List T->M T):Pe->M T:=(iV (iL (iV (iL a0 (iL bi ap)) (j7 c)) ap) (kS c))
def wu(c:Cs)(a:List T->M T):Pe->M T:=(Du (lC tN bv))
def Dw(c:Cs)(a:List T->M T):Pe->M T:=(kH (iL a0 (iL (iV (iL bi (iL bu ap)) (n5 c)) iQ)))
noncomputable abbrev ib:=iU jA bi ac
def EF(c:Cs)(a:List T->M T):En->O:=(iZ (setO 2 (j9 (kh (lH [none,none] (rZ (iL (kM bd (λ_=>.ok none) (jL (pW (λi=>.int (-i)) ab))) iQ)) ah (jE ei) (w9 c a)))))
  (iZ (mB (jE (iU (ji false) bi cb)) (rh (lstM iQ)) ju)
  (iZ (setO 3 (j9 ib))
  (iZ (setO 4 (j9 (kh (lH [none,some 3,some 1] ek b0 (λ_=>.ok true) (wa c a)))))
  (iZ (mB (jE (lC tN (iL (kh (lH [none] (jP c5) b0 (λ_=>.ok true) (wu c a))) iQ))) (rh (lstM iQ)) ju)
  (rh (lH [none,none,some 1,some 3] (jP (iV (iL c5 (iL (iU tO dm di) iQ)) a)) ah (λ_=>.ok true) (Dw c a))))))))
def m7(c:Cs)(a:List T->M T):List T->M ba:=zw 2 5 (EF c a)
def pG(c:Cs)(a:List T->M T):En->O:=(si 4 (j9 (kH (iL (iU jU bw (kH jd)) (iL (iV (iL bd (iL bi (iL (iU Nk bu bw) jd))) (mw c)) iQ)))))
noncomputable abbrev k4:=iL da iQ
def rW(c:Cs)(a:List T->M T):En->O:=(mB (jE (iU (FG false) bw bu)) (nH (jP (kH (iL (pW (λi=>.int (-i)) ab) dd))) (lq 7) (pG c a)) (si 4 (j9 (kH (iL (iU jU bw (kH (iL (iV (iL (iV (iL bi k4) (mh c)) iQ) (kG c)) iQ))) k4)))))
def yS(c:Cs)(a:List T->M T):En->O:=(iZ (setO 3 (j9 (lC Ew (iL (kh (ke h8 (m7 c a))) iQ))))
  (iZ (qC 4 io)
  (iZ (nH ek (lG 2 (jf (lq 5) (jf (lq 6) lF))) (rW c a))
  (sU 4))))
def mD(c:Cs)(a:List T->M T):List T->M ba:=zw 3 8 (yS c a)
def Ez(c:Cs)(a:List T->M T):En->O:=(setO 2 (j9 (kh (ke (iL bi (iL (kM a0 (λ_=>.ok none) (jL bu)) ia)) (mD c a)))))
def OJ(c:Cs)(a:List T->M T):En->O:=(iZ (setO 2 (j9 (kh (lstM (iL (kH (iL (kH iQ) (iL (iU jU (G5 (kH (iL ac iQ)) bd) (kH dd)) iQ))) iQ)))))
  (iZ (nH (rZ bv) ll (Ez c a))
  (jy bi)))
def my(c:Cs):Nat->List T->M T
 |0=>λ_=>.bad
 |k+1=>mF 2 5 (OJ c (my c k))
def uw(c:Cs):Pe->M T:=(Be (iV bv (kc c)) (Tu Fv Fv (pW (λi=>.int (-i)) ab) a0 ab))
def GO(c:Cs):En->O:=(iZ (mB (vV (lY ky) ii) bo ju)
  (jy (lC wL (iL (kh (lH [none] gk b0 (λ_=>.ok true) (uw c))) iQ))))
def qU(c:Cs):List T->M T:=mF 2 2 (GO c)
def Jk(c:Cs):Pe->M T:=(iU kP bd a0)
def LD(c:Cs):En->O:=(jy (lC lJ (iL (kh (lH [none,some 1] ek b0 (λ_=>.ok true) (Jk c))) iQ)))
def oS(c:Cs):List T->M T:=mF 2 2 (LD c)
def B0(c:Cs):En->O:=(mB (jE (iU (ji false) (iU jA bw bi) ac)) (Ao 4 (qr bw) (qr li)) ju)
def ya(c:Cs):Pe->M T:=a0
def yi(c:Cs):Pe->M T:=a0
def xT(c:Cs):Pe->M T:=a0
def xR(c:Cs):En->O:=(iZ (setO 8 (j9 (iV (iL da (iL (iM 7) be)) (j7 c))))
  (mB (jE (iU Fv (lC lK (iL (kh (lH [none] (jP (kM (iM 8) e6 (λ_=>.ok none))) b0 (jE ic) (xT c))) iQ)) bu)) (Ao 4 (qr (iM 8)) (qr li)) ju))
def BJ(c:Cs):En->O:=(nH (jP (kh (lH [none,some 2] ek b0 (jE (iU GY df ac)) (yi c)))) (lq 7) (xR c))
def Lc(c:Cs):En->O:=(iZ (Nu 4)
  (iZ (nH ek (lq 5) (B0 c))
  (iZ (nH (jP (kh (lH [none,some 2] ek b0 (jE (iU Iy df ac)) (ya c)))) (lq 6) (BJ c))
  (xk 4))))
def uc(c:Cs):List T->M ba:=zw 4 9 (Lc c)
def zO(c:Cs):En->O:=(iZ (setO 6 (qr (iU jU (iU jU (lC lK ia) ab) (lC lK bf))))
  (B2 4 (yG (ke (iL (iU jA c5 (pW (λi=>.int (-i)) ab)) (iL bd (iL bw k4))) (uc c)))))
def JU(c:Cs):En->O:=(iZ (qC 4 (sW (lstM bv)))
  (iZ (nH (jP bi) (lq 5) (zO c))
  (sU 4)))
def r6(c:Cs):List T->M ba:=zw 4 7 (JU c)
noncomputable abbrev ga:=iU jA bw bd
noncomputable abbrev gK:=iU (mE false) bu b4
def Am(c:Cs):En->O:=(mB (jE (iU (ji true) ga ac)) (iZ (setO 6 (j9 (iV (iL (iV (iL bw be) (mV c)) (iL (kH (iL ga dd)) iQ)) (t5 c))))
  (iZ (mB (nP (jE (iU Iy ga ac)) (vV (jE gK) (jE (iV (iL bu k4) (mM c))))) (setO 3 (j9 da)) ju)
  (mB (nP (jE (iU GY ga ac)) (vV (jE (iU (mE false) c5 b4)) (jE (iV (iL da ia) (mM c))))) (setO 4 (j9 da)) ju))) ju)
def JN(c:Cs):En->O:=(iZ (setO 3 (j9 b4))
  (iZ (setO 4 (j9 b4))
  (iZ (nH ek (lq 5) (Am c))
  (jy (kH (iL bu ia))))))
def qI(c:Cs):List T->M T:=mF 3 7 (JN c)
noncomputable abbrev dl:=nP (jE (iU (mE true) bd b4)) (jE (iU Fv (iU jA bd ac) ac))
noncomputable abbrev dL:=jE (iU (mE true) a0 b4)
def yF(c:Cs):En->O:=(iZ (setO 2 (j9 ac))
  (iZ (mB (nP dL (jE (iU QX db ac))) (setO 2 (j9 (iU jU (iV bv (lN c)) ab))) (mB dl (setO 2 (j9 (iU tO (iV ap (mz c)) ab))) ju))
  (iZ (mB (nP dL (lY (jE (iV (iL a0 (iL (kH (iL bi dd)) iQ)) (mM c))))) (jy b4) ju)
  (iZ (mB (nP (jE (iU (mE true) bd b4)) (lY (jE (iV (iL (kH (iL bi dd)) ap) (mM c))))) (jy b4) ju)
  (jy bi)))))
def lP(c:Cs):List T->M T:=mF 2 3 (yF c)
def oO(c:Cs):En->O:=(iZ (setO 4 (j9 (iV bv (lN c))))
  (iZ (si 2 (j9 c5))
  (iZ (setO 5 (j9 (iU tO db (iU kP c5 c4))))
  (iZ (setO 6 (j9 (UZ (jE (iU (ji false) bw ac)) b4 (kH (iL c4 (iL bw iQ))))))
  (iZ (setO 0 (j9 (kH (iL fy (iL (iU tO iu (iU kP c5 fy)) iQ)))))
  (iZ (setO 1 (j9 da))
  (setO 3 (j9 (iV b3 (lP c))))))))))
def oP(c:Cs):En->O:=(setO 7 (j9 (kH (iL (iU jU (iU kP c5 (iU jA (iM 7) ac)) (iU jA (iM 7) ab)) (iL (iU jA (iM 7) ac) iQ)))))
def A8(c:Cs):En->O:=(iZ (mB (nP dL (jE (iU (ji false) a0 bd))) (jy a0) ju)
  (iZ (qC 2 io)
  (iZ (setO 3 (j9 (iV b3 (lP c))))
  (iZ (λd=>pD (jE gK) (oO c) ((λd=>match d with|some (.p (.tup [_,.int a]))::some (.p (.tup [_,.int b]))::_=>a.natAbs+b.natAbs+2|_=>1) d) d)
  (iZ (setO 7 (j9 (kH (iL bu dd))))
  (iZ (UC 2 (nH (IT be) (lq 4) (oP c)))
  (jy (iM 7))))))))
def lZ(c:Cs):List T->M T:=mF 2 8 (A8 c)
def tK(c:Cs):En->O:=(iZ (setO 6 (qr (iV (iL (iU jA a0 c5) (iL bw bf)) (qI c))))
  (yf 3 (qr bw) (qr (iV (iL (iU jA da ac) (iL (iU jA da ab) iQ)) (lZ c)))))
def AV(c:Cs):En->O:=(iZ (qC 3 (sW (G9 p7 be)))
  (iZ (nH (IT (iL (kh (Vt ap)) iQ)) (lG 2 bP) (tK c))
  (sU 3)))
def l7(c:Cs):List T->M ba:=zw 3 7 (AV c)
def qh(c:Cs):En->O:=(mB (jE (iU (ji true) (iU jA bi bd) ac)) (jy (kh (G9 p7 (iL (kM (iV (iL bi (iL (iV (iL (iU jA bi bd) iQ) (kG c)) iQ)) (oS c)) e6 (λ_=>.ok none)) iQ)))) ju)
def vP(c:Cs):En->O:=(iZ (nH ek (lq 2) (qh c))
  (jy b4))
def kD(c:Cs):List T->M T:=mF 2 3 (vP c)
def qf(c:Cs):Pe->M T:=a0
def qi(c:Cs):Pe->M T:=(iV (iL (iV b3 (oS c)) be) (nA c))
def nJ(c:Cs):En->O:=(mB (jE (iU QX (iU jA (iM 10) bd) ac)) (jy (kH (iL (cM (.str "paper")) (iL (kh (G9 p7 (iL (kM (iM 10) e6 (λ_=>.ok none)) iQ))) iQ)))) ju)
noncomputable abbrev j1:=lstM (iL (kH (iL ac dd)) iQ)
def nZ(c:Cs):En->O:=(iZ (setO 3 (j9 (kh (ke bv (m9 c)))))
  (iZ (setO 4 (j9 (iV (iL (kh (lH [none,none] (nF (iL bu be)) ah (jE gi) (qf c))) ap) (kb c))))
  (iZ (setO 5 (j9 (iV (iL (iU jA c5 ab) ap) (kD c))))
  (iZ (mB (jE (iU (mE true) bw b4)) (jy (kH (iL (cM (.str "paper")) (iL bw iQ)))) ju)
  (iZ (setO 6 (j9 (iU jA c5 ac)))
  (iZ (setO 7 (j9 (kh (lH [none,none,some 6] (nF (iL bu be)) ah (jE ei) (qi c)))))
  (iZ (setO 8 (j9 (kh (ke (iL da ap) (nW c)))))
  (iZ (setO 9 (j9 (kh (ke (iL (iM 7) (iL bd (iL (iM 8) k4))) (r6 c)))))
  (iZ (nH (jP (iU jA (iM 9) (pW (λi=>.int (-i)) ab))) (lq 10) (nJ c))
  (jy (kH (iL (cM (.str "spot")) (iL (iV (iL da (iL (kh (ke (iL (iM 9) (iL (iM 8) (iL (kh (Dp (kh j1) bd)) iQ))) (l7 c))) iQ)) (t9 c)) iQ)))))))))))))
def lg(c:Cs):List T->M T:=mF 3 11 (nZ c)
def uU(c:Cs):Pe->M T:=(iV bv (kc c))
def CK(c:Cs):En->O:=(iZ (mB (vV (lY ld) ii) bo ju)
  (jy (lC wL (iL (kh (lH [none] gk b0 (λ_=>.ok true) (uU c))) iQ))))
def oU(c:Cs):List T->M T:=mF 2 2 (CK c)
def Ei(c:Cs):En->O:=(jy (Vp (iU (ji false) a0 ac) (Vp gi (iU (ji false) (iV ap (kG c)) a0))))
def pO(c:Cs):List T->M T:=mF 2 2 (Ei c)
def NZ(c:Cs):Pe->M T:=a0
def Pj(c:Cs):En->O:=(rh (lH [none,none] (jP (iV (iL (kh (yd c.Cutting "cuts" a0 iQ (lu c))) (iL (BN c.Cutting "dims" a0 iQ (lx c)) iQ)) (my c 5))) ah (λ_=>.ok true) (NZ c)))
def pK(c:Cs):List T->M ba:=zw 1 1 (Pj c)
def Gb(c:Cs):Pe->M T:=(iV (iL a0 (iL (iU jA bd (pW (λi=>.int (-i)) ab)) iQ)) (oM c))
def J2(c:Cs):En->O:=(jy (lC lJ (iL (kh (lH [none,some 0] (jP (kM a0 (λ_=>.ok none) (jL (pW (λi=>.int (-i)) ab)))) b0 (λ_=>.ok true) (Gb c))) iQ)))
def rR(c:Cs):List T->M T:=mF 1 1 (J2 c)
def Bc(c:Cs):Pe->M T:=(iV ap (rR c))
def CV(c:Cs):En->O:=(rh (lH [none,none] (jP (iV (iL (kh (yd c.Cutting "cuts" a0 iQ (lu c))) (iL (BN c.Cutting "dims" a0 iQ (lx c)) iQ)) (my c 5))) ah (λ_=>.ok true) (Bc c)))
def lR(c:Cs):List T->M ba:=zw 1 1 (CV c)
def wF(c:Cs):Pe->M T:=(iU tO (iV (iL bi (iL (iU jU (iU jU (cM (.int 4)) (iU kP (cM (.int 4)) bu)) a0) (iL (iU jU (iU kP di bd) ab) iQ))) (jD c)) bd)
def wM(c:Cs):Pe->M T:=(iU jU a0 (iU kP bi bd))
noncomputable abbrev ec:=iL a0 (iL (iU jU (cM (.int 50)) bd) (iL (lC lK bf) iQ))
noncomputable abbrev fm:=iU (ji true) bu cb
noncomputable abbrev ip:=iU jU (cM (.int 60)) bd
noncomputable abbrev j2:=iU (ji false) da ab
def Eg(c:Cs):En->O:=(iZ (setO 4 (j9 (iU jA (kh (lstM (iL ab (iL di (iL fI (iL (cM (.int 5)) (iL (cM (.int 1000)) iQ))))))) (iV (iL a0 (iL di (iL (cM (.int 5)) iQ))) (jD c)))))
  (iZ (qC 5 (sW (lH [none,some 4,some 0,some 1] (qc (iL (iU jU bi ab) iQ)) b0 (λ_=>.ok true) (wF c))))
  (iZ (setO 6 (j9 (iV (iL a0 (iL (iU jU (cM (.int 40)) bd) (iL (cM (.int 6)) iQ))) (jD c))))
  (iZ (mB (nP (jE j2) (jE fm)) (qC 5 (yG (zA (kh (G9 p7 (iL (kM (iU jA bu (iV ec (jD c))) (λ_=>.ok none) (jL bi)) iQ))) (kM bw (jL bi) (λ_=>.ok none))))) ju)
  (iZ (mB (jE (iU (ji false) da di)) (yf 5 (qr bi) (qr ac)) ju)
  (iZ (mB (nP (jE (iU (ji false) da fI)) (jE (iU Iy (lC lK bf) ab))) (iZ (setO 7 (j9 (iU jA bu (iV (iL a0 (iL (iU jU (cM (.int 50)) bd) (iL (iU tO (lC lK bf) ab) iQ))) (jD c)))))
  (iZ (setO 8 (j9 (iU jU ab (iV (iL a0 (iL ip (iL fI iQ))) (jD c)))))
  (qC 5 (sW (lH [none,none,some 8] (nF (iL (iU jA bu (pW (λi=>.int (-i)) ab)) jd)) ah (λ_=>.ok true) (wM c)))))) ju)
  (iZ (mB (jE (iU (ji false) (kM bw (λ_=>.ok none) (jL bi)) (kh (Dp gg bi)))) (yf 5 (qr (iV (iL a0 (iL ip be)) (jD c))) (qr ab)) ju)
  (jy (lC lJ (iL bw iQ))))))))))
def mZ(c:Cs):List T->M T:=mF 4 9 (Eg c)
def qN(c:Cs):Pe->M T:=a0
def tZ(c:Cs):En->O:=(iZ (setO 5 (qr (iV (iL a0 (iL c5 g8)) (mZ c))))
  (mB (jE (iU (ji false) (kh (lH [none,some 5] (jP bu) b0 (jE (iV b3 (n8 c))) (qN c))) cb)) (si 3 (j9 bw)) ju))
def Bf(c:Cs):En->O:=(iZ (setO 2 (j9 (iU jA (kh (lstM (iL ab (iL di (iL di (iL fI (iL fI iQ))))))) (iV (iL a0 (iL ac (iL (cM (.int 5)) iQ))) (jD c)))))
  (iZ (qC 3 io)
  (iZ (yD (qc (iL (iV (iL a0 (iL ab (iL (iU jU bd ab) iQ))) (jD c)) iQ)) (lq 4) (tZ c))
  (jy (kH g8)))))
def nX(c:Cs):List T->M T:=mF 2 6 (Bf c)
def uv(c:Cs):Pe->M T:=(iV (iL bd bv) (rY c))
def Br(c:Cs):En->O:=(iZ (mB (vV (lY (jE (iV bv (oj c)))) (vV (lY ld) (lY (jE (Tu Fv Fv ab dm (cM (.int 8))))))) (λ_=>.bad) ju)
  (mB (lY (jE (lC wL (iL (kh (lH [none,some 0] gk b0 (λ_=>.ok true) (uv c))) iQ)))) (λ_=>.bad) ju))
def lj(c:Cs):List T->M T:=mF 2 2 (Br c)
def Kk(c:Cs):En->O:=(jy (Be (iV (iL (lC lK bv) ap) (qU c)) (lC tN ap)))
def qV(c:Cs):List T->M T:=mF 2 2 (Kk c)
def E5(c:Cs):En->O:=(iZ (vm (j9 (iV b3 (lj c))))
  (mB (lY (jE (iV h8 (qV c)))) (λ_=>.bad) ju))
def m8(c:Cs):List T->M T:=mF 3 3 (E5 c)
def Je(c:Cs):Pe->M T:=(iU jU (iV (iL (iU jU a0 (kH (iL (kH (iL ab dd)) iQ))) iQ) (lA c)) (kH (iL ac iQ)))
def Na(c:Cs):En->O:=(rh (lH [none] ek b0 (λ_=>.ok true) (Je c)))
def qS(c:Cs):List T->M ba:=zw 1 1 (Na c)
def uP(c:Cs):Pe->M T:=(iU kP bd (iU jA a0 (pW (λi=>.int (-i)) di)))
def vR(c:Cs):En->O:=(rh (lH [none,none] (nF b3) ah (λ_=>.ok true) (uP c)))
def kC(c:Cs):List T->M ba:=zw 2 2 (vR c)
def vA(c:Cs):Pe->M T:=(iV (iL db iQ) (lN c))
def Do(c:Cs):En->O:=(iZ (setO 3 (j9 (iU tO (lC Ce (iL (kh (lH [none] gk b0 (λ_=>.ok true) (vA c))) iQ)) ab)))
  (jy (iV (iL (iU jU (iU jU (kH dd) (G5 (kH (iL ac iQ)) (iU tO a0 ab))) (kH bf)) be) (oS c))))
def oz(c:Cs):List T->M T:=mF 3 4 (Do c)
def CH(c:Cs):En->O:=(iZ (mB (jE (iU (ji false) (JY bi (iL ib iQ)) (lC lK be))) (jy (kH (iL (cM (.str "cut")) (iL (iV (iL a0 (iL bd (iL ib iQ))) (oz c)) iQ)))) ju)
  (iZ (setO 3 (j9 (kh (ke ap (qS c)))))
  (iZ (setO 4 (j9 (iV (iL bu (iL (iU jU a0 ab) be)) (lg c))))
  (iZ (mB (jE (iU (ji false) (iU jA c5 ac) (cM (.str "paper")))) (jy (kH (iL (cM (.str "weights")) (iL (kh (ke (iL bu (iL (iU jA c5 ab) iQ)) (kC c))) iQ)))) ju)
  (iZ (setO 5 (j9 (iV (iL (iU jA c5 ab) iQ) (lA c))))
  (jy (kH (iL (cM (.str "cut")) (iL (iU jU (kM bw (λ_=>.ok none) (jL (pW (λi=>.int (-i)) ab))) (kH (iL (pW (λi=>.int (-i)) (iU jA bw (pW (λi=>.int (-i)) ab))) iQ))) iQ)))))))))
def ni(c:Cs):List T->M T:=mF 3 6 (CH c)
def DX(c:Cs):Pe->M T:=(iU (ji false) (iV (iL bi bv) (sh c)) bd)
def PX(c:Cs):En->O:=(iZ (vm (j9 (iV (iL a0 h8) (m8 c))))
  (iZ (mB (lY (jE (iV (iL a0 bf) (pV c)))) bo ju)
  (jy (lC wL (iL (kh (lH [none,none,some 3] (nF h8) ah (λ_=>.ok true) (DX c))) iQ)))))
def wd(c:Cs):List T->M T:=mF 4 4 (PX c)
def oQ(c:Cs):En->O:=(setO 2 (j9 (iV (iL bi (iL (iV (iL bu (iL (kH (iL c5 dd)) iQ)) (rj c)) iQ)) (Ay c))))
def xW(c:Cs):En->O:=(iZ (setO 2 (j9 (kH (iL ac dd))))
  (iZ (nH (nF b3) ll (oQ c))
  (jy (iU (ji false) ib ac))))
def l9(c:Cs):List T->M T:=mF 2 5 (xW c)
def rN(c:Cs):Pe->M T:=(iV b3 (pO c))
def nr(c:Cs):Pe->M T:=(Be ic ei)
def rQ(c:Cs):Pe->M T:=df
def sr(c:Cs):Pe->M T:=(iV (iL (kh (lH [none,some 0] (jP bi) b0 (λ_=>.ok true) (rQ c))) ap) (l9 c))
def yH(c:Cs):En->O:=(iZ (vm (j9 (iV (iL a0 h8) (m8 c))))
  (iZ (mB (lY (jE (iV (iL dm bf) (oU c)))) bo ju)
  (iZ (mB (lY (jE (lC wL (iL (kh (lH [none,none] (nF g8) ah (λ_=>.ok true) (rN c))) iQ)))) bo ju)
  (iZ (mB (lY (jE (lC tN (iL (kh (lH [none,none] (nF g8) ah (λ_=>.ok true) (nr c))) iQ)))) bo ju)
  (iZ (mB (jE (iU (ji true) (lC Fx bf) ac)) bo ju)
  (jy (lC wL (iL (kh (lH [none,some 3,some 1] (qc bv) b0 (λ_=>.ok true) (sr c))) iQ))))))))
def mC(c:Cs):List T->M T:=mF 4 4 (yH c)
def t8(c:Cs):En->O:=(mB (lY (jE (iV (iL bd ia) (qV c)))) (λ_=>.bad) ju)
def A4(c:Cs):En->O:=(iZ (vm (j9 (iV b3 (lj c))))
  (iZ (mB (vV (lY (jE (ux "list" bi))) (lY (jE (Tu Fv Fv ab (lC lK be) (cM (.int 8)))))) (λ_=>.bad) ju)
  (nH (rZ be) ll (t8 c))))
def nQ(c:Cs):List T->M T:=mF 3 5 (A4 c)
def tU(c:Cs):En->O:=(iZ (setO 6 (j9 (iV (iL a0 (iL bd (iL bw iQ))) (ni c))))
  (iZ (mB (jE (iU (ji false) (iU jA da ac) (cM (.str "weights")))) (jy (kH (iL (cM (.str "row")) (iL c5 (iL (iU jA da ab) iQ))))) ju)
  (si 3 (j9 (iU jA da ab)))))
def Ba(c:Cs):En->O:=(iZ (vm (j9 (iV (iL a0 h8) (nQ c))))
  (iZ (qC 3 io)
  (iZ (nH (rZ be) (lG 2 bP) (tU c))
  (jy (kH (iL (cM (.str "cuts")) bf))))))
def nN(c:Cs):List T->M T:=mF 3 7 (Ba c)
def nu(c:Cs):Pe->M T:=(UZ (jE (iU GY a0 ac)) (pW (λi=>.int (-i)) ab) ab)
def yM(c:Cs):En->O:=(iZ (vm (j9 (iV b3 (lj c))))
  (iZ (setO 2 (j9 (kh (ke ap (qS c)))))
  (iZ (setO 3 (j9 (iU jA (iV (iL (kh (ke be (m9 c))) (iL (iU jU a0 ab) iQ)) (kb c)) ab)))
  (iZ (mB (jE (iU (ji false) bu cb)) (jy b4) ju)
  (iZ (setO 4 (j9 (kh (ke (iL bi (iL (kM (iU jA bu ac) (jL (iU jU a0 di)) (λ_=>.ok none)) iQ)) (kC c)))))
  (jy (kH (iL (lC lJ (iL (kh (lH [none] (jP c5) b0 (λ_=>.ok true) (nu c))) iQ)) ia))))))))
def kR(c:Cs):List T->M T:=mF 2 5 (yM c)
def uV(c:Cs):En->O:=(iZ ca
  gV)
def DB(c:Cs):En->O:=(iZ (setO 2 (j9 (pW (λi=>.int (-i)) (iU jA a0 (pW (λi=>.int (-i)) ab)))))
  (iZ (setO 3 (j9 ab))
  (iZ (nH (nF b3) (lG 2 bP) (uV c))
  (jy (iU tO (lC zP (iL (iU Iy bi ac) iQ)) (lC zP (iL (iU GY bi ac) iQ)))))))
def oJ(c:Cs):List T->M T:=mF 2 6 (DB c)
def vB(c:Cs):Pe->M T:=df
def vx(c:Cs):Pe->M T:=(lC lJ (iL (kh (lH [none,some 0] gk b0 (λ_=>.ok true) (vB c))) iQ))
def vv(c:Cs):Pe->M T:=(iV (iL bi (iL bu b3)) (wd c))
def vq(c:Cs):Pe->M T:=(iV (iL bd bv) (oJ c))
def vz(c:Cs):En->O:=(mB (jE (iU (ji true) (lC lJ (iL (kh (lH [none,some 10] (jP da) b0 (λ_=>.ok true) (vq c))) iQ)) (iM 9))) bo ju)
def vn(c:Cs):Pe->M T:=(iV (iL bd (iL bi (iL a0 (iL (iU jA bu ab) iQ)))) (mC c))
noncomputable abbrev em:=iU (ji true) (iU jA (iM 8) ac) (cM (.str "cuts"))
noncomputable abbrev eH:=iU (ji true) (lC lK (iL (iU jA (iM 8) ab) iQ)) dm
noncomputable abbrev kt:=jL (iU jU c5 (cM (.int 8)))
def wW(c:Cs):En->O:=(iZ (setO 3 (j9 (iV (iL a0 (iL (kh (G9 p7 ap)) iQ)) (l5 c))))
  (iZ (setO 4 (j9 (iV (iL bi (iL (cM (.int 90)) (iL (lC lK (iL (kh (ke bf (pK c))) iQ)) iQ))) (jD c))))
  (iZ (setO 5 (j9 (kM (kh (zA (kh (ke bf (pK c))) (kh (ke bf (pK c))))) (jL c5) kt)))
  (iZ (setO 6 (j9 (kM (kh (zA (kh (ke bf (lR c))) (kh (ke bf (lR c))))) (jL c5) kt)))
  (iZ (setO 7 (j9 (kh (lH [none,some 5] (qc (iL dm iQ)) b0 (λ_=>.ok true) (vx c)))))
  (iZ (mB (lY (jE (lC wL (iL (kh (lH [none,none,some 0,some 6] (nF (iL (iM 7) ap)) ah (λ_=>.ok true) (vv c))) iQ)))) bo ju)
  (iZ (setO 8 (j9 (iV (iL a0 (iL da jd)) (nN c))))
  (iZ (mB (vV (jE em) (jE eH)) bo ju)
  (iZ (nH (nF (iL (iM 7) (iL (iU jA (iM 8) ab) iQ))) (lG 2 (jf (lq 9) (jf (lq 10) lF))) (vz c))
  (iZ (setO 11 (j9 (iV (iL a0 k4) (kR c))))
  (iZ (mB (jE (iU (mE false) (iM 11) b4)) (jy li) ju)
  (jy (Du (lC tN (iL (kh (lH [none,some 0,some 6,some 11] (jP (iM 7)) b0 (λ_=>.ok true) (vn c))) iQ)))))))))))))))
def nj(c:Cs):List T->M T:=mF 3 12 (wW c)
def Cq(c:Cs):En->O:=(iZ (My (iV (iL (iV b3 (lh c)) (iL (cM (.int 5)) iQ)) (nX c)) dk)
  (mB (nP (jE fm) (lY (jE (iV (iL bi (iL bu (iL (iV b3 (lh c)) iQ))) (nj c))))) bo ju))
def NP(c:Cs):En->O:=(iZ (nH (jP (kh (lstM (iL ac (iL ab (iL ac iQ)))))) (lq 1) (Cq c))
  (jy li))
def wY(c:Cs):List T->M T:=mF 1 4 (NP c)
variable {c:Cs}
def GX ns (k:Nat):∃v,lh c [.scr ns,.int k]=.ok (.int v)/\(v=0\/v∈ns):=by
 by_cases h:(k:Int)<ns.length
 .obtain⟨a,e,b⟩:=Dh ns k (bE _) h;exact⟨a,by simp[lh,rH,h,e],.inr b⟩
 .exact⟨0,by simp[lh,rH,h],.inl rfl⟩
def oq(h:i.natAbs<2 ^ 64):kP (.int i) (.int j)=.ok (.int (i*j)):=jx (xV h)
def Q4 cell (k:Nat) b (l:0<b) (H:b<2 ^ 62) (E:k<=1000000):∃d,jD c [.int cell,.int (k:Int),.int b]=.ok (.int d)/\0<=d/\d<b:=by
 have f:b≠0:=by exact dD l
 have z:∀x:Int,0<=x.fmod b/\x.fmod b<b:=λx=>⟨dh x l,du x l⟩;have j:OU (.int 10) (.int 18)=.ok (.int 1000000000000000000):=by simp[OU,oZ]
 by_cases h:(1000000000000000000:Int)<=cell
 .obtain⟨o,e,v,w,rfl⟩:=kj (m:=lq 4) (g:=setO 3 (j9 (iU qj bu bi))) (λ(i:Nat)=>T.int (i:Int)) (λ_ o=>∃v w,o=[some (.p (.int cell)),some (.p (.int k)),some (.p (.int b)),some (.p (.int v)),w,none])
   (List.range k) 0 [some (.p (.int cell)),some (.p (.int k)),some (.p (.int b)),some (.p (.int cell)),none,none] ⟨_,_,rfl⟩ (by rintro i a o J ⟨v,w,rfl⟩;have B:Builtin.divisionGoesByPylong v b=false:=Bn.noPy (n:=62) (by unfold Bn;omega) (by decide);exact⟨_,_,rfl,.inl (iY (iP rfl rfl (Ep f B)) rfl),_,_,rfl⟩)
  refine⟨v.fmod b,jh rfl ?_,z v⟩;have r:DH (k:Int)=true:=nB E;refine lE (jR (i6 (iP rfl (iP rfl rfl j) (by simp[h]))) (iR (iY rfl rfl) (iR (uM (by simp[r,K5]) e) (i7 (iP rfl rfl (sL f)))))) rfl
 .have u:∀x y:Int,0<y->0<=x.fmod y/\x.fmod y<y:=λx y A=>⟨dh x A,du x A⟩;have I:=u cell 1000000007 (by decide);have C:=u ((cell.fmod 1000000007+1009*k+17)*69621) 2147483647 (by decide);generalize q:((cell.fmod 1000000007+1009*k+17)*69621).fmod 2147483647=s1 at C;have F:=u (s1*s1+40503*k+5) 2147483629 (by decide);generalize s:(s1*s1+40503*k+5).fmod 2147483629=s2 at F;have D:Builtin.divisionGoesByPylong ((s2*48271).fmod 2147483647) 32=false:=Bn.noPy (n:=62) (by unfold Bn;decide) (by decide);refine⟨(((s2*48271).fmod 2147483647).fdiv 32).fmod b,jh rfl ?_,z _⟩;refine iR (jw (i6 (iP rfl (iP rfl rfl j) (by simp[h]))) rfl) (iR (iY (t:=.int s1) ?_ rfl) (iR (iY (t:=.int s2) ?_ rfl) (i7 ?_)))
  .rw[<-q];exact iP (iP (iP (iP (iP rfl rfl (sL (by decide))) (iP rfl rfl (oq (by decide))) rfl) rfl rfl) rfl (oq (by omega))) rfl (sL (by decide))
  .rw[<-s];exact iP (iP (iP (iP rfl rfl (oq (by omega))) (iP rfl rfl (oq (by decide))) rfl) rfl rfl) rfl (sL (by decide))
  .exact iP (iP (iP (iP rfl rfl (oq (by omega))) rfl (sL (by decide))) rfl (Ep (by decide) D)) rfl (sL f)
def dr(c:Cs)(a k b:Int):Int:=match jD c [.int a,.int k,.int b] with
 |.ok (.int d)=>d
 |_=>0
def oC cell k b (f:0<b) (a:b<2 ^ 62) (g:0<=k) (h:k<=1000000):jD c [.int cell,.int k,.int b]=.ok (.int (dr c cell k b))/\0<=dr c cell k b/\dr c cell k b<b:=by
 obtain⟨d,e,j,i⟩:=Q4 cell k.toNat b f a (by simp[h]);rw[cV g]at e;have:dr c cell k b=d:=by unfold dr;rw[e]
 rw[this];exact⟨e,j,i⟩
def HZ(l:LI)(i:Int)(d:0<=i)(f:i<l.length):∃w,jA (.lst (l.map T.int)) (.int i)=.ok (.int w)/\w∈l:=by obtain⟨a,e,b⟩:=Dh l i d f;exact⟨a,by simp[qA,e],b⟩
def VM i:(if i<0 then -i else i)=(i.natAbs:Int):=by split<;>lia
def lQ a b:jQ c [.int a,.int b]=.ok (.int (Cu.G a b)):=by
 obtain⟨d,e,x,w,rfl,i⟩:=tm (c:=jE ei) (g:=iZ (setO 2 (j9 (iU zQ a0 bd))) (iZ (setO 0 (j9 bd)) (setO 1 (j9 bi))))
  (λd=>∃x y w,d=[some (.p (.int x)),some (.p (.int y)),w]/\Cu.G x y=Cu.G a b) (λd=>match d with|_::some (.p (.int j))::_=>j.natAbs|_=>0)
  (λd=>∃x w,d=[some (.p (.int x)),some (.p (.int 0)),w]/\Cu.G x 0=Cu.G a b) (by
   rintro d ⟨x,y,w,rfl,h⟩;by_cases f:y=0
   .subst f;exact .inl ⟨by simp,_,_,rfl,h⟩
   .refine .inr ⟨by simp[f],_,.inl (iR (iY (t:=.int (x.fmod y)) (by simp[sL f]) rfl) (iR (iY (by simp) rfl) (iY (by simp) rfl))),⟨y,x.fmod y,_,rfl,?_⟩,?_⟩
    .rw[<-h];exact Cu.Ga x y
    .exact Cu.J9 x y f)
  (b.natAbs+1) [some (.p (.int a)),some (.p (.int b)),none] ⟨a,b,none,rfl,rfl⟩ (bM _)
 refine jh rfl (iR e (i7 ?_));rw[Cu.NR]at i;simp[VM,i]
structure RC(p:Int×Int):Prop where
 pos:0<p.2
 one:Cu.G p.1 p.2=1
 b1:Bn 670 p.1
 b2:Bn 670 p.2
def tE{t g:Int}(b:g ∣ t)(a:g≠0):(t.fdiv g).natAbs<=t.natAbs:=by obtain⟨k,rfl⟩:=b;rw[dC k a,aY];exact Nat.le_mul_of_pos_left _ (by simp[a])
def xv(t b:Int):Int×Int:=(t.fdiv (Cu.G t b),b.fdiv (Cu.G t b))
def A1(d:Nat)(s:List (Int×Int)):Prop:=s.length=d/\∀p∈s,RC p
noncomputable def Kc:T->Bool
 |.scr _=>false
 |.obj _ _=>false
 |.dic _=>false
 |_=>true
noncomputable def isInt:T->Bool
 |.int _=>true
 |_=>false
def yz x (h:Kc x=true):kc c [x]=.ok (.bl (isInt x)):=by cases x<;>first|(simp[Kc]at h;done)|rfl
def Pz x (h:Kc x=true):OR "tuple" x=.ok (.bl (v9 x)):=by cases x<;>first|(simp[Kc]at h;done)|rfl
def Ec:T->Bool
 |.lst _=>true
 |_=>false
def PJ x (h:Kc x=true):OR "list" x=.ok (.bl (Ec x)):=by cases x<;>first|(simp[Kc]at h;done)|rfl
noncomputable def lL(x:Int):Int:=if 0<x then 1 else if x<0 then -1 else 0
def xY x:-1<=lL x/\lL x<=1:=by unfold lL;split<;>(try split)<;>decide
def pE x:kG c [.int x]=.ok (.int (lL x)):=by
 unfold lL;by_cases h:0<x
 .rw[aQ h];exact jh rfl (lE (jR (by simp[h]) (i7 (by simp))) rfl)
 .rw[aR h];by_cases a:x<0
  .rw[aQ a];exact jh rfl (iR (jw (by simp[h]) rfl) (lE (jR (by simp[a]) (i7 (by simp))) rfl))
  .rw[aR a];exact jh rfl (iR (jw (by simp[h]) rfl) (iR (jw (by simp[a]) rfl) (i7 (by simp))))
def nY(bs:List Bool):wL [.lst (bs.map T.bl)]=.ok (.bl (bs.all id)):=by simp
def uI(bs:List Bool):tN [.lst (bs.map T.bl)]=.ok (.bl (bs.any id)):=by simp
noncomputable def qX(d:Nat):T->Bool
 |.tup ts=>decide (ts.length=d+1)&&ts.all isInt&&(match kq ts with|some ns=>(ns.take d).any (· != 0)|none=>false)
 |_=>false
theorem Ai:∀ts,ts.all isInt=true->∃a:LI,ts=a.map T.int
 |[],_=>⟨[],rfl⟩
 |t::ts,h=>by
  rw[b9,bZ]at h;obtain⟨a,e⟩:=Ai ts h.2;cases t with
  |int i=>exact⟨i::a,by rw[e];rfl⟩
  |_=>simp[isInt]at h
def Cg(d:Nat)(q:d<=10) x (l:Kc x=true) (p:∀ts,x=.tup ts->ts.length<1000/\∀t∈ts,Kc t=true):pV c [.int d,x]=.ok (.bl (qX d x)):=by
 have sz:1000<sizeLine:=by decide
 by_cases f:v9 x=true
 .cases x with
  |tup ts=>
   obtain⟨r,o⟩:=p ts rfl;by_cases e:ts.length=d+1
   .have i:lH [none] gk b0 (λ_=>.ok true) (xD c) (vw (jG 2 [.int d,.tup ts]))=.ok ((ts.map isInt).map T.bl):=by rw[zb ts id (λt=>T.bl (isInt t)) (by simp) (by lia) λt f=>⟨_,rfl,rfl,by simp[xD,yz t (o t f)]⟩];simp
    have j:(L3.vV (L3.lY ky) (jE (iU (ji true) dm (iU jU a0 ab)))) (vw (jG 2 [.int d,.tup ts]))=.ok false:=by simp[e]
    by_cases h:ts.all isInt=true
    .obtain⟨b,rfl⟩:=Ai ts h;have g:b.length=d+1:=by simpa using e
     have a:qX d (.tup (b.map T.int))=(b.take d).any (· != 0):=by simp[qX,g,h]
     rw[a];have k:lH [none] (jP (kM bd (λ_=>.ok none) (jL a0))) b0 (λ_=>.ok true) (xA c) (vw (jG 2 [.int d,.tup (b.map T.int)]))=.ok (((b.take d).map λn=>n != 0).map T.bl):=by rw[zb (b.take d) T.int (λn=>T.bl (n != 0)) (Ae (by rw[dU];exact xb rfl rfl (by simp;simp[g]))) (by simp;lia) λn e=>⟨_,rfl,rfl,by simp[xA,bne]⟩];rw[aI];rfl
     refine jh rfl (iR (jw j rfl) (iR (jw (og (i6 (mP i (nY _))) ?_) rfl) (i7 (mP k ?_))))
     .rw[cN];simpa using h
     .rw[uI,cO];rfl
    .have a:qX d (.tup ts)=false:=by simp[qX,h]
     rw[a];refine jh rfl (iR (jw j rfl) (lE (jR (og (i6 (mP i (nY _))) ?_) (i7 rfl)) rfl));rw[cN];simpa using h
   .have a:qX d (.tup ts)=false:=by simp[qX,e]
    rw[a];refine jh rfl (lE (jR ?_ (i7 rfl)) rfl);have:¬(ts.length=(d:Int)+1):=by exact mt b5.mp e
    simp[this]
  |_=>simp[v9]at f
 .have a:qX d x=false:=by cases x<;>first|rfl|(simp[v9]at f;done)
  rw[a];refine jh rfl (lE (jR ?_ (i7 rfl)) rfl);have m:v9 x=false:=by simpa using f
  have:=Pz x l;rw[m]at this;simp only[L3.vV,L3.lY,jE,ux,iM,vw,jG,bK,cB,eF,cy,List.getElem?_cons_succ,List.getElem?_cons_zero,WJ,M.bind_ok,this];rfl
def Q8(a:Int×Int)(p:Int×(Int×Int)):Int×Int:=(a.1*p.2.2+p.1*p.2.1*a.2,a.2*p.2.2)
def IP(a:List (Int×(Int×Int)))(b:Int):Int:=(a.foldl Q8 (b,1)).1
def sv(cut:LI)(s:List (Int×Int)):Int:=IP (cut.dropLast.zip s) (-(cut.getLast?.getD 0))
def AZ(l:List α)(h:l≠[]):rG l (-1)=l.getLast?:=by obtain⟨m,a,rfl⟩:∃m a,l=m++[a]:=⟨l.dropLast,l.getLast h,(eG h).symm⟩;rw[L2.NA];simp
theorem AA cut0 spot0 a l0 n (R:a.length<=4) (J:Bn n l0) (C:n<=900000) (r:∀p∈a,Bn n p.1/\RC p.2) f d
  (N:g=iZ ca gV) :
  ∃b h i,kX (lG 2 bP) g (a.map λp=>T.tup [.int p.1,fr p.2]) [some cut0,some spot0,some (.p (.int l0)),some (.p (.int 1)),f,d]=.nx [some cut0,some spot0,some (.p (.int (IP a l0))),some (.p (.int b)),h,i]:=by
 have A:∀(a:List (Int×(Int×Int))) k (l b) (f d),a.length+k<=4->Bn (n+1400*k) l->Bn (670*k+1) b->(∀p∈a,Bn n p.1/\RC p.2)->
   ∃z h i,kX (lG 2 bP) g (a.map λp=>T.tup [.int p.1,fr p.2]) [some cut0,some spot0,some (.p (.int l)),some (.p (.int b)),f,d]=.nx [some cut0,some spot0,some (.p (.int (a.foldl Q8 (l,b)).1)),some (.p (.int z)),h,i]:=by
  intro a;induction a with
  |nil=>intro k l b f d _ _ _ _;exact⟨b,f,d,rfl⟩
  |cons p a ih=>
   intro k l b f d P D m r;obtain⟨q,t,u⟩:=p;obtain⟨s,B⟩:=r _ (bj ..);have o:=B.b1;have j:=B.b2;dsimp only at s o j;simp only[ay]at P;have Q:=D.ok j (by lia) (by decide);have K:=s.ok o (aN C (by decide)) (by decide);have L:=(s.mul o).ok m (bg (cD (eI C _) (by decide))) (by lia);have F:=m.ok j (by lia) (by decide);have y:Bn (n+1400*(k+1)) (l*u+q*t*b):=((D.mul j).add ((s.mul o).mul m)).mono (by lia);have w:Bn (670*(k+1)+1) (b*u):=(m.mul j).mono (aK _);obtain⟨z,h,i,e⟩:=ih (k+1) (l*u+q*t*b) (b*u) (some (.p (.int q))) (some (.p (fr (t,u)))) (by lia) y w λp x=>r p (bx _ x);refine⟨z,h,i,?_⟩;rw[bK,kX];have E:(lG 2 bP) (T.tup [.int q,fr (t,u)]) [some cut0,some spot0,some (.p (.int l)),some (.p (.int b)),f,d]=some [some cut0,some spot0,some (.p (.int l)),some (.p (.int b)),some (.p (.int q)),some (.p (fr (t,u)))]:=rfl;rw[E];have H:g [some cut0,some spot0,some (.p (.int l)),some (.p (.int b)),some (.p (.int q)),some (.p (fr (t,u)))]=.nx [some cut0,some spot0,some (.p (.int (l*u+q*t*b))),some (.p (.int (b*u))),some (.p (.int q)),some (.p (fr (t,u)))]:=by
    rw[N];refine iR (iY ?_ rfl) (iY ?_ rfl)
    .have v:rG [T.int t,T.int u] 1=some (.int u):=rfl;have I:rG [T.int t,T.int u] 0=some (.int t):=rfl;simp[fr,v,I,jx Q,jx K,jx L]
    .have v:rG [T.int t,T.int u] 1=some (.int u):=rfl;simp[fr,v,jx F]
   dsimp only;rw[H];exact e
 obtain⟨b,h,i,e⟩:=A a 0 l0 1 f d (by omega) (by simpa using J) (by unfold Bn;decide) r;exact⟨b,h,i,e⟩
def FZ d n (k:d<=3) (o:n<=900000) cut s (g:cut.length=d+1) (f:∀x∈cut,Bn n x) (h:A1 d s):sh c [tI cut,tS s]=.ok (.int (lL (sv cut s))):=by
 have a:cut≠[]:=by intro z;rw[z]at g;simp at g
 have j:cut.getLast? = some (cut.getLast a):=List.getLast?_eq_getLast a;obtain⟨b,q,r,e⟩:=AA (.p (tI cut)) (.p (tS s)) (cut.dropLast.zip s) (-(cut.getLast a)) n (by simp[h.1];exact bg (cD (bT _ _) (cD k (by decide)))) (f _ (eJ a)).neg o (λp l=>by have:=aW l;exact⟨f _ (eK _ this.1),h.2 _ this.2⟩) none none rfl
 have hv:sv cut s=IP (cut.dropLast.zip s) (-(cut.getLast a)):=by unfold sv;rw[j];rfl
 rw[hv];refine jh rfl (iR (iY ?_ rfl) (iR (iY rfl rfl) (iR (ku ?_ e) (i7 ?_))))
 .have:rG cut (-1)=some (cut.getLast a):=by rw[AZ cut a,j]
  simp[tI,qA,this]
 .have m:kM a0 (λ_=>.ok none) (jL (pW (λi=>.int (-i)) ab)) (qH [some (.p (tI cut)),some (.p (tS s)),some (.p (.int (-(cut.getLast a)))),some (.p (.int 1)),none,none])=.ok (.tup (cut.dropLast.map T.int)):=by rw[eM];exact zW rfl (by simpa using a)
  exact nG m rfl rfl rfl
 .exact nU rfl (pE _)
def Nm p (d:0<p.2) (f:Cu.G p.1 p.2=1):mH c [fr p]=.ok (.bl true):=by
 obtain⟨t,u⟩:=p;have a:rG [T.int t,T.int u] 1=some (.int u):=rfl;have b:rG [T.int t,T.int u] 0=some (.int t):=rfl;have w:∀i:Int,kc c [.int i]=.ok (.bl true):=λi=>rfl;refine jh rfl (iR (jw (by simp[fr]) rfl) (iR (jw (by simp[fr,b,a,w]) rfl) (i7 ?_)));have e:1<=u:=by exact d
 simp[fr,b,a,e,lQ,f]
def z9 p (h:RC p):mH c [fr p]=.ok (.bl true):=Nm p h.pos h.one
def FH d s (h:A1 d s) (f:d<=3):rY c [.int d,tS s]=.ok (.bl true):=by
 have sz:1000<sizeLine:=by decide
 have e:=h.1;have a:lH [none] gk b0 (λ_=>.ok true) (AG c) (vw (jG 2 [.int d,tS s]))=.ok ((s.map λ_=>true).map T.bl):=by exact j5 s fr (λ_=>T.bl true) rfl (by lia) (λp b=>⟨_,rfl,rfl,nU rfl (z9 p (h.2 p b))⟩) (by simp)
 refine jh rfl (iR (jw (by simp[tS,e]) rfl) (i7 (mP a ?_)));rw[nY];simp
def AB(d:Nat)(h:1<=d/\d<=3):oj c [.int d]=.ok (.bl true):=by
 have w:kc c [.int d]=.ok (.bl true):=rfl;have b:(1:Int)<=d:=by exact dz.mpr h.1
 have a:(d:Int)<=3:=by exact dz.mpr h.2
 exact jh rfl (i7 (by simp[w,b,a]))
def qM d (a:List (List (Int×Int))) (e:1<=d/\d<=3) (b:1<=a.length/\a.length<=8) (h:∀s∈a,A1 d s):lj c [.int d,.lst (a.map tS)]=.ok .non:=by
 have sz:1000<sizeLine:=by decide
 have g:lH [none,some 0] gk b0 (λ_=>.ok true) (uv c) (vw (jG 2 [.int d,.lst (a.map tS)]))=.ok ((a.map λ_=>true).map T.bl):=by exact j5 a tS (λ_=>T.bl true) rfl (cD b.2 (by decide)) (λp j=>⟨_,rfl,rfl,jv rfl rfl (FH d p (h p j) e.2)⟩) (by simp)
 have f:(1:Int)<=a.length:=by exact dz.mpr b.1
 have i:(a.length:Int)<=8:=by exact dz.mpr b.2
 refine NW rfl (iR (jw (by simp[AB d e,f,i]) rfl) (jw (og (i6 (mP g (nY _))) (by simp)) rfl))
structure A5(n:Nat)(r:LI):Prop where
 len:r.length=n
 in1:∀x∈r,-1<=x/\x<=1
 some:∃x∈r,x≠0
def EE(n:Nat) r (d:r.length=n) (e:n<=100) (h:∀x∈r,-1<=x/\x<=1):qU c [.int n,tI r]=.ok (.bl true):=by
 have sz:1000<sizeLine:=by decide
 have w:∀i:Int,kc c [.int i]=.ok (.bl true):=λi=>rfl;have b:lH [none] gk b0 (λ_=>.ok true) (uw c) (vw (jG 2 [.int n,tI r]))=.ok ((r.map λ_=>true).map T.bl):=by rw[zb r T.int (λ_=>T.bl true) rfl (by lia) λx a=>⟨_,rfl,rfl,by simp[uw,w,(h x a).1,(h x a).2]⟩];simp
 refine jh rfl (iR (jw (by simp[tI,d]) rfl) (i7 (mP b ?_)));rw[nY];simp
def Bz(a:List (List (Int×Int))) r (d:a.length<=100) (h:A5 a.length r):qV c [.lst (a.map tS),tI r]=.ok (.bl true):=by
 have e:=EE (c:=c) a.length r h.len d h.in1;obtain⟨x,g,b⟩:=h.some;refine jh rfl (i7 ?_);have f:tN [tI r]=.ok (.bl true):=by simp only[tI,tN,uZ,AS];congr 2;rw[cO];exact eN.mpr ⟨x,g,by simp[b]⟩
 simp only[Be,jE];rw[jv (by simp) rfl e];simp only[M.bind_ok,if_true];exact nV rfl f
def sP d (a:List (List (Int×Int))) r (e:1<=d/\d<=3) (b:1<=a.length/\a.length<=8) (h:∀s∈a,A1 d s) (hr:A5 a.length r):m8 c [.int d,.lst (a.map tS),tI r]=.ok .non:=NW rfl (iR (sJ (jv rfl rfl (qM d a e b h))) (jw (og (i6 (jv rfl rfl (Bz a r (aN b.2 (by decide)) hr))) rfl) rfl))
def vT(d:Nat)(a:List (List (Int×Int)))(r:LI)(x:T):Bool:=qX d x&&(match x with
 |.tup ts=>(match kq ts with
  |some ns=>(a.zip r).all λp=>lL (sv ns p.1)==p.2
  |none=>false)
 |_=>false)
theorem Nt d n ss r x (f:1<=d/\d<=3) (w:n<=900000) (l:1<=ss.length/\ss.length<=8) (h:∀s∈ss,A1 d s) (hr:A5 ss.length r)
  (v:Kc x=true) (y:∀ts,x=.tup ts->ts.length<1000/\∀t∈ts,Kc t=true) (o:∀a:LI,x=tI a->∀z∈a,Bn n z):wd c [.int d,.lst (ss.map tS),tI r,x]=.ok (.bl (vT d ss r x)):=by
 have sz:1000<sizeLine:=by decide
 have j:=Cg (c:=c) d (aN f.2 (by decide)) x v y;by_cases e:qX d x=true
 .cases x with
  |tup ts=>
   have b:=e;simp only[qX,bZ,decide_eq_true_eq]at b;obtain⟨⟨i,m⟩,_⟩:=b;obtain⟨a,rfl⟩:=Ai ts m;have g:a.length=d+1:=by simpa using i
   have q:lH [none,none,some 3] (nF h8) ah (λ_=>.ok true) (DX c) (vw (jG 4 [.int d,.lst (ss.map tS),tI r,tI a]))=.ok (((ss.zip r).map λp=>lL (sv a p.1)==p.2).map T.bl):=by exact j5 (ss.zip r) (λp=>T.tup [tS p.1,.int p.2]) (λp=>T.bl (lL (sv a p.1)==p.2)) (nG rfl rfl rfl rfl) (by simp;omega) (λp u=>⟨_,rfl,rfl,iP (jv rfl rfl (FZ d n f.2 w a p.1 g (o a rfl) (h p.1 (aW u).1))) rfl (jW _ _)⟩) (by rw[aI];rfl)
   have hv:vT d ss r (.tup (a.map T.int))=(ss.zip r).all λp=>lL (sv a p.1)==p.2:=by simp[vT,e]
   rw[hv];refine jh rfl (iR (sJ (mv rfl rfl rfl (sP d ss r f l h hr))) (iR (jw (og (i6 (jv rfl rfl j)) (by rw[e];rfl)) rfl) (i7 (mP q ?_))));rw[nY,cN];rfl
  |_=>simp[qX]at e
 .have k:qX d x=false:=by simpa using e
  have hv:vT d ss r x=false:=by simp[vT,k]
  rw[hv];exact jh rfl (iR (sJ (mv rfl rfl rfl (sP d ss r f l h hr))) (lE (jR (og (i6 (jv rfl rfl j)) (by rw[k];rfl)) (i7 rfl)) rfl))
def Ve n:(List.replicate n [T.int 0]).flatten=(List.replicate n (0:Int)).map T.int:=by
 induction n with
 |zero=>rfl
 |succ n ih=>rw[cj,cm,ih,cj];rfl
def RB(n:Nat)(a:n<=1000)(h:f ρ=.ok (.int (n:Int))):kh (Dp gg f) ρ=.ok (.lst ((List.replicate n (0:Int)).map T.int)):=by
 have sz:1000<sizeLine:=by decide
 have hr:DH n=true:=nB (aN a (dM _ _));have d:1<=sizeLine:=by decide
 have b:n<=sizeLine:=by exact aN a (dM _ _)
 simp[h,hr,d,b,Ve]
def Ru(n:Nat)(a:n<=1000)(h:f ρ=.ok (.int (n:Int))):G5 (kH (iL ac iQ)) f ρ=.ok (.tup ((List.replicate n (0:Int)).map T.int)):=by
 have sz:1000<sizeLine:=by decide
 have hr:DH n=true:=nB (aN a (dM _ _));have d:1<=sizeLine:=by decide
 have b:n<=sizeLine:=by exact aN a (dM _ _)
 simp[h,DO,hr,d,b,Ve]
end CL
namespace L3
open PySem L2
theorem vU{f:Type} enc (P:En->Prop) p t:∀(l:List f) (ρ:En),P ρ->
  (∀a∈l,∀ρ,P ρ->∃d,m (enc a) ρ=some d/\(p a=true->∃c,g d=.nx c/\P c)/\(p a=false->g d=.rt t))->
  (l.all p=true->∃ρ',kX m g (l.map enc) ρ=.nx ρ'/\P ρ')/\(l.all p=false->kX m g (l.map enc) ρ=.rt t)
 |[],ρ,h,_=>⟨λ_=>⟨ρ,rfl,h⟩,λh=>by simp at h⟩
 |a::l,ρ,h,st=>by
  obtain⟨d,k,o,n⟩:=st a (by simp) ρ h;rw[bK,kX,k];dsimp only;cases e:p a with
  |true=>obtain⟨c,q,r⟩:=o e;rw[q];have s:=vU enc P p t l c r λb i ρ j=>st b (by simp[i]) ρ j;rw[b9,e,Bool.true_and];exact s
  |false=>rw[n e,b9,e,Bool.false_and];exact⟨λz=>(by cases z),λ_=>rfl⟩
end L3
namespace CL
open PySem L2 L3
variable {c:Cs}
def Fg t b (d:0<b):0<(xv t b).2:=by have a:=Cu.EB t b (dD d);rw[aR (eO d)]at a;exact a.pos
def HK t b (g:0<b):(xv t b).1*b=t*(xv t b).2:=by
 obtain⟨u,d⟩:=Cu.ng t b;obtain⟨v,hv⟩:=Cu.mq t b;have a:Cu.G t b≠0:=by lia
 have e:(xv t b).1=u:=by
  show t.fdiv (Cu.G t b)=u;conv=>lhs;arg 1;rw[d]
  exact dC u a
 have f:(xv t b).2=v:=by
  show b.fdiv (Cu.G t b)=v;conv=>lhs;arg 1;rw[hv]
  exact dC v a
 rw[e,f];conv=>lhs;arg 2;rw[hv]
 conv=>rhs;arg 1;rw[d]
 rw[<-dA,dB u]
def HP t b (a:0<b) (h:Bn n t):Bn n (xv t b).1:=by have d:=Cu.zv t b (dD a);exact cD (tE (Cu.ng t b) (dD d)) h
def Hl t b (a:0<b) (h:Bn n b):Bn n (xv t b).2:=by have d:=Cu.zv t b (dD a);exact cD (tE (Cu.mq t b) (dD d)) h
def Hy t b (a:0<b):oM c [.int t,.int b]=.ok (fr (xv t b)):=by
 have h:=Cu.zv t b (dD a);have d:Cu.G t b≠0:=by exact dD h
 have e:¬b=0:=by lia
 have f:¬b<0:=by exact eO a
 refine jh rfl (iR (jw (by simp[e]) rfl) (iR (iY (jv rfl rfl (lQ t b)) rfl) (iR (jw (by simp[f]) rfl) (i7 ?_))));have g:2<=sizeLine:=by decide
 simp[mY d,g,fr,xv]
theorem Gf{a b d:Type}(f:a->b->d):∀(l:List a) (m:List b),(l.zip m).map (λp=>f p.1 p.2)=(m.zip l).map (λp=>f p.2 p.1)
 |[],m=>by cases m<;>rfl
 |_::_,[]=>rfl
 |x::l,y::m=>by rw[eP,eP,bK,bK,Gf f l m]
def xC:Bn (n+1) 1:=by unfold Bn;rw[d7];have:=eQ n;lia
def PH a b:jA (fr (a,b)) (.int 0)=.ok (.int a):=rfl
def FY a b:jA (fr (a,b)) (.int 1)=.ok (.int b):=rfl
def Ku p q (m:0<p.2) (k:0<q.2) (j:Bn n p.1) (o:Bn 9000 p.2) (h:Bn n q.1) (g:Bn 9000 q.2) (e:n<=900000):rj c [fr p,fr q]=.ok (fr (xv (p.1*q.1) (p.2*q.2))):=by obtain⟨a,b⟩:=p;obtain⟨d,f⟩:=q;have l:=jx (j.ok h (aN e (by decide)) (aN e (dM _ _)));have i:=jx (o.ok g (by decide) (by decide));exact jh rfl (i7 (jv (iP (iP rfl rfl (PH a b)) (iP rfl rfl (PH d f)) l) (iP (iP rfl rfl (FY a b)) (iP rfl rfl (FY d f)) i) (Hy _ _ (aX m k))))
def OP p q (o:0<p.2) (l:0<q.2) (k:Bn n p.1) (h:Bn 9000 p.2) (i:Bn n q.1) (f:Bn 9000 q.2) (g:n<=900000):Ay c [fr p,fr q]=.ok (fr (xv (p.1*q.2+q.1*p.2) (p.2*q.2))):=by obtain⟨a,b⟩:=p;obtain⟨d,e⟩:=q;have m:=jx (k.ok f (aN g (by decide)) (by decide));have r:=jx (i.ok h (aN g (dM _ _)) (by decide));have j:=jx (h.ok f (by decide) (by decide));exact jh rfl (i7 (jv (iP (iP (iP rfl rfl (PH a b)) (iP rfl rfl (FY d e)) m) (iP (iP rfl rfl (PH d e)) (iP rfl rfl (FY a b)) r) (jY _ _)) (iP (iP rfl rfl (FY a b)) (iP rfl rfl (FY d e)) j) (Hy _ _ (aX o l))))
theorem yC x0 x1 n (N:n<=800000):∀(f:List (Int×(Int×Int))) (k:Nat) (t u S U:Int) (i m:Option W),f.length+k<=8->Bn (n+1400*k) t->Bn (670*k+1) u->0<u->0<U->t*U=S*u->(∀p∈f,Bn n p.1/\RC p.2)->
  ∃t' j z J,kX ll (oQ c) (f.map λp=>T.tup [fr p.2,.int p.1]) [x0,x1,some (.p (fr (t,u))),i,m]=.nx [x0,x1,some (.p (fr (t',j))),z,J]/\
   0<j/\0<(f.foldl Q8 (S,U)).2/\t'*(f.foldl Q8 (S,U)).2=(f.foldl Q8 (S,U)).1*j
 |[],k,t,u,S,U,i,m,_,_,_,hu,hU,e,_=>⟨t,u,i,m,rfl,hu,hU,e⟩
 | (w,a,b)::f,k,t,u,S,U,i,m,hk,ht,hub,hu,hU,e,hp=>by
  obtain⟨hw,E⟩:=hp _ (bj ..);have H:=E.b1;have s:=E.b2;have d:=E.pos;dsimp only at hw H s d;simp only[ay]at hk;have v:=Ku (c:=c) (n:=n+670) (a,b) (w,1) d Int.one_pos (H.mono (dM _ _)) (s.mono (by decide)) (hw.mono (cJ _ _)) xC (bg (cD (eI N _) (by decide)));dsimp only at v;generalize o:xv (a*w) (b*1)=q at v;have P:0<q.2:=by rw[<-o];exact Fg _ _ (by simp[d])
  have L:q.1*(b*1)=a*w*q.2:=by rw[<-o];exact HK _ _ (by lia)
  have l:Bn (n+670) q.1:=by rw[<-o];exact HP _ _ (by lia) ((H.mul hw).mono (by lia))
  have g:Bn 670 q.2:=by rw[<-o];exact Hl _ _ (by lia) (by rw[bD];exact s)
  have A:=OP (c:=c) (n:=n+1400*k+670) (t,u) q hu P (ht.mono (cJ _ _)) (hub.mono (by lia)) (l.mono (by lia)) (g.mono (by decide)) (by lia);dsimp only at A;generalize hr:xv (t*q.2+q.1*u) (u*q.2)=r at A;have h:=aX hu P;have X:0<r.2:=by rw[<-hr];exact Fg _ _ h
  have re:r.1*(u*q.2)=(t*q.2+q.1*u)*r.2:=by rw[<-hr];exact HK _ _ h
  have D:Bn (n+1400*(k+1)) r.1:=by rw[<-hr];exact HP _ _ h (((ht.mul g).add (l.mul hub)).mono (by lia))
  have C:Bn (670*(k+1)+1) r.2:=by rw[<-hr];exact Hl _ _ h ((hub.mul g).mono (aK _))
  have B:=aX hU d;have K:r.1*(U*b)=(S*b+w*a*U)*r.2:=by
   have I:u*q.2≠0:=by exact dD h
   refine dF I ?_;rw[bD]at L;calc r.1*(U*b)*(u*q.2)=r.1*(u*q.2)*(U*b):=by ac_rfl
    _=(t*q.2+q.1*u)*r.2*(U*b):=by rw[re]
    _=((t*U)*b*q.2+(q.1*b)*u*U)*r.2:=by simp only[Int.add_mul];ac_rfl
    _=((S*u)*b*q.2+(a*w*q.2)*u*U)*r.2:=by rw[e,L]
    _=(S*b+w*a*U)*r.2*(u*q.2):=by simp only[Int.add_mul];ac_rfl
  obtain⟨t',j,z,J,el,R,Q,h3⟩:=yC x0 x1 n N f (k+1) r.1 r.2 (S*b+w*a*U) (U*b) (some (.p (fr (a,b)))) (some (.p (.int w))) (by lia) D C X B K λp F=>hp p (bx _ F);refine⟨t',j,z,J,?_,R,Q,h3⟩;rw[bK,kX];have s1:ll (T.tup [fr (a,b),.int w]) [x0,x1,some (.p (fr (t,u))),i,m]=some [x0,x1,some (.p (fr (t,u))),some (.p (fr (a,b))),some (.p (.int w))]:=rfl;dsimp only;rw[s1];have Z:2<=sizeLine:=by decide
  have Y:oQ c [x0,x1,some (.p (fr (t,u))),some (.p (fr (a,b))),some (.p (.int w))]=.nx [x0,x1,some (.p (fr r)),some (.p (fr (a,b))),some (.p (.int w))]:=iY (jv rfl (jv (x:=fr (a,b)) (y:=fr (w,1)) rfl (by simp[fr,Z]) v) A) rfl
  dsimp only;rw[Y];exact el
def JI n (o:n<=800000) fs (a:LI) (D:a.length<=8) (i:∀w∈a,Bn n w) (k:∀f∈fs,RC f):l9 c [.lst (fs.map fr),.lst (a.map T.int)]=.ok (.bl (IP (a.zip fs) 0==0)):=by
 obtain⟨t,u,C,E,s,B,j,d⟩:=yC (some (.p (.lst (fs.map fr)))) (some (.p (.lst (a.map T.int)))) n o (a.zip fs) 0 0 1 0 1 none none (by rw[eR];lia) (by unfold Bn;exact eQ _) (by unfold Bn;decide) (by decide) (by decide) (by decide) (λp h=>⟨i _ (aW h).1,k _ (aW h).2⟩);have r:2<=sizeLine:=by decide
 have b:(t==0)=(IP (a.zip fs) 0==0):=by
  unfold IP;generalize (a.zip fs).foldl Q8 (0,1)=A at j d ⊢;by_cases e:t=0
  .subst e;rw[eS]at d;have:A.1=0:=by
    rcases eT.mp d.symm with q|q
    .exact q
    .lia
   rw[this]
  .have v:A.1≠0:=by intro z;rw[z,eS]at d;rcases eT.mp d with q|q<;>lia
   rw[beq_eq_false_iff_ne.mpr e,beq_eq_false_iff_ne.mpr v]
 refine jh rfl (iR (iY (by simp[fr,r]) rfl) (iR (ku ?_ s) (i7 ?_)))
 .have:=nG (fa:=iM 0) (fb:=iM 1) (ρ:=qH [some (.p (.lst (fs.map fr))),some (.p (.lst (a.map T.int))),some (.p (fr (0,1))),none,none]) (l:=fs) (m:=a) (f:=fr) (g:=T.int) rfl rfl rfl rfl;refine this.trans ?_;rw[Gf λx y=>T.tup [fr x,T.int y]]
 .rw[<-b];exact iP (iP rfl rfl (PH t u)) rfl (jW _ _)
def AK(n:Nat):T->Bool
 |.lst ts=>decide (ts.length=n)&&ts.all isInt
 |_=>false
def Bd(n:Nat) x (k:Kc x=true) (i:∀ts,x=.lst ts->ts.length<1000/\∀t∈ts,Kc t=true):oU c [.int n,x]=.ok (.bl (AK n x)):=by
 have sz:1000<sizeLine:=by decide
 by_cases a:Ec x=true
 .cases x with
  |lst ts=>
   obtain⟨j,g⟩:=i ts rfl;by_cases b:ts.length=n
   .have h:lH [none] gk b0 (λ_=>.ok true) (uU c) (vw (jG 2 [.int n,.lst ts]))=.ok ((ts.map isInt).map T.bl):=
     j5 ts id (λt=>T.bl (isInt t)) (by simp) (cT j sz) (λt a=>⟨_,rfl,rfl,nU rfl (yz t (g t a))⟩) (by rw[aI];rfl)
    have e:(L3.vV (L3.lY ld) ii) (vw (jG 2 [.int n,.lst ts]))=.ok false:=by simp[b]
    refine jh rfl (iR (jw e rfl) (i7 (mP h ?_)));rw[nY,cN];simp[AK,b,Function.comp_def]
   .have d:AK n (.lst ts)=false:=by simp[AK,b]
    rw[d];refine jh rfl (lE (jR ?_ (i7 rfl)) rfl);have:¬(ts.length=(n:Int)):=by exact mt b5.mp b
    simp[this]
  |_=>simp[Ec]at a
 .have d:AK n x=false:=by cases x<;>first|rfl|(simp[Ec]at a;done)
  rw[d];refine jh rfl (lE (jR ?_ (i7 rfl)) rfl);have f:Ec x=false:=by simpa using a
  have:=PJ x k;rw[f]at this;simp only[L3.vV,L3.lY,jE,ux,iM,vw,jG,bK,cB,eF,cy,List.getElem?_cons_succ,List.getElem?_cons_zero,WJ,M.bind_ok,this];rfl
def GP(s w:Int):Bool:=s==0||(w==0||lL w==s)
def Dy s w:pO c [.int s,.int w]=.ok (.bl (GP s w)):=by refine jh rfl (i7 ?_);have e:iU (ji false) (iV ap (kG c)) a0 (vw (jG 2 [.int s,.int w]))=.ok (.bl (lL w==s)):=iP (nU rfl (pE w)) rfl (jW _ _);have a:iU (ji false) bd ac (vw (jG 2 [.int s,.int w]))=.ok (.bl (w==0)):=iP rfl rfl (jW _ _);have b:iU (ji false) a0 ac (vw (jG 2 [.int s,.int w]))=.ok (.bl (s==0)):=iP rfl rfl (jW _ _);simp only[Vp,jE,e,a,b,M.bind_ok,GP];cases s==0<;>cases w==0<;>rfl
def qo(k:Nat)(s:List (Int×Int)):Int×Int:=s.getD k (0,1)
def xK(h:A1 d s)(b:k<d):jA (tS s) (.int (k:Int))=.ok (fr (qo k s))/\RC (qo k s):=by
 have a:k<s.length:=by rw[h.1];exact b
 have e:qo k s=s[k]:=by unfold qo;rw[af,ag a];rfl
 rw[e];refine⟨?_,h.2 _ (aV a)⟩;have:rG (s.map fr) k=some (fr s[k]):=by unfold rG zj;rw[aQ (bE _),aQ (by simp;omega)];simp[a]
 simp[tS,this]
def zS(d:Nat)(b:List (List (Int×Int)))(r a:LI):Bool:=((r.zip a).all λp=>GP p.1 p.2)&&(((r.zip a).any λp=>p.1 != 0&&p.2 != 0)&&((a.sum==0)&&(List.range d).all λk=>IP (a.zip (b.map (qo k))) 0==0))
def yu ns:kq (ns.map T.int)=some ns:=by simp
def Ni(a:LI):Fx [.lst (a.map T.int)]=.ok (.int a.sum):=by simp
def Os a b:nr c [some (.int a),some (.int b)]=.ok (.bl (a != 0&&b != 0)):=by have d:iU (ji true) a0 ac [some (.int a),some (.int b)]=.ok (.bl (!(a==0))):=iP rfl rfl (md _ _);have e:iU (ji true) bd ac [some (.int a),some (.int b)]=.ok (.bl (!(b==0))):=iP rfl rfl (md _ _);simp only[nr,Be,jE,d,e,M.bind_ok,bne];cases a==0<;>cases b==0<;>rfl
theorem ye d n ss r ws (g:1<=d/\d<=3) (I:n<=800000) (b:1<=ss.length/\ss.length<=8) (h:∀s∈ss,A1 d s) (hr:A5 ss.length r)
  (hw:ws.length=ss.length) (D:∀z∈ws,Bn n z):mC c [.int d,.lst (ss.map tS),tI r,tL ws]=.ok (.bl (zS d ss r ws)):=by
 have sz:1000<sizeLine:=by decide
 have v:=Bd (c:=c) ss.length (tL ws) rfl (λK e=>by unfold tL at e;cases e;refine⟨by simp;exact cD (bB hw) (cD b.2 (by decide)),λt E=>?_⟩;obtain⟨y,-,rfl⟩:=aD.mp E;rfl)
 have j:AK ss.length (tL ws)=true:=by simp[AK,tL,hw,isInt]
 rw[j]at v;have m:lH [none,none] (nF g8) ah (λ_=>.ok true) (rN c) (vw (jG 4 [.int d,.lst (ss.map tS),tI r,tL ws]))=.ok (((r.zip ws).map λp=>GP p.1 p.2).map T.bl):=j5 (r.zip ws) (λp=>T.tup [.int p.1,.int p.2]) (λp=>T.bl (GP p.1 p.2)) (nG rfl rfl rfl rfl) (by simp;lia) (λp F=>⟨_,rfl,rfl,jv rfl rfl (Dy p.1 p.2)⟩) (by rw[aI];rfl)
 have u:lH [none,none] (nF g8) ah (λ_=>.ok true) (nr c) (vw (jG 4 [.int d,.lst (ss.map tS),tI r,tL ws]))=.ok (((r.zip ws).map λp=>p.1 != 0&&p.2 != 0).map T.bl):=j5 (r.zip ws) (λp=>T.tup [.int p.1,.int p.2]) (λp=>T.bl (p.1 != 0&&p.2 != 0)) (nG rfl rfl rfl rfl) (by simp;lia) (λp F=>⟨_,rfl,rfl,Os p.1 p.2⟩) (by rw[aI];rfl)
 have B:lH [none,some 3,some 1] (qc bv) b0 (λ_=>.ok true) (sr c) (vw (jG 4 [.int d,.lst (ss.map tS),tI r,tL ws]))=.ok (((List.range d).map λk=>IP (ws.zip (ss.map (qo k))) 0==0).map T.bl):=by
  have i:DH (d:Int)=true:=nB (aN g.2 (dM _ _));refine j5 (List.range d) (λ(k:Nat)=>T.int (k:Int)) (λk=>T.bl (IP (ws.zip (ss.map (qo k))) 0==0)) (by simp[i,K5]) (by simp;exact cD g.2 (by decide)) (λk J=>⟨_,rfl,rfl,?_⟩) (by rw[aI];rfl);have a:=aS.mp J;have C:lH [none,some 0] (jP bi) b0 (λ_=>.ok true) (rQ c) [some (.int (k:Int)),some (tL ws),some (.lst (ss.map tS))]=.ok ((ss.map (qo k)).map fr):=j5 ss tS (λs=>fr (qo k s)) rfl (cD b.2 (by decide)) (λs l=>⟨_,rfl,rfl,iP rfl rfl (xK (h s l) a).1⟩) (by rw[aI];rfl)
  refine jv (y:=tL ws) (j3 C) rfl (JI n I (ss.map (qo k)) ws (aN (bB hw) b.2) D λf H=>?_);obtain⟨s,l,rfl⟩:=aD.mp H;exact (xK (h s l) a).2
 unfold zS;refine jh rfl (iR (sJ (mv rfl rfl rfl (sP d ss r g b h hr))) (iR (jw (og (i6 (jv (x:=.int ss.length) (by simp) rfl v)) rfl) rfl) ?_));cases q:((r.zip ws).all λp=>GP p.1 p.2) with
 |false=>exact lE (jR (og (i6 (mP m (by rw[nY,cN]))) (by simpa using q)) (i7 rfl)) rfl
 |true=>
  refine iR (jw (og (i6 (mP m (by rw[nY,cN]))) (by simpa using q)) rfl) ?_;cases o:((r.zip ws).any λp=>p.1 != 0&&p.2 != 0) with
  |false=>exact lE (jR (og (i6 (mP u (by rw[uI,cO]))) (by simpa using o)) (i7 rfl)) rfl
  |true=>
   refine iR (jw (og (i6 (mP u (by rw[uI,cO]))) (by simpa using o)) rfl) ?_;have A:iU (ji true) (lC Fx bf) ac (vw (jG 4 [.int d,.lst (ss.map tS),tI r,tL ws]))=.ok (.bl (!(ws.sum==0))):=iP (nV rfl (Ni ws)) rfl (md _ _);cases w:(ws.sum==0) with
   |false=>exact lE (jR (by rw[i6 A,w];rfl) (i7 rfl)) rfl
   |true=>refine iR (jw (by rw[i6 A,w];rfl) rfl) (i7 (mP B ?_));rw[nY,cN];rfl
end CL
namespace L3
open PySem L2
theorem wy{j:Type} enc (P:Nat->En->Prop) (R:T->Prop):∀(l:List j) (k:Nat) (ρ:En),P k ρ->
  (∀i a ρ,l[i]? = some a->P (k+i) ρ->∃d,m (enc a) ρ=some d/\((∃c,g d=.nx c/\P (k+i+1) c)\/∃t,g d=.rt t/\R t))->
  (∃ρ',kX m g (l.map enc) ρ=.nx ρ'/\P (k+l.length) ρ')\/∃t,kX m g (l.map enc) ρ=.rt t/\R t
 |[],k,ρ,h,_=>.inl ⟨ρ,rfl,h⟩
 |a::l,k,ρ,h,st=>by
  obtain⟨d,p,q⟩:=st 0 a ρ rfl h;rw[bK,kX,p];dsimp only;rcases q with⟨c,f,e⟩|⟨t,f,e⟩
  .rw[f];rw[ay,show k+(l.length+1)=k+1+l.length by lia];exact wy enc P R l (k+1) c e λi b ρ n o=>by have:=st (i+1) b ρ (by simpa using n) (by rw[show k+(i+1)=k+1+i by lia];exact o);rw[show k+1+i+1=k+(i+1)+1 by lia];exact this
  .rw[f];exact .inr ⟨t,rfl,e⟩
end L3
namespace CL
open PySem L2 L3
variable {c:Cs}
def N6(S b:Int)(l:0<S)(g:0<b):0<(S*b).fdiv (Cu.G S b)/\S ∣ (S*b).fdiv (Cu.G S b)/\b ∣ (S*b).fdiv (Cu.G S b)/\((S*b).fdiv (Cu.G S b)).natAbs<=(S*b).natAbs:=by
 have i:=Cu.zv S b (dD g);have h:Cu.G S b≠0:=by exact dD i
 obtain⟨u,f⟩:=Cu.ng S b;obtain⟨v,hv⟩:=Cu.mq S b;have d:(S*b).fdiv (Cu.G S b)=u*b:=by
  conv=>lhs;arg 1;rw[f]
  rw[dA];exact dC _ h
 have k:u*b=S*v:=by
  conv=>lhs;rw[hv]
  conv=>rhs;rw[f]
  ac_rfl
 have e:0<u:=by
  refine aO λj=>?_;have a:u<=0:=by exact eU.mp j
  have:=eV a (aA i);rw[<-f,eW]at this;lia
 refine⟨?_,?_,?_,tE ?_ h⟩
 .rw[d];exact aX e g
 .rw[d,k];exact⟨v,rfl⟩
 .rw[d];exact⟨u,dB _ _⟩
 .exact eX (Cu.ng S b) ⟨b,rfl⟩
def Kx(l:List α)(k:Nat) h:rG l (k:Int)=some l[k]:=by unfold rG zj;rw[aQ (bE _),aQ (dy.mpr h)];simp[h]
def QR(l:LI) k (h:k<l.length):rG l (k:Int)=some (l.getD k 0):=by rw[Kx l k h,af,ag h];rfl
def getD_mem(l:LI) k (h:k<l.length):l.getD k 0∈l:=by rw[af,ag h];exact aV h
def lX l (k:Nat) (h:k<l.length):jA (tI l) (.int (k:Int))=.ok (.int (l.getD k 0)):=by simp[tI,qA,QR l k h]
def Nd x xs:jA (.lst (x::xs)) (.int 0)=.ok x:=by have h:=Kx (x::xs) 0 (by simp);have a:rG (x::xs) 0=some x:=h;show (match rG (x::xs) 0 with|some t=>M.ok t|none=>.bad)=_;rw[a]
def UP(e:f1 ρ=.ok a1)(d:f2 ρ=.ok a2)(b:f3 ρ=.ok a3)(a:f4 ρ=.ok a4)(f:f5 ρ=.ok a5):kh (lstM (iL f1 (iL f2 (iL f3 (iL f4 (iL f5 iQ)))))) ρ=.ok (.lst [a1,a2,a3,a4,a5]):=by
 have g:5<=sizeLine:=by decide
 simp only[kh,lstM,iL,iQ,e,d,b,a,f,M.bind_ok,E7,ay,cR,g,if_true]
def W4 n (x:T):(List.replicate n [x]).flatten=List.replicate n x:=by
 induction n with
 |zero=>rfl
 |succ n ih=>rw[cj,cm,ih,cj];rfl
end CL
namespace CL
abbrev Vc:=Nat->Int
inductive Qs(P:Vc->Prop):Vc->Prop
 |of {x:Vc}:P x->Qs P x
 |zero:Qs P λ_=>0
 |lin {x y z:Vc} {s a b:Int}:Qs P x->Qs P y->s≠0->(∀i,s*z i=a*x i+b*y i)->Qs P z
def Qs.sub(h:∀x,P x->Qs P' x)(q:Qs P z):Qs P' z:=by
 induction q with
 |of p=>exact h _ p
 |zero=>exact .zero
 |lin _ _ s e i1 i2=>exact .lin i1 i2 s e
def Qs.mono(h:∀x,P x->P' x)(q:Qs P z):Qs P' z:=q.sub λx p=>.of (h x p)
def Qs.comb a b (c:Qs P x) (d:Qs P y):Qs P λi=>a*x i+b*y i:=.lin (s:=1) c d (by decide) λi=>by rw[eY]
end CL
namespace CL
open PySem L2 L3
variable {c:Cs}
noncomputable def vc(l:LI):Vc:=λi=>l.getD i 0
def sM l i (h:l.length<=i):vc l i=0:=by unfold vc;rw[af,List.getElem?_eq_none h];rfl
def kL l i h:vc l i=l[i]:=by unfold vc;rw[af,ag h];rfl
def Vv(a:List (Nat×LI)):Vc->Prop:=λx=>∃p∈a,x=vc p.2
def ki{a:Type}(l:List a) k v (h:l[k]? = some v):l.take (k+1)=l.take k++[v]:=by rw[List.take_succ,h];rfl
def pZ(h:f ρ=.ok (.int i)):pW (λi=>.int (-i)) f ρ=.ok (.int (-i)):=by simp only[pW,h,M.bind_ok]
def qt:Bn n 0:=by unfold Bn;exact eQ _
def uL N (I:N<=900000) row (F:row.length<1000) (n:∀x∈row,Bn N x):∃g o,0<g/\mW c [tI row]=.ok (tI o)/\o.length=row.length/\(∀i,vc row i=g*vc o i)/\∀y∈o,Bn N y:=by
 have sz:1000<sizeLine:=by decide
 have main:=wy (m:=lq 2) (g:=Cj c) T.int
  (λk w=>∃(a:Int) (r:Option W),w=[some (.p (tI row)),some (.p (.int a)),r]/\0<=a/\Bn N a/\∀x∈row.take k,a ∣ x)
  (λt=>t=tI row) row 0 _ ⟨0,none,rfl,by decide,qt,λx l=>by simp at l⟩ (by
   rintro i x w b ⟨a,r,rfl,B,v,d⟩;rw[aG]at d ⊢;have s:=au b;refine⟨_,rfl,?_⟩;have u:setO 1 (j9 (iV h8 (jQ c))) [some (.p (tI row)),some (.p (.int a)),some (.p (.int x))]=.nx [some (.p (tI row)),some (.p (.int (Cu.G a x))),some (.p (.int x))]:=iY (jv rfl rfl (lQ a x)) rfl;by_cases h:Cu.G a x=1
   .right;exact⟨_,iR u (jR (i6 (iP rfl rfl (by rw[jW,h];rfl))) (i7 rfl)),rfl⟩
   .left;refine⟨_,iR u (jw (i6 (iP rfl rfl (by rw[jW];simp[h]))) rfl),_,_,rfl,Cu.zX _ _,?_,λz A=>?_⟩
    .by_cases f:x=0
     .rw[f,Cu.NR];exact cD (aK _) v
     .have D:=Cu.Ww a x f;have J:=Cu.zX a x;exact cD (dz.mp D) (n x s)
    .rw[ki row i x b]at A;rcases ai.mp A with q|q
     .exact eX (Cu.ng a x) (d z q)
     .rw[aj.mp q];exact Cu.mq a x)
 rcases main with⟨C,e,a,r,rfl,B,v,d⟩|⟨t,e,rfl⟩
 .rw[aG,eZ]at d;by_cases j:a=0
  .exact⟨1,row,by decide,jh rfl (iR (iY rfl rfl) (iR (ku rfl e) (lE (jR (i6 (iP rfl rfl (by rw[jW,j];rfl))) (i7 rfl)) rfl))),rfl,λi=>by rw[eY],n⟩
  .refine⟨a,row.map (λx=>x.fdiv a),by lia,jh rfl (iR (iY rfl rfl) (iR (ku rfl e) (iR (jw (i6 (iP rfl rfl (by rw[jW];simp[j]))) rfl) (i7 ?_)))),by simp,λi=>?_,λy E=>?_⟩
   .exact nV (j3 (j5 row T.int (λx=>T.int (x.fdiv a)) rfl (cT F sz) (λx l=>⟨_,rfl,rfl,iP rfl rfl (mY j)⟩) (by rw[aI];rfl))) rfl
   .by_cases b:i<row.length
    .rw[kL row i b,kL _ i (by simpa using b),fg];obtain⟨q,H⟩:=d _ (aV b);rw[H,dC q j]
    .rw[sM row i (cC b),sM _ i (by simp;exact cC b),eW]
   .obtain⟨x,l,rfl⟩:=aD.mp E;exact cD (tE (d x l) j) (n x l)
 .exact⟨1,row,by decide,jh rfl (iR (iY rfl rfl) (lE (ku rfl e) rfl)),rfl,λi=>by rw[eY],n⟩
def xZ{g x:Int}(a:g≠0)(h:g*x=0):x=0:=by
 rcases eT.mp h with z|z
 .exact absurd z a
 .exact z
def Ig o:lL o*o=(o.natAbs:Int):=by
 unfold lL;split
 .rw[eY];lia
 .split
  .rw[fj,eY];lia
  .rw[eS];lia
def ou(p:Nat×LI):T:=.tup [.int (p.1:Int),tI p.2]
noncomputable def sm:Nat->(Nat->Int)->Int
 |0,_=>0
 |n+1,f=>f 0+sm n λi=>f (i+1)
theorem lM:∀n f g,(∀i,i<n->f i=g i)->sm n f=sm n g
 |0,_,_,_=>rfl
 |n+1,f,g,h=>by rw[sm,sm,h 0 (bW _),lM n _ _ λi a=>h (i+1) (bJ a)]
theorem vI a b:∀n f g,sm n (λi=>a*f i+b*g i)=a*sm n f+b*sm n g
 |0,_,_=>by simp[sm]
 |n+1,f,g=>by rw[sm,sm,sm,vI a b n (λi=>f (i+1)) λi=>g (i+1),fv,fv];lia
theorem nE a:∀n f,sm n (λi=>a*f i)=a*sm n f
 |0,_=>by simp[sm]
 |n+1,f=>by rw[sm,sm,nE a n λi=>f (i+1),fv]
theorem yW:∀n:Nat,sm n (λ_=>0)=0
 |0=>rfl
 |n+1=>by rw[sm,yW n];rfl
theorem CY:∀(n k:Nat) (f:Nat->Int),k<n->sm n (λi=>(if i=k then 1 else 0)*f i)=f k
 |0,k,f,h=>absurd h (dX _)
 |n+1,0,f,h=>by rw[sm,aQ rfl,eY,lM n _ (λ_=>0) (λi _=>by rw[aR (Nat.succ_ne_zero _),eS]),yW,Int.add_zero]
 |n+1,k+1,f,h=>by rw[sm,aR (by lia),eS,Int.zero_add,lM n _ (λi=>(if i=k then 1 else 0)*f (i+1)) (λi _=>by simp),CY n k (λi=>f (i+1)) (fw h)]
def Qs.at0(h:∀x,P x->x k=0)(q:Qs P z):z k=0:=by
 induction q with
 |of p=>exact h _ p
 |zero=>rfl
 |lin _ _ hs e i1 i2=>exact xZ hs (by rw[e k,i1,i2,eW,eW];rfl)
theorem Aa:∀(m:Nat) (l:List Nat),l.Nodup->(∀x∈l,x<m)->l.length<=m
 |0,[],_,_=>aK _
 |0,x::l,_,h=>absurd (h x (bj ..)) (dX _)
 |m+1,l,hn,h=>by
  have a:=Aa m (l.erase m) (hn.erase m) λx d=>by have q:=(hn.mem_erase_iff).mp d;have:=h x q.2;have:=q.1;lia
  by_cases b:m∈l
  .rw[fz b]at a;omega
  .rw[List.erase_of_not_mem b]at a;exact cK a
def C6(f:fa ρ=.ok (.lst a))(e:fb ρ=.ok (.lst b))(d:a.length+b.length<=sizeLine):zA fa fb ρ=.ok (a++b):=by simp only[zA,f,e,M.bind_ok];rw[aQ d]
def Tx(h:f ρ=.ok a):kh (lstM (iL f iQ)) ρ=.ok (.lst [a]):=by
 have b:1<=sizeLine:=by decide
 simp only[kh,lstM,iL,iQ,h,M.bind_ok,E7,ay,cR,b,if_true]
def Bp(h:f ρ=.ok a):kH (iL f iQ) ρ=.ok (.tup [a]):=by
 have b:1<=sizeLine:=by decide
 simp only[kH,iL,iQ,h,M.bind_ok,E7,ay,cR,b,if_true]
def oy(h:f ρ=.ok a)(d:g ρ=.ok b):kH (iL f (iL g iQ)) ρ=.ok (.tup [a,b]):=by
 have e:2<=sizeLine:=by decide
 simp only[kH,iL,iQ,h,d,M.bind_ok,E7,ay,cR,e,if_true]
def LZ(h:kh f ρ=.ok (.lst ts)):f ρ=.ok ts:=by
 unfold kh at h;cases d:f ρ with
 |ok us=>rw[d]at h;cases h;rfl
 |bad=>rw[d]at h;cases h
 |er a b=>rw[d]at h;cases h
def wQ a b (h:a.length+b.length<=sizeLine):jU (.tup a) (.tup b)=.ok (.tup (a++b)):=by unfold jU;exact aQ h
def sQ a b (h:a.length+b.length<=1000):jU (tI a) (tI b)=.ok (tI (a++b)):=by
 have sz:1000<sizeLine:=by decide
 unfold tI;rw[wQ _ _ (by simp;exact aN h (dM _ _)),aZ]
def Bj(pv:List (Nat×LI)) left (a:Nat) (f:Nat×LI->LI) (b:pv.length<=100) (d:∀p∈pv,j7 c [tI p.2,tI left,.int (a:Int)]=.ok (tI (f p))) :
  nv c [.lst (pv.map ou),tI left,.int (a:Int)]=.ok ((pv.map (λp=>(p.1,f p))++[(a,left)]).map ou):=by
 have sz:1000<sizeLine:=by decide
 have e:lH [none,none,some 1,some 2] ek ah (λ_=>.ok true) (uX c) (vw (jG 3 [.lst (pv.map ou),tI left,.int a]))=.ok ((pv.map (λp=>(p.1,f p))).map ou):=j5 pv ou (λp=>ou (p.1,f p)) rfl (cD b (by decide)) (λp g=>⟨_,rfl,rfl,oy rfl (mv rfl rfl rfl (d p g))⟩) (by rw[aI];rfl)
 refine pF rfl (pL ?_);rw[aZ];exact C6 (j3 e) (Tx (oy rfl rfl)) (by simp;exact cD b (by decide))
def mJ{d e:Type}[Inhabited e]{P:d->e->Prop}(l:List d)(h:∀a∈l,∃b,P a b):∃f:d->e,∀a∈l,P a (f a):=⟨λa=>Classical.epsilon λb=>P a b,λa g=>Classical.epsilon_spec (h a g)⟩
def yy(jt:LL)(s:jt.length<=8)(u:∀r∈jt,r.length<=100):m9 c [.lst (jt.map tI)]=.ok ((jt.zipIdx.map λp=>p.1++(List.replicate jt.length (0:Int)).set p.2 1).map tI):=by
 have sz:1000<sizeLine:=by decide
 obtain⟨f,e,n,h,q,rfl⟩:=kj (m:=lG 2 (jf (lq 2) (jf (lq 3) lF))) (g:=yq c) (λ(p:LI×Nat)=>T.tup [.int (p.2:Int),tI p.1])
  (λk f=>∃n h q:Option W,f=[some (.p (.lst (jt.map tI))),some (.o (((jt.zipIdx.take k).map λp=>p.1++(List.replicate jt.length (0:Int)).set p.2 1).map tI)),n,h,q])
  jt.zipIdx 0 _ ⟨none,none,none,rfl⟩ (by
   rintro i ⟨r,k⟩ f j ⟨n,h,q,rfl⟩;rw[aG];have b:=au j;have a:=List.mem_zipIdx b;have w:k<jt.length:=by exact Nat.sub_lt_left_of_lt_add a.1 a.2.1
   have d:=u r (by rw[a.2.2];exact aV _);have v:i<jt.length:=by have:=(aa.mp j).1;simpa using this
   have l:zj ((List.replicate jt.length (0:Int)).map T.int).length (k:Int)=some k:=by unfold zj;rw[aQ (bE _),aQ (by rw[aw,bU];omega)];simp
   refine⟨_,_,rfl,.inl (iR (pH (LZ (RB jt.length (aN s (by decide)) (nV rfl (by simp)))) rfl) (iR (zy (m:=k) rfl rfl rfl rfl l rfl) (OF (t:=tI (r++(List.replicate jt.length (0:Int)).set k 1)) rfl ?_ (by simp) (by simp;lia) rfl))),some (.p (.int (k:Int))),some (.p (tI r)),some (.o (((List.replicate jt.length (0:Int)).map T.int).set k (.int 1))),?_⟩
   .refine iP (x:=tI r) (y:=tI ((List.replicate jt.length (0:Int)).set k 1)) rfl (nV (t:=.lst (((List.replicate jt.length (0:Int)).set k 1).map T.int)) ?_ rfl) (sQ _ _ (by simp;exact bg (cD (Nat.add_le_add d s) (by decide))));show (M.ok (T.lst (((List.replicate jt.length (0:Int)).map T.int).set k (.int 1))))=_;rw[<-fC]
   .rw[ki _ i (r,k) j,aZ,aZ];rfl)
 rw[aG,eZ]at e;refine pF rfl (iR (pH (ts:=[]) (by simp) rfl) (iR (ku ?_ e) rfl));rw[<-qJ];rfl
end CL
namespace CL
noncomputable def lI(m:Nat)(A u:Vc):Int:=sm m λi=>A i*u i
def tq(h:∀i,s*z i=a*x i+b*y i):s*lI m A z=a*lI m A x+b*lI m A y:=by
 unfold lI;rw[<-nE,<-vI];refine lM m _ _ λi _=>?_;have:=h i;calc s*(A i*z i)=A i*(s*z i):=by rw[Int.mul_left_comm]
  _=A i*(a*x i+b*y i):=by rw[this]
  _=a*(A i*x i)+b*(A i*y i):=by grind
structure nc(m:Nat)(As:List Vc)(u:Vc):Prop where
 nn:∀i,0<=u i
 out:∀i,m<=i->u i=0
 ne:∃i,u i≠0
 eq:∀A∈As,lI m A u=0
noncomputable def cs(m:Nat)(u:Vc):Nat:=(List.range m).countP λi=>decide (u i≠0)
def Vb(h:∀i,i<m->v i=0->u i=0):cs m u<=cs m v:=by unfold cs;refine fE λi b q=>?_;have a:=aS.mp b;simp only[decide_eq_true_eq]at q ⊢;exact λz=>q (h i a z)
theorem Cm{f:Type}{p q:f->Bool}:∀{l:List f},(∀a∈l,p a=true->q a=true)->(∃a∈l,q a=true/\p a=false)->l.countP p<l.countP q
 |[],_,⟨_,h,_⟩=>by cases h
 |a::l,h,⟨b,d,h1,h2⟩=>by
  rw[c6,c6];have mono:l.countP p<=l.countP q:=fE λc e=>h c (by simp[e]);rcases aF.mp d with rfl|d
  .rw[h1,h2];simp;exact bJ mono
  .have i:=Cm (λc e=>h c (by simp[e])) ⟨b,d,h1,h2⟩;cases g:p a with
   |true=>rw[h a (by simp) g];simp;omega
   |false=>cases j:q a<;>simp<;>lia
def DS(h:∀i,i<m->v i=0->u i=0)(d:k<m)(c:v k≠0)(e:u k=0):cs m u<cs m v:=by unfold cs;refine Cm (λi b q=>?_) ⟨k,aS.mpr d,by simpa using c,by simpa using e⟩;have a:=aS.mp b;simp only[decide_eq_true_eq]at q ⊢;exact λz=>q (h i a z)
theorem Ra(u v:Vc):∀m,(∃j,j<m/\0<v j)->∃k,k<m/\0<v k/\∀i,i<m->0<v i->u k*v i<=u i*v k
 |0,⟨_,h,_⟩=>absurd h (dX _)
 |m+1,⟨j,hj,hv⟩=>by
  by_cases n:∃j,j<m/\0<v j
  .obtain⟨k,q,f,d⟩:=Ra u v m n;by_cases g:0<v m
   .by_cases p:u k*v m<=u m*v k
    .refine⟨k,cH q,f,λi c b=>?_⟩;by_cases e:i=m
     .subst e;exact p
     .exact d i (fF (fw c) e) b
    .refine⟨m,bM _,g,λi c b=>?_⟩;by_cases e:i=m
     .subst e;exact eB _
     .have a:=d i (by lia) b;have l:u m*v k<=u k*v m:=aA (b7.mp p);have r:u m*v i*v k<=u i*v m*v k:=by
       have o:=aJ l (aA b);have x:=aJ a (aA g);have w:u m*v i*v k=u m*v k*v i:=by grind
       have z:u k*v m*v i=u k*v i*v m:=by grind
       have s:u i*v m*v k=u i*v k*v m:=by grind
       rw[w,s];rw[z]at o;exact dQ o x
      exact Int.le_of_mul_le_mul_right r f
   .refine⟨k,cH q,f,λi c b=>?_⟩;by_cases e:i=m
    .subst e;exact absurd b g
    .exact d i (by lia) b
  .have y:j=m:=by
    rcases fG j m with h|h
    .exact absurd ⟨j,h,hv⟩ n
    .exact dP (fw hj) h
   subst y;refine⟨j,by omega,hv,λi c b=>?_⟩;by_cases e:i=j
   .subst e;exact eB _
   .exact absurd ⟨i,by lia,b⟩ n
def Ap(d:nc m As u)(g:∀i,m<=i->v i=0)(n:∀A∈As,lI m A v=0)(p:∃j,j<m/\0<v j)(vs:∀i,u i=0->v i=0) :
  ∃k,k<m/\0<v k/\0<u k/\(∀i,0<=v k*u i-u k*v i)/\(∀i,m<=i->v k*u i-u k*v i=0)/\(∀A∈As,lI m A (λi=>v k*u i-u k*v i)=0)/\cs m (λi=>v k*u i-u k*v i)<cs m u:=by
 obtain⟨k,l,f,o⟩:=Ra u v m p;have q:u k≠0:=λz=>by rw[vs k z]at f;exact absurd f (by decide)
 have e:0<u k:=by have:=d.nn k;lia
 refine⟨k,l,f,e,λi=>?_,λi c=>?_,λA h=>?_,?_⟩
 .by_cases c:i<m
  .by_cases hv:0<v i
   .have:=o i c hv;rw[dB (v k)];exact fH this
   .have a:0<=v k*u i:=aP (aA f) (d.nn i);have b:u k*v i<=0:=fJ (aA e) (eU.mp hv);lia
  .rw[d.out i (cC c),g i (cC c)];simp
 .rw[d.out i c,g i c];simp
 .have:=tq (m:=m) (A:=A) (x:=u) (y:=v) (z:=λi=>v k*u i-u k*v i) (s:=1) (a:=v k) (b:=-u k) (λi=>by grind);rw[d.eq A h,n A h]at this;simpa using this
 .refine DS (λi _ z=>?_) l q ?_
  .rw[z,vs i z];simp
  .rw[dB];lia
theorem An m:∀(f:List Vc) (T:List Nat),T.Nodup->(∀t∈T,t<m)->f.length<T.length->∃v:Vc,(∃i,v i≠0)/\(∀i,i∉T->v i=0)/\∀A∈f,lI m A v=0
 |[],T,nd,ht,hl=>by
  cases T with
  |nil=>cases hl
  |cons t T=>refine⟨λi=>if i=t then 1 else 0,⟨t,by simp⟩,λi g=>?_,λA l=>nomatch l⟩;have:i≠t:=λz=>g (by simp[z]);simp[this]
 |A::f,T,nd,ht,hl=>by
  cases T with
  |nil=>cases hl
  |cons t T=>
   obtain⟨E,q⟩:=bQ.mp nd;have h:f.length<T.length:=by simp at hl;exact hl
   obtain⟨e,⟨j,w⟩,o1,C⟩:=An m f T q (λx o=>ht x (by simp[o])) h;have p:j∈T:=aO λz=>w (o1 j z);have n:f.length<((t::T).erase j).length:=by have D:j∈t::T:=bx _ p;rw[fz D,ay];exact h
   obtain⟨c,⟨k,F⟩,o2,u⟩:=An m f ((t::T).erase j) (nd.erase j) (λx o=>ht x (fK o)) n;have r:c j=0:=o2 j (λz=>by rw[List.Nodup.mem_erase_iff nd]at z;exact z.1 rfl);by_cases l:lI m A c=0
   .exact⟨c,⟨k,F⟩,λi g=>o2 i (λz=>g (fK z)),λB d=>by
     rcases aF.mp d with rfl|d
     .exact l
     .exact u B d⟩
   .refine⟨λi=>lI m A c*e i-lI m A e*c i,⟨j,?_⟩,λi g=>?_,λB d=>?_⟩
    .dsimp only;rw[r];simp[l,w]
    .show lI m A c*e i-lI m A e*c i=0;rw[o1 i (λz=>g (by simp[z])),o2 i (λz=>g (fK z))];simp
    .have:=tq (m:=m) (A:=B) (x:=e) (y:=c) (z:=λi=>lI m A c*e i-lI m A e*c i) (s:=1) (a:=lI m A c) (b:=-lI m A e) (λi=>by grind);rcases aF.mp d with rfl|d
     .rw[eY]at this;rw[this];grind
     .rw[C B d,u B d]at this;simpa using this
def Sl(m:Nat)(a:List Vc)(u:Vc):Prop:=nc m a u/\∀v,nc m a v->(∀i,u i=0->v i=0)->∀i,v i=0->u i=0
def Nx(h:Sl m As u):cs m u<=As.length+1:=by
 obtain⟨C,E⟩:=h;refine cC λB=>?_;let S:=(List.range m).filter λi=>decide (u i≠0);have o:S.length=cs m u:=by show (List.filter _ _).length=_;unfold cs;rw[fL]
 have r:∀i,i∈S↔i<m/\u i≠0:=λi=>by show i∈List.filter _ _↔_;simp
 have g:S.Nodup:=List.Pairwise.filter _ fM;cases d:S with
 |nil=>rw[d]at o;simp at o;lia
 |cons t T=>
  rw[d]at o g;simp only[ay]at o;obtain⟨n,p⟩:=bQ.mp g;have e:∀i∈T,i<m/\u i≠0:=λi f=>(r i).mp (by rw[d];simp[f]);obtain⟨c,⟨j,D⟩,o0,q⟩:=An m As T p (λi f=>(e i f).1) (by lia);obtain⟨v,vo,ve,vp,vt⟩:∃v:Vc,(∀i,i∉T->v i=0)/\(∀A∈As,lI m A v=0)/\(∃j,j<m/\0<v j)/\v t=0:=by
   have l:j∈T:=aO λz=>D (o0 j z);by_cases J:0<c j
   .exact⟨c,o0,q,⟨j,(e j l).1,J⟩,o0 t n⟩
   .refine⟨λi=>-c i,λi f=>by show -c i=0;rw[o0 i f];rfl,λA P=>?_,⟨j,(e j l).1,by show 0 < -c j;lia⟩,by show -c t=0;rw[o0 t n];rfl⟩;have:=tq (m:=m) (A:=A) (x:=c) (y:=c) (z:=λi=>-c i) (s:=1) (a:=-1) (b:=0) (λi=>by grind);rw[q A P]at this;simpa using this
  have I:t<m/\u t≠0:=(r t).mp (by rw[d];simp);obtain⟨k,X,K,H,R,F,L,U⟩:=Ap C (λi f=>vo i (λz=>by have:=(e i z).1;lia)) ve vp (λi z=>vo i (λw=>(e i w).2 z));have N:nc m As (λi=>v k*u i-u k*v i):=⟨R,F,⟨t,by rw[vt];simp;exact⟨dD K,I.2⟩⟩,L⟩;have Q:=E _ N (λi z=>by rw[z,vo i (λw=>(e i w).2 z)];simp) k (by rw[dB];lia);exact eU.mpr (fN Q) H
def HG{m:Nat}{a Bs:List Vc}{u:Vc}(h:nc m Bs u)(c:∀A∈a,A∈Bs):nc m a u:=⟨h.nn,h.out,h.ne,λA b=>h.eq A (c A b)⟩
inductive Cn(P:Vc->Prop):Vc->Prop
 |of {x:Vc}:P x->Cn P x
 |lin {x y z:Vc} {s a b:Int}:Cn P x->Cn P y->0<s->0<=a->0<=b->0<a+b->(∀i,s*z i=a*x i+b*y i)->Cn P z
def Cn.mono(h:∀x,P x->P' x)(q:Cn P z):Cn P' z:=by
 induction q with
 |of q=>exact .of (h _ q)
 |lin _ _ hs ha hb hab e i1 i2=>exact .lin i1 i2 hs ha hb hab e
def zk{a b p q:Int}(i:0<=a)(f:0<=b)(h:0<a*p+b*q):(0<a/\0<p)\/0<b/\0<q:=by
 have c:∀{u v:Int},0<=u->¬(0<u/\0<v)->u*v<=0:=λ{u v} hu hn=>by
  by_cases g:u=0
  .rw[g,eS];exact eB _
  .exact fJ hu (by lia)
 by_cases d:0<a/\0<p
 .exact .inl d
 .by_cases e:0<b/\0<q
  .exact .inr e
  .have:=c i d;have:=c f e;omega
theorem Cn.parts(S:∀x,P x->∀i,0<=x i){f:Vc->Int}(hf:∀x y z s a b,(∀i,s*z i=a*x i+b*y i)->s*f z=a*f x+b*f y)(h:Cn P z) :
  (∀i,0<=z i)/\(0<f z->∃g,P g/\(∀i,z i=0->g i=0)/\0<f g)/\(f z<0->∃g,P g/\(∀i,z i=0->g i=0)/\f g<0)/\
   (f z=0->(∃g,P g/\(∀i,z i=0->g i=0)/\f g=0)\/∃g l,P g/\P l/\(∀i,z i=0->g i=0)/\(∀i,z i=0->l i=0)/\0<f g/\f l<0):=by
 induction h with
 |of h=>rename_i x;exact⟨S _ h,λq=>⟨x,h,λ_ z=>z,q⟩,λq=>⟨x,h,λ_ z=>z,q⟩,λq=>.inl ⟨x,h,λ_ z=>z,q⟩⟩
 |lin _ _ hs ha hb hab e i1 i2=>
  rename_i x y z s a b _ _;obtain⟨K,N,R,X⟩:=i1;obtain⟨J,Q,L,z2⟩:=i2;have q:=hf _ _ _ _ _ _ e;have U:∀i,0<=z i:=λi=>by
   have n:=aP ha (K i);have m:=aP hb (J i);have B:0<=s*z i:=by rw[e i];exact fO n m
   exact Int.le_of_mul_le_mul_left (a:=s) (by simpa using B) hs
  have A:0<a->∀i,z i=0->x i=0:=λha' i v=>by
   have:=e i;rw[v,eW]at this;have n:=aP ha (K i);have m:=aP hb (J i);have B:a*x i=0:=by lia
   rcases eT.mp B with h|h
   .lia
   .exact h
  have o:0<b->∀i,z i=0->y i=0:=λZ i v=>by
   have:=e i;rw[v,eW]at this;have n:=aP ha (K i);have m:=aP hb (J i);have B:b*y i=0:=by lia
   rcases eT.mp B with h|h
   .lia
   .exact h
  have up:∀{g w:Vc},(∀i,z i=0->w i=0)->(∀i,w i=0->g i=0)->∀i,z i=0->g i=0:=λn m i v=>m i (n i v);refine⟨U,λh=>?_,λh=>?_,λh=>?_⟩
  .rcases zk ha hb (by rw[<-q];exact aX hs h) with⟨k,p⟩|⟨k,p⟩
   .obtain⟨g,c,d,j⟩:=N p;exact⟨g,c,up (A k) d,j⟩
   .obtain⟨g,c,d,j⟩:=Q p;exact⟨g,c,up (o k) d,j⟩
  .have w:=fP hs h;rcases zk (p:=-f x) (q:=-f y) ha hb (by rw[dE,dE];lia) with⟨k,p⟩|⟨k,p⟩
   .obtain⟨g,c,d,j⟩:=R (by lia);exact⟨g,c,up (A k) d,j⟩
   .obtain⟨g,c,d,j⟩:=L (by lia);exact⟨g,c,up (o k) d,j⟩
  .rw[h,eW]at q;by_cases D:0<a/\0<f x
   .have w:=aX D.1 D.2;rcases zk (p:=0) (q:=-f y) ha hb (by rw[dE];lia) with⟨-,p⟩|⟨k,p⟩
    .lia
    .obtain⟨g,c,d,j⟩:=N D.2;obtain⟨r,H,I,F⟩:=L (by lia);exact .inr ⟨g,r,c,H,up (A D.1) d,up (o k) I,j,F⟩
   .by_cases E:0<a/\f x<0
    .have w:=fP E.1 E.2;rcases zk (p:=0) (q:=f y) ha hb (by lia) with⟨-,p⟩|⟨k,p⟩
     .lia
     .obtain⟨g,c,d,j⟩:=Q p;obtain⟨r,H,I,F⟩:=R E.2;exact .inr ⟨g,r,c,H,up (o k) d,up (A E.1) I,j,F⟩
    .have C:∀{w:Vc},(∀i,z i=0->w i=0)->((∃g,P g/\(∀i,w i=0->g i=0)/\f g=0)\/∃g l,P g/\P l/\(∀i,w i=0->g i=0)/\(∀i,w i=0->l i=0)/\0<f g/\f l<0)->(∃g,P g/\(∀i,z i=0->g i=0)/\f g=0)\/∃g l,P g/\P l/\(∀i,z i=0->g i=0)/\(∀i,z i=0->l i=0)/\0<f g/\f l<0:=λu h=>by
      rcases h with⟨g,c,d,j⟩|⟨g,l,c,d,j,Y,g5⟩
      .exact .inl ⟨g,c,up u d,j⟩
      .exact .inr ⟨g,l,c,d,up u j,up u Y,g5⟩
     by_cases k:0<a
     .exact C (A k) (X (by lia))
     .rw[show a=0 by lia,eS,Int.zero_add]at q;exact C (o (by omega)) (z2 (by rcases eT.mp q.symm with w|w<;>omega))
def IQ(c:Sl m As u)(b:nc m As z)(d:∀i,u i=0->z i=0):∃s a:Int,0<s/\0<a/\∀i,s*u i=a*z i:=by
 obtain⟨j,e⟩:=b.ne;have r:j<m:=by
  rcases fG j m with h|h
  .exact h
  .exact absurd (b.out j h) e
 have l:0<z j:=by have:=b.nn j;lia
 obtain⟨k,x,n,g,v,f,p,w⟩:=Ap c.1 b.out b.eq ⟨j,r,l⟩ d;refine⟨z k,u k,n,g,λi=>?_⟩;refine aO λo=>?_;have q:nc m As (λi=>z k*u i-u k*z i):=⟨v,f,⟨i,by lia⟩,p⟩;have:=c.2 _ q (λi z=>by rw[z,d i z];simp) k (by rw[dB];lia);lia
def RG m A:∀x y z s a b,(∀i,s*z i=a*x i+b*y i)->s*lI m A z=a*lI m A x+b*lI m A y:=λ_ _ _ _ _ _ h=>tq h
theorem T2(p:∀x,P x->nc m As x)(H:∀u,nc m As u->Cn P u)(h0:∀x,P x->lI m A x=0->P' x)
  (h1:∀x y,P x->P y->0<lI m A x->lI m A y<0->cs m (λi=>(-lI m A y)*x i+lI m A x*y i)<=As.length+2->P' (λi=>(-lI m A y)*x i+lI m A x*y i)) :
  ∀n u,cs m u<=n->nc m (A::As) u->Cn P' u:=by
 intro n;induction n with
 |zero=>
  intro u hn f;obtain⟨i,o⟩:=f.ne;have im:i<m:=by
   rcases fG i m with h|h
   .exact h
   .exact absurd (f.out i h) o
  have:=DS (m:=m) (u:=λ_=>0) (v:=u) (λ_ _ _=>rfl) im o rfl;lia
 |succ n ih=>
  intro u hn f;by_cases F:Sl m (A::As) u
  .have E:nc m As u:=HG f λB d=>by simp[d]
   have hz:∃z,P' z/\nc m (A::As) z/\∀i,u i=0->z i=0:=by
    obtain⟨_,_,_,hp⟩:=(H u E).parts (λx hx=>(p x hx).nn) (RG m A);rcases hp (f.eq A (by simp)) with⟨g,l,w,D⟩|⟨g,c,l,w,D,g4,J,Q⟩
    .exact⟨g,h0 g l D,⟨(p g l).nn,(p g l).out,(p g l).ne,λB d=>by
      rcases aF.mp d with rfl|d
      .exact D
      .exact (p g l).eq B d⟩,w⟩
    .have q:=p g l;have r:=p c w;have L:∀B,lI m B (λi=>(-lI m A c)*g i+lI m A g*c i)=(-lI m A c)*lI m B g+lI m A g*lI m B c:=λB=>by have:=tq (m:=m) (A:=B) (x:=g) (y:=c) (z:=λi=>(-lI m A c)*g i+lI m A g*c i) (s:=1) (a:=-lI m A c) (b:=lI m A g) (λi=>by grind);simpa using this
     have R:0 < -lI m A c:=by exact fQ Q
     obtain⟨j,N⟩:=q.ne;have I:nc m (A::As) (λi=>(-lI m A c)*g i+lI m A g*c i):=by
      refine⟨λi=>?_,λi o=>?_,⟨j,?_⟩,λB d=>?_⟩
      .have X:=aP (aA R) (q.nn i);have Z:=aP (aA J) (r.nn i);exact fO X Z
      .rw[q.out i o,r.out i o];simp
      .have gj:0<g j:=by have:=q.nn j;lia
       have X:=aX R gj;have Z:=aP (aA J) (r.nn j);omega
      .rw[L B];rcases aF.mp d with rfl|d
       .grind
       .rw[q.eq B d,r.eq B d];simp
     have sz:∀i,u i=0->(-lI m A c)*g i+lI m A g*c i=0:=λi o=>by rw[D i o,g4 i o];simp
     refine⟨_,h1 g c l w J Q ?_,I,sz⟩;have f1:=Nx F;have f2:cs m (λi=>(-lI m A c)*g i+lI m A g*c i)<=cs m u:=Vb λi _ z=>sz i z;simp only[ay]at f1;exact aN f2 f1
   obtain⟨z,U,I,sz⟩:=hz;obtain⟨s,a,hs,Y,e⟩:=IQ F I sz;exact .lin (.of U) (.of U) hs (aA Y) (eB 0) (fR Y) λi=>by rw[e i];simp
  .obtain⟨v,hv,C,k,vk,uk⟩:∃v,nc m (A::As) v/\(∀i,u i=0->v i=0)/\∃k,v k=0/\u k≠0:=by refine aO λK=>F ⟨f,λv hv C i vi=>aO λui=>K ⟨v,hv,C,i,vi,ui⟩⟩
   have km:k<m:=by
    rcases fG k m with h|h
    .exact h
    .exact absurd (f.out k h) uk
   obtain⟨j,N⟩:=hv.ne;have jm:j<m:=by
    rcases fG j m with h|h
    .exact h
    .exact absurd (hv.out j h) N
   have jp:0<v j:=by have:=hv.nn j;lia
   obtain⟨t,ht,S,a2,a3,a4,a5,a6⟩:=Ap f hv.out hv.eq ⟨j,jm,jp⟩ C;have kp:0<u k:=by have:=f.nn k;lia
   have cn:nc m (A::As) (λi=>v t*u i-u t*v i):=⟨a3,a4,⟨k,by rw[vk];simp;exact⟨dD S,uk⟩⟩,a5⟩;have l1:=DS (m:=m) (u:=v) (v:=u) (λi _ z=>C i z) km uk vk;exact .lin (ih _ (by lia) cn) (ih v (by lia) hv) S (by decide:(0:Int)<=1) (aA a2) (by lia) λi=>by grind
end CL
namespace CL
open PySem L2 L3
variable {c:Cs}
def qv(p:Int×Int):Rat:=(p.1:Rat) / (p.2:Rat)
structure GF(A B:Nat)(p:Int×Int):Prop where
 pos:0<p.2
 one:Cu.G p.1 p.2=1
 b1:Bn A p.1
 b2:Bn B p.2
def GF.mono(h:GF A B p)(b:A<=A')(a:B<=B'):GF A' B' p:=⟨h.pos,h.one,h.b1.mono b,h.b2.mono a⟩
def mU{i:Int}(h:0<i):(0:Rat)<(i:Rat):=by have:=(fS).mpr h;simpa using this
def Kd{i:Int}(h:i≠0):(i:Rat)≠0:=λz=>by
 have e:i=(0:Rat):=by simpa using z
 exact h (Rat.intCast_inj.mp e)
def Lu a:Cu.G a 1=1:=by simp[Cu.G]
@[simp] theorem qm p:jA (fr p) (.int 0)=.ok (.int p.1):=rfl
@[simp] theorem pj p:jA (fr p) (.int 1)=.ok (.int p.2):=rfl
def wj A B t b (a:b≠0) (k:Bn A t) (j:Bn B b) (n:B<=400000):∃p,oM c [.int t,.int b]=.ok (fr p)/\GF A B p/\qv p=(t:Rat) / (b:Rat):=by
 have o:=Cu.zv t b a;have d:(if b<0 then -Cu.G t b else Cu.G t b)≠0:=by split<;>lia
 have g:(if b<0 then -Cu.G t b else Cu.G t b) ∣ t:=by split<;>first|exact Int.neg_dvd.mpr (Cu.ng t b)|exact Cu.ng t b
 have i:(if b<0 then -Cu.G t b else Cu.G t b) ∣ b:=by split<;>first|exact Int.neg_dvd.mpr (Cu.mq t b)|exact Cu.mq t b
 have f:=Cu.EB t b a;refine⟨(t.fdiv (if b<0 then -Cu.G t b else Cu.G t b),b.fdiv (if b<0 then -Cu.G t b else Cu.G t b)),jh rfl (iR (jw (i6 (iP rfl rfl (by rw[jW];simp[a]))) rfl) (iR (iY (jv rfl rfl (lQ t b)) rfl) (iR (ρ':=[some (.p (.int t)),some (.p (.int b)),some (.p (.int (if b<0 then -Cu.G t b else Cu.G t b)))]) ?_ (i7 (oy (iP rfl rfl (mY d)) (iP rfl rfl (mY d))))))),⟨f.pos,f.one,cD (tE g d) k,cD (tE i d) j⟩,?_⟩
 .by_cases h:b<0
  .exact jR (i6 (iP rfl rfl (by rw[uB];simp[h]))) (iY (pZ rfl) (by simp[h]))
  .exact jw (i6 (iP rfl rfl (by rw[uB];simp[h]))) (by simp[h])
 .have e:=f.is;generalize t.fdiv (if b<0 then -Cu.G t b else Cu.G t b)=x at *;generalize m:b.fdiv (if b<0 then -Cu.G t b else Cu.G t b)=y at *;have l:=f.pos;have s:(x:Rat)*(b:Rat)=(t:Rat)*(y:Rat):=by rw[<-fT,<-fT,e]
  have r:=Kd a;have q:(y:Rat)≠0:=Kd (dD l);show (x:Rat) / (y:Rat)=_;grind
def JR(a:GF A B p)(hr:GF A' B' r)(i:B+B'<=400000)(h:A<=900000)(f:A'<=900000):∃s,xj c [fr p,fr r]=.ok (fr s)/\GF (max (A+B') (A'+B)+1) (B+B') s/\qv s=qv p-qv r:=by have b:=a.pos;have d:=hr.pos;obtain⟨s,e,g,q⟩:=wj (max (A+B') (A'+B)+1) (B+B') (p.1*r.2-r.1*p.2) (p.2*r.2) (dG (dD b) (dD d)) ((a.b1.mul hr.b2).sub (hr.b1.mul a.b2)) (a.b2.mul hr.b2) i;refine⟨s,jh rfl (i7 (jv (iP (iP (iP rfl rfl (qm p)) (iP rfl rfl (pj r)) (jx (a.b1.ok hr.b2 (aN h (by decide)) (by lia)))) (iP (iP rfl rfl (qm r)) (iP rfl rfl (pj p)) (jx (hr.b1.ok a.b2 (aN f (dM _ _)) (by lia)))) (nT _ _)) (iP (iP rfl rfl (pj p)) (iP rfl rfl (pj r)) (jx (a.b2.ok hr.b2 (by lia) (by lia)))) e)),g,?_⟩;rw[q];have j:(p.2:Rat)≠0:=Kd (by lia);have k:(r.2:Rat)≠0:=Kd (by lia);unfold qv;simp only[Rat.intCast_sub,fT];grind
def FS(a:Bn N k)(hr:GF A B r)(h:B<=400000)(f:N<=900000)(b:A<=900000):∃s,rj c [fr (k,1),fr r]=.ok (fr s)/\GF (N+A) B s/\qv s=(k:Rat)*qv r:=by have d:=hr.pos;obtain⟨s,e,g,q⟩:=wj (N+A) B (k*r.1) (1*r.2) (by lia) (a.mul hr.b1) (by rw[eY];exact hr.b2) h;refine⟨s,jh rfl (i7 (jv (iP (iP rfl rfl (qm (k,1))) (iP rfl rfl (qm r)) (jx (a.ok hr.b1 (aN f (by decide)) (aN b (dM _ _))))) (iP (iP rfl rfl (pj (k,1))) (iP rfl rfl (pj r)) (jx (xV (show (1:Int).natAbs<2 ^ 64 by decide)))) e)),g,?_⟩;rw[q,eY];unfold qv;simp only[fT];grind
def B1(b:k≠0)(d:Bn N k)(hr:GF A B r)(f:B+N<=400000)(h:A<=900000):∃s,t5 c [fr r,fr (k,1)]=.ok (fr s)/\GF A (B+N) s/\qv s=qv r / (k:Rat):=by have a:=hr.pos;obtain⟨s,e,g,q⟩:=wj A (B+N) (r.1*1) (r.2*k) (dG (dD a) b) (by rw[bD];exact hr.b1) (hr.b2.mul d) f;refine⟨s,jh rfl (iR (jw (i6 (iP (iP rfl rfl (qm (k,1))) rfl (by rw[jW];simp[b]))) rfl) (i7 (jv (iP (iP rfl rfl (qm r)) (iP rfl rfl (pj (k,1))) (jx (GW (show (1:Int).natAbs<2 ^ 64 by decide)))) (iP (iP rfl rfl (pj r)) (iP rfl rfl (qm (k,1))) (jx (hr.b2.ok d (by lia) (by lia)))) e))),g,?_⟩;rw[q,bD];unfold qv;simp only[fT];grind
def Hc(d:0<p.2)(hr:0<r.2):qv p<qv r↔p.1*r.2<r.1*p.2:=by
 have a:=mU d;have b:=mU hr;have i:(p.2:Rat)≠0:=Kd (dD d);have j:(r.2:Rat)≠0:=Kd (dD hr);have f:qv p*(p.2*r.2)=((p.1*r.2:Int):Rat):=by unfold qv;rw[fT];grind
 have g:qv r*((p.2:Rat)*(r.2:Rat))=((r.1*p.2:Int):Rat):=by unfold qv;rw[fT];grind
 have e:=fU a b;rw[<-fS,<-f,<-g];exact⟨λh=>Rat.mul_lt_mul_of_pos_right h e,λh=>Rat.lt_of_mul_lt_mul_right h (fV e)⟩
def Ah(d:0<p.2)(hr:0<r.2)(b:IntMulOk p.1 r.2)(a:IntMulOk r.1 p.2):mM c [fr p,fr r]=.ok (.bl (decide (qv p<qv r))):=by
 refine jh rfl (i7 (iP (iP (iP rfl rfl (qm p)) (iP rfl rfl (pj r)) (jx b)) (iP (iP rfl rfl (qm r)) (iP rfl rfl (pj p)) (jx a)) ?_));rw[uB];have:=Hc d hr;by_cases h:p.1*r.2<r.1*p.2
 .rw[aC h,aC (this.mpr h)]
 .rw[aB h,aB (λz=>h (this.mp z))]
def IF(a:GF A B p)(b:B<=400000):lN c [fr p]=.ok (.int (p.1.fdiv p.2)):=by have:=a.pos;exact jh rfl (i7 (iP (iP rfl rfl (qm p)) (iP rfl rfl (pj p)) (mY (dD this))))
noncomputable def nb(x:Int):Nat:=x.natAbs.log2+1
def LA x:Bn (nb x) x:=Nat.lt_log2_self
def HN(h:Bn E x)(b:1<=E):nb x<=E:=by
 unfold nb Bn at *;by_cases a:x.natAbs=0
 .rw[a];simp;exact b
 .have:=(Nat.log2_lt a).mpr h;exact this
noncomputable def wt(p:Int×Int):Nat:=max (nb p.1) (nb p.2)
noncomputable def pN(s:List (Int×Int)):Nat:=(s.map wt).sum
structure Fq(p:Int×Int):Prop where
 pos:0<p.2
 one:Cu.G p.1 p.2=1
def Fq.gf(h:Fq p):GF (wt p) (wt p) p:=⟨h.pos,h.one,(LA _).mono (d6 _ _),(LA _).mono (Nat.le_max_right _ _)⟩
def GF.fq(h:GF A B p):Fq p:=⟨h.pos,h.one⟩
def GF.wt(h:GF A B p)(d:A<=E)(b:B<=E)(a:1<=E):wt p<=E:=Nat.max_le.mpr ⟨HN (h.b1.mono d) a,HN (h.b2.mono b) a⟩
def UH(p:Int×(Int×Int)):T:=.tup [.int p.1,fr p.2]
theorem Cf x0 x1 N (m:N<=400000):∀(a:List (Int×(Int×Int))) (left:Int×Int) (B j:Nat) (b f:Option W),j+a.length<=100->(∀p∈a,Bn N p.1/\Fq p.2)->B+pN (a.map Prod.snd)<=400000->GF (N+B+j) B left->
  ∃s i l,kX ll (ub c) (a.map UH) [x0,x1,some (.p (fr left)),b,f]=.nx [x0,x1,some (.p (fr s)),i,l]/\GF (N+(B+pN (a.map Prod.snd))+(j+a.length)) (B+pN (a.map Prod.snd)) s/\
   qv s=qv left-(a.map λp=>(p.1:Rat)*qv p.2).sum
 |[],left,B,j,b,f,_,_,_,hg=>⟨left,b,f,rfl,by simpa[pN] using hg,by simp;grind⟩
 |p::a,left,B,j,b,f,hj,hp,hB,hg=>by
  obtain⟨u,o⟩:=hp p (by simp);have d:B+wt p.2+pN (a.map Prod.snd)<=400000:=by simp[pN]at hB ⊢;lia
  obtain⟨t,h,n,w⟩:=FS u o.gf (by lia) (aN m (by decide)) (by lia);simp at hj;obtain⟨k,v,y,z⟩:=JR hg n (aN (cJ _ _) d) (by lia) (by lia);have A:GF (N+(B+wt p.2)+(j+1)) (B+wt p.2) k:=y.mono (by lia) (aK _);obtain⟨s,i,l,e,g,q⟩:=Cf x0 x1 N m a k (B+wt p.2) (j+1) (some (.p (.int p.1))) (some (.p (fr p.2))) (by lia) (λr hr=>hp r (by simp[hr])) d A;refine⟨s,i,l,?_,?_,?_⟩
  .rw[bK,kX];have C:ll (UH p) [x0,x1,some (.p (fr left)),b,f]=some [x0,x1,some (.p (fr left)),some (.p (.int p.1)),some (.p (fr p.2))]:=rfl;rw[C];have x:ub c [x0,x1,some (.p (fr left)),some (.p (.int p.1)),some (.p (fr p.2))]=.nx [x0,x1,some (.p (fr k)),some (.p (.int p.1)),some (.p (fr p.2))]:=iY (jv rfl (jv (oy rfl rfl) rfl h) v) rfl;dsimp only;rw[x];exact e
  .have h:B+wt p.2+pN (a.map Prod.snd)=B+pN ((p::a).map Prod.snd):=by simp[pN];exact bX _ _ _
   rw[h]at g;exact g.mono (by simp;lia) (aK _)
  .rw[q,z,w];simp only[bK,fW];grind
noncomputable def IL(row:LI)(s:List (Int×Int)):Rat:=((row.zip s).map λp=>(p.1:Rat)*qv p.2).sum
def yB N (i:N<=400000) (o:1<=N) row s (a:s.length<row.length) (k:s.length<=10) (d:∀x∈row,Bn N x) (l:∀p∈s,Fq p) (m:1+pN s<=400000) :
  ∃r,mV c [tI row,.lst (s.map fr)]=.ok (fr r)/\GF (N+pN s+20) (1+pN s) r/\qv r=(vc row s.length:Rat)-IL row s:=by
 have h:=lX row s.length a;have f:(row.zip s).map Prod.snd=s:=by rw[List.map_snd_zip];exact bg a
 have j:=d _ (getD_mem row s.length a);obtain⟨r,n,u,e,g,q⟩:=Cf (some (.p (tI row))) (some (.p (.lst (s.map fr)))) N i (row.zip s) (vc row s.length,1) 1 0 none none (by simp;exact bg (cD (bT _ _) (cD k (by decide)))) (λp b=>⟨d _ (aW b).1,l _ (aW b).2⟩) (by rw[f];exact m) ⟨show 0<1 by decide,Lu _,j.mono (bL _),show Bn 1 1 by unfold Bn;decide⟩;rw[f]at g;refine⟨r,jh rfl (iR (iY (oy (iP rfl (nV (r:=.ok (.int s.length)) rfl (by simp)) ?_) rfl) rfl) (iR (ku (nG rfl rfl rfl rfl) e) (i7 rfl))),g.mono (by simp;lia) (aK _),?_⟩
 .exact h
 .rw[q];unfold IL;have:qv (vc row s.length,1)=(vc row s.length):=by unfold qv;simp;grind
  rw[this]
def oT:Option (Int×Int)->T
 |none=>.non
 |some p=>fr p
def rX(a:Option (Int×Int))(q:Rat):Prop:=∀p,a=some p->qv p<q
def rS(a:Option (Int×Int))(q:Rat):Prop:=∀r,a=some r->q<qv r
noncomputable def QV:Option (Int×Int)->Int
 |some r=>if r.1<=0 then -((-r.1).fdiv r.2)-1 else 0
 |none=>0
noncomputable def wb(b a:Option (Int×Int)):Int:=match b with
 |some p=>if 0<=p.1 then p.1.fdiv p.2+1 else QV a
 |none=>QV a
instance (lo:Option (Int×Int)) (q:Rat):Decidable (rX lo q):=match lo with
 |none=>.isTrue λ_ h=>nomatch h
 |some p=>if h:qv p<q then .isTrue λr e=>by cases e;exact h else .isFalse λz=>h (z p rfl)
instance (hi:Option (Int×Int)) (q:Rat):Decidable (rS hi q):=match hi with
 |none=>.isTrue λ_ h=>nomatch h
 |some p=>if h:q<qv p then .isTrue λr e=>by cases e;exact h else .isFalse λz=>h (z p rfl)
def Ke(a b:Option (Int×Int)):T:=if rX a (wb a b:Rat)/\rS b (wb a b:Rat) then .int (wb a b) else .non
def Oe(E:Nat)(o:Option (Int×Int)):Prop:=∀p,o=some p->0<p.2/\Bn E p.1/\Bn E p.2
def JM i:qv (i,1)=(i:Rat):=by unfold qv;simp;grind
def uW(a b:Int)(d:0<b):a.fdiv b*b<=a/\a<(a.fdiv b+1)*b:=by
 have e:=c9 a b;have i:=dh a d;have h:=du a d;have g:b*a.fdiv b=a.fdiv b*b:=dB _ _;constructor
 .omega
 .have f:(a.fdiv b+1)*b=a.fdiv b*b+b:=by grind
  omega
def CT(a b:Int)(d:0<b):(a.fdiv b).natAbs<=a.natAbs:=by
 obtain⟨n,m⟩:=uW a b d;rcases Int.le_total 0 a with h|h
 .have f:=fX h (aA d);have e:a.fdiv b<=a.fdiv b*b:=by have:=eV (show 1<=b by omega) f;omega
  omega
 .have f:a.fdiv b+1<=1:=by
   refine eU.mp λz=>?_;have e:1<=a.fdiv b:=by exact Int.le_of_lt_add_one z
   have:=aJ e (aA d);omega
  by_cases i:a=0
  .subst i;simp
  .have j:a<=a.fdiv b:=by
    refine eU.mp λz=>?_;have g:a.fdiv b+1<=a:=by exact z
    have l:=aJ g (aA d);have k:a*b<=a*1:=fY h (by lia);omega
   omega
def Ri(g:Oe E lo)(f:Oe E hi):(wb lo hi).natAbs<2 ^ E+1:=by
 have d:(QV hi).natAbs<2 ^ E+1:=by
  cases e:hi with
  |none=>simp[QV]
  |some r=>
   obtain⟨a,b,_⟩:=f r e;show (if r.1<=0 then -((-r.1).fdiv r.2)-1 else 0).natAbs<2 ^ E+1;split
   .have:=CT (-r.1) r.2 a;unfold Bn at b;rw[d9]at this;omega
   .simp
 unfold wb;cases e:lo with
 |none=>exact d
 |some p=>
  obtain⟨a,b,_⟩:=g p e;dsimp only;split
  .have:=CT p.1 p.2 a;unfold Bn at b;omega
  .exact d
def tG neg o:mE neg (oT o) .non=.ok (.bl (if neg then o.isSome else o.isNone)):=by cases o<;>cases neg<;>rfl
def Q9(a:0<p.2/\Bn E p.1/\Bn E p.2)(b:E<=400000)(d:Bn (E+1) i):mM c [fr p,fr (i,1)]=.ok (.bl (decide (qv p<(i:Rat)))):=by have:=Ah (c:=c) (r:=(i,1)) a.1 (by decide:(0:Int)<1) (a.2.1.ok (show Bn 1 1 by unfold Bn;decide) (aN b (dM _ _)) (bW _)) (d.ok a.2.2 (cD b (by decide)) (aN b (dM _ _)));rw[JM]at this;exact this
def Qb(a:0<p.2/\Bn E p.1/\Bn E p.2)(b:E<=400000)(d:Bn (E+1) i):mM c [fr (i,1),fr p]=.ok (.bl (decide ((i:Rat)<qv p))):=by have:=Ah (c:=c) (p:=(i,1)) (by decide:(0:Int)<1) a.1 (d.ok a.2.2 (cD b (by decide)) (aN b (dM _ _))) (a.2.1.ok (show Bn 1 1 by unfold Bn;decide) (aN b (dM _ _)) (bW _));rw[JM]at this;exact this
def vC(h:fc ρ=.ok false):nP fc fd ρ=.ok false:=by simp only[L3.nP,h,M.bind_ok];rfl
def n9(h:fc ρ=.ok true)(h2:fd ρ=.ok b):nP fc fd ρ=.ok b:=by simp only[L3.nP,h,h2,M.bind_ok];rfl
def LY(h:fc ρ=.ok b):lY fc ρ=.ok (!b):=by simp only[L3.lY,h,M.bind_ok]
def Ls(a:0<p.2/\Bn E p.1/\Bn E p.2)(b:E<=400000):lN c [fr p]=.ok (.int (p.1.fdiv p.2)):=by have:=a.1;exact jh rfl (i7 (iP (iP rfl rfl (qm p)) (iP rfl rfl (pj p)) (mY (dD a.1))))
def U1(a:0<p.2/\Bn E p.1/\Bn E p.2)(b:E<=400000):mz c [fr p]=.ok (.int (-((-p.1).fdiv p.2))):=by have:=a.1;exact jh rfl (i7 (pZ (iP (pZ (iP rfl rfl (qm p))) (iP rfl rfl (pj p)) (mY (dD a.1)))))
def sA E (n:E<=400000) b a (v:Oe E b) (u:Oe E a):lP c [oT b,oT a]=.ok (Ke b a):=by
 have hw:=Ri v u;have x:Bn (E+1) (wb b a):=by unfold Bn;have:=eQ E;rw[d7];lia
 let R (w:Option W):En:=[some (.p (oT b)),some (.p (oT a)),w];have A:setO 2 (j9 ac) (R none)=.nx (R (some (.p (.int 0)))):=iY rfl rfl;have j:mB (nP dL (jE (iU QX db ac))) (setO 2 (j9 (iU jU (iV bv (lN c)) ab))) (mB dl (setO 2 (j9 (iU tO (iV ap (mz c)) ab))) ju) (R (some (.p (.int 0))))=.nx (R (some (.p (.int (wb b a))))):=by
  have g:∀o,(o=QV a)->(mB dl (setO 2 (j9 (iU tO (iV ap (mz c)) ab))) ju) (R (some (.p (.int 0))))=.nx (R (some (.p (.int o)))):=λo f=>by
   cases e:a with
   |none=>rw[e,QV]at f;subst f;exact jw (vC (i6 (iP rfl rfl (by show mE true (oT a) .non=_;rw[tG,e];rfl)))) rfl
   |some r=>
    rw[e,QV]at f;have d:mE true (oT a) .non=.ok (.bl true):=by rw[tG,e];rfl
    have FY:jA (oT a) (.int 0)=.ok (.int r.1):=by rw[e];rfl
    by_cases hr:r.1<=0
    .rw[aQ hr]at f;subst f;exact jR (n9 (i6 (iP rfl rfl d)) (i6 (iP (iP rfl rfl FY) rfl (by rw[Dc];simp[hr])))) (iY (iP (nU rfl (by rw[e];exact U1 (u r e) n)) rfl (nT _ _)) rfl)
    .rw[aR hr]at f;subst f;exact jw (n9 (i6 (iP rfl rfl d)) (i6 (iP (iP rfl rfl FY) rfl (by rw[Dc];simp[hr])))) rfl
  cases e:b with
  |none=>exact jw (vC (i6 (iP rfl rfl (by show mE true (oT b) .non=_;rw[tG,e];rfl)))) (g _ rfl)
  |some p=>
   have d:mE true (oT b) .non=.ok (.bl true):=by rw[tG,e];rfl
   have FY:jA (oT b) (.int 0)=.ok (.int p.1):=by rw[e];rfl
   by_cases m:0<=p.1
   .refine jR (n9 (i6 (iP rfl rfl d)) (i6 (iP (iP rfl rfl FY) rfl (by rw[wg];simp[m])))) (iY (iP (nU rfl (by rw[e];exact Ls (v p e) n)) rfl (jY _ _)) ?_);simp[wb,m,R]
   .exact jw (n9 (i6 (iP rfl rfl d)) (i6 (iP (iP rfl rfl FY) rfl (by rw[wg];simp[m])))) (g _ (by simp[wb,m]))
 have testlo:nP dL (lY (jE (iV (iL a0 (iL (kH (iL bi dd)) iQ)) (mM c)))) (vw (R (some (.p (.int (wb b a))))))=.ok (!decide (rX b (wb b a:Rat))):=by
  cases e:b with
  |none=>have:rX none (wb none a:Rat):=λ_ z=>nomatch z;rw[<-e,aC (by rw[e];exact this)];exact vC (i6 (iP rfl rfl (by show mE true (oT b) .non=_;rw[tG,e];rfl)))
  |some p=>
   have d:mE true (oT b) .non=.ok (.bl true):=by rw[tG,e];rfl
   rw[<-e];refine n9 (i6 (iP rfl rfl d)) (LY (i6 (jv rfl (oy rfl rfl) ?_)));have q:=Q9 (c:=c) (v p e) n x;have s:decide (rX b (wb b a:Rat))=decide (qv p<(wb b a:Rat)):=by
    by_cases z:qv p<(wb b a:Rat)
    .rw[aC z,aC];intro r k;rw[e]at k;cases k;exact z
    .rw[aB z,aB];exact λy=>z (y p e)
   rw[s];rw[show oT b=fr p by rw[e];rfl];exact q
 have testhi:nP (jE (iU (mE true) bd b4)) (lY (jE (iV (iL (kH (iL bi dd)) ap) (mM c)))) (vw (R (some (.p (.int (wb b a))))))=.ok (!decide (rS a (wb b a:Rat))):=by
  cases e:a with
  |none=>have:rS none (wb b none:Rat):=λ_ z=>nomatch z;rw[<-e,aC (by rw[e];exact this)];exact vC (i6 (iP rfl rfl (by show mE true (oT a) .non=_;rw[tG,e];rfl)))
  |some p=>
   have d:mE true (oT a) .non=.ok (.bl true):=by rw[tG,e];rfl
   rw[<-e];refine n9 (i6 (iP rfl rfl d)) (LY (i6 (jv (y:=oT a) (oy rfl rfl) rfl ?_)));have q:=Qb (c:=c) (i:=wb b a) (u p e) n x;have s:decide (rS a (wb b a:Rat))=decide ((wb b a:Rat)<qv p):=by
    by_cases z:(wb b a:Rat)<qv p
    .rw[aC z,aC];intro r k;rw[e]at k;cases k;exact z
    .rw[aB z,aB];exact λy=>z (y p e)
   rw[s];rw[show oT a=fr p by rw[e];rfl];exact q
 refine jh rfl (iR A (iR j ?_));unfold Ke;by_cases l:rX b (wb b a:Rat)
 .rw[aC l]at testlo;refine iR (jw testlo rfl) ?_;by_cases h:rS a (wb b a:Rat)
  .rw[aC h]at testhi;rw[aQ ⟨l,h⟩];exact iR (jw testhi rfl) (i7 rfl)
  .rw[aB h]at testhi;rw[aR (λz=>h z.2)];exact lE (jR testhi (i7 rfl)) rfl
 .rw[aB l]at testlo;rw[aR (λz=>l z.1)];exact lE (jR testlo (i7 rfl)) rfl
def one_pos:0<((i,1):Int×Int).2:=by show 0<1;decide
noncomputable def rb(fs:LI)(x:Int×Int):Int×Int:=fs.foldr (λf x=>(f*x.1+x.2,x.1)) x
structure We(lo hi:Option (Int×Int))(f:Int)(lo1 hi1:Option (Int×Int)):Prop where
 ex:∃p r:Int×Int,lo=some p/\hi=some r/\f=p.1.fdiv p.2/\lo1=some (r.2,r.1-f*r.2)/\hi1=(if p.1-f*p.2=0 then none else some (p.2,p.1-f*p.2))/\0<p.2/\0<r.2/\p.1*r.2<r.1*p.2/\r.1<=(f+1)*r.2
inductive A7:Option (Int×Int)->Option (Int×Int)->LI->Option (Int×Int)->Option (Int×Int)->Prop
 |nil {lo hi:Option (Int×Int)}:A7 lo hi [] lo hi
 |cons {lo hi lo1 hi1 lo2 hi2:Option (Int×Int)} {f:Int} {fs:LI}:We lo hi f lo1 hi1->A7 lo1 hi1 fs lo2 hi2->A7 lo hi (f::fs) lo2 hi2
def A7.snoc(h:A7 lo hi fs lo1 hi1)(s:We lo1 hi1 f lo2 hi2):A7 lo hi (fs++[f]) lo2 hi2:=by
 induction h with
 |nil=>exact .cons s .nil
 |cons s' _ ih=>exact .cons s' (ih s)
structure Gd(lo hi:Option (Int×Int))(x:Int×Int):Prop where
 lo:rX lo (qv x)
 hi:rS hi (qv x)
 pos:0<x.2
 one:Cu.G x.1 x.2=1
noncomputable def tp:Option (Int×Int)->Int
 |some p=>p.1
 |none=>1
noncomputable def bt:Option (Int×Int)->Int
 |some p=>p.2
 |none=>0
def Pu f a b:Cu.G (f*a+b) a=Cu.G b a:=by
 have h:=Cu.Ga (f*a+b) a;have d:=Cu.Ga b a;have e:(f*a+b).fmod a=b.fmod a:=by rw[Int.add_comm];have:=Int.add_mul_fmod_self_right b f a;exact this
 rw[<-h,e,d]
def RS a b:Cu.G a b=Cu.G b a:=by unfold Cu.G;rw[dH]
def HC(s:We lo hi f lo1 hi1)(h:Gd lo1 hi1 x)(j:0<x.1):Gd lo hi (f*x.1+x.2,x.1):=by
 obtain⟨p,r,rfl,rfl,w,rfl,rfl,b,hr,g,u⟩:=s.ex;obtain⟨y,A,i,n⟩:=h;obtain⟨a,d⟩:=uW p.1 p.2 b;rw[<-w]at a d;have k:0<r.1-f*r.2:=by
  have v:=aJ a (aA hr);have o:f*r.2*p.2<r.1*p.2:=by
   have:f*r.2*p.2=f*p.2*r.2:=by grind
   exact fZ (fN this) (fZ v g)
  have:=f9 o (aA b);exact fR this
 have D:=(Hc k i).mp (y _ rfl);refine⟨λF e=>?_,λC e=>?_,j,?_⟩
 .cases e;rw[Hc b j];by_cases q:p.1-f*p.2=0
  .have:p.1=f*p.2:=by lia
   rw[this];have:=aX i b;have l:(f*x.1+x.2)*p.2=f*p.2*x.1+x.2*p.2:=by grind
   lia
  .have z:=A (p.2,p.1-f*p.2) (by rw[aR q]);have m:0<p.1-f*p.2:=by lia
   have E:=(Hc i m).mp z;have l:(f*x.1+x.2)*p.2=f*x.1*p.2+p.2*x.2:=by grind
   have B:x.1*(p.1-f*p.2)=p.1*x.1-f*x.1*p.2:=by grind
   lia
 .cases e;rw[Hc j hr];lia
 .rw[Pu,RS];exact n
theorem MU(e:b=some p)(f:0<p.2)(k:0<p.1)(hr:∀r,a=some r->0<r.2)(l:rX b (wb b a:Rat))(g:rS a (wb b a:Rat)) :
  Gd b a (wb b a,1)/\0<wb b a/\wb b a<=tp b+tp a/\1<=bt b+bt a:=by
 have j:wb b a=p.1.fdiv p.2+1:=by unfold wb;rw[e];simp;omega
 have m:0<=p.1.fdiv p.2:=fX (aA k) (aA f);have o:=CT p.1 p.2 f;refine⟨⟨by rw[JM];exact l,by rw[JM];exact g,one_pos,Lu _⟩,by omega,?_,?_⟩
 .cases d:a with
  |none=>rw[d]at j;rw[e];show wb (some p) none<=p.1+1;rw[<-e];omega
  |some r=>have h:=hr r d;have i:=g r d;rw[<-JM,Hc one_pos h]at i;dsimp only at i;rw[<-d,e];rw[d];show wb (some p) (some r)<=p.1+r.1;rw[<-e,<-d];have n:wb b a*1<=wb b a*r.2:=eV h (by omega);omega
 .rw[e];show 1<=p.2+bt a;have:0<=bt a:=by
   cases d:a with
   |none=>exact eB _
   |some r=>have:=hr r d;show 0<=r.2;exact aA this
  exact Int.add_le_add f this
theorem EH(h:A7 i l fs b a):∀p,i=some p->0<p.2->0<p.1->(∀r,l=some r->0<r.2)->(∀r,a=some r->0<r.2)->rX b (wb b a:Rat)->rS a (wb b a:Rat)->
  Gd i l (rb fs (wb b a,1))/\0<(rb fs (wb b a,1)).1/\(rb fs (wb b a,1)).1<=tp i+tp l/\(rb fs (wb b a,1)).2<=bt i+bt l:=by
 induction h with
 |nil=>intro p e j w hr _ y A;exact MU e j w hr y A
 |cons s _ ih=>
  rename_i i l g d b a f fs _;intro p e j w hr x y A;obtain⟨Z,r,D,E,K,m,n,R,J,P,Y⟩:=s.ex;rw[e]at D;cases D;obtain⟨k,q⟩:=uW p.1 p.2 j;rw[<-K]at k q;have C:0<=f:=by rw[K];exact fX (aA w) (aA j)
  have B:0<r.1-f*r.2:=by
   have N:=aJ k (aA J);have L:f*r.2*p.2<r.1*p.2:=by
    have:f*r.2*p.2=f*p.2*r.2:=by grind
    exact fZ (fN this) (fZ N P)
   have:=f9 L (aA j);exact fR this
  have v:∀u,d=some u->0<u.2:=λu o=>by
   rw[n]at o;split at o
   .cases o
   .cases o;dsimp only;lia
  obtain⟨I,F,Q,U⟩:=ih (r.2,r.1-f*r.2) m B J v x y A;refine⟨HC s I F,?_,?_,?_⟩
  .show 0<f*(rb fs (wb b a,1)).1+(rb fs (wb b a,1)).2;have:=I.pos;have:=aP C (aA F);lia
  .show f*(rb fs (wb b a,1)).1+(rb fs (wb b a,1)).2<=_;rw[e,E];show _<=p.1+r.1;have H:tp g+tp d<=r.2+p.2:=by
    rw[m,n];split
    .show r.2+1<=_;lia
    .exact eB _
   have S:bt g+bt d=(r.1-f*r.2)+(p.1-f*p.2):=by
    rw[m,n];split
    .rename_i z;rw[z];rfl
    .rfl
   have m1:f*(rb fs (wb b a,1)).1<=f*(r.2+p.2):=eV (dQ Q H) C;have X:f*(r.2+p.2)=f*r.2+f*p.2:=fv _ _ _;lia
  .show (rb fs (wb b a,1)).1<=_;rw[e,E];show _<=p.2+r.2;have H:tp g+tp d<=r.2+p.2:=by
    rw[m,n];split
    .show r.2+1<=_;lia
    .exact eB _
   lia
theorem LH(i:∀p,d=some p->0<p.2)(h:∀r,f=some r->0<r.2)(n:∀p r,d=some p->f=some r->qv p<qv r)(k:¬(rX d (wb d f:Rat)/\rS f (wb d f:Rat))) :
  ∃p r,d=some p/\f=some r/\p.1*r.2<r.1*p.2/\r.1<=(p.1.fdiv p.2+1)*r.2:=by
 have up:∀p:Int×Int,d=some p->qv p<((p.1.fdiv p.2+1:Int):Rat):=λp e=>by rw[<-JM,Hc (i p e) one_pos];have:=(uW p.1 p.2 (i p e)).2;dsimp only;simp[this]
 have s:∀r:Int×Int,f=some r->((-((-r.1).fdiv r.2)-1:Int):Rat)<qv r:=λr e=>by
  rw[<-JM,Hc one_pos (h r e)];have:=(uW (-r.1) r.2 (h r e)).2;have v:(-((-r.1).fdiv r.2)-1)*r.2 = -(((-r.1).fdiv r.2+1)*r.2):=by grind
  lia
 have l:∀p:Int×Int,d=some p->p.1<0->qv p<((0:Int):Rat):=λp e z=>by rw[<-JM,Hc (i p e) one_pos];dsimp only;simp[z]
 have j:∀r:Int×Int,f=some r->0<r.1->((0:Int):Rat)<qv r:=λr e z=>by rw[<-JM,Hc one_pos (h r e)];dsimp only;simp[z]
 cases a:d with
 |none=>
  exfalso;refine k ⟨λp e=>(by rw[a]at e;cases e),λr e=>?_⟩;have g:wb d f=if r.1<=0 then -((-r.1).fdiv r.2)-1 else 0:=by unfold wb;rw[a,e];rfl
  rw[g];split
  .exact s r e
  .exact j r e (b7.mp ‹_›)
 |some p=>
  cases b:f with
  |none=>
   exfalso;refine k ⟨λo e=>?_,λr e=>(by rw[b]at e;cases e)⟩;rw[a]at e;cases e;have g:wb d f=if 0<=p.1 then p.1.fdiv p.2+1 else 0:=by unfold wb;rw[a,b];rfl
   rw[g];split
   .exact up p a
   .exact l p a (b7.mp ‹_›)
  |some r=>
   have lt:=(Hc (i p a) (h r b)).mp (n p r a b);refine⟨p,r,rfl,rfl,lt,?_⟩;by_cases m:0<=p.1
   .have g:wb d f=p.1.fdiv p.2+1:=by unfold wb;rw[a];simp[m]
    refine eU.mp λz=>k ⟨λo e=>?_,λu e=>?_⟩
    .rw[a]at e;cases e;rw[g];exact up p a
    .rw[b]at e;cases e;rw[g,<-JM,Hc one_pos (h r b)];dsimp only;simp[z]
   .by_cases hr:r.1<=0
    .have g:wb d f = -((-r.1).fdiv r.2)-1:=by unfold wb;rw[a,b];simp[m,QV,hr]
     refine eU.mp λz=>k ⟨λo e=>?_,λu e=>?_⟩
     .rw[a]at e;cases e;rw[g,<-JM,Hc (i p a) one_pos];dsimp only;have y:=(uW (-r.1) r.2 (h r b)).1;have x:=(uW p.1 p.2 (i p a)).2;have q:=h r b;have v:-((-r.1).fdiv r.2)*r.2 = -((-r.1).fdiv r.2*r.2):=by grind
      have w:(p.1.fdiv p.2+1)*r.2 < -((-r.1).fdiv r.2)*r.2:=by omega
      have B:=f9 w (aA q);have A:(p.1.fdiv p.2+1)*p.2<=(-((-r.1).fdiv r.2)-1)*p.2:=aJ (by omega) (aA (i p a));omega
     .rw[b]at e;cases e;rw[g];exact s r b
    .have g:wb d f=0:=by unfold wb;rw[a,b];simp[m,QV,hr]
     exfalso;refine k ⟨λo e=>?_,λu e=>?_⟩
     .rw[a]at e;cases e;rw[g];exact l p a (b7.mp m)
     .rw[b]at e;cases e;rw[g];exact j r b (b7.mp hr)
noncomputable def Uw:En->Nat:=λd=>match d with|some (.p (.tup [_,.int a]))::some (.p (.tup [_,.int b]))::_=>a.natAbs+b.natAbs+2|_=>1
noncomputable def Fh:En->Nat:=λd=>match d with|some (.p (.tup [_,.int a]))::some (.p (.tup [_,.int b]))::_::some (.p .non)::_=>a.natAbs+b.natAbs+1|_=>0
def zg(b a:Option (Int×Int))(fs:LI)(d f e:Option W):En:=[some (.p (oT b)),some (.p (oT a)),some (.o (fs.map T.int)),some (.p (Ke b a)),d,f,e,none]
structure Rr(E:Nat)(lo hi:Option (Int×Int))(fs:LI)(lo' hi':Option (Int×Int)):Prop where
 path:A7 lo hi fs lo' hi'
 l:Oe E lo'
 h:Oe E hi'
 lt:∀p r,lo'=some p->hi'=some r->qv p<qv r
 fb:∀f∈fs,Bn E f
 few:fs≠[]->∃p,lo'=some p/\p.2<=p.1/\∀r,hi'=some r->0<r.1/\4 ^ (fs.length-1)*(p.1*p.2*(r.1*r.2))<=2 ^ (4*E)
def tF(h:Bn E x):x<2 ^ E/\-(2 ^ E)<x:=by
 unfold Bn at h;have:((2 ^ E):Int)=2 ^ E:=by simp
 lia
def uY(b:x<2 ^ E)(a:-(2 ^ E)<x):Bn E x:=by
 unfold Bn;have:((2 ^ E):Int)=2 ^ E:=by simp
 lia
theorem M6(h:Rr E lo hi fs a b)(Z:¬(rX a (wb a b:Rat)/\rS b (wb a b:Rat))) :
  ∃p r f,p.1.fdiv p.2=f/\a=some p/\b=some r/\fs.length<=2*E+1/\0<p.2/\0<r.2/\0<r.1-f*r.2/\r.1-f*r.2<=r.2/\0<=p.1-f*p.2/\p.1-f*p.2<p.2/\Bn E (f)/\
   Rr E lo hi (fs++[f]) (some (r.2,r.1-f*r.2)) (if p.1-f*p.2=0 then none else some (p.2,p.1-f*p.2)):=by
 obtain⟨p,r,o,q,lt,U⟩:=LH (λp e=>(h.l p e).1) (λr e=>(h.h r e).1) h.lt Z;obtain⟨d,x,w⟩:=h.l p o;obtain⟨m,rb1,s⟩:=h.h r q;obtain⟨j,P⟩:=uW p.1 p.2 d;have N:=cD (CT p.1 p.2 d) x;generalize J:p.1.fdiv p.2=f at *;have g4:(f+1)*r.2=f*r.2+r.2:=by grind
 have g5:(f+1)*p.2=f*p.2+p.2:=by grind
 have i:0<r.1-f*r.2:=by
  have a1:=aJ j (aA m);have X:f*r.2*p.2<r.1*p.2:=by
   have:f*r.2*p.2=f*p.2*r.2:=by grind
   exact fZ (fN this) (fZ a1 lt)
  have:=f9 X (aA d);exact fR this
 have st:We a b f (some (r.2,r.1-f*r.2)) (if p.1-f*p.2=0 then none else some (p.2,p.1-f*p.2)):=⟨p,r,o,q,J.symm,rfl,rfl,d,m,lt,U⟩;have D:=(tF s).1;have F:=(tF w).1;have H:fs.length<=2*E+1:=by
  by_cases n:fs=[]
  .subst n;simp
  .obtain⟨C,u,q2,B⟩:=h.few n;rw[o]at u;cases u;obtain⟨y,A⟩:=B r q;have m1:1<=p.1*p.2:=by have:=aX (show 0<p.1 by lia) d;exact this
   have m2:1<=r.1*r.2:=by have:=aX y m;exact this
   have m3:1<=p.1*p.2*(r.1*r.2):=by have:=aX (show 0<p.1*p.2 by lia) (show 0<r.1*r.2 by lia);exact this
   have m4:=dQ (eV m3 (aA (gh (by decide)))) A;have K:(4:Nat) ^ (fs.length-1)<=2 ^ (4*E):=by
    have:(((4:Nat) ^ (fs.length-1):Nat):Int)<=((2 ^ (4*E):Nat):Int):=by push_cast;lia
    exact dz.mp this
   rw[show (4:Nat)=2 ^ 2 by decide,<-Nat.pow_mul]at K;have m6:=(Nat.pow_le_pow_iff_right (show 1<2 by decide)).mp K;lia
 refine⟨p,r,f,J,o,q,H,d,m,i,by lia,fH j,by lia,N,h.path.snoc st,λC e=>?_,λI e=>?_,λC I e k=>?_,λg v=>?_,λ_=>⟨_,rfl,?_,λI k=>?_⟩⟩
 .cases e;exact⟨i,s,uY (by dsimp only;lia) (by dsimp only;lia)⟩
 .split at e
  .cases e
  .cases e;exact⟨by dsimp only;omega,w,uY (by dsimp only;lia) (by dsimp only;lia)⟩
 .cases e;split at k
  .cases k
  .cases k;rw[Hc i (by dsimp only;omega)];dsimp only;have x1:r.2*(p.1-f*p.2)=p.1*r.2-f*r.2*p.2:=by grind
   have x2:p.2*(r.1-f*r.2)=r.1*p.2-f*r.2*p.2:=by grind
   lia
 .rcases ai.mp v with v|v
  .exact h.fb g v
  .rw[aj.mp v];exact N
 .dsimp only;lia
 .split at k
  .cases k
  .rename_i hR;cases k;refine⟨d,?_⟩;dsimp only;rw[aT,cw,Nat.add_sub_cancel];by_cases n:fs=[]
   .subst n;simp only[cR,Int.pow_zero,eY];have Y:(2:Int) ^ (4*E)=2 ^ E*2 ^ E*(2 ^ E*2 ^ E):=by rw[show 4*E=E+E+(E+E) by lia,Int.pow_add,Int.pow_add]
    rw[Y];have P0:(0:Int)<=2 ^ E:=aA (gh (by decide));have y1:r.2*(r.1-f*r.2)<=2 ^ E*2 ^ E:=gq (aA D) (by lia) (aA i) P0;have y2:p.2*(p.1-f*p.2)<=2 ^ E*2 ^ E:=gq (aA F) (by lia) (fH j) P0;exact gq y1 y2 (aP (aA d) (by lia)) (aP P0 P0)
   .obtain⟨C,u,q2,B⟩:=h.few n;rw[o]at u;cases u;obtain⟨y,A⟩:=B r q;have L:1<=f:=by
     refine eU.mp λz=>?_;have:f+1<=1:=by exact z
     have:=aJ this (aA d);lia
    have z1:p.2<=f*p.2:=by have:=aJ L (aA d);lia
    have z2:r.2<=f*r.2:=by have:=aJ L (aA m);lia
    have w1:r.2*(2*(r.1-f*r.2))<=r.2*r.1:=eV (by lia) (aA m);have w2:p.2*(2*(p.1-f*p.2))<=p.2*p.1:=eV (by lia) (by lia);have w3:=gq w1 w2 (aP (by lia) (by lia)) (aP (by lia) (aA y));have Q:fs.length=fs.length-1+1:=by
     cases fs with
     |nil=>exact absurd rfl n
     |cons _ _=>simp
    rw[Q,gw];refine dQ ?_ A;have S:(0:Int)<=4 ^ (fs.length-1):=aA (gh (by decide));have w4:r.2*(r.1-f*r.2)*(p.2*(p.1-f*p.2))*4=r.2*(2*(r.1-f*r.2))*(p.2*(2*(p.1-f*p.2))):=by grind
    have R:r.2*r.1*(p.2*p.1)=p.1*p.2*(r.1*r.2):=by grind
    rw[dA,dB 4];refine eV ?_ S;rw[w4,<-R];exact w3
def yZ(h:¬(rX a (wb a b:Rat)/\rS b (wb a b:Rat))):Ke a b=.non:=aR h
def zd(h:rX a (wb a b:Rat)/\rS b (wb a b:Rat)):Ke a b=.int (wb a b):=aQ h
def Pa E (q:E<=390000) lo hi:∀ρ,(∃b d fs j i e,ρ=zg b d fs j i e/\Rr E lo hi fs b d)->
  (jE gK (vw ρ)=.ok false/\∃b d fs j i e,ρ=zg b d fs j i e/\Rr E lo hi fs b d/\rX b (wb b d:Rat)/\rS d (wb b d:Rat))\/
  (jE gK (vw ρ)=.ok true/\∃g,(oO c ρ=.nx g\/oO c ρ=.ct g)/\(∃b d fs j i e,g=zg b d fs j i e/\Rr E lo hi fs b d)/\Fh g<Fh ρ):=by
 rintro ρ ⟨b,d,fs,j,i,e,rfl,h⟩;by_cases n:rX b (wb b d:Rat)/\rS d (wb b d:Rat)
 .left;refine⟨i6 (iP rfl rfl ?_),b,d,fs,j,i,e,rfl,h,n⟩;show mE false (Ke b d) .non=_;rw[zd n];rfl
 .right;have sz:900000<sizeLine:=by decide
  refine⟨i6 (iP rfl rfl (by show mE false (Ke b d) .non=_;rw[yZ n];rfl)),?_⟩;obtain⟨p,r,f,D,x,y,K,F,L,R,P,Q,N,z,v⟩:=M6 h n;obtain⟨_,u,s⟩:=h.l p x;obtain⟨_,C,w⟩:=h.h r y;subst x y;have H:=yZ n;let a:Option (Int×Int):=if p.1-f*p.2=0 then none else some (p.2,p.1-f*p.2)
  have A:UZ (jE (iU (ji false) bw ac)) b4 (kH (iL c4 (iL bw iQ))) (qH [some (.p (fr p)),some (.p (fr r)),some (.o ((fs++[f]).map T.int)),some (.p (Ke (some p) (some r))),some (.p (.int f)),some (.p (.int (p.1-f*p.2))),e,none])=.ok (oT a):=by
   by_cases k:p.1-f*p.2=0
   .have:a=none:=aQ k;rw[this,k];rfl
   .have:a=some (p.2,p.1-f*p.2):=aR k;rw[this];have B:jE (iU (ji false) bw ac) (qH [some (.p (fr p)),some (.p (fr r)),some (.o ((fs++[f]).map T.int)),some (.p (Ke (some p) (some r))),some (.p (.int f)),some (.p (.int (p.1-f*p.2))),e,none])=.ok false:=i6 (iP rfl rfl (by rw[jW];simp[k]));show (jE _ _).bind _=_;rw[B];show kH (iL c4 (iL bw iQ)) (qH [some (.p (fr p)),some (.p (fr r)),some (.o ((fs++[f]).map T.int)),some (.p (Ke (some p) (some r))),some (.p (.int f)),some (.p (.int (p.1-f*p.2))),e,none])=_;exact oy (iP rfl rfl (pj p)) rfl
  have J:=sA (c:=c) E (aN q (by decide)) (some (r.2,r.1-f*r.2)) a v.l v.h;refine⟨zg (some (r.2,r.1-f*r.2)) a (fs++[f]) (some (.p (.int f))) (some (.p (.int (p.1-f*p.2)))) (some (.p (oT a))),.inl ?_,⟨_,_,_,_,_,_,rfl,v⟩,?_⟩
  .refine iR (iY (t:=.int f) (nU rfl (by rw[<-D];exact Ls ⟨F,u,s⟩ (aN q (dM _ _)))) rfl) ?_;refine iR (xx (us:=fs.map T.int) rfl (t:=.int f) rfl (by simp;lia) rfl) ?_;refine iR (iY (t:=.int (p.1-f*p.2)) (iP (iP rfl rfl (qm p)) (iP rfl (iP rfl rfl (pj p)) (jx (z.ok s (aN q (by decide)) (aN q (dM _ _))))) (nT _ _)) rfl) ?_;refine iR (iY (t:=oT a) ?_ rfl) ?_
   .have:=A;rw[aZ]at this;exact this
   refine iR (iY (t:=fr (r.2,r.1-f*r.2)) (oy (iP rfl rfl (pj r)) (iP (iP rfl rfl (qm r)) (iP rfl (iP rfl rfl (pj r)) (jx (z.ok w (aN q (dM _ _)) (by lia)))) (nT _ _))) rfl) ?_;refine iR (iY (t:=oT a) rfl rfl) ?_;refine iY (jv rfl rfl J) ?_;unfold zg;rw[aZ];rfl
  .have I:Fh (zg (some p) (some r) fs j i e)=p.2.natAbs+r.2.natAbs+1:=by unfold zg Fh;rw[H];rfl
   rw[I];by_cases hw:rX (some (r.2,r.1-f*r.2)) (wb (some (r.2,r.1-f*r.2)) a:Rat)/\rS a (wb (some (r.2,r.1-f*r.2)) a:Rat)
   .have:Fh (zg (some (r.2,r.1-f*r.2)) a (fs++[f]) (some (.p (.int f))) (some (.p (.int (p.1-f*p.2)))) (some (.p (oT a))))=0:=by unfold zg Fh;rw[zd hw];cases a<;>rfl
    rw[this];exact bW _
   .by_cases k:p.1-f*p.2=0
    .have:a=none:=aQ k;have m:Fh (zg (some (r.2,r.1-f*r.2)) a (fs++[f]) (some (.p (.int f))) (some (.p (.int (p.1-f*p.2)))) (some (.p (oT a))))=0:=by unfold zg Fh;rw[this];rfl
     rw[m];exact bW _
    .have:a=some (p.2,p.1-f*p.2):=aR k;have m:Fh (zg (some (r.2,r.1-f*r.2)) a (fs++[f]) (some (.p (.int f))) (some (.p (.int (p.1-f*p.2)))) (some (.p (oT a))))=(r.1-f*r.2).natAbs+(p.1-f*p.2).natAbs+1:=by unfold zg Fh;rw[yZ hw,this];rfl
     rw[m];lia
theorem BF(h:A7 lo hi fs b a) p (e:lo=some p) (s:0<p.2) (q:0<p.1) (k:Oe E lo) (f:Oe E hi) (d:Oe E a) (w:rX b (wb b a:Rat)) (u:rS a (wb b a:Rat)) :
  Gd lo hi (rb fs (wb b a,1))/\0<(rb fs (wb b a,1)).1/\Bn (E+1) (rb fs (wb b a,1)).1/\Bn (E+1) (rb fs (wb b a,1)).2:=by
 obtain⟨g,v,A,F⟩:=EH h p e s q (λr i=>(f r i).1) (λr i=>(d r i).1) w u;have P:(2:Int) ^ (E+1)=2*2 ^ E:=by rw[gw,dB]
 have x:(1:Int)<=2 ^ E:=by have:=gh (n:=2) (m:=E) (by decide);exact this
 have y:=tF (k p e).2.1;have H:=tF (k p e).2.2;have z:tp lo=p.1:=by rw[e];rfl
 have C:bt lo=p.2:=by rw[e];rfl
 have B:tp hi<=2 ^ E/\bt hi<=2 ^ E:=by
  cases j:hi with
  |none=>exact⟨x,by show (0:Int)<=_;exact bE _⟩
  |some r=>have o:=tF (f r j).2.1;have l:=tF (f r j).2.2;exact⟨by show r.1<=_;exact aA o.1,by show r.2<=_;exact aA l.1⟩
 have D:=g.pos;exact⟨g,v,uY (by omega) (by omega),uY (by omega) (by lia)⟩
noncomputable def Vr(z:Int×Int)(f:Int):Int×Int:=(f*z.1+z.2,z.1)
theorem Ej E (h:E<=390000) x0 x1 x2 x3 x5 x6:∀(a:LI) (z:Int×Int) (b:Option W),(∀f∈a,Bn E f)->(∀k,k<=a.length->Bn (2*E+10) ((a.take k).foldl Vr z).1)->
  ∃d,kX (lq 4) (oP c) (a.map T.int) [x0,x1,x2,x3,b,x5,x6,some (.p (fr z))]=.nx [x0,x1,x2,x3,d,x5,x6,some (.p (fr (a.foldl Vr z)))]
 |[],z,b,_,_=>⟨b,rfl⟩
 |f::a,z,b,hf,hb=>by
  have i:=hf f (by simp);have n:Bn (2*E+10) z.1:=by simpa using hb 0 (bN _)
  obtain⟨d,e⟩:=Ej E h x0 x1 x2 x3 x5 x6 a (Vr z f) (some (.p (.int f))) (λg j=>hf g (by simp[j])) (λk l=>by simpa using hb (k+1) (by simpa using l));refine⟨d,?_⟩;have m:oP c [x0,x1,x2,x3,some (.p (.int f)),x5,x6,some (.p (fr z))]=.nx [x0,x1,x2,x3,some (.p (.int f)),x5,x6,some (.p (fr (Vr z f)))]:=iY (oy (iP (iP rfl (iP rfl rfl (qm z)) (jx (i.ok n (aN h (by decide)) (by lia)))) (iP rfl rfl (pj z)) (jY _ _)) (iP rfl rfl (qm z))) rfl
  rw[bK,kX];have o:lq 4 (.int f) [x0,x1,x2,x3,b,x5,x6,some (.p (fr z))]=some [x0,x1,x2,x3,some (.p (.int f)),x5,x6,some (.p (fr z))]:=rfl;rw[o];dsimp only;rw[m];exact e
def EX fs y:fs.reverse.foldl Vr y=rb fs y:=by rw[List.foldl_reverse];rfl
def OY E (g:E<=390000) x0 x1 x2 x3 x5 x6 fs y x4 (h:∀f∈fs,Bn E f) (d:∀k,k<=fs.length->Bn (2*E+10) (rb (fs.drop k) y).1) :
  ∃b,kX (lq 4) (oP c) (fs.reverse.map T.int) [x0,x1,x2,x3,x4,x5,x6,some (.p (fr y))]=.nx [x0,x1,x2,x3,b,x5,x6,some (.p (fr (rb fs y)))]:=by
 obtain⟨b,e⟩:=Ej E g x0 x1 x2 x3 x5 x6 fs.reverse y x4 (λf a=>h f (by simpa using a)) (λk j=>by
  have i:fs.reverse.take k=(fs.drop (fs.length-k)).reverse:=by rw[List.take_reverse]
  rw[i,EX];exact d _ (b6 _ _))
 rw[EX]at e;exact⟨b,e⟩
def NN p r:ji false (fr p) (fr r)=.ok (.bl (decide (p=r))):=by
 have:=KY false [p.1,p.2] [r.1,r.2];have e:decide ([p.1,p.2]=[r.1,r.2])=decide (p=r):=by
  by_cases h:p=r
  .rw[aC h,aC (by rw[h])]
  .rw[aB h,aB];intro z;simp at z;exact h (Prod.ext z.1 z.2)
 simp only[cE,if_false]at this;rw[e]at this;exact this
theorem zG E (hE:E<=390000) lo hi (X:Oe E lo) (U:Oe E hi) (R:∀p r,lo=some p->hi=some r->qv p<qv r) :
  ∃x,lZ c [oT lo,oT hi]=.ok (fr x)/\Gd lo hi x/\Bn (E+2) x.1/\Bn (E+1) x.2:=by
 have w0:=sA (c:=c) E (aN hE (by decide)) lo hi X U;have i0:Rr E lo hi [] lo hi:=⟨.nil,X,U,R,λf hf=>(nomatch hf),λz=>absurd rfl z⟩;have fu:Fh (zg lo hi [] none none none)<Uw (zg lo hi [] none none none):=by
  cases el:lo with
  |none=>cases eh:hi<;>(unfold zg Fh Uw oT;simp)
  |some p=>
   cases eh:hi with
   |none=>unfold zg Fh Uw oT;simp[fr]
   |some r=>
    by_cases hw:rX (some p) (wb (some p) (some r):Rat)/\rS (some r) (wb (some p) (some r):Rat)
    .unfold zg Fh Uw oT;rw[zd hw];simp[fr]
    .unfold zg Fh Uw oT;rw[yZ hw];simp[fr]
 obtain⟨ρ',e,a,b,fs,I,F,H,rfl,C,hl,hh⟩:=tm (g:=oO c) (λρ=>∃a b fs I F H,ρ=zg a b fs I F H/\Rr E lo hi fs a b) Fh
  (λρ=>∃a b fs I F H,ρ=zg a b fs I F H/\Rr E lo hi fs a b/\rX a (wb a b:Rat)/\rS b (wb a b:Rat)) (Pa E hE lo hi) (Uw (zg lo hi [] none none none)) (zg lo hi [] none none none) ⟨lo,hi,[],none,none,none,rfl,i0⟩ fu
 have wi:=zd ⟨hl,hh⟩;have P:(2:Int) ^ (E+1)=2*2 ^ E:=by rw[gw,dB]
 have P1:(1:Int)<=2 ^ E:=by have:=gh (n:=2) (m:=E) (by decide);exact this
 have wB:Bn (E+1) (wb a b):=by have:=Ri C.l C.h;unfold Bn;have p0:=eQ E;rw[d7];lia
 have fin:Gd lo hi (rb fs (wb a b,1))/\Bn (E+2) (rb fs (wb a b,1)).1/\Bn (E+1) (rb fs (wb a b,1)).2/\∀k,k<=fs.length->Bn (2*E+10) (rb (fs.drop k) (wb a b,1)).1:=by
  have A:=C.path;have hfb:=C.fb;cases A with
  |nil=>exact⟨⟨by show rX lo (qv (wb lo hi,1));rw[JM];exact hl,by show rS hi (qv (wb lo hi,1));rw[JM];exact hh,one_pos,Lu _⟩,wB.mono (bL _),by show Bn (E+1) 1;exact uY (by omega) (by lia),λk _=>by rw[List.drop_nil];exact wB.mono (by lia)⟩
  |cons s A=>
   rename_i d i f u;obtain⟨p,r,e1,e2,hf,K,e4,p2,r2,g3,g4⟩:=s.ex;obtain⟨Q,fl2⟩:=uW p.1 p.2 p2;rw[<-hf]at Q fl2;have q4:(f+1)*r.2=f*r.2+r.2:=by grind
   have q5:(f+1)*p.2=f*p.2+p.2:=by grind
   have w:0<r.1-f*r.2:=by
    have Z:=aJ Q (aA r2);have Y:f*r.2*p.2<r.1*p.2:=by
     have:f*r.2*p.2=f*p.2*r.2:=by grind
     exact fZ (fN this) (fZ Z g3)
    have:=f9 Y (aA p2);exact fR this
   have bp:=tF (X p e1).2.2;have br:=tF (U r e2).2.2;have J:Oe E d:=λq j=>by rw[K]at j;cases j;exact⟨w,(U r e2).2.2,uY (by dsimp only;lia) (by dsimp only;lia)⟩
   have D:Oe E i:=λo j=>by
    rw[e4]at j;split at j
    .cases j
    .cases j;exact⟨by dsimp only;lia,(X p e1).2.2,uY (by dsimp only;lia) (by dsimp only;lia)⟩
   obtain⟨g,Z,Y,a3⟩:=BF A (r.2,r.1-f*r.2) K w r2 J D C.h hl hh;have fB:=hfb f (by simp);have jT:Bn (E+2) (f*(rb u (wb a b,1)).1+(rb u (wb a b,1)).2):=by
    obtain⟨_,c1,c2,c3⟩:=EH A (r.2,r.1-f*r.2) K w r2 (λr er=>(D r er).1) (λr er=>(C.h r er).1) hl hh;have t1:tp d+tp i<=r.2+p.2:=by
     rw[K,e4];split
     .show r.2+1<=_;exact Int.lt_add_of_pos_right _ p2
     .exact eB _
    have t2:bt d+bt i=(r.1-f*r.2)+(p.1-f*p.2):=by
     rw[K,e4];split
     .rename_i z;rw[z];rfl
     .rfl
    have gp:=g.pos;have cp:=tF (X p e1).2.1;have cr:=tF (U r e2).2.1;have m2:f*(r.2+p.2)=f*r.2+f*p.2:=fv _ _ _;have P2:(2:Int) ^ (E+2)=4*2 ^ E:=by rw[gw,P];lia
    generalize (2:Int) ^ E=pe at *;generalize (rb u (wb a b,1)).1=x1 at *;generalize (rb u (wb a b,1)).2=x2 at *;refine uY ?_ ?_<;>rw[P2]
    .by_cases f0:0<=f
     .have:=eV (show x1<=r.2+p.2 by lia) f0;lia
     .have:=aP (show 0<=-f by lia) (aA c1);have e:-f*x1 = -(f*x1):=by grind
      lia
    .by_cases f0:0<=f
     .have:=aP f0 (aA c1);lia
     .have:=eV (show x1<=r.2+p.2 by lia) (show 0<=-f by lia);have e:-f*x1 = -(f*x1):=by grind
      have j:-f*(r.2+p.2) = -(f*r.2)-f*p.2:=by grind
      lia
   refine⟨HC s g Z,jT,Y,λk hk=>?_⟩;have sm:∀(fs:LI) (d i:Option (Int×Int)),A7 d i fs a b->(∃p,d=some p/\0<p.2/\0<p.1)->Oe E d->Oe E i->∀k,k<=fs.length->Bn (2*E+10) (rb (fs.drop k) (wb a b,1)).1:=by
    intro fs;induction fs with
    |nil=>intro _ _ _ _ _ _ k _;rw[List.drop_nil];exact wB.mono (by lia)
    |cons v fs2 ih=>
     rintro d i A ⟨p,e,c1,c2⟩ J D k hk;cases k with
     |zero=>obtain⟨_,_,b2,_⟩:=BF A p e c1 c2 J D C.h hl hh;rw[eg];exact b2.mono (by lia)
     |succ k=>
      cases A with
      |cons s2 hp2=>
       obtain⟨q,o,e1',N,hf',e3',e4',S,L,g3',g4'⟩:=s2.ex;obtain⟨y,fl2'⟩:=uW q.1 q.2 S;rw[<-hf']at y fl2';have q4':(v+1)*o.2=v*o.2+o.2:=by grind
       have q5':(v+1)*q.2=v*q.2+q.2:=by grind
       have B:0<o.1-v*o.2:=by
        have Z:=aJ y (aA L);have Y:v*o.2*q.2<o.1*q.2:=by
         have:v*o.2*q.2=v*q.2*o.2:=by grind
         exact fZ (fN this) (fZ Z g3')
        have:=f9 Y (aA S);exact fR this
       have bp':=tF (J q e1').2.2;have br':=tF (D o N).2.2;have:=ih _ _ hp2 ⟨_,e3',B,L⟩ (λp'' j=>by rw[e3']at j;cases j;exact⟨B,(D o N).2.2,uY (by dsimp only;lia) (by dsimp only;lia)⟩) (λr'' j=>by
        rw[e4']at j;split at j
        .cases j
        .cases j;exact⟨by dsimp only;lia,(J q e1').2.2,uY (by dsimp only;lia) (by dsimp only;lia)⟩) k (by simpa using hk)
       simpa using this
   cases k with
   |zero=>rw[eg];exact jT.mono (by lia)
   |succ k=>simpa using sm u d i A ⟨_,K,w,r2⟩ J D k (by simpa using hk)
 obtain⟨f1,v,f3,f4⟩:=fin;obtain⟨y4,eb⟩:=OY (c:=c) E hE (some (.p (oT a))) (some (.p (oT b))) (some (.p (.lst (fs.map T.int)))) (some (.p (Ke a b))) F H fs (wb a b,1) I C.fb f4;refine⟨rb fs (wb a b,1),?_,f1,v,f3⟩;have t0:L3.nP dL (jE (iU (ji false) a0 bd)) (vw (jG 8 [oT lo,oT hi]))=.ok false:=by
  cases el:lo with
  |none=>exact vC (i6 (iP rfl rfl rfl))
  |some p=>
   cases eh:hi with
   |none=>exact n9 (i6 (iP rfl rfl rfl)) (i6 (iP rfl rfl (by show ji false (fr p) .non=_;rfl)))
   |some r=>refine n9 (i6 (iP rfl rfl rfl)) (i6 (iP rfl rfl ?_));show ji false (fr p) (fr r)=_;rw[NN,aB];intro z;have:=R p r el eh;rw[z]at this;exact absurd this (by grind)
 refine jh rfl (iR (jw t0 rfl) (iR (pH (ts:=[]) rfl rfl) (iR (iY (t:=Ke lo hi) (jv rfl rfl w0) rfl) (iR (ρ':=zg a b fs I F H) e (iR (iY (t:=fr (wb a b,1)) (oy (by show iM 3 _=.ok (.int (wb a b));rw[<-wi];rfl) rfl) rfl) (iR (VO (ts:=fs.map T.int) rfl (ku (its:=fs.reverse.map T.int) (by rw[List.map_reverse];rfl) eb)) (i7 rfl)))))))
def xa N M row other a (u:a<row.length) (k:other.length=row.length) (Z:row.length<1000) (S:N+M+1<=900000) (m:∀x∈row,Bn N x) (E:∀x∈other,Bn M x) (D:vc other a≠0) :
  ∃r,j7 c [tI row,tI other,.int (a:Int)]=.ok (tI r)/\r.length=row.length/\(∀x∈r,Bn (N+M+1) x)/\vc r a=0/\∃g s b:Int,0<g/\0<s/\(∀i,g*vc r i=s*vc row i+b*vc other i)/\(vc row a≠0->s=((vc other a).natAbs:Int)/\b = -vc row a*lL (vc other a)):=by
 have sz:1000<sizeLine:=by decide
 have B:jA (tI row) (.int (a:Int))=.ok (.int (vc row a)):=lX row a u;have H:jA (tI other) (.int (a:Int))=.ok (.int (vc other a)):=lX other a (aE u (bB k.symm));have F:Bn N (vc row a):=m _ (getD_mem row a u);have b2:Bn M (vc other a):=E _ (getD_mem other a (aE u (bB k.symm)));by_cases q:vc row a=0
 .exact⟨row,jh rfl (lE (jR (i6 (iP (iP rfl rfl B) rfl (by rw[jW,q];rfl))) (i7 rfl)) rfl),rfl,λx Q=>(m x Q).mono (by lia),q,1,1,0,by decide,by decide,λi=>by lia,λz=>absurd q z⟩
 .generalize L:vc other a=o at *;generalize R:vc row a=x0 at *;have U:zC [.int o]=.ok (.int (o.natAbs:Int)):=by simp[VM]
  let w:Int:=-x0*lL o;have X:=xY o;have K:Bn N w:=by
   refine cD ?_ F;show (-x0*lL o).natAbs<=_;rw[aY,d9];have:(lL o).natAbs<=1:=by omega
   exact aN (gx _ this) (by lia)
  have J:Bn M (o.natAbs:Int):=cD (aK _) b2;let d:LI:=(row.zip other).map λp=>(o.natAbs:Int)*p.1+w*p.2;have e:d.length=row.length:=by simp[d,k]
  have A:∀y∈d,Bn (N+M+1) y:=λy P=>by obtain⟨p,j,rfl⟩:=aD.mp P;exact ((J.mul (m _ (aW j).1)).add (K.mul (E _ (aW j).2))).mono (by lia)
  have l:∀i,vc d i=(o.natAbs:Int)*vc row i+w*vc other i:=λi=>by
   by_cases f:i<row.length
   .rw[kL d i (aE f (bB e.symm)),kL row i f,kL other i (aE f (bB k.symm))];simp[d]
   .rw[sM d i (aN (bB e) (cC f)),sM row i (cC f),sM other i (aN (bB k) (cC f)),eW,eW];rfl
  obtain⟨g,r,I,Y,v,h,C⟩:=uL (c:=c) (N+M+1) S d (cD (bB e) Z) A;refine⟨r,jh rfl (iR (jw (i6 (iP (iP rfl rfl B) rfl (by rw[jW];simp[q]))) rfl) (iR (iY (t:=.int (o.natAbs:Int)) (nV (iP rfl rfl H) U) rfl) (iR (iY (t:=.int w) ?_ rfl) (i7 (nU (x:=tI d) ?_ Y))))),v.trans e,C,?_,g,(o.natAbs:Int),w,I,by simp[D],λi=>by rw[<-h i,l i],λ_=>⟨rfl,rfl⟩⟩
  .refine iP (x:=.int (-x0)) (y:=.int (lL o)) ?_ (nU (iP rfl rfl H) (pE o)) (jx ((F.neg).ok (n:=2) ?_ (by lia) (by decide)))
   .exact pZ (iP rfl rfl B)
   .unfold Bn;show _<4;omega
  .refine nV (t:=.lst (d.map T.int)) (j3 (j5 (row.zip other) (λp=>T.tup [.int p.1,.int p.2]) (λp=>T.int ((o.natAbs:Int)*p.1+w*p.2)) (nG rfl rfl rfl rfl) (by simp;lia) (λp j=>⟨_,rfl,rfl,?_⟩) (by rw[aI];rfl))) rfl;exact iP (iP rfl rfl (jx (J.ok (m _ (aW j).1) (by lia) (by lia)))) (iP rfl rfl (jx (K.ok (E _ (aW j).2) (by lia) (by lia)))) (jY _ _)
  .refine xZ (g:=g) (dD I) ?_;rw[<-h a,l a,L,R];show _ + -x0*lL o*o=_;rw[dA,Ig,fj,dB x0];lia
theorem vf P x1 L M (I:L<1000):∀(pv:List (Nat×LI)) (row:LI) (N:Nat) (l f:Option W),N+pv.length*(M+1)<=600000->row.length=L->(∀x∈row,Bn N x)->(∀p∈pv,p.1<L/\p.2.length=L/\vc p.2 p.1≠0/\(∀x∈p.2,Bn M x)/\P (vc p.2))->pv.Pairwise (λp q=>vc q.2 p.1=0)->
  ∃r F u,kX dk (vE c) (pv.map ou) [some (.p (tI row)),x1,l,f]=.nx [some (.p (tI r)),x1,F,u]/\r.length=L/\(∀x∈r,Bn (N+pv.length*(M+1)) x)/\
   (∃g s y,0<g/\0<s/\Qs P y/\∀i,g*vc r i=s*vc row i+1*y i)/\(∀k,vc row k=0->(∀p∈pv,vc p.2 k=0)->vc r k=0)/\∀p∈pv,vc r p.1=0
 |[],row,N,l,f,_,hl,hb,_,_=>⟨row,l,f,rfl,hl,λx z=>(hb x z).mono (cJ _ _),⟨1,1,λ_=>0,by decide,by decide,.zero,λi=>by lia⟩,λk D _=>D,λp b=>nomatch b⟩
 | (a,prow)::pv,row,N,l,f,hN,hl,hb,hA,hw=>by
  obtain⟨U,R,h3,h4,h5⟩:=hA (a,prow) (bj ..);obtain⟨w1,Y⟩:=List.pairwise_cons.mp hw;rw[ay,cx]at hN;obtain⟨o,Q,S,X,z0,d,E,Z,j,v,J,_⟩:=xa N M row prow a (aE U (bB hl.symm)) (hl▸R) (cD (bB hl) I) (by lia) hb h4 h3;obtain⟨r,F,u,e,m,C,⟨B,h,y,n,w,hy,K⟩,H,z2⟩:=vf P x1 L M I pv o (N+M+1) (some (.p (.int a))) (some (.p (tI prow))) (by lia) (by rw[S,hl]) X (λp b=>hA p (bx _ b)) Y;refine⟨r,F,u,?_,m,λx z=>(C x z).mono (by rw[ay,cx];lia),⟨d*B,h*E,_,aX j n,aX w v,Qs.comb (h*Z) d (.of h5) hy,λi=>?_⟩,λk D b=>?_,λp b=>?_⟩
  .rw[bK,kX];have E:dk (ou (a,prow)) [some (.p (tI row)),x1,l,f]=some [some (.p (tI row)),x1,some (.p (.int a)),some (.p (tI prow))]:=rfl;rw[E];have h:vE c [some (.p (tI row)),x1,some (.p (.int a)),some (.p (tI prow))]=.nx [some (.p (tI o)),x1,some (.p (.int a)),some (.p (tI prow))]:=iY (mv rfl rfl rfl Q) rfl;dsimp only;rw[h];exact e
  .calc d*B*vc r i=d*(B*vc r i):=by ac_rfl
    _=h*(d*vc o i)+d*y i:=by rw[K i,eY,fv];congr 1;ac_rfl
    _=_:=by rw[J i,fv];simp only[eY,dA,Int.add_assoc]
  .refine H k (xZ (g:=d) (dD j) ?_) λp A=>b p (bx _ A);have:=b (a,prow) (bj ..);dsimp only at this;rw[J k,D,this,eW,eW];rfl
  .rcases aF.mp b with rfl|b
   .exact H _ z0 λq hq=>w1 q hq
   .exact z2 p b
def Eu P L M N (j:L<1000) (pv:List (Nat×LI)) row (h:N+pv.length*(M+1)<=600000) (k:row.length=L) (a:∀x∈row,Bn N x) (f:∀p∈pv,p.1<L/\p.2.length=L/\vc p.2 p.1≠0/\(∀x∈p.2,Bn M x)/\P (vc p.2)) (hw:pv.Pairwise (λp q=>vc q.2 p.1=0)) :
  ∃r:LI,nA c [tI row,.lst (pv.map ou)]=.ok (tI r)/\r.length=L/\(∀x∈r,Bn (N+pv.length*(M+1)) x)/\
   (∃g s y,0<g/\0<s/\Qs P y/\∀i,g*vc r i=s*vc row i+1*y i)/\∀p∈pv,vc r p.1=0:=by
 obtain⟨r,o,n,e,d,b,m,-,l⟩:=vf P (some (.p (.lst (pv.map ou)))) L M j pv row N none none h k a f hw;exact⟨r,jh rfl (iR (ku rfl e) (i7 rfl)),d,b,m,l⟩
def pJ(us:LL)(d:Nat)(x:Vc):Prop:=∀k,k<=d->x k=sm us.length λi=>x (d+1+i)*vc (us.getD i []) k
def pJ.comb(h:g≠0)(l:pJ us d x)(j:pJ us d y)(e:∀i,g*z i=a*x i+b*y i):pJ us d z:=λk f=>by refine gy h ?_;rw[e k,l k f,j k f,<-vI,<-nE];refine lM _ _ _ λi _=>?_;have:=e (d+1+i);rw[<-dA g,this];grind
def pJ.zero:pJ us d λ_=>0:=λk _=>by
 have:(λi=>0*vc (us.getD i []) k)=λ_=>0:=by funext i;simp
 rw[this,yW]
def pJ.qs(h:∀x,P x->pJ us d x)(q:Qs P z):pJ us d z:=by
 induction q with
 |zero=>exact .zero
 |of p=>exact h _ p
 |lin _ _ hs e i1 i2=>exact i1.comb hs i2 e
noncomputable def wr(us:LL)(k:Nat):LI:=us.getD k []++(List.replicate us.length (0:Int)).set k 1
def EZ us d k (a:k<us.length) (e:∀u∈us,u.length=d+1) i:vc (wr us k) i=if i<d+1 then vc (us.getD k []) i else if i-(d+1)=k then 1 else 0:=by
 have b:us.getD k []∈us:=by rw[af,ag a];exact aV a
 have f:=e _ b;unfold wr;generalize us.getD k []=u at *;unfold vc;rw[af,List.getElem?_append,f];split
 .rw[af]
 .rw[List.getElem?_set];split
  .rename_i h;rw[aQ h.symm];rw[bU];rw[aQ (by omega)];rfl
  .rename_i h;rw[aR (λz=>h z.symm),List.getElem?_replicate];split<;>rfl
def F8 us d k (a:k<us.length) (b:∀u∈us,u.length=d+1):(wr us k).length=d+1+us.length:=by
 have e:us.getD k []∈us:=by rw[af,ag a];exact aV a
 have f:=b _ e;unfold wr;generalize us.getD k []=u at *;simp[f]
def Rf(f:1<=B) us k (a:k<us.length) (d:∀u∈us,∀x∈u,Bn B x):∀x∈wr us k,Bn B x:=λx e=>by
 have b:us.getD k []∈us:=by rw[af,ag a];exact aV a
 rcases ai.mp e with h|h
 .exact d _ b x h
 .rcases gz h with h|h
  .rw[bc h];exact qt
  .rw[h];have:Bn 1 1:=by unfold Bn;decide
   exact this.mono f
def Lm us d k (a:k<us.length) (b:∀u∈us,u.length=d+1):pJ us d (vc (wr us k)):=λp e=>by
 rw[EZ us d k a b p,aQ (by lia)];have:(λi=>vc (wr us k) (d+1+i)*vc (us.getD i []) p)=λi=>(if i=k then 1 else 0)*vc (us.getD i []) p:=by funext i;rw[EZ us d k a b (d+1+i),aR (cv (cJ _ _)),show d+1+i-(d+1)=i by lia]
 rw[this,CY _ k _ a]
noncomputable def Pq(B:Nat):Nat->Nat
 |0=>0
 |k+1=>Pq B k+(B+k*(Pq B k+1))+1
def QZ B k:Pq B k<=Pq B (k+1):=by show _<=Pq B k+(B+k*(Pq B k+1))+1;lia
structure PV(us:LL)(d B:Nat)(dn:List Nat)(pv:List (Nat×LI))(rs:LL)(ix:List Nat):Prop where
 len:pv.length=ix.length
 pl:∀p∈pv,p.1<d/\p.2.length=d+1+us.length/\vc p.2 p.1≠0/\(∀x∈p.2,Bn (Pq B pv.length) x)/\pJ us d (vc p.2)/\∀i,i∉ix->vc p.2 (d+1+i)=0
 pw:pv.Pairwise λp q=>p.1≠q.1/\vc q.2 p.1=0/\vc p.2 q.1=0
 rr:∀r∈rs,r.length=d+1+us.length/\(∀k,k<d->vc r k=0)/\pJ us d (vc r)/\(∀i,i∉dn->vc r (d+1+i)=0)/\∀x∈r,Bn 600000 x
 sub:∀i∈ix,i∈dn
 sp:∀z∈dn,Qs (λx=>(∃p∈pv,x=vc p.2)\/∃r∈rs,x=vc r) (vc (wr us z))
def PV.short{pv:List (Nat×LI)}(h:PV us d B dn pv rs ix):pv.length<=d:=by
 have nd:=gA.mpr (h.pw.imp λq=>q.1);have:=Aa d (pv.map Prod.fst) nd λx b=>by obtain⟨p,a,rfl⟩:=aD.mp b;exact (h.pl p a).1
 simpa using this
def Vg(h:k<=d):Pq B k<=Pq B d:=by
 induction h with
 |refl=>exact aK _
 |step _ ih=>exact aN ih (QZ B _)
def Qs.at_zero(h:∀x,P x->x k=0)(q:Qs P z):z k=0:=Qs.at0 h q
def OG{pv:List (Nat×LI)}(h:PV us d B dn pv rs ix)(F:pJ us d (vc (wr us z)))(hw:∀i,i≠z->vc (wr us z) (d+1+i)=0)(o:0<g)(L:0<s)(n:Qs (Vv pv) y)(e:∀i,g*vc left i=s*vc (wr us z) i+1*y i)
  (H:left.length=d+1+us.length) (A:∀k,k<d->vc left k=0) (u:∀x∈left,Bn 600000 x):PV us d B (dn++[z]) pv (rs++[left]) ix:=by
 have D:=pJ.qs (λx ⟨p,j,f⟩=>by rw[f];exact (h.pl p j).2.2.2.2.1) n;refine⟨h.len,h.pl,h.pw,λr hr=>?_,λi l=>ax _ (h.sub i l),λI m=>?_⟩
 .rcases ai.mp hr with hr|hr
  .obtain⟨E,w,K,v,J⟩:=h.rr r hr;exact⟨E,w,K,λi l=>v i (λq=>l (ax _ q)),J⟩
  .rw[aj.mp hr];refine⟨H,A,F.comb (dD o) D e,λi l=>?_,u⟩;refine xZ (g:=g) (dD o) ?_;rw[e,hw i (λq=>l (by simp[q]))];have:=Qs.at_zero (λx ⟨p,j,f⟩=>by rw[f];exact (h.pl p j).2.2.2.2.2 i (λq=>l (ax _ (h.sub i q)))) n;rw[this];simp
 .rcases ai.mp m with q|q
  .exact (h.sp I q).mono λx C=>by
    rcases C with⟨p,j,f⟩|⟨r,hr,f⟩
    .exact .inl ⟨p,j,f⟩
    .exact .inr ⟨r,ax _ hr,f⟩
  .rw[aj.mp q];exact .lin (s:=s) (a:=g) (b:=-1) (.of (.inr ⟨left,by simp,rfl⟩)) (n.mono λx ⟨p,j,f⟩=>.inl ⟨p,j,f⟩) (by lia) λi=>by have:=e i;lia
def KO{pv:List (Nat×LI)}(h:PV us d B dn pv rs ix)(hz:pJ us d (vc (wr us z)))(hw:∀i,i≠z->vc (wr us z) (d+1+i)=0)(Z:0<g)(hs:0<s)(L:Qs (Vv pv) y)(e:∀i,g*vc left i=s*vc (wr us z) i+1*y i)
  (hl:left.length=d+1+us.length) (m:∀p∈pv,vc left p.1=0) (hb:∀x∈left,Bn (B+pv.length*(Pq B pv.length+1)) x) (ha:a<d) (C:vc left a≠0) (f:Nat×LI->LI)
  (E:∀p∈pv,(f p).length=p.2.length/\(∀x∈f p,Bn (Pq B (pv.length+1)) x)/\vc (f p) a=0/\∃g s b:Int,0<g/\0<s/\∀i,g*vc (f p) i=s*vc p.2 i+b*vc left i) :
  PV us d B (dn++[z]) (pv.map (λp=>(p.1,f p))++[(a,left)]) rs (ix++[z]):=by
 have ly:=pJ.qs (λx ⟨p,j,n⟩=>by rw[n];exact (h.pl p j).2.2.2.2.1) L;have Y:=hz.comb (dD Z) ly e;have R:∀i,i∉ix++[z]->vc left (d+1+i)=0:=λi l=>by refine xZ (g:=g) (dD Z) ?_;rw[e,hw i (λq=>l (by simp[q]))];have:=Qs.at_zero (λx ⟨p,j,n⟩=>by rw[n];exact (h.pl p j).2.2.2.2.2 i (λq=>l (ax _ q))) L;rw[this];simp
 have ne:∀p∈pv,p.1≠a:=λp j q=>C (q▸m p j);refine⟨by simp[h.len],λp j=>?_,?_,λr hr=>?_,λi l=>?_,λz' I=>?_⟩
 .simp only[aT,aw,cw];rcases ai.mp j with j|j
  .obtain⟨o,k,rfl⟩:=aD.mp j;obtain⟨P,J,K,U,Q,a6⟩:=h.pl o k;obtain⟨f1,f2,f3,v,F,w,D,A,u⟩:=E o k;refine⟨P,by rw[f1,J],λq=>K ?_,f2,Q.comb (by lia) Y u,λi l=>?_⟩
   .have:=u o.1;rw[q,m o k,eW,eW,Int.add_zero]at this;exact xZ (g:=F) (by lia) this.symm
   .refine xZ (g:=v) (by lia) ?_;rw[u,a6 i (λq=>l (ax _ q)),R i l];simp
  .rw[aj.mp j];exact⟨ha,hl,C,λx N=>(hb x N).mono (by show _<=Pq B pv.length+(B+pv.length*(Pq B pv.length+1))+1;lia),Y,R⟩
 .refine gB.mpr ⟨gA.mpr (h.pw.imp_of_mem λ{p q} j H r=>?_),gC _ _,λp j q H=>?_⟩
  .obtain⟨r1,r2,r3⟩:=r;obtain⟨_,_,_,v,F,w,D,A,u⟩:=E p j;obtain⟨_,_,_,g2,s2,b2,hg2,hs2,v2⟩:=E q H;refine⟨r1,xZ (g:=g2) (by lia) ?_,xZ (g:=v) (by lia) ?_⟩
   .rw[v2,r2,m p j];simp
   .rw[u,r3,m q H];simp
  .obtain⟨o,k,rfl⟩:=aD.mp j;rw[aj.mp H];exact⟨ne o k,m o k,(E o k).2.2.1⟩
 .obtain⟨P,J,K,U,Q⟩:=h.rr r hr;exact⟨P,J,K,λi l=>U i (λq=>l (ax _ q)),Q⟩
 .rcases ai.mp l with l|l
  .exact ax _ (h.sub i l)
  .exact bG _ l
 .let S:Vc->Prop:=λx=>(∃p∈pv.map (λp=>(p.1,f p))++[(a,left)],x=vc p.2)\/∃r∈rs,x=vc r;have X:Qs S (vc left):=.of (.inl ⟨(a,left),by simp,rfl⟩);have qp:∀p∈pv,Qs S (vc p.2):=λp j=>by obtain⟨_,_,_,v,F,w,D,A,u⟩:=E p j;exact .lin (s:=F) (a:=v) (b:=-w) (.of (.inl ⟨(p.1,f p),ax _ (aD.mpr ⟨p,j,rfl⟩),rfl⟩)) X (by lia) λi=>by have:=u i;have e2:-w*vc left i = -(w*vc left i):=fj _ _;dsimp only at this ⊢;lia
  rcases ai.mp I with q|q
  .exact (h.sp z' q).sub λx N=>by
    rcases N with⟨p,j,n⟩|⟨r,hr,n⟩
    .rw[n];exact qp p j
    .exact .of (.inr ⟨r,hr,n⟩)
  .rw[aj.mp q];exact .lin (s:=s) (a:=g) (b:=-1) X (L.sub λx ⟨p,j,n⟩=>by rw[n];exact qp p j) (by lia) λi=>by have:=e i;lia
structure Wr(m B:Nat):Prop where
 b1:1<=B
 le:∀k,k<=m->B+k*(Pq B k+1)<=600000
 pq:Pq B m<=900000
def VG us d k (b:k<us.length) (a:∀u∈us,u.length=d+1):∀i,i≠k->vc (wr us k) (d+1+i)=0:=λi e=>by rw[EZ us d k b a,aR (cv (cJ _ _)),aR (by simp[e])]
def AM us d B {m:Nat} (hd:d<=4) (hn:us.length<=8) (hl:∀u∈us,u.length=d+1) (hb:∀u∈us,∀x∈u,Bn B x) (hB:Wr m B) zs (hz:∀z∈zs,z<us.length) (hzl:zs.length<=8) (hm:∀n,n<=d->n<=zs.length->n<=m:=by exact λ_ h _=>h) :
  ∃pv l J,kb c [.lst ((zs.map (wr us)).map tI),.int (d:Int)]=.ok (.tup [.lst (pv.map ou),.lst (l.map tI)])/\PV us d B zs pv l J/\l.length<=8/\pv.length<=zs.length:=by
 have sz:1000<sizeLine:=by decide
 have hrm:DH (d:Int)=true:=nB (aN hd (dM _ _));obtain⟨ρ,e,pv,l,J,x4,x5,Z,rfl,w,D,v⟩:=kj (m:=lq 4) (g:=nL c) (λz=>tI (wr us z))
  (λk ρ=>∃(pv:List (Nat×LI)) (l:LL) (J:List Nat) (x4 x5 Z:Option W),ρ=[some (.p (.lst ((zs.map (wr us)).map tI))),some (.p (.int (d:Int))),some (.p (.lst (pv.map ou))),some (.o (l.map tI)),x4,x5,Z]/\PV us d B (zs.take k) pv l J/\l.length<=k/\pv.length<=k)
  zs 0 _ ⟨[],[],[],none,none,none,rfl,⟨rfl,(λp a=>nomatch a),List.Pairwise.nil,(λp a=>nomatch a),(λp a=>nomatch a),(λz hz=>by simp at hz)⟩,aK _,aK _⟩ (by
   rintro k z ρ hi ⟨pv,l,J,x4,x5,Z,rfl,w,D,v⟩;rw[aG]at w D v ⊢;have H:=hz z (au hi);have hkl:=(aa.mp hi).1;have hpl:=w.short;have K:=Lm us d z H hl;have hww:=VG us d z H hl;have Y:=hB.le pv.length (hm _ hpl (aN v (bg hkl)));obtain⟨left,el,X,U,⟨g,s,y,hg,hs,hy,ey⟩,h0⟩:=Eu (c:=c) (Vv pv) (d+1+us.length) (Pq B pv.length) B (by lia) pv (wr us z) Y (F8 us d z H hl) (Rf hB.b1 us z H hb) (λp a=>by obtain⟨q1,q2,q3,q4,_⟩:=w.pl p a;exact⟨by lia,q2,q3,q4,p,a,rfl⟩) (w.pw.imp λh=>h.2.1)
   let E:List Nat:=(List.range d).filter λj=>left.getD j 0 != 0;let R:En:=[some (.p (.lst ((zs.map (wr us)).map tI))),some (.p (.int (d:Int))),some (.p (.lst (pv.map ou))),some (.o (l.map tI)),some (.p (tI (wr us z))),some (.p (tI left)),some (.p (.lst (E.map λ(j:Nat)=>T.int (j:Int))))];have e4:lH [none,some 5] (qc ap) b0 (jE (iU (ji true) (iU jA bd a0) ac)) (qq c) (qH [some (.p (.lst ((zs.map (wr us)).map tI))),some (.p (.int (d:Int))),some (.p (.lst (pv.map ou))),some (.o (l.map tI)),some (.p (tI (wr us z))),some (.p (tI left)),Z])=.ok (E.map λ(j:Nat)=>T.int (j:Int)):=sZ (List.range d) (λ(j:Nat)=>T.int (j:Int)) (λ(j:Nat)=>T.int (j:Int)) (λj=>left.getD j 0 != 0) (by simp[hrm,K5]) (by simp;exact cD hd (by decide)) (λj hj=>⟨_,rfl,i6 (iP (iP rfl rfl (lX left j (by have:=aS.mp hj;lia))) rfl (md _ _)),λ_=>rfl⟩) rfl
   have Q:xi (E.map λ(j:Nat)=>T.int (j:Int))=true:=uh _ _ λ_ _=>rfl;have N:ym (E.map λ(j:Nat)=>T.int (j:Int))<=90:=aN (uy _ 0 _ λ_ _=>aK _) (by decide);have C:jE (iU (ji false) da cb) (vw R)=.ok E.isEmpty:=by refine i6 (iP (x:=.lst (E.map λ(j:Nat)=>T.int (j:Int))) (y:=.lst []) rfl (by simp) ?_);rw[uA false _ Q N];simp
   have pre:∀r,(mB (jE (iU (ji false) da cb)) (si 3 (j9 bw)) (setO 2 (j9 (kh (ke (iL bi (iL bw (iL (iU jA da ac) iQ))) (nv c)))))) R=r->
     nL c [some (.p (.lst ((zs.map (wr us)).map tI))),some (.p (.int (d:Int))),some (.p (.lst (pv.map ou))),some (.o (l.map tI)),some (.p (tI (wr us z))),x5,Z]=r:=λr hr=>
    iR (iY (t:=tI left) (jv rfl rfl el) rfl) (iR (iY (t:=.lst (E.map λ(j:Nat)=>T.int (j:Int))) (j3 e4) rfl) hr)
   have tk:zs.take (k+1)=zs.take k++[z]:=ki zs k z hi;cases F:E with
   |nil=>refine⟨_,_,rfl,.inl (pre _ (jR (by rw[C,F];rfl) (xx (t:=tI left) rfl rfl (by simp;lia) rfl))),pv,l++[left],J,_,_,_,by rw[aZ];rfl,?_,by simp;omega,cK v⟩;rw[tk];refine OG w K hww hg hs hy ey X (λi him=>?_) (λx hx=>(U x hx).mono Y);refine aO λhc=>?_;have:i∈E:=aU.mpr ⟨aS.mpr him,by simpa[vc] using hc⟩;rw[F]at this;exact nomatch this
   |cons I js=>
    have hj0:I∈E:=by rw[F];exact bj ..
    have L:I<d:=aS.mp (aU.mp hj0).1;have A:vc left I≠0:=by have:=(aU.mp hj0).2;simpa[vc] using this
    have S:pv.length+1<=d:=by
     have nd:(I::pv.map Prod.fst).Nodup:=bQ.mpr ⟨λhm=>by obtain⟨p,a,ep⟩:=aD.mp hm;exact A (ep▸h0 p a),gA.mpr (w.pw.imp λq=>q.1)⟩
     have:=Aa d _ nd λx hx=>by
      rcases aF.mp hx with rfl|hx
      .exact L
      .obtain⟨p,a,rfl⟩:=aD.mp hx;exact (w.pl p a).1
     simpa using this
    have hP:Pq B (pv.length+1)<=900000:=aN (Vg (hm _ S (cD v hkl))) hB.pq;obtain⟨f,hf⟩:=mJ (P:=λ(p:Nat×LI) (r:LI)=>j7 c [tI p.2,tI left,.int (I:Int)]=.ok (tI r)/\r.length=p.2.length/\(∀x∈r,Bn (Pq B (pv.length+1)) x)/\vc r I=0/\∃g s b:Int,0<g/\0<s/\∀i,g*vc r i=s*vc p.2 i+b*vc left i) pv λp a=>by obtain⟨q1,q2,q3,q4,_⟩:=w.pl p a;obtain⟨r,a1,a2,a3,a4,g,s,b,a5,a6,a7,_⟩:=xa (c:=c) (Pq B pv.length) (B+pv.length*(Pq B pv.length+1)) p.2 left I (by lia) (X.trans q2.symm) (by lia) hP q4 U A;exact⟨r,a1,a2,a3,a4,g,s,b,a5,a6,a7⟩
    have i0:iU jA da ac (qH R)=.ok (.int (I:Int)):=iP (x:=.lst (E.map λ(j:Nat)=>T.int (j:Int))) rfl rfl (by rw[F];exact Nd _ _);have e5:=Bj (c:=c) pv left I f (by lia) λp a=>(hf p a).1;refine⟨_,_,rfl,.inl (pre _ (jw (by rw[C,F];rfl) (iY (j3 (Gh rfl rfl i0 e5)) rfl))),_,l,J++[z],_,_,_,rfl,?_,cK D,by simp;omega⟩;rw[tk];exact KO w K hww hg hs hy ey X h0 U L A f λp a=>(hf p a).2)
 rw[aG,eZ]at w;rw[aG]at D v;refine⟨pv,l,J,jh rfl (iR (iY (t:=.lst []) (by simp) rfl) (iR (pH (ts:=[]) (by simp) rfl) (iR (ku (by rw[aI];rfl) e) (i7 (oy rfl rfl))))),w,aN D hzl,v⟩
noncomputable def rA(pv:List (Nat×LI))(d:Nat):List Nat:=(List.range d).filter λk=>!(pv.map Prod.fst).contains k
def K1 neg (k:Nat) (l:List Nat):Mw neg (.int (k:Int)) (.lst (l.map λ(j:Nat)=>T.int (j:Int)))=.ok (.bl (if neg then !l.contains k else l.contains k)):=by
 have e:(l.map λ(j:Nat)=>T.int j).all mN=true:=cQ.mpr λx f=>by obtain⟨y,-,rfl⟩:=aD.mp f;rfl
 have d:yI (.int k) (l.map λ(j:Nat)=>T.int j)=l.contains k:=by
  unfold yI;rw[cO,List.contains_eq_any_beq];congr 1;funext a;show IB (T.int a) (T.int k)=(k==a);rw[Pp];by_cases h:k=a
  .subst h;simp
  .have b:¬(a=(k:Int)):=by lia
   rw[beq_eq_false_iff_ne.mpr b,beq_eq_false_iff_ne.mpr h]
 show (if mN (T.int (k:Int))&&(l.map λ(j:Nat)=>T.int (j:Int)).all mN then _ else _)=_;rw[e,d];rfl
def AH pv (d:Nat) (b:d<=10) (e:pv.length<=100):nW c [.lst (pv.map ou),.int (d:Int)]=.ok ((rA pv d).map λ(j:Nat)=>T.int (j:Int)):=by
 have sz:1000<sizeLine:=by decide
 have a:DH d=true:=nB (aN b (dM _ _));refine pF rfl (iR (iY (t:=.lst ((pv.map Prod.fst).map λ(j:Nat)=>T.int j)) (j3 (j5 pv ou (λp=>T.int p.1) rfl (cD e (by decide)) (λp e=>⟨_,rfl,rfl,rfl⟩) (by rw[aI];rfl))) rfl) (pL ?_));exact sZ (List.range d) (λj=>T.int j) (λj=>T.int j) (λk=>!(pv.map Prod.fst).contains k) (by simp[a,K5]) (by simp;exact cD b (by decide)) (λj f=>⟨_,rfl,i6 (iP rfl rfl (K1 true j _)),λ_=>rfl⟩) rfl
structure Jn(a:Nat)(x y r:LI):Prop where
 len:r.length=x.length
 at0:vc r a=0
 ex:∃g:Int,0<g/\∀i,g*vc r i = -vc y a*vc x i+vc x a*vc y i
def Jg N x y a (p:a<x.length) (A:y.length=x.length) (n:x.length<1000) (F:2*N+1<=900000) (m:∀i∈x,Bn N i) (k:∀i∈y,Bn N i) (j:0<vc x a) (d:vc y a<0) :
  ∃r,j7 c [tI x,tI y,.int (a:Int)]=.ok (tI r)/\Jn a x y r/\∀i∈r,Bn (2*N+1) i:=by
 obtain⟨r,e,l,b,z,g,s,w,C,o,v,q⟩:=xa N N x y a p A n (by lia) m k (gD d);obtain⟨E,B⟩:=q (dD j);have u:lL (vc y a) = -1:=by unfold lL;rw[aR (eO d),aQ d]
 refine⟨r,e,⟨l,z,g,C,λi=>?_⟩,λi D=>(b i D).mono (by lia)⟩;have f:s = -vc y a:=by lia
 have h:w=vc x a:=by rw[B,u];lia
 rw[v i,f,h]
noncomputable def JK(d:Nat)(r:LI):Nat:=((r.drop (d+1)).filter λw=>w != 0).length
def ED kvs k t:(tV kvs k t).map Prod.fst=if (kvs.map Prod.fst).contains k then kvs.map Prod.fst else kvs.map Prod.fst++[k]:=by
 have h:(kvs.any λa=>decide (a.1=k))=(kvs.map Prod.fst).contains k:=by grind
 unfold tV;rw[h];split
 .rw[aI];refine gE λa _=>?_;refine (?_:(if a.1=k then (a.1,t) else a).1=a.1);split<;>rfl
 .simp
def Iz:r∈(tV kvs k t).map Prod.fst↔r∈kvs.map Prod.fst\/r=k:=by
 rw[ED];split
 .simp_all
 .simp
def Ib kvs k t:(tV kvs k t).length<=kvs.length+1:=by have:=congrArg List.length (ED kvs k t);rw[aw]at this;rw[this];split<;>simp
def vJ r (d:Nat) (h:f ρ=.ok (tI r)) (b:fd ρ=.ok (.int (d:Int))):kM f (jL (iU jU fd ab)) (λ_=>.ok none) ρ=.ok (tI (r.drop (d+1))):=by
 have a:jL (iU jU fd ab) ρ=.ok (some ((d+1:Nat):Int)):=by simp_all
 simp only[kM,h,a,M.bind_ok,tI];rw[uK,dW]
def Pb(h:f ρ=.ok (tI r)):jP f ρ=.ok (r.map T.int):=by unfold jP;rw[h];rfl
structure Sh(d a:Nat)(jt:LL)(most N:Nat)(ks:LL):Prop where
 from_:∀r∈ks,(r∈jt/\vc r a=0)\/∃x∈jt,∃y∈jt,0<vc x a/\vc y a<0/\Jn a x y r
 bn:∀r∈ks,∀i∈r,Bn (2*N+1) i
def Hq(g:ρ[i]? = some (some (.d kvs)))(e:fk (vw ρ)=.ok (tI k))(b:f (vw ρ)=.ok t)(j:lf t=true)(h:kvs.length<sizeLine):Ao i (qr fk) (qr f) ρ=.nx (ρ.set i (some (.d (tV kvs k t)))):=by
 unfold Ao xo qr;rw[g,e,b];have a:=NF k;simp only[M.bind_ok,j,a,if_true,O.of_ok];refine (?_:(match kq (k.map T.int) with
  |some ns=>if kvs.length<sizeLine then O.nx (ρ.set i (some (.d (tV kvs ns t)))) else .bad
  |none=>.bad)=_)
 rw[qG];simp only[h,if_true]
theorem IR(d a l N:Nat)(L:Nat)(hL:L<1000)(hd:d<L)(ha:a<L)(hN:2*N+1<=900000)(jt:LL)(U:jt.length<=2000)(hr:∀r∈jt,r.length=L/\∀i∈r,Bn N i) :
  ∃ks:LL,uc c [.lst (jt.map tI),.int (d:Int),.int (a:Int),.int (l:Int)]=.ok (ks.map tI)/\Sh d a jt l N ks/\(∀m,4<=m->jt.length<=m->4*ks.length<=m*m)/\(∀r∈jt,vc r a=0->r∈ks)/\∀x∈jt,∀y∈jt,0<vc x a->vc y a<0->∃r,Jn a x y r/\(JK d r<=l->r∈ks):=by
 have sz:10000000<sizeLine:=by decide
 have I:∀r∈jt,jA (tI r) (.int (a:Int))=.ok (.int (vc r a)):=λr v=>lX r a (by rw[(hr r v).1];exact ha);let A (f:List (LI×T)) (u x6 x7 x8:Option W):En:=[some (.p (.lst (jt.map tI))),some (.p (.int (d:Int))),some (.p (.int (a:Int))),some (.p (.int (l:Int))),some (.d f),u,x6,x7,x8];obtain⟨ρ1,e1,D,u,rfl,h1,h1l⟩:=kj (m:=lq 5) (g:=B0 c) tI
  (λk K=>∃(f:List (LI×T)) (u:Option W),K=A f u none none none/\(∀r,r∈f.map Prod.fst↔r∈jt.take k/\vc r a=0)/\f.length<=((jt.take k).filter λr=>decide (vc r a=0)).length)
  jt 0 (A [] none none none none) ⟨[],none,rfl,λr=>by simp,by simp⟩ (by
   rintro k r K E ⟨f,u,rfl,h,Y⟩;rw[aG]at h Y ⊢;have hm:=au E;have hkr:=(aa.mp E).1;have S:=ki jt k r E;have tl:((jt.take k).filter λr=>decide (vc r a=0)).length<=k:=aN (gF _ _) (by simp;exact gG _ _);by_cases Z:vc r a=0
   .refine⟨_,_,rfl,.inl (jR (i6 (iP (iP rfl rfl (I r hm)) rfl (by rw[jW,Z];rfl))) (Hq (k:=r) (t:=.bl true) rfl rfl rfl rfl (by lia))),tV f r (.bl true),some (.p (tI r)),rfl,λr'=>?_,aN (Ib _ _ _) (by rw[S,gH,aT];simp[Z];exact Y)⟩;rw[Iz,h,S];constructor
    .rintro (⟨j,o⟩|rfl)
     .exact⟨ax _ j,o⟩
     .exact⟨by simp,Z⟩
    .rintro⟨j,o⟩;rcases ai.mp j with q|q
     .exact .inl ⟨q,o⟩
     .exact .inr (aj.mp q)
   .refine⟨_,_,rfl,.inl (jw (i6 (iP (iP rfl rfl (I r hm)) rfl (by rw[jW];simp[Z]))) rfl),f,some (.p (tI r)),rfl,λr'=>?_,aN Y (by rw[S,gH,aT];exact cJ _ _)⟩;rw[h,S];constructor
    .rintro⟨j,o⟩;exact⟨ax _ j,o⟩
    .rintro⟨j,o⟩;rcases ai.mp j with q|q
     .exact⟨q,o⟩
     .rw[aj.mp q]at o;exact absurd o Z)
 rw[aG,eZ]at h1 h1l;have zl:(jt.filter λr=>decide (vc r a=0)).length<=jt.length:=gF _ _;let B:=jt.filter λr=>decide (0<vc r a);let s:=jt.filter λr=>decide (vc r a<0);have mp:∀x,x∈B↔x∈jt/\0<vc x a:=λx=>by refine (?_:x∈List.filter _ _↔_);simp
 have mn:∀x,x∈s↔x∈jt/\vc x a<0:=λx=>by refine (?_:x∈List.filter _ _↔_);simp
 have pl:B.length<=jt.length:=gF _ _;have nl:s.length<=jt.length:=gF _ _;obtain⟨J,hJ⟩:∃J:LI×LI->LI,∀p∈(B.flatMap λx=>s.map λy=>(x,y)),j7 c [tI p.1,tI p.2,.int (a:Int)]=.ok (tI (J p))/\Jn a p.1 p.2 (J p)/\∀i∈J p,Bn (2*N+1) i:=mJ (P:=λ(p:LI×LI) (r:LI)=>j7 c [tI p.1,tI p.2,.int (a:Int)]=.ok (tI r)/\Jn a p.1 p.2 r/\∀i∈r,Bn (2*N+1) i) _ λp hp=>by obtain⟨x,X,hp⟩:=gI.mp hp;obtain⟨y,hy,rfl⟩:=aD.mp hp;obtain⟨x1,x2⟩:=(mp x).mp X;obtain⟨y1,y2⟩:=(mn y).mp hy;exact Jg (c:=c) N x y a (by rw[(hr x x1).1];exact ha) (by rw[(hr x x1).1,(hr y y1).1]) (by rw[(hr x x1).1];exact hL) hN (hr x x1).2 (hr y y1).2 x2 y2
 have H:∀x∈B,∀y∈s,j7 c [tI x,tI y,.int (a:Int)]=.ok (tI (J (x,y)))/\Jn a x y (J (x,y))/\∀i∈J (x,y),Bn (2*N+1) i:=λx X y hy=>hJ (x,y) (gI.mpr ⟨x,X,aD.mpr ⟨y,hy,rfl⟩⟩);have ePs:∀K:En,K[0]? = some (some (.p (.lst (jt.map tI))))->K[2]? = some (some (.p (.int (a:Int))))->True:=λ_ _ _=>trivial;have R:∀(x:LI),x∈B->∀(f:List (LI×T)) (u x7 x8:Option W),f.length+s.length<=9000000->∃(b:List (LI×T)) (F C:Option W),kX (lq 7) (xR c) (s.map tI) (A f u (some (.p (tI x))) x7 x8)=.nx (A b u (some (.p (tI x))) F C)/\
   (∀r,r∈b.map Prod.fst↔r∈f.map Prod.fst\/∃y∈s,r=J (x,y)/\JK d (J (x,y))<=l)/\b.length<=f.length+s.length:=by
  intro x X f u x7 x8 hsz;obtain⟨ρ2,e2,b,F,C,rfl,h2,h2l⟩:=kj (m:=lq 7) (g:=xR c) tI
   (λk K=>∃(b:List (LI×T)) (F C:Option W),K=A b u (some (.p (tI x))) F C/\(∀r,r∈b.map Prod.fst↔r∈f.map Prod.fst\/∃y∈s.take k,r=J (x,y)/\JK d (J (x,y))<=l)/\b.length<=f.length+k)
   s 0 (A f u (some (.p (tI x))) x7 x8) ⟨f,x7,x8,rfl,λr=>by simp,aK _⟩ (by
    rintro k y K E ⟨b,F,C,rfl,h,Y⟩;rw[aG]at h Y ⊢;have hm:=au E;have hkr:k<s.length:=(aa.mp E).1;have S:s.take (k+1)=s.take k++[y]:=ki s k y E;obtain⟨f1,f2,f3⟩:=H x X y hm;have sl:kM (iM 8) e6 (λ_=>.ok none) (vw (A b u (some (.p (tI x))) (some (.p (tI y))) (some (.p (tI (J (x,y)))))))=.ok (tI ((J (x,y)).drop (d+1))):=vJ (J (x,y)) d rfl rfl;have lenJ:(J (x,y)).length=L:=by rw[f2.len,(hr x ((mp x).mp X).1).1]
    have lc:lH [none] (jP (kM (iM 8) e6 (λ_=>.ok none))) b0 (jE ic) (xT c) (vw (A b u (some (.p (tI x))) (some (.p (tI y))) (some (.p (tI (J (x,y)))))))=.ok ((((J (x,y)).drop (d+1)).filter λw=>w != 0).map T.int):=sZ ((J (x,y)).drop (d+1)) T.int T.int (λw=>w != 0) (Pb sl) (by simp;omega) (λw hw=>⟨_,rfl,i6 (iP rfl rfl (by rw[md];rfl)),λ_=>rfl⟩) rfl
    have cond:jE (iU Fv (lC lK (iL (kh (lH [none] (jP (kM (iM 8) e6 (λ_=>.ok none))) b0 (jE ic) (xT c))) iQ)) bu) (vw (A b u (some (.p (tI x))) (some (.p (tI y))) (some (.p (tI (J (x,y)))))))=.ok (decide (JK d (J (x,y))<=l)):=by
     refine i6 (iP (x:=.int (JK d (J (x,y)):Int)) (y:=.int (l:Int)) (nV (j3 lc) (by simp[JK])) rfl ?_);rw[Dc];by_cases q:JK d (J (x,y))<=l
     .rw[aC q,aC (dz.mpr q)]
     .rw[aB q,aB (by simp[q])]
    have st1:setO 8 (j9 (iV (iL da (iL (iM 7) be)) (j7 c))) (A b u (some (.p (tI x))) (some (.p (tI y))) C)=.nx (A b u (some (.p (tI x))) (some (.p (tI y))) (some (.p (tI (J (x,y)))))):=iY (mv rfl rfl rfl f1) rfl;by_cases q:JK d (J (x,y))<=l
    .refine⟨_,_,rfl,.inl (iR st1 (jR (by rw[cond,aC q]) (Hq (k:=J (x,y)) (t:=.bl true) rfl rfl rfl rfl (by lia)))),tV b (J (x,y)) (.bl true),some (.p (tI y)),some (.p (tI (J (x,y)))),rfl,λr=>?_,aN (Ib _ _ _) (bJ Y)⟩;rw[Iz,h,S];constructor
     .rintro ((j|⟨y',j,o⟩)|rfl)
      .exact .inl j
      .exact .inr ⟨y',ax _ j,o⟩
      .exact .inr ⟨y,by simp,rfl,q⟩
     .rintro (j|⟨y',j,o⟩)
      .exact .inl (.inl j)
      .rcases ai.mp j with Q|Q
       .exact .inl (.inr ⟨y',Q,o⟩)
       .rw[aj.mp Q]at o;exact .inr o.1
    .refine⟨_,_,rfl,.inl (iR st1 (jw (by rw[cond,aB q]) rfl)),b,some (.p (tI y)),some (.p (tI (J (x,y)))),rfl,λr=>?_,cK Y⟩;rw[h,S];constructor
     .rintro (j|⟨y',j,o⟩)
      .exact .inl j
      .exact .inr ⟨y',ax _ j,o⟩
     .rintro (j|⟨y',j,o⟩)
      .exact .inl j
      .rcases ai.mp j with Q|Q
       .exact .inr ⟨y',Q,o⟩
       .rw[aj.mp Q]at o;exact absurd o.2 q)
  rw[aG,eZ]at h2;rw[aG]at h2l;exact⟨b,F,C,e2,h2,h2l⟩
 have sq:jt.length*jt.length<=2000*2000:=gJ U U;obtain⟨ρ3,e3,kvs3,y6,F,C,rfl,h3,h3l⟩:=kj (m:=lq 6) (g:=BJ c) tI
  (λk K=>∃(f:List (LI×T)) (y6 F C:Option W),K=A f u y6 F C/\(∀r,r∈f.map Prod.fst↔(r∈jt/\vc r a=0)\/∃x∈B.take k,∃y∈s,r=J (x,y)/\JK d (J (x,y))<=l)/\f.length<=(jt.filter λr=>decide (vc r a=0)).length+k*s.length)
  B 0 (A D u none none none) ⟨D,none,none,none,rfl,λr=>by rw[h1];simp,by rw[Nat.zero_mul];exact h1l⟩ (by
   rintro k x K E ⟨f,y6,F,C,rfl,h,Y⟩;rw[aG]at h Y ⊢;have hm:=au E;have hkr:k<B.length:=(aa.mp E).1;have S:B.take (k+1)=B.take k++[x]:=ki B k x E;have kn:(k+1)*s.length<=jt.length*jt.length:=gJ (aN hkr pl) nl;have kn':(k+1)*s.length=k*s.length+s.length:=cx _ _;obtain⟨b,z7,z8,e,h',hl'⟩:=R x hm f u F C (by lia);have it:jP (kh (lH [none,some 2] ek b0 (jE (iU GY df ac)) (yi c))) (qH (A f u (some (.p (tI x))) F C))=.ok (s.map tI):=by
    have:lH [none,some 2] ek b0 (jE (iU GY df ac)) (yi c) (qH (A f u (some (.p (tI x))) F C))=.ok (s.map tI):=sZ jt tI tI (λr=>decide (vc r a<0)) rfl (cD U (by decide)) (λr v=>⟨_,rfl,i6 (iP (iP rfl rfl (I r v)) rfl (by rw[uB])),λ_=>rfl⟩) rfl
    simp only[jP,kh,this,M.bind_ok]
   refine⟨_,_,rfl,.inl (ku it e),b,some (.p (tI x)),z7,z8,rfl,λr=>?_,by lia⟩;rw[h',h,S];constructor
   .rintro ((j|⟨x',j,o⟩)|⟨y,j,o⟩)
    .exact .inl j
    .exact .inr ⟨x',ax _ j,o⟩
    .exact .inr ⟨x,by simp,y,j,o⟩
   .rintro (j|⟨x',j,y,o,Q⟩)
    .exact .inl (.inl j)
    .rcases ai.mp j with q4|q4
     .exact .inl (.inr ⟨x',q4,y,o,Q⟩)
     .rw[aj.mp q4]at Q;exact .inr ⟨y,o,Q⟩)
 rw[aG,eZ]at h3;rw[aG]at h3l;have it:jP (kh (lH [none,some 2] ek b0 (jE (iU Iy df ac)) (ya c))) (qH (A D u none none none))=.ok (B.map tI):=by
  have:lH [none,some 2] ek b0 (jE (iU Iy df ac)) (ya c) (qH (A D u none none none))=.ok (B.map tI):=sZ jt tI tI (λr=>decide (0<vc r a)) rfl (by lia) (λr v=>⟨_,rfl,i6 (iP (iP rfl rfl (I r v)) rfl (by rw[C0])),λ_=>rfl⟩) rfl
  simp only[jP,kh,this,M.bind_ok]
 have kl:B.length*s.length<=jt.length*jt.length:=gJ pl nl;refine⟨kvs3.map Prod.fst,?_,⟨λr v=>?_,λr v=>?_⟩,λm hm hrm=>?_,λr v Z=>(h3 r).mpr (.inl ⟨v,Z⟩),λx X y hy px ny=>⟨J (x,y),(H x ((mp x).mpr ⟨X,px⟩) y ((mn y).mpr ⟨hy,ny⟩)).2.1,λq=>(h3 _).mpr (.inr ⟨x,(mp x).mpr ⟨X,px⟩,y,(mn y).mpr ⟨hy,ny⟩,rfl,q⟩)⟩⟩
 .refine pF rfl (iR (ρ':=A [] none none none none) rfl (iR (ku rfl e1) (iR (ku it e3) ?_)));rw[aI];rfl
 .rcases (h3 r).mp v with q|⟨x,qx,y,qy,rfl,_⟩
  .exact .inl q
  .exact .inr ⟨x,((mp x).mp qx).1,y,((mn y).mp qy).1,((mp x).mp qx).2,((mn y).mp qy).2,(H x qx y qy).2.1⟩
 .rcases (h3 r).mp v with q|⟨x,qx,y,qy,rfl,_⟩
  .exact λi E=>((hr r q.1).2 i E).mono (by lia)
  .exact (H x qx y qy).2.2
 .have cnt3:(jt.filter λr=>decide (vc r a=0)).length+B.length+s.length=jt.length:=by
   show (List.filter _ _).length+(List.filter _ _).length+(List.filter _ _).length=_;clear U hr I A e1 h1 h1l hJ H R sq e3 h3 h3l it kl mp mn pl nl zl hrm ePs;induction jt with
   |nil=>rfl
   |cons r jt ih=>
    simp only[List.filter_cons,ay];rcases gL (vc r a) 0 with q|q|q
    .have j:¬vc r a=0:=by exact gD q
     have o:¬0<vc r a:=by exact eO q
     simp only[q,j,o,decide_true,decide_false,if_true,if_false,ay,cE];exact congrArg _ ih
    .have j:¬vc r a<0:=by exact eU.mpr (fN q.symm)
     have o:¬0<vc r a:=by exact eU.mpr (fN q)
     simp only[q,j,o,decide_true,decide_false,if_true,if_false,ay,cE];simp only[Int.lt_irrefl,decide_false,if_false,cE];lia
    .have j:¬vc r a<0:=by exact eO q
     have o:¬vc r a=0:=by exact dD q
     simp only[q,j,o,decide_true,decide_false,if_true,if_false,ay,cE];lia
  rw[aw];generalize (jt.filter λr=>decide (vc r a=0)).length=z at *;generalize B.length=p at *;generalize s.length=n at *;refine aN (gx 4 h3l) ?_;have a1:4*(p*n)<=(p+n)*(p+n):=by
   have h1:(4*(p*n):Int)<=((p:Int)+n)*(p+n):=by
    have:0<=((p:Int)-n)*(p-n):=by
     rcases Int.le_total (p:Int) n with q|q
     .exact Int.mul_nonneg_of_nonpos_of_nonpos (by lia) (by lia)
     .exact aP (fH q) (by lia)
    grind
   have:((4*(p*n):Nat):Int)<=(((p+n)*(p+n):Nat):Int):=by push_cast;exact h1
   exact dz.mp this
  have a2:4*z+(p+n)*(p+n)<=m*m:=by
   have e:∃k,m=z+(p+n)+k:=⟨m-(z+(p+n)),by omega⟩;obtain⟨k,rfl⟩:=e;have e2:(z+(p+n)+k)*(z+(p+n)+k)=(p+n)*(p+n)+(z+k)*(z+k+2*(p+n)):=by grind
   rw[e2];have:4*z<=(z+k)*(z+k+2*(p+n)):=by
    by_cases Z:z+k+2*(p+n)<4
    .grind
    .have:=gJ (cJ z k) (show 4<=z+k+2*(p+n) by lia);omega
   omega
  lia
structure Wn(d k j a:Nat)(G G':LL):Prop where
 from_:∀r∈G',(r∈G/\vc r a=0)\/∃x∈G,∃y∈G,0<vc x a/\vc y a<0/\Jn a x y r
 stay:∀r∈G,vc r a=0->r∈G'
 join:∀x∈G,∀y∈G,0<vc x a->vc y a<0->∃r,Jn a x y r/\(JK d r<=j+2+k->r∈G')
inductive LC(d k:Nat):Nat->LL->List Nat->List (LL)->Prop
 |nil {j:Nat} {G:LL}:LC d k j G [] [G]
 |cons {j a:Nat} {G G':LL} {pls:List Nat} {ls:List (LL)}:Wn d k j a G G'->LC d k (j+1) G' pls ls->LC d k j G (a::pls) (G::ls)
def LC.snoc{d k j:Nat}{i G g:LL}{f:List Nat}{e:List (LL)}{a:Nat}(h:LC d k j i f (e++[G]))(s:Wn d k (j+f.length) a G g):LC d k j i (f++[a]) (e++[G,g]):=by
 generalize b:e++[G]=m at h;induction h generalizing e with
 |nil=>
  rename_i j l;cases e with
  |nil=>simp at b;subst b;exact .cons s .nil
  |cons x e=>simp at b
 |cons s' h' ih=>
  cases e with
  |nil=>simp at b;obtain⟨rfl,rfl⟩:=b;cases h'
  |cons x e=>simp at b;obtain⟨rfl,b⟩:=b;refine .cons s' (ih ?_ b);rw[ay]at s;rw[bX,Nat.add_comm 1];exact s
noncomputable def Nb(N:Nat):Nat->Nat
 |0=>N
 |j+1=>2*Nb N j+1
noncomputable def Mb:Nat->Nat
 |0=>8
 |j+1=>Mb j*Mb j / 4
def HB N (h:i<=j):Nb N i<=Nb N j:=by
 induction h with
 |refl=>exact aK _
 |step _ ih=>exact aN ih (by show _<=2*Nb N _+1;lia)
def PZ(a:ρ[i]? = some (some (.o us)))(h:f (vw ρ)=.ok ts)(d:Fu ts=true)(b:us.length<sizeLine)(hr:ρ'=ρ.set i (some (.o (us++[.lst ts])))):B2 i (yG f) ρ=.nx ρ':=by unfold B2 yG pS;rw[a,h,hr];simp[b,d]
def Ir xs x:jA (.lst (xs++[x])) (.int (-1))=.ok x:=by
 have h:rG (xs++[x]) (-1)=some x:=by
  unfold rG zj;have b:1<=(xs.length:Int)+1:=by lia
  have a:(-1+((xs.length:Int)+1)).toNat=xs.length:=by lia
  simp[b,a]
 simp[jA,h]
def Vy(h:f ρ=.ok a):lstM (iL f iQ) ρ=.ok [a]:=LZ (Tx h)
theorem Gx(d L N:Nat)(hL:L<1000)(Y:d<L)(jt:LL)(D:jt.length<=8)(hr:∀r∈jt,r.length=L/\∀i∈r,Bn N i)(pv:List (Nat×LI))(hp:pv.length<=100)(b:List Nat)(X:b.length<=4)(ha:∀a∈b,a<L)(hN:Nb N b.length<=900000) :
  ∃f,r6 c [.lst (jt.map tI),.int (d:Int),.lst (b.map λ(j:Nat)=>T.int (j:Int)),.lst (pv.map ou)]=.ok (f.map λg=>T.lst (g.map tI))/\LC d pv.length 0 jt b f/\∀(i:Nat) G,f[i]? = some G->∀r∈G,r.length=L/\∀x∈r,Bn (Nb N i) x:=by
 have sz:1000<sizeLine:=by decide
 let R (f:List (LL)) (v u:Option W):En:=[some (.p (.lst (jt.map tI))),some (.p (.int (d:Int))),some (.p (.lst (b.map λ(j:Nat)=>T.int (j:Int)))),some (.p (.lst (pv.map ou))),some (.o (f.map λg=>T.lst (g.map tI))),v,u];obtain⟨I,e,f,G,v,u,rfl,w,h,C,B⟩:=kj (m:=lq 5) (g:=zO c) (λ(j:Nat)=>T.int (j:Int))
  (λk I=>∃(f:List (LL)) (G:LL) (v u:Option W),I=R (f++[G]) v u/\LC d pv.length 0 jt (b.take k) (f++[G])/\f.length=k/\G.length<=Mb k/\∀(i:Nat) H,(f++[G])[i]? = some H->∀r∈H,r.length=L/\∀x∈r,Bn (Nb N i) x)
  b 0 (R [jt] none none) ⟨[],jt,none,none,rfl,.nil,rfl,D,λi H s=>by
   cases i with
   |zero=>simp at s;subst s;exact hr
   |succ i=>simp at s⟩ (by
   rintro k a I s ⟨f,G,v,u,rfl,w,h,C,B⟩;rw[aG]at w h C ⊢;have hm:=au s;have hk:=(aa.mp s).1;have tk:=ki b k a s;have P:=B k G (by rw[List.getElem?_append_right (bB h),h];simp);have U:Mb k<=1024/\4<=Mb k:=by
    have:k=0\/k=1\/k=2\/k=3:=by lia
    rcases this with rfl|rfl|rfl|rfl<;>decide
   have J:=aN (HB N (show k+1<=b.length by lia)) hN;obtain⟨Q,f1,F,f3,f4,f5⟩:=IR d a (k+2+pv.length) (Nb N k) L hL Y (ha a hm) J G (bg (cD C (cD U.1 (by decide)))) P;have hlenls:(f++[G]).length=k+1:=by simp[h]
   have step:Wn d pv.length (0+(b.take k).length) a G Q:=⟨F.from_,f4,λx K y S px ny=>by obtain⟨r,q1,q2⟩:=f5 x K y S px ny;refine⟨r,q1,λq=>q2 ?_⟩;rw[bS]at q;lia⟩
   have Z:iU jU (iU jU (lC lK ia) ab) (lC lK bf) (vw (R (f++[G]) (some (.p (.int (a:Int)))) u))=.ok (.int ((k+2+pv.length:Nat):Int)):=by refine iP (x:=.int ((k+2:Nat):Int)) (y:=.int (pv.length:Int)) (iP (x:=.int ((k+1:Nat):Int)) (nV (t:=.lst ((f++[G]).map λg=>T.lst (g.map tI))) rfl (by simp[h])) rfl (by rw[jY];congr 2)) (nV (t:=.lst (pv.map ou)) rfl (by simp)) (by rw[jY];congr 2)
   have e7:jA (.lst ((f++[G]).map λg=>T.lst (g.map tI))) (.int (-1))=.ok (.lst (G.map tI)):=by rw[aZ];exact Ir _ _
   refine⟨_,_,rfl,.inl (iR (Da Z rfl rfl) (PZ (us:=(f++[G]).map λg=>T.lst (g.map tI)) rfl (ts:=Q.map tI) (Nv (x:=.lst (G.map tI)) (iP rfl (pZ rfl) e7) rfl rfl rfl f1) (QL _) (by simp[h];lia) rfl)),f++[G],Q,some (.p (.int (a:Int))),some (.p (.int ((k+2+pv.length:Nat):Int))),?_,?_,by simp[h],?_,λi H l r n=>?_⟩
   .show List.set _ _ _=_;simp[R]
   .rw[tk];have:=w.snoc step;simpa using this
   .have:=f3 (Mb k) U.2 C;show _<=Mb k*Mb k / 4;lia
   .by_cases A:i<(f++[G]).length
    .rw[List.getElem?_append_left A]at l;exact B i H l r n
    .rw[List.getElem?_append_right (cC A)]at l;have E:i-(f++[G]).length=0:=by
      rcases dJ (i-(f++[G]).length) with q|q
      .exact q
      .rw[List.getElem?_eq_none (by simp;lia)]at l;cases l
     rw[E]at l;simp at l;subst l;have z:i=k+1:=by lia
     subst z;refine⟨?_,F.bn r n⟩;rcases F.from_ r n with q|⟨x,K,y,S,_,_,hj⟩
     .exact (P r q.1).1
     .rw[hj.len];exact (P x K).1)
 rw[aG,eZ]at w;exact⟨f++[G],pF rfl (iR (pH (ts:=[.lst (jt.map tI)]) (Vy rfl) rfl) (iR (ku rfl e) rfl)),w,B⟩
end CL
namespace CL
def Cn.posQ{f:Vc->Rat}(n:∀x y z (s a b:Int),(∀i,s*z i=a*x i+b*y i)->(s:Rat)*f z=(a:Rat)*f x+(b:Rat)*f y)(l:∀x,P x->0<f x)(h:Cn P z):0<f z:=by
 induction h with
 |of h=>exact l _ h
 |lin _ _ hs ha hb hab e i1 i2=>
  rename_i x y z s a b _ _;have q:=n _ _ _ _ _ _ e;have k:(0:Rat)<(s:Rat):=mU hs;have:0<(a:Rat)*f x+(b:Rat)*f y:=by
   by_cases j:a=0
   .subst j;have d:(0:Rat)<(b:Rat):=mU (by lia);have:=fU d i2;simp;grind
   .have g:(0:Rat)<(a:Rat):=mU (by lia);have p:=fU g i1;by_cases m:b=0
    .subst m;simp;grind
    .have d:(0:Rat)<(b:Rat):=mU (by lia);have o:=fU d i2;grind
  rw[<-q]at this;refine gM (c:=(s:Rat)) ?_ (fV k);simpa using this
noncomputable def Lt(m:Nat)(g:Nat->Vc)(t:Vc):Vc:=λq=>sm m λj=>t j*g j q
def K7(h:∀i,s*z i=a*x i+b*y i) q:s*Lt m g z q=a*Lt m g x q+b*Lt m g y q:=by unfold Lt;rw[<-nE,<-vI];refine lM m _ _ λi _=>?_;rw[<-dA,h i];grind
def LJ m g t p:lI m (λi=>g i p) t=Lt m g t p:=by unfold lI Lt;exact lM m _ _ λi _=>dB _ _
noncomputable def tz(i:Nat):Vc:=λj=>if j=i then 1 else 0
def zf m g i (a:i<m) q:Lt m g (tz i) q=g i q:=by unfold Lt tz;exact CY m i (λj=>g j q) a
def BS m:∀n u,cs m u<=n->nc m [] u->Cn (λx=>∃i,i<m/\x=tz i) u:=by
 intro n;induction n with
 |zero=>
  intro u p c;obtain⟨i,e⟩:=c.ne;have d:i<m:=by
   rcases fG i m with h|h
   .exact h
   .exact absurd (c.out i h) e
  have:=DS (m:=m) (u:=λ_=>0) (v:=u) (λ_ _ _=>rfl) d e rfl;lia
 |succ n ih=>
  intro u p c;obtain⟨i,e⟩:=c.ne;have d:i<m:=by
   rcases fG i m with h|h
   .exact h
   .exact absurd (c.out i h) e
  have f:0<u i:=by have:=c.nn i;lia
  by_cases g:∃j,j≠i/\u j≠0
  .obtain⟨j,o,r⟩:=g;have w:nc m [] (λk=>if k=i then 0 else u k):=⟨λk=>by split;exact eB _;exact c.nn k,λk B=>by split;rfl;exact c.out k B,⟨j,by simp[o,r]⟩,λA y=>nomatch y⟩;have l:=DS (m:=m) (u:=λk=>if k=i then 0 else u k) (v:=u) (λk _ z=>by split;rfl;exact z) d e (by simp);refine .lin (s:=1) (a:=u i) (b:=1) (.of ⟨i,d,rfl⟩) (ih _ (by lia) w) (by decide) (aA f) (by decide) (Int.le_add_one f) λk=>?_;unfold tz;by_cases q:k=i
   .subst q;simp
   .simp[q]
  .refine .lin (s:=1) (a:=u i) (b:=0) (.of ⟨i,d,rfl⟩) (.of ⟨i,d,rfl⟩) (by decide) (aA f) (by decide) (fR f) λk=>?_;unfold tz;by_cases q:k=i
   .subst q;simp
   .have:u k=0:=aO λz=>g ⟨k,q,z⟩;simp[q,this]
theorem yT{c:Type}[DecidableEq c]:∀{l m:List c},l.Nodup->(∀x∈l,x∈m)->l.length<=m.length
 |[],_,_,_=>bN _
 |a::l,m,nd,h=>by
  obtain⟨e,f⟩:=bQ.mp nd;have b:a∈m:=h a (by simp);have:=yT (m:=m.erase a) f λx d=>by have ne:x≠a:=λz=>e (z▸d);exact (List.mem_erase_of_ne ne).mpr (h x (by simp[d]))
  rw[fz b]at this;have:0<m.length:=List.length_pos_of_mem b;simp only[ay];omega
structure Oh(d n:Nat)(ss ix:List Nat)(sd:LL):Prop where
 len:sd.length=ss.length
 nd:ss.Nodup
 lt:∀i∈ss,i<n
 l:∀r∈sd,r.length=d+1+n
 own:∀j,j<sd.length->vc (sd.getD j []) (d+1+ss.getD j 0)≠0
 oth:∀j,j<sd.length->∀i,i∉ix->i≠ss.getD j 0->vc (sd.getD j []) (d+1+i)=0
def Th(a:LL)(b:List Vc)(G:LL)(t:Vc):Prop:=nc a.length b t/\∃r∈G,∃s:Int,0<s/\∀q,s*vc r q=Lt a.length (λj=>vc (a.getD j [])) t q
def RT(h:Oh d n ss ix sd)(p:r.length=d+1+n)(m:0<s)(e:∀q,s*vc r q=Lt sd.length (λj=>vc (sd.getD j [])) t q):JK d r<=cs sd.length t+ix.length:=by
 let A:=((List.range sd.length).filter λj=>decide (t j≠0)).map λj=>ss.getD j 0;have u:A.length=cs sd.length t:=by show (List.map _ _).length=_;rw[aw];unfold cs;rw[fL]
 let I:=(List.range n).filter λi=>decide (vc r (d+1+i)≠0);have k:JK d r=I.length:=by
  unfold JK;have:r.drop (d+1)=(List.range n).map λi=>vc r (d+1+i):=by refine gN (by simp[p]) λi l x=>?_;simp at l;rw[List.getElem_drop,fg,List.getElem_range,kL r (d+1+i) (by omega)]
  rw[this,List.filter_map,aw];congr 2;funext i;simp[bne];rfl
 rw[k,<-u,<-aT];refine yT (List.Pairwise.filter _ fM) λi w=>?_;have b:i<n/\vc r (d+1+i)≠0:=by have:i∈List.filter _ _:=w;simpa using this
 refine aO λa=>b.2 ?_;have v:i∉A:=λz=>a (ax _ z);have o:i∉ix:=λz=>a (bG _ z);refine xZ (g:=s) (dD m) ?_;rw[e];show sm sd.length (λj=>t j*vc (sd.getD j []) (d+1+i))=0;rw[lM sd.length _ (λ_=>0) λj c=>?_,yW];by_cases f:t j=0
 .rw[f,eS]
 .have:i≠ss.getD j 0:=λz=>v (by show i∈List.map _ _;exact aD.mpr ⟨j,aU.mpr ⟨aS.mpr c,by simpa using f⟩,z.symm⟩)
  rw[h.oth j c i o this,eW]
def Jt{d n:Nat}{ss ix:List Nat}{c:LL}(h:Oh d n ss ix c){a:Nat}{C:List Vc}{G Z:LL}(Y:∀r∈G,r.length=d+1+n/\∃t,nc c.length C t/\∃s:Int,0<s/\∀q,s*vc r q=Lt c.length (λj=>vc (c.getD j [])) t q)
  (gen:∀u,nc c.length C u->Cn (Th c C G) u) (st:Wn d ix.length C.length a G Z) :
  (∀r∈Z,r.length=d+1+n/\∃t,nc c.length ((λj=>vc (c.getD j []) a)::C) t/\∃s:Int,0<s/\∀q,s*vc r q=Lt c.length (λj=>vc (c.getD j [])) t q)/\
  ∀u,nc c.length ((λj=>vc (c.getD j []) a)::C) u->Cn (Th c ((λj=>vc (c.getD j []) a)::C) Z) u:=by
 let A:Vc:=λj=>vc (c.getD j []) a;have la:∀t,lI c.length A t=Lt c.length (λj=>vc (c.getD j [])) t a:=λt=>LJ c.length (λj=>vc (c.getD j [])) t a;have E:∀{x y r:LI} {t f:Vc} {s H:Int},0<s->0<H->(∀q,s*vc x q=Lt c.length (λj=>vc (c.getD j [])) t q)->(∀q,H*vc y q=Lt c.length (λj=>vc (c.getD j [])) f q)->Jn a x y r->
   ∃Q:Int,0<Q/\∀q,Q*vc r q=Lt c.length (λj=>vc (c.getD j [])) (λi=>(-lI c.length A f)*t i+lI c.length A t*f i) q:=by
  intro x y r t f s H o p e J I;obtain⟨g,hg,v⟩:=I.ex;refine⟨s*H*g,aX (aX o p) hg,λq=>?_⟩;have l1:=K7 (m:=c.length) (g:=λj=>vc (c.getD j [])) (x:=t) (y:=f) (z:=λi=>(-lI c.length A f)*t i+lI c.length A t*f i) (s:=1) (a:=-lI c.length A f) (b:=lI c.length A t) (λi=>by grind) q;rw[eY]at l1;rw[l1,la,la,<-e a,<-J a,<-e q,<-J q];have:=v q;calc s*H*g*vc r q=s*H*(g*vc r q):=by grind
   _=s*H*(-vc y a*vc x q+vc x a*vc y q):=by rw[this]
   _=_:=by grind
 have F:∀{t f:Vc},nc c.length C t->nc c.length C f->0<lI c.length A t->lI c.length A f<0->nc c.length (A::C) (λi=>(-lI c.length A f)*t i+lI c.length A t*f i):=by
  intro t f R U S p2;have lin:∀B,lI c.length B (λi=>(-lI c.length A f)*t i+lI c.length A t*f i)=(-lI c.length A f)*lI c.length B t+lI c.length A t*lI c.length B f:=λB=>by have:=tq (m:=c.length) (A:=B) (x:=t) (y:=f) (z:=λi=>(-lI c.length A f)*t i+lI c.length A t*f i) (s:=1) (a:=-lI c.length A f) (b:=lI c.length A t) (λi=>by grind);simpa using this
  obtain⟨j,I⟩:=R.ne;have q1:0 < -lI c.length A f:=by exact fQ p2
  refine⟨λi=>?_,λi hi=>?_,⟨j,?_⟩,λB D=>?_⟩
  .have x1:=aP (aA q1) (R.nn i);have x2:=aP (aA S) (U.nn i);exact fO x1 x2
  .rw[R.out i hi,U.out i hi];simp
  .have gj:0<t j:=by have:=R.nn j;lia
   have x1:=aX q1 gj;have x2:=aP (aA S) (U.nn j);omega
  .rw[lin B];rcases aF.mp D with rfl|D
   .grind
   .rw[R.eq B D,U.eq B D];simp
 have k:∀{r:LI} {t:Vc} {s:Int},0<s->(∀q,s*vc r q=Lt c.length (λj=>vc (c.getD j [])) t q)->(0<vc r a↔0<lI c.length A t)/\(vc r a<0↔lI c.length A t<0)/\(vc r a=0↔lI c.length A t=0):=λ{r t s} o e=>by
  rw[la,<-e a];refine⟨⟨λq=>aX o q,λq=>?_⟩,⟨λq=>fP o q,λq=>?_⟩,⟨λq=>by rw[q,eW],λq=>xZ (dD o) q⟩⟩
  .exact gO (a:=s) (by simpa using q) (aA o)
  .exact gO (a:=s) (by simpa using q) (aA o)
 refine⟨λr hr=>?_,λu hu=>?_⟩
 .rcases st.from_ r hr with⟨h1,L⟩|⟨x,N,y,hy,px,ny,I⟩
  .obtain⟨l,t,w,s,o,e⟩:=Y r h1;exact⟨l,t,⟨w.nn,w.out,w.ne,λB D=>by
    rcases aF.mp D with rfl|D
    .exact (k o e).2.2.mp L
    .exact w.eq B D⟩,s,o,e⟩
  .obtain⟨l,t,w,s,o,e⟩:=Y x N;obtain⟨_,f,K,H,p,J⟩:=Y y hy;obtain⟨Q,L,X⟩:=E o p e J I;exact⟨by rw[I.len,l],_,F w K ((k o e).1.mp px) ((k p J).2.1.mp ny),Q,L,X⟩
 .refine T2 (A:=A) (P:=Th c C G) (P':=Th c (A::C) Z) (λx N=>N.1) gen (λt ⟨w,r,hr,s,o,e⟩ h0=>?_) (λt f ⟨w,x,N,s,o,e⟩ ⟨K,y,hy,H,p,J⟩ S p2 hcs=>?_) (cs c.length u) u (aK _) hu
  .exact⟨⟨w.nn,w.out,w.ne,λB D=>by
    rcases aF.mp D with rfl|D
    .exact h0
    .exact w.eq B D⟩,r,st.stay r hr ((k o e).2.2.mpr h0),s,o,e⟩
  .obtain⟨r,I,hk⟩:=st.join x N y hy ((k o e).1.mpr S) ((k p J).2.1.mpr p2);obtain⟨Q,L,X⟩:=E o p e J I;have rl:r.length=d+1+n:=by rw[I.len,(Y x N).1]
   have cl:=RT h rl L X;exact⟨F w K S p2,r,hk (aN cl (eI hcs _)),Q,L,X⟩
end CL
namespace CL
open PySem L2 L3
variable {c:Cs}
noncomputable def n6:Nat->(Nat->Rat)->Rat
 |0,_=>0
 |n+1,f=>f 0+n6 n λi=>f (i+1)
theorem ko:∀n f g,(∀i,i<n->f i=g i)->n6 n f=n6 n g
 |0,_,_,_=>rfl
 |n+1,f,g,h=>by unfold n6;rw[h 0 (bW _),ko n _ _ λi a=>h (i+1) (bJ a)]
theorem rC a b:∀n f g,n6 n (λi=>a*f i+b*g i)=a*n6 n f+b*n6 n g
 |0,_,_=>by unfold n6;grind
 |n+1,f,g=>by unfold n6;rw[rC a b n (λi=>f (i+1)) λi=>g (i+1)];grind
theorem qR:∀n:Nat,n6 n (λ_=>0)=0
 |0=>rfl
 |n+1=>by unfold n6;rw[qR n];grind
def P9(x X:Nat->Rat) v:∀n a,a<n->n6 n (λi=>x i*(if i=a then v else X i))=n6 n (λi=>x i*X i)+x a*(v-X a):=by
 intro n;induction n generalizing x X with
 |zero=>intro a h;cases h
 |succ n ih=>
  intro a b;unfold n6;cases a with
  |zero=>
   have:n6 n (λi=>x (i+1)*(if i+1=0 then v else X (i+1)))=n6 n (λi=>x (i+1)*X (i+1)):=ko n _ _ λi _=>by simp
   rw[this];simp;grind
  |succ a=>
   have:=ih (λi=>x (i+1)) (λi=>X (i+1)) a (fw b);have e:n6 n (λi=>x (i+1)*(if i+1=a+1 then v else X (i+1)))=n6 n (λi=>x (i+1)*(if i=a then v else X (i+1))):=ko n _ _ λi _=>by simp
   rw[e,this];simp;grind
noncomputable def j6(d:Nat)(X:Nat->Rat)(x:Vc):Rat:=n6 d (λp=>(x p:Rat)*X p)-(x d:Rat)
def rq(x y z:Vc) s a b (h:∀i,s*z i=a*x i+b*y i):(s:Rat)*j6 d X z=(a:Rat)*j6 d X x+(b:Rat)*j6 d X y:=by
 have f:∀i,s*(z i)=a*(x i)+b*(y i:Rat):=λi=>by
  have:=h i;have e:((s*z i:Int):Rat)=((a*x i+b*y i:Int):Rat):=by rw[this]
  simpa using e
 unfold j6;have k:(s:Rat)*n6 d (λp=>(z p:Rat)*X p)=(a:Rat)*n6 d (λp=>(x p:Rat)*X p)+(b:Rat)*n6 d (λp=>(y p:Rat)*X p):=by
  have:=rC (s:Rat) 0 d (λp=>(z p:Rat)*X p) (λ_=>0);have j:=rC (a:Rat) (b:Rat) d (λp=>(x p:Rat)*X p) (λp=>(y p:Rat)*X p);have g:n6 d (λi=>(s:Rat)*((z i:Rat)*X i)+0*0)=n6 d (λi=>(a:Rat)*((x i:Rat)*X i)+(b:Rat)*((y i:Rat)*X i)):=ko d _ _ λi _=>by have:=f i;grind
  rw[g,j]at this;grind
 have:=f d;grind
def Hg(b:a<d) X v x:j6 d (λq=>if q=a then v else X q) x=j6 d X x+(x a:Rat)*(v-X a):=by unfold j6;have:=P9 (λi=>(x i)) X v d a b;rw[this];grind
def pU(h:∀p,p<d->x p=0):j6 d X x = -(x d:Rat):=by
 unfold j6;have e:n6 d (λp=>(x p)*X p)=0:=by rw[ko d _ (λ_=>0) λp a=>by rw[h p a];simp];exact qR d
 rw[e];grind
noncomputable def Xs(s:List (Int×Int)):Nat->Rat:=λq=>qv (s.getD q (0,1))
def M9 s a f (b:a<s.length):Xs (s.set a f)=λq=>if q=a then qv f else Xs s q:=by
 funext q;unfold Xs;rw[af,List.getElem?_set];by_cases h:q=a
 .subst h;simp[b]
 .rw[aR (λz=>h z.symm),aR h,af]
def W5:qv (0,1)=0:=by unfold qv;simp;grind
def Ax d:∀s row,s.length=d->d<=row.length->IL row s=n6 d (λp=>(vc row p:Rat)*Xs s p):=by
 induction d with
 |zero=>intro s row a _;have:=gP.mp a;subst this;simp[IL,n6]
 |succ d ih=>
  intro s row a b;cases s with
  |nil=>cases a
  |cons p s=>
   cases row with
   |nil=>simp at b
   |cons x row=>have:=ih s row (by simpa using a) (by simpa using b);unfold IL at this ⊢;rw[eP,bK,fW,this];rfl
def uu(d:Nat)(X:Nat->Rat)(a:Nat)(r:LI):Rat:=-(j6 d X (vc r)) / (vc r a:Rat)
structure Ry(d:Nat)(X:Nat->Rat)(a E:Nat)(G:LL)(lo hi:Option (Int×Int)):Prop where
 l:Oe E lo
 h:Oe E hi
 lo1:∀r∈G,0<vc r a->∃p,lo=some p/\uu d X a r<=qv p
 lo2:∀p,lo=some p->∃r∈G,0<vc r a/\qv p=uu d X a r/\Cu.G p.1 p.2=1
 hi1:∀r∈G,vc r a<0->∃p,hi=some p/\qv p<=uu d X a r
 hi2:∀p,hi=some p->∃r∈G,vc r a<0/\qv p=uu d X a r/\Cu.G p.1 p.2=1
def Ho(h:fc ρ=.ok false)(a:fd ρ=.ok b):L3.vV fc fd ρ=.ok b:=by simp only[L3.vV,h,a,M.bind_ok];rfl
def KP(h:fc ρ=.ok true):L3.vV fc fd ρ=.ok true:=by simp only[L3.vV,h,M.bind_ok];rfl
def Iu(a:0<p.2/\Bn E p.1/\Bn E p.2)(hr:0<r.2/\Bn E r.1/\Bn E r.2)(b:E<=400000):mM c [fr p,fr r]=.ok (.bl (decide (qv p<qv r))):=Ah a.1 hr.1 (a.2.1.ok hr.2.2 (aN b (by decide)) (aN b (dM _ _))) (hr.2.1.ok a.2.2 (by lia) (by lia))
theorem Ft(d a N L:Nat)(hL:d<L)(had:a<d)(hd:d<=10)(h1:1<=N)(s:List (Int×Int))(U:s.length=d)(hq:∀p∈s,Fq p)(hE:N+pN s+20<=400000)(G:LL)(hG:∀r∈G,r.length=L/\∀x∈r,Bn N x) :
  ∃u n,qI c [.lst (G.map tI),.int (a:Int),.lst (s.map fr)]=.ok (.tup [oT u,oT n])/\Ry d (Xs s) a (N+pN s+20) G u n:=by
 let R (u n:Option (Int×Int)) (P D:Option W):En:=[some (.p (.lst (G.map tI))),some (.p (.int (a:Int))),some (.p (.lst (s.map fr))),some (.p (oT u)),some (.p (oT n)),P,D];obtain⟨Y,e,u,n,P,D,rfl,hI⟩:=kj (m:=lq 5) (g:=Am c) tI
  (λk Y=>∃(u n:Option (Int×Int)) (P D:Option W),Y=R u n P D/\Ry d (Xs s) a (N+pN s+20) (G.take k) u n)
  G 0 (R none none none none) ⟨none,none,none,none,rfl,⟨(λ_ z=>nomatch z),(λ_ z=>nomatch z),λr hr=>by simp at hr,(λ_ z=>nomatch z),λr hr=>by simp at hr,(λ_ z=>nomatch z)⟩⟩ (by
   rintro k r Y w ⟨u,n,P,D,rfl,I⟩;rw[aG]at I ⊢;have hm:=au w;have tk:=ki G k r w;obtain⟨rl,rb⟩:=hG r hm;have H:jA (tI r) (.int (a:Int))=.ok (.int (vc r a)):=lX r a (cT had (aE hL (bB rl.symm)));by_cases Z:vc r a=0
   .refine⟨_,_,rfl,.inl (jw (i6 (iP (iP rfl rfl H) rfl (by rw[md,Z];rfl))) rfl),u,n,some (.p (tI r)),D,rfl,?_⟩;rw[tk];refine⟨I.l,I.h,λb i j=>?_,λp e=>?_,λb i j=>?_,λp e=>?_⟩
    .rcases ai.mp i with q|q
     .exact I.lo1 b q j
     .rw[aj.mp q]at j;lia
    .obtain⟨b,B,C⟩:=I.lo2 p e;exact⟨b,ax _ B,C⟩
    .rcases ai.mp i with q|q
     .exact I.hi1 b q j
     .rw[aj.mp q]at j;lia
    .obtain⟨b,B,C⟩:=I.hi2 p e;exact⟨b,ax _ B,C⟩
   .obtain⟨left,el,gl,ql⟩:=yB (c:=c) N (by lia) h1 r s (cD (bB U) (aE hL (bB rl.symm))) (aN (bB U) hd) rb hq (by lia);have ra:=rb _ (getD_mem r a (by lia));obtain⟨en,ee,K,qe⟩:=B1 (c:=c) Z ra gl (by lia) (aN hE (dM _ _));have J:qv en=uu d (Xs s) a r:=by rw[qe,ql,U,Ax d s r U (aN (bg hL) (bB rl.symm))];unfold uu j6;congr 1;grind
    have S:0<en.2/\Bn (N+pN s+20) en.1/\Bn (N+pN s+20) en.2:=⟨K.pos,K.b1,K.b2.mono (by lia)⟩;have s1:∀D,setO 6 (j9 (iV (iL (iV (iL bw be) (mV c)) (iL (kH (iL ga dd)) iQ)) (t5 c))) (R u n (some (.p (tI r))) D)=.nx (R u n (some (.p (tI r))) (some (.p (fr en)))):=λD=>iY (jv (x:=fr left) (y:=fr (vc r a,1)) (jv rfl rfl el) (oy (iP rfl rfl H) rfl) ee) rfl;obtain⟨v,s2,M1,M2,M3⟩:∃v:Option (Int×Int),mB (L3.nP (jE (iU Iy ga ac)) (L3.vV (jE gK) (jE (iV (iL bu k4) (mM c))))) (setO 3 (j9 da)) ju (R u n (some (.p (tI r))) (some (.p (fr en))))=.nx (R v n (some (.p (tI r))) (some (.p (fr en))))/\
      Oe (N+pN s+20) v/\(∀b∈G.take k++[r],0<vc b a->∃p,v=some p/\uu d (Xs s) a b<=qv p)/\(∀p,v=some p->∃b∈G.take k++[r],0<vc b a/\qv p=uu d (Xs s) a b/\Cu.G p.1 p.2=1):=by
     by_cases E:0<vc r a
     .have F:jE (iU Iy ga ac) (vw (R u n (some (.p (tI r))) (some (.p (fr en)))))=.ok true:=i6 (iP (iP rfl rfl H) rfl (by rw[C0];simp[E]));have new:∀(_:∀p,u=some p->qv p<qv en),Oe (N+pN s+20) (some en)/\(∀b∈G.take k++[r],0<vc b a->∃p,some en=some p/\uu d (Xs s) a b<=qv p)/\(∀p,some en=some p->∃b∈G.take k++[r],0<vc b a/\qv p=uu d (Xs s) a b/\Cu.G p.1 p.2=1):=λo=>by
       refine⟨λp z=>by cases z;exact S,λb i j=>⟨en,rfl,?_⟩,λp z=>by cases z;exact⟨r,by simp,E,J,K.one⟩⟩;rcases ai.mp i with q|q
       .obtain⟨p,X,e2⟩:=I.lo1 b q j;have:=o p X;grind
       .rw[aj.mp q,J];grind
      cases f:u with
      |none=>refine⟨some en,?_,new λp z=>by rw[f]at z;cases z⟩;rw[<-f];refine jR (n9 F (KP (i6 (iP rfl rfl ?_)))) (iY (t:=fr en) rfl rfl);show mE false (oT u) .non=_;rw[tG,f];rfl
      |some p=>
       have A:mE false (oT u) .non=.ok (.bl false):=by rw[tG,f];rfl
       have Q:mM c [oT u,fr en]=.ok (.bl (decide (qv p<qv en))):=by rw[f];exact Iu (I.l p f) S hE
       by_cases o:qv p<qv en
       .refine⟨some en,?_,new λj z=>by rw[f]at z;cases z;exact o⟩;rw[<-f];exact jR (n9 F (Ho (i6 (iP rfl rfl A)) (i6 (jv rfl rfl (by rw[Q,aC o]))))) (iY (t:=fr en) rfl rfl)
       .refine⟨u,?_,I.l,λb i j=>?_,λj z=>?_⟩
        .rw[<-f];exact jw (n9 F (Ho (i6 (iP rfl rfl A)) (i6 (jv rfl rfl (by rw[Q,aB o]))))) rfl
        .rcases ai.mp i with q|q
         .exact I.lo1 b q j
         .rw[aj.mp q,<-J];exact⟨p,f,by grind⟩
        .obtain⟨b,B,C⟩:=I.lo2 j z;exact⟨b,ax _ B,C⟩
     .refine⟨u,jw (vC (i6 (iP (iP rfl rfl H) rfl (by rw[C0];simp[E])))) rfl,I.l,λb i j=>?_,λj z=>?_⟩
      .rcases ai.mp i with q|q
       .exact I.lo1 b q j
       .rw[aj.mp q]at j;exact absurd j E
      .obtain⟨b,B,C⟩:=I.lo2 j z;exact⟨b,ax _ B,C⟩
    obtain⟨w,s3,H1,H2,H3⟩:∃w:Option (Int×Int),mB (L3.nP (jE (iU GY ga ac)) (L3.vV (jE (iU (mE false) c5 b4)) (jE (iV (iL da ia) (mM c))))) (setO 4 (j9 da)) ju (R v n (some (.p (tI r))) (some (.p (fr en))))=.nx (R v w (some (.p (tI r))) (some (.p (fr en))))/\
      Oe (N+pN s+20) w/\(∀b∈G.take k++[r],vc b a<0->∃p,w=some p/\qv p<=uu d (Xs s) a b)/\(∀p,w=some p->∃b∈G.take k++[r],vc b a<0/\qv p=uu d (Xs s) a b/\Cu.G p.1 p.2=1):=by
     by_cases E:vc r a<0
     .have F:jE (iU GY ga ac) (vw (R v n (some (.p (tI r))) (some (.p (fr en)))))=.ok true:=i6 (iP (iP rfl rfl H) rfl (by rw[uB];simp[E]));have new:∀(_:∀p,n=some p->qv en<qv p),Oe (N+pN s+20) (some en)/\(∀b∈G.take k++[r],vc b a<0->∃p,some en=some p/\qv p<=uu d (Xs s) a b)/\(∀p,some en=some p->∃b∈G.take k++[r],vc b a<0/\qv p=uu d (Xs s) a b/\Cu.G p.1 p.2=1):=λo=>by
       refine⟨λp z=>by cases z;exact S,λb i j=>⟨en,rfl,?_⟩,λp z=>by cases z;exact⟨r,by simp,E,J,K.one⟩⟩;rcases ai.mp i with q|q
       .obtain⟨p,X,e2⟩:=I.hi1 b q j;have:=o p X;grind
       .rw[aj.mp q,J];grind
      cases f:n with
      |none=>refine⟨some en,?_,new λp z=>by rw[f]at z;cases z⟩;rw[<-f];refine jR (n9 F (KP (i6 (iP rfl rfl ?_)))) (iY (t:=fr en) rfl rfl);show mE false (oT n) .non=_;rw[tG,f];rfl
      |some p=>
       have A:mE false (oT n) .non=.ok (.bl false):=by rw[tG,f];rfl
       have Q:mM c [fr en,oT n]=.ok (.bl (decide (qv en<qv p))):=by rw[f];exact Iu S (I.h p f) hE
       by_cases o:qv en<qv p
       .refine⟨some en,?_,new λj z=>by rw[f]at z;cases z;exact o⟩;rw[<-f];exact jR (n9 F (Ho (i6 (iP rfl rfl A)) (i6 (jv rfl rfl (by rw[Q,aC o]))))) (iY (t:=fr en) rfl rfl)
       .refine⟨n,?_,I.h,λb i j=>?_,λj z=>?_⟩
        .rw[<-f];exact jw (n9 F (Ho (i6 (iP rfl rfl A)) (i6 (jv rfl rfl (by rw[Q,aB o]))))) rfl
        .rcases ai.mp i with q|q
         .exact I.hi1 b q j
         .rw[aj.mp q,<-J];exact⟨p,f,by grind⟩
        .obtain⟨b,B,C⟩:=I.hi2 j z;exact⟨b,ax _ B,C⟩
     .refine⟨n,jw (vC (i6 (iP (iP rfl rfl H) rfl (by rw[uB];simp[E])))) rfl,I.h,λb i j=>?_,λj z=>?_⟩
      .rcases ai.mp i with q|q
       .exact I.hi1 b q j
       .rw[aj.mp q]at j;exact absurd j E
      .obtain⟨b,B,C⟩:=I.hi2 j z;exact⟨b,ax _ B,C⟩
    refine⟨_,_,rfl,.inl (jR (i6 (iP (iP rfl rfl H) rfl (by rw[md];simp[Z]))) (iR (s1 D) (iR s2 s3))),v,w,some (.p (tI r)),some (.p (fr en)),rfl,?_⟩;rw[tk];exact⟨M1,H1,M2,M3,H2,H3⟩)
 rw[aG,eZ]at hI;exact⟨u,n,jh rfl (iR (iY (t:=.non) rfl rfl) (iR (iY (t:=.non) rfl rfl) (iR (ku rfl e) (i7 (oy rfl rfl))))),hI⟩
def yg{s:Int}(e:∀q,s*r q=y q):(s:Rat)*j6 d X r=j6 d X y:=by have:=rq (d:=d) (X:=X) y y r s 1 0 (λi=>by rw[e i];lia);have b:((1:Int):Rat)=1:=rfl;have a:((0:Int):Rat)=0:=rfl;rw[b,a]at this;grind
def P0(st:Bool)(x:Rat):Prop:=if st=true then 0<x else 0<=x
def P0.pos{st x}(h:0<x):P0 st x:=by unfold P0;split<;>grind
def P0.nn{st x}(h:P0 st x):0<=x:=by unfold P0 at h;split at h<;>grind
def P0.add{st x y}(h:P0 st x)(a:0<=y):P0 st (x+y):=by unfold P0 at *;split<;>simp_all<;>grind
def P0.mul{st x s}(a:0<s)(h:P0 st x):P0 st (s*x):=by
 unfold P0 at *;split
 .rw[aQ (by assumption)]at h;exact fU a h
 .rw[aR (by assumption)]at h;exact gQ (fV a) h
def P0.of_mul{st x s}(a:0<s)(h:P0 st (s*x)):P0 st x:=by
 have:=P0.mul (s:=s⁻¹) (Rat.inv_pos.mpr a) h;have e:s⁻¹*(s*x)=x:=by grind
 rwa [e]at this
def Cn.p0{st}{f:Vc->Rat}(d:∀x y z (s a b:Int),(∀i,s*z i=a*x i+b*y i)->(s:Rat)*f z=(a:Rat)*f x+(b:Rat)*f y)(g:∀x,P x->P0 st (f x))(h:Cn P z):P0 st (f z):=by
 cases st with
 |true=>exact (Cn.posQ d (λx k=>g x k) h:0<f z)
 |false=>
  show 0<=f z;induction h with
  |of h=>exact g _ h
  |lin _ _ hs ha hb hab e i1 i2=>rename_i x y z s a b _ _;have q:=d _ _ _ _ _ _ e;have j:(0:Rat)<(s:Rat):=mU hs;have l:=gQ (show (0:Rat)<=(a:Rat) by exact_mod_cast ha) i1;have m:=gQ (show (0:Rat)<=(b:Rat) by exact_mod_cast hb) i2;refine Rat.le_of_mul_le_mul_left (c:=(s:Rat)) ?_ j;rw[q];grind
theorem KU{sb:Bool}{d n:Nat}{ss ix:List Nat}{f:LL}(h:Oh d n ss ix f){j:Nat}{G:LL}{w:List Nat}{H:List (LL)}(K:LC d ix.length j G w H) :
  ∀(E:List Vc),E.length=j->(∀r∈G,r.length=d+1+n/\∃t,nc f.length E t/\∃s:Int,0<s/\∀q,s*vc r q=Lt f.length (λj=>vc (f.getD j [])) t q)->(∀u,nc f.length E u->Cn (Th f E G) u)->∀(Z:Nat->Prop),(∀r∈G,∀p,Z p->vc r p=0)->
  (∀(i a:Nat),w[i]? = some a->∃J C,H[i]? = some J/\H[i+1]? = some C/\(∀r∈J,vc r a=0->r∈C)/\∀X:Nat->Rat,(∀r∈C,P0 sb (j6 d X (vc r)))->∀x∈J,∀y∈J,0<vc x a->vc y a<0->P0 sb (-(vc y a:Rat)*j6 d X (vc x)+(vc x a:Rat)*j6 d X (vc y)))/\
  ∃Gl,H[w.length]? = some Gl/\H.getLast? = some Gl/\(∀r∈Gl,∀p,(Z p\/p∈w)->vc r p=0)/\∀r∈Gl,r.length=d+1+n/\∃t,nc f.length [] t/\∃s:Int,0<s/\∀q,s*vc r q=Lt f.length (λj=>vc (f.getD j [])) t q:=by
 induction K with
 |nil=>
  rename_i j G;intro E U L P Z hz;refine⟨λi a q=>by simp at q,G,rfl,rfl,λr hr p o=>?_,λr hr=>?_⟩
  .simp_all
  .obtain⟨l,t,I,q⟩:=L r hr;exact⟨l,t,HG I λA U=>(nomatch U),q⟩
 |cons st K ih=>
  rename_i j a G G' w H;intro E U L P Z hz;subst U;obtain⟨hG',F⟩:=Jt h L P st;obtain⟨i1,Gl,i2,i3,i4,i5⟩:=ih ((λj=>vc (f.getD j []) a)::E) (by simp) hG' F (λp=>Z p\/p=a) (λr hr p o=>by
   rcases st.from_ r hr with⟨N,q2⟩|⟨x,hx,y,K,px,ny,Y⟩
   .grind
   .rcases o with o|rfl
    .obtain⟨g,hg,v⟩:=Y.ex;refine xZ (g:=g) (dD hg) ?_;rw[v p,hz x hx p o,hz y K p o];simp
    .exact Y.at0)
  have l0:H[0]? = some G':=by cases K<;>rfl
  have lne:H≠[]:=λz=>by rw[z]at l0;cases l0
  refine⟨λi b q=>?_,Gl,?_,?_,λr hr p o=>i4 r hr p ?_,i5⟩
  .cases i with
   |zero=>
    simp at q;subst q;refine⟨G,G',rfl,by simpa using l0,st.stay,λX hX x hx y hy' px ny=>?_⟩;obtain⟨_,t,I,s,hs,e⟩:=L x hx;obtain⟨_,k,D,s',Q,e'⟩:=L y hy';let A:Vc:=λj=>vc (f.getD j []) a;have R:∀t,lI f.length A t=Lt f.length (λj=>vc (f.getD j [])) t a:=λt=>LJ f.length (λj=>vc (f.getD j [])) t a;have p1:0<lI f.length A t:=by rw[R,<-e a];exact aX hs px
    have p2:lI f.length A k<0:=by rw[R,<-e' a];exact fP Q ny
    have cz:nc f.length (A::E) (λi=>(-lI f.length A k)*t i+lI f.length A t*k i):=by
     have lin:∀B,lI f.length B (λi=>(-lI f.length A k)*t i+lI f.length A t*k i)=(-lI f.length A k)*lI f.length B t+lI f.length A t*lI f.length B k:=λB=>by have:=tq (m:=f.length) (A:=B) (x:=t) (y:=k) (z:=λi=>(-lI f.length A k)*t i+lI f.length A t*k i) (s:=1) (a:=-lI f.length A k) (b:=lI f.length A t) (λi=>by grind);simpa using this
     obtain⟨j,Y⟩:=I.ne;have N:0 < -lI f.length A k:=by exact fQ p2
     refine⟨λi=>?_,λi hi=>?_,⟨j,?_⟩,λB S=>?_⟩
     .have x1:=aP (aA N) (I.nn i);have x2:=aP (aA p1) (D.nn i);exact fO x1 x2
     .rw[I.out i hi,D.out i hi];simp
     .have gj:0<t j:=by have:=I.nn j;lia
      have x1:=aX N gj;have x2:=aP (aA p1) (D.nn j);omega
     .rw[lin B];rcases aF.mp S with rfl|S
      .grind
      .rw[I.eq B S,D.eq B S];simp
    have hf:∀x y z (s a b:Int),(∀i,s*z i=a*x i+b*y i)->(s:Rat)*j6 d X (Lt f.length (λj=>vc (f.getD j [])) z)=(a:Rat)*j6 d X (Lt f.length (λj=>vc (f.getD j [])) x)+(b:Rat)*j6 d X (Lt f.length (λj=>vc (f.getD j [])) y):=λx y z s a b hh=>rq _ _ _ s a b λi=>K7 hh i;have pos:=Cn.p0 (st:=sb) hf (λu ⟨_,r,hr,s2,hs2,e2⟩=>by rw[<-yg (λq=>e2 q)];exact P0.mul (mU hs2) (hX r hr)) (F _ cz)
    have lz:=hf t k (λi=>(-lI f.length A k)*t i+lI f.length A t*k i) 1 (-lI f.length A k) (lI f.length A t) (λi=>by grind);have e1:=yg (d:=d) (X:=X) (λq=>e q);have e2:=yg (d:=d) (X:=X) (λq=>e' q);have a1:(lI f.length A t:Rat)=(s:Rat)*(vc x a:Rat):=by rw[R,<-e a];simp
    have a2:(lI f.length A k:Rat)=(s':Rat)*(vc y a:Rat):=by rw[R,<-e' a];simp
    have ss0:=fU (mU hs) (mU Q);refine P0.of_mul ss0 ?_;have ev:j6 d X (Lt f.length (λj=>vc (f.getD j [])) (λi=>(-lI f.length A k)*t i+lI f.length A t*k i))=(s:Rat)*(s':Rat)*(-(vc y a:Rat)*j6 d X (vc x)+(vc x a:Rat)*j6 d X (vc y)):=by grind
    rw[<-ev];exact pos
   |succ i=>obtain⟨J,C,N,q2,q3⟩:=i1 i b (by simpa using q);exact⟨J,C,by simpa using N,by simpa using q2,q3⟩
  .simpa using i2
  .rw[List.getLast?_cons_of_ne_nil lne];exact i3
  .rcases o with o|o
   .exact .inl (.inl o)
   .rcases aF.mp o with o|o
    .exact .inl (.inr o)
    .exact .inr o
noncomputable def Sb(N d m:Nat):Nat->Nat
 |0=>d
 |i+1=>2*Sb N d m i+Nb N (m-1-i)+22
def HY s a f:pN (s.set a f)<=pN s+wt f:=by
 induction s generalizing a with
 |nil=>simp[pN]
 |cons p s ih=>
  cases a with
  |zero=>simp[pN];lia
  |succ a=>
   have:=ih a;have b:pN ((p::s).set (a+1) f)=wt p+pN (s.set a f):=by rw[List.set_cons_succ];simp[pN]
   have d:pN (p::s)=wt p+pN s:=by simp[pN]
   lia
def zJ n k (h:k<n):zj n (k:Int)=some k:=by unfold zj;rw[aQ (bE _),aQ (dy.mpr h)];simp
def UT l (k:Nat) t (h:l[k]? = some t):jA (.lst l) (.int (k:Int))=.ok t:=by
 have a:=(aa.mp h).1;have:rG l k=some t:=by unfold rG;rw[zJ _ _ a];exact h
 simp[this]
def EN{l:List Nat}(h:l.Nodup){i j a:Nat}(m:l[i]? = some a)(k:l[j]? = some a):i=j:=by
 obtain⟨e,b⟩:=aa.mp m;obtain⟨g,f⟩:=aa.mp k;have d:=cZ.mp h;rcases cX i j with q|q|q
 .exact absurd (b.trans f.symm) (d i j e g q)
 .exact q
 .exact absurd (f.trans b.symm) (d j i g e q)
def BV(V:Nat)(p:Int×Int):Prop:=Bn V p.2/\Bn (V+30) p.1
def N7{p:Int×Int}(h:Fq p):Cu.V4 p.1 p.2 p.1 p.2:=⟨h.pos,h.one,rfl⟩
def Ot{p r:Int×Int}(d:Fq p)(hr:Fq r)(e:qv p=qv r):p=r:=by
 have i:=mU d.pos;have h:=mU hr.pos;have g:(p.1:Rat)*(r.2:Rat)=(r.1:Rat)*(p.2:Rat):=by unfold qv at e;grind
 have f:p.1*r.2=r.1*p.2:=by exact_mod_cast g
 obtain⟨a,b⟩:=Cu.LK (by have:=d.pos;exact dD this) (by have:=hr.pos;exact dD this) (N7 d) (N7 hr) f;exact Prod.ext a b
def Bh{st:Bool} E (o:E<=390000) lo hi (j:Oe E lo) (l:Oe E hi) (k:∀p,lo=some p->Fq p) (m:∀p,hi=some p->Fq p) (d:∀p r,lo=some p->hi=some r->P0 st (qv r-qv p)) :
  ∃x,lZ c [oT lo,oT hi]=.ok (fr x)/\Fq x/\(∀p,lo=some p->P0 st (qv x-qv p))/\(∀r,hi=some r->P0 st (qv r-qv x))/\Bn (E+2) x.1/\Bn (E+1) x.2:=by
 by_cases h:∀p r,lo=some p->hi=some r->qv p<qv r
 .obtain⟨x,n,a,f,i⟩:=zG (c:=c) E o lo hi j l h;exact⟨x,n,⟨a.pos,a.one⟩,λp e=>P0.pos (by have:=a.lo p e;grind),λr e=>P0.pos (by have:=a.hi r e;grind),f,i⟩
 .simp only[Classical.not_forall]at h;obtain⟨p,r,b,g,s⟩:=h;have q:=d p r b g;have u:=q.nn;have e:qv p=qv r:=by grind
  obtain rfl:=Ot (k p b) (m r g) e;have z:P0 st (qv p-qv p):=q;obtain⟨-,f,i⟩:=j p b;subst b g;refine⟨p,jh rfl (lE (t:=fr p) (jR (n9 rfl (i6 (iP rfl rfl (by rw[show oT (some p)=fr p from rfl,NN,aC rfl])))) (i7 rfl)) rfl),k p rfl,λ_ e=>by cases e;exact z,λ_ e=>by cases e;exact z,f.mono (cJ _ _),i.mono (bL _)⟩
theorem AO{st:Bool}{d n:Nat}{ss ix:List Nat}{f:LL}(h:Oh d n ss ix f)(N:Nat)(h1N:1<=N)(hd:d<=10){b:List Nat}{F:List (LL)}(hy:LC d ix.length 0 f b F)(hpm:b.length<=10)(hpd:∀a∈b,a<d)(hnd:b.Nodup)(hb:∀(i:Nat) G,F[i]? = some G->∀r∈G,r.length=d+1+n/\∀x∈r,Bn (Nb N i) x)
  (Z:Nat->Prop) (hZ:∀r∈f,∀p,Z p->vc r p=0) (C:List (Int×Int)) (h0w:pN C<=d) (h0l:C.length=d) (h0z:∀a∈b,C.getD a (0,1)=(0,1)) (tM:∀Gl,F.getLast? = some Gl->(∀r∈Gl,∀p,(Z p\/p∈b)->vc r p=0)->∀r∈Gl,P0 st (j6 d (Xs C) (vc r))) (hE:∀i,i<b.length->Nb N (b.length-1-i)+Sb N d b.length i+20<=390000) (V:Nat) (h1V:1<=V) (hV:∀i,i<b.length->Nb N (b.length-1-i)+Sb N d b.length i+21<=V) (h0q:∀p∈C,Fq p/\BV V p) :
  ∃s:List (Int×Int),l7 c [.lst (F.map λg=>T.lst (g.map tI)),.lst (b.map λ(j:Nat)=>T.int (j:Int)),.lst (C.map fr)]=.ok (s.map fr)/\s.length=d/\(∀p∈s,Fq p/\BV V p)/\pN s<=Sb N d b.length b.length/\(∀p,p<d->p∉b->s.getD p (0,1)=C.getD p (0,1))/\∀r∈f,P0 st (j6 d (Xs s) (vc r)):=by
 have sz:1000<sizeLine:=by decide
 have g0:∀r∈f,r.length=d+1+n/\∃t,nc f.length [] t/\∃s:Int,0<s/\∀q,s*vc r q=Lt f.length (λj=>vc (f.getD j [])) t q:=λr hr=>by
  obtain⟨j,hj⟩:=c7.mp hr;have jl:=(aa.mp hj).1;have ej:f.getD j []=r:=by rw[af,hj];rfl
  refine⟨h.l r hr,tz j,⟨λi=>by unfold tz;split<;>exact bE _,λi B=>by unfold tz;rw[aR (bC (aE jl B))],⟨j,by simp[tz]⟩,λA hA=>(nomatch hA)⟩,1,by decide,λq=>?_⟩;rw[zf f.length _ j jl q,ej,eY]
 have gen0:∀u,nc f.length [] u->Cn (Th f [] f) u:=λu hu=>(BS f.length (cs f.length u) u (aK _) hu).mono λx ⟨i,B,ex⟩=>by
  subst ex;have hm:f.getD i []∈f:=by rw[af,ag B];exact aV B
  refine⟨⟨λk=>by unfold tz;split<;>lia,λk hk=>by unfold tz;rw[aR (bC (aE B hk))],⟨i,by simp[tz]⟩,λA hA=>(nomatch hA)⟩,f.getD i [],hm,1,by decide,λq=>?_⟩;rw[zf f.length _ i B q,eY]
 obtain⟨at_,Gl,la1,la2,la3,la4⟩:=KU (sb:=st) h hy [] rfl g0 gen0 Z hZ;let m:=b.length;let R (s:List (Int×Int)) (Y X Q:Option W):En:=[some (.p (.lst (F.map λg=>T.lst (g.map tI)))),some (.p (.lst (b.map λ(j:Nat)=>T.int (j:Int)))),some (.p (.lst (C.map fr))),some (.o (s.map fr)),Y,X,Q];obtain⟨ρ,e,s,Y,X,Q,rfl,S,k2,k3,L,G,P,k6⟩:=kj (m:=lG 2 bP) (g:=tK c) (λ(p:Nat×Nat)=>T.tup [.int (p.2:Int),.int (p.1:Int)])
  (λi ρ=>∃(s:List (Int×Int)) (Y X Q:Option W),ρ=R s Y X Q/\s.length=d/\(∀p∈s,Fq p/\BV V p)/\pN s<=Sb N d m i/\(∀p,p<d->p∉b.drop (m-i)->s.getD p (0,1)=C.getD p (0,1))/\∃G,F[m-i]? = some G/\∀r∈G,P0 st (j6 d (Xs s) (vc r)))
  b.zipIdx.reverse 0 (R C none none none) ⟨C,none,none,none,rfl,h0l,h0q,h0w,λ_ _ _=>rfl,Gl,by simpa[m] using la1,tM Gl la2 la3⟩ (by
   rintro i ⟨a,jn⟩ ρ B ⟨s,Y,X,Q,rfl,S,k2,k3,L,G',P,k6⟩;rw[aG]at k3 L P ⊢;have il:i<m:=by have:=(aa.mp B).1;simpa[m] using this
   rw[List.getElem?_reverse (by simpa[m] using il)]at B;have hz:b.zipIdx.length-1-i=m-1-i:=by simp[m]
   rw[hz,List.getElem?_zipIdx]at B;have hpl:b[m-1-i]? = some a/\jn=m-1-i:=by
    cases q:b[m-1-i]? with
    |none=>rw[q]at B;cases B
    |some a'=>rw[q]at B;simp at B;exact⟨by rw[B.1],B.2.symm⟩
   obtain⟨D,hjn⟩:=hpl;subst hjn;have am:=au D;have ad:=hpd a am;obtain⟨G,G2,q1,q2,q3,q4⟩:=at_ (m-1-i) a D;have e2:m-1-i+1=m-i:=by lia
   rw[e2,P]at q2;cases q2;have hGb:=hb (m-1-i) G q1;have hEi:=hE i il;have k3':=k3;have hE2:Nb N (m-1-i)+pN s+20<=390000:=by show Nb N (m-1-i)+pN s+20<=390000;lia
   have n1:1<=Nb N (m-1-i):=aN h1N (HB N (bN _));obtain⟨H,w,ee,E⟩:=Ft (c:=c) d a (Nb N (m-1-i)) (d+1+n) (cJ _ _) ad hd n1 s S (λp K=>(k2 p K).1) (aN hE2 (dM _ _)) G hGb;have sa:s.getD a (0,1)=(0,1):=Eq.trans (L a ad λhm=>by obtain⟨q,hq⟩:=c7.mp hm;rw[List.getElem?_drop]at hq;have:=EN hnd D hq;lia) (h0z a am)
   have Xa:Xs s a=0:=by unfold Xs;rw[sa,W5]
   have lt:∀p r,H=some p->w=some r->P0 st (qv r-qv p):=λp r ep er=>by
    obtain⟨x,hx,px,ex,-⟩:=E.lo2 p ep;obtain⟨y,hy',ny,ey,-⟩:=E.hi2 r er;have key:=q4 (Xs s) k6 x hx y hy' px ny;rw[ex,ey];unfold uu;have a1:(0:Rat)<(vc x a:Rat):=mU px;have a2:(0:Rat) < -(vc y a:Rat):=by have:=mU (show 0 < -vc y a by lia);simpa using this
    generalize j6 d (Xs s) (vc x)=e1 at *;generalize j6 d (Xs s) (vc y)=e2 at *;generalize (vc x a:Rat)=u at *;generalize (vc y a:Rat)=v at *;refine P0.of_mul (fU a1 a2) ?_;have u0:u≠0:=by grind
    have v0:v≠0:=by grind
    have J:u * -v*(-e2 / v - -e1 / u) = -v*e1+u*e2:=by grind
    rw[J];exact key
   obtain⟨x,ex,gd,glo,ghi,bx1,bx2⟩:=Bh (c:=c) (st:=st) (Nb N (m-1-i)+pN s+20) hE2 H w E.l E.h (λp e=>⟨(E.l p e).1,let ⟨_,_,_,_,h⟩:=E.lo2 p e;h⟩) (λp e=>⟨(E.h p e).1,let ⟨_,_,_,_,h⟩:=E.hi2 p e;h⟩) lt;have wx:wt x<=(Nb N (m-1-i)+pN s+20)+2:=Nat.max_le.mpr ⟨HN bx1 (bW _),HN (bx2.mono (bL _)) (bW _)⟩;have ixl:jA (.lst (F.map λg=>T.lst (g.map tI))) (.int ((m-1-i:Nat):Int))=.ok (.lst (G.map tI)):=by
    have q:(F.map λg=>T.lst (g.map tI))[m-1-i]? = some (T.lst (G.map tI)):=by rw[av,q1];rfl
    exact UT _ _ _ q
   have s1:setO 6 (qr (iV (iL (iU jA a0 c5) (iL bw bf)) (qI c))) (R s (some (.p (.int ((m-1-i:Nat):Int)))) (some (.p (.int (a:Int)))) Q)=.nx (R s (some (.p (.int ((m-1-i:Nat):Int)))) (some (.p (.int (a:Int)))) (some (.p (.tup [oT H,oT w])))):=by refine Da (mv (x:=.lst (G.map tI)) (iP rfl rfl ixl) rfl rfl ee) ?_ rfl;cases H<;>cases w<;>rfl
   have s2:yf 3 (qr bw) (qr (iV (iL (iU jA da ac) (iL (iU jA da ab) iQ)) (lZ c))) (R s (some (.p (.int ((m-1-i:Nat):Int)))) (some (.p (.int (a:Int)))) (some (.p (.tup [oT H,oT w]))))=.nx (R (s.set a x) (some (.p (.int ((m-1-i:Nat):Int)))) (some (.p (.int (a:Int)))) (some (.p (.tup [oT H,oT w])))):=by
    refine zy (us:=s.map fr) rfl (jv (x:=oT H) (y:=oT w) (iP rfl rfl rfl) (iP rfl rfl rfl) ex) rfl (j:=(a:Int)) (m:=a) rfl ?_ ?_
    .rw[aw];exact zJ _ _ (aE ad (bB S.symm))
    .show _=List.set _ _ _;simp[R,fC]
   refine⟨_,_,rfl,.inl (iR s1 s2),s.set a x,some (.p (.int ((m-1-i:Nat):Int))),some (.p (.int (a:Int))),some (.p (.tup [oT H,oT w])),rfl,by rw[b8,S],λp K=>?_,?_,λp K U=>?_,G,by rw[show m-(i+1)=m-1-i by lia];exact q1,λr hr=>?_⟩
   .rcases gz K with q|q
    .exact k2 p q
    .rw[q];exact⟨gd,bx2.mono (by have:Nb N (m-1-i)+Sb N d m i+21<=V:=hV i il;lia),bx1.mono (by have:Nb N (m-1-i)+Sb N d m i+21<=V:=hV i il;lia)⟩
   .have:=HY s a x;show _<=2*Sb N d m i+Nb N (m-1-i)+22;lia
   .rw[show m-(i+1)=m-1-i by lia]at U;have dr:b.drop (m-1-i)=a::b.drop (m-i):=by have hlt:=(aa.mp D).1;rw[dO hlt,e2];congr 1;exact (aa.mp D).2
    rw[dr]at U;have pa:p≠a:=λz=>U (by simp[z]);rw[af,aq (λz=>pa z.symm),<-af];exact L p K λz=>U (by simp[z])
   .rw[M9 s a x (aE ad (bB S.symm)),Hg ad,Xa];have nx:P0 st (j6 d (Xs s) (vc r)+(vc r a:Rat)*(qv x-0)):=by
     rcases gL (vc r a) 0 with q|q|q
     .obtain⟨p,ep,le⟩:=E.hi1 r hr q;have I:=ghi p ep;unfold uu at le;have a2:(0:Rat) < -(vc r a:Rat):=by have:=mU (show 0 < -vc r a by lia);simpa using this
      generalize j6 d (Xs s) (vc r)=e1 at *;generalize (vc r a:Rat)=v at *;have v0:v≠0:=by grind
      have t:=P0.mul a2 (I.add (y:=-e1 / v-qv p) (by grind));have J:-v*(qv p-qv x+(-e1 / v-qv p))=e1+v*(qv x-0):=by grind
      rwa [J]at t
     .have t:=k6 r (q3 r hr q);rw[q];have J:j6 d (Xs s) (vc r)+((0:Int):Rat)*(qv x-0)=j6 d (Xs s) (vc r):=by simp;grind
      rwa [J]
     .obtain⟨p,ep,le⟩:=E.lo1 r hr q;have I:=glo p ep;unfold uu at le;have a2:(0:Rat)<(vc r a:Rat):=mU q;generalize j6 d (Xs s) (vc r)=e1 at *;generalize (vc r a:Rat)=v at *;have v0:v≠0:=by grind
      have t:=P0.mul a2 (I.add (y:=qv p - -e1 / v) (by grind));have J:v*(qv x-qv p+(qv p - -e1 / v))=e1+v*(qv x-0):=by grind
      rwa [J]at t
    exact nx)
 have fl:(b.zipIdx.reverse).length=m:=by simp[m]
 rw[aG,fl]at k3 L P;rw[gR]at L P;have G0:F[0]? = some f:=by cases hy<;>rfl
 rw[G0]at P;cases P;have ito:IT (iL (kh (Vt ap)) iQ) (qH (R C none none none))=.ok (b.zipIdx.reverse.map λ(p:Nat×Nat)=>T.tup [.int (p.2:Int),.int (p.1:Int)]):=by have le:Vt ap (qH (R C none none none))=.ok (qg (b.map λ(j:Nat)=>T.int (j:Int))):=rfl;simp only[IT,iL,iQ,kh,le,M.bind_ok];rw[qJ,List.map_reverse]
 refine⟨s,pF rfl (iR (pH (ts:=C.map fr) rfl rfl) (iR (ku ito e) rfl)),S,k2,k3,λp K U=>L p K (by simpa using U),k6⟩
def yO{d n:Nat}{S z:List Nat}{l:LL}(h:Oh d n S z l)(N:Nat)(u:1<=N)(B:d<=10){b:List Nat}{k:List (LL)}(J:LC d z.length 0 l b k)(y:b.length<=10)(m:∀a∈b,a<d)(w:b.Nodup)(C:∀(i:Nat) G,k[i]? = some G->∀r∈G,r.length=d+1+n/\∀x∈r,Bn (Nb N i) x)
  (Z:Nat->Prop) (L:∀r∈l,∀p,Z p->vc r p=0) (A:∀p,p<d->Z p\/p∈b) (K:∀Gl,k.getLast? = some Gl->∀r∈Gl,vc r d<0) (X:∀i,i<b.length->Nb N (b.length-1-i)+Sb N d b.length i+20<=390000) (V:Nat) (o:1<=V) (F:∀i,i<b.length->Nb N (b.length-1-i)+Sb N d b.length i+21<=V) :
  ∃s:List (Int×Int),l7 c [.lst (k.map λg=>T.lst (g.map tI)),.lst (b.map λ(j:Nat)=>T.int (j:Int)),.lst ((List.replicate d ((0,1):Int×Int)).map fr)]=.ok (s.map fr)/\s.length=d/\(∀p∈s,Fq p/\BV V p)/\pN s<=Sb N d b.length b.length/\(∀p,p<d->p∉b->s.getD p (0,1)=(0,1))/\∀r∈l,0<j6 d (Xs s) (vc r):=by
 have v:Fq (0,1):=⟨by decide,by decide⟩;have g0:∀p,(List.replicate d ((0,1):Int×Int)).getD p (0,1)=(0,1):=λp=>by rw[af,List.getElem?_replicate];split<;>rfl
 obtain⟨s,e,P,E,Y,D,U⟩:=AO (c:=c) (st:=true) h N u B J y m w C Z L (List.replicate d (0,1)) (by
   have R:wt (0,1)=1:=by decide
   simp[pN,R]) (by simp) (λa _=>g0 a) (λGl Q I r hr=>by
   rw[pU λp f=>I r hr p (A p f)];have:=K Gl Q r hr;have q:=mU (show 0 < -vc r d by lia);exact P0.pos (by simpa using q)) X V o F λp f=>by rw[bc f];exact⟨v,(xC (n:=0)).mono (by omega),qt⟩
 exact⟨s,e,P,E,Y,λp f H=>(D p f H).trans (g0 p),U⟩
def ID(d M L:Nat)(H:d<L)(hd:d<=10)(hM:1<=M)(pv:List (Nat×LI))(s:List (Int×Int))(N:s.length=d)(V:Nat)(hq:∀p∈s,Fq p/\BV V p)(D:∀p∈pv,p.1<d/\p.2.length=L/\vc p.2 p.1≠0/\∀x∈p.2,Bn M x)(hw:pv.Pairwise λp q=>p.1≠q.1/\vc q.2 p.1=0/\vc p.2 q.1=0)(h0:∀p∈pv,s.getD p.1 (0,1)=(0,1))(hE:pv≠[]->M+pN s+20<=400000)(hV:pv≠[]->M+pN s+1<=V) :
  ∃f,t9 c [.lst (pv.map ou),.lst (s.map fr)]=.ok (tS f)/\f.length=d/\(∀p∈f,Fq p/\BV V p)/\pN f<=pN s+pv.length*(M+pN s+20)/\(∀p∈pv,j6 d (Xs f) (vc p.2)=0)/\∀r:Vc,(∀p∈pv,r p.1=0)->j6 d (Xs f) r=j6 d (Xs s) r:=by
 have sz:1000<sizeLine:=by decide
 let R (f:List (Int×Int)) (C I:Option W):En:=[some (.p (.lst (pv.map ou))),some (.p (.lst (s.map fr))),some (.o (f.map fr)),C,I];obtain⟨ρ,e,f,C,I,rfl,E,k2,Z,K,w,P⟩:=kj (m:=lG 2 bq) (g:=yj c) ou
  (λi ρ=>∃(f:List (Int×Int)) (C I:Option W),ρ=R f C I/\f.length=d/\(∀p∈f,Fq p/\BV V p)/\pN f<=pN s+i*(M+pN s+20)/\(∀p∈pv.take i,j6 d (Xs f) (vc p.2)=0)/\(∀r:Vc,(∀p∈pv.take i,r p.1=0)->j6 d (Xs f) r=j6 d (Xs s) r)/\∀q,(∀p∈pv.take i,p.1≠q)->f.getD q (0,1)=s.getD q (0,1))
  pv 0 (R s none none) ⟨s,none,none,rfl,N,hq,cJ _ _,λp D=>by simp at D,λr _=>rfl,λq _=>rfl⟩ (by
   rintro i ⟨a,h⟩ ρ U ⟨f,C,I,rfl,E,k2,Z,K,w,P⟩;rw[aG]at Z K w P ⊢;have u:=au U;have hV:=hV (λz=>by rw[z]at u;cases u);have hE:=hE (λz=>by rw[z]at u;cases u);obtain⟨Y,hl,n,hb⟩:=D _ u;simp only at Y hl n hb;have il:=(aa.mp U).1;have l:∀p∈pv.take i,p.1≠a/\vc h p.1=0/\vc p.2 a=0:=λp b=>by
    obtain⟨j,S⟩:=c7.mp b;rw[List.getElem?_take]at S;split at S
    .rename_i jl;have Q:=aa.mp S;have B:=aa.mp U;have:=cZ.mp hw j i Q.1 B.1 jl;rw[Q.2,B.2]at this;exact this
    .cases S
   obtain⟨r,e1,g1,v1⟩:=yB (c:=c) M (by lia) hM h s (cD (bB N) (aE H (bB hl.symm))) (aN (bB N) hd) hb (λp D=>(hq p D).1) (by lia);obtain⟨o,e2,X,v2⟩:=B1 (c:=c) (k:=vc h a) n (hb _ (by unfold vc;rw[af,ag (show a<h.length by lia)];exact aV _)) g1 (by lia) (aN hE (dM _ _))
   have st:yj c (R f (some (.p (.int (a:Int)))) (some (.p (tI h))))=.nx (R (f.set a o) (some (.p (.int (a:Int)))) (some (.p (tI h)))):=by
    refine zy (us:=f.map fr) rfl (jv (x:=fr r) (y:=fr (vc h a,1)) (jv rfl rfl e1) (oy (iP rfl rfl (lX h a (by lia))) rfl) e2) rfl (j:=(a:Int)) (m:=a) rfl ?_ ?_
    .rw[aw];exact zJ _ _ (aE Y (bB E.symm))
    .simp[R,fC]
   have Xa:Xs f a=0:=by have Q:=P a λp b=>(l p b).1;have B:=h0 _ u;simp only at B;unfold Xs;rw[Q,B,W5]
   have ev:∀r:Vc,j6 d (Xs (f.set a o)) r=j6 d (Xs f) r+(r a:Rat)*qv o:=λr=>by rw[M9 f a o (aE Y (bB E.symm)),Hg Y,Xa];grind
   have J:=ki _ i (a,h) U;refine⟨_,_,rfl,.inl st,f.set a o,_,_,rfl,by rw[b8,E],λp b=>?_,?_,?_,?_,?_⟩
   .rcases gz b with q|q
    .exact k2 p q
    .rw[q];have w2:wt o<=M+pN s+20:=X.wt (aK _) (by lia) (bW _);exact⟨X.fq,X.b2.mono (by lia),(LA o.1).mono (aN (d6 _ _) (aN w2 (by lia)))⟩
   .have w1:=HY f a o;have w2:wt o<=M+pN s+20:=X.wt (aK _) (by lia) (bW _);rw[Nat.add_mul];lia
   .intro p b;rw[J]at b;rw[ev];rcases ai.mp b with q|q
    .rw[K p q,(l p q).2.2];simp;grind
    .have:p=(a,h):=by simpa using q
     subst this;simp only;rw[w (vc h) λp b=>(l p b).2.1,v2,v1];have dq:=Ax d s h N (aN (bg H) (bB hl.symm));rw[dq,N];unfold j6;have ne:(vc h a:Rat)≠0:=by intro z;exact n (by exact_mod_cast z)
     generalize n6 d (λp=>(vc h p:Rat)*Xs s p)=A;generalize (vc h a:Rat)=v at *;grind
   .intro r hr;rw[ev,hr (a,h) (by rw[J];simp),w r λp b=>hr p (by rw[J];simp[b])];simp;grind
   .intro q F;have qa:=F (a,h) (by rw[J];simp);rw[af,aq qa,<-af];exact P q λp b=>F p (by rw[J];simp[b]))
 rw[aG,eZ]at K w;rw[aG]at Z;exact⟨f,jh rfl (iR (pH (ts:=s.map fr) rfl rfl) (iR (ku rfl e) (i7 rfl))),E,k2,Z,K,w⟩
def yh row s (a:s.natAbs<=1) (b:row.length<=1000):oS c [tI row,.int s]=.ok (tI (row.map λx=>s*x)):=by
 have sz:1000<sizeLine:=by decide
 refine jh rfl (i7 (nV (j3 (j5 row T.int (λx=>T.int (s*x)) rfl (cD b sz) (λx d=>⟨_,rfl,rfl,iP rfl rfl (jx (xV (cD a (by decide))))⟩) (by rw[aI];rfl))) rfl))
def uo row s i:vc (row.map λx=>s*x) i=s*vc row i:=by unfold vc;rw[af,af,av];cases row[i]?<;>simp
def Rg(a:s.natAbs<=1)(h:Bn N x):Bn N (s*x):=by unfold Bn at *;rw[aY];refine cD ?_ h;exact aN (gS _ a) (by lia)
def HF(h:f ρ=.ok (tI ys)):kh (G9 p7 (iL f iQ)) ρ=.ok (tL ys):=by simp only[kh,G9,iL,iQ,h,M.bind_ok];rfl
def GZ d L (u:d<L) (z:L<=1000) (a:LL) (hr:∀r∈a,r.length=L) :
  (kD c [.lst (a.map tI),.int (d:Int)]=.ok .non/\∀r∈a,vc r d=0)\/
  ∃r∈a,vc r d≠0/\kD c [.lst (a.map tI),.int (d:Int)]=.ok (tL ((r.map λx=>lL (vc r d)*x).drop (d+1))):=by
 have main:=wy (m:=lq 2) (g:=qh c) tI
  (λk n=>∃(s:Option W),n=[some (.p (.lst (a.map tI))),some (.p (.int d)),s]/\∀r∈a.take k,vc r d=0)
  (λt=>∃r∈a,vc r d≠0/\t=tL ((r.map λx=>lL (vc r d)*x).drop (d+1))) a 0 _ ⟨none,rfl,λr h=>by simp at h⟩ (by
   rintro i r n w ⟨s,rfl,h⟩;rw[aG]at h ⊢;have l:=au w;have v:=hr r l;refine⟨_,rfl,?_⟩;have b:jA (tI r) (.int d)=.ok (.int (vc r d)):=lX r d (aE u (bB v.symm));by_cases f:vc r d=0
   .left;refine⟨_,jw (i6 (iP (iP rfl rfl b) rfl (by rw[md,f];rfl))) rfl,_,rfl,λy j=>?_⟩;rw[ki _ i r w]at j;rcases ai.mp j with q|q
    .exact h y q
    .rw[aj.mp q];exact f
   .right;have o:(lL (vc r d)).natAbs<=1:=by unfold lL;split<;>(try split)<;>simp
    exact⟨_,jR (i6 (iP (iP rfl rfl b) rfl (by rw[md];simp[f]))) (i7 (HF (vJ _ d (jv rfl (nU (iP rfl rfl b) (pE _)) (yh r _ o (aN (bB v) z))) rfl))),r,l,f,rfl⟩)
 rcases main with⟨n,e,s,rfl,h⟩|⟨t,e,r,l,f,rfl⟩
 .left;rw[aG,eZ]at h;exact⟨jh rfl (iR (ku rfl e) (i7 rfl)),h⟩
 .right;exact⟨r,l,f,jh rfl (lE (ku rfl e) rfl)⟩
def He us:(us.zipIdx.map λp=>p.1++(List.replicate us.length (0:Int)).set p.2 1)=(List.range us.length).map (wr us):=by
 apply gN
 .simp
 .intro i a b;simp only[aw,gU]at a;simp[wr,List.getElem_zipIdx,a]
def FQ{n:Nat}{g:LI}{k:Nat}{s:Int}:(k,s)∈(List.range n).zip g↔k<n/\g[k]? = some s:=by
 rw[c7];constructor
 .rintro⟨i,f⟩;rw[List.getElem?_zip_eq_some]at f;obtain⟨d,e⟩:=f;simp only at d e;have:=aa.mp d;simp at this;obtain⟨a,b⟩:=this;subst b;exact⟨a,e⟩
 .rintro⟨d,e⟩;exact⟨k,List.getElem?_zip_eq_some.mpr ⟨by simp[d],e⟩⟩
structure Ux(n:Nat)(sg:LI):Prop where
 len:sg.length=n
 one:∀x∈sg,x.natAbs<=1
noncomputable def zer(n:Nat)(a:LI):List Nat:=(((List.range n).zip a).filter λp=>p.2==0).map Prod.fst
noncomputable def Ar(n:Nat)(a:LI):List (Nat×Int):=((List.range n).zip a).filter λp=>p.2 != 0
def sY{n:Nat}{d:LI}{k:Nat}:k∈zer n d↔k<n/\d[k]? = some 0:=by
 unfold zer;rw[aD];constructor
 .rintro⟨⟨f,s⟩,h,rfl⟩;obtain⟨b,a⟩:=aU.mp h;have:=FQ.mp b;have e:s=0:=by simpa using a
  subst e;exact this
 .rintro⟨b,a⟩;exact⟨(k,0),aU.mpr ⟨FQ.mpr ⟨b,a⟩,by simp⟩,rfl⟩
def sE{n:Nat}{a:LI}{k:Nat}{s:Int}:(k,s)∈Ar n a↔k<n/\a[k]? = some s/\s≠0:=by unfold Ar;rw[aU,FQ];simp[and_assoc]
theorem t7{e d:Type}:∀(a:List e) (b:List d),((a.zip b).map Prod.fst).Sublist a
 |[],_=>by simp
 |_::_,[]=>by simp
 |x::a,y::b=>by simp[t7 a b]
def T4{g v:Int}(a:0<g)(h:0<g*v):0<v:=aO λq=>by have:=eV (show v<=0 by lia) (aA a);rw[eW]at this;exact eU.mpr this h
def MP(n:Nat)(a:LI):((Ar n a).map Prod.fst).Nodup:=by have d:((Ar n a).map Prod.fst).Sublist (((List.range n).zip a).map Prod.fst):=(gW).map _;have b:(((List.range n).zip a).map Prod.fst).Sublist (List.range n):=t7 _ _;exact (fM).sublist (d.trans b)
def JQ(h:∀i,i<=d->x i=y i):j6 d X x=j6 d X y:=by unfold j6;rw[ko d _ (λp=>(y p)*X p) λp a=>by rw[h p (bg a)],h d (aK _)]
def Qs.evl0(h:∀x,P x->j6 d X x=0)(q:Qs P z):j6 d X z=0:=by
 induction q with
 |of p=>exact h _ p
 |zero=>rw[pU λ_ _=>rfl];simp
 |lin hx hy hs e i1 i2=>
  rename_i x y z s a b;have:=rq (d:=d) (X:=X) x y z s a b e;rw[i1,i2]at this;have f:(s:Rat)≠0:=by intro z;exact hs (by exact_mod_cast z)
  grind
structure Wc(us:LL)(d N:Nat)(pv:List (Nat×LI))(ix:List Nat)(k:Nat)(s:Int)(r:LI):Prop where
 len:r.length=d+1+us.length
 own:0<s*vc r (d+1+k)
 oth:∀i,i∉ix->i≠k->vc r (d+1+i)=0
 lin:pJ us d (vc r)
 zer:∀p∈pv,vc r p.1=0
 ex:∃(g s':Int) (y:Vc),0<g/\0<s'/\Qs (Vv pv) y/\∀i,g*vc r i=s'*(s*vc (wr us k) i)+1*y i
 bn:∀x∈r,Bn N x
def LG{pv:List (Nat×LI)}(hd:d<=4)(hn:us.length<=8)(w:∀u∈us,u.length=d+1)(R:∀u∈us,∀x∈u,Bn B x)(L:Wr m B)(K:pv.length<=m)(h:PV us d B zs pv rs ix)(o:k<us.length)(J:k∉zs)(hs:s.natAbs<=1)(h0:s≠0) :
  ∃r,nA c [tI ((wr us k).map λx=>s*x),.lst (pv.map ou)]=.ok (tI r)/\Wc us d (B+pv.length*(Pq B pv.length+1)) pv ix k s r:=by
 have P:=F8 us d k o w;have kx:k∉ix:=λz=>J (h.sub k z);have F:=L.le pv.length K;obtain⟨r,e,l,b,⟨g,v,y,A,n,E,S⟩,z⟩:=Eu (Vv pv) (d+1+us.length) (Pq B pv.length) B (by lia) pv ((wr us k).map λx=>s*x) F (by rw[aw,P]) (λx X=>by
  obtain⟨U,C,rfl⟩:=aD.mp X;exact Rg hs (Rf L.b1 us k o R U C)) (λp j=>by
  obtain⟨q1,I,Z,Q,-⟩:=h.pl p j;exact⟨by lia,I,Z,Q,⟨p,j,rfl⟩⟩) (h.pw.imp λq=>q.2.1)
 have f:∀i,g*vc r i=v*(s*vc (wr us k) i)+1*y i:=λi=>by rw[S i,uo]
 have N:∀i,i∉ix->y (d+1+i)=0:=λi D=>Qs.at0 (λx ⟨p,j,ex⟩=>by rw[ex];exact (h.pl p j).2.2.2.2.2 i D) E;refine⟨r,e,l,?_,λi D H=>?_,?_,z,⟨g,v,y,A,n,E,f⟩,b⟩
 .have q:=f (d+1+k);rw[N k kx,EZ us d k o w,aR (cv (cJ _ _)),aQ (by lia)]at q;have ss:s*s=1:=by
   have:s=1\/s = -1:=by lia
   rcases this with e|e<;>rw[e]<;>decide
  have I:g*(s*vc r (d+1+k))=v:=by
   have:g*(s*vc r (d+1+k))=s*(g*vc r (d+1+k)):=by grind
   rw[this,q];grind
  exact T4 A (I▸n)
 .have q:=f (d+1+i);rw[N i D,VG us d k o w i H]at q;exact xZ (g:=g) (dD A) (by rw[q];simp)
 .have Y:=pJ.qs (λx ⟨p,j,ex⟩=>by rw[ex];exact (h.pl p j).2.2.2.2.1) E;exact pJ.comb (g:=g) (a:=v*s) (b:=1) (dD A) (Lm us d k o w) Y λi=>by rw[f i];grind
structure Vk(us:LL)(d:Nat)(sg ws:LI):Prop where
 len:ws.length=us.length
 may:∀i s,sg[i]? = some s->0<=s*vc ws i
 zer:∀k,k<d->sm us.length (λi=>vc ws i*vc (us.getD i []) k)=0
 fin:0<sm us.length (λi=>vc ws i*vc (us.getD i []) d)\/(sm us.length (λi=>vc ws i*vc (us.getD i []) d)=0/\∃i s,sg[i]? = some s/\s*vc ws i≠0)
def HI r k i:vc (r.drop k) i=vc r (k+i):=by unfold vc;rw[af,af,List.getElem?_drop]
theorem HR:∀m g t,(∀j,j<m->pJ us d (g j))->pJ us d (Lt m g t)
 |0,g,t,_=>by have:Lt 0 g t=λ_=>0:=rfl;rw[this];exact pJ.zero
 |m+1,g,t,h=>by refine pJ.comb (g:=1) (a:=t 0) (b:=1) (by decide) (h 0 (bW _)) (HR m (λj=>g (j+1)) (λj=>t (j+1)) λj e=>h (j+1) (eD e)) λi=>?_;show 1*(t 0*g 0 i+sm m λj=>t (j+1)*g (j+1) i)=t 0*g 0 i+1*(sm m λj=>t (j+1)*g (j+1) i);lia
def OX m j0 (b:j0<m) f (h:∀j,j<m->j≠j0->f j=0):sm m f=f j0:=by
 rw[<-CY m j0 f b];refine lM m _ _ λj a=>?_;by_cases q:j=j0
 .rw[aQ q];lia
 .rw[aR q,h j a q];rfl
def SI{us:LL}{d N:Nat}{n:LI}{pv:List (Nat×LI)}{F:List Nat}(L:Ux us.length n)(J:∀i∈F,i∈zer us.length n){f:Nat×Int->LI}(I:∀p∈Ar us.length n,Wc us d N pv F p.1 p.2 (f p)){r:LI}(hl:r.length=d+1+us.length){t:Vc}(B:nc ((Ar us.length n).map f).length [] t){s:Int}(S:0<s)(e:∀q,s*vc r q=Lt ((Ar us.length n).map f).length (λj=>vc (((Ar us.length n).map f).getD j [])) t q)
  (Z:∀k,k<d->vc r k=0) (Y:0<=vc r d):Vk us d n (r.drop (d+1)):=by
 generalize v:(Ar us.length n).map f=sd at *;have D:∀j,j<sd.length->∃p,(Ar us.length n)[j]? = some p/\sd.getD j []=f p:=λj l=>by subst v;rw[aw]at l;refine⟨_,ag l,?_⟩;rw[af,av,ag l];rfl
 have lr:pJ us d (vc r):=by
  have:pJ us d (Lt sd.length (λj=>vc (sd.getD j [])) t):=HR _ _ _ λj l=>by obtain⟨p,o,w⟩:=D j l;rw[w];exact (I p (au o)).lin
  exact pJ.comb (g:=s) (a:=1) (b:=0) (dD S) this pJ.zero λi=>by rw[e i];lia
 have y:∀j k m,(Ar us.length n)[j]? = some (k,m)->j<sd.length/\s*(m*vc r (d+1+k))=t j*(m*vc (sd.getD j []) (d+1+k))/\0<m*vc (sd.getD j []) (d+1+k):=λj k m h=>by
  have A:=au h;have l:j<sd.length:=by rw[<-v,aw];exact (aa.mp h).1
  have ej:sd.getD j []=f (k,m):=by obtain⟨p,o,w⟩:=D j l;rw[o]at h;cases h;exact w
  obtain⟨k1,u,x⟩:=sE.mp A;have kx:k∉F:=λz=>by have:=(sY.mp (J k z)).2;rw[u]at this;exact x (Option.some.inj this)
  refine⟨l,?_,by rw[ej];exact (I _ A).own⟩;have q:=e (d+1+k);have:Lt sd.length (λj=>vc (sd.getD j [])) t (d+1+k)=t j*vc (sd.getD j []) (d+1+k):=OX sd.length j l _ λE H K=>by
   obtain⟨p,o,w⟩:=D E H;have:p.1≠k:=λz=>by
    have nd:=MP us.length n;refine K (EN nd (a:=k) ?_ ?_)
    .rw[av,o];simp[z]
    .rw[av,h];rfl
   show t E*vc (sd.getD E []) (d+1+k)=0;rw[w,(I p (au o)).oth k kx (λz=>this z.symm)];simp
  rw[this]at q;grind
 have P:∀i,vc (r.drop (d+1)) i=vc r (d+1+i):=λi=>HI r (d+1) i;have Q:∀k,k<=d->sm us.length (λi=>vc (r.drop (d+1)) i*vc (us.getD i []) k)=vc r k:=λk C=>by rw[lr k C];exact lM _ _ _ λi _=>by rw[P]
 refine⟨by rw[bY];simp[hl],λi m R=>?_,λk C=>by rw[Q k (bg C),Z k C],?_⟩
 .rw[P];by_cases z:m=0
  .rw[z];simp
  .have U:i<us.length:=by rw[<-L.len];exact (aa.mp R).1
   have A:=sE.mpr ⟨U,R,z⟩;obtain⟨j,l⟩:=c7.mp A;obtain⟨-,u,x⟩:=y j i m l;have:=aP (B.nn j) (aA x);rw[<-u]at this;exact aO λq=>by have:=fP S (show m*vc r (d+1+i)<0 by lia);lia
 .rw[Q d (aK _)];rcases Int.lt_or_eq_of_le Y with q|q
  .exact .inl q
  .right;refine⟨q.symm,?_⟩;obtain⟨j,l⟩:=B.ne;have X:j<sd.length:=by
    rcases fG j sd.length with h|h
    .exact h
    .exact absurd (B.out j h) l
   obtain⟨⟨k,m⟩,o,-⟩:=D j X;obtain⟨-,u,x⟩:=y j k m o;have kk:=sE.mp (au o);refine⟨k,m,kk.2.1,λz=>?_⟩;rw[P]at z;rw[z,eW]at u;have:=aX (show 0<t j by have:=B.nn j;lia) x;exact Int.lt_irrefl _ (dR this (fN u.symm))
def Mf{us:LL}{d B:Nat}{b:LI}{pv:List (Nat×LI)}{g:LL}{m:List Nat}(p:Ux us.length b)(h:PV us d B (zer us.length b) pv g m){r:LI}(hr:r∈g)(u:vc r d≠0):Vk us d b ((r.map λx=>lL (vc r d)*x).drop (d+1)):=by
 obtain⟨l,z,e,w,-⟩:=h.rr r hr;have j:∀i,vc ((r.map λx=>lL (vc r d)*x).drop (d+1)) i=lL (vc r d)*vc r (d+1+i):=λi=>by rw[HI,uo]
 have f:∀k,k<=d->sm us.length (λi=>vc ((r.map λx=>lL (vc r d)*x).drop (d+1)) i*vc (us.getD i []) k)=lL (vc r d)*vc r k:=λk a=>by rw[e k a,<-nE];exact lM _ _ _ λi _=>by rw[j];grind
 refine⟨by rw[bY,aw];simp[l],λi n s=>?_,λk a=>by rw[f k (bg a),z k a];simp,.inl ?_⟩
 .by_cases q:n=0
  .rw[q];simp
  .rw[j,w i λo=>?_]
   .simp
   .have:=(sY.mp o).2;rw[s]at this;exact q (Option.some.inj this)
 .rw[f d (aK _)];unfold lL;split
  .simp[‹_›]
  .split
   .simp[‹_›]
   .lia
structure Yu(us:LL)(d Wb V:Nat)(sg:LI)(s:List (Int×Int)):Prop where
 len:s.length=d
 fq:∀p∈s,Fq p/\BV V p
 pN:pN s<=Wb
 side:∀(i:Nat) (v:Int),sg[i]? = some v->(v=0->j6 d (Xs s) (vc (us.getD i []))=0)/\(v≠0->0<(v:Rat)*j6 d (Xs s) (vc (us.getD i [])))
noncomputable def Ns(B k:Nat):Nat:=B+k*(Pq B k+1)
structure Bg(d B Wb V:Nat)(e:Nat:=d):Prop where
 sml:Wr e B
 v1:1<=V
 vs:∀k m,k+m<=d->k<=e->(∀i,i<m->Nb (Ns B k) (m-1-i)+Sb (Ns B k) d m i+21<=V)/\(k≠0->Pq B k+Sb (Ns B k) d m m+2<=V)
 ok:∀k m,k+m<=d->k<=e->Nb (Ns B k) m<=900000/\(∀i,i<m->Nb (Ns B k) (m-1-i)+Sb (Ns B k) d m i+20<=390000)/\(k≠0->Pq B k+Sb (Ns B k) d m m+21<=400000)/\Sb (Ns B k) d m m+k*(Pq B k+Sb (Ns B k) d m m+21)<=Wb
def qF{pv:List (Nat×LI)}:k∈rA pv d↔k<d/\∀p∈pv,p.1≠k:=by
 unfold rA;rw[aU,aS];simp;intro _;constructor
 .intro h a b e z;subst z;exact h b e
 .intro h x e;exact h k x e rfl
def EV pv d:(rA pv d).Nodup:=(fM).sublist gW
def Jy{pv:List (Nat×LI)}(h:PV us d B dn pv rs ix):pv.length+(rA pv d).length<=d:=by
 have nd:(pv.map Prod.fst++rA pv d).Nodup:=by rw[List.nodup_append];refine⟨gA.mpr (h.pw.imp λq=>q.1),EV pv d,λa g b f z=>?_⟩;obtain⟨p,e,rfl⟩:=aD.mp g;exact (qF.mp f).2 p e z
 have:=yT nd λx i=>by
  rcases ai.mp i with q|q
  .obtain⟨p,e,rfl⟩:=aD.mp q;exact aS.mpr (h.pl p e).1
  .exact aS.mpr (qF.mp q).1
 simpa using this
def VP(n:Nat)(a:n<=1000)(h:f ρ=.ok (.int (n:Int))):kh (Dp (kh j1) f) ρ=.ok (.lst ((List.replicate n ((0,1):Int×Int)).map fr)):=by
 have sz:1000<sizeLine:=by decide
 have hr:DH n=true:=nB (aN a (dM _ _));have g:2<=sizeLine:=by decide
 have b:n<=sizeLine:=by exact aN a (dM _ _)
 have e:(List.replicate n [T.tup [T.int 0,T.int 1]]).flatten=(List.replicate n ((0,1):Int×Int)).map fr:=by
  clear h hr b a;induction n with
  |zero=>rfl
  |succ n ih=>rw[cj,cm,ih,cj];rfl
 have d:kh j1 ρ=.ok (.lst [T.tup [T.int 0,T.int 1]]):=Tx (oy rfl rfl);refine j3 ?_;unfold Dp;rw[d,h];simp[hr,b];exact .inr rfl
def Oh.g0(h:Oh d n ss ix sd):∀r∈sd,r.length=d+1+n/\∃t,nc sd.length [] t/\∃s:Int,0<s/\∀q,s*vc r q=Lt sd.length (λj=>vc (sd.getD j [])) t q:=λr hr=>by
 obtain⟨j,a⟩:=c7.mp hr;have b:=(aa.mp a).1;have e:sd.getD j []=r:=by rw[af,a];rfl
 refine⟨h.l r hr,tz j,⟨λi=>by unfold tz;split<;>exact bE _,λi f=>by unfold tz;rw[aR (bC (aE b f))],⟨j,by simp[tz]⟩,λA g=>(nomatch g)⟩,1,by decide,λq=>?_⟩;rw[zf sd.length _ j b q,e,eY]
def Oh.gen0(_:Oh d n ss ix sd):∀u,nc sd.length [] u->Cn (Th sd [] sd) u:=λu f=>(BS sd.length (cs sd.length u) u (aK _) f).mono λx ⟨i,hi,ex⟩=>by
 subst ex;have a:sd.getD i []∈sd:=by rw[af,ag hi];exact aV hi
 refine⟨⟨λk=>by unfold tz;split<;>exact bE _,λk e=>by unfold tz;rw[aR (bC (aE hi e))],⟨i,by simp[tz]⟩,λA b=>(nomatch b)⟩,sd.getD i [],a,1,by decide,λq=>?_⟩;rw[zf sd.length _ i hi q,eY]
def Ts{us:LL}{d N:Nat}{e:LI}{pv:List (Nat×LI)}{o:List Nat}{f:Nat×Int->LI}(m:∀p∈Ar us.length e,Wc us d N pv o p.1 p.2 (f p)):Oh d us.length ((Ar us.length e).map Prod.fst) o ((Ar us.length e).map f):=by
 have q:∀j,j<((Ar us.length e).map f).length->∃p,p∈Ar us.length e/\((Ar us.length e).map f).getD j []=f p/\((Ar us.length e).map Prod.fst).getD j 0=p.1:=λj a=>by
  rw[aw]at a;refine⟨_,aV a,?_,?_⟩
  .rw[af,av,ag a];rfl
  .rw[af,av,ag a];rfl
 refine⟨by simp,MP _ _,λi n=>?_,λr hr=>?_,λj a=>?_,λj a i n g=>?_⟩
 .obtain⟨⟨k,s⟩,b,rfl⟩:=aD.mp n;exact (sE.mp b).1
 .obtain⟨p,b,rfl⟩:=aD.mp hr;exact (m p b).len
 .obtain⟨p,b,h,l⟩:=q j a;rw[h,l];intro z;have:=(m p b).own;rw[z]at this;simp at this
 .obtain⟨p,b,h,l⟩:=q j a;rw[l]at g;rw[h];exact (m p b).oth i n g
def uQ(us:LL)(d B Wb V:Nat){e0:Nat}(hd:d<=4)(hn:us.length<=8)(hl:∀u∈us,u.length=d+1)(hb:∀u∈us,∀x∈u,Bn B x)(hB:Bg d B Wb V e0)(w:LI)(L:Ux us.length w)(F:∀n,n<=d->n<=(zer us.length w).length->n<=e0:=by exact λ_ h _=>h) :
  (∃ws,lg c [.lst (us.map tI),.int (d:Int),tI w]=.ok (.tup [.str "paper",tL ws])/\Vk us d w ws/\∀x∈ws,Bn 900000 x)\/∃s,lg c [.lst (us.map tI),.int (d:Int),tI w]=.ok (.tup [.str "spot",tS s])/\Yu us d Wb V w s:=by
 have sz:1000<sizeLine:=by decide
 obtain⟨pv,rs,ix,e4,I,hrs,hpz⟩:=AM (c:=c) us d B hd hn hl hb hB.sml (zer us.length w) (λz hz=>(sY.mp hz).1) (by
  have:=yT (m:=List.range us.length) (l:=zer us.length w) (by have h1:(zer us.length w).Sublist (((List.range us.length).zip w).map Prod.fst):=(gW).map _;exact (fM).sublist (h1.trans (t7 _ _))) λx U=>aS.mpr (sY.mp U).1
  rw[gX]at this;exact aN this hn) F
 have hpe:=F _ I.short hpz;have ew:=yy (c:=c) us hn (λr hr=>by have:=hl r hr;lia);rw[He]at ew;let vs:T:=.lst (((List.range us.length).map (wr us)).map tI);let R (x4 x5 x6 x7 x8 x9 D:Option W):En:=[some (.p (.lst (us.map tI))),some (.p (.int (d:Int))),some (.p (tI w)),some (.p vs),x4,x5,x6,x7,x8,x9,D];have zo:∀x4 x5 x6 x7 x8 x9 D,nF (iL bu be) (qH (R x4 x5 x6 x7 x8 x9 D))=.ok (((List.range us.length).zip w).map λp=>T.tup [tI (wr us p.1),.int p.2]):=λx4 x5 x6 x7 x8 x9 D=>nG (x:=vs) (y:=tI w) (l:=List.range us.length) (m:=w) (f:=λk=>tI (wr us k)) (g:=T.int) rfl (by show M.ok _=_;rw[aI];rfl) rfl rfl
 have zl:((List.range us.length).zip w).length<sizeLine:=by rw[eR,gX];lia
 have lc1:lH [none,none] (nF (iL bu be)) ah (jE gi) (qf c) (qH (R none none none none none none none))=.ok (((zer us.length w).map (wr us)).map tI):=sZ _ _ (λp=>tI (wr us p.1)) (λp=>p.2==0) (zo _ _ _ _ _ _ _) zl (λp A=>⟨_,rfl,i6 (iP rfl rfl (jW _ _)),λ_=>rfl⟩) (by unfold zer;rw[aI,aI];rfl)
 let fo:T:=.tup [.lst (pv.map ou),.lst (rs.map tI)];have head:∀{o:O},(iZ (setO 5 (j9 (iV (iL (iU jA c5 ab) ap) (kD c)))) _) (R (some (.p fo)) none none none none none none)=o->nZ c (jG 11 [.lst (us.map tI),.int (d:Int),tI w])=o:=λ{o} h=>iR (ρ':=R none none none none none none none) (iY (j3 (vG rfl ew)) rfl) (iR (ρ':=R (some (.p fo)) none none none none none none) (iY (jv (j3 lc1) rfl e4) rfl) h)
 have hlr:∀r∈rs,r.length=d+1+us.length:=λr hr=>(I.rr r hr).1;rcases GZ (c:=c) d (d+1+us.length) (cJ _ _) (by lia) rs hlr with⟨e5,hz⟩|⟨r,hr,h0,e5⟩
 case inr=>
  left;refine⟨_,jh rfl (head (iR (ρ':=R (some (.p fo)) (some (.p (tL ((r.map λx=>lL (vc r d)*x).drop (d+1))))) none none none none none) (iY (jv (iP rfl rfl rfl) rfl e5) rfl) (lE (jR (i6 (iP rfl rfl rfl)) (i7 (oy rfl rfl))) rfl))),Mf L I hr h0,λx U=>?_⟩;obtain⟨y,hy,rfl⟩:=aD.mp (gY U);have b:=(I.rr r hr).2.2.2.2 y hy;have sg1:(lL (vc r d)).natAbs<=1:=by unfold lL;split<;>(try split)<;>simp
  exact (Rg sg1 b).mono (by decide)
 obtain⟨f,hf⟩:=mJ (P:=λ(p:Nat×Int) r=>nA c [tI ((wr us p.1).map λx=>p.2*x),.lst (pv.map ou)]=.ok (tI r)/\Wc us d (Ns B pv.length) pv ix p.1 p.2 r) (Ar us.length w) λp A=>by obtain⟨k,s⟩:=p;obtain⟨k1,k2,k3⟩:=sE.mp A;exact LG hd hn hl hb hB.sml hpe I k1 (λz=>by have:=(sY.mp z).2;rw[k2]at this;exact k3 (Option.some.inj this)) (L.one s (au k2)) k3
 have H:=λp A=>(hf p A).2;generalize E:(Ar us.length w).map f=sd;have hS:=Ts H;rw[E]at hS;have sdl:sd.length<=8:=by rw[<-E,aw];have:(Ar us.length w).length<=((List.range us.length).zip w).length:=gF _ _;rw[eR,gX]at this;exact aN this (aN (gG _ _) hn)
 have sdr:∀r∈sd,r.length=d+1+us.length/\∀x∈r,Bn (Ns B pv.length) x:=λr hr=>by rw[<-E]at hr;obtain⟨p,A,rfl⟩:=aD.mp hr;exact⟨(H p A).len,(H p A).bn⟩
 let Q:Option W:=some (.p fo);let J:Option W:=some (.p .non);let xp:Option W:=some (.p (.lst (pv.map ou)));have lc2:lH [none,none,some 6] (nF (iL bu be)) ah (jE ei) (qi c) (qH (R Q J xp none none none none))=.ok (sd.map tI):=sZ _ _ (λp=>tI (f p)) (λp=>p.2 != 0) (zo _ _ _ _ _ _ _) zl (λp A=>⟨_,rfl,i6 (iP rfl rfl (md _ _)),λC=>by have F:p∈Ar us.length w:=aU.mpr ⟨A,C⟩;have km:=sE.mp (show (p.1,p.2)∈_ from F);refine jv (x:=tI ((wr us p.1).map λx=>p.2*x)) (y:=.lst (pv.map ou)) (jv rfl rfl (yh _ _ (L.one _ (au km.2.1)) ?_)) rfl (hf p F).1;rw[F8 us d p.1 km.1 hl];lia⟩) (by rw[<-E,aI];rfl)
 have fl:=Jy I;obtain⟨ok1,ok2,ok3,ok4⟩:=hB.ok pv.length (rA pv d).length fl hpe;have e8:=AH (c:=c) pv d (aN hd (by decide)) (by lia);obtain⟨ls,e9,hy,hbl⟩:=Gx (c:=c) d (d+1+us.length) (Ns B pv.length) (by lia) (cJ _ _) sd sdl sdr pv (by lia) (rA pv d) (by lia) (λa ha=>by have:=(qF.mp ha).1;lia) ok1;rw[I.len]at hy;let Z:Nat->Prop:=λp=>∃q∈pv,q.1=p;have hZ:∀r∈sd,∀p,Z p->vc r p=0:=λr hr p ⟨q,hq,e⟩=>by rw[<-E]at hr;obtain⟨p',hp',rfl⟩:=aD.mp hr;rw[<-e];exact (H p' hp').zer q hq
 have tQ:∀p,p<d->Z p\/p∈rA pv d:=λp A=>by
  by_cases q:Z p
  .exact .inl q
  .exact .inr (qF.mpr ⟨A,λp' hp' e=>q ⟨p',hp',e⟩⟩)
 obtain⟨-,Gl,la1,N,la3,la4⟩:=KU (sb:=true) hS hy [] rfl hS.g0 hS.gen0 Z hZ;let xs:Option W:=some (.p (.lst (sd.map tI)));let xq:Option W:=some (.p (.lst ((rA pv d).map λ(j:Nat)=>T.int (j:Int))));let xl:Option W:=some (.p (.lst (ls.map λg=>T.lst (g.map tI))));have tail:∀{o:O},(iZ (nH (jP (iU jA (iM 9) (pW (λi=>.int (-i)) ab))) (lq 10) (nJ c)) _) (R Q J xp xs xq xl none)=o->nZ c (jG 11 [.lst (us.map tI),.int (d:Int),tI w])=o:=λ{o} h=>head (iR (ρ':=R Q J none none none none none) (iY (jv (iP rfl rfl rfl) rfl e5) rfl) (iR (ρ':=R Q J none none none none none) (jw (i6 (iP rfl rfl rfl)) rfl) (iR (ρ':=R Q J xp none none none none) (iY (iP rfl rfl rfl) rfl) (iR (ρ':=R Q J xp xs none none none) (iY (j3 lc2) rfl) (iR (ρ':=R Q J xp xs xq none none) (iY (j3 (F7 rfl rfl e8)) rfl) (iR (ρ':=R Q J xp xs xq xl none) (iY (j3 (Nv rfl rfl rfl rfl e9)) rfl) h))))))
 have K:jP (iU jA (iM 9) (pW (λi=>.int (-i)) ab)) (qH (R Q J xp xs xq xl none))=.ok (Gl.map tI):=by
  have e1:ls.map (λg=>T.lst (g.map tI))=(ls.dropLast.map λg=>T.lst (g.map tI))++[T.lst (Gl.map tI)]:=by
   have C:ls≠[]:=λz=>by rw[z]at N;cases N
   have h1:=eG C;have h2:ls.getLast C=Gl:=by rw[List.getLast?_eq_getLast C]at N;exact Option.some.inj N
   rw[h2]at h1;conv=>lhs;rw[<-h1]
   rw[aZ];rfl
  have e2:iU jA (iM 9) (pW (λi=>.int (-i)) ab) (qH (R Q J xp xs xq xl none))=.ok (T.lst (Gl.map tI)):=iP (x:=.lst (ls.map λg=>T.lst (g.map tI))) (y:=.int (-1)) rfl rfl (by rw[e1];exact Ir _ _);unfold jP;rw[e2];rfl
 have gll:∀r∈Gl,r.length=d+1+us.length:=λr hr=>(la4 r hr).1;have main:=wy (m:=lq 10) (g:=nJ c) tI
  (λk ρ=>∃(D:Option W),ρ=R Q J xp xs xq xl D/\∀r∈Gl.take k,vc r d<0)
  (λt=>∃r∈Gl,0<=vc r d/\t=.tup [.str "paper",tL (r.drop (d+1))]) Gl 0 _ ⟨none,rfl,λr h=>by simp at h⟩ (by
   rintro i r ρ hi ⟨D,rfl,h⟩;rw[aG]at h ⊢;have F:=au hi;have Y:jA (tI r) (.int (d:Int))=.ok (.int (vc r d)):=lX r d (by have:=gll r F;lia);refine⟨_,rfl,?_⟩;by_cases h0:0<=vc r d
   .right;exact⟨_,jR (i6 (iP (iP rfl rfl Y) rfl (by rw[wg];simp[h0]))) (i7 (oy rfl (HF (vJ _ d rfl rfl)))),r,F,h0,rfl⟩
   .left;refine⟨_,jw (i6 (iP (iP rfl rfl Y) rfl (by rw[wg];simp[h0]))) rfl,_,rfl,λr' hr'=>?_⟩;rw[ki _ i r hi]at hr';rcases ai.mp hr' with q|q
    .exact h r' q
    .rw[aj.mp q];exact b7.mp h0)
 rcases main with⟨ρ,e,D,rfl,h⟩|⟨t,e,r,F,h0,rfl⟩
 .right;rw[aG,eZ]at h;have n1:1<=Ns B pv.length:=aN hB.sml.b1 (cJ _ _);obtain⟨s,p1,p2,p3,p4,p5,p6⟩:=yO (c:=c) hS (Ns B pv.length) n1 (aN hd (dM _ _)) hy (by lia) (λa ha=>(qF.mp ha).1) (EV pv d) hbl Z hZ tQ (λG hG r hr=>by rw[N]at hG;cases hG;exact h r hr) ok2 V hB.v1 (hB.vs pv.length (rA pv d).length fl hpe).1;obtain⟨s',q1,q2,q3,q4,q5,q6⟩:=ID (c:=c) d (Pq B pv.length+1) (d+1+us.length) (by lia) (by lia) (bW _) pv s p2 V p3 (λp A=>by
   obtain⟨h1,h2,h3,h4,-⟩:=I.pl p A;exact⟨h1,h2,h3,λx U=>(h4 x U).mono (bL _)⟩) I.pw (λp A=>p5 p.1 (I.pl p A).1 λz=>(qF.mp z).2 p A rfl) (λC=>by
   have:pv.length≠0:=λz=>C (gP.mp z);have:=ok3 this;lia) (λC=>by
   have:pv.length≠0:=λz=>C (gP.mp z);have:=(hB.vs pv.length (rA pv d).length fl hpe).2 this;lia)
  refine⟨s',jh rfl (tail (iR (ku K e) (i7 (oy rfl (jv (x:=.lst (pv.map ou)) rfl (j3 (Gh rfl rfl (VP d (aN hd (by decide)) rfl) p1)) q1))))),q2,q3,?_,λi v hi=>?_⟩
  .have m1:pv.length*(Pq B pv.length+1+pN s+20)<=pv.length*(Pq B pv.length+Sb (Ns B pv.length) d (rA pv d).length (rA pv d).length+21):=gx _ (by lia);exact aN q4 (aN (Nat.add_le_add p4 m1) ok4)
  .have il:i<us.length:=by rw[<-L.len];exact (aa.mp hi).1
   have ew':j6 d (Xs s') (vc (wr us i))=j6 d (Xs s') (vc (us.getD i [])):=JQ λk hk=>by rw[EZ us d i il hl,aQ (by lia)]
   rw[<-ew'];refine⟨λhv=>?_,λhv=>?_⟩
   .subst hv;refine Qs.evl0 (λx U=>?_) (I.sp i (sY.mpr ⟨il,hi⟩));rcases U with⟨p,A,rfl⟩|⟨r,hr,rfl⟩
    .exact q5 p A
    .rw[pU (I.rr r hr).2.1,hz r hr];simp
   .have F:(i,v)∈Ar us.length w:=sE.mpr ⟨il,hi,hv⟩;have S:=H _ F;obtain⟨g,s2,y,hg,hs2,hy',ey⟩:=S.ex;have y0:j6 d (Xs s') y=0:=Qs.evl0 (λx ⟨p,A,ex⟩=>by rw[ex];exact q5 p A) hy';have rp:0<j6 d (Xs s') (vc (f (i,v))):=by rw[q6 _ λp A=>S.zer p A];exact p6 _ (by rw[<-E];exact aD.mpr ⟨_,F,rfl⟩)
    have l:=rq (d:=d) (X:=Xs s') (vc (wr us i)) y (vc (f (i,v))) g (s2*v) 1 (λj=>by rw[ey j];grind);rw[y0]at l;have a1:=fU (mU hg) rp;rw[l]at a1;have c1:((s2*v:Int):Rat)=(s2:Rat)*(v:Rat):=by simp
    rw[c1]at a1;have a2:=mU hs2;refine gM (c:=(s2:Rat)) ?_ (fV a2);grind
 .left;obtain⟨l4,t,ct,s,hs,e3⟩:=la4 r F;have Y:∀i∈ix,i∈zer us.length w:=I.sub;subst E;refine⟨_,jh rfl (tail (lE (ku K e) rfl)),SI L Y H l4 ct hs e3 (λk hk=>la3 r F k (tQ k hk)) h0,λx U=>?_⟩;exact ((hbl _ Gl la1 r F).2 x (gY U)).mono ok1
structure Rs(d:Nat)(s:List (Int×Int))(u:LI):Prop where
 len:u.length=d+1
 bn:∀x∈u,Bn 3351 x
 pos:0<vc u d
 eq:∀k,k<d->vc u k*(qo k s).2=vc u d*(qo k s).1
def NK{S b:Int}(h:b ∣ S)(a:b≠0):S.fdiv b*b=S:=by obtain⟨k,rfl⟩:=h;rw[dC k a,dB]
def Td{b:Type}(l:List b) f k a (h:l[k]? = some a):vc (l.map f) k=f a:=by unfold vc;rw[af,av,h];rfl
def yo V (R:5*V+1<=900000) s (I:s.length<=4) (n:∀p∈s,0<p.2/\Bn V p.1/\Bn V p.2):∃u g S,lA c [tS s]=.ok (tI u)/\u.length=s.length/\(∀x∈u,Bn (5*V+1) x)/\0<g/\0<S/\∀k p,s[k]? = some p->g*vc u k*p.2=S*p.1:=by
 have sz:1000<sizeLine:=by decide
 obtain⟨A,e,S,r,rfl,y,j,l⟩:=kj (m:=lq 2) (g:=wX c) fr
  (λk A=>∃(S:Int) (r:Option W),A=[some (.p (tS s)),some (.p (.int S)),r]/\0<S/\S.natAbs<=2 ^ (V*k)/\∀p∈s.take k,p.2 ∣ S)
  s 0 _ ⟨1,none,rfl,by decide,by simp,λp d=>by simp at d⟩ (by
   rintro i ⟨a,b⟩ A C ⟨S,r,rfl,y,j,l⟩;rw[aG]at j l ⊢;obtain⟨f,-,o⟩:=n _ (au C);have L:=(aa.mp C).1;dsimp only at f o;have w:Bn (4*V+1) S:=by unfold Bn;have:V*i<=V*4:=gx _ (aN (bg L) I);exact cD j (gZ (by decide) (by lia))
   obtain⟨X,q2,Y,P⟩:=N6 S b y f;refine⟨_,_,rfl,.inl (iY (t:=.int ((S*b).fdiv (Cu.G S b))) (iP (iP rfl (iP rfl rfl (FY a b)) (jx (w.ok o (by lia) (by lia)))) (jv rfl (iP rfl rfl (FY a b)) (lQ S b)) (mY (dD (Cu.zv S b (dD f))))) rfl),_,_,rfl,X,?_,λp d=>?_⟩
   .refine aN P ?_;rw[aY,Nat.mul_add,dZ,Nat.mul_one];exact gJ j (bg o)
   .rw[ki _ i _ C]at d;rcases ai.mp d with q|q
    .exact eX (l p q) q2
    .rw[aj.mp q];exact Y)
 rw[aG,eZ]at l;rw[aG]at j;have w:Bn (4*V+1) S:=by unfold Bn;have:V*s.length<=V*4:=gx _ I;exact cD j (gZ (by decide) (by lia))
 let h:LI:=s.map λ(p:Int×Int)=>p.1*S.fdiv p.2;have K:∀p∈s,Bn (4*V+1) (S.fdiv p.2):=λp d=>cD (tE (l p d) (dD (n p d).1)) w;have B:∀x∈h,Bn (5*V+1) x:=λx U=>by obtain⟨p,d,rfl⟩:=aD.mp U;exact ((n p d).2.1.mul (K p d)).mono (by lia)
 have v:h.length=s.length:=by simp[h]
 obtain⟨g,u,z,Z,D,E,F⟩:=uL (c:=c) (5*V+1) R h (by lia) B;have Q:lH [none,some 1] ek b0 (λ_=>.ok true) (wJ c) (vw [some (.p (tS s)),some (.p (.int S)),r])=.ok (h.map T.int):=j5 s fr (λp=>T.int (p.1*S.fdiv p.2)) rfl (by lia) (λp d=>⟨_,rfl,rfl,by obtain⟨a,b⟩:=p;obtain⟨f,ha,o⟩:=n _ d;exact iP (iP rfl rfl (PH a b)) (iP rfl (iP rfl rfl (FY a b)) (mY (dD f))) (jx (ha.ok (K _ d) (by lia) (by lia)))⟩) (by rw[aI];rfl)
 refine⟨u,g,S,jh rfl (iR (iY (t:=.int 1) rfl rfl) (iR (ku rfl e) (i7 (nU (x:=tI h) (nV (t:=.lst (h.map T.int)) (j3 Q) rfl) Z)))),D.trans v,F,z,y,λk p J=>?_⟩;have H:=au J;have N:vc h k=p.1*S.fdiv p.2:=Td s (λ(p:Int×Int)=>p.1*S.fdiv p.2) k _ J;rw[<-E k,N,dA,NK (l _ H) (dD (n _ H).1),dB]
def we d s (o:d<=3) (h:A1 d s):∃u,lA c [.tup ((s++[(1,1)]).map fr)]=.ok (tI u)/\Rs d s u:=by
 have m:(s++[(1,1)]).length=d+1:=by simp[h.1]
 obtain⟨u,g,S,e,l,b,g0,r,q⟩:=yo (c:=c) 670 (by decide) (s++[(1,1)]) (by lia) λp i=>by
  rcases ai.mp i with z|z
  .exact⟨(h.2 p z).pos,(h.2 p z).b1,(h.2 p z).b2⟩
  .rw[aj.mp z];exact⟨by decide,xC (n:=669),xC (n:=669)⟩
 have f:=q d (1,1) (by rw[<-h.1];simp);rw[bD,bD]at f;refine⟨u,e,l.trans m,b,?_,λk j=>?_⟩
 .exact Int.lt_of_not_ge λz=>by have:=eV z (aA g0);rw[f,eW]at this;lia
 .have a:k<s.length:=by rw[h.1];exact j
  have:=q k (qo k s) (by unfold qo;rw[List.getElem?_append_left a,af,ag a];rfl)
  refine gy (dD g0) ?_;rw[<-dA,this,<-f,dA]
def BH(a:List (List (Int×Int)))(U:List (Int×Int)->LI)(h:a.length<=8)(f:∀s∈a,s.length<=3/\(U s).length<=4/\lA c [.tup ((s++[(1,1)]).map fr)]=.ok (tI (U s))):qS c [.lst (a.map tS)]=.ok ((a.map λs=>U s++[0]).map tI):=by
 have sz:1000<sizeLine:=by decide
 refine pF rfl (pL (j5 a tS (λs=>tI (U s++[0])) rfl (cD h (by decide)) (λs b=>⟨_,rfl,rfl,?_⟩) (by rw[aI];rfl)));obtain⟨d,g,e⟩:=f s b;refine iP (y:=tI [0]) (nU (iP rfl (Bp (oy rfl rfl)) ?_) e) (Bp rfl) (sQ _ _ (by simp;exact aN g (dM _ _)));rw[aZ];exact wQ _ _ (by simp;exact cD d (by decide))
def qK a b i:vc (a++b) i=if i<a.length then vc a i else vc b (i-a.length):=by
 unfold vc;by_cases h:i<a.length
 .rw[aQ h,af,List.getElem?_append_left h,<-af]
 .rw[aR h,af,List.getElem?_append_right (cC h),<-af]
def GL(d B:Nat)(a:LI):Prop:=a.length=d+1/\∀x∈a,Bn B x
structure GC(d B:Nat)(ns:LI):Prop where
 gl:GL d B ns
 re:∃p,p<d/\vc ns p≠0
def GL.mono(h:GL d B ns)(b:B<=B'):GL d B' ns:=⟨h.1,λx a=>(h.2 x a).mono b⟩
def GL.set(h:GL d B ns) k (hv:Bn B v):GL d B (ns.set k v):=⟨by rw[b8];exact h.1,λx a=>by
 rcases gz a with q|q
 .exact h.2 x q
 .rw[q];exact hv⟩
def Sk ns k v i (a:k<ns.length):vc (ns.set k v) i=if k=i then v else vc ns i:=by
 unfold vc;rw[af,List.getElem?_set];by_cases h:k=i
 .subst h;rw[aQ rfl,aQ rfl,aQ a];rfl
 .rw[aR h,aR h,<-af]
def HW n k (h:k<n):zj n (k:Int)=some k:=by unfold zj;rw[aQ (bE _),aQ (dy.mpr h)];simp
def zq(n:Nat)(h:n<=1000)(a:f ρ=.ok (.int (n:Int))):qc (iL f iQ) ρ=.ok ((List.range n).map λ(i:Nat)=>T.int (i:Int)):=by have hr:DH n=true:=nB (aN h (dM _ _));rw[<-K5];simp[a,hr]
def QB cell (k d B:Nat) (fs:LL) (hk:k<=10) (hd:1<=d/\d<=3) (hB:10<=B) (hB2:B<=1000) (hf:∀f∈fs,GL d B f) (hfl:fs.length<=10) :
  ∃ns,mZ c [.int cell,.int k,.int d,.lst (fs.map tI)]=.ok (tI ns)/\GC d (B+2) ns:=by
 have sz:1000<sizeLine:=by decide
 have hrd:DH ((d+1:Nat):Int)=true:=nB (cD hd.2 (by decide));obtain⟨d1,d1a,d1b⟩:=oC (c:=c) cell 2 5 (by decide) (by decide) (by decide) (by decide);obtain⟨h,ew,hw⟩:=HZ [1,2,3,5,1000] (dr c cell 2 5) d1a (by simpa using d1b);have hw':1<=h/\h<=1000:=by simp only[aF,dS,or_false]at hw;lia
 let s:LI:=(List.range (d+1)).map λ(j:Nat)=>dr c cell (4+4*k+j) (2*h+1)-h;have g0:GL d (B+2) s:=⟨by simp[s],λx Y=>by obtain⟨j,hj,rfl⟩:=aD.mp Y;have hj':=aS.mp hj;obtain⟨_,a1,a2⟩:=oC (c:=c) cell (4+4*k+j) (2*h+1) (by lia) (by lia) (bE _) (by lia);refine Bn.mono (m:=10) ?_ (aN hB (cJ _ _));unfold Bn;show _<1024;omega⟩
 obtain⟨d2,d2a,d2b⟩:=oC (c:=c) cell (40+k) 6 (by decide) (by decide) (bE _) (by lia);let r:=dr c cell (40+k) 6;let St:LI->Option W->Option W->En:=λns F E=>[some (.p (.int cell)),some (.p (.int k)),some (.p (.int d)),some (.p (.lst (fs.map tI))),some (.p (.int h)),some (.o (ns.map T.int)),some (.p (.int r)),F,E];have e0:lH [none,some 4,some 0,some 1] (qc (iL (iU jU bi ab) iQ)) b0 (λ_=>.ok true) (wF c) (qH [some (.p (.int cell)),some (.p (.int k)),some (.p (.int d)),some (.p (.lst (fs.map tI))),some (.p (.int h)),none,none,none,none])=.ok (s.map T.int):=by
  refine j5 (List.range (d+1)) (λ(j:Nat)=>T.int (j:Int)) (λ(j:Nat)=>T.int (dr c cell (4+4*k+j) (2*h+1)-h)) ?_ (by simp;lia) (λj hj=>⟨_,rfl,rfl,?_⟩) (by rw[aI];rfl)
  .exact zq (d+1) (cD hd.2 (by decide)) (iP rfl rfl (by rw[jY];simp))
  .have hj':=aS.mp hj;obtain⟨e,_,_⟩:=oC (c:=c) cell (4+4*k+j) (2*h+1) (by lia) (by lia) (bE _) (by lia);exact iP (mv (y:=.int (4+4*(k:Int)+(j:Int))) (z:=.int (2*h+1)) rfl (iP (iP rfl (iP rfl rfl (oq (by decide))) (jY _ _)) rfl (jY _ _)) (iP (iP rfl rfl (oq (by decide))) rfl (jY _ _)) e) rfl (nT _ _)
 have hfe:∀neg,ji neg (.lst (fs.map tI)) (.lst [])=.ok (.bl (if neg then !fs.isEmpty else fs.isEmpty)):=λneg=>by rw[uA neg (fs.map tI) (by simp) (aN (wI fs) (by decide))];simp
 obtain⟨A,e1,g1⟩:∃A,(mB (nP (jE j2) (jE fm)) (qC 5 (yG (zA (kh (G9 p7 (iL (kM (iU jA bu (iV ec (jD c))) (λ_=>.ok none) (jL bi)) iQ))) (kM bw (jL bi) (λ_=>.ok none))))) ju) (St s none none)=.nx (St A none none)/\GL d (B+2) A:=by
  by_cases J:r=1/\fs≠[]
  .obtain⟨P,w⟩:=J;have hlp:=cW.mpr w;obtain⟨d3,H,X⟩:=oC (c:=c) cell (50+k) fs.length (dy.mpr hlp) (by lia) (bE _) (by lia);obtain⟨f,ef,I⟩:=Dh fs (dr c cell (50+k) fs.length) H X;have gf:=hf f I;refine⟨f.take d++s.drop d,jR ?_ (Ox (ts:=(f.take d++s.drop d).map T.int) ?_ (NG _) rfl),⟨?_,λx Y=>?_⟩⟩
   .have N:jE j2 (vw (St s none none))=.ok true:=i6 (iP (x:=.int r) rfl rfl (by rw[jW,P];rfl));have L:jE fm (vw (St s none none))=.ok true:=i6 (iP (x:=.lst (fs.map tI)) (y:=.lst []) rfl (by simp) (by rw[hfe];simp[w]));simp only[L3.nP,N,L,M.bind_ok];rfl
   .rw[aZ];refine C6 (a:=(f.take d).map T.int) (b:=(s.drop d).map T.int) ?_ ?_ (by simp;have:=g0.1;omega)
    .refine j3 ?_;have:=xb (fe:=iU jA bu (iV ec (jD c))) (fd:=iM 2) (d:=d) (ts:=f.map T.int) (ρ:=vw (St s none none)) (iP (x:=.lst (fs.map tI)) (y:=.int (dr c cell (50+k) fs.length)) rfl (mv (y:=.int (50+(k:Int))) (z:=.int (fs.length:Int)) rfl (iP rfl rfl (jY _ _)) (nV rfl (by simp)) d3) (by simp[qA,ef,tI])) rfl (by rw[aw,gf.1];exact bL _);simp only[G9,iL,iQ,this,M.bind_ok];rw[dU];rfl
    .rw[dW];exact Jb (ts:=s.map T.int) rfl rfl
   .rw[aT,bS,bY,gf.1,g0.1];lia
   .rcases ai.mp Y with q|q
    .exact (gf.2 x (g9 q)).mono (cJ _ _)
    .exact g0.2 x (gY q)
  .refine⟨s,jw ?_ rfl,g0⟩;have N:jE j2 (vw (St s none none))=.ok (r==1):=i6 (iP (x:=.int r) rfl rfl (jW _ _));have L:jE fm (vw (St s none none))=.ok (!fs.isEmpty):=i6 (iP (x:=.lst (fs.map tI)) (y:=.lst []) rfl (by simp) (by rw[hfe];rfl));simp only[L3.nP,N,L,M.bind_ok];by_cases P:r=1
   .have hn:fs=[]:=by
     by_cases hn:fs=[]
     .exact hn
     .exact absurd ⟨P,hn⟩ J
    rw[P,hn];rfl
   .have:(r==1)=false:=by simpa using P
    rw[this];rfl
 obtain⟨C,e2,g2⟩:∃C,(mB (jE (iU (ji false) da di)) (yf 5 (qr bi) (qr ac)) ju) (St A none none)=.nx (St C none none)/\GL d (B+2) C:=by
  by_cases h2:r=2
  .refine⟨A.set d 0,jR (i6 (iP (x:=.int r) rfl rfl (by rw[jW,h2];rfl))) (zy (us:=A.map T.int) (t:=.int 0) (j:=(d:Int)) (m:=d) rfl rfl rfl rfl (HW _ _ (by rw[aw,g1.1];exact bM _)) ?_),g1.set d qt⟩;show St (A.set d 0) none none=_;simp only[St,fC];rfl
  .exact⟨A,jw (i6 (iP (x:=.int r) rfl rfl (by rw[jW];simp[h2]))) rfl,g1⟩
 obtain⟨u,F,E,e3,g3⟩:∃u F E,(mB (nP (jE (iU (ji false) da fI)) (jE (iU Iy (lC lK bf) ab))) (iZ (setO 7 (j9 (iU jA bu (iV (iL a0 (iL (iU jU (cM (.int 50)) bd) (iL (iU tO (lC lK bf) ab) iQ))) (jD c)))))
  (iZ (setO 8 (j9 (iU jU ab (iV (iL a0 (iL ip (iL fI iQ))) (jD c)))))
  (qC 5 (sW (lH [none,none,some 8] (nF (iL (iU jA bu (pW (λi=>.int (-i)) ab)) jd)) ah (λ_=>.ok true) (wM c)))))) ju) (St C none none)=.nx (St u F E)/\GL d (B+2) u:=by
  have N:jE (iU (ji false) da fI) (vw (St C none none))=.ok (r==3):=i6 (iP (x:=.int r) rfl rfl (jW _ _))
  have L:jE (iU Iy (lC lK bf) ab) (vw (St C none none))=.ok (decide (1<(fs.length:Int))):=i6 (iP (x:=.int (fs.length:Int)) (nV rfl (by simp)) rfl rfl)
  by_cases J:r=3/\1<fs.length
  .obtain⟨Z,K⟩:=J;have w:fs≠[]:=by intro z;rw[z]at K;simp at K
   obtain⟨d3,H,X⟩:=oC (c:=c) cell (50+k) (fs.length-1) (by lia) (by lia) (bE _) (by lia);obtain⟨f,ef,I⟩:=Dh fs (dr c cell (50+k) (fs.length-1)) H (by omega);obtain⟨d4,d4a,d4b⟩:=oC (c:=c) cell (60+k) 3 (by decide) (by decide) (bE _) (by lia);have tM:rG fs (-1)=some (fs.getLast w):=by rw[AZ _ w,List.getLast?_eq_getLast w]
   have gl:=hf _ (eJ w);have gf:=hf f I;generalize fs.getLast w=la at tM gl;let v:Int:=1+dr c cell (60+k) 3;have hby:1<=v/\v<=3:=by show 1<=1+_/\1+_<=(3:Int);lia
   refine⟨(la.zip f).map λp=>p.1+v*p.2,some (.p (tI f)),some (.p (.int v)),jR ?_ (iR (iY (t:=tI f) (iP (x:=.lst (fs.map tI)) (y:=.int (dr c cell (50+k) (fs.length-1))) rfl (mv (y:=.int (50+(k:Int))) (z:=.int ((fs.length:Int)-1)) rfl (iP rfl rfl (jY _ _)) (iP (x:=.int (fs.length:Int)) (nV rfl (by simp)) rfl (nT _ _)) d3) (by simp[qA,ef])) rfl) (iR (iY (t:=.int v) (iP rfl (mv (y:=.int (60+(k:Int))) rfl (iP rfl rfl (jY _ _)) rfl d4) (jY _ _)) rfl) (pH (ts:=((la.zip f).map λp=>p.1+v*p.2).map T.int) ?_ rfl))),⟨by rw[aw,eR,gl.1,gf.1];lia,λx Y=>?_⟩⟩
   .simp only[L3.nP,N,L,M.bind_ok];have:(r==3)=true:=by simpa using Z
    rw[this];simp only[if_true];have:decide (1<(fs.length:Int))=true:=aC (dy.mpr K);rw[this]
   .refine j5 (la.zip f) (λp=>T.tup [.int p.1,.int p.2]) (λp=>T.int (p.1+v*p.2)) (nG (l:=la) (m:=f) (f:=T.int) (g:=T.int) (x:=tI la) (iP (x:=.lst (fs.map tI)) (y:=.int (-1)) rfl rfl (by simp[qA,tM])) rfl rfl rfl) (by rw[eR,gl.1,gf.1];lia) (λp S=>⟨_,rfl,rfl,iP rfl (iP rfl rfl (oq ?_)) (jY _ _)⟩) (by rw[aI];rfl);show v.natAbs<_;lia
   .obtain⟨p,S,rfl⟩:=aD.mp Y;have P:=gl.2 _ (aW S).1;have h2:=gf.2 _ (aW S).2;unfold Bn at *;rw[dZ];have a1:=d8 p.1 (v*p.2);have a2:(v*p.2).natAbs<=3*p.2.natAbs:=by rw[aY];exact gS _ (by omega)
    lia
  .refine⟨C,none,none,jw ?_ rfl,g2⟩;simp only[L3.nP,N,L,M.bind_ok];by_cases Z:r=3
   .have:(r==3)=true:=by simpa using Z
    rw[this];have:decide (1<(fs.length:Int))=false:=aB (by intro z;exact J ⟨Z,dy.mp z⟩);rw[this];rfl
   .have:(r==3)=false:=by simpa using Z
    rw[this];rfl
 have Q:jE (iU (ji false) (kM bw (λ_=>.ok none) (jL bi)) (kh (Dp gg bi))) (vw (St u F E))=.ok (decide (u.take d=List.replicate d 0)):=by refine i6 (iP (x:=.lst ((u.take d).map T.int)) (y:=.lst ((List.replicate d (0:Int)).map T.int)) ?_ (RB d (aN hd.2 (dM _ _)) rfl) (by rw[Sj];rfl));rw[dU];exact Bx (ts:=u.map T.int) rfl rfl
 have D:∀t,iZ (mB (jE (iU (ji false) (kM bw (λ_=>.ok none) (jL bi)) (kh (Dp gg bi)))) (yf 5 (qr (iV (iL a0 (iL ip be)) (jD c))) (qr ab)) ju) (jy (lC lJ (iL bw iQ))) (St u F E)=.rt t->mZ c [.int cell,.int k,.int d,.lst (fs.map tI)]=.ok t:=λt ht=>by refine jh rfl (iR (iY (t:=.int h) (iP (x:=.lst ([1,2,3,5,1000].map T.int)) (y:=.int (dr c cell 2 5)) (UP rfl rfl rfl rfl rfl) (mv rfl rfl rfl d1) ew) rfl) (iR (pH (ts:=s.map T.int) e0 rfl) (iR (iY (t:=.int r) (mv (y:=.int (40+(k:Int))) rfl (iP rfl rfl (jY _ _)) rfl d2) rfl) (iR e1 (iR e2 (iR e3 ht))))))
 by_cases hz:u.take d=List.replicate d 0
 .obtain⟨d5,d5a,R⟩:=oC (c:=c) cell (60+k) d (dy.mpr hd.1) (by lia) (bE _) (by lia);obtain⟨p,S⟩:∃p:Nat,dr c cell (60+k) d=(p:Int):=⟨(dr c cell (60+k) d).toNat,(cV d5a).symm⟩;rw[S]at d5 R;refine⟨u.set p 1,D _ (iR (ρ':=St (u.set p 1) F E) (jR (by rw[Q,aC hz]) (zy (us:=u.map T.int) (t:=.int 1) (j:=(p:Int)) (m:=p) rfl rfl rfl (mv (y:=.int (60+(k:Int))) rfl (iP rfl rfl (jY _ _)) rfl d5) (HW _ _ (by rw[aw,g3.1];omega)) ?_)) (i7 rfl)),⟨g3.set p (by have:=hB;exact (xC (n:=0)).mono (bW _)),p,dy.mp R,?_⟩⟩
  .simp only[St,fC];rfl
  .rw[Sk _ _ _ _ (by rw[g3.1];lia),aQ rfl];decide
 .refine⟨u,D _ (iR (ρ':=St u F E) (jw (by rw[Q,aB hz]) rfl) (i7 rfl)),⟨g3,?_⟩⟩;refine aO λJ=>hz (List.eq_replicate_iff.mpr ⟨by rw[bS,g3.1];lia,λb hb=>?_⟩);obtain⟨i,hi⟩:=List.getElem?_of_mem hb;have U:i<d:=by have:=(aa.mp hi).1;rw[bS]at this;exact aE this (gG _ _)
  refine aO λhb0=>J ⟨i,U,?_⟩;rw[List.getElem?_take]at hi;rw[aQ U]at hi;unfold vc;rw[af,hi];exact hb0
noncomputable def pk(a b:LI):Bool:=(List.range a.length).all λk=>(List.range k).all λj=>vc a k*vc b j==vc a j*vc b k
def Eo n B a b (q:a.length=n) (y:b.length=n) (A:n<=10) (u:B<=1000) (z:∀x∈a,Bn B x) (w:∀x∈b,Bn B x):n8 c [tI a,tI b]=.ok (.bl (pk a b)):=by
 have sz:1000<sizeLine:=by decide
 have l:=vU (m:=lq 2) (λ(k:Nat)=>T.int (k:Int)) (λρ=>∃v i,ρ=[some (.p (tI a)),some (.p (tI b)),v,i]) (λk=>(List.range k).all λj=>vc a k*vc b j==vc a j*vc b k) (.bl false) (List.range n) [some (.p (tI a)),some (.p (tI b)),none,none] ⟨none,none,rfl⟩ (by
  rintro k L ρ ⟨v,i,rfl⟩;have d:=aS.mp L;refine⟨_,rfl,?_⟩;have o:=vU (m:=lq 3) (g:=yp c) (λ(j:Nat)=>T.int (j:Int)) (λρ=>∃i,ρ=[some (.p (tI a)),some (.p (tI b)),some (.p (.int (k:Int))),i]) (λj=>vc a k*vc b j==vc a j*vc b k) (.bl false) (List.range k) [some (.p (tI a)),some (.p (tI b)),some (.p (.int (k:Int))),i] ⟨i,rfl⟩ (by
   rintro j E ρ ⟨i,rfl⟩;have r:=aS.mp E;have I:=lX a k (aE d (bB q.symm));have F:=lX b j (cT r (aE d (bB y.symm)));have N:=lX a j (cT r (aE d (bB q.symm)));have H:=lX b k (aE d (bB y.symm));have P:=jx ((z _ (getD_mem a k (aE d (bB q.symm)))).ok (w _ (getD_mem b j (by lia))) (aN u (by decide)) (aN u (dM _ _)));have J:=jx ((z _ (getD_mem a j (by lia))).ok (w _ (getD_mem b k (by lia))) (aN u (dM _ _)) (by lia));have C:jE (iU (ji true) (iU kP (iU jA a0 bi) (iU jA bd bu)) (iU kP (iU jA a0 bu) (iU jA bd bi))) (vw [some (.p (tI a)),some (.p (tI b)),some (.p (.int (k:Int))),some (.p (.int (j:Int)))])=.ok (!(vc a k*vc b j==vc a j*vc b k)):=i6 (iP (iP (iP rfl rfl I) (iP rfl rfl F) P) (iP (iP rfl rfl N) (iP rfl rfl H) J) (md _ _))
   refine⟨_,rfl,λh=>⟨_,jw (C.trans (by rw[h];rfl)) rfl,_,rfl⟩,λh=>jR (C.trans (by rw[h];rfl)) (i7 rfl)⟩)
  have hr:=zq (f:=iM 2) (ρ:=vw [some (.p (tI a)),some (.p (tI b)),some (.p (.int (k:Int))),i]) k (bg (cT d (cD A (by decide)))) rfl;refine⟨λh=>?_,λh=>uM hr (o.2 h)⟩;obtain⟨s,e,K,rfl⟩:=o.1 h;exact⟨_,uM hr e,_,_,rfl⟩)
 have hr:=zq (f:=lC lK bv) (ρ:=vw (jG 4 [tI a,tI b])) n (aN A (by decide)) (nV (t:=tI a) rfl (by simp[tI,q]));have D:pk a b=((List.range n).all λk=>(List.range k).all λj=>vc a k*vc b j==vc a j*vc b k):=by unfold pk;rw[q]
 cases h:pk a b with
 |true=>obtain⟨s,e,v,i,rfl⟩:=l.1 (by rw[<-D];exact h);exact jh rfl (iR (uM hr e) (i7 rfl))
 |false=>exact jh rfl (lE (uM hr (l.2 (by rw[<-D];exact h))) rfl)
def GC.mono(h:GC d B ns)(a:B<=B'):GC d B' ns:=⟨h.gl.mono a,h.re⟩
def Az a (r:a.length<=100) (h:∃p,p<a.length/\vc a p≠0):∃p:Nat,nS c [tI a]=.ok (.int (p:Int))/\p<a.length/\vc a p≠0:=by
 obtain⟨q,l,f⟩:=h;obtain⟨b,e,p,rfl,n,i⟩:=tm (c:=jE (iU (ji false) df ac)) (g:=tX c)
  (λb=>∃k:Nat,b=[some (.p (tI a)),some (.p (.int (k:Int)))]/\k<=q) (λb=>match b with|_::some (.p (.int j))::_=>q-j.toNat|_=>0)
  (λb=>∃k:Nat,b=[some (.p (tI a)),some (.p (.int (k:Int)))]/\k<a.length/\vc a k≠0) (by
   rintro b ⟨k,rfl,hk⟩;have o:jA (tI a) (.int (k:Int))=.ok (.int (vc a k)):=lX a k (cD hk l);by_cases d:vc a k=0
   .have m:k≠q:=λz=>f (by rw[<-z];exact d);refine .inr ⟨i6 (iP (iP rfl rfl o) rfl (by rw[jW,d];rfl)),_,.inl (iY (iP rfl rfl (by rw[jY];simp)) rfl),⟨k+1,rfl,fF hk m⟩,?_⟩;show q-(((k+1:Nat):Int)).toNat<q-((k:Int)).toNat;lia
   .exact .inl ⟨i6 (iP (iP rfl rfl o) rfl (by rw[jW];simp[d])),k,rfl,cD hk l,d⟩)
  ((a.map T.int).length+1) [some (.p (tI a)),some (.p (.int ((0:Nat):Int)))] ⟨0,rfl,bN _⟩ (by rw[aw];exact cH l)
 exact⟨p,jh rfl (iR (iY rfl rfl) (iR e (i7 rfl))),n,i⟩
def A9 d B a b (A:d<=3) (s:B<=1000) (m:GC d B a) (v:GL d B b) (h:pk a b=false):oH c [tI a,tI b]=.ok (.bl false):=by
 have sz:1000<sizeLine:=by decide
 have e:=m.gl.1;have f:=v.1;obtain⟨q,R,o⟩:=m.re;obtain⟨p,P,n,r⟩:=Az a (bg (cD (bB e) (cD (eI A _) (by decide)))) ⟨q,cT R (bB e.symm),o⟩;have J:=lX b p (aE n (aN (bB e) (bB f.symm)));have I:=lX a p n;have D:lH [none,none,some 1,some 2,some 0] (nF b3) ah (λ_=>.ok true) (vy c) (vw [some (.p (tI a)),some (.p (tI b)),some (.p (.int p))])=.ok (((a.zip b).map λx=>x.1*vc b p==x.2*vc a p).map T.bl):=j5 (a.zip b) (λx=>T.tup [.int x.1,.int x.2]) (λx=>T.bl (x.1*vc b p==x.2*vc a p)) (nG rfl rfl rfl rfl) (by rw[eR];lia) (λx y=>⟨_,rfl,rfl,by have F:=m.gl.2 _ (aW y).1;have E:=v.2 _ (aW y).2;have N:=v.2 _ (getD_mem b p (aE n (aN (bB e) (bB f.symm))));have L:=m.gl.2 _ (getD_mem a p n);exact iP (iP rfl (iP rfl rfl J) (jx (F.ok N (aN s (by decide)) (aN s (dM _ _))))) (iP rfl (iP rfl rfl I) (jx (E.ok L (aN s (dM _ _)) (by lia)))) (jW _ _)⟩) (by rw[aI];rfl)
 refine jh rfl (iR (iY (nU rfl P) rfl) (i7 (mP D ?_)));rw[nY];congr 2;cases w:((a.zip b).map λx=>x.1*vc b p==x.2*vc a p).all id with
 |false=>rfl
 |true=>
  exfalso;rw[cQ]at w;have l:=C4.par_of_place r λi z=>by
   have K:(a.zip b)[i]? = some (a[i],b[i]'(by lia)):=by rw[List.getElem?_zip_eq_some];exact⟨ag z,ag (by lia)⟩
   have:=w _ (aD.mpr ⟨_,au K,rfl⟩);have C:a[i]*vc b p=(b[i]'(by lia))*vc a p:=by simpa using this
   show vc a i*vc b p=vc b i*vc a p;rw[kL a i z,kL b i (by lia)];exact C
  have:pk a b=true:=by unfold pk;refine cQ.mpr λk Q=>cQ.mpr λj H=>?_;have g:=aS.mp Q;have u:=aS.mp H;have:=l k j g (cT u g);simpa[vc] using this
  rw[h]at this;cases this
structure Wk(d B:Nat)(cs:LL):Prop where
 gc:∀f∈cs,GC d B f
 few:cs.length<=7
 pw:cs.Pairwise λa b=>pk a b=false
def Es(h:GC d B ns):qX d (tI ns)=true:=by
 obtain⟨p,a,b⟩:=h.re;have e:=h.gl.1;unfold tI qX;have g:(ns.map T.int).length=d+1:=by simp[e]
 have f:(ns.map T.int).all isInt=true:=cQ.mpr λx j=>by obtain⟨y,-,rfl⟩:=aD.mp j;rfl
 show (decide ((ns.map T.int).length=d+1)&&(ns.map T.int).all isInt&&(match kq (ns.map T.int) with|some ns=>(ns.take d).any (· != 0)|none=>false))=true;rw[aC g,f,yu];refine eN.mpr ⟨vc ns p,?_,by simpa using b⟩;rw[kL ns p (cT a (bB e.symm))];refine au (i:=p) ?_;rw[List.getElem?_take,aQ a,ag (cT a (bB e.symm))]
def Dl d B (b:LL) ns (g:1<=d/\d<=3) (p:B<=1000) (s:b.length<7) (r:∀f∈b,GC d B f) (h:GC d B ns) (v:∀f∈b,pk f ns=false):oo c [.int d,.lst (b.map tI),tI ns]=.ok (.bl true):=by
 have sz:1000<sizeLine:=by decide
 have i:=Cg (c:=c) d (aN g.2 (by decide)) (tI ns) rfl λw e=>by cases e;refine⟨by rw[aw,h.gl.1];exact cD (eI g.2 _) (by decide),λt n=>by obtain⟨y,-,rfl⟩:=aD.mp n;rfl⟩
 rw[Es h]at i;have m:lH [none,some 2] gk b0 (λ_=>.ok true) (tf c) (vw (jG 3 [.int d,.lst (b.map tI),tI ns]))=.ok ((b.map λ_=>false).map T.bl):=j5 b tI (λ_=>T.bl false) rfl (aN s (dM _ _)) (λf j=>⟨_,rfl,rfl,jv rfl rfl (A9 d B f ns g.2 p (r f j) h.gl (v f j))⟩) (by rw[aI];rfl)
 have o:jE (iU QX dm (cM (.int 7))) (vw (jG 3 [.int d,.lst (b.map tI),tI ns]))=.ok false:=i6 (iP (x:=.int (b.length:Int)) (nV (t:=.lst (b.map tI)) rfl (by simp)) rfl (by rw[wg];congr 2;exact aB (by lia)))
 have u:jE (iV (iL a0 be) (pV c)) (vw (jG 3 [.int d,.lst (b.map tI),tI ns]))=.ok true:=i6 (jv rfl rfl i);refine jh rfl (iR (jw ?_ rfl) (i7 ?_))
 .simp only[L3.vV,L3.lY,o,u,M.bind_ok];rfl
 .have q:lC tN (iL (kh (lH [none,some 2] gk b0 (λ_=>.ok true) (tf c))) iQ) (vw (jG 3 [.int d,.lst (b.map tI),tI ns]))=.ok (.bl false):=by
   refine mP m ?_;rw[uI];congr 2;induction b with
   |nil=>rfl
   |cons a l ih=>simp
  have k:=i6 q;simp only[Du,k,M.bind_ok];rfl
def FB d B cs (u:1<=d/\d<=3) (x:B<=1000) (h:Wk d B cs):l8 c [.int d,.lst (cs.map tI)]=.ok (.tup (cs.map tI)):=by
 have sz:1000<sizeLine:=by decide
 have b:=h.few;obtain⟨l,e,n,rfl⟩:=kj (m:=lq 3) (g:=tJ c) tI
  (λk l=>∃n:Option W,l=[some (.p (.int d)),some (.p (.lst (cs.map tI))),some (.o ((cs.take k).map tI)),n])
  cs 0 _ ⟨none,rfl⟩ (by
   rintro k a l j ⟨n,rfl⟩;rw[aG];have s:=(aa.mp j).1;have r:=Dl (c:=c) d B (cs.take k) a u x (by rw[bS];exact cD (gG _ _) (aE s b)) (λf b=>h.gc f (g9 b)) (h.gc a (au j)) λf b=>by have v:=h.pw;rw[<-List.take_append_drop k cs,gB]at v;refine v.2.2 f b a ?_;refine au (i:=0) ?_;rw[List.getElem?_drop,Nat.add_zero];exact j
   have q:jE (iV (iL a0 g8) (oo c)) (vw [some (.p (.int d)),some (.p (.lst (cs.map tI))),some (.o ((cs.take k).map tI)),some (.p (tI a))])=.ok true:=i6 (mv (y:=.lst ((cs.take k).map tI)) (z:=tI a) rfl rfl rfl r);refine⟨_,_,rfl,.inl (iR (jw (og q rfl) rfl) (xx (us:=(cs.take k).map tI) (t:=tI a) rfl (nV (t:=tI a) rfl rfl) (by rw[aw,bS];lia) rfl)),some (.p (tI a)),?_⟩;rw[ki cs k a j,aZ];rfl)
 rw[aG,eZ]at e;have w:jE (iV bv (oj c)) (vw (jG 4 [.int d,.lst (cs.map tI)]))=.ok true:=i6 (nU rfl (AB d u));have A:jE (ux "list" bd) (vw (jG 4 [.int d,.lst (cs.map tI)]))=.ok true:=rfl;refine jh rfl (iR (jw ?_ rfl) (iR (pH (ts:=[]) (by simp) rfl) (iR (ku rfl e) (i7 rfl))));simp only[L3.vV,L3.lY,w,A,M.bind_ok];rfl
noncomputable def xS(c:Cs)(d:Nat)(cs:LL):T:=.obj c.Cutting [("own_cuts",.tup (cs.map tI)),("own_dims",.int d)]
def OD d B cs (a:1<=d/\d<=3) (b:B<=1000) (h:Wk d B cs):l5 c [.int d,.lst (cs.map tI)]=.ok (xS c d cs):=by have e:=FB (c:=c) d B cs a b h;have q:iV h8 (l8 c) (none::[T.int d,.lst (cs.map tI)].map some)=.ok (.tup (cs.map tI)):=jv rfl rfl e;unfold l5 Ck;rw[aQ (show [T.int d,T.lst (cs.map tI)].length=2 from rfl),q];rfl
def Ma(h:f ρ=.ok (.obj C fs))(a:fs.lookup x=some t):Gq C x f ρ=.ok t:=by unfold Gq;rw[h,M.bind_ok];show (if C=C then (match fs.lookup x with|some t=>M.ok t|none=>.bad) else .bad)=_;rw[aQ rfl,a]
def Im(d:Nat)(cs:LL){f:Pe->M T}{ρ:Pe}(a:f ρ=.ok (xS c d cs)):BN c.Cutting "dims" f iQ (lx c) ρ=.ok (.int d):=by
 have e:AE c.Cutting "dims" (xS c d cs)=.ok ():=by unfold AE xS;exact aQ ⟨rfl,rfl⟩
 have b:lx c [xS c d cs]=.ok (.int d):=jh rfl (i7 (Ma rfl rfl));simp only[BN,a,M.bind_ok,e,iQ,b,M.noEr_ok]
def Ik d cs (a:f ρ=.ok (xS c d cs)):yd c.Cutting "cuts" f iQ (lu c) ρ=.ok (cs.map tI):=by
 have e:AE c.Cutting "cuts" (xS c d cs)=.ok ():=by unfold AE xS;exact aQ ⟨rfl,rfl⟩
 have b:lu c [xS c d cs]=.ok (cs.map tI):=pF rfl (pL (by have:Gq c.Cutting "own_cuts" a0 (vw (jG 1 [xS c d cs]))=.ok (.tup (cs.map tI)):=Ma rfl rfl;simp only[G9,iL,iQ,this,M.bind_ok];rfl))
 simp only[yd,a,M.bind_ok,e,iQ,b,M.noEr_ok]
def Gj cell (h:Nat) (u:h<=7):∃(d:Nat) (cs:LL),nX c [.int cell,.int (h:Int)]=.ok (.tup [.int d,.lst (cs.map tI)])/\(1<=d/\d<=3)/\Wk d 30 cs/\cs.length<=h:=by
 have sz:1000<sizeLine:=by decide
 obtain⟨d1,L,K⟩:=oC cell 0 5 (by decide) (by decide) (by decide) (by decide);obtain⟨U,ed,v⟩:=HZ [1,2,2,3,3] (dr c cell 0 5) L (by simpa using K);obtain⟨d,rfl⟩:∃d:Nat,U=(d:Int):=⟨U.toNat,by simp only[aF,dS,or_false]at v;lia⟩;have C:1<=d/\d<=3:=by simp only[aF,dS,or_false]at v;lia
 obtain⟨Y,I,N⟩:=oC (c:=c) cell 1 ((h+1:Nat):Int) (by simp[u]) (by lia) (by decide) (by decide);obtain⟨n,hn⟩:∃n:Nat,dr c cell 1 ((h+1:Nat):Int)=(n:Int):=⟨(dr c cell 1 ((h+1:Nat):Int)).toNat,(cV I).symm⟩;rw[hn]at Y N;obtain⟨F,e,cs,S,w,rfl,B,s,A⟩:=kj (m:=lq 4) (g:=tZ c) (λ(i:Nat)=>T.int (i:Int))
  (λk F=>∃(cs:LL) (S w:Option W),F=[some (.p (.int cell)),some (.p (.int (h:Int))),some (.p (.int d)),some (.o (cs.map tI)),S,w]/\cs.length<=k/\(∀f∈cs,GC d (10+2*k) f)/\cs.Pairwise λa b=>pk a b=false)
  (List.range n) 0 _ ⟨[],none,none,rfl,aK _,(λf j=>nomatch j),List.Pairwise.nil⟩ (by
   rintro i k F H ⟨cs,S,w,rfl,B,s,A⟩;rw[aG]at B s ⊢;have D:i<n:=by simpa using (aa.mp H).1
   have P:k=i:=by rw[List.getElem?_range D]at H;cases H;rfl
   subst P;obtain⟨r,en,J⟩:=QB (c:=c) cell k d (10+2*k) cs (by lia) C (cJ _ _) (by lia) (λf j=>(s f j).gl) (by lia);let R:En:=[some (.p (.int cell)),some (.p (.int (h:Int))),some (.p (.int d)),some (.o (cs.map tI)),some (.p (.int (k:Int))),some (.p (tI r))];have e1:lH [none,some 5] (jP bu) b0 (jE (iV b3 (n8 c))) (qN c) (vw R)=.ok ((cs.filter λf=>pk f r).map tI):=sZ cs tI tI (λf=>pk f r) rfl (by lia) (λf j=>⟨_,rfl,i6 (jv rfl rfl (Eo (c:=c) (d+1) (10+2*k+2) f r (s f j).gl.1 J.gl.1 (cD C.2 (by decide)) (by lia) (λx hx=>((s f j).gl.2 x hx).mono (cJ _ _)) J.gl.2)),λ_=>rfl⟩) rfl
   have X:jE (iU (ji false) (kh (lH [none,some 5] (jP bu) b0 (jE (iV b3 (n8 c))) (qN c))) cb) (vw R)=.ok (cs.filter λf=>pk f r).isEmpty:=by refine i6 (iP (x:=.lst ((cs.filter λf=>pk f r).map tI)) (y:=.lst []) (j3 e1) (by simp) ?_);rw[uA false _ (by simp) (aN (wI _) (by decide))];simp
   have Z:setO 5 (qr (iV (iL a0 (iL c5 g8)) (mZ c))) [some (.p (.int cell)),some (.p (.int (h:Int))),some (.p (.int d)),some (.o (cs.map tI)),some (.p (.int (k:Int))),w]=.nx R:=Da (t:=tI r) (HU rfl rfl rfl rfl en) (NF r) rfl;by_cases Q:(cs.filter λf=>pk f r)=[]
   .refine⟨_,_,rfl,.inl (iR Z (jR (X.trans (by rw[Q];rfl)) (xx (us:=cs.map tI) (t:=tI r) rfl rfl (by simp;lia) rfl))),cs++[r],_,_,by rw[aZ];rfl,by simp;omega,λf j=>?_,gB.mpr ⟨A,gC _ _,λf j g E=>?_⟩⟩
    .rcases ai.mp j with q|q
     .exact (s f q).mono (by lia)
     .rw[aj.mp q];exact J.mono (aK _)
    .rw[aj.mp E];cases hs:pk f r with
     |false=>rfl
     |true=>have:f∈cs.filter λf=>pk f r:=aU.mpr ⟨j,hs⟩;rw[Q]at this;exact nomatch this
   .refine⟨_,_,rfl,.inl (iR Z (jw (X.trans (by
     cases hq:(cs.filter λf=>pk f r) with
     |nil=>exact absurd hq Q
     |cons a l=>rfl)) rfl)),cs,_,_,rfl,cK B,λf j=>(s f j).mono (by lia),A⟩)
 rw[aG,gX]at B s;refine⟨d,cs,jh rfl (iR (iY (t:=.int d) (iP (x:=.lst ([1,2,2,3,3].map T.int)) (y:=.int (dr c cell 0 5)) (UP rfl rfl rfl rfl rfl) (mv rfl rfl rfl d1) ed) rfl) (iR (pH (ts:=[]) (by simp) rfl) (iR (uM (zq n (by lia) (mv (z:=.int ((h+1:Nat):Int)) rfl rfl (iP rfl rfl rfl) Y)) e) (i7 (oy rfl rfl))))),C,⟨λf j=>(s f j).mono (by lia),by lia,A⟩,by lia⟩
noncomputable def SC(a b:LI):Int:=((a.zip b).map λp=>p.1*p.2).sum
def Ee l k i:vc (l.drop k) i=vc l (k+i):=by unfold vc;rw[af,List.getElem?_drop,<-af]
def Um w (h:f ρ=.ok (.int w)):iU tO (lC zP (iL (iU Iy f ac) iQ)) (lC zP (iL (iU GY f ac) iQ)) ρ=.ok (.int (lL w)):=by
 unfold lL;by_cases b:0<w
 .have a:¬w<0:=by exact eO b
  simp[h,b,a]
 .by_cases a:w<0
  .simp[h,b,a]
  .simp[h,b,a]
def tR(x:Rat):Int:=if 0<x then 1 else if x<0 then -1 else 0
def N1{jT a:Int}(g:0<a)(e:(jT:Rat)=(a:Rat)*v):lL jT=tR v:=by
 have f:=mU g;unfold lL tR;rcases gL jT 0 with h|h|h
 .have d:(jT:Rat)<0:=by exact_mod_cast h
  have b:v<0:=by refine gM ?_ (fV f);grind
  rw[aR (eO h),aQ h,aR (by grind),aQ b]
 .have d:(jT:Rat)=0:=by rw[h];rfl
  have b:v=0:=by grind
  rw[aR (eU.mpr (fN h)),aR (eU.mpr (fN h.symm)),aR (by grind),aR (by grind)]
 .have d:=mU h;have b:0<v:=by refine gM ?_ (fV f);grind
  rw[aQ h,aQ b]
def Om(h:a+b≠0) u:(a+b)*j6 d (λj=>(b*X j+a*Z j) / (a+b)) u=b*j6 d X u+a*j6 d Z u:=by
 unfold j6;have e:n6 d (λp=>(u p)*((b*X p+a*Z p) / (a+b)))=(b / (a+b))*n6 d (λp=>(u p)*X p)+(a / (a+b))*n6 d (λp=>(u p)*Z p):=by rw[<-rC];exact ko _ _ _ λi _=>by grind
 rw[e];grind
theorem yU:∀n f,((sm n f:Int):Rat)=n6 n λi=>(f i:Rat)
 |0,_=>rfl
 |n+1,f=>by unfold sm n6;rw[<-yU n λi=>f (i+1)];simp
def rV(h:∀x∈u,Bn B x) k:Bn B (vc u k):=by
 by_cases a:k<u.length
 .rw[kL u k a];exact h _ (aV _)
 .rw[sM u k (cC a)];exact qt
abbrev nI(k:Nat):T:=.int (k:Int)
def LQ(d:a ρ=.rf ts)(hr:.rf ts=r):iZ a b ρ=r:=by unfold iZ;rw[d];exact hr
def Kt a:0<=lL a*a/\(a≠0->0<lL a*a/\lL a*lL a=1/\lL a≠0):=by
 unfold lL;split
 .exact⟨by lia,λ_=>⟨by lia,rfl,by decide⟩⟩
 .split
  .exact⟨by lia,λ_=>⟨by lia,rfl,by decide⟩⟩
  .exact⟨by lia,λh=>by lia⟩
def TN u (k:Int):j6 d X (vc (u.map λx=>k*x))=(k:Rat)*j6 d X (vc u):=by have:=rq (d:=d) (X:=X) (vc u) (vc u) (vc (u.map λx=>k*x)) 1 k 0 (λi=>by rw[uo];lia);have b:((1:Int):Rat)=1:=rfl;have a:((0:Int):Rat)=0:=rfl;rw[b,a]at this;grind
def S9{n:Nat}{a:LI}(e:a.length=n){i:Nat}{s:Int}(h:a[i]? = some s):i<n/\vc a i=s:=by obtain⟨b,d⟩:=aa.mp h;exact⟨aE b (bB e),by rw[kL a i b,d]⟩
def TY:(PyData.str "spot").canLay0=true:=by rw[PyData.canLay0];decide +kernel
def Ue:(PyData.str "paper").canLay0=true:=by rw[PyData.canLay0];decide +kernel
def W0 a b (e:(PyData.str a).canLay0=true) (d:(PyData.str b).canLay0=true):ji false (.str a) (.str b)=.ok (.bl (a==b)):=by simp[ji,vM,sX,e,d]
def Sd:ji false (.str "spot") (.str "paper")=.ok (.bl false):=by rw[W0 _ _ TY Ue];congr 2
def XH(us:LL)(d:Nat)(a:LI)(X:Nat->Rat):Prop:=∀(i:Nat) (v:Int),a[i]? = some v->(v=0->j6 d X (vc (us.getD i []))=0)/\(v≠0->0<(v:Rat)*j6 d X (vc (us.getD i [])))
theorem Co:∀n g t,(∀i,i<n->0<=(t i:Rat)*j6 d X (g i))->0<=j6 d X (Lt n g t)/\((∃i,i<n/\0<(t i:Rat)*j6 d X (g i))->0<j6 d X (Lt n g t))
 |0,g,t,_=>by
  have e:j6 d X (Lt 0 g t)=0:=by have z:Lt 0 g t=λ_=>0:=rfl;rw[z,pU λ_ _=>rfl];simp
  rw[e];exact⟨Rat.le_refl,λ⟨i,a,_⟩=>absurd a (dX i)⟩
 |n+1,g,t,h=>by
  obtain⟨k,f⟩:=Co n (λj=>g (j+1)) (λj=>t (j+1)) λi a=>h (i+1) (bJ a);have l:=rq (d:=d) (X:=X) (g 0) (Lt n (λj=>g (j+1)) (λj=>t (j+1))) (Lt (n+1) g t) 1 (t 0) 1 (λi=>by show 1*(t 0*g 0 i+sm n λj=>t (j+1)*g (j+1) i)=t 0*g 0 i+1*(sm n λj=>t (j+1)*g (j+1) i);lia)
  have b:((1:Int):Rat)=1:=rfl;rw[b]at l;refine⟨by grind,λ⟨i,a,hp⟩=>?_⟩;cases i with
  |zero=>grind
  |succ i=>have:=f ⟨i,fw a,hp⟩;grind
def Qq{us:LL}{d:Nat}{l f:LI}{X:Nat->Rat}(A:Ux us.length l)(h:XH us d l X)(p:Vk us d l f):False:=by
 have g:∀i,i<us.length->∀v,l[i]? = some v->0<=(vc f i)*j6 d X (vc (us.getD i []))/\(v*vc f i≠0->0<(vc f i:Rat)*j6 d X (vc (us.getD i []))):=λi u v hv=>by
  obtain⟨a,b⟩:=h i v hv;have m:=p.may i v hv;have o:=A.one v (au hv);generalize j6 d X (vc (us.getD i []))=e at a b;generalize vc f i=w at m ⊢;have:v=0\/v=1\/v = -1:=by lia
  rcases this with rfl|rfl|rfl
  .rw[a rfl];simp
  .have n:=b (by decide);have r:((1:Int):Rat)=1:=rfl;rw[r]at n;have j:(0:Rat)<e:=by grind
   have y:0<=w:=by lia
   have s:(0:Rat)<=(w:Rat):=by exact_mod_cast y
   refine⟨gQ s (fV j),λz=>fU (mU (by lia)) j⟩
  .have n:=b (by decide);have r:((-1:Int):Rat) = -1:=rfl;rw[r]at n;have j:(0:Rat) < -e:=by grind
   have y:0<=-w:=by lia
   have s:(0:Rat)<=((-w:Int):Rat):=by exact_mod_cast y
   have F:=gQ s (fV j);have C:((-w:Int):Rat) = -(w:Rat):=by simp
   rw[C]at F;refine⟨by grind,λz=>?_⟩;have D:=fU (mU (show 0 < -w by lia)) j;rw[C]at D;grind
 have all:∀i,i<us.length->0<=(vc f i:Rat)*j6 d X (vc (us.getD i [])):=λi u=>by
  have:i<l.length:=by rw[A.len];exact u
  exact (g i u _ (ag this)).1
 obtain⟨I,E⟩:=Co us.length (λi=>vc (us.getD i [])) (vc f) all;have z:j6 d X (Lt us.length (λi=>vc (us.getD i [])) (vc f)) = -((Lt us.length (λi=>vc (us.getD i [])) (vc f) d:Int):Rat):=pU λk H=>p.zer k H;rcases p.fin with q|⟨q,i,v,hv,x⟩
 .have:=mU (show 0<Lt us.length (λi=>vc (us.getD i [])) (vc f) d from q);grind
 .have B:i<us.length:=by rw[<-A.len];exact (aa.mp hv).1
  have:=E ⟨i,B,(g i B v hv).2 x⟩;rw[z]at this;have e:Lt us.length (λi=>vc (us.getD i [])) (vc f) d=0:=q;rw[e]at this;simp at this
noncomputable def hv(d:Nat)(u P:Vc):Int:=sm d (λi=>u i*P i)-u d*P d
def XP(d:Nat)(P:Vc):Nat->Rat:=λi=>(P i:Rat) / (P d:Rat)
def KA(h:0<P d):(hv d u P:Rat)=(P d:Rat)*j6 d (XP d P) u:=by
 have b:(P d:Rat)≠0:=λz=>by have:=mU h;grind
 have e:(P d)*n6 d (λi=>(u i)*XP d P i)=n6 d λi=>(u i)*(P i):=by have:=rC (P d) 0 d (λi=>(u i)*XP d P i) (λ_=>0);rw[ko d _ (λi=>(u i)*(P i)) λi _=>by unfold XP;grind]at this;grind
 unfold hv j6;have a:((sm d (λi=>u i*P i)-u d*P d:Int):Rat)=n6 d (λi=>(u i)*(P i))-(u d)*(P d):=by rw[Rat.intCast_sub,yU,fT];rw[ko d _ (λi=>(u i)*(P i)) λi _=>fT _ _]
 rw[a];grind
def Nl(h:0<P d):lL (hv d u P)=tR (j6 d (XP d P) u):=N1 h (KA h)
def Ss(h:∀i,g*z i=a*x i+b*y i):g*hv d z P=a*hv d x P+b*hv d y P:=by
 unfold hv;rw[hW,hW,hW,<-nE,<-nE,<-nE];have e:sm d (λi=>g*(z i*P i))=sm d (λi=>a*(x i*P i))+sm d (λi=>b*(y i*P i)):=by rw[nE a,nE b,<-vI];exact lM d _ _ λi _=>by have:=h i;grind
 rw[e];grind
def ON(h:∀i,g*R i=a*P i+b*Q i):g*hv d u R=a*hv d u P+b*hv d u Q:=by
 unfold hv;rw[hW,hW,hW,<-nE,<-nE,<-nE];have e:sm d (λi=>g*(u i*R i))=sm d (λi=>a*(u i*P i))+sm d (λi=>b*(u i*Q i)):=by rw[nE a,nE b,<-vI];exact lM d _ _ λi _=>by have:=h i;grind
 rw[e];grind
noncomputable def sk(p i:Nat):Nat:=if i<p then i else i+1
def Pl p i:sk (p+1) (i+1)=sk p i+1:=by unfold sk;split<;>split<;>lia
theorem GS:∀d p f,p<=d->n6 (d+1) f=n6 d (λi=>f (sk p i))+f p
 |0,0,f,_=>by unfold n6 n6;grind
 |d+1,0,f,_=>by
  rw[n6];have:(λi=>f (sk 0 i))=λi=>f (i+1):=funext λi=>by simp[sk]
  rw[this];grind
 |d+1,p+1,f,h=>by
  rw[n6,GS d p (λi=>f (i+1)) (fw h)];have:n6 (d+1) (λi=>f (sk (p+1) i))=f 0+n6 d (λi=>f (sk p i+1)):=by rw[n6];congr 1;exact ko d _ _ λi _=>by rw[Pl]
  rw[this];grind
def Vx d p f (h:p<=d):sm (d+1) f=sm d (λi=>f (sk p i))+f p:=by have:=GS d p (λi=>(f i)) h;rw[<-yU,<-yU]at this;exact_mod_cast this
def TJ(h:p<=d):sk p d=d+1:=by unfold sk;rw[aR (cv h)]
def Lh(h:p<=d) X u:j6 (d+1) X u=j6 d (λi=>X (sk p i)) (λi=>u (sk p i))+(u p:Rat)*X p:=by unfold j6;rw[GS d p _ h];dsimp only;rw[TJ h];grind
def Rj(h:p<=d) u P:hv (d+1) u P=hv d (λi=>u (sk p i)) (λi=>P (sk p i))+u p*P p:=by unfold hv;rw[Vx d p _ h];dsimp only;rw[TJ h];lia
def On(d:Nat)(us:LL)(s:LI)(X:Nat->Rat):Prop:=∀i,i<us.length->0<(vc s i:Rat)*j6 d X (vc (us.getD i []))
def Rz(d:Nat)(us:LL)(s:LI):Prop:=∃X,On d us s X
def Rx(d:Nat)(us:LL)(u s:LI):Prop:=∃X,j6 d X (vc u)=0/\On d us s X
def RE(k:On d us s X)(h:On d us s Y)(a:0<=j6 d X (vc u))(b:j6 d Y (vc u)<=0):Rx d us u s:=by
 by_cases o:j6 d X (vc u)=0
 .exact⟨X,o,k⟩
 by_cases q:j6 d Y (vc u)=0
 .exact⟨Y,q,h⟩
 have r:0<j6 d X (vc u):=by grind
 have C:0 < -j6 d Y (vc u):=by grind
 generalize H:j6 d X (vc u)=A at *;generalize E:-j6 d Y (vc u)=B at *;have f:A+B≠0:=by grind
 have D:0<A+B:=by grind
 have g:=λw=>Om (d:=d) (X:=X) (Z:=Y) f w;refine⟨λj=>(B*X j+A*Y j) / (A+B),?_,λi l=>?_⟩
 .have:=g (vc u);have e:(A+B)*j6 d (λj=>(B*X j+A*Y j) / (A+B)) (vc u)=0:=by grind
  rcases ie.mp e with z|z
  .exact absurd z f
  .exact z
 .have n:=k i l;have m:=h i l;have:=g (vc (us.getD i []));generalize j6 d (λj=>(B*X j+A*Y j) / (A+B)) (vc (us.getD i []))=Z at *;generalize j6 d X (vc (us.getD i []))=x at *;generalize j6 d Y (vc (us.getD i []))=y at *;have I:=fU C n;have F:=fU r m;generalize (vc s i)=v at *;have e:(A+B)*(v*Z)=B*(v*x)+A*(v*y):=by rw[show (A+B)*(v*Z)=v*((A+B)*Z) by grind,this];grind
  have p:0<(A+B)*(v*Z):=by rw[e];grind
  refine gM (c:=A+B) ?_ (by grind);rw[ig];exact p
theorem LR:∀d f,(∀i,i<d->Bn N (f i))->Bn (N+d) (sm d f)
 |0,_,_=>qt
 |d+1,f,h=>by rw[sm];exact ((h 0 (bW _)).add (LR d (λi=>f (i+1)) λi a=>h (i+1) (bJ a))).mono (by lia)
def RA{B M d:Nat}(b:∀x∈u,Bn B x)(a:∀x∈P,Bn M x):Bn (B+M+d+1) (hv d (vc u) (vc P)):=((LR d _ λi _=>(rV b i).mul (rV a i)).sub ((rV b d).mul (rV a d))).mono (by lia)
def QO(e:N<=20000) a b (i:a.length<=100) (h:∀x∈a,Bn N x) (f:∀x∈b,Bn N x):vX c [tI a,tI b]=.ok (.int (SC a b)):=by
 have sz:1000<sizeLine:=by decide
 have g:lH [none,none] (nF b3) ah (λ_=>.ok true) (MY c) (vw (jG 2 [tI a,tI b]))=.ok (((a.zip b).map λp=>p.1*p.2).map T.int):=j5 (a.zip b) (λp=>T.tup [.int p.1,.int p.2]) (λp=>T.int (p.1*p.2)) (nG rfl rfl rfl rfl) (by rw[eR];lia) (λp d=>⟨_,rfl,rfl,iP rfl rfl (jx ((h _ (aW d).1).ok (f _ (aW d).2) (aN e (by decide)) (aN e (dM _ _))))⟩) (by rw[aI];rfl)
 exact jh rfl (i7 (mP g (Ni _)))
theorem Il:∀d a b,a.length=d->b.length=d->SC a b=sm d λi=>vc a i*vc b i
 |0,[],[],_,_=>rfl
 |d+1,x::a,y::b,ha,hb=>by show x*y+SC a b=_;rw[Il d a b (by simpa using ha) (by simpa using hb)];rfl
def zr(h:u.length=d+1)(a:i<d):vc u.dropLast i=vc u i:=by rw[kL _ i (by simp;exact h▸a),kL _ i (cT a (bB h.symm)),ij]
def DD(h:u.length=d+1):jA (tI u) (.int (-1))=.ok (.int (vc u d)):=by
 have a:u≠[]:=λz=>by rw[z]at h;simp at h
 have e:u.getLast? = some (vc u d):=by rw[List.getLast?_eq_some_getLast a,kL u d (bB h.symm),List.getLast_eq_getElem];simp[h]
 simp[tI,qA,AZ,a,e]
def B3(h:u.length=d+1)(a:f ρ=.ok (tI u)):kM f (λ_=>.ok none) (jL (pW (λi=>.int (-i)) ab)) ρ=.ok (tI u.dropLast):=by
 have:=zW a λz=>by have:=congrArg List.length z;simp at this;rw[this]at h;simp at h
 rw[<-eM]at this;exact this
def MW(r:B<=20000)(q:B'<=20000)(p:d<=50)(h:u.length=d+1)(b:P.length=d+1)(l:∀x∈u,Bn B x)(o:∀x∈P,Bn B' x)(n:f ρ=.ok (tI u))(m:g ρ=.ok (tI P)) :
  iV (iL (kM f (λ_=>.ok none) (jL (pW (λi=>.int (-i)) ab))) (iL (kM g (λ_=>.ok none) (jL (pW (λi=>.int (-i)) ab))) iQ)) (vX c) ρ=.ok (.int (sm d λi=>vc u i*vc P i)):=by
 have a:u.dropLast.length=d:=by simp[h]
 have e:P.dropLast.length=d:=by simp[b]
 refine jv (B3 h n) (B3 b m) ((QO (N:=max B B') (by lia) _ _ (by lia) (λx j=>(l x (eK _ j)).mono (by lia)) λx j=>(o x (eK _ j)).mono (by lia)).trans ?_);rw[Il d _ _ a e];congr 2;exact lM d _ _ λi k=>by rw[zr h k,zr b k]
def vO{d B M:Nat}(h:B<=20000)(f:M<=20000)(i:d<=50)(g:u.length=d+1)(b:P.length=d+1)(a:∀x∈u,Bn B x)(e:∀x∈P,Bn M x):mh c [tI u,tI P]=.ok (.int (hv d (vc u) (vc P))):=jh rfl (i7 (iP (MW h f i g b a e rfl rfl) (iP (iP rfl (pZ rfl) (DD g)) (iP rfl (pZ rfl) (DD b)) (jx ((rV a d).ok (rV e d) (aN h (by decide)) (aN f (dM _ _))))) (nT _ _)))
def wo(row:LI)(p:Nat):LI:=row.take p++row.drop (p+1)
def Ko(h:p<row.length):(wo row p).length+1=row.length:=by unfold wo;simp;lia
def L6(h:p<row.length) i:vc (wo row p) i=vc row (sk p i):=by
 unfold wo sk;rw[qK,bS,ez (bg h)];by_cases a:i<p
 .rw[aQ a,aQ a,kL _ i (by simp;lia),kL _ i (cT a h),ik]
 .rw[aR a,aR a,Ee];congr 1;lia
def ND(h:x∈wo row p):x∈row:=(ai.mp h).elim g9 gY
def sj row (p:Nat) (b:p<row.length) (f:row.length<=100):kS c [tI row,.int (p:Int)]=.ok (tI (wo row p)):=by have a:=xb (fe:=iM 0) (fd:=iM 1) (ρ:=vw (jG 2 [tI row,.int (p:Int)])) rfl rfl (by rw[aw];exact bg b);have e:=ES (fe:=iM 0) (fd:=iU jU bd ab) (d:=p+1) (ts:=row.map T.int) (ρ:=vw (jG 2 [tI row,.int (p:Int)])) rfl (iP rfl rfl (by rw[jY];simp)) (bW _) (by intro z;have:=congrArg List.length z;simp at this;subst this;simp at b);rw[<-dU]at a;rw[<-dW]at e;exact jh rfl (i7 (iP (x:=tI (row.take p)) (y:=tI (row.drop (p+1))) a e (sQ _ _ (by simp;omega))))
structure Gp(d M:Nat)(P:LI):Prop where
 len:P.length=d+1
 bn:∀x∈P,Bn M x
 pos:0<vc P d
def Aw i:zC [.int i]=.ok (.int (i.natAbs:Int)):=by show M.ok (T.int (if i<0 then -i else i))=_;congr 2;split<;>lia
def K6(h:Bn N x):Bn N (x.natAbs:Int):=by unfold Bn at *;simpa using h
def Ea{d B M:Nat}(r:B<=2000)(H:M<=5000)(m:d<=50)(hu:u.length=d+2)(l:∀x∈u,Bn B x)(hp:p<=d)(e:Gp d M P) :
  ∃Q g,n5 c [tI u,.int (p:Int),tI P]=.ok (tI Q)/\Q.length=d+2/\(∀x∈Q,Bn (B+M+d+1) x)/\0<g/\(∀i,g*vc Q (sk p i)=((vc u p).natAbs:Int)*vc P i)/\g*vc Q p = -lL (vc u p)*hv d (λi=>vc u (sk p i)) (vc P):=by
 have sz:1000<sizeLine:=by decide
 have q:=lX u p (by lia);have C:=rV l p;have wl:=Ko (row:=u) (p:=p) (by lia);have I:∀x∈wo u p,Bn B x:=λx f=>l x (ND f);have R:vc (wo u p)=λi=>vc u (sk p i):=funext λi=>L6 (by lia) i;have v:=vO (c:=c) (d:=d) (B:=B) (M:=M) (aN r (by decide)) (aN H (by decide)) m (by lia) e.len I e.bn;have k:=RA (d:=d) I e.bn;rw[R]at v k;generalize hH:hv d (λi=>vc u (sk p i)) (vc P)=h at *;have Z:=xY (vc u p);have bs:Bn 1 (-lL (vc u p)):=by unfold Bn;omega
 have j:Bn (B+M+d+1) (-lL (vc u p)*h):=by
  have:=Z;unfold Bn at k ⊢;rw[aY];have b:(-lL (vc u p)).natAbs<=1:=by omega
  exact cD (aN (gS _ b) (by lia)) k
 let a:LI:=P.map λx=>((vc u p).natAbs:Int)*x;have J:a.length=d+1:=by simp[a,e.len]
 have F:∀x∈a,Bn (B+M+d+1) x:=λx f=>by obtain⟨y,X,rfl⟩:=aD.mp f;exact ((K6 C).mul (e.bn y X)).mono (by lia)
 have w:∀i,vc a i=((vc u p).natAbs:Int)*vc P i:=uo P _;let row:LI:=(a.take p++[-lL (vc u p)*h])++a.drop p;have D:row.length=d+2:=by simp[row,J];lia
 have K:∀x∈row,Bn (B+M+d+1) x:=λx f=>by
  rcases ai.mp f with z|z
  .rcases ai.mp z with z|z
   .exact F x (g9 z)
   .rw[aj.mp z];exact j
  .exact F x (gY z)
 obtain⟨g,ys,hg,el,yl,s,Y⟩:=uL (c:=c) (B+M+d+1) (by lia) row (cD (bB D) (cD (eI m _) (by decide))) K;have A:∀i,vc row i=if i<p then vc a i else if i=p then -lL (vc u p)*h else vc a (i-1):=λi=>by
  show vc ((a.take p++[-lL (vc u p)*h])++a.drop p) i=_;have o:(a.take p).length=p:=by rw[bS];lia
  rw[qK,qK,aT,o,cw];by_cases b:i<p
  .rw[aQ (cH b),aQ b,aQ b,kL _ i (by rw[o];exact b),kL _ i (by lia),ik]
  .by_cases n:i=p
   .subst n;rw[aQ (bM _),aR b,aR b,aQ rfl,gR];rfl
   .rw[aR (by lia),aR b,aR n,Ee];congr 1;lia
 refine⟨ys,g,?_,yl.trans D,Y,hg,λi=>?_,?_⟩
 .let S (N x4 L:Option W):En:=[some (.p (tI u)),some (.p (.int (p:Int))),some (.p (tI P)),N,x4,L];have e5:lH [none,some 3] (jP bi) b0 (λ_=>.ok true) (yA c) (qH (S (some (.p (.int ((vc u p).natAbs:Int)))) (some (.p (.int (-lL (vc u p)*h)))) none))=.ok (a.map T.int):=
   j5 P T.int (λx=>T.int (((vc u p).natAbs:Int)*x)) rfl (by have:=e.len;lia) (λx f=>⟨_,rfl,rfl,iP rfl rfl (jx ((K6 C).ok (e.bn x f) (aN r (by decide)) (aN H (by decide))))⟩) (by simp[a])
  have E:=xb (fe:=iM 5) (fd:=iM 1) (d:=p) (ts:=a.map T.int) (ρ:=vw (S (some (.p (.int ((vc u p).natAbs:Int)))) (some (.p (.int (-lL (vc u p)*h)))) (some (.p (tI a))))) rfl rfl (by rw[aw];lia);have U:kM bw (jL bd) (λ_=>.ok none) (vw (S (some (.p (.int ((vc u p).natAbs:Int)))) (some (.p (.int (-lL (vc u p)*h)))) (some (.p (tI a)))))=.ok (tI (a.drop p)):=by have:kM bw (jL bd) (λ_=>.ok none) (vw (S (some (.p (.int ((vc u p).natAbs:Int)))) (some (.p (.int (-lL (vc u p)*h)))) (some (.p (tI a)))))=.ok (.tup (pC (a.map T.int) (some (p:Int)) none)):=rfl;rw[this,uK,<-dW];rfl
  rw[<-dU]at E;exact jh rfl (iR (ρ':=S (some (.p (.int ((vc u p).natAbs:Int)))) none none) (iY (nV (iP rfl rfl q) (Aw _)) rfl) (iR (ρ':=S (some (.p (.int ((vc u p).natAbs:Int)))) (some (.p (.int (-lL (vc u p)*h)))) none) (iY (iP (pZ (nU (iP rfl rfl q) (pE _))) (jv (jv rfl rfl (sj u p (by lia) (by lia))) rfl v) (jx (bs.ok k (by lia) (by lia)))) rfl) (iR (ρ':=S (some (.p (.int ((vc u p).natAbs:Int)))) (some (.p (.int (-lL (vc u p)*h)))) (some (.p (tI a)))) (iY (mP e5 (by simp;rfl)) rfl) (i7 (nU (iP (x:=tI (a.take p++[-lL (vc u p)*h])) (y:=tI (a.drop p)) (iP (x:=tI (a.take p)) (y:=tI [-lL (vc u p)*h]) E (Bp rfl) (sQ _ _ (by simp;lia))) U (sQ _ _ (by simp;lia))) el)))))
 .rw[<-s,A];unfold sk;by_cases b:i<p
  .rw[aQ b,aQ b];exact w i
  .rw[aR b,aR (cv (aN (cC b) (cJ _ _))),aR (bC (cD (cC b) (bM _)))];exact w i
 .rw[<-s,A,aR (by lia),aQ rfl]
def Km i j:BI [.int i,.int j]=.ok (.int (max i j)):=by simp;split<;>lia
def Qa{a m:Int}(d:0<=a)(b:0<m):a<(a.fdiv m+1)*m/\0<=a.fdiv m/\a.fdiv m<=a:=by rw[Int.fdiv_eq_ediv_of_nonneg _ (aA b)];exact⟨Int.lt_ediv_add_one_mul_self a b,Int.ediv_nonneg d (aA b),Int.ediv_le_self _ d⟩
def Cz(H:B<=2000)(K:N<=5000)(J:2*B+N+d+3<=900000)(E:d<=50){us:LL}(R:∀w∈us,w.length=d+1/\∀x∈w,Bn B x)(hn:us.length<=100)(C:u.length=d+1)(D:∀x∈u,Bn B x)(b:Gp d N P)(L:∀w∈us,hv d (vc w) (vc P)≠0)(hs:s = -1\/s=1) :
  ∃Q g o,mw c [.lst (us.map tI),tI u,tI P,.int s]=.ok (tI Q)/\Q.length=d+1/\(∀x∈Q,Bn (2*B+N+d+3) x)/\0<g/\1<=o/\(∀i,i<d->g*vc Q i=o*vc P i+s*vc u i)/\g*vc Q d=o*vc P d/\
   ∀w∈us,((sm d λi=>vc w i*vc u i).natAbs:Int)<o*((hv d (vc w) (vc P)).natAbs:Int):=by
 have sz:1000<sizeLine:=by decide
 let S (o:Int) (l f x7:Option W):En:=[some (.p (.lst (us.map tI))),some (.p (tI u)),some (.p (tI P)),some (.p (.int s)),some (.p (.int o)),l,f,x7];obtain⟨ρ',e',o,l,f,rfl,o1,v,A⟩:=kj (m:=lq 5) (g:=wD c) tI
  (λk X=>∃o l f,X=S o l f none/\1<=o/\Bn (2*B+d+1) o/\∀w∈us.take k,((sm d λi=>vc w i*vc u i).natAbs:Int)<o*((hv d (vc w) (vc P)).natAbs:Int)) us 0 (S 1 none none none)
  ⟨1,none,none,rfl,by decide,(by unfold Bn;exact aE (by decide:(1:Int).natAbs<2 ^ 1) (dY (by decide) (bW _))),λw hw=>by simp at hw⟩ (by
   rintro k w X hk ⟨o,l,f,rfl,o1,v,A⟩;rw[aG]at A ⊢;have hw:=au hk;obtain⟨U,wb⟩:=R w hw;have dt:iV (iL (kM bw (λ_=>.ok none) (jL (pW (λi=>.int (-i)) ab))) (iL (kM bd (λ_=>.ok none) (jL (pW (λi=>.int (-i)) ab))) iQ)) (vX c) (qH (S o (some (.p (tI w))) f none))=.ok (.int (sm d λi=>vc w i*vc u i)):=MW (B:=B) (B':=B) (aN H (by decide)) (aN H (dM _ _)) E U C wb D rfl rfl;have la:=vO (c:=c) (d:=d) (B:=B) (M:=N) (by lia) (aN K (by decide)) E U b.len wb b.bn;have hb:=RA (d:=d) wb b.bn;have Y:=L w hw;have sb:Bn (2*B+d) (sm d λi=>vc w i*vc u i):=(LR d _ λi _=>(rV wb i).mul (rV D i)).mono (by lia);generalize hh:hv d (vc w) (vc P)=h at *;generalize I:(sm d λi=>vc w i*vc u i)=st at *;obtain⟨f1,f2,f3⟩:=Qa (a:=(st.natAbs:Int)) (m:=(h.natAbs:Int)) (bE _) (by simp[Y]);generalize r:(st.natAbs:Int).fdiv (h.natAbs:Int)=q at *;refine⟨_,S (max o (q+1)) (some (.p (tI w))) (some (.p (.int (st.natAbs:Int)))) none,rfl,.inl (iR (ρ':=S o (some (.p (tI w))) (some (.p (.int (st.natAbs:Int)))) none) (iY (nV dt (Aw _)) rfl) (iY ?_ rfl)),max o (q+1),_,_,rfl,by omega,?_,?_⟩
   .have e1:iU jU (iU qj da (lC zC (iL (iV (iL bw be) (mh c)) iQ))) ab (qH (S o (some (.p (tI w))) (some (.p (.int (st.natAbs:Int)))) none))=.ok (.int (q+1)):=iP (iP rfl (nV (jv rfl rfl la) (Aw _)) ((mY (by simp[Y])).trans (by rw[r]))) rfl (jY _ _);simp only[lC,iL,iQ,e1,M.bind_ok];exact Km o (q+1)
   .have:Bn (2*B+d+1) (q+1):=by unfold Bn at sb ⊢;rw[d7];omega
    unfold Bn at *;omega
   .intro z hz;rw[ki us k w hk]at hz;rcases ai.mp hz with y|y
    .have:=A z y;refine dR this (aJ (by omega) (bE _))
    .rw[aj.mp y,I,hh];have hm:(q+1)*(h.natAbs:Int)<=max o (q+1)*(h.natAbs:Int):=aJ (by omega) (bE _);exact dR f1 hm)
 rw[aG,eZ]at A;let e:LI:=(P.dropLast.zip u.dropLast).map λq=>o*q.1+s*q.2;have l1:P.dropLast.length=d:=by simp[b.len]
 have l2:u.dropLast.length=d:=by simp[C]
 have n:e.length=d:=by simp[e,b.len,C]
 have sB:Bn 1 s:=by rcases hs with rfl|rfl<;>(unfold Bn;decide)
 have pv:∀i,i<d->vc e i=o*vc P i+s*vc u i:=λi j=>by rw[<-zr b.len j,<-zr C j,kL _ i (aE j (bB n.symm)),kL _ i (aE j (bB l1.symm)),kL _ i (aE j (bB l2.symm))];simp[e]
 have pb:∀x∈e,Bn (2*B+N+d+3) x:=λx F=>by obtain⟨q,r,rfl⟩:=aD.mp F;obtain⟨q1,q2⟩:=aW r;exact ((v.mul (b.bn _ (eK _ q1))).add (sB.mul (D _ (eK _ q2)))).mono (by lia)
 have lb:Bn (2*B+N+d+3) (o*vc P d):=(v.mul (rV b.bn d)).mono (by lia);obtain⟨g,ys,hg,el,yl,Z,yb⟩:=uL (c:=c) (2*B+N+d+3) J (e++[o*vc P d]) (by simp[n];exact cD (eI E _) (by decide)) λx F=>(ai.mp F).elim (pb x) λz=>by rw[aj.mp z];exact lb
 have e7:lH [none,none,some 4,some 3] (nF (iL (kM bi (λ_=>.ok none) (jL (pW (λi=>.int (-i)) ab))) (iL (kM bd (λ_=>.ok none) (jL (pW (λi=>.int (-i)) ab))) iQ))) ah (λ_=>.ok true) (w6 c) (qH (S o l f none))=.ok (e.map T.int):=j5 (P.dropLast.zip u.dropLast) (λq=>T.tup [.int q.1,.int q.2]) (λq=>T.int (o*q.1+s*q.2)) (nG (B3 b.len rfl) rfl (B3 C rfl) rfl) (by rw[eR];lia) (λq r=>⟨_,rfl,rfl,iP (iP rfl rfl (jx (v.ok (b.bn _ (eK _ (aW r).1)) (by lia) (aN K (by decide))))) (iP rfl rfl (jx (sB.ok (D _ (eK _ (aW r).2)) (by lia) (aN H (by decide))))) (jY _ _)⟩) (by simp only[e,aI];rfl)
 refine⟨ys,g,o,jh rfl (iR (ρ':=S 1 none none none) (iY rfl rfl) (iR (ku rfl e') (iR (ρ':=S o l f (some (.p (.lst (e.map T.int))))) (iY (j3 e7) rfl) (i7 (nU (iP (x:=tI e) (y:=tI [o*vc P d]) (nV (t:=.lst (e.map T.int)) rfl (by simp;rfl)) (Bp (iP rfl (iP rfl (pZ rfl) (DD b.len)) (jx (v.ok (rV b.bn d) (by lia) (aN K (dM _ _)))))) (sQ _ _ (by simp[n];exact aN E (dM _ _)))) el))))),by rw[yl];simp[n],yb,hg,o1,λi j=>?_,?_,A⟩
 .rw[<-Z,qK,aQ (aE j (bB n.symm)),pv i j]
 .rw[<-Z,qK,aR (cv (bB n)),n,gR];rfl
def zc(j:0<a)(g:0<b)(e:a*x=b*y):lL x=lL y:=by
 have d:∀{p q z w:Int},0<p->0<q->p*z=q*w->0<w->0<z:=λ{p q z w} hp hq e hw=>by
  have f:0<p*z:=by rw[e];exact aX hq hw
  exact iq f hp |> λh=>h
 have k:a * -x=b * -y:=by rw[dE,dE,e]
 unfold lL;by_cases f:0<x
 .rw[aQ f,aQ (d g j e.symm f)]
 .rw[aR f,aR λz=>f (d j g e z)];by_cases i:x<0
  .rw[aQ i,aQ (by have:=d g j k.symm (fQ i);lia)]
  .rw[aR i,aR λz=>i (by have:=d j g k (fQ z);lia)]
noncomputable def jt:Nat->LL
 |0=>[[]]
 |n+1=>(jt n).flatMap λs=>[s++[-1],s++[1]]
theorem tT:∀{n} {s},s∈jt n->s.length=n/\∀x∈s,x = -1\/x=1
 |0,s,h=>by rw[aj.mp h];exact⟨rfl,λ_ z=>nomatch z⟩
 |n+1,s,h=>by
  obtain⟨r,hr,a⟩:=gI.mp h;obtain⟨b,d⟩:=tT hr;have go:∀v:Int,(v = -1\/v=1)->(r++[v]).length=n+1/\∀x∈r++[v],x = -1\/x=1:=λv hv=>⟨by simp[b],λx e=>(ai.mp e).elim (d x) λz=>by rw[aj.mp z];exact hv⟩;simp only[aF,dS,or_false]at a;rcases a with rfl|rfl
  .exact go _ (.inl rfl)
  .exact go _ (.inr rfl)
theorem EU:∀n:Nat,(jt n).length=2 ^ n
 |0=>rfl
 |n+1=>by rw[jt,List.length_flatMap];have:(jt n).map (λs=>([s++[-1],s++[1]]:LL).length)=(jt n).map λ_=>2:=gE λ_ _=>rfl;rw[this,iw,List.sum_replicate_nat,EU n,d7]
def FL(h:s∈jt n)(d:i<n):vc s i=1\/vc s i = -1:=by obtain⟨a,b⟩:=tT h;rw[kL s i (aE d (bB a.symm))];exact (b _ (aV _)).symm
def q9(p:LI×LI):T:=.tup [tI p.1,tI p.2]
structure Gu(d B:Nat)(u:LI):Prop where
 len:u.length=d+1
 bn:∀x∈u,Bn B x
 ne:∃i,vc u i≠0
def Jd(p:Prop):Bool:=@decide p (Classical.propDecidable p)
@[simp] theorem Hj:Jd p=true↔p:=@decide_eq_true_iff p (Classical.propDecidable p)
def Qz(h:p):Jd p=true:=Hj.mpr h
def SJ(h:¬p):Jd p=false:=by
 cases e:Jd p with
 |false=>rfl
 |true=>exact absurd (Hj.mp e) h
def flt(n:Nat)(p:LI->Prop):LL:=(jt n).filter λs=>Jd (p s)
def Ji(h:∀s∈jt n,p s↔q s):flt n p=flt n q:=iy λs a=>by rw[show p s=q s from propext (h s a)]
def yV:s∈flt n p↔s∈jt n/\p s:=by simp[flt]
def DY(h:∀s,¬p s):flt n p=[]:=List.filter_eq_nil_iff.mpr λs _=>by simp[h s]
def ze n p:(flt n p).length<=2 ^ n:=by rw[<-EU];exact gF _ _
structure Oi(d N:Nat)(us:LL)(L:List (LI×LI)):Prop where
 fst:L.map Prod.fst=flt us.length (Rz d us)
 gp:∀p∈L,Gp d N p.2
 sg:∀p∈L,∀i,i<us.length->lL (hv d (vc (us.getD i [])) (vc p.2))=vc p.1 i
def Kl(b:0<vc P d)(h:∀i,i<us.length->lL (hv d (vc (us.getD i [])) (vc P))=vc s i)(f:∀i,i<us.length->vc s i=1\/vc s i = -1):On d us s (XP d (vc P)):=λi a=>by
 have e:=h i a;rw[Nl b]at e;generalize j6 d (XP d (vc P)) (vc (us.getD i []))=v at *;unfold tR at e;rcases f i a with q|q<;>rw[q]at e ⊢
 .have o:((1:Int):Rat)=1:=rfl;rw[o];split at e
  .grind
  .split at e<;>cases e
 .have o:((-1:Int):Rat) = -1:=rfl;rw[o];split at e
  .cases e
  .split at e
   .grind
   .cases e
def wU{us:LL}(a:us.length=n)(f:LI->LI)(b:i<n):(us.map f).getD i []=f (us.getD i []):=by rw[af,av,ag (aE b (bB a.symm)),af,ag (aE b (bB a.symm))];rfl
def yY{us:LL}(a:i<us.length):us.getD i []∈us:=by rw[af,ag a];exact aV _
def Re{a b:Int}(i:0<a)(f:0<b)(e:(a:Rat)*x=(b:Rat)*y)(h:0<v*y):0<v*x:=by
 have k:=mU i;have d:=mU f;have g:a*(v*x)=b*(v*y):=by grind
 have j:0<a*(v*x):=by rw[g];exact fU d h
 refine gM (c:=a) ?_ (by grind);rw[ig];exact j
def JZ(x:p<=d)(D:vc u p≠0)(f:LI->LI)(o:∀w∈us,vc (f w) p=0/\p<(f w).length/\∃g s b:Int,0<g/\0<s/\∀i,g*vc (f w) i=s*vc w i+b*vc u i) s:Rz d (us.map λw=>wo (f w) p) s↔Rx (d+1) us u s:=by
 have y:∀X:Nat->Rat,∀w∈us,j6 (d+1) X (vc (f w))=j6 d (λi=>X (sk p i)) (vc (wo (f w) p)):=λX w hw=>by obtain⟨C,B,-⟩:=o w hw;rw[Lh x,C,show vc (wo (f w) p)=λi=>vc (f w) (sk p i) from funext λi=>L6 B i];grind
 constructor
 .rintro⟨X,n⟩;let Y:Nat->Rat:=λj=>if j=p then -j6 d X (λi=>vc u (sk p i)) / (vc u p:Rat) else X (if j<p then j else j-1)
  have A:(λi=>Y (sk p i))=X:=funext λi=>by
   show (if sk p i=p then _ else X (if sk p i<p then sk p i else sk p i-1))=X i;unfold sk;by_cases q:i<p
   .rw[aQ q,aR (aM q),aQ q]
   .rw[aR q,aR (bC (cD (cC q) (bM _))),aR (cv (aN (cC q) (cJ _ _)))];congr 1
  have E:(vc u p:Rat)≠0:=λz=>D (by exact_mod_cast z);have k:j6 (d+1) Y (vc u)=0:=by
   rw[Lh x,A];have:Y p = -j6 d X (λi=>vc u (sk p i)) / (vc u p:Rat):=by show (if p=p then _ else _)=_;rw[aQ rfl]
   rw[this];grind
  refine⟨Y,k,λi h=>?_⟩;have hw:=yY h;obtain⟨-,-,g,a,b,v,r,e⟩:=o _ hw;have m:=n i (by simpa using h);rw[wU rfl _ h]at m;have t:=y Y _ hw;rw[A]at t;rw[<-t]at m;have l:=rq (d:=d+1) (X:=Y) _ _ _ g a b e;rw[k]at l;exact Re r v (by grind) m
 .rintro⟨X,k,n⟩;refine⟨λi=>X (sk p i),λi h=>?_⟩;rw[aw]at h;have hw:=yY h;obtain⟨-,-,g,a,b,v,r,e⟩:=o _ hw;rw[wU rfl _ h,<-y X _ hw];have l:=rq (d:=d+1) (X:=X) _ _ _ g a b e;rw[k]at l;exact Re v r (by grind) (n i h)
def AQ(o:p<=d)(y:vc u p≠0)(j:0<g0)(C:∀i,g0*vc Q (sk p i)=((vc u p).natAbs:Int)*vc P i)(k:g0*vc Q p = -lL (vc u p)*hv d (λi=>vc u (sk p i)) (vc P)) :
  hv (d+1) (vc u) (vc Q)=0/\(vc r p=0->p<r.length->(∃g s b:Int,0<g/\0<s/\∀i,g*vc r i=s*vc w i+b*vc u i)->lL (hv (d+1) (vc w) (vc Q))=lL (hv d (vc (wo r p)) (vc P))):=by
 have A:0<((vc u p).natAbs:Int):=by simp[y]
 have f:∀x:Vc,g0*hv d x (λi=>vc Q (sk p i))=((vc u p).natAbs:Int)*hv d x (vc P):=λx=>by
  have:=ON (d:=d) (u:=x) (P:=vc P) (Q:=vc P) (R:=λi=>vc Q (sk p i)) (g:=g0) (a:=((vc u p).natAbs:Int)) (b:=0) λi=>by rw[C i];lia
  simp[this]
 have z:hv (d+1) (vc u) (vc Q)=0:=by
  have e:=Rj o (vc u) (vc Q);have m:=f λi=>vc u (sk p i);have B:=Ig (vc u p);generalize hv d (λi=>vc u (sk p i)) (vc P)=h at *;have:g0*hv (d+1) (vc u) (vc Q)=0:=by rw[e,fv,m,show g0*(vc u p*vc Q p)=vc u p*(g0*vc Q p) by grind,k,<-B];grind
  rcases eT.mp this with q|q
  .lia
  .exact q
 refine⟨z,λr0 rl ⟨g,a,b,hg,ha,e⟩=>?_⟩;have l:=Ss (d:=d+1) (P:=vc Q) e;rw[z]at l;have n:=Rj o (vc r) (vc Q);rw[r0]at n;have v:=funext λi=>L6 rl i;rw[v];have m:=f λi=>vc r (sk p i);rw[<-zc j A m];refine zc ha hg ?_;rw[show hv d (λi=>vc r (sk p i)) (λi=>vc Q (sk p i))=hv (d+1) (vc r) (vc Q) by simp[n]];simp[l]
def JW(h:f ρ=.ok (.tup ts)):rZ (iL f iQ) ρ=.ok (qg ts):=by simp only[rZ,iL,iQ,h,M.bind_ok];rfl
def J3(h:f ρ=.ok (.lst ts)):rZ (iL f iQ) ρ=.ok (qg ts):=by simp only[rZ,iL,iQ,h,M.bind_ok];rfl
def RQ ns:tN [tI ns]=.ok (.bl (ns.any λx=>x != 0)):=by simp only[tI,tN,uZ,AS];rw[cO];rfl
def Hv(h:f ρ=.ok (.bl b)):Du f ρ=.ok (.bl (!b)):=by simp only[Du,jE,h,M.bind_ok]
theorem Ds(hB:d≠0->B<=2000)(hN:N<=5000)(hd:d<=50)(I:∀w∈us,Gu d B w)(hn:us.length<=8)(hu:Gu d B u) FR
  (hFR:∀d',d=d'+1->∀vs:LL,vs.length=us.length->(∀w∈vs,Gu d' (2*B+1) w)->∃L:List (LI×LI),FR [.lst (vs.map tI),.int (d':Int)]=.ok (.lst (L.map q9))/\Oi d' N vs L) :
  ∃C:List (LI×LI),m7 c FR [.lst (us.map tI),tI u]=.ok (C.map q9)/\C.map Prod.fst=flt us.length (Rx d us u)/\∀q∈C,Gp d (B+N+d+1) q.2/\hv d (vc u) (vc q.2)=0/\(∀i,i<us.length->lL (hv d (vc (us.getD i [])) (vc q.2))=vc q.1 i)/\∃i,i<d/\vc u i≠0:=by
 have sz:1000<sizeLine:=by decide
 have D:=hu.len;let S (x2 x3 x4:Option W):En:=[some (.p (.lst (us.map tI))),some (.p (tI u)),x2,x3,x4];let Z:List (Int×Nat):=u.dropLast.zipIdx.filter λq=>q.1 != 0;have hZ:∀q∈Z,q.2<d/\vc u q.2=q.1/\q.1≠0:=λq F=>by
  obtain⟨E,v⟩:=aU.mp F;obtain⟨x,k⟩:=q;have o:=iz.mp E;have hk:k<d:=by have:=(aa.mp o).1;simp at this;lia
  refine⟨hk,?_,by simpa using v⟩;rw[<-zr D hk,kL _ k (by simp;exact D▸hk)];have:=aa.mp o;exact this.2
 have e2:lH [none,none] (rZ (iL (kM bd (λ_=>.ok none) (jL (pW (λi=>.int (-i)) ab))) iQ)) ah (jE ei) (w9 c FR) (qH (S none none none))=.ok (Z.map λq=>nI q.2):=by refine sZ u.dropLast.zipIdx (λq=>T.tup [.int (q.2:Int),.int q.1]) (λq=>nI q.2) (λq=>q.1 != 0) ((JW (B3 D rfl)).trans (by rw[qJ])) (by simp;omega) (λq F=>⟨_,rfl,i6 (iP rfl rfl (by rw[md];rfl)),λ_=>rfl⟩) rfl
 have c2:jE (iU (ji false) bi cb) (vw (S (some (.p (.lst (Z.map λq=>nI q.2)))) none none))=.ok Z.isEmpty:=by refine i6 (iP (x:=.lst (Z.map λq=>nI q.2)) (y:=.lst []) rfl (by simp) ((uA false _ (uh _ _ λ_ _=>rfl) (aN (uy _ 0 _ λ_ _=>aK _) (by decide))).trans ?_));cases Z<;>rfl
 have st:∀{g:En->O} {ts:List T},_=O.rf ts->m7 c FR [.lst (us.map tI),tI u]=.ok ts:=λ{g ts} h=>pF rfl (iR (ρ':=S (some (.p (.lst (Z.map λq=>nI q.2)))) none none) (iY (j3 e2) rfl) h);cases n:Z with
 |nil=>
  have z0:∀i,i<d->vc u i=0:=λi m=>aO λne=>by have:(vc u i,i)∈Z:=aU.mpr ⟨iz.mpr (by rw[ag (by simp;exact D▸m),<-zr D m,kL _ i (by simp;lia)]),by simpa using ne⟩;rw[n]at this;exact nomatch this
  have hd0:vc u d≠0:=by
   obtain⟨i,m⟩:=hu.ne;rcases cX i d with h|h|h
   .exact absurd (z0 i h) m
   .rw[<-h];exact m
   .exact absurd (sM u i (aN (bB D) h)) m
  refine⟨[],st (g:=ju) (LQ (jR (c2.trans (by rw[n];rfl)) (pL (by simp))) rfl),(DY λs ⟨X,hX,_⟩=>?_).symm,λ_ h=>nomatch h⟩;rw[pU z0]at hX;have z:(vc u d:Rat)=0:=by grind
  exact hd0 (by exact_mod_cast z)
 |cons z0 Zr=>
  obtain⟨x,p⟩:=z0;obtain⟨l,hpx,hx0⟩:=hZ (x,p) (by rw[n];simp);dsimp only at l hpx hx0;have hB':B<=2000:=hB (Nat.ne_zero_of_lt l);obtain⟨d',rfl⟩:∃d',d=d'+1:=⟨d-1,by lia⟩;have Y:vc u p≠0:=by rw[hpx];exact hx0
  obtain⟨f,U⟩:=mJ (P:=λ(w r:LI)=>j7 c [tI w,tI u,.int (p:Int)]=.ok (tI r)/\r.length=w.length/\(∀x∈r,Bn (2*B+1) x)/\vc r p=0/\∃g s b:Int,0<g/\0<s/\∀i,g*vc r i=s*vc w i+b*vc u i) us λw hw=>by have wl:=(I w hw).len;obtain⟨r,E,v,o,A,g,s,b,H,h6,h7,-⟩:=xa (c:=c) B B w u p (cT l (bB wl.symm)) (D.trans wl.symm) (cD (bB wl) (cD (eI hd _) (by decide))) (by lia) (I w hw).bn hu.bn Y;exact⟨r,E,v,λx K=>(o x K).mono (by lia),A,g,s,b,H,h6,h7⟩
  have fl:∀w∈us,(f w).length=d'+2:=λw hw=>by rw[(U w hw).2.1,(I w hw).len]
  let a:LL:=us.map λw=>wo (f w) p;have ti:=JZ (d:=d') (p:=p) (fw l) (us:=us) Y f λw hw=>⟨(U w hw).2.2.2.1,by have:=fl w hw;exact cT l (bB this.symm),(U w hw).2.2.2.2⟩;have e4:lH [none,some 3,some 1] ek b0 (λ_=>.ok true) (wa c FR) (qH (S (some (.p (.lst (Z.map λq=>nI q.2)))) (some (.p (nI p))) none))=.ok (a.map tI):=j5 us tI (λw=>tI (wo (f w) p)) rfl (cD hn (by decide)) (λw hw=>⟨_,rfl,rfl,jv (mv rfl rfl rfl (U w hw).1) rfl (sj _ p (by have:=fl w hw;lia) (by have:=fl w hw;lia))⟩) (by simp[a])
  let S4:En:=S (some (.p (.lst (Z.map λq=>nI q.2)))) (some (.p (nI p))) (some (.p (.lst (a.map tI))));have e5:jE (lC tN (iL (kh (lH [none] (jP c5) b0 (λ_=>.ok true) (wu c FR))) iQ)) (vw S4)=.ok ((a.map λt=>!(t.any λx=>x != 0)).any id):=by refine i6 (mP (ts:=(a.map λt=>!(t.any λx=>x != 0)).map T.bl) ?_ (uI _));exact j5 a tI (λt=>T.bl (!(t.any λx=>x != 0))) rfl (by simp[a];lia) (λt ht=>⟨_,rfl,rfl,Hv (nV (t:=tI t) rfl (RQ t))⟩) (by simp)
  have st4:∀{ts:List T},_=O.rf ts->m7 c FR [.lst (us.map tI),tI u]=.ok ts:=λ{ts} h=>st (g:=ju) (iR (jw (c2.trans (by rw[n];rfl)) rfl) (iR (ρ':=S (some (.p (.lst (Z.map λq=>nI q.2)))) (some (.p (nI p))) none) (iY (t:=nI p) (iP (x:=.lst (Z.map λq=>nI q.2)) (y:=.int 0) rfl rfl (by rw[n];exact Nd _ _)) rfl) (iR (ρ':=S4) (iY (j3 e4) rfl) h)));cases hA:(a.map λt=>!(t.any λx=>x != 0)).any id with
  |true=>
   obtain⟨b,hb,hb2⟩:=eN.mp hA;obtain⟨t,ht,rfl⟩:=aD.mp hb;obtain⟨w,hw,rfl⟩:=aD.mp ht;obtain⟨i,m,hiw⟩:=iA hw;have az:∀j,vc (wo (f w) p) j=0:=λj=>aO λne=>by
    have:((wo (f w) p).any λx=>x != 0)=true:=by
     by_cases hj:j<(wo (f w) p).length
     .exact eN.mpr ⟨vc (wo (f w) p) j,by rw[kL _ j hj];exact aV _,by simpa using ne⟩
     .exact absurd (sM _ j (cC hj)) ne
    rw[this]at hb2;cases hb2
   refine⟨[],st4 (LQ (jR (e5.trans (by rw[hA])) (pL (by simp))) rfl),(DY λs hs=>?_).symm,λ_ h=>nomatch h⟩;obtain⟨X,hX⟩:=(ti s).mpr hs;have:=hX i (by simpa using m);rw[wU rfl _ m,af,ag m,iB,hiw,pU λj _=>az j,az]at this;simp at this
  |false=>
   have gtr:∀t∈a,Gu d' (2*B+1) t:=λt ht=>by
    obtain⟨w,hw,rfl⟩:=aD.mp ht;have wl:=Ko (row:=f w) (p:=p) (by have:=fl w hw;lia);have:=bI.mp hA _ (aD.mpr ⟨_,ht,rfl⟩);refine⟨by have:=fl w hw;lia,λx K=>(U w hw).2.2.1 x (ND K),?_⟩;have t1:((wo (f w) p).any λx=>x != 0)=true:=by simpa using this
    obtain⟨x,K,hx2⟩:=eN.mp t1;obtain⟨j,hj,e⟩:=iA K;exact⟨j,by rw[kL _ j hj,e];simpa using hx2⟩
   obtain⟨L,eL,hL⟩:=hFR d' rfl a (by simp[a]) gtr;obtain⟨Q,hQ⟩:=mJ (P:=λ(q:LI×LI) (r:LI×Int)=>n5 c [tI u,.int (p:Int),tI q.2]=.ok (tI r.1)/\r.1.length=d'+2/\(∀x∈r.1,Bn (B+N+(d'+1)+1) x)/\0<r.2/\(∀i,r.2*vc r.1 (sk p i)=((vc u p).natAbs:Int)*vc q.2 i)/\r.2*vc r.1 p = -lL (vc u p)*hv d' (λi=>vc u (sk p i)) (vc q.2)) L λq F=>by obtain⟨R,g,E,v,o,A,H,h6⟩:=Ea (c:=c) (d:=d') (B:=B) (M:=N) hB' hN (bg hd) (by omega) hu.bn (p:=p) (fw l) (hL.gp q F);exact⟨(R,g),E,v,λx K=>(o x K).mono (bL _),A,H,h6⟩
   have Ll:L.length<=256:=by
    have E:=congrArg List.length hL.fst;have v:=ze a.length (Rz d' a);have o:a.length<=8:=by simpa[a] using hn
    have A:2 ^ a.length<=2 ^ 8:=dY (by decide) o;rw[aw]at E;exact aN (bB E) (aN v A)
   refine⟨L.map λq=>(q.1,(Q q).1),st4 (iR (jw (e5.trans (by rw[hA])) rfl) (pL (j5 L q9 (λq=>q9 (q.1,(Q q).1)) (wG (jv (x:=.lst (a.map tI)) (y:=.int (d':Int)) rfl (iP (x:=.int ((d'+2:Nat):Int)) (y:=.int 2) (nV (t:=tI u) rfl (by simp[tI,D];exact rfl)) rfl (by rw[nT];congr 2;lia)) eL)) (cD Ll (by decide)) (λq F=>⟨_,rfl,rfl,oy rfl (mv rfl rfl rfl (hQ q F).1)⟩) (by rw[aI];rfl)))),?_,λq F=>?_⟩
   .rw[aI];show L.map Prod.fst=_;rw[hL.fst,show a.length=us.length by simp[a]];exact Ji λs _=>ti s
   .obtain⟨q0,J,rfl⟩:=aD.mp F;obtain⟨-,v,o,A,H,h6⟩:=hQ q0 J;have gp0:=hL.gp q0 J;dsimp only;refine⟨⟨v,o,?_⟩,(AQ (w:=u) (r:=u) (by lia) Y A H h6).1,λi m=>?_,p,by omega,Y⟩
    .have:=H d';rw[TJ (by lia)]at this;have h7:0<((vc u p).natAbs:Int)*vc q0.2 d':=aX (by simp[Y]) gp0.pos;rw[<-this]at h7;exact iq h7 A
    .have hw:=yY m;rw[(AQ (w:=us.getD i []) (r:=f (us.getD i [])) (by lia) Y A H h6).2 (U _ hw).2.2.2.1 (by have:=fl _ hw;exact cT l (bB this.symm)) (U _ hw).2.2.2.2];have:=hL.sg q0 J i (by simpa[a] using m);rwa [wU rfl _ m]at this
def Mr kvs k j v:pY (tV kvs k v) j=if j=k then some v else pY kvs j:=by
 have get:∀l:List (LI×T),(l.find? λd=>decide (d.1=j)).map (·.2)=pY l j:=λ_=>rfl;unfold tV;by_cases h:(kvs.any λd=>decide (d.1=k))=true
 .rw[aQ h];induction kvs with
  |nil=>simp at h
  |cons a l ih=>
   unfold pY at ih ⊢;rw[bK,List.find?_cons,List.find?_cons];by_cases e:a.1=k
   .rw[aQ e];by_cases b:j=k
    .rw[aQ b];simp[e,b]
    .rw[aR b];have i:¬a.1=j:=λz=>b (z▸e);simp only[i,decide_false];by_cases f:(l.any λd=>decide (d.1=k))=true
     .rw[ih f,aR b]
     .have:l.map (λd=>if d.1=k then (d.1,v) else d)=l:=by
       conv=>rhs;rw[<-List.map_id l]
       refine gE λq g=>aR λz=>f (eN.mpr ⟨q,g,by simpa using z⟩)
      rw[this]
   .rw[aR e];have f:(l.any λd=>decide (d.1=k))=true:=by simpa[e] using h
    by_cases b:a.1=j
    .have:¬j=k:=λz=>e (b.trans z);simp[b,this]
    .simp only[b,decide_false];exact ih f
 .rw[aR h];unfold pY;rw[List.find?_append];by_cases b:j=k
  .subst b;have:=List.find?_eq_none.mpr λq g z=>h (eN.mpr ⟨q,g,z⟩);rw[this];simp
  .rw[aR b];have:¬k=j:=λz=>b z.symm;simp[this]
theorem B9:∀b kvs j,(pY (wz kvs b) j=pY kvs j/\j∉b.map Prod.fst)\/∃t,pY (wz kvs b) j=some t/\(j,t)∈b
 |[],_,_=>.inl ⟨rfl,λh=>nomatch h⟩
 | (k,v)::b,kvs,j=>by
  rcases B9 b (tV kvs k v) j with⟨a,e⟩|⟨t,a,e⟩
  .rw[Mr]at a;by_cases d:j=k
   .rw[aQ d]at a;exact .inr ⟨v,a,by rw[d];simp⟩
   .rw[aR d]at a;exact .inl ⟨a,by simp[d];simpa using e⟩
  .exact .inr ⟨t,a,by simp[e]⟩
theorem BG:∀C:List (LI×LI),zu (C.map q9)=some (C.map λq=>(q.1,tI q.2))
 |[]=>rfl
 |q::C=>by rw[bK];show (kq (q.1.map T.int)).bind _=_;rw[qG,Option.bind_some,BG C];rfl
def Uq(C:List (LI×LI)) s:(pY (wz [] (C.map λq=>(q.1,tI q.2))) s=none/\s∉C.map Prod.fst)\/∃q∈C,q.1=s/\pY (wz [] (C.map λq=>(q.1,tI q.2))) s=some (tI q.2):=by
 rcases B9 (C.map λq=>(q.1,tI q.2)) [] s with⟨b,a⟩|⟨t,b,a⟩
 .exact .inl ⟨b,by rw[aI]at a;exact a⟩
 .obtain⟨q,d,e⟩:=aD.mp a;cases e;exact .inr ⟨q,d,rfl,b⟩
def Np n p:flt (n+1) p=(jt n).flatMap λs=>[s++[-1],s++[1]].filter λs=>Jd (p s):=by unfold flt;rw[jt,List.filter_flatMap]
def KM(h:∀s∈jt n,¬p s->∀v,¬q (s++[v])):flt (n+1) q=(flt n p).flatMap λs=>[s++[-1],s++[1]].filter λs=>Jd (q s):=by
 rw[Np];unfold flt;generalize jt n=l at *;induction l with
 |nil=>rfl
 |cons a l ih=>
  rw[iC,ih λs d=>h s (by simp[d])];by_cases b:p a
  .have e:(a::l).filter (λs=>Jd (p s))=a::l.filter λs=>Jd (p s):=iD (by simpa using b);rw[e,iC]
  .have e:(a::l).filter (λs=>Jd (p s))=l.filter λs=>Jd (p s):=iE (by simpa using b);rw[e];simp[h a (by simp) b]
section
variable {d:Nat}{us:LL}{u s:LI}
def uE i:(us++[u]).getD i []=if i<us.length then us.getD i [] else if i=us.length then u else []:=by
 rw[af,af];by_cases h:i<us.length
 .rw[aQ h,List.getElem?_append_left h]
 .rw[aR h,List.getElem?_append_right (cC h)];by_cases a:i=us.length
  .rw[aQ a,a,gR];rfl
  .rw[aR a,List.getElem?_eq_none (by simp;exact iF (fF (cC h) (Ne.symm a)))];rfl
def wR(b:s.length=n) v i:vc (s++[v]) i=if i<n then vc s i else if i=n then v else 0:=by
 rw[qK,b];by_cases h:i<n
 .rw[aQ h,aQ h]
 .rw[aR h,aR h];by_cases a:i=n
  .rw[aQ a,a,gR];rfl
  .rw[aR a];exact sM _ _ (by simp;exact iF (fF (cC h) (Ne.symm a)))
def Dj(b:s.length=us.length)(v:Int) X:On d (us++[u]) (s++[v]) X↔On d us s X/\0<(v:Rat)*j6 d X (vc u):=by
 constructor
 .intro h;refine⟨λi a=>?_,?_⟩
  .have:=h i (by simp;exact cH a);rwa [uE,aQ a,wR b,aQ a]at this
  .have:=h us.length (by simp);rwa [uE,aR (by lia),aQ rfl,wR b,aR (by lia),aQ rfl]at this
 .rintro⟨e,f⟩ i a;rw[uE,wR b];by_cases q:i<us.length
  .rw[aQ q,aQ q];exact e i q
  .have:i=us.length:=by simp at a;exact dP (fw a) (cC q)
   rw[aR q,aR q,aQ this,aQ this];exact f
def HM(e:s.length=us.length)(h:∀i,i<us.length->lL (hv d (vc (us.getD i [])) (vc P))=vc s i)(a:lL (hv d (vc u) (vc P))=v):∀i,i<(us++[u]).length->lL (hv d (vc ((us++[u]).getD i [])) (vc P))=vc (s++[v]) i:=λi b=>by
 rw[uE,wR e];by_cases q:i<us.length
 .rw[aQ q,aQ q];exact h i q
 .have:i=us.length:=by simp at b;exact dP (fw b) (cC q)
  rw[aR q,aR q,aQ this,aQ this];exact a
end
def Qt(j:0<g)(k:1<=o)(h:s = -1\/s=1)(f:∀i,i<d->g*vc Q i=o*vc P i+s*vc u i)(b:g*vc Q d=o*vc P d) :
  g*hv d (vc w) (vc Q)=o*hv d (vc w) (vc P)+s*sm d λi=>vc w i*vc u i:=by
 unfold hv;have e:g*sm d (λi=>vc w i*vc Q i)=o*sm d (λi=>vc w i*vc P i)+s*sm d (λi=>vc w i*vc u i):=by rw[<-nE,<-vI];exact lM d _ _ λi a=>by have:=f i a;grind
 rw[hW,e,show g*(vc w d*vc Q d)=vc w d*(g*vc Q d) by grind,b];grind
theorem Ro:∀(d:Nat) (f:Nat->Int),0<=sm d (λi=>f i*f i)/\((∃i,i<d/\f i≠0)->0<sm d λi=>f i*f i)
 |0,_=>⟨eB _,λ⟨_,h,_⟩=>nomatch h⟩
 |d+1,f=>by
  obtain⟨a,e⟩:=Ro d λi=>f (i+1);have b:∀x:Int,0<=x*x/\(x≠0->0<x*x):=λx=>by
   rcases gL x 0 with h|h|h
   .have:=Int.mul_pos_of_neg_of_neg h h;exact⟨aA this,λ_=>this⟩
   .subst h;exact⟨by decide,λz=>absurd rfl z⟩
   .have:=aX h h;exact⟨aA this,λ_=>this⟩
  rw[sm];have q:=b (f 0);refine⟨fO q.1 a,λ⟨i,hi,hf⟩=>?_⟩;cases i with
  |zero=>have:=q.2 hf;exact Int.add_pos_of_pos_of_nonneg ‹_› a
  |succ i=>have:=e ⟨i,fw hi,hf⟩;exact Int.add_le_add q.1 this
def KF(d:1<=o)(h:(b.natAbs:Int)<o*(a.natAbs:Int))(e:s = -1\/s=1):lL (o*a+s*b)=lL a:=by
 unfold lL;rcases gL a 0 with q|q|q
 .have:o*a.natAbs = -(o*a):=by rw[show a.natAbs = -a by lia,dE]
  rw[aR (by lia),aQ (by lia),aR (eO q),aQ q]
 .subst q;simp at h;lia
 .have:o*a.natAbs=o*a:=by rw[show a.natAbs=a by lia]
  rw[aQ (by lia),aQ q]
def QS(hB0:B<=20000)(hB:d≠0->B<=2000)(hN:N<=5000)(hd:d<=50)(h2:d≠0->3*B+N+2*d+4<=N2)(hN2:N2<=5000)(hus:∀w∈us,Gu d B w)(hn:us.length<=8)(hu:Gu d B u) FR
  (hFR:∀d',d=d'+1->∀vs:LL,vs.length=us.length->(∀w∈vs,Gu d' (2*B+1) w)->∃L:List (LI×LI),FR [.lst (vs.map tI),.int (d':Int)]=.ok (.lst (L.map q9))/\Oi d' N vs L) (hL:Oi d N2 us L) :
  ∃L':List (LI×LI),mD c FR [.lst (L.map q9),.lst (us.map tI),tI u]=.ok (L'.map q9)/\Oi d N2 (us++[u]) L'/\L'.length=L.length+(flt us.length (Rx d us u)).length:=by
 have sz:1000<sizeLine:=by decide
 obtain⟨C,eC,hC,hCp⟩:=Ds (c:=c) hB hN hd hus hn hu FR hFR;have Ll:L.length<=256:=by have h1:=congrArg List.length hL.fst;have h2:=ze us.length (Rz d us);have h4:2 ^ us.length<=2 ^ 8:=dY (by decide) hn;rw[aw]at h1;exact aN (bB h1) (aN h2 h4)
 have rw_:∀q∈L,q.1∈jt us.length/\Rz d us q.1:=λq R=>yV.mp (by rw[<-hL.fst];exact aD.mpr ⟨q,R,rfl⟩);let J:List (LI×T):=wz [] (C.map λq=>(q.1,tI q.2));let D:T:=.dic J;let S (G:List (LI×LI)) (A n j:Option W):En:=[some (.p (.lst (L.map q9))),some (.p (.lst (us.map tI))),some (.p (tI u)),some (.p D),some (.o (G.map q9)),A,n,j];let Ok (q:LI×LI):Prop:=Gp d N2 q.2/\∀i,i<(us++[u]).length->lL (hv d (vc ((us++[u]).getD i [])) (vc q.2))=vc q.1 i;let E:LI->Bool:=λs=>Jd (Rx d us u s);let two:LI->LL:=λs=>[s++[-1],s++[1]].filter λs=>Jd (Rz d (us++[u]) s);have hin:∀(s:LI) (b:Bool) (G:List (LI×LI)) (n j:Option W),(pY J s).isSome=b->jE (iU (FG false) bw bu) (vw (S G (some (.p (tI s))) n j))=.ok b:=λs b G n j h=>i6 (iP (x:=tI s) (y:=D) rfl rfl (by show (match kq (s.map T.int) with|some ns=>M.ok (T.bl (if false then !(pY J ns).isSome else (pY J ns).isSome))|none=>M.bad)=_;rw[qG];simp[h]))
 have app:∀(G:List (LI×LI)) (q:LI×LI) (A n j:Option W) {f:Pe->M T},G.length<=600->f (qH (S G A n j))=.ok (q9 q)->si 4 (j9 f) (S G A n j)=.nx (S (G++[q]) A n j):=λG q A n j {f} hG h=>xx (us:=G.map q9) rfl h (by rw[aw];exact cD hG (by decide)) (by simp[S]);obtain⟨ρ',e',G,A,n,j,rfl,g1,g2,g3⟩:=kj (m:=lG 2 (jf (lq 5) (jf (lq 6) lF))) (g:=rW c FR) q9
  (λk ρ=>∃(G:List (LI×LI)) (A n j:Option W),ρ=S G A n j/\G.map Prod.fst=((L.take k).map Prod.fst).flatMap two/\(∀q∈G,Ok q)/\G.length=k+(((L.take k).map Prod.fst).filter E).length) L 0 (S [] none none none) ⟨[],none,none,none,rfl,rfl,(λ_ h=>nomatch h),rfl⟩ (by
   rintro k ⟨s,P⟩ ρ hk ⟨G,A,n,j,rfl,g1,g2,g3⟩;rw[aG]at g1 g3 ⊢;have hm:=au hk;have hkl:=(aa.mp hk).1;have g4:G.length<=2*k:=by have:=gF E ((L.take k).map Prod.fst);simp only[aw,bS]at this;lia
   have ck:(((L.take (k+1)).map Prod.fst).filter E).length=(((L.take k).map Prod.fst).filter E).length+if E s then 1 else 0:=by rw[ki L k _ hk,aZ,gH,aT];cases h:E s<;>simp[h]
   obtain⟨r1,X0,hX0⟩:=rw_ _ hm;have K:=hL.gp _ hm;have sg:=hL.sg _ hm;dsimp only at r1 K sg hX0;have sl:=(tT r1).1;have H:=Kl K.pos sg λi a=>FL r1 a;have rx:s∈C.map Prod.fst↔Rx d us u s:=by rw[hC,yV];exact⟨λz=>z.2,λz=>⟨r1,z⟩⟩
   have tk:((L.take (k+1)).map Prod.fst).flatMap two=((L.take k).map Prod.fst).flatMap two++two s:=by rw[ki L k _ hk];simp
   refine⟨S G (some (.p (tI s))) (some (.p (tI P))) j,?_⟩;rcases Uq C s with⟨v0,v1⟩|⟨q,R,rfl,v1⟩
   .have F:¬Rx d us u s:=λz=>v1 (rx.mpr z);have h0:hv d (vc u) (vc P)≠0:=λz=>F ⟨XP d (vc P),by
     have e:=KA (u:=vc u) K.pos;rw[z]at e;have:=mU K.pos;rcases ie.mp e.symm with q|q
     .grind
     .exact q,H⟩
    have la:=vO (c:=c) (d:=d) (B:=B) (M:=N2) (by omega) (aN hN2 (by decide)) hd hu.len K.len hu.bn K.bn;have hs:=Kt (hv d (vc u) (vc P));generalize hh:hv d (vc u) (vc P)=h at *;have one:lL h = -1\/lL h=1:=by have:=xY h;have:=(hs.2 h0).2.2;lia
    have r:0<((lL h:Int):Rat)*j6 d (XP d (vc P)) (vc u):=by
     have z:∀i,i < [u].length->i=0:=λi a=>by simpa using a
     have:=Kl (us:=[u]) (s:=[lL h]) K.pos (λi a=>by rw[z i a];show lL (hv d (vc u) (vc P))=_;rw[hh];rfl) λi a=>by rw[z i a];exact one.symm
     exact this 0 (by simp)
    have Z:Rz d (us++[u]) (s++[lL h]):=⟨_,(Dj sl _ _).mpr ⟨H,r⟩⟩;have rz2:∀v:Int,(v = -1\/v=1)->v≠lL h->¬Rz d (us++[u]) (s++[v]):=λv l hne ⟨Y,hY⟩=>by
     obtain⟨y1,y2⟩:=(Dj sl _ _).mp hY;have:v = -lL h:=by rcases one with q|q<;>rw[q]at hne ⊢<;>lia
     rw[this]at y2;have c1:((-lL h:Int):Rat) = -((lL h:Int):Rat):=by simp
     rw[c1]at y2;rcases one with q|q
     .rw[q]at r y2;have o:((-1:Int):Rat) = -1:=rfl;rw[o]at r y2;exact F (RE y1 H (by grind) (by grind))
     .rw[q]at r y2;have o:((1:Int):Rat)=1:=rfl;rw[o]at r y2;exact F (RE H y1 (by grind) (by grind))
    have tw:two s=[s++[lL h]]:=by
     show List.filter _ [s++[-1],s++[1]]=_;rcases one with q|q<;>rw[q]at Z rz2 ⊢
     .rw[iD (by simpa using Z),iE (by simpa using rz2 1 (.inr rfl) (by decide))];rfl
     .rw[iE (by simpa using rz2 (-1) (.inl rfl) (by decide)),iD (by simpa using Z)];rfl
    refine⟨S (G++[(s++[lL h],P)]) (some (.p (tI s))) (some (.p (tI P))) j,rfl,.inl (jw (hin s false G _ _ (by rw[show pY J s=none from v0];rfl)) (app G (s++[lL h],P) _ _ _ (by lia) (oy (iP (x:=tI s) (y:=tI [lL h]) rfl (Bp (nU (jv rfl rfl la) (pE h))) (sQ _ _ (by simp;lia))) rfl))),_,_,_,_,rfl,?_,?_,by rw[ck,show E s=false from SJ F,aT,g3];simp;exact Nat.add_right_comm _ _ _⟩
    .rw[aZ,g1,tk,tw];rfl
    .intro z hz;rcases ai.mp hz with y|y
     .exact g2 z y
     .rw[aj.mp y];exact⟨K,HM sl sg (by rw[hh])⟩
   .obtain⟨cp,cz,cs,ci⟩:=hCp q R;have d0:d≠0:=λz=>by obtain⟨i,a,_⟩:=ci;lia
    have hB':=hB d0;have h2':=h2 d0;have hne:∀w∈us,hv d (vc w) (vc q.2)≠0:=λw hw z=>by obtain⟨i,a,e⟩:=iA hw;have:=cs i a;rw[af,ag a,iB,e,z]at this;rcases FL r1 a with y|y<;>rw[y]at this<;>cases this
    have U:∀v:Int,(v = -1\/v=1)->∃Q:LI,mw c [.lst (us.map tI),tI u,tI q.2,.int v]=.ok (tI Q)/\Ok (q.1++[v],Q):=λv l=>by
     obtain⟨Q,g,o,f1,f2,f3,f4,f5,f6,f7,f8⟩:=Cz (c:=c) (d:=d) (B:=B) (N:=B+N+d+1) hB' (by lia) (by lia) hd (λw hw=>⟨(hus w hw).len,(hus w hw).bn⟩) (aN hn (by decide)) hu.len hu.bn cp hne l;have pos:0<vc Q d:=by have h7:0<o*vc q.2 d:=aX f5 cp.pos;rw[<-f7]at h7;exact iq h7 f4
     have of:=λw=>Qt (w:=w) f4 f5 l f6 f7;refine⟨Q,f1,⟨f2,λx hx=>(f3 x hx).mono (by lia),pos⟩,HM sl (λi a=>?_) ?_⟩
     .have hw:=yY a;rw[<-cs i a,zc f4 (by decide:(0:Int)<1) ((of _).trans (eY _).symm)];exact KF f5 (f8 _ hw) l
     .rw[zc f4 (by decide:(0:Int)<1) ((of _).trans (eY _).symm),cz];have:=(Ro d (vc u)).2 ci;generalize sm d (λi=>vc u i*vc u i)=m at this;unfold lL;rcases l with rfl|rfl
      .rw[aR (by lia),aQ (by simp[this])]
      .rw[aQ (by simp[this])]
    obtain⟨Q1,f1,o1⟩:=U (-1) (.inl rfl);obtain⟨Q2,f2,o2⟩:=U 1 (.inr rfl);have rzo:∀(v:Int) (Q:LI),(v = -1\/v=1)->Ok (q.1++[v],Q)->Rz d (us++[u]) (q.1++[v]):=λv Q l o=>⟨_,Kl o.1.pos o.2 λi a=>by
     rw[wR sl];by_cases y:i<us.length
     .rw[aQ y];exact FL r1 y
     .have:i=us.length:=by simp at a;exact dP (fw a) (cC y)
      rw[aR y,aQ this];exact l.symm⟩
    have tw:two q.1=[q.1++[-1],q.1++[1]]:=by show List.filter _ [q.1++[-1],q.1++[1]]=_;rw[iD (by simpa using rzo _ _ (.inl rfl) o1),iD (by simpa using rzo _ _ (.inr rfl) o2)];rfl
    have gt:Nk D (tI q.1)=.ok (tI q.2):=by show (match kq (q.1.map T.int) with|some ns=>(match pY J ns with|some t=>M.ok t|none=>M.bad)|none=>M.bad)=_;rw[qG];dsimp only;rw[show pY J q.1=some (tI q.2) from v1]
    have I:∀(G:List (LI×LI)) (v:Int) (Q:LI),G.length<=600->mw c [.lst (us.map tI),tI u,tI q.2,.int v]=.ok (tI Q)->pG c FR (S G (some (.p (tI q.1))) (some (.p (tI P))) (some (.p (.int v))))=.nx (S (G++[(q.1++[v],Q)]) (some (.p (tI q.1))) (some (.p (tI P))) (some (.p (.int v)))):=λG v Q hG hf=>app G (q.1++[v],Q) _ _ _ hG (oy (iP (x:=tI q.1) (y:=tI [v]) rfl (Bp rfl) (sQ _ _ (by simp;lia))) (HU rfl rfl (iP (x:=D) (y:=tI q.1) rfl rfl gt) rfl hf))
    have lp:kX (lq 7) (pG c FR) [T.int (-1),T.int 1] (S G (some (.p (tI q.1))) (some (.p (tI P))) j)=.nx (S ((G++[(q.1++[-1],Q1)])++[(q.1++[1],Q2)]) (some (.p (tI q.1))) (some (.p (tI P))) (some (.p (.int 1)))):=by have s1:lq 7 (T.int (-1)) (S G (some (.p (tI q.1))) (some (.p (tI P))) j)=some (S G (some (.p (tI q.1))) (some (.p (tI P))) (some (.p (.int (-1))))):=rfl;have s2:lq 7 (T.int 1) (S (G++[(q.1++[-1],Q1)]) (some (.p (tI q.1))) (some (.p (tI P))) (some (.p (.int (-1)))))=some (S (G++[(q.1++[-1],Q1)]) (some (.p (tI q.1))) (some (.p (tI P))) (some (.p (.int 1)))):=rfl;rw[kX,s1];dsimp only;rw[I G (-1) Q1 (by lia) f1];dsimp only;rw[kX,s2];dsimp only;rw[I _ 1 Q2 (by simp;lia) f2];rfl
    refine⟨_,rfl,.inl (jR (hin q.1 true G _ _ (by rw[show pY J q.1=some (tI q.2) from v1];rfl)) (ku (Ae (oy (pZ rfl) rfl)) lp)),_,_,_,_,rfl,?_,?_,by rw[ck,show E q.1=true from Qz (rx.mp (aD.mpr ⟨q,R,rfl⟩)),aT,aT,g3];simp;lia⟩
    .rw[aZ,aZ,g1,tk,tw,cq];rfl
    .intro z hz;rcases ai.mp hz with y|y
     .rcases ai.mp y with y|y
      .exact g2 z y
      .rw[aj.mp y];exact o1
     .rw[aj.mp y];exact o2)
 rw[aG,eZ]at g1 g3;refine⟨G,pF rfl (iR (ρ':=[some (.p (.lst (L.map q9))),some (.p (.lst (us.map tI))),some (.p (tI u)),some (.p D),none,none,none,none]) (iY (nV (j3 (F7 rfl rfl eC)) (by show (match zu (C.map q9) with|some ps=>M.ok (T.dic (wz [] ps))|none=>M.bad)=_;rw[BG])) rfl) (iR (ρ':=S [] none none none) (pH (ts:=[]) (by simp) rfl) (iR (ku (wG rfl) e') rfl))),⟨?_,λq R=>(g2 q R).1,λq R=>(g2 q R).2⟩,?_⟩
 .rw[g1,hL.fst,aT,cw];exact (KM λs hs np v ⟨X,hX⟩=>np ⟨X,((Dj (tT hs).1 _ _).mp hX).1⟩).symm
 .rw[g3,hL.fst];congr 2;unfold flt;rw[List.filter_filter];refine iy λs _=>?_;by_cases h:Rx d us u s
  .have h2:Rz d us s:=let ⟨X,_,z⟩:=h;⟨X,z⟩;simp[E,h,h2]
  .simp[E,h]
noncomputable def Pw:Nat->Nat->Nat
 |0,_=>1
 |d+1,B=>3*B+Pw d (2*B+1)+2*(d+1)+4
theorem Rp:∀d B,d<=8->Pw d B+3*(B+1)<=3*((B+1)*2 ^ d)+20*d+4
 |0,B,_=>by unfold Pw;simp;lia
 |d+1,B,h=>by
  have a:=Rp d (2*B+1) (bg h);have e:(2*B+1+1)*2 ^ d=(B+1)*2 ^ (d+1):=by rw[d7,show 2*B+1+1=(B+1)*2 by lia,Nat.mul_assoc,cA 2]
  rw[e]at a;generalize (B+1)*2 ^ (d+1)=q at *;unfold Pw;lia
def Cb(d B:Nat):Prop:=(B+1)*2 ^ d<=1600\/d=0/\B<=20000
def Cd(a:d<=4)(h:Cb d B):Pw d B<=5000/\(d≠0->B<=2000)/\B<=20000:=by
 rcases h with h|⟨rfl,h⟩
 .have:=Rp d B (aN a (by decide));have:(B+1)*1<=(B+1)*2 ^ d:=gx _ (eQ d);exact⟨by lia,λ_=>by lia,by lia⟩
 .exact⟨by unfold Pw;decide,λz=>absurd rfl z,h⟩
def QP(h:f ρ=.ok x):lstM (iL f iQ) ρ=.ok [x]:=by
 have:1<=sizeLine:=by decide
 simp[h,this]
theorem BR:∀n d B us,d<n->d<=4->Cb d B->us.length<=8->(∀u∈us,Gu d B u)->
  ∃L:List (LI×LI),my c n [.lst (us.map tI),.int (d:Int)]=.ok (.lst (L.map q9))/\Oi d (Pw d B) us L/\L≠[]
 |0,d,B,us,h,_,_,_,_=>absurd h (dX _)
 |n+1,d,B,us,hdn,hd,A,hn,hus=>by
  have sz:1000<sizeLine:=by decide
  obtain⟨p1,p2,p3⟩:=Cd hd A;obtain⟨N,n1,n2,n3⟩:∃N,(d≠0->3*B+N+2*d+4<=Pw d B)/\N<=5000/\∀b,d=b+1->∀o:LL,o.length<=8->(∀w∈o,Gu b (2*B+1) w)->∃L:List (LI×LI),my c n [.lst (o.map tI),.int (b:Int)]=.ok (.lst (L.map q9))/\Oi b N o L:=by
   cases d with
   |zero=>exact⟨0,λz=>absurd rfl z,by decide,λb h=>nomatch h⟩
   |succ d=>
    have e:(2*B+1+1)*2 ^ d=(B+1)*2 ^ (d+1):=by rw[d7,show 2*B+1+1=(B+1)*2 by lia,Nat.mul_assoc,cA 2]
    have A:Cb d (2*B+1):=.inl (by rw[e];exact A.elim id λz=>absurd z.1 (Nat.succ_ne_zero _));have q:=Cd (d:=d) (bg hd) A;refine⟨Pw d (2*B+1),λ_=>bB (by rw[Pw]),q.1,λb h o F J=>?_⟩;cases h;exact let ⟨L,e,h,_⟩:=BR n d (2*B+1) o (fw hdn) (bg hd) A F J;⟨L,e,h⟩
  let S (L:List (LI×LI)) (v D:Option W):En:=[some (.p (.lst (us.map tI))),some (.p (.int (d:Int))),some (.p (.lst (L.map q9))),v,D];let P0:LI:=List.replicate d 0++[1];have v0:vc P0 d=1:=by show vc (List.replicate d 0++[1]) d=1;rw[qK,bU,aR (by lia),gR];rfl
  have c0:Oi d (Pw d B) [] [([],P0)]:=by
   refine⟨?_,λq R=>?_,λq R i I=>nomatch I⟩
   .have:([]:LI)∈flt 0 (Rz d []):=yV.mpr ⟨by simp[jt],λ_=>0,λi I=>nomatch I⟩;have l:=ze 0 (Rz d []);show [[]]=flt 0 (Rz d []);revert this l;generalize flt 0 (Rz d [])=f;intro this l;match f,this,l with
    |[a],h,_=>rw[aj.mp h]
    |_::_::_,_,l=>simp at l
   .rw[aj.mp R];refine⟨by simp[P0],λx E=>?_,by rw[v0];decide⟩;have Y:Bn 1 x:=by
     rcases ai.mp E with z|z
     .rw[bc z];unfold Bn;decide
     .rw[aj.mp z];unfold Bn;decide
    exact Y.mono (by cases d<;>(unfold Pw;exact bW _))
  obtain⟨ρ',e',L,v,D,rfl,C,r⟩:=kj (m:=lG 2 bq) (g:=Ez c (my c n)) (λp:LI×Nat=>T.tup [.int (p.2:Int),tI p.1])
   (λk K=>∃(L:List (LI×LI)) (v D:Option W),K=S L v D/\Oi d (Pw d B) (us.take k) L/\L≠[]) us.zipIdx 0 (S [([],P0)] none none) ⟨_,none,none,rfl,c0,λz=>nomatch z⟩ (by
    rintro k ⟨u,j⟩ K s ⟨L,v,D,rfl,C,r⟩;rw[aG]at C ⊢;obtain⟨hku,rfl⟩:us[k]? = some u/\k=j:=by
     rw[List.getElem?_zipIdx]at s;cases E:us[k]? with
     |none=>rw[E]at s;cases s
     |some z=>rw[E]at s;simp at s;exact⟨by rw[s.1],s.2⟩
    have hkl:=(aa.mp hku).1;obtain⟨P,U,H,Q⟩:=QS (c:=c) p3 p2 n2 (aN hd (by decide)) n1 p1 (us:=us.take k) (λw hw=>hus w (g9 hw)) (by simp;exact aN (bT _ _) hn) (hus u (au hku)) (my c n) (λb h o Z X=>n3 b h o (by rw[Z];simp;lia) X) C;refine⟨_,S P (some (.p (.int (k:Int)))) (some (.p (tI u))),rfl,.inl (iY (j3 (Gh rfl (Bx (d:=k) (ts:=us.map tI) rfl rfl) rfl (by rw[<-dU];exact U))) rfl),P,_,_,rfl,by rw[ki us k u hku];exact H,λz=>r (gP.mp (by rw[z]at Q;exact (Nat.eq_zero_of_add_eq_zero Q.symm).1))⟩)
  rw[aG,gU,eZ]at C;refine⟨L,jh rfl (iR (ρ':=S [([],P0)] none none) (iY (j3 (QP (oy (by simp;rfl) (iP (x:=tI (List.replicate d 0)) (y:=tI [1]) (Ru d (aN hd (by decide)) rfl) (Bp rfl) (sQ _ _ (by simp;exact aN hd (dM _ _))))))) rfl) (iR (ku ((J3 rfl).trans (by rw[qJ])) e') (i7 rfl))),C,r⟩
def Ln n d B us (b:d<n) (a:d<=4) (e:(B+1)*2 ^ d<=800):us.length<=8->(∀u∈us,Gu d B u)->
  ∃L:List (LI×LI),my c n [.lst (us.map tI),.int (d:Int)]=.ok (.lst (L.map q9))/\Oi d (Pw d B) us L/\L≠[]:=BR n d B us b a (.inl (aN e (by decide)))
def NX{L P R B Q T:Rat}(b:B≠0)(a:Q≠0):(L*Q+P*R*B) / (B*Q)+T=L / B+(P*(R / Q)+T):=by grind
theorem Dz:∀(a:List (Int×(Int×Int))) (l b:Int),0<b->(∀p∈a,0<p.2.2)->∃d:Int,0<d/\((a.foldl Q8 (l,b)).1:Rat)=(d:Rat)*((l:Rat) / (b:Rat)+(a.map λp=>(p.1:Rat)*qv p.2).sum)
 |[],l,b,hb,_=>⟨b,hb,by have:=Kd (show b≠0 by lia);grind⟩
 |p::a,l,b,hb,h=>by
  have f:=h p (by simp);obtain⟨d,i,n⟩:=Dz a (l*p.2.2+p.1*p.2.1*b) (b*p.2.2) (aX hb f) λq o=>h q (by simp[o]);refine⟨d,i,?_⟩;rw[cu,bK,fW];have e:Q8 (l,b) p=(l*p.2.2+p.1*p.2.1*b,b*p.2.2):=rfl;rw[e,n];have j:=Kd (show b≠0 by lia);have k:=Kd (show p.2.2≠0 by lia);have m:((l*p.2.2+p.1*p.2.1*b:Int):Rat)=l*p.2.2+p.1*p.2.1*b:=by simp
  have g:((b*p.2.2:Int):Rat)=(b:Rat)*(p.2.2:Rat):=by simp
  rw[m,g];congr 1;exact NX j k
def W1 d ns s (a:ns.length=d+1) (j:s.length=d) (r:∀p∈s,0<p.2):lL (sv ns s)=tR (j6 d (Xs s) (vc ns)):=by
 have q:ns.getLast?.getD 0=vc ns d:=by rw[List.getLast?_eq_getElem?,a];unfold vc;rw[af];rfl
 obtain⟨b,l,e⟩:=Dz (ns.dropLast.zip s) (-(vc ns d)) 1 (by decide) λp o=>r _ (aW o).2;have f:ns.dropLast.length=d:=by rw[iG];exact a▸rfl
 have h:=Ax d s ns.dropLast j (bB f.symm);unfold IL at h;have m:n6 d (λp=>(vc ns.dropLast p)*Xs s p)=n6 d (λp=>(vc ns p)*Xs s p):=ko d _ _ λi g=>by
  have:vc ns.dropLast i=vc ns i:=by rw[kL _ i (aE g (bB f.symm)),kL _ i (cT g (bB a.symm)),ij]
  rw[this]
 rw[h,m]at e;refine N1 l ?_;show ((IP (ns.dropLast.zip s) (-(ns.getLast?.getD 0)):Int):Rat)=_;rw[q];unfold IP;rw[e];have n:((-(vc ns d):Int):Rat) = -(vc ns d):=by simp
 have k:((1:Int):Rat)=1:=rfl;rw[n,k];unfold j6;grind
theorem EM:∀n f,n6 (n+1) f=n6 n f+f n
 |0,f=>by unfold n6 n6;grind
 |n+1,f=>by have:=EM n λi=>f (i+1);show f 0+n6 (n+1) (λi=>f (i+1))=(f 0+n6 n λi=>f (i+1))+f (n+1);rw[this];grind
def Ij(b:0<k):tR (k*x)=tR x:=by
 unfold tR;by_cases h:x<0
 .have:k*x<0:=by have:=fU b (show 0 < -x by grind);grind
  rw[aR (by grind),aQ this,aR (by grind),aQ h]
 .by_cases a:0<x
  .have:=fU b a;rw[aQ this,aQ a]
  .have e:x=0:=by grind
   subst e;rw[ig]
def N9(g:A1 d s)(h:Rs d s u) X:j6 (d+1) X (vc (u++[0]))=(vc u d:Rat)*(n6 d (λi=>Xs s i*X i)+X d):=by
 have b:∀i,i<=d->vc (u++[0]) i=vc u i:=λi a=>by rw[qK,aQ (by rw[h.len];exact bJ a)]
 have f:vc (u++[0]) (d+1)=0:=by rw[qK,aR (by rw[h.len];lia),h.len,gR];rfl
 unfold j6;rw[f,EM,b d (aK _)];have e:n6 d (λp=>(vc (u++[0]) p:Rat)*X p)=n6 d (λi=>(vc u d)*(Xs s i*X i)+0*0):=ko d _ _ λi a=>by
  rw[b i (bg a)];have q:=h.eq i a;have p0:=(xK g a).2.pos;have ne:=Kd (show (qo i s).2≠0 by lia);have j:(vc u i)*((qo i s).2:Rat)=(vc u d)*((qo i s).1:Rat):=by exact_mod_cast q
  show _=(vc u d)*(qv (qo i s)*X i)+0*0;unfold qv;generalize ((qo i s).2:Rat)=Q at *;have:(vc u i)=(vc u d)*(((qo i s).1:Rat) / Q):=by grind
  rw[this];grind
 have l:=rC (vc u d) 0 d (λi=>Xs s i*X i) (λ_=>0);rw[e,l,qR];have z:(0:Rat)=0:=rfl;rw[z];grind
def vQ(u:LI):LI:=u.dropLast++[-(u.getLast?.getD 0)]
def Hf(h:u.length=d+1):(vQ u).length=d+1/\(∀i,i<d->vc (vQ u) i=vc u i)/\vc (vQ u) d = -vc u d:=by
 have a:u.dropLast.length=d:=by rw[iG];exact h▸rfl
 have e:u.getLast?.getD 0=vc u d:=by rw[List.getLast?_eq_getElem?,h];unfold vc;rw[af];rfl
 refine⟨by unfold vQ;rw[aT,a];rfl,λi b=>?_,?_⟩
 .unfold vQ;rw[qK,aQ (aE b (bB a.symm)),kL _ i (by lia),kL _ i (cT b (bB h.symm)),ij]
 .unfold vQ;rw[qK,aR (cv (bB a)),a,gR,e];rfl
def Mo(f:A1 d s)(h:Rs d s u)(g:n.length=d+1)(m:0<k)(b:∀i,i<=d->(vc n i:Rat)=k*X i):tR (j6 d (Xs s) (vc (vQ n)))=tR (j6 (d+1) X (vc (u++[0]))):=by
 obtain⟨-,q,j⟩:=Hf g;have e:j6 d (Xs s) (vc (vQ n))=k*(n6 d (λi=>Xs s i*X i)+X d):=by
  unfold j6;rw[j];have o:n6 d (λp=>(vc (vQ n) p:Rat)*Xs s p)=n6 d (λi=>k*(Xs s i*X i)+0*0):=ko d _ _ λi a=>by rw[q i a,b i (bg a)];grind
  have l:=rC k 0 d (λi=>Xs s i*X i) (λ_=>0);rw[o,l,qR];have z:((-vc n d:Int):Rat) = -(k*X d):=by rw[<-b d (aK _)];simp
  rw[z];grind
 rw[e,N9 f h,Ij m,Ij (mU h.pos)]
def XU(n:d<=4):Bg d 3351 300000 150000 0:=by
 have f:∀d,d<5->∀m,m<5->m<=d->Nb 3351 m<=900000/\Sb 3351 d m m<=300000/\∀i,i<m->Nb 3351 (m-1-i)+Sb 3351 d m i+21<=150000:=by decide
 have g:Ns 3351 0=3351:=rfl;refine⟨⟨by decide,λk l=>by rw[iH.mp l];decide,by decide⟩,by decide,λk m h z=>?_,λk m h z=>?_⟩
 .rw[iH.mp z,g];exact⟨(f d (by lia) m (by lia) (by lia)).2.2,λz=>absurd rfl z⟩
 .rw[iH.mp z,g];obtain⟨a,b,e⟩:=f d (by lia) m (by lia) (by lia);exact⟨a,λi j=>by have:=e i j;lia,λz=>absurd rfl z,by lia⟩
def LW{v:Int}(hv:-1<=v/\v<=1)(d:v=0->e=0)(b:v≠0->0<(v:Rat)*e):tR e=v:=by
 have:v=0\/v=1\/v = -1:=by lia
 unfold tR;rcases this with rfl|rfl|rfl
 .rw[d rfl];rfl
 .have:=b (by decide);have a:((1:Int):Rat)=1:=rfl;rw[a]at this;rw[aQ (by grind)]
 .have:=b (by decide);have a:((-1:Int):Rat) = -1:=rfl;rw[a]at this;rw[aR (by grind),aQ (by grind)]
def N5(e:∀s∈ss,A1 d s)(f:GC d B ns)(hr:r.length=ss.length)(h:∀i s,ss[i]? = some s->tR (j6 d (Xs s) (vc ns))=vc r i):vT d ss r (tI ns)=true:=by
 unfold vT;rw[Es f,Bool.true_and];show (match kq (ns.map T.int) with|some ns=>(ss.zip r).all λp=>lL (sv ns p.1)==p.2|none=>false)=true;rw[yu];refine cQ.mpr λp j=>?_;obtain⟨i,a⟩:=c7.mp j;rw[List.getElem?_zip_eq_some]at a;have b:=au a.1;have g:=(aa.mp a.2);rw[W1 d ns p.1 f.gl.1 (e _ b).1 λq k=>((e _ b).2 q k).pos,h i _ a.1];have:vc r i=p.2:=by rw[kL r i g.1];exact g.2
 rw[this];simp
def SA u d (h:u.length=d+1):jA (tI (u++[0])) (.int (-2))=.ok (.int (vc u d)):=by
 have e:rG ((u++[0]).map T.int) (-2)=some (.int (vc u d)):=by
  have a:((u++[0]).map T.int).length=d+2:=by simp[h]
  unfold rG zj;rw[a,aR (by decide),aQ (by lia),Option.bind_some,show ((-2)+((d+2:Nat):Int)).toNat=d by lia,av,List.getElem?_append_left (bB h.symm),ag (by lia),kL u d (by lia)];rfl
 show (match rG ((u++[0]).map T.int) (-2) with|some t=>M.ok t|none=>.bad)=_;rw[e]
def Q5 u (h:u≠[]):jA (tI u) (.int (-1))=.ok (.int (u.getLast?.getD 0)):=by
 have e:rG (u.map T.int) (-1)=some (T.int (u.getLast?.getD 0)):=by rw[AZ _ (by simpa using h),List.getLast?_map,List.getLast?_eq_getLast h];rfl
 simp[tI,e]
theorem J0 d (C:1<=d/\d<=3) (r:List (List (Int×Int))) (S:1<=r.length/\r.length<=8) (h:∀s∈r,A1 d s) v (hv:v=1\/v = -1) :
  ∃I,oz c [.int d,.lst (r.map tS),.int v]=.ok (tI I)/\GC d 900000 I/\∀s∈r,tR (j6 d (Xs s) (vc I))=v:=by
 have sz:1000<sizeLine:=by decide
 let w:List (Int×Int)->Int:=λs=>(qo 0 s).1.fdiv (qo 0 s).2;have p0:∀s∈r,RC (qo 0 s):=λs u=>(xK (k:=0) (h s u) (by lia)).2;have Z:lH [none] gk b0 (λ_=>.ok true) (vA c) (qH [some (.p (.int d)),some (.p (.lst (r.map tS))),some (.p (.int v)),none])=.ok ((r.map w).map T.int):=j5 r tS (λs=>T.int (w s)) rfl (by lia) (λs u=>⟨_,rfl,rfl,by have g:=p0 s u;exact nU (iP rfl rfl (xK (k:=0) (h s u) (by lia)).1) (IF (A:=670) (B:=670) ⟨g.pos,g.one,g.b1,g.b2⟩ (by decide))⟩) (by rw[aI];rfl)
 obtain⟨R,N,hL⟩:∃R N,r.map w=R::N:=by
  cases u:r.map w with
  |nil=>rw[List.map_eq_nil_iff]at u;rw[u]at S;simp at S
  |cons a l=>exact⟨a,l,rfl⟩
 have L:Ce [.lst ((r.map w).map T.int)]=.ok (.int (GA (r.map w))):=by unfold Ce;simp only[qG,hL]
 generalize J:GA (r.map w)=m at L;let b:LI:=1::List.replicate (d-1) 0++[m-1];have U:b.length=d+1:=by simp[b];exact Nat.sub_add_cancel C.1
 have mb:Bn 670 m:=by
  have D:m∈r.map w:=by rw[<-J];exact Ey (by rw[hL];simp)
  obtain⟨s,u,e⟩:=aD.mp D;have g:=p0 s u;refine cD ?_ g.b1;have E:=Cu.DW (qo 0 s).1 (qo 0 s).2 g.pos;have pp:=g.pos;have e:(qo 0 s).1.fdiv (qo 0 s).2=m:=e;rw[e]at E;generalize (qo 0 s).1=P at *;generalize (qo 0 s).2=Q at *;rcases gL m 0 with q|q|q
  .have h3:(m+1)*Q<=(m+1)*1:=fY (by lia) pp;have h4:(m+1)*Q=m*Q+Q:=by grind
   have:=E.2;lia
  .rw[q];exact bN _
  .have h3:m*1<=m*Q:=eV (by lia) (by lia);lia
 have K:vc b 0=1:=rfl;have rk:∀k,1<=k->k<d->vc b k=0:=λk Y X=>by obtain⟨j,rfl⟩:∃j,k=j+1:=⟨k-1,by simp[Y]⟩;show vc (1::List.replicate (d-1) 0++[m-1]) (j+1)=0;unfold vc;rw[af,List.getElem?_append_left (by simp;exact Nat.lt_sub_of_add_lt X)];simp[List.getElem?_replicate,show j<d-1 by lia]
 have rd:vc b d=m-1:=by show vc (1::List.replicate (d-1) 0++[m-1]) d=m-1;unfold vc;rw[af,List.getElem?_append_right (by simp;exact Nat.sub_one_lt_of_lt C.1)];simp[show d-(d-1+1)=0 by simp[C.1]]
 refine⟨b.map λx=>v*x,?_,⟨⟨by rw[aw];exact U,λx hx=>?_⟩,0,by lia,by rw[uo,K];lia⟩,λs u=>?_⟩
 .have a1:iU tO a0 ab (vw [some (.p (.int d)),some (.p (.lst (r.map tS))),some (.p (.int v)),some (.p (.int (m-1)))])=.ok (.int ((d-1:Nat):Int)):=iP rfl rfl (by rw[nT];congr 2;lia);have a2:=Ru (d-1) (bg (cD (b6 _ _) (cD C.2 (by decide)))) a1;have a3:=Bp (ρ:=vw [some (.p (.int d)),some (.p (.lst (r.map tS))),some (.p (.int v)),some (.p (.int (m-1)))]) (f:=cM (.int 1)) (a:=.int 1) rfl;refine jh rfl (iR (ρ':=[some (.p (.int d)),some (.p (.lst (r.map tS))),some (.p (.int v)),some (.p (.int (m-1)))]) (iY (iP (x:=.int m) (mP Z L) rfl (nT _ _)) rfl) (i7 (jv (x:=tI b) (iP (iP a3 a2 (wQ _ _ (by simp;lia))) (Bp rfl) ?_) rfl (yh b v (by omega) (bg (cD (bB U) (cD (eI C.2 _) (by decide))))))));rw[wQ _ _ (by simp;lia)];simp[b,tI]
 .obtain⟨y,hy,rfl⟩:=aD.mp hx;have:y=1\/y=0\/y=m-1:=by simp only[b,eF,aF,ai,List.mem_replicate,dS,or_false]at hy;lia
  have o:=xC (n:=0);have yb:Bn 671 y:=by
   rcases this with rfl|rfl|rfl
   .exact o.mono (by decide)
   .exact qt
   .exact mb.sub (o.mono (by decide:1<=670))
  refine Bn.mono (m:=671) ?_ (by decide);rcases hv with rfl|rfl
  .rwa [eY]
  .rw[fj,eY];exact yb.neg
 .have e:j6 d (Xs s) (vc (b.map λx=>v*x))=(v:Rat)*(Xs s 0-((m-1:Int):Rat)):=by
   rw[TN];congr 1;unfold j6;rw[rd];obtain⟨j,rfl⟩:∃j,d=j+1:=⟨d-1,by simp[C.1]⟩;have:n6 (j+1) (λp=>(vc b p:Rat)*Xs s p)=Xs s 0:=by show (vc b 0:Rat)*Xs s 0+n6 j (λi=>(vc b (i+1):Rat)*Xs s (i+1))=_;rw[ko j _ (λ_=>0) λi hi=>by rw[rk (i+1) (bW _) (eD hi)];simp,qR,K];have:((1:Int):Rat)=1:=rfl;rw[this];grind
   rw[this]
  have g:=p0 s u;have E:=Cu.DW (qo 0 s).1 (qo 0 s).2 g.pos;have ml:m<=w s:=by rw[<-J];exact G8 (iI u)
  have lt:((m-1:Int):Rat)<Xs s 0:=by
   have hq:(((qo 0 s).1.fdiv (qo 0 s).2:Int):Rat)*((qo 0 s).2:Rat)<=((qo 0 s).1:Rat):=by exact_mod_cast E.1
   have hp:=mU g.pos;have ml':((m-1:Int):Rat)<(((qo 0 s).1.fdiv (qo 0 s).2:Int):Rat):=by
    have:m-1<(qo 0 s).1.fdiv (qo 0 s).2:=by show m-1<w s;omega
    exact_mod_cast this
   have:(((qo 0 s).1.fdiv (qo 0 s).2:Int):Rat)<=Xs s 0:=by
    show _<=qv (qo 0 s);unfold qv;generalize (((qo 0 s).1.fdiv (qo 0 s).2:Int):Rat)=F at *;generalize ((qo 0 s).1:Rat)=P at *;generalize ((qo 0 s).2:Rat)=Q at *;have ne:Q≠0:=by grind
    refine Rat.le_of_mul_le_mul_right (c:=Q) ?_ hp;have:P / Q*Q=P:=by grind
    rw[this];exact hq
   grind
  rw[e];have pos:(0:Rat)<Xs s 0-((m-1:Int):Rat):=by grind
  generalize Xs s 0-((m-1:Int):Rat)=z at pos;unfold tR;rcases hv with rfl|rfl
  .have H:((1:Int):Rat)=1:=rfl;rw[H,aQ (by grind)]
  .have H:((-1:Int):Rat) = -1:=rfl;rw[H,aR (by grind),aQ (by grind)]
def QH{a:List (List (Int×Int))}{U:List (Int×Int)->LI}(B:∀s∈a,A1 d s)(o:∀s∈a,Rs d s (U s))(hr:A5 a.length r)(f:∀i s,a[i]? = some s->tR (j6 d (Xs s) (vc u))=vc r i)(p:Vk (a.map λs=>U s++[0]) (d+1) r ws):False:=by
 have l:Ux (a.map λs=>U s++[0]).length r:=⟨by rw[aw];exact hr.len,λx A=>by have:=hr.in1 x A;lia⟩;refine Qq (d:=d+1) (X:=λk=>if k<d then (vc u k) else -(vc u d)) l (λi v hv=>?_) p;obtain⟨m,e⟩:=S9 hr.len hv;have w:=ag m;have g:=aV m;have b:=f i _ w;rw[e]at b;have j:(a.map λs=>U s++[0]).getD i []=U a[i]++[0]:=by rw[af,av,w];rfl
 rw[j,N9 (B _ g) (o _ g)];have D:n6 d (λk=>Xs a[i] k*(if k<d then (vc u k:Rat) else -(vc u d:Rat)))+(if d<d then (vc u d:Rat) else -(vc u d:Rat))=j6 d (Xs a[i]) (vc u):=by unfold j6;rw[aR (a9 _),ko d _ (λp=>(vc u p:Rat)*Xs a[i] p) λk C=>by rw[aQ C,Rat.mul_comm]];grind
 rw[D];have n:=mU (o _ g).pos;generalize j6 d (Xs a[i]) (vc u)=y at *;generalize (vc (U a[i]) d:Rat)=k at *;unfold tR at b;by_cases h:0<y
 .rw[aQ h]at b;subst b;have:=fU n h;exact⟨λz=>absurd z (by decide),λ_=>by rw[show ((1:Int):Rat)=1 from rfl];grind⟩
 .rw[aR h]at b;by_cases q:y<0
  .rw[aQ q]at b;subst b;have:=fU n (show 0 < -y by grind);exact⟨λz=>absurd z (by decide),λ_=>by rw[show ((-1:Int):Rat) = -1 from rfl];grind⟩
  .rw[aR q]at b;subst b;exact⟨λ_=>by rw[show y=0 by grind,ig],λz=>absurd rfl z⟩
theorem JB{f:List (List (Int×Int))}(L:1<=d/\d<=3)(hl:1<=f.length/\f.length<=8)(h:∀s∈f,A1 d s)(hr:A5 f.length r)(h0:∀x∈r,x≠0)(sd:∀i s,f[i]? = some s->tR (j6 d (Xs s) (vc u))=vc r i) :
  ∃B,ni c [.int d,.lst (f.map tS),tI r]=.ok (.tup [.str "cut",tI B])/\GC d 900000 B/\∀i s,f[i]? = some s->tR (j6 d (Xs s) (vc B))=vc r i:=by
 have sz:1000<sizeLine:=by decide
 have J:=hr.len;let R (D x4 x5:Option W):En:=[some (.p (.int d)),some (.p (.lst (f.map tS))),some (.p (tI r)),D,x4,x5];have PH:∀{ρ:Pe},iM 2 ρ=.ok (tI r)->iU jA bi ac ρ=.ok (.int (vc r 0)):=λhv=>iP hv rfl (lX r 0 (by lia));have I:jE (iU (ji false) (JY bi (iL ib iQ)) (lC lK be)) (vw (R none none none))=.ok (decide (r.count (vc r 0)=r.length)):=by
  have e1:JY bi (iL ib iQ) (vw (R none none none))=.ok (.int (r.count (vc r 0):Nat)):=by
   have hc:iL ib iQ (vw (R none none none))=.ok [.int (vc r 0)]:=by simp only[iL,iQ,PH (show iM 2 (vw (R none none none))=.ok (tI r) from rfl),M.bind_ok]
   unfold JY;show (match kq (r.map T.int) with|some B=>(iL ib iQ (vw (R none none none))).bind (λys=>match ys with|[.int k]=>M.ok (T.int (B.count k:Nat))|_=>.bad)|none=>.bad)=_;rw[qG,hc];rfl
  refine i6 (iP (y:=.int (r.length:Nat)) e1 (nV rfl (by simp[tI])) ?_);rw[jW];congr 2;by_cases q:r.count (vc r 0)=r.length
  .simp[q]
  .have q':((r.count (vc r 0):Nat):Int)≠(r.length:Int):=λz=>q (by exact_mod_cast z);simp[q,q']
 by_cases K:r.count (vc r 0)=r.length
 .have al:=iJ.mp K;have hv:vc r 0=1\/vc r 0 = -1:=by obtain⟨x,v,hx0⟩:=hr.some;have:=hr.in1 x v;have:=al x v;lia
  obtain⟨B,e,g,j⟩:=J0 (c:=c) d L f hl h (vc r 0) hv;refine⟨B,jh rfl (lE (jR (I.trans (by rw[aC K])) (i7 (oy rfl (mv rfl rfl (PH rfl) e)))) rfl),g,λi s m=>?_⟩;rw[j s (au m)];have A:i<r.length:=by rw[J];exact (aa.mp m).1
  rw[kL r i A];exact al _ (aV _)
 obtain⟨U,C⟩:=mJ (P:=λ(s:List (Int×Int)) (u:LI)=>lA c [.tup ((s++[(1,1)]).map fr)]=.ok (tI u)/\Rs d s u) f λs j=>we (c:=c) d s L.2 (h s j);have er:=BH (c:=c) f U hl.2 λs j=>⟨by rw[(h s j).1];exact L.2,by rw[(C s j).2.len];exact bJ L.2,(C s j).1⟩;let jt:LL:=f.map λs=>U s++[0];have F:jt.length=f.length:=by simp[jt]
 have Z:Ux jt.length r:=⟨by rw[F];exact J,λx v=>by have:=hr.in1 x v;lia⟩;have zn:(zer jt.length r).length<=0:=by
  cases hz:zer jt.length r with
  |nil=>exact aK _
  |cons z l=>exact absurd rfl (h0 0 (au (sY.mp (by rw[hz];exact bj)).2))
 have po:=uQ (c:=c) jt (d+1) 3351 300000 150000 (by lia) (aN (bB F) hl.2) (λu Y=>by
  obtain⟨s,j,rfl⟩:=aD.mp Y;rw[aT,(C s j).2.len];rfl) (λu Y x v=>by
  obtain⟨s,j,rfl⟩:=aD.mp Y;rcases ai.mp v with q|q
  .exact (C s j).2.bn x q
  .rw[aj.mp q];exact qt) (XU (by lia)) r Z λn _ q=>aN q zn
 rcases po with⟨ws,-,p,-⟩|⟨t,e1,p⟩
 .exact (QH h (λs j=>(C s j).2) hr sd p).elim
 obtain⟨n,g,S,en,H,E,hg,hS,hn⟩:=yo (c:=c) 150030 (by decide) t (by rw[p.len];lia) λq hq=>⟨(p.fq q hq).1.pos,(p.fq q hq).2.2,(p.fq q hq).2.1.mono (by decide)⟩;rw[p.len]at H;have k0:(0:Rat)<(S:Rat) / (g:Rat):=by rw[Rat.div_def];exact fU (mU hS) (Rat.inv_pos.mpr (mU hg))
 have hX:∀i,i<=d->(vc n i:Rat)=(S:Rat) / (g:Rat)*Xs t i:=λi m=>by
  have A:i<t.length:=by rw[p.len];exact bJ m
  have:=hn i _ (ag A);have q0:=(p.fq _ (aV A)).1.pos;have e:Xs t i=qv t[i]:=by unfold Xs;rw[af,ag A];rfl
  rw[e];unfold qv;have X:(g:Rat)*(vc n i:Rat)*(t[i].2:Rat)=(S:Rat)*(t[i].1:Rat):=by exact_mod_cast this
  have n1:=Kd (dD hg);have n2:=Kd (dD q0);generalize (g:Rat)=G at *;generalize (t[i].2:Rat)=Q at *;generalize (vc n i:Rat)=N at *;generalize (t[i].1:Rat)=P at *;generalize (S:Rat)=S' at *;have n3:G*Q≠0:=λz=>by rcases ie.mp z with h|h<;>contradiction
  grind
 obtain⟨c1,c2,c3⟩:=Hf H;have o:∀i s,f[i]? = some s->tR (j6 d (Xs s) (vc (vQ n)))=vc r i:=λi s m=>by
  have j:=au m;have A:=(aa.mp m).1;rw[Mo (h s j) (C s j).2 H k0 hX];have ri:r[i]? = some (vc r i):=by rw[kL r i (aE A (bB J.symm))];exact ag _
  obtain⟨s1,s2⟩:=p.side i (vc r i) ri;have rg:jt.getD i []=U s++[0]:=by show (f.map λs=>U s++[0]).getD i []=_;rw[af,av,m];rfl
  rw[rg]at s1 s2;exact LW (hr.in1 _ (au ri)) s1 s2
 have w:n≠[]:=λz=>by rw[z]at H;simp at H
 have gc:GC d 900000 (vQ n):=by
  refine⟨⟨c1,λx v=>?_⟩,aO λz=>K ?_⟩
  .unfold vQ at v;rcases ai.mp v with q|q
   .exact (E x (eK _ q)).mono (by decide)
   .rw[aj.mp q,List.getLast?_eq_getLast w];exact ((E _ (eJ w)).mono (by decide)).neg
  .have zz:∀p,p<d->vc (vQ n) p=0:=λp hp=>aO λq=>z ⟨p,hp,q⟩;refine iJ.mpr λx v=>?_;obtain⟨i,m⟩:=c7.mp v;have A:i<f.length:=by rw[<-J];exact (aa.mp m).1
   have a:=o i _ (ag A);have b:=o 0 _ (ag (show 0<f.length by lia));rw[pU zz]at a b;rw[<-b,a,kL r i (by lia)];exact (aa.mp m).2
 let D:Option W:=some (.p (.lst (jt.map tI)));refine⟨vQ n,jh rfl (iR (jw (I.trans (by rw[aB K])) rfl) (iR (ρ':=R D none none) (iY (j3 (vG rfl er)) rfl) (iR (ρ':=R D (some (.p (.tup [.str "spot",tS t]))) none) (iY (mv (y:=.int ((d+1:Nat):Int)) rfl (iP rfl rfl (by rw[jY];rfl)) rfl e1) rfl) (iR (jw (i6 (iP (iP rfl rfl rfl) rfl Sd)) rfl) (iR (ρ':=R D (some (.p (.tup [.str "spot",tS t]))) (some (.p (tI n)))) (iY (nU (x:=tS t) (iP rfl rfl rfl) en) rfl) (i7 (oy rfl (iP (zW (ts:=n.map T.int) rfl (by simpa using w)) (Bp (pZ (iP (y:=.int (-1)) rfl rfl (Q5 n w)))) ?_)))))))),gc,o⟩;rw[wQ _ _ (by simp;lia)];unfold vQ tI;simp[eM]
def R6(x:Int):nu c [some (.int x)]=.ok (.int (if x<0 then -1 else 1)):=by by_cases h:x<0<;>simp[nu,h]
def Yv:Wr 4 3351:=⟨by decide,by decide,by decide⟩
theorem Sa{a:List (List (Int×Int))}(C:1<=d/\d<=3)(L:1<=a.length/\a.length<=8)(h:∀s∈a,A1 d s) :
  kR c [.int d,.lst (a.map tS)]=.ok .non\/∃t e,kR c [.int d,.lst (a.map tS)]=.ok (.tup [t,tL e])/\e.length=a.length/\∀x∈e,Bn 800000 x:=by
 have sz:1000<sizeLine:=by decide
 obtain⟨U,v⟩:=mJ (P:=λ(s:List (Int×Int)) (u:LI)=>lA c [.tup ((s++[(1,1)]).map fr)]=.ok (tI u)/\Rs d s u) a λs j=>we (c:=c) d s C.2 (h s j);have er:=BH (c:=c) a U L.2 λs j=>⟨by rw[(h s j).1];exact C.2,by rw[(v s j).2.len];exact bJ C.2,(v s j).1⟩;let jt:LL:=a.map λs=>U s++[0];have rwl:jt.length=a.length:=by simp[jt]
 have N:∀u∈jt,u.length=d+1+1:=λu F=>by obtain⟨s,j,rfl⟩:=aD.mp F;rw[aT,(v s j).2.len];rfl
 have K:=yy (c:=c) jt (by lia) λr hr=>by rw[N r hr];lia
 rw[He]at K;obtain⟨pv,b,ix,ep,S,hrs,-⟩:=AM (c:=c) jt (d+1) 3351 (m:=4) (by lia) (by lia) N (λu F x I=>by
  obtain⟨s,j,rfl⟩:=aD.mp F;rcases ai.mp I with q|q
  .exact (v s j).2.bn x q
  .rw[aj.mp q];exact qt) Yv (List.range jt.length) (λz Y=>aS.mp Y) (by rw[gX];lia) λn q _=>by lia
 let R (X x4:Option W):En:=[some (.p (.int d)),some (.p (.lst (a.map tS))),some (.p (.lst (jt.map tI))),X,x4];have Q:iU jA (iV (iL (kh (ke be (m9 c))) (iL (iU jU a0 ab) iQ)) (kb c)) ab (qH (R none none))=.ok (.lst (b.map tI)):=iP (x:=.tup [.lst (pv.map ou),.lst (b.map tI)]) (jv (y:=.int ((d+1:Nat):Int)) (j3 (vG rfl K)) (iP rfl rfl (by rw[jY];rfl)) ep) rfl rfl
 have i:jE (iU (ji false) bu cb) (vw (R (some (.p (.lst (b.map tI)))) none))=.ok b.isEmpty:=by refine i6 (iP (x:=.lst (b.map tI)) (y:=.lst []) rfl (by simp) ?_);rw[uA false _ (by simp) (aN (wI b) (by decide))];simp
 have B:∀t,_=O.rt t->kR c [.int d,.lst (a.map tS)]=.ok t:=λt hr=>jh rfl (iR (sJ (jv rfl rfl (qM d a C L h))) (iR (ρ':=R none none) (iY (j3 (vG rfl er)) rfl) (iR (ρ':=R (some (.p (.lst (b.map tI)))) none) (iY Q rfl) hr)))
 cases k:b with
 |nil=>exact .inl (B .non (lE (jR (i.trans (by rw[k];rfl)) (i7 rfl)) rfl))
 |cons r p9=>
  obtain⟨J,-,-,-,Z⟩:=S.rr r (by rw[k];exact bj);let wt:LI:=r.drop (d+2);have D:wt.length=a.length:=by show (r.drop (d+2)).length=_;rw[bY,J];lia
  let e:LI:=(a.zip wt).map λp=>p.2*vc (U p.1) d;have A:∀s∈a,Bn 3351 (vc (U s) d):=λs j=>rV (v s j).2.bn d;have o:∀p∈a.zip wt,Bn 600000 p.2:=λp l=>Z _ (gY (aW l).2);have H:kC c [.lst (jt.map tI),tI wt]=.ok (e.map T.int):=pF rfl (pL (j5 (a.zip wt) (λp=>T.tup [tI (U p.1++[0]),.int p.2]) (λp=>T.int (p.2*vc (U p.1) d)) (nG (f:=λs=>tI (U s++[0])) (g:=T.int) rfl (by show M.ok _=_;rw[aI];rfl) rfl rfl) (by simp;lia) (λp l=>⟨_,rfl,rfl,iP rfl (iP rfl (y:=.int (-2)) rfl (SA (U p.1) d (v _ (aW l).1).2.len)) (jx ((o p l).ok (A _ (aW l).1) (by decide) (by decide)))⟩) (by rw[aI];rfl)))
  have ir:iU jA bu ac (qH (R (some (.p (.lst (b.map tI)))) none))=.ok (tI r):=iP (x:=.lst (b.map tI)) rfl rfl (by rw[k];exact Nd _ _);have E:kM (iU jA bu ac) (jL (iU jU a0 di)) (λ_=>.ok none) (qH (R (some (.p (.lst (b.map tI)))) none))=.ok (tI wt):=by have:=ES (fe:=iU jA bu ac) (fd:=iU jU a0 di) (d:=d+2) (ts:=r.map T.int) ir (iP rfl rfl (by rw[jY];rfl)) (by lia) (by intro z;have:=congrArg List.length z;simp[J]at this);rwa [<-dW]at this
  have e5:lH [none] (jP c5) b0 (λ_=>.ok true) (nu c) (vw (R (some (.p (.lst (b.map tI)))) (some (.p (tL e)))))=.ok ((e.map λx=>T.int (if x<0 then -1 else 1))):=j5 e T.int (λx=>T.int (if x<0 then -1 else 1)) rfl (by simp[e];lia) (λw hw=>⟨_,rfl,rfl,R6 w⟩) rfl
  refine .inr ⟨_,e,B _ (iR (jw (i.trans (by rw[k];rfl)) rfl) (iR (ρ':=R (some (.p (.lst (b.map tI)))) (some (.p (tL e)))) (iY (j3 (F7 rfl E H)) rfl) (i7 (oy (nV (j3 e5) rfl) rfl)))),by simp[e,D],λx I=>?_⟩;obtain⟨p,l,rfl⟩:=aD.mp I;exact ((o p l).mul (A _ (aW l).1)).mono (by decide)
def KR{f:List (List (Int×Int))}{u g:LI}(P:∀s∈f,A1 d s)(hw:g.length=f.length):zS d f (f.map λs=>tR (j6 d (Xs s) (vc u))) g=false:=by
 cases e:zS d f (f.map λs=>tR (j6 d (Xs s) (vc u))) g with
 |false=>rfl
 |true=>
  exfalso;unfold zS at e;rw[bZ,bZ,bZ,List.zip_map_left,cN,cO,cQ,eN,cQ]at e;obtain⟨E,⟨p0,l,C⟩,x,sv⟩:=e;let n:=f.zip g;have D:∀qs:List (List (Int×Int)×Int),(qs.map λp=>(p.2:Rat)*j6 d (Xs p.1) (vc u)).sum=n6 d (λk=>(vc u k:Rat)*(qs.map λp=>(p.2:Rat)*Xs p.1 k).sum)-(vc u d:Rat)*(qs.map λp=>(p.2:Rat)).sum:=λqs=>by
   induction qs with
   |nil=>simp;rw[qR];grind
   |cons p qs ih=>rw[bK,fW,ih,bK,fW];have:=rC (p.2:Rat) 1 d (λk=>(vc u k:Rat)*Xs p.1 k) (λk=>(vc u k:Rat)*(qs.map λp=>(p.2:Rat)*Xs p.1 k).sum);rw[ko d (λk=>(vc u k:Rat)*((p::qs).map λp=>(p.2:Rat)*Xs p.1 k).sum) (λk=>(p.2:Rat)*((vc u k:Rat)*Xs p.1 k)+1*((vc u k:Rat)*(qs.map λp=>(p.2:Rat)*Xs p.1 k).sum)) λk _=>by rw[bK,fW];grind,this];unfold j6;grind
  have o:∀k,k<d->(n.map λp=>(p.2:Rat)*Xs p.1 k).sum=0:=λk v=>by
   have z:=sv k (aS.mpr v);obtain⟨b,J,F⟩:=Dz (g.zip (f.map (qo k))) 0 1 (by decide) λq i=>by obtain⟨s,L,e⟩:=aD.mp (aW i).2;rw[<-e];exact (xK (P s L) v).2.pos
   have N:((g.zip (f.map (qo k))).foldl Q8 (0,1)).1=0:=by simpa[IP] using z
   rw[N]at F;have R:=mU J;have K:(g.zip (f.map (qo k))).map (λp=>(p.1:Rat)*qv p.2)=n.map λp=>(p.2:Rat)*Xs p.1 k:=by rw[iK,aI];exact Gf (λ(w:Int) s=>(w:Rat)*qv (qo k s)) g f
   rw[K]at F;have:=ie.mp F.symm;grind
  have B:=D n;have A:∀qs:List (List (Int×Int)×Int),(qs.map λp=>(p.2:Rat)).sum=((qs.map Prod.snd).sum:Int):=λqs=>by
   induction qs with
   |nil=>rfl
   |cons p qs ih=>simp[ih]
  rw[ko d _ (λ_=>0) λk v=>by rw[o k v,ig],qR,A,List.map_snd_zip (bB hw),show g.sum=0 by simpa using x]at B;have nn:∀p∈n,0<=(p.2:Rat)*j6 d (Xs p.1) (vc u)/\(tR (j6 d (Xs p.1) (vc u))≠0->p.2≠0->0<(p.2:Rat)*j6 d (Xs p.1) (vc u)):=λp j=>by
   have m:=E p j;simp only[Function.comp,Prod.map,id,GP]at m;generalize j6 d (Xs p.1) (vc u)=y at *;unfold tR lL at *;rcases gL p.2 0 with q|q|q
   .have I:(p.2:Rat)<0:=by exact_mod_cast q
    by_cases r:0<y
    .simp[r,q,eO q,gD q]at m
    .by_cases H:y<0
     .have:=fU (show 0 < -(p.2:Rat) by grind) (show 0 < -y by grind);exact⟨by grind,λ_ _=>by grind⟩
     .have:y=0:=by grind
      subst this;exact⟨by grind,λz=>absurd (by simp) z⟩
   .rw[q];exact⟨by simp,λ_ z=>absurd rfl z⟩
   .have I:=mU q;by_cases r:0<y
    .have:=fU I r;exact⟨by grind,λ_ _=>this⟩
    .by_cases H:y<0
     .simp[r,H,q,dD q]at m
     .have:y=0:=by grind
      subst this;exact⟨by grind,λz=>absurd (by simp) z⟩
  have pos:∀qs:List (List (Int×Int)×Int),(∀p∈qs,0<=(p.2:Rat)*j6 d (Xs p.1) (vc u))->0<=(qs.map λp=>(p.2:Rat)*j6 d (Xs p.1) (vc u)).sum/\∀p∈qs,(p.2:Rat)*j6 d (Xs p.1) (vc u)<=(qs.map λp=>(p.2:Rat)*j6 d (Xs p.1) (vc u)).sum:=λqs=>by
   induction qs with
   |nil=>exact λ_=>⟨by simp,λp j=>nomatch j⟩
   |cons p qs ih=>
    intro h;obtain⟨a,b⟩:=ih λq i=>h q (bx _ i);have j:=h p bj;rw[bK,fW];refine⟨by grind,λq i=>?_⟩;rcases aF.mp i with rfl|i
    .grind
    .have:=b q i;grind
  have Q:=(pos n λp j=>(nn p j).1).2 p0 l;simp only[Function.comp,Prod.map,id,bZ,bne_iff_ne]at C;have:=(nn p0 l).2 C.1 C.2;grind
def Jf{cs:LL}(j:1<=d/\d<=3)(g:∀u∈cs,GC d 30 u)(l:cs.length<=5):∃L:List (LI×LI),my c 5 [.lst (cs.map tI),.int (d:Int)]=.ok (.lst (L.map q9))/\Oi d 670 cs L/\1<=L.length/\L.length<=32:=by
 obtain⟨L,e,h,f⟩:=Ln (c:=c) 5 d 30 cs (by lia) (by lia) (by have:2 ^ d<=2 ^ 3:=dY (by decide) j.2;lia) (by lia) λu a=>⟨(g u a).gl.1,(g u a).gl.2,let ⟨p,_,q⟩:=(g u a).re;⟨p,q⟩⟩
 have k:∀d,d<4->Pw d 30<=670:=by decide
 refine⟨L,e,⟨h.fst,λp b=>⟨(h.gp p b).len,λx m=>((h.gp p b).bn x m).mono (k d (by lia)),(h.gp p b).pos⟩,h.sg⟩,cW.mpr f,?_⟩;have i:=congrArg List.length h.fst;rw[aw]at i;rw[i];exact aN (ze _ _) (dY (by decide) l)
def U9(h:∀i,i<d->X i=Y i) u:j6 d X u=j6 d Y u:=by unfold j6;rw[ko d _ (λp=>(u p)*Y p) λp a=>by rw[h p a]]
def GN(m:d<=3)(a:Gp d 670 P):∃s:List (Int×Int),rR c [tI P]=.ok (tS s)/\A1 d s/\∀u:Vc,j6 d (Xs s) u=j6 d (XP d (vc P)) u:=by
 have sz:1000<sizeLine:=by decide
 have p0:=a.pos;have l:P.dropLast.length=d:=by simp[a.len]
 obtain⟨f,e⟩:=mJ P λt b=>wj 670 670 t (vc P d) (dD p0) (a.bn t b) (rV a.bn d) (by decide);refine⟨P.dropLast.map f,?_,⟨by simp[a.len],λp k=>?_⟩,λu=>U9 (λi h=>?_) u⟩
 .refine jh rfl (i7 (mP ?_ rfl));exact j5 P.dropLast T.int (λt=>fr (f t)) (Ae (B3 a.len rfl)) (by lia) (λt b=>⟨_,rfl,rfl,jv rfl (iP rfl (pZ rfl) (DD a.len)) (e t (eK _ b)).1⟩) (by rw[aI];rfl)
 .obtain⟨t,b,rfl⟩:=aD.mp k;have g:=(e t (eK _ b)).2.1;exact⟨g.fq.pos,g.fq.one,g.b1,g.b2⟩
 .have j:P.dropLast[i]'(aE h (bB l.symm))∈P:=eK _ (aV _);unfold Xs XP;rw[af,av,ag (by lia),Option.map_some,iB,(e _ j).2.2,<-zr a.len h,kL _ i (by lia)]
def A3(d:Nat)(cs:LL)(s:List (Int×Int)):LI:=cs.map λu=>tR (j6 d (Xs s) (vc u))
def yK{cs:LL}(l:1<=d/\d<=3)(w:∀u∈cs,GC d 30 u)(p:cs.length<=5):∃g:List (List (Int×Int)),lR c [xS c d cs]=.ok (g.map tS)/\pK c [xS c d cs]=.ok ((g.map (A3 d cs)).map tI)/\(1<=g.length/\g.length<=32)/\(∀s∈g,A1 d s/\∀x∈A3 d cs s,x = -1\/x=1):=by
 have sz:1000<sizeLine:=by decide
 obtain⟨L,e,h,v,y⟩:=Jf (c:=c) l w p;obtain⟨f,j⟩:=mJ L λq a=>GN l.2 (h.gp q a);have k:∀q∈L,A3 d cs (f q)=q.1/\∀x∈q.1,x = -1\/x=1:=λq a=>by
  have b:=tT (yV.mp (by rw[<-h.fst];exact aD.mpr ⟨q,a,rfl⟩:q.1∈flt cs.length (Rz d cs))).1;refine⟨gN (by simp[A3,b.1]) λi o n=>?_,b.2⟩;have m:i<cs.length:=by simpa[A3] using o
  have:=h.sg q a i m;rw[Nl (h.gp q a).pos,af,ag m,iB,kL q.1 i n]at this;rw[show (A3 d cs (f q))[i]=tR (j6 d (Xs (f q)) (vc cs[i])) by simp[A3],(j q a).2.2,this]
 have r:L.map Prod.fst=(L.map f).map (A3 d cs):=by rw[aI];exact gE λq a=>(k q a).1.symm
 refine⟨L.map f,pF rfl (pL (j5 L q9 (λq=>tS (f q)) (wG (jv (j3 (Ik d cs rfl)) (Im d cs rfl) e)) (by lia) (λq a=>⟨_,rfl,rfl,nU rfl (j q a).1⟩) (by rw[aI];rfl))),?_,by simpa using ⟨v,y⟩,λs z=>?_⟩
 .rw[<-r];exact pF rfl (pL (j5 L q9 (λq=>tI q.1) (wG (jv (j3 (Ik d cs rfl)) (Im d cs rfl) e)) (by lia) (λq a=>⟨_,rfl,rfl,rfl⟩) (by rw[aI];rfl)))
 .obtain⟨q,a,rfl⟩:=aD.mp z;exact⟨(j q a).2.1,by rw[(k q a).1];exact (k q a).2⟩
def zK d (a:List (List (Int×Int))) (tb:LL) (n:1<=d/\d<=3) (v:1<=a.length/\a.length<=8) (h:∀s∈a,A1 d s) (w:1<=tb.length/\tb.length<=8) (hr:∀r∈tb,A5 a.length r):nQ c [.int d,.lst (a.map tS),.lst (tb.map tI)]=.ok .non:=by
 have q:(1:Int)<=tb.length:=by lia
 have o:(tb.length:Int)<=8:=by lia
 obtain⟨i,e,-⟩:=uN (m:=lG 2 bq) (g:=t8 c) (λ(p:LI×Nat)=>T.tup [.int (p.2:Int),tI p.1]) (λi=>∃j l,i=[some (.p (.int d)),some (.p (.lst (a.map tS))),some (.p (.lst (tb.map tI))),j,l]) tb.zipIdx _ ⟨none,none,rfl⟩ (by
  rintro⟨r,k⟩ u i ⟨j,l,rfl⟩;have b:r∈tb:=by have:=iI (f:=Prod.fst) u;rwa [List.zipIdx_map_fst]at this
  exact⟨_,_,rfl,.inl (jw (og (i6 (jv rfl rfl (Bz a r (by lia) (hr r b)))) rfl) rfl),_,_,rfl⟩)
 rw[<-qJ]at e;exact NW rfl (iR (sJ (jv rfl rfl (qM d a n v h))) (iR (jw (by simp[q,o]) rfl) (ku rfl e)))
def SZ:(PyData.str "weights").canLay0=true:=by decide +kernel
def Ug:(PyData.str "cut").canLay0=true:=by decide +kernel
def Ph:(PyData.str "cuts").canLay0=true:=by decide +kernel
def Us:ji false (.str "cut") (.str "weights")=.ok (.bl false):=by rw[W0 _ _ Ug SZ];congr 2
def SL:ji true (.str "cuts") (.str "cuts")=.ok (.bl false):=by simp[ji,vM,sX,Ph]
def GT{d:Nat}{a:List (List (Int×Int))}{tb:LL}(E:1<=d/\d<=3)(I:1<=a.length/\a.length<=8)(h:∀s∈a,A1 d s)(B:1<=tb.length/\tb.length<=8)(hr:∀r∈tb,A5 a.length r)(P:LI->LI->Prop)
  (y:∀r∈tb,∃b,ni c [.int d,.lst (a.map tS),tI r]=.ok (.tup [.str "cut",tI b])/\P r b) :
  ∃b:LL,nN c [.int d,.lst (a.map tS),.lst (tb.map tI)]=.ok (.tup [.str "cuts",.lst (b.map tI)])/\b.length=tb.length/\∀p∈tb.zip b,P p.1 p.2:=by
 obtain⟨f,D⟩:=mJ tb y;let R (F v l u:Option W):En:=[some (.p (.int d)),some (.p (.lst (a.map tS))),some (.p (.lst (tb.map tI))),F,v,l,u];obtain⟨x,e,v,l,u,rfl⟩:=kj (m:=lG 2 bP) (g:=tU c) (λ(p:LI×Nat)=>T.tup [.int (p.2:Int),tI p.1])
  (λk x=>∃v l u,x=R (some (.o (((tb.take k).map f).map tI))) v l u) tb.zipIdx 0 (R (some (.o [])) none none none) ⟨none,none,none,rfl⟩ (by rintro i ⟨r,j⟩ x w ⟨v,l,u,rfl⟩;rw[aG];rw[List.getElem?_zipIdx]at w;obtain⟨L,n,H⟩:=cU.mp w;cases H;refine⟨_,_,rfl,.inl (iR (ρ':=R (some (.o (((tb.take i).map f).map tI))) (some (.p (.int ((0+i:Nat):Int)))) (some (.p (tI r))) (some (.p (.tup [.str "cut",tI (f r)])))) (iY (mv rfl rfl rfl (D r (au n)).1) rfl) (iR (jw (i6 (iP (iP rfl rfl rfl) rfl Us)) rfl) (xx rfl (iP rfl rfl rfl) (by simp;exact cD (bT _ _) (cD B.2 (by decide))) rfl))),some (.p (.int ((0+i:Nat):Int))),some (.p (tI r)),some (.p (.tup [.str "cut",tI (f r)])),?_⟩;rw[ki tb i r n,aZ,aZ];rfl)
 rw[aG,gU,eZ]at e;rw[<-qJ]at e;refine⟨tb.map f,jh rfl (iR (sJ (mv rfl rfl rfl (zK (c:=c) d a tb E I h B hr))) (iR (ρ':=R (some (.o [])) none none none) (pH (ts:=[]) (by simp) rfl) (iR (ku rfl e) (i7 (oy rfl rfl))))),by simp,λp C=>?_⟩;rw[iK]at C;obtain⟨q,K,rfl⟩:=aD.mp C;obtain⟨i,w⟩:=c7.mp K;rw[List.getElem?_zip_eq_some]at w;obtain⟨A,z⟩:=w;rw[A]at z;have J:=Option.some.inj z;have:=(D _ (au A)).2;simp only[Prod.map,id];rwa [<-J]
def LP(n:d<=3)(i:GC d 900000 u)(h:A1 d s):oJ c [tI u,tS s]=.ok (.int (tR (j6 d (Xs s) (vc u)))):=by
 have f:=i.gl.1;have a:u≠[]:=λz=>by rw[z]at f;simp at f
 have j:=List.getLast?_eq_getLast a;have l:u.zip s=u.dropLast.zip s:=by
  have e:u=u.dropLast++[u.getLast a]:=(eG a).symm;have f:u.dropLast.length=s.length:=by rw[iG,h.1];exact f▸rfl
  conv=>lhs;rw[e]
  rw[<-bO s,List.zip_append f];simp
 obtain⟨b,o,r,e⟩:=AA (.p (tI u)) (.p (tS s)) (u.dropLast.zip s) (-(u.getLast a)) 900000 (by simp[h.1];lia) (i.gl.2 _ (eJ a)).neg (by decide) (λp k=>by have:=aW k;exact⟨i.gl.2 _ (eK _ this.1),h.2 _ this.2⟩) none none (g:=uV c) rfl
 have hv:sv u s=IP (u.dropLast.zip s) (-(u.getLast a)):=by unfold sv;rw[j];rfl
 rw[<-W1 d u s f h.1 λq m=>(h.2 q m).pos,hv];refine jh rfl (iR (iY ?_ rfl) (iR (iY rfl rfl) (iR (ku ?_ e) (i7 (Um _ rfl)))))
 .have:rG u (-1)=some (u.getLast a):=by rw[AZ u a,j]
  simp[tI,qA,this]
 .rw[<-l];exact nG rfl rfl rfl rfl
def N4{l:List α}{b:Nat}(h:b+1<=l.length):1<=(pC l (some (b:Int)) (some ((b+8:Nat):Int))).length/\(pC l (some (b:Int)) (some ((b+8:Nat):Int))).length<=8:=by unfold pC;rw[HT.sIx_nat,HT.sIx_nat,bS,bY];lia
def OT{l:List α}{a b:Option Int}(h:x∈pC l a b):x∈l:=gY (g9 h)
def Mh{cs:LL}(P:1<=d/\d<=3)(hg:Wk d 30 cs)(hn:1<=cs.length/\cs.length<=5) cell:nj c [.int (d:Int),.lst (cs.map tI),.int cell]=.ok (.bl true):=by
 have sz:1000<sizeLine:=by decide
 have i0:=OD (c:=c) d 30 cs P (by decide) hg;obtain⟨H,e1,e2,l,gs⟩:=yK (c:=c) P hg.gc hn.2;obtain⟨d1,d1a,d1b⟩:=oC (c:=c) cell 90 H.length (by lia) (by lia) (by decide) (by decide);obtain⟨b,hb⟩:∃b:Nat,dr c cell 90 H.length=(b:Int):=⟨(dr c cell 90 H.length).toNat,(cV d1a).symm⟩;rw[hb]at d1 d1b;let w:=pC (H++H) (some (b:Int)) (some ((b+8:Nat):Int));have C:1<=w.length/\w.length<=8:=N4 (by simp;lia);have L:∀s∈w,A1 d s/\∀x∈A3 d cs s,x = -1\/x=1:=λs v=>gs s (by simpa using OT v);let a (u:LI):LI:=w.map λs=>tR (j6 d (Xs s) (vc u));have r1:∀u∈cs,∀x∈a u,x = -1\/x=1:=λu D x U=>by obtain⟨s,v,rfl⟩:=aD.mp U;exact (L s v).2 _ (aD.mpr ⟨u,D,rfl⟩)
 have gr:∀u∈cs,A5 w.length (a u):=λu D=>⟨by simp[a],λx U=>by have:=r1 u D x U;lia,by
  cases Q:w with
  |nil=>rw[Q]at C;simp at C
  |cons s t=>have m:tR (j6 d (Xs s) (vc u))∈a u:=aD.mpr ⟨s,by rw[Q];exact bj,rfl⟩;exact⟨_,m,by have:=r1 u D _ m;lia⟩⟩
 have sd:∀u,∀i s,w[i]? = some s->tR (j6 d (Xs s) (vc u))=vc (a u) i:=λu i s I=>by have:=(aa.mp I);rw[kL _ i (by simp[a];exact this.1)];simp[a,this.2]
 let tb:=cs.map a;have tr:∀r∈tb,A5 w.length r:=λr hr=>by obtain⟨u,D,rfl⟩:=aD.mp hr;exact gr u D
 let R (x4 x5 x6 x7 x8 x9 J x11:Option W):En:=[some (.p (.int (d:Int))),some (.p (.lst (cs.map tI))),some (.p (.int cell)),some (.p (xS c d cs)),x4,x5,x6,x7,x8,x9,J,x11];let j:Option W:=some (.p (.int (b:Int)));let A:Option W:=some (.p (.lst ((w.map (A3 d cs)).map tI)));let B:Option W:=some (.p (.lst (w.map tS)));let E:Option W:=some (.p (.lst (tb.map tI)));have sl:∀{α:Type} (f:α->T) (x:List α) {fe:Pe->M T} {ρ:Pe},fe ρ=.ok (.lst ((x++x).map f))->iM 4 ρ=.ok (.int (b:Int))->kM fe (jL c5) kt ρ=.ok (.lst ((pC (x++x) (some (b:Int)) (some ((b+8:Nat):Int))).map f)):=λf x fe ρ S N=>by have h3:iU jU c5 (cM (.int 8)) ρ=.ok (.int ((b+8:Nat):Int)):=iP N rfl (jY _ _);simp only[kM,jL,S,N,h3,M.bind_ok,zI]
 have Y:∀{α:Type} (f:α->T) (x:List α) {fa:Pe->M ba} {ρ:Pe},fa ρ=.ok (x.map f)->x.length<=32->kh (zA (kh fa) (kh fa)) ρ=.ok (.lst ((x++x).map f)):=λf x fa ρ h U=>by rw[aZ];exact j3 (C6 (j3 h) (j3 h) (by simp;lia))
 have s4:iV (iL bi (iL (cM (.int 90)) (iL (lC lK (iL (kh (ke bf (pK c))) iQ)) iQ))) (jD c) (qH (R none none none none none none none none))=.ok (.int (b:Int)):=mv (z:=.int (H.length:Int)) rfl rfl (nV (j3 (vG rfl e2)) (by simp)) d1
 have pm:pC (H.map (A3 d cs)++H.map (A3 d cs)) (some (b:Int)) (some ((b+8:Nat):Int))=w.map (A3 d cs):=by rw[<-aZ,zI]
 have s5:=sl tI (H.map (A3 d cs)) (fe:=kh (zA (kh (ke bf (pK c))) (kh (ke bf (pK c))))) (ρ:=qH (R j none none none none none none none)) (Y tI _ (vG rfl e2) (by simp;exact l.2)) rfl;rw[pm]at s5;have s6:=sl tS H (fe:=kh (zA (kh (ke bf (lR c))) (kh (ke bf (lR c))))) (ρ:=qH (R j A none none none none none none)) (Y tS H (vG rfl e1) l.2) rfl;have s7:lH [none,some 5] (qc (iL dm iQ)) b0 (λ_=>.ok true) (vx c) (qH (R j A B none none none none none))=.ok (tb.map tI):=by
  refine j5 (List.range cs.length) (λ(k:Nat)=>T.int (k:Int)) (λk=>tI (a (cs.getD k []))) (zq _ (aN hn.2 (by decide)) (nV rfl (by simp))) (by simp;lia) (λk hk=>⟨_,rfl,rfl,?_⟩) ?_
  .have hk:=aS.mp hk;have eu:cs.getD k []=cs[k]:=by rw[af,ag hk];rfl
   refine mP (ts:=(a (cs.getD k [])).map T.int) (?_:lH [none,some 0] gk b0 (λ_=>.ok true) (vB c) [some (.int (k:Int)),some (.lst ((w.map (A3 d cs)).map tI))]=_) rfl;refine j5 w (λs=>tI (A3 d cs s)) (λs=>T.int (tR (j6 d (Xs s) (vc (cs.getD k []))))) (by show M.ok _=_;rw[aI];rfl) (by lia) (λs v=>⟨_,rfl,rfl,iP rfl rfl ?_⟩) (by rw[aI];rfl);have:(A3 d cs s)[k]? = some (tR (j6 d (Xs s) (vc (cs.getD k [])))):=by unfold A3;rw[av,ag hk,eu];rfl
   have kl:k<(A3 d cs s).length:=(aa.mp this).1;have q:jA (tI (A3 d cs s)) (.int (k:Int))=.ok (.int (vc (A3 d cs s) k)):=lX (A3 d cs s) k kl;rw[kL _ k kl,(aa.mp this).2]at q;exact q
  .refine gN (by simp[tb]) λi S N=>?_;have I:i<cs.length:=by simpa[tb] using N
   simp[tb,ag I]
 have s8:lH [none,none,some 0,some 6] (nF (iL (iM 7) ap)) ah (λ_=>.ok true) (vv c) (vw (R j A B E none none none none))=.ok ((cs.map λ_=>true).map T.bl):=by
  refine j5 (tb.zip cs) (λp=>T.tup [tI p.1,tI p.2]) (λ_=>T.bl true) (nG rfl rfl rfl rfl) (by simp[tb];lia) (λp Q=>⟨_,rfl,rfl,?_⟩) (by simp[tb,iw,Function.comp_def]);obtain⟨i,I⟩:=c7.mp Q;rw[List.getElem?_zip_eq_some,av]at I;obtain⟨u,D,er⟩:=cU.mp I.1;rw[D]at I;have ep:p=(a u,u):=Prod.ext er.symm (Option.some.inj I.2).symm;subst ep;have um:=au D;have cg:=hg.gc u um;have dt:=Nt (c:=c) d 30 w (a u) (tI u) P (by decide) C (λs v=>(L s v).1) (gr u um) rfl (λts e=>by
   cases e;refine⟨by rw[aw,cg.gl.1];lia,λt ht=>?_⟩;obtain⟨x,-,rfl⟩:=aD.mp ht;rfl) λX e=>by
    have:X=u:=by have e:=T.tup.inj e;exact (List.map_inj_right (λx y h=>T.int.inj h)).mp e.symm
    rw[this];exact cg.gl.2
  rw[N5 (λs v=>(L s v).1) cg (by simp[a]) (sd u)]at dt;exact HU rfl rfl rfl rfl dt
 obtain⟨X,e9,nl,np⟩:=GT (c:=c) P C (λs v=>(L s v).1) (tb:=tb) (by simp[tb];lia) tr (λr n=>GC d 900000 n/\∀i s,w[i]? = some s->tR (j6 d (Xs s) (vc n))=vc r i) λr hr=>by obtain⟨u,D,rfl⟩:=aD.mp hr;exact JB (u:=u) P C (λs v=>(L s v).1) (gr u D) (λx U=>by have:=r1 u D x U;lia) (sd u)
 have tl:tb.length=cs.length:=by simp[tb]
 let F:Option W:=some (.p (.tup [.str "cuts",.lst (X.map tI)]));obtain⟨ρ,e10,y9,K,rfl⟩:=uN (m:=lG 2 (jf (lq 9) (jf (lq 10) lF))) (g:=vz c) (λ(p:LI×LI)=>T.tup [tI p.1,tI p.2]) (λρ=>∃x9 J,ρ=R j A B E F x9 J none) (tb.zip X) (R j A B E F none none none) ⟨none,none,rfl⟩ (by
  rintro⟨r,n⟩ Q ρ ⟨x9,J,rfl⟩;obtain⟨gn,sn⟩:=np _ Q;have rm:=(aW Q).1;have er:w.map (λs=>tR (j6 d (Xs s) (vc n)))=r:=by
   have rl:=(tr r rm).len;refine gN (by simp[rl]) λi S N=>?_;have I:i<w.length:=by simpa using S
   rw[fg,sn i _ (ag I),kL r i N]
  have e1:lH [none,some 10] (jP da) b0 (λ_=>.ok true) (vq c) (vw (R j A B E F (some (.p (tI r))) (some (.p (tI n))) none))=.ok (r.map T.int):=j5 w tS (λs=>T.int (tR (j6 d (Xs s) (vc n)))) rfl (by lia) (λs v=>⟨_,rfl,rfl,jv rfl rfl (LP P.2 gn (L s v).1)⟩) (by rw[<-er,aI];rfl)
  refine⟨R j A B E F (some (.p (tI r))) (some (.p (tI n))) none,_,rfl,.inl (jw (i6 (iP (x:=tI r) (y:=tI r) (mP e1 rfl) rfl ?_)) rfl),_,_,rfl⟩;exact (KY true r r).trans (by simp))
 have c8:L3.vV (jE em) (jE eH) (vw (R j A B E F none none none))=.ok false:=by
  have S:jE em (vw (R j A B E F none none none))=.ok false:=i6 (iP (iP rfl rfl rfl) rfl SL);have N:jE eH (vw (R j A B E F none none none))=.ok false:=i6 (iP (x:=.int (X.length:Int)) (y:=.int (cs.length:Int)) (nV (t:=.lst (X.map tI)) rfl (by simp)) (nV rfl (by simp)) (by rw[md,nl,tl];simp))
  simp only[L3.vV,S,N,M.bind_ok];rfl
 have Z:∀{o:O},(iZ (setO 11 (j9 (iV (iL a0 k4) (kR c)))) _) (R j A B E F y9 K none)=o->wW c (jG 12 [.int (d:Int),.lst (cs.map tI),.int cell])=o:=λ{o} h=>iR (ρ':=R none none none none none none none none) (iY (jv rfl (j3 rfl) i0) rfl) (iR (ρ':=R j none none none none none none none) (iY s4 rfl) (iR (ρ':=R j A none none none none none none) (iY s5 rfl) (iR (ρ':=R j A B none none none none none) (iY s6 rfl) (iR (ρ':=R j A B E none none none none) (iY (j3 s7) rfl) (iR (jw (og (i6 (mP s8 (nY _))) (by simp)) rfl) (iR (ρ':=R j A B E F none none none) (iY (mv rfl rfl rfl e9) rfl) (iR (jw c8 rfl) (iR (ku (nG rfl rfl rfl rfl) e10) h))))))))
 rcases Sa (c:=c) P C (λs v=>(L s v).1) with e|⟨t,ws,e,wl,wb⟩
 .exact jh rfl (Z (iR (ρ':=R j A B E F y9 K (some (.p .non))) (iY (jv rfl rfl e) rfl) (lE (jR (i6 rfl) (i7 rfl)) rfl)))
 .have s9:lH [none,some 0,some 6,some 11] (jP (iM 7)) b0 (λ_=>.ok true) (vn c) (vw (R j A B E F y9 K (some (.p (.tup [t,tL ws])))))=.ok ((tb.map λ_=>false).map T.bl):=by refine j5 tb tI (λ_=>T.bl false) rfl (by lia) (λr hr=>⟨_,rfl,rfl,?_⟩) (by simp[iw,Function.comp_def]);obtain⟨u,D,rfl⟩:=aD.mp hr;have q:=ye (c:=c) d 800000 w (a u) ws P (by decide) C (λs v=>(L s v).1) (gr u D) wl wb;rw[KR (λs v=>(L s v).1) wl]at q;exact HU rfl rfl rfl (iP rfl rfl rfl) q
  refine jh rfl (Z (iR (ρ':=R j A B E F y9 K (some (.p (.tup [t,tL ws])))) (iY (jv rfl rfl e) rfl) (iR (jw (i6 rfl) rfl) (i7 ?_))));have q:tN [.lst ((tb.map λ_=>false).map T.bl)]=.ok (.bl false):=(uI _).trans (by rw[cO,bI.mpr];exact λ_ _=>aH);exact Hv (mP s9 q)
def IG(a:LI):wY c [.scr a]=.ok (.bl true):=by
 obtain⟨s,q,e,h,b,rfl⟩:=uN (m:=lq 1) (g:=Cq c) nI (λj=>∃e h b,j=[some (.p (.scr a)),e,h,b]) [0,1,0] _ ⟨none,none,none,rfl⟩ (by
  rintro k A j ⟨e,h,b,rfl⟩;obtain⟨v,l,-⟩:=GX (c:=c) a k;obtain⟨d,cs,z,n,u,r⟩:=Gj (c:=c) v 5 (by decide);let R:En:=[some (.p (.scr a)),some (.p (.int (k:Int))),some (.p (.int (d:Int))),some (.p (.lst (cs.map tI)))];refine⟨_,R,rfl,.inl (iR (ρ':=R) (RK (jv (jv rfl rfl l) rfl z) rfl) (jw ?_ rfl)),_,_,_,rfl⟩;have i:jE fm (vw R)=.ok (!decide (cs=[])):=by refine i6 (iP (x:=.lst (cs.map tI)) (y:=.lst []) rfl (by simp) ?_);rw[uA true _ (by simp) (aN (wI cs) (by decide))];cases cs<;>rfl
  by_cases f:cs=[]
  .simp only[L3.nP,i,f,M.bind_ok];rfl
  .have w:=cW.mpr f;have o:L3.lY (jE (iV (iL bi (iL bu (iL (iV b3 (lh c)) iQ))) (nj c))) (vw R)=.ok false:=og (i6 (mv rfl rfl (jv rfl rfl l) (Mh n u ⟨w,r⟩ v))) rfl;simp only[L3.nP,i,o,f,M.bind_ok];rfl)
 exact jh rfl (iR (ku rfl q) (i7 rfl))
end CL
namespace K59
open PySem L2 L3 CL
def jT(i:Nat):Stmt:=PySem.Challenge.pw_cutlands_k59_whole_lands_tell_their_cuts.main.body.getD i (.Pass ⟨0,0,0,0⟩)
structure Er(c:Cs)(K:W.Frag)(mg:Str->Option Value):Prop where
 here:True
 cl_Cutting:BQ K c.Cutting
 na_Cutting_own_cuts:oB K c.Cutting "own_cuts"
 na_Cutting_own_dims:oB K c.Cutting "own_dims"
 mk_Cutting:W.makesIn K c.Cutting=true
 kp_Cutting:W.keepIn K (.ref c.Cutting)=true
 mg_Cutting:mg "Cutting" = some (.ref c.Cutting)
 k_MOST_CUTS:∃t,mg "MOST_CUTS" = some (.int 7 t)
 k_MOST_DIMS:∃t,mg "MOST_DIMS" = some (.int 3 t)
 k_MOST_ROWS:∃t,mg "MOST_ROWS" = some (.int 8 t)
 k_MOST_SPOTS:∃t,mg "MOST_SPOTS" = some (.int 8 t)
def V2{K:W.Frag}{h:Heap}{a:Str->Option Value}{aCutting:Addr}{tMOST_CUTS tMOST_DIMS tMOST_ROWS tMOST_SPOTS:_}(X:K.In h)(G:h.Ns mainGlobals a)(e:W.nsIn K mainGlobals "Cutting" = some (some (.ref aCutting)))(i:W.plainGet K aCutting Str.empty=true)(b:W.hasDictIn K aCutting=true)(c:W.plainOver K aCutting=true)(g:W.findIn K (.ref aCutting) "__setattr__" = some (some (.builtin "object.__setattr__")))(own_cuts:W.findIn K (.ref aCutting) "own_cuts" = some none)(own_dims:W.findIn K (.ref aCutting) "own_dims" = some none)(f:W.makesIn K aCutting=true)(d:W.keepIn K (.ref aCutting)=true)(uMOST_CUTS:W.nsIn K mainGlobals "MOST_CUTS" = some (some (.int 7 tMOST_CUTS)))(uMOST_DIMS:W.nsIn K mainGlobals "MOST_DIMS" = some (some (.int 3 tMOST_DIMS)))(uMOST_ROWS:W.nsIn K mainGlobals "MOST_ROWS" = some (some (.int 8 tMOST_ROWS)))(uMOST_SPOTS:W.nsIn K mainGlobals "MOST_SPOTS" = some (some (.int 8 tMOST_SPOTS))):Er ⟨aCutting,0,0,0,0,0,0,0,0,0,0,0,0⟩ K a:=⟨trivial,⟨i,b,c,g⟩,own_cuts,own_dims,f,d,W.mg_of X G e,⟨_,W.mg_of X G uMOST_CUTS⟩,⟨_,W.mg_of X G uMOST_DIMS⟩,⟨_,W.mg_of X G uMOST_ROWS⟩,⟨_,W.mg_of X G uMOST_SPOTS⟩⟩
def VF{K:W.Frag}{a g:Addr}{m q:Str}{st:Stmt}{o kV d k b j:Value}{h n:Option Addr}{c:Array (Option Value)}(gf:W.findIn K (.ref a) m=some (some (.ref g)))(i:W.isFn K (.ref g)=true)(l:K.lookup g=some ⟨o,h,.func (W.fnOf m q (l3 st) (kg st) (i9 st) .none kV d k n b j),c⟩)(f:W.codeIn K b q=true)(e:W.keepIn K (.ref g)=true):oN K a m q st:=⟨_,_,GB l f e,gf,i,e⟩
set_option hygiene false in
local macro_rules|`('x')=>`(by repeat' first|(refine' iN ?_ ?_)|(refine' iT ?_)|(exact je)|(refine' jX _ nd ?_)|(refine' jK ?_ ?_ ?_)|(refine' jS ?_)|(refine' DU _ nd ?_)|(refine' oK ?_)|(refine' Kg ?_)|(exact wm)|(refine' wV _ nd ?_)|(exact iS _)|(exact jz)|(refine' iW ?_ ?_)|(exact jc)|(refine' Hu ?_ ?_)|(refine' kW (by assumption) hr ?_)|(refine' rF ?_ ?_)|(refine' qd ?_)|(refine' sN hr ?_ ?_)|(refine' FF hr ?_ ?_)|(refine' lS ?_)|(refine' rL ?_)|(refine' oI ?_ ?_)|(refine' nq ?_)|(refine' qu ?_ ?_)|(refine' oY ?_)|(refine' i8 (jH (K:=K)) kZ (by rfl) B.len k9 ?_)|(refine' jN vW vZ ?_ ?_)|(refine' jN BA Ci ?_ ?_)|(refine' jN B7 Bv ?_ ?_)|(refine' jN uz uf ?_ ?_)|(refine' jN sS sI ?_ ?_)|(refine' jN zN zH ?_ ?_)|(exact M4)|(exact oF)|(exact Kw)|(refine' rE ?_)|(refine' SR ?_ ?_)|(refine' zx ?_ ?_)|(refine' GR ?_)|(refine' Sz ?_ ?_)|(refine' Ha ?_ ?_)|(refine' El ?_ ?_ ?_)|(exact NS)|(refine' K4 ?_)|(refine' oW "tuple" (by decide) B.isinstance B.tuple kz ?_)|(refine' oW "list" (by decide) B.isinstance B.list mO ?_)|(refine' oW "int" (by decide) B.isinstance B.int AF ?_)|(refine' oW "bool" (by decide) B.isinstance B.bool Hr ?_)|(refine' j8 (j4 (K:=K)) kQ (by rfl) B.tuple kz ?_)|(refine' j8 xF CG (by rfl) B.int AF ?_)|(refine' i8 sC xJ (by rfl) B.abs xr ?_)|(refine' i8 (mj (K:=K) rfl) qO (by rfl) B.all qT ?_)|(refine' kf ?_)|(refine' Dg (by assumption) hr ?_)|(refine' om (mR (K:=K)) pT (by rfl) B.list mO ?_)|(refine' FM ?_)|(refine' Gz ?_ ?_)|(refine' KC ?_ ?_)|(refine' vH ?_ ?_)|(refine' t6 ?_)|(refine' zZ ?_))
section
variable {P:Program}{w:World}{K:W.Frag}{mg:Str->Option Value}{base:Heap}{c:Cs}(Z:Zx P w K mg base)(B:Bs mg)(ER:Er c K mg)
include Z B ER
theorem o0(D:iX K mg "is_whole" (jT 10)):CP Z "is_whole" 1 (kc c):=kJ Z 0 (kc c) ["thing"] 1 rfl D λnd hX hr=>⟨_,(iT (jS (vH (oW "int" (by decide) B.isinstance B.int AF (iS 0)) (t6 (zZ (oW "bool" (by decide) B.isinstance B.bool Hr (iS 0)))))))⟩
theorem o1(D:iX K mg "sign_of" (jT 12)):CP Z "sign_of" 1 (kG c):=kJ Z 0 (kG c) ["number"] 1 rfl D λnd hX hr=>⟨_,(iN (jK (jN BA Ci (iS 0) jz) 'x' je) (iN (jK (jN vW vZ (iS 0) jz) 'x' je) 'x'))⟩
theorem o2(D:iX K mg "common_divisor" (jT 13)):CP Z "common_divisor" 1 (jQ c):=kJ Z 0 (jQ c) ["one","other","rest"] 2 rfl D λnd hX hr=>⟨_,(iN (FX (λρ=>match ρ with|_::some (.p (.int j))::_=>j.natAbs+1|_=>0) PassesOwn.never 'x' 'x') (iT (jS (i8 sC xJ (by rfl) B.abs xr 'x'))))⟩
theorem o3(D:iX K mg "dot" (jT 14)):CP Z "dot" 1 (vX c):=kJ Z 0 (vX c) ["numbers","others"] 2 rfl D λnd hX hr=>⟨_,(iT (jS (i8 (Cv (K:=K) rfl) LN (by rfl) B.sum L4 (iW (kf (jV ["one","other"] [none,none] hX (lW B.zip 'x') (λnd hX=>⟨(mL 2 rfl (jg (jC 0 nd) (jg (jC 1 nd) kY))),jo, 'x'⟩))) jc))))⟩
theorem o4(D:iX K mg "less" (jT 24)):CP Z "less" 1 (mM c):=kJ Z 0 (mM c) ["one","other"] 2 rfl D λnd hX hr=>⟨_,(iT (jS (xH vW vZ 'x' 'x')))⟩
theorem o5(D:iX K mg "floor_of" (jT 25)):CP Z "floor_of" 1 (lN c):=kJ Z 0 (lN c) ["one"] 1 rfl D λnd hX hr=>⟨_, 'x'⟩
theorem o6(D:iX K mg "ceiling_of" (jT 26)):CP Z "ceiling_of" 1 (mz c):=kJ Z 0 (mz c) ["one"] 1 rfl D λnd hX hr=>⟨_, 'x'⟩
theorem o7(D:iX K mg "first_place" (jT 33)):CP Z "first_place" 1 (nS c):=kJ Z 0 (nS c) ["cut","place"] 1 rfl D λnd hX hr=>⟨_,(iN (jX 1 nd jz) (iN (FX (λρ=>match ρ with|some (.p (.tup ts))::_=>ts.length+1|_=>0) PassesOwn.never 'x' 'x') 'x'))⟩
theorem o8(D:oN K c.Cutting "dims" "Cutting.dims" (uO (jT 38) 1)):oV P w K mg base c.Cutting "dims" 1 (A0 K (lx c)):=Vj Z 0 (lx c) ["self"] ["self"] rfl ER.cl_Cutting D λnd hX hr=>⟨_,(iT (jS (MB rfl ER.cl_Cutting ER.na_Cutting_own_dims (iS 0))))⟩
theorem o9(D:oN K c.Cutting "cuts" "Cutting.cuts" (uO (jT 38) 2)):oV P w K mg base c.Cutting "cuts" 1 (Fi K (lu c)):=SD Z 0 (lu c) ["self"] ["self"] rfl ER.cl_Cutting D λnd hX hr=>⟨_,(iT (oK (om (mR (K:=K)) pT (by rfl) B.list mO (iW (MB rfl ER.cl_Cutting ER.na_Cutting_own_cuts (iS 0)) jc))))⟩
theorem X9(D:iX K mg "weighted" (jT 40)):CF Z "weighted" 1 (m9 c):=tH Z 0 (m9 c) ["cuts","rows","k","cut","weights"] 1 rfl D λnd a hr=>⟨_,(iN 'x' (iN (ka PassesOwn.never rfl (xg B.enumerate 'x') (oG 2 rfl (jB (jJ 2 nd) (jB (jJ 3 nd) lU))) (iN (wV 4 nd (KC 'x' (i8 (jH (K:=K)) kZ (by rfl) B.len k9 'x'))) (iN (wH 4 (pv 4) (iS 2) jz) (iT (NL 1 (pv 1) (rF (iS 3) (j8 (j4 (K:=K)) kQ (by rfl) B.tuple kz 'x'))))))) (iT (wZ 1 (pv 1)))))⟩
theorem Xh(D:iX K mg "free_places" (jT 44)):CF Z "free_places" 1 (nW c):=tH Z 0 (nW c) ["pivots","dims","taken"] 2 rfl D λnd a hr=>⟨_,(iN (jX 2 nd (kf (jV ["place","pivot"] [none,none] a (jk (iS 0)) (λnd a=>⟨(mL 2 rfl (jg (jC 0 nd) (jg (jC 1 nd) kY))),jo,(iS 0)⟩)))) (iT (oK (jV ["place","taken"] [none,some 2] a (Cy.pim (qw B.range 'x')) (λnd a=>⟨(jC 0 nd),(oE (jN (J7 (K:=K)) (Vz true) (iS 0) (iS 1) (by rfl))),(iS 0)⟩)))))⟩
theorem XN(D:iX K mg "turned" (jT 51)):CP Z "turned" 1 (oS c):=kJ Z 0 (oS c) ["row","sign"] 2 rfl D λnd a hr=>⟨_,(iT (jS (j8 (j4 (K:=K)) kQ (by rfl) B.tuple kz (iW (kf (jV ["number","sign"] [none,some 1] a (jk (iS 0)) (λnd a=>⟨(jC 0 nd),jo, 'x'⟩))) jc))))⟩
theorem XW(D:iX K mg "without_place" (jT 64)):CP Z "without_place" 1 (kS c):=kJ Z 0 (kS c) ["row","place"] 2 rfl D λnd a hr=>⟨_, 'x'⟩
theorem Ym(D:iX K mg "weights_of_spots" (jT 80)):CF Z "weights_of_spots" 1 (kC c):=tH Z 0 (kC c) ["rows","weights"] 2 rfl D λnd a hr=>⟨_,(iT (oK (jV ["row","weight"] [none,none] a (lW B.zip 'x') (λnd a=>⟨(mL 2 rfl (jg (jC 0 nd) (jg (jC 1 nd) kY))),jo, 'x'⟩))))⟩
theorem XR(D:iX K mg "_law_cell_at" (jT 89)):CP Z "_law_cell_at" 1 (lh c):=kJ Z 0 (lh c) ["_law_script","_law_k"] 2 rfl D λnd a hr=>⟨_,(iN (jK (jN vW vZ (iS 1) (i8 (jH (K:=K)) kZ (by rfl) B.len k9 'x')) 'x' je) 'x')⟩
theorem Yi(D:iX K mg "_law_draw" (jT 90)):CP Z "_law_draw" 1 (jD c):=kJ Z 0 (jD c) ["_law_cell","_law_k","_law_bound","_law_left","_law_j","_law_stir"] 3 rfl D λnd a hr=>⟨_,(iN (jK (jN B7 Bv (iS 0) (TM jz jz)) (iN 'x' (iN (xh PassesOwn.never rfl (qw B.range 'x') (jJ 4 nd) 'x') 'x')) je) 'x')⟩
theorem Yf(D:iX K mg "_law_same" (jT 91)):CP Z "_law_same" 1 (n8 c):=kJ Z 0 (n8 c) ["_law_one","_law_other","_law_k","_law_j"] 2 rfl D λnd a hr=>⟨_,(iN (xh PassesOwn.never rfl (qw B.range (iW (i8 (jH (K:=K)) kZ (by rfl) B.len k9 'x') jc)) (jJ 2 nd) (iT (xh PassesOwn.never rfl (qw B.range 'x') (jJ 3 nd) 'x'))) 'x')⟩
theorem XI(D:iX K mg "_law_side" (jT 94)):CP Z "_law_side" 1 (oJ c):=kJ Z 0 (oJ c) ["_law_cut_here","_law_spot","_law_top","_law_under","_law_number","_law_part"] 2 rfl D λnd a hr=>⟨_,(iN 'x' (iN (jX 3 nd jz) (iN (ka PassesOwn.never rfl (lW B.zip 'x') (oG 2 rfl (jB (jJ 4 nd) (jB (jJ 5 nd) lU))) 'x') (iT (jS (zx (j8 xF CG (by rfl) B.int AF (iW (xH BA Ci (iS 2) jz) jc)) (j8 xF CG (by rfl) B.int AF (iW (xH vW vZ (iS 2) jz) jc))))))))⟩
theorem Yc(D:iX K mg "lowest" (jT 15))(b:CP Z "common_divisor" 1 (jQ c)):CP Z "lowest" 2 (mW c):=kJ Z 1 (mW c) ["row","divisor","number"] 1 rfl D λnd a hr=>⟨_,(iN (jX 1 nd jz) (iN (ka PassesOwn.never rfl (jk (iS 0)) (jJ 2 nd) 'x') (iN 'x' (iT (jS (j8 (j4 (K:=K)) kQ (by rfl) B.tuple kz (iW (kf (jV ["number","divisor"] [none,some 1] a (jk (iS 0)) (λnd a=>⟨(jC 0 nd),jo, 'x'⟩))) jc)))))))⟩
theorem X3(D:iX K mg "made" (jT 18))(a:CP Z "common_divisor" 1 (jQ c)):CP Z "made" 2 (oM c):=kJ Z 1 (oM c) ["top","bottom","divisor"] 2 rfl D λnd b hr=>⟨_,(iN 'x' (iN 'x' (iN (jK (jN vW vZ (iS 1) jz) 'x' je) 'x')))⟩
theorem XJ(D:iX K mg "is_fraction" (jT 19))(b:CP Z "is_whole" 1 (kc c))(a:CP Z "common_divisor" 1 (jQ c)):CP Z "is_fraction" 2 (mH c):=kJ Z 1 (mH c) ["thing"] 1 rfl D λnd d hr=>⟨_,(iN (jK (rL (oI (lS (qd (oW "tuple" (by decide) B.isinstance B.tuple kz (iS 0)))) (nq (sN hr (i8 (jH (K:=K)) kZ (by rfl) B.len k9 'x') jz)))) 'x' je) (iN 'x' (iT (jS (vH (xH B7 Bv 'x' jz) (t6 (AW hr 'x' jz)))))))⟩
theorem Xr(D:iX K mg "is_dims" (jT 30))(a:CP Z "is_whole" 1 (kc c)):CP Z "is_dims" 2 (oj c):=kJ Z 1 (oj c) ["thing"] 1 rfl D λnd b hr=>⟨_,(iT (jS (vH 'x' (t6 (DL uz uf uz uf jz (iS 0) (wK 3 ER.k_MOST_DIMS))))))⟩
theorem Yx(D:iX K mg "is_cut" (jT 32))(b:CP Z "is_whole" 1 (kc c)):CP Z "is_cut" 2 (pV c):=kJ Z 1 (pV c) ["dims","thing"] 2 rfl D λnd a hr=>⟨_,(iN (jK (rL (oI (lS (qd (oW "tuple" (by decide) B.isinstance B.tuple kz (iS 1)))) (nq (sN hr (i8 (jH (K:=K)) kZ (by rfl) B.len k9 'x') 'x')))) 'x' je) (iN (jK (lS (qd (i8 (mj (K:=K) rfl) qO (by rfl) B.all qT (iW (kf (jV ["number"] [none] a (jk (iS 1)) (λnd a=>⟨(jC 0 nd),jo, 'x'⟩))) jc)))) 'x' je) (iT (jS (i8 (pI (K:=K) rfl) vF (by rfl) B.any vD (iW (kf (jV ["number"] [none] a (jk 'x') (λnd a=>⟨(jC 0 nd),jo,(Oa hr (iS 0) jz)⟩))) jc))))))⟩
theorem Xe(D:iX K mg "same_spots" (jT 34))(b:CP Z "first_place" 1 (nS c)):CP Z "same_spots" 2 (oH c):=kJ Z 1 (oH c) ["one","other","place"] 2 rfl D λnd a hr=>⟨_,(iN 'x' (iT (jS (i8 (mj (K:=K) rfl) qO (by rfl) B.all qT (iW (kf (jV ["mine","theirs","other","place","one"] [none,none,some 1,some 2,some 0] a (lW B.zip 'x') (λnd a=>⟨(mL 2 rfl (jg (jC 0 nd) (jg (jC 1 nd) kY))),jo,(AW hr 'x' 'x')⟩))) jc)))))⟩
theorem XQ(D:iX K mg "side_of" (jT 35))(a:CP Z "sign_of" 1 (kG c)):CP Z "side_of" 2 (sh c):=kJ Z 1 (sh c) ["cut","spot","left","bottom","number","part"] 2 rfl D λnd b hr=>⟨_,(iN 'x' (iN (jX 3 nd jz) (iN (ka PassesOwn.never rfl (lW B.zip 'x') (oG 2 rfl (jB (jJ 4 nd) (jB (jJ 5 nd) lU))) 'x') 'x')))⟩
theorem Xo(D:iX K mg "is_signs" (jT 49))(b:CP Z "is_whole" 1 (kc c)):CP Z "is_signs" 2 (qU c):=kJ Z 1 (qU c) ["many","thing"] 2 rfl D λnd a hr=>⟨_,(iN (jK (rL (oI (lS (qd (oW "tuple" (by decide) B.isinstance B.tuple kz (iS 1)))) (nq (sN hr (i8 (jH (K:=K)) kZ (by rfl) B.len k9 'x') (iS 0))))) 'x' je) (iT (jS (i8 (mj (K:=K) rfl) qO (by rfl) B.all qT (iW (kf (jV ["sign"] [none] a (jk (iS 1)) (λnd a=>⟨(jC 0 nd),jo,(vH 'x' (t6 (DL uz uf uz uf (GR jz) (iS 0) jz)))⟩))) jc)))))⟩
theorem Ye(D:iX K mg "is_weights" (jT 50))(b:CP Z "is_whole" 1 (kc c)):CP Z "is_weights" 2 (oU c):=kJ Z 1 (oU c) ["many","thing"] 2 rfl D λnd a hr=>⟨_,(iN (jK (rL (oI (lS (qd (oW "list" (by decide) B.isinstance B.list mO (iS 1)))) (nq (sN hr (i8 (jH (K:=K)) kZ (by rfl) B.len k9 'x') (iS 0))))) 'x' je) (iT (jS (i8 (mj (K:=K) rfl) qO (by rfl) B.all qT (iW (kf (jV ["weight"] [none] a (jk (iS 1)) (λnd a=>⟨(jC 0 nd),jo, 'x'⟩))) jc)))))⟩
theorem X5(D:iX K mg "whole_between" (jT 55))(d:CP Z "floor_of" 1 (lN c))(a:CP Z "less" 1 (mM c))(e:CP Z "ceiling_of" 1 (mz c)):CP Z "whole_between" 2 (lP c):=kJ Z 1 (lP c) ["low","high","whole"] 2 rfl D λnd b hr=>⟨_,(iN (jX 2 nd jz) (iN (jK (rL (qu (jN sS sI (iS 0) oF) (oY (jN B7 Bv 'x' jz)))) 'x' (iT (jK (rL (qu (jN sS sI (iS 1) oF) (oY (jN uz uf 'x' jz)))) 'x' je))) (iN (jK (rL (qu (jN sS sI (iS 0) oF) (oY 'x'))) 'x' je) (iN (jK (rL (qu (jN sS sI (iS 1) oF) (oY 'x'))) 'x' je) 'x'))))⟩
theorem X8(D:iX K mg "paper_of_noughts" (jT 58))(a:CP Z "turned" 1 (oS c))(b:CP Z "sign_of" 1 (kG c)):CP Z "paper_of_noughts" 2 (kD c):=kJ Z 1 (kD c) ["rests","dims","rest"] 2 rfl D λnd d hr=>⟨_,(iN (ka PassesOwn.never rfl (jk (iS 0)) (jJ 2 nd) (iT (jK 'x' (iT (jS (kf (om (mR (K:=K)) pT (by rfl) B.list mO 'x')))) je))) 'x')⟩
theorem Xm(D:iX K mg "may_weigh" (jT 60))(a:CP Z "sign_of" 1 (kG c)):CP Z "may_weigh" 2 (pO c):=kJ Z 1 (pO c) ["sign","weight"] 2 rfl D λnd b hr=>⟨_,(iT (jS (Rk (AW hr (iS 0) jz) (Rk (AW hr (iS 1) jz) (t6 (AW hr 'x' (iS 0)))))))⟩
theorem Yt(D:iX K mg "left_at" (jT 62))(a:CP Z "dot" 1 (vX c)):CP Z "left_at" 2 (mh c):=kJ Z 1 (mh c) ["cut","point"] 2 rfl D λnd b hr=>⟨_, 'x'⟩
theorem X4(D:iX K mg "cut_beside" (jT 81))(a:CP Z "turned" 1 (oS c))(d:CP Z "floor_of" 1 (lN c)):CP Z "cut_beside" 2 (oz c):=kJ Z 1 (oz c) ["dims","spots","sign","ahead"] 3 rfl D λnd b hr=>⟨_,(iN (jX 3 nd (zx (i8 (FD (K:=K) rfl) Ou (by rfl) B.min T6 (iW (kf (jV ["spot"] [none] b (jk (iS 1)) (λnd b=>⟨(jC 0 nd),jo, 'x'⟩))) jc)) jz)) (iT (jS (kW a hr (iW (rF (rF 'x' (HH 'x' 'x')) 'x') 'x')))))⟩
theorem XD(D:iX K mg "_law_cut" (jT 92))(a:CP Z "_law_draw" 1 (jD c)):CP Z "_law_cut" 2 (mZ c):=kJ Z 1 (mZ c) ["_law_cell","_law_k","_law_dims","_law_found","_law_wide","_law_cut_here","_law_way","_law_other","_law_by"] 4 rfl D λnd b hr=>⟨_,(iN 'x' (iN (ue ["_law_j","_law_wide","_law_cell","_law_k"] [none,some 4,some 0,some 1] 5 nd b (Cy.pim (qw B.range 'x')) (λnd b=>⟨(jC 0 nd),jo, 'x'⟩) CI) (iN 'x' (iN (jK 'x' (iT (Lr 5 nd (Gz (kf (om (mR (K:=K)) pT (by rfl) B.list mO (iW (El (Hu (iS 3) (kW a hr (iW (iS 0) (iW 'x' (iW (i8 (jH (K:=K)) kZ (by rfl) B.len k9 'x') jc))))) NS (K4 (iS 2))) jc))) 'x'))) je) (iN (jK 'x' (iT (wH 5 (pv 5) (iS 2) jz)) je) (iN (jK (rL (qu 'x' (oY (jN BA Ci (i8 (jH (K:=K)) kZ (by rfl) B.len k9 'x') jz)))) (iN (jX 7 nd (Hu (iS 3) (kW a hr (iW (iS 0) (iW 'x' (iW (zx (i8 (jH (K:=K)) kZ (by rfl) B.len k9 'x') jz) jc)))))) (iN 'x' (iT (ue ["_law_one","_law_two","_law_by"] [none,none,some 8] 5 nd b (lW B.zip 'x') (λnd b=>⟨(mL 2 rfl (jg (jC 0 nd) (jg (jC 1 nd) kY))),jo, 'x'⟩) CI)))) je) (iN (jK 'x' (iT (wH 5 (pv 5) 'x' jz)) je) (iT (jS (j8 (j4 (K:=K)) kQ (by rfl) B.tuple kz 'x'))))))))))⟩
theorem XG(D:iX K mg "cleared" (jT 16))(a:CP Z "lowest" 2 (mW c))(d:CP Z "sign_of" 1 (kG c)):CP Z "cleared" 3 (j7 c):=kJ Z 2 (j7 c) ["row","other","place","often","other_often"] 3 rfl D λnd b hr=>⟨_,(iN 'x' (iN (jX 3 nd (i8 sC xJ (by rfl) B.abs xr 'x')) (iN 'x' (iT (jS (kW a hr (iW (j8 (j4 (K:=K)) kQ (by rfl) B.tuple kz (iW (kf (jV ["mine","theirs","often","other_often"] [none,none,some 3,some 4] b (lW B.zip 'x') (λnd b=>⟨(mL 2 rfl (jg (jC 0 nd) (jg (jC 1 nd) kY))),jo, 'x'⟩))) jc)) jc)))))))⟩
theorem XB(D:iX K mg "plus" (jT 20))(a:CP Z "made" 2 (oM c)):CP Z "plus" 3 (Ay c):=kJ Z 2 (Ay c) ["one","other"] 2 rfl D λnd b hr=>⟨_, 'x'⟩
theorem Yo(D:iX K mg "minus" (jT 21))(a:CP Z "made" 2 (oM c)):CP Z "minus" 3 (xj c):=kJ Z 2 (xj c) ["one","other"] 2 rfl D λnd b hr=>⟨_, 'x'⟩
theorem Yp(D:iX K mg "times" (jT 22))(a:CP Z "made" 2 (oM c)):CP Z "times" 3 (rj c):=kJ Z 2 (rj c) ["one","other"] 2 rfl D λnd b hr=>⟨_, 'x'⟩
theorem Yq(D:iX K mg "over" (jT 23))(a:CP Z "made" 2 (oM c)):CP Z "over" 3 (t5 c):=kJ Z 2 (t5 c) ["one","other"] 2 rfl D λnd b hr=>⟨_, 'x'⟩
theorem XY(D:iX K mg "is_spot" (jT 31))(b:CP Z "is_fraction" 2 (mH c)):CP Z "is_spot" 3 (rY c):=kJ Z 2 (rY c) ["dims","thing"] 2 rfl D λnd a hr=>⟨_,(iN (jK (rL (oI (lS (qd (oW "tuple" (by decide) B.isinstance B.tuple kz (iS 1)))) (nq (sN hr (i8 (jH (K:=K)) kZ (by rfl) B.len k9 'x') (iS 0))))) 'x' je) (iT (jS (i8 (mj (K:=K) rfl) qO (by rfl) B.all qT (iW (kf (jV ["part"] [none] a (jk (iS 1)) (λnd a=>⟨(jC 0 nd),jo, 'x'⟩))) jc)))))⟩
theorem X2(D:iX K mg "can_stand" (jT 36))(b:CP Z "is_cut" 2 (pV c))(d:CP Z "same_spots" 2 (oH c)):CP Z "can_stand" 3 (oo c):=kJ Z 2 (oo c) ["dims","ahead","thing"] 3 rfl D λnd a hr=>⟨_,(iN (jK (rL (oI (jN B7 Bv (i8 (jH (K:=K)) kZ (by rfl) B.len k9 'x') (wK 7 ER.k_MOST_CUTS)) (nq 'x'))) 'x' je) (iT (jS (zZ (i8 (pI (K:=K) rfl) vF (by rfl) B.any vD (iW (kf (jV ["cut","thing"] [none,some 2] a (jk (iS 1)) (λnd a=>⟨(jC 0 nd),jo, 'x'⟩))) jc))))))⟩
theorem X1(D:iX K mg "whole_way" (jT 47))(a:CP Z "lowest" 2 (mW c))(d:CP Z "common_divisor" 1 (jQ c)):CP Z "whole_way" 3 (lA c):=kJ Z 2 (lA c) ["parts","bottoms","part"] 1 rfl D λnd b hr=>⟨_,(iN (jX 1 nd jz) (iN (ka PassesOwn.never rfl (jk (iS 0)) (jJ 2 nd) 'x') (iT (jS (kW a hr (iW (j8 (j4 (K:=K)) kQ (by rfl) B.tuple kz (iW (kf (jV ["part","bottoms"] [none,some 1] b (jk (iS 0)) (λnd b=>⟨(jC 0 nd),jo, 'x'⟩))) jc)) jc))))))⟩
theorem XS(D:iX K mg "one_between" (jT 56))(d:CP Z "whole_between" 2 (lP c))(f:CP Z "floor_of" 1 (lN c)):CP Z "one_between" 3 (lZ c):=kJ Z 2 (lZ c) ["low","high","floors","whole","floor","rest","over_rest","found"] 2 rfl D λnd g hr=>⟨_,(iN (jK (rL (qu (jN sS sI (iS 0) oF) (oY 'x'))) 'x' je) (iN 'x' (iN 'x' (iN (FX (λe=>match e with|some (.p (.tup [_,.int a]))::some (.p (.tup [_,.int b]))::_=>a.natAbs+b.natAbs+2|_=>1) PassesOwn.never (jN zN zH (iS 3) oF) (iN 'x' (iN (qW 2 (pv 2) (iS 4)) (iN 'x' (iN (jX 6 nd (Rn 'x' oF 'x')) 'x'))))) (iN 'x' (iN (T5 2 (ka PassesOwn.never rfl (G7 B.reversed 'x') (jJ 4 nd) 'x')) 'x'))))))⟩
theorem Yg(D:iX K mg "point_off" (jT 63))(a:CP Z "lowest" 2 (mW c))(e:CP Z "dot" 1 (vX c))(d:CP Z "left_at" 2 (mh c)):CP Z "point_off" 3 (mw c):=kJ Z 2 (mw c) ["ahead","cut","point","sign","often","other","step","parts"] 4 rfl D λnd b hr=>⟨_,(iN (jX 4 nd jz) (iN (ka PassesOwn.never rfl (jk (iS 0)) (jJ 5 nd) (iN (jX 6 nd (i8 sC xJ (by rfl) B.abs xr 'x')) (iT (jX 4 nd (i8 (IW rfl) QT (by rfl) B.max Tf (iW (iS 4) (iW (rF (Ha (iS 6) (i8 sC xJ (by rfl) B.abs xr 'x')) jz) jc))))))) (iN (ue ["part","number","often","sign"] [none,none,some 4,some 3] 7 nd b (lW B.zip 'x') (λnd b=>⟨(mL 2 rfl (jg (jC 0 nd) (jg (jC 1 nd) kY))),jo, 'x'⟩) se) (iT (jS (kW a hr (iW (rF (j8 (j4 (K:=K)) kQ (by rfl) B.tuple kz 'x') 'x') jc)))))))⟩
theorem Xb(D:iX K mg "point_on" (jT 65))(b:CP Z "lowest" 2 (mW c))(e:CP Z "left_at" 2 (mh c))(f:CP Z "sign_of" 1 (kG c))(d:CP Z "without_place" 1 (kS c)):CP Z "point_on" 3 (n5 c):=kJ Z 2 (n5 c) ["cut","place","point","often","part","others"] 3 rfl D λnd a hr=>⟨_,(iN (jX 3 nd (i8 sC xJ (by rfl) B.abs xr 'x')) (iN 'x' (iN (jX 5 nd (j8 (j4 (K:=K)) kQ (by rfl) B.tuple kz (iW (kf (jV ["number","often"] [none,some 3] a (jk (iS 2)) (λnd a=>⟨(jC 0 nd),jo, 'x'⟩))) jc))) 'x')))⟩
theorem XX(D:iX K mg "spot_at" (jT 69))(b:CP Z "made" 2 (oM c)):CP Z "spot_at" 3 (rR c):=kJ Z 2 (rR c) ["point"] 1 rfl D λnd a hr=>⟨_,(iT (jS (j8 (j4 (K:=K)) kQ (by rfl) B.tuple kz (iW (kf (jV ["part","point"] [none,some 0] a (jk 'x') (λnd a=>⟨(jC 0 nd),jo, 'x'⟩))) jc))))⟩
theorem XE(D:iX K mg "is_row" (jT 76))(a:CP Z "is_signs" 2 (qU c)):CP Z "is_row" 3 (qV c):=kJ Z 2 (qV c) ["spots","thing"] 2 rfl D λnd b hr=>⟨_,(iT (jS (vH (kW a hr (iW (i8 (jH (K:=K)) kZ (by rfl) B.len k9 'x') 'x')) (t6 (i8 (pI (K:=K) rfl) vF (by rfl) B.any vD 'x')))))⟩
theorem Xn(D:iX K mg "_law_cutting" (jT 93))(b:CP Z "_law_draw" 1 (jD c))(e:CP Z "_law_cut" 2 (mZ c))(d:CP Z "_law_same" 1 (n8 c)):CP Z "_law_cutting" 3 (nX c):=kJ Z 2 (nX c) ["_law_cell","_law_most","_law_dims","_law_found","_law_k","_law_cut_here"] 2 rfl D λnd a hr=>⟨_,(iN 'x' (iN 'x' (iN (xh PassesOwn.never rfl (qw B.range 'x') (jJ 4 nd) (iN 'x' (iT (jK (FF hr (kf (jV ["_law_one","_law_cut_here"] [none,some 5] a (jk (iS 3)) (λnd a=>⟨(jC 0 nd),(oE 'x'),(iS 0)⟩))) (kf (FM jc))) (iT (qW 3 (pv 3) (iS 5))) je)))) 'x')))⟩
theorem Xw(D:iX K mg "checked_cuts" (jT 37))(a:CP Z "is_dims" 2 (oj c))(b:CP Z "can_stand" 3 (oo c)):CP Z "checked_cuts" 4 (l8 c):=kJ Z 3 (l8 c) ["dims","things","ahead","thing"] 2 rfl D λnd d hr=>⟨_,(iN (jK (rL (oI 'x' (nq (lS (qd (oW "list" (by decide) B.isinstance B.list mO (iS 1))))))) (iT wm) je) (iN 'x' (iN (ka PassesOwn.never rfl (jk (iS 1)) (jJ 3 nd) (iN 'x' (iT (qW 2 (pv 2) (j8 (j4 (K:=K)) kQ (by rfl) B.tuple kz 'x'))))) (iT (jS (j8 (j4 (K:=K)) kQ (by rfl) B.tuple kz 'x'))))))⟩
theorem Yn(D:iX K mg "settled" (jT 41))(a:CP Z "cleared" 3 (j7 c)):CP Z "settled" 4 (nA c):=kJ Z 3 (nA c) ["row","pivots","place","pivot"] 2 rfl D λnd b hr=>⟨_,(iN (ka PassesOwn.never rfl (jk (iS 1)) (oG 2 rfl (jB (jJ 2 nd) (jB (jJ 3 nd) lU))) 'x') 'x')⟩
theorem XT(D:iX K mg "with_pivot" (jT 42))(b:CP Z "cleared" 3 (j7 c)):CF Z "with_pivot" 4 (nv c):=tH Z 3 (nv c) ["pivots","row","place"] 3 rfl D λnd a hr=>⟨_,(iT (oK (Gz (kf (jV ["other_place","pivot","row","place"] [none,none,some 1,some 2] a (jk (iS 0)) (λnd a=>⟨(mL 2 rfl (jg (jC 0 nd) (jg (jC 1 nd) kY))),jo, 'x'⟩))) 'x')))⟩
theorem Xj(D:iX K mg "left_for" (jT 45))(b:CP Z "minus" 3 (xj c))(a:CP Z "times" 3 (rj c)):CP Z "left_for" 4 (mV c):=kJ Z 3 (mV c) ["row","parts","left","number","part"] 2 rfl D λnd d hr=>⟨_,(iN (jX 2 nd (rE (iW (Hu (iS 0) (i8 (jH (K:=K)) kZ (by rfl) B.len k9 'x')) 'x'))) (iN (ka PassesOwn.never rfl (lW B.zip 'x') (oG 2 rfl (jB (jJ 3 nd) (jB (jJ 4 nd) lU))) 'x') 'x'))⟩
theorem Xp(D:iX K mg "shadow" (jT 52))(b:CP Z "cleared" 3 (j7 c)):CF Z "shadow" 4 (uc c):=tH Z 3 (uc c) ["rows","dims","place","most","told","row","one","other","joined"] 4 rfl D λnd a hr=>⟨_,(iN (Mp 4 nd) (iN (ka PassesOwn.never rfl (jk (iS 0)) (jJ 5 nd) (iT (jK 'x' (iT (EG 4 hr (pv 4) (iS 5) M4)) je))) (iN (ka PassesOwn.never rfl (jk (kf (jV ["row","place"] [none,some 2] a (jk (iS 0)) (λnd a=>⟨(jC 0 nd),(oE (jN BA Ci 'x' jz)),(iS 0)⟩)))) (jJ 6 nd) (iT (ka PassesOwn.never rfl (jk (kf (jV ["row","place"] [none,some 2] a (jk (iS 0)) (λnd a=>⟨(jC 0 nd),(oE (jN vW vZ 'x' jz)),(iS 0)⟩)))) (jJ 7 nd) (iN 'x' (iT (jK (jN uz uf (i8 (jH (K:=K)) kZ (by rfl) B.len k9 (iW (kf (jV ["weight"] [none] a (jk 'x') (λnd a=>⟨(jC 0 nd),(oE 'x'),(iS 0)⟩))) jc)) (iS 3)) (iT (EG 4 hr (pv 4) (iS 8) M4)) je)))))) (iT (LU 4 rfl B.list (pv 4))))))⟩
theorem Xl(D:iX K mg "check_spots" (jT 75))(d:CP Z "is_dims" 2 (oj c))(b:CP Z "is_spot" 3 (rY c)):CP Z "check_spots" 4 (lj c):=kJ Z 3 (lj c) ["dims","things"] 2 rfl D λnd a hr=>⟨_,(iN (jK (rL (oI 'x' (oI (lS (qd (oW "list" (by decide) B.isinstance B.list mO (iS 1)))) (nq (lS (Cc uz uf uz uf jz (i8 (jH (K:=K)) kZ (by rfl) B.len k9 'x') (wK 8 ER.k_MOST_SPOTS))))))) (iT wm) je) (iT (jK (lS (qd (i8 (mj (K:=K) rfl) qO (by rfl) B.all qT (iW (kf (jV ["thing","dims"] [none,some 0] a (jk (iS 1)) (λnd a=>⟨(jC 0 nd),jo, 'x'⟩))) jc)))) (iT wm) je)))⟩
theorem Yd(D:iX K mg "raised" (jT 79))(b:CP Z "whole_way" 3 (lA c)):CF Z "raised" 4 (qS c):=tH Z 3 (qS c) ["spots"] 1 rfl D λnd a hr=>⟨_,(iT (oK (jV ["spot"] [none] a (jk (iS 0)) (λnd a=>⟨(jC 0 nd),jo, 'x'⟩))))⟩
theorem Yh(D:iX K mg "come_to_nought" (jT 84))(b:CP Z "plus" 3 (Ay c))(a:CP Z "times" 3 (rj c)):CP Z "come_to_nought" 4 (l9 c):=kJ Z 3 (l9 c) ["parts","weights","together","part","weight"] 2 rfl D λnd d hr=>⟨_,(iN 'x' (iN (ka PassesOwn.never rfl (lW B.zip 'x') (oG 2 rfl (jB (jJ 3 nd) (jB (jJ 4 nd) lU))) 'x') (iT (jS (AW hr 'x' jz)))))⟩
theorem Xt(D:oN K c.Cutting "__init__" "Cutting.__init__" (uO (jT 38) 0))(a:CP Z "checked_cuts" 4 (l8 c)):IV P w K mg base "Cutting" c.Cutting 5 (G4 K c.Cutting (l5 c)):=WG Z 4 (l5 c) ["self","dims","cuts"] rfl ER.cl_Cutting ER.na_Cutting_own_cuts ER.na_Cutting_own_dims ER.mk_Cutting ER.kp_Cutting ER.mg_Cutting D λhr=>Wx rfl (pv 0) (kW a hr (iW (iS 1) (iW (iS 2) jc))) (pv 0) (iS 1)
theorem XO(D:iX K mg "pivots_and_rests" (jT 43))(b:CP Z "settled" 4 (nA c))(d:CF Z "with_pivot" 4 (nv c)):CP Z "pivots_and_rests" 5 (kb c):=kJ Z 4 (kb c) ["rows","dims","pivots","rests","row","left","places"] 2 rfl D λnd a hr=>⟨_,(iN 'x' (iN 'x' (iN (ka PassesOwn.never rfl (jk (iS 0)) (jJ 4 nd) (iN 'x' (iN (ue ["place","left"] [none,some 5] 6 nd a (Cy.pim (qw B.range 'x')) (λnd a=>⟨(jC 0 nd),(oE 'x'),(iS 0)⟩) se) (iT (jK 'x' (iT (qW 3 (pv 3) (iS 5))) 'x'))))) 'x')))⟩
theorem Yk(D:iX K mg "filled" (jT 46))(a:CP Z "over" 3 (t5 c))(b:CP Z "left_for" 4 (mV c)):CP Z "filled" 5 (t9 c):=kJ Z 4 (t9 c) ["pivots","parts","spot","place","pivot"] 2 rfl D λnd d hr=>⟨_,(iN (wV 2 nd (om (mR (K:=K)) pT (by rfl) B.list mO 'x')) (iN (ka PassesOwn.never rfl (jk (iS 0)) (oG 2 rfl (jB (jJ 3 nd) (jB (jJ 4 nd) lU))) (iT (wH 2 (pv 2) (iS 3) 'x'))) (iT (jS (j8 (j4 (K:=K)) kQ (by rfl) B.tuple kz 'x')))))⟩
theorem Yr(D:iX K mg "shadows" (jT 53))(a:CF Z "shadow" 4 (uc c)):CF Z "shadows" 5 (r6 c):=tH Z 4 (r6 c) ["rows","dims","places","pivots","layers","place","most"] 4 rfl D λnd b hr=>⟨_,(iN 'x' (iN (ka PassesOwn.never rfl (jk (iS 2)) (jJ 5 nd) (iN (DU 6 nd (rF (rF (i8 (jH (K:=K)) kZ (by rfl) B.len k9 'x') jz) (i8 (jH (K:=K)) kZ (by rfl) B.len k9 'x'))) (iT (JL 4 (pv 4) 'x')))) (iT (wZ 4 (pv 4)))))⟩
theorem Xq(D:iX K mg "ends_at" (jT 54))(a:CP Z "over" 3 (t5 c))(b:CP Z "left_for" 4 (mV c))(d:CP Z "less" 1 (mM c)):CP Z "ends_at" 5 (qI c):=kJ Z 4 (qI c) ["rows","place","parts","low","high","row","end"] 3 rfl D λnd e hr=>⟨_,(iN (jX 3 nd oF) (iN (jX 4 nd oF) (iN (ka PassesOwn.never rfl (jk (iS 0)) (jJ 5 nd) (iT (jK 'x' (iN 'x' (iN (jK (rL (qu (jN BA Ci 'x' jz) (oY (rL (oI (jN zN zH (iS 3) oF) (nq 'x')))))) 'x' je) (iT (jK (rL (qu (jN vW vZ 'x' jz) (oY (rL (oI (jN zN zH (iS 4) oF) (nq 'x')))))) 'x' je)))) je))) 'x')))⟩
theorem XZ(D:iX K mg "check_row" (jT 77))(b:CP Z "check_spots" 4 (lj c))(a:CP Z "is_row" 3 (qV c)):CP Z "check_row" 5 (m8 c):=kJ Z 4 (m8 c) ["dims","spots","row"] 3 rfl D λnd d hr=>⟨_, 'x'⟩
theorem Yw(D:iX K mg "check_table" (jT 78))(b:CP Z "check_spots" 4 (lj c))(a:CP Z "is_row" 3 (qV c)):CP Z "check_table" 5 (nQ c):=kJ Z 4 (nQ c) ["dims","spots","table","k","row"] 3 rfl D λnd d hr=>⟨_,(iN 'x' (iN (jK (rL (oI (lS (qd (oW "list" (by decide) B.isinstance B.list mO (iS 2)))) (nq (lS (Cc uz uf uz uf jz (i8 (jH (K:=K)) kZ (by rfl) B.len k9 'x') (wK 8 ER.k_MOST_ROWS)))))) (iT wm) je) (iT (ka PassesOwn.never rfl (xg B.enumerate 'x') (oG 2 rfl (jB (jJ 3 nd) (jB (jJ 4 nd) lU))) 'x'))))⟩
theorem XC(D:iX K mg "parts_within" (jT 57))(b:CP Z "ends_at" 5 (qI c))(a:CP Z "one_between" 3 (lZ c)):CF Z "parts_within" 6 (l7 c):=tH Z 5 (l7 c) ["layers","places","parts","chosen","number","place","ends"] 3 rfl D λnd d hr=>⟨_,(iN (wV 3 nd (om (mR (K:=K)) pT (by rfl) B.list mO 'x')) (iN (ka PassesOwn.never rfl (G7 B.reversed (iW (kf (UV rfl B.list B.enumerate 'x')) jc)) (oG 2 rfl (jB (jJ 4 nd) (jB (jJ 5 nd) lU))) (iN 'x' (iT (wH 3 (pv 3) (iS 5) 'x')))) (iT (wZ 3 (pv 3)))))⟩
theorem Xf(D:iX K mg "draws" (jT 83))(d:CP Z "check_row" 5 (m8 c))(b:CP Z "is_cut" 2 (pV c))(e:CP Z "side_of" 2 (sh c)):CP Z "draws" 6 (wd c):=kJ Z 5 (wd c) ["dims","spots","row","thing"] 4 rfl D λnd a hr=>⟨_,(iN 'x' (iN 'x' (iT (jS (i8 (mj (K:=K) rfl) qO (by rfl) B.all qT (iW (kf (jV ["spot","sign","thing"] [none,none,some 3] a (lW B.zip 'x') (λnd a=>⟨(mL 2 rfl (jg (jC 0 nd) (jg (jC 1 nd) kY))),jo,(AW hr 'x' (iS 1))⟩))) jc))))))⟩
theorem Xg(D:iX K mg "shows_undrawn" (jT 85))(f:CP Z "check_row" 5 (m8 c))(d:CP Z "is_weights" 2 (oU c))(b:CP Z "come_to_nought" 4 (l9 c))(e:CP Z "may_weigh" 2 (pO c)):CP Z "shows_undrawn" 6 (mC c):=kJ Z 5 (mC c) ["dims","spots","row","thing"] 4 rfl D λnd a hr=>⟨_,(iN 'x' (iN (jK (lS (qd (kW d hr (iW (i8 (jH (K:=K)) kZ (by rfl) B.len k9 'x') 'x')))) 'x' je) (iN (jK (lS (qd (i8 (mj (K:=K) rfl) qO (by rfl) B.all qT (iW (kf (jV ["sign","weight"] [none,none] a (lW B.zip 'x') (λnd a=>⟨(mL 2 rfl (jg (jC 0 nd) (jg (jC 1 nd) kY))),jo, 'x'⟩))) jc)))) 'x' je) (iN (jK (lS (qd (i8 (pI (K:=K) rfl) vF (by rfl) B.any vD (iW (kf (jV ["sign","weight"] [none,none] a (lW B.zip 'x') (λnd a=>⟨(mL 2 rfl (jg (jC 0 nd) (jg (jC 1 nd) kY))),jo,(vH (Oa hr (iS 0) jz) (t6 (Oa hr (iS 1) jz)))⟩))) jc)))) 'x' je) (iN (jK (sN hr (i8 (Cv (K:=K) rfl) LN (by rfl) B.sum L4 'x') jz) 'x' je) (iT (jS (i8 (mj (K:=K) rfl) qO (by rfl) B.all qT (iW (kf (jV ["place","thing","spots"] [none,some 3,some 1] a (Cy.pim (qw B.range 'x')) (λnd a=>⟨(jC 0 nd),jo,(kW b hr (iW (kf (jV ["spot","place"] [none,some 0] a (jk (iS 2)) (λnd a=>⟨(jC 0 nd),jo, 'x'⟩))) 'x'))⟩))) jc)))))))))⟩
theorem Xd(D:iX K mg "row_not_drawn" (jT 87))(e:CP Z "check_spots" 4 (lj c))(g:CF Z "raised" 4 (qS c))(d:CF Z "weights_of_spots" 1 (kC c))(f:CP Z "pivots_and_rests" 5 (kb c))(b:CF Z "weighted" 1 (m9 c)):CP Z "row_not_drawn" 6 (kR c):=kJ Z 5 (kR c) ["dims","spots","rows","rests","weights"] 2 rfl D λnd a hr=>⟨_,(iN 'x' (iN 'x' (iN 'x' (iN 'x' (iN 'x' (iT (jS (rE (iW (j8 (j4 (K:=K)) kQ (by rfl) B.tuple kz (iW (kf (jV ["weight"] [none] a (jk (iS 4)) (λnd a=>⟨(jC 0 nd),jo,(Rn (jN vW vZ (iS 0) jz) (GR jz) jz)⟩))) jc)) 'x')))))))))⟩
theorem XM(D:iX K mg "parts_or_weights" (jT 59))(d:CF Z "weighted" 1 (m9 c))(b:CP Z "pivots_and_rests" 5 (kb c))(f:CP Z "paper_of_noughts" 2 (kD c))(i:CF Z "free_places" 1 (nW c))(h:CF Z "shadows" 5 (r6 c))(j:CP Z "settled" 4 (nA c))(e:CP Z "filled" 5 (t9 c))(k:CP Z "turned" 1 (oS c))(g:CF Z "parts_within" 6 (l7 c)):CP Z "parts_or_weights" 7 (lg c):=kJ Z 6 (lg c) ["cuts","dims","signs","rows","found","paper","pivots","sided","places","layers","row"] 3 rfl D λnd a hr=>⟨_,(iN 'x' (iN (jX 4 nd (kW b hr (iW (kf (jV ["row","sign"] [none,none] a (lW B.zip 'x') (λnd a=>⟨(mL 2 rfl (jg (jC 0 nd) (jg (jC 1 nd) kY))),(oE 'x'),(iS 0)⟩))) 'x'))) (iN 'x' (iN (jK (jN sS sI (iS 5) oF) 'x' je) (iN 'x' (iN (ue ["row","sign","pivots"] [none,none,some 6] 7 nd a (lW B.zip 'x') (λnd a=>⟨(mL 2 rfl (jg (jC 0 nd) (jg (jC 1 nd) kY))),(oE 'x'), 'x'⟩) se) (iN 'x' (iN 'x' (iN (ka PassesOwn.never rfl (jk 'x') (jJ 10 nd) (iT (jK (jN B7 Bv 'x' jz) (iT (jS (rE (iW Kw (iW (kf (om (mR (K:=K)) pT (by rfl) B.list mO 'x')) jc))))) je))) 'x')))))))))⟩
theorem Xc(D:iX K mg "drawn_over" (jT 82))(f:CF Z "raised" 4 (qS c))(d:CP Z "parts_or_weights" 7 (lg c))(b:CP Z "whole_way" 3 (lA c))(e:CP Z "cut_beside" 2 (oz c))(a:CF Z "weights_of_spots" 1 (kC c)):CP Z "drawn_over" 8 (ni c):=kJ Z 7 (ni c) ["dims","spots","row","rows","answer","numbers"] 3 rfl D λnd g hr=>⟨_,(iN (jK (FF hr (RZ (iS 2) 'x') (i8 (jH (K:=K)) kZ (by rfl) B.len k9 'x')) 'x' je) 'x')⟩
theorem Xz(D:iX K mg "table_drawn" (jT 86))(b:CP Z "check_table" 5 (nQ c))(a:CP Z "drawn_over" 8 (ni c)):CP Z "table_drawn" 9 (nN c):=kJ Z 8 (nN c) ["dims","spots","table","cuts","k","row","answer"] 3 rfl D λnd d hr=>⟨_,(iN 'x' (iN 'x' (iN (ka PassesOwn.never rfl (xg B.enumerate 'x') (oG 2 rfl (jB (jJ 4 nd) (jB (jJ 5 nd) lU))) (iN 'x' (iN 'x' (iT (qW 3 (pv 3) 'x'))))) 'x')))⟩
theorem Yj{k:Nat}{g:List T->M T}(D:iX K mg "crossings" (jT 66))(e:CP Z "without_place" k (kS c))(b:CP Z "cleared" k (j7 c))(f:CP Z "point_on" k (n5 c))(d:CP Z "cells" k g):CF Z "crossings" (k+1) (m7 c g):=tH Z k (m7 c g) ["ahead","cut","places","place","traces"] 2 rfl D λnd a hr=>⟨_,(iN (ue ["place","number"] [none,none] 2 nd a (xg B.enumerate 'x') (λnd a=>⟨(mL 2 rfl (jg (jC 0 nd) (jg (jC 1 nd) kY))),(oE 'x'),(iS 0)⟩) se) (iN 'x' (iN 'x' (iN (ue ["other","place","cut"] [none,some 3,some 1] 4 nd a (jk (iS 0)) (λnd a=>⟨(jC 0 nd),jo,(kW e hr (iW (kW b hr 'x' (aK _)) 'x') (aK _))⟩) se) (iN (jK (qd (i8 (pI (K:=K) rfl) vF (by rfl) B.any vD (iW (kf (jV ["trace"] [none] a (jk (iS 4)) (λnd a=>⟨(jC 0 nd),jo,(zZ (i8 (pI (K:=K) rfl) vF (by rfl) B.any vD 'x'))⟩))) jc))) 'x' je) (iT (oK (jV ["signs","point","cut","place"] [none,none,some 1,some 3] a (jk (kW d hr (iW (iS 4) (iW (zx (i8 (jH (K:=K)) kZ (by rfl) B.len k9 'x') jz) jc)) (aK _))) (λnd a=>⟨(mL 2 rfl (jg (jC 0 nd) (jg (jC 1 nd) kY))),jo,(rE (iW (iS 0) (iW (kW f hr 'x' (aK _)) jc)))⟩)))))))))⟩
theorem X7{k:Nat}{e:List T->M T}(D:iX K mg "with_one_more" (jT 67))(b:CF Z "crossings" k (m7 c e))(a:CP Z "point_off" k (mw c))(f:CP Z "sign_of" k (kG c))(d:CP Z "left_at" k (mh c)):CF Z "with_one_more" (k+1) (mD c e):=tH Z k (mD c e) ["found","ahead","cut","crossed","grown","signs","point","sign"] 3 rfl D λnd g hr=>⟨_,(iN (jX 3 nd (j8 (JX (GD rfl (Xv hr))) QN (by rfl) B.dict Py (iW (kf (Dg b hr 'x' (aK _))) jc))) (iN 'x' (iN (ka PassesOwn.never rfl (jk (iS 0)) (oG 2 rfl (jB (jJ 5 nd) (jB (jJ 6 nd) lU))) (iT (jK (Oy hr (iS 5) (iS 3)) (iT (ka PassesOwn.never rfl (jk 'x') (jJ 7 nd) (iT (qW 4 (pv 4) (rE (iW 'x' (iW (kW a hr (iW (iS 1) (iW (iS 2) (iW (Se hr (iS 3) (iS 5)) 'x'))) (aK _)) jc))))))) (iT (qW 4 (pv 4) (rE (iW (rF (iS 5) (rE (iW (kW f hr (iW (kW d hr 'x' (aK _)) jc) (aK _)) jc))) 'x'))))))) (iT (wZ 4 (pv 4))))))⟩
theorem X6{k m:Nat}(D:iX K mg "cells" (jT 68))(a:CF Z "with_one_more" k (mD c (my c m))):CP Z "cells" (k+1) (my c (m+1)):=kJ Z k (my c (m+1)) ["cuts","dims","found","k","cut"] 2 rfl D λnd b hr=>⟨_,(iN (jX 2 nd (kf (FM (iW (rE (iW (rE jc) (iW (rF (HH 'x' (iS 1)) 'x') jc))) jc)))) (iN (ka PassesOwn.never rfl (xg B.enumerate 'x') (oG 2 rfl (jB (jJ 3 nd) (jB (jJ 4 nd) lU))) (iT (jX 2 nd (kf (Dg a hr 'x' (aK _)))))) 'x'))⟩
theorem oR(D_crossings:iX K mg "crossings" (jT 66))(D_with_one_more:iX K mg "with_one_more" (jT 67))(D_cells:iX K mg "cells" (jT 68))(O13:CP Z "without_place" 3 (kS c))(O34:CP Z "cleared" 3 (j7 c))(O44:CP Z "point_on" 3 (n5 c))(O43:CP Z "point_off" 3 (mw c))(O1:CP Z "sign_of" 3 (kG c))(O31:CP Z "left_at" 3 (mh c)):∀m:Nat,CP Z "cells" (3+3*m) (my c m)
 |0=>UN (k:=2) ["cuts","dims","found","k","cut"] ["cuts","dims"] rfl D_cells
 |m+1=>by have IH:=oR D_crossings D_with_one_more D_cells O13 O34 O44 O43 O1 O31 m;exact X6 Z B ER (k:=3+3*m+2) D_cells (X7 Z B ER (k:=3+3*m+1) D_with_one_more (Yj Z B ER (k:=3+3*m) D_crossings (O13.mono (by omega)) (O34.mono (by omega)) (O44.mono (by omega)) IH) (O43.mono (by omega)) (O1.mono (by omega)) (O31.mono (by omega)))
theorem Xi(D:iX K mg "lands" (jT 70))(a:CP Z "cells" 18 (my c 5))(e:oV P w K mg base c.Cutting "cuts" 1 (Fi K (lu c)))(d:oV P w K mg base c.Cutting "dims" 1 (A0 K (lx c))):CF Z "lands" 19 (pK c):=tH Z 18 (pK c) ["cutting"] 1 rfl D λnd b hr=>⟨_,(iT (oK (jV ["signs","point"] [none,none] b (jk (kW a hr (iW (kf (KL e hr (iS 0))) (iW (Me d hr (iS 0)) jc)))) (λnd b=>⟨(mL 2 rfl (jg (jC 0 nd) (jg (jC 1 nd) kY))),jo,(iS 0)⟩))))⟩
theorem Yl(D:iX K mg "land_spots" (jT 71))(e:CP Z "spot_at" 3 (rR c))(a:CP Z "cells" 18 (my c 5))(f:oV P w K mg base c.Cutting "cuts" 1 (Fi K (lu c)))(d:oV P w K mg base c.Cutting "dims" 1 (A0 K (lx c))):CF Z "land_spots" 19 (lR c):=tH Z 18 (lR c) ["cutting"] 1 rfl D λnd b hr=>⟨_,(iT (oK (jV ["signs","point"] [none,none] b (jk (kW a hr (iW (kf (KL f hr (iS 0))) (iW (Me d hr (iS 0)) jc)))) (λnd b=>⟨(mL 2 rfl (jg (jC 0 nd) (jg (jC 1 nd) kY))),jo, 'x'⟩))))⟩
theorem XA(D:iX K mg "_law_told" (jT 95))(d:IV P w K mg base "Cutting" c.Cutting 5 (G4 K c.Cutting (l5 c)))(b:CP Z "_law_draw" 1 (jD c))(e:CP Z "table_drawn" 9 (nN c))(k:CP Z "row_not_drawn" 6 (kR c))(i:CF Z "lands" 19 (pK c))(h:CF Z "land_spots" 19 (lR c))(j:CP Z "draws" 6 (wd c))(f:CP Z "shows_undrawn" 6 (mC c))(g:CP Z "_law_side" 1 (oJ c)):CP Z "_law_told" 20 (nj c):=kJ Z 19 (nj c) ["_law_dims","_law_cuts","_law_cell","_law_cutting_here","_law_begin","_law_some","_law_places","_law_table","_law_found","_law_row","_law_cut_here","_law_lacking"] 3 rfl D λnd a hr=>⟨_,(iN (jX 3 nd (VI d hr (iW (iS 0) (iW (kf (om (mR (K:=K)) pT (by rfl) B.list mO 'x')) jc)))) (iN (jX 4 nd (kW b hr (iW (iS 2) (iW jz (iW (i8 (jH (K:=K)) kZ (by rfl) B.len k9 'x') jc))))) (iN 'x' (iN 'x' (iN (ue ["_law_k","_law_some"] [none,some 5] 7 nd a (Cy.pim (qw B.range (iW (i8 (jH (K:=K)) kZ (by rfl) B.len k9 'x') jc))) (λnd a=>⟨(jC 0 nd),jo,(j8 (j4 (K:=K)) kQ (by rfl) B.tuple kz (iW (kf (jV ["_law_signs","_law_k"] [none,some 0] a (jk (iS 1)) (λnd a=>⟨(jC 0 nd),jo, 'x'⟩))) jc))⟩) se) (iN (jK (lS (qd (i8 (mj (K:=K) rfl) qO (by rfl) B.all qT (iW (kf (jV ["_law_row","_law_cut_here","_law_dims","_law_places"] [none,none,some 0,some 6] a (lW B.zip 'x') (λnd a=>⟨(mL 2 rfl (jg (jC 0 nd) (jg (jC 1 nd) kY))),jo, 'x'⟩))) jc)))) 'x' je) (iN 'x' (iN (jK (rL (oI 'x' (nq (sN hr (i8 (jH (K:=K)) kZ (by rfl) B.len k9 'x') (i8 (jH (K:=K)) kZ (by rfl) B.len k9 'x'))))) 'x' je) (iN (ka PassesOwn.never rfl (lW B.zip 'x') (oG 2 rfl (jB (jJ 9 nd) (jB (jJ 10 nd) lU))) (iT (jK (sN hr (j8 (j4 (K:=K)) kQ (by rfl) B.tuple kz (iW (kf (jV ["_law_spot","_law_cut_here"] [none,some 10] a (jk (iS 6)) (λnd a=>⟨(jC 0 nd),jo, 'x'⟩))) jc)) (iS 9)) 'x' je))) (iN 'x' (iN (jK (jN zN zH (iS 11) oF) 'x' je) (iT (jS (zZ (i8 (pI (K:=K) rfl) vF (by rfl) B.any vD (iW (kf (jV ["_law_row","_law_dims","_law_places","_law_lacking"] [none,some 0,some 6,some 11] a (jk (iS 7)) (λnd a=>⟨(jC 0 nd),jo, 'x'⟩))) jc))))))))))))))))⟩
theorem oL{a:Addr}{fd:FuncData}(D:Of K "law" "law" (jT 96) a fd)(d:CP Z "_law_cutting" 3 (nX c))(e:CP Z "_law_cell_at" 1 (lh c))(b:CP Z "_law_told" 20 (nj c)):qP P w K mg base A2 21 a fd ["_law_script"] (A0 K (wY c)):=US Z 20 (wY c) ["_law_script","_law_k","_law_dims","_law_cuts"] ["_law_script"] rfl D λnd f hr=>⟨_,(iN (ka PassesOwn.never rfl (jk 'x') (jJ 1 nd) (iN (QJ 'x' (oG 2 rfl (jB (jJ 2 nd) (jB (jJ 3 nd) lU)))) 'x')) 'x')⟩
end
def RL{l:W.OpenLaw}{w:World}{K:W.Frag}{h:Heap}{b:Str->Option Value}{c:Cs}{fa f:Addr}{oc kV P pm k ct:Value}{od an:Option Addr}{osl:Array (Option Value)}(X:K.In h)(G:h.Ns mainGlobals b)(hfa:b "law" = some (.ref fa))
  (a:W.nsIn K mainGlobals "law" = some (some (.ref f))) (lk:K.lookup f=some ⟨oc,od,.func (W.fnOf "law" "law" (l3 (jT 96)) (kg (jT 96)) (i9 (jT 96)) .none kV P pm an k ct),osl⟩) (cc:W.codeIn K k "law" = true) (kk:W.keepIn K (.ref f)=true)
  (B:Bs b) (ER:Er c K b) (LF:∀ns:LI,(wY c) [.scr ns]=.ok (.bl true)) (D0:iX K b "is_whole" (jT 10)) (D1:iX K b "sign_of" (jT 12)) (D2:iX K b "common_divisor" (jT 13)) (D3:iX K b "dot" (jT 14)) (D4:iX K b "less" (jT 24)) (D5:iX K b "floor_of" (jT 25)) (D6:iX K b "ceiling_of" (jT 26)) (D7:iX K b "first_place" (jT 33)) (D8:iX K b "weighted" (jT 40)) (D9:iX K b "free_places" (jT 44)) (D10:iX K b "turned" (jT 51)) (D11:iX K b "without_place" (jT 64)) (D12:iX K b "weights_of_spots" (jT 80)) (D13:iX K b "_law_cell_at" (jT 89)) (D14:iX K b "_law_draw" (jT 90)) (D15:iX K b "_law_same" (jT 91)) (D16:iX K b "_law_side" (jT 94)) (D17:iX K b "lowest" (jT 15)) (D18:iX K b "made" (jT 18)) (D19:iX K b "is_fraction" (jT 19)) (D20:iX K b "is_dims" (jT 30)) (D21:iX K b "is_cut" (jT 32)) (D22:iX K b "same_spots" (jT 34)) (D23:iX K b "side_of" (jT 35)) (D24:iX K b "is_signs" (jT 49)) (D25:iX K b "is_weights" (jT 50)) (D26:iX K b "whole_between" (jT 55)) (D27:iX K b "paper_of_noughts" (jT 58)) (D28:iX K b "may_weigh" (jT 60)) (D29:iX K b "left_at" (jT 62)) (D30:iX K b "cut_beside" (jT 81)) (D31:iX K b "_law_cut" (jT 92)) (D32:iX K b "cleared" (jT 16)) (D33:iX K b "plus" (jT 20)) (D34:iX K b "minus" (jT 21)) (D35:iX K b "times" (jT 22)) (D36:iX K b "over" (jT 23)) (D37:iX K b "is_spot" (jT 31)) (D38:iX K b "can_stand" (jT 36)) (D39:iX K b "whole_way" (jT 47)) (D40:iX K b "one_between" (jT 56)) (D41:iX K b "point_off" (jT 63)) (D42:iX K b "point_on" (jT 65)) (D43:iX K b "spot_at" (jT 69)) (D44:iX K b "is_row" (jT 76)) (D45:iX K b "_law_cutting" (jT 93)) (D46:iX K b "checked_cuts" (jT 37)) (D47:iX K b "settled" (jT 41)) (D48:iX K b "with_pivot" (jT 42)) (D49:iX K b "left_for" (jT 45)) (D50:iX K b "shadow" (jT 52)) (D51:iX K b "check_spots" (jT 75)) (D52:iX K b "raised" (jT 79)) (D53:iX K b "come_to_nought" (jT 84)) (D54:iX K b "pivots_and_rests" (jT 43)) (D55:iX K b "filled" (jT 46)) (U:iX K b "shadows" (jT 53)) (D57:iX K b "ends_at" (jT 54)) (D58:iX K b "check_row" (jT 77)) (D59:iX K b "check_table" (jT 78)) (D60:iX K b "parts_within" (jT 57)) (D61:iX K b "draws" (jT 83)) (D62:iX K b "shows_undrawn" (jT 85)) (D63:iX K b "row_not_drawn" (jT 87)) (D64:iX K b "parts_or_weights" (jT 59)) (D65:iX K b "drawn_over" (jT 82)) (D66:iX K b "table_drawn" (jT 86)) (D67:iX K b "cells" (jT 68)) (S:iX K b "crossings" (jT 66)) (D69:iX K b "lands" (jT 70)) (D70:iX K b "land_spots" (jT 71)) (D71:iX K b "with_one_more" (jT 67)) (D72:iX K b "_law_told" (jT 95)) (M0:oN K c.Cutting "dims" "Cutting.dims" (uO (jT 38) 1)) (M1:oN K c.Cutting "cuts" "Cutting.cuts" (uO (jT 38) 2)) (M2:oN K c.Cutting "__init__" "Cutting.__init__" (uO (jT 38) 0)) :
  ∃fd:FuncData,(∀(s:Shared) (v:Value),BindsTo s fd ⟨[v],[]⟩ [("_law_script",v)])/\∀d:Heap,K.In d->d.Ns mainGlobals b->qP l.prog w K b d A2 21 fa fd ["_law_script"] (MJ K):=by
 have e:=hfa.symm.trans (W.mg_of X G a);cases e;refine⟨W.fnOf "law" "law" (l3 (jT 96)) (kg (jT 96)) (i9 (jT 96)) .none kV P pm an k ct,?bnd,λd _ _=>?main⟩
 case main=>have Z:Zx l.prog w K b d:=⟨trivial⟩;have F:=o0 Z B ER D0;have q:=o1 Z B ER D1;have R:=o2 Z B ER D2;have O3:=o3 Z B ER D3;have O4:=o4 Z B ER D4;have O5:=o5 Z B ER D5;have O6:=o6 Z B ER D6;have O7:=o7 Z B ER D7;have O8:=o8 Z B ER M0;have O9:=o9 Z B ER M1;have u:=X9 Z B ER D8;have O11:=Xh Z B ER D9;have o:=XN Z B ER D10;have Q:=XW Z B ER D11;have N:=Ym Z B ER D12;have O15:=XR Z B ER D13;have n:=Yi Z B ER D14;have O17:=Yf Z B ER D15;have O18:=XI Z B ER D16;have j:=Yc Z B ER D17 R;have g:=X3 Z B ER D18 R;have O21:=XJ Z B ER D19 F R;have H:=Xr Z B ER D20 F;have I:=Yx Z B ER D21 F;have O24:=Xe Z B ER D22 O7;have O25:=XQ Z B ER D23 q;have O26:=Xo Z B ER D24 F;have O27:=Ye Z B ER D25 F;have Y:=X5 Z B ER D26 O5 O4 O6;have O29:=X8 Z B ER D27 o q;have O30:=Xm Z B ER D28 q;have m:=Yt Z B ER D29 O3;have O32:=X4 Z B ER D30 o O5;have O33:=XD Z B ER D31 n;have i:=XG Z B ER D32 j q;have O35:=XB Z B ER D33 g;have O36:=Yo Z B ER D34 g;have E:=Yp Z B ER D35 g;have C:=Yq Z B ER D36 g;have O39:=XY Z B ER D37 O21;have O40:=X2 Z B ER D38 I O24;have r:=X1 Z B ER D39 j R;have O42:=XS Z B ER D40 Y O5;have O43:=Yg Z B ER D41 j O3 m;have O44:=Xb Z B ER D42 j m q Q;have O45:=XX Z B ER D43 g;have L:=XE Z B ER D44 O26;have O47:=Xn Z B ER D45 n O33 O17;have O48:=Xw Z B ER D46 H O40;have y:=Yn Z B ER D47 i;have O50:=XT Z B ER D48 i;have x:=Xj Z B ER D49 O36 E;have O52:=Xp Z B ER D50 i;have p:=Xl Z B ER D51 H O39;have J:=Yd Z B ER D52 r;have O55:=Yh Z B ER D53 O35 E;have O56:=Xt Z B ER M2 O48;have A:=XO Z B ER D54 y O50;have O58:=Yk Z B ER D55 C x;have O59:=Yr Z B ER U O52;have O60:=Xq Z B ER D57 C x O4;have D:=XZ Z B ER D58 p L;have O62:=Yw Z B ER D59 p L;have O63:=XC Z B ER D60 O60 O42;have O64:=Xf Z B ER D61 D I O25;have O65:=Xg Z B ER D62 D O27 O55 O30;have O66:=Xd Z B ER D63 p J N A u;have O67:=XM Z B ER D64 u A O29 O11 O59 y O58 o O63;have O68:=Xc Z B ER D65 J O67 r O32 N;have O69:=Xz Z B ER D66 O62 O68;have z:=oR Z B ER S D71 D67 (Q.mono (by decide)) (i.mono (by decide)) (O44.mono (by decide)) (O43.mono (by decide)) (q.mono (by decide)) (m.mono (by decide)) 5;have O72:=Xi Z B ER D69 z O9 O8;have O73:=Yl Z B ER D70 O45 z O9 O8;have O75:=XA Z B ER D72 O56 n O69 O66 O72 O73 O64 O65 O18;exact (oL Z B ER (GB (st:=jT 96) lk cc kk) O47 O15 O75).imp (NV λns _ _=>LF ns)
 case bnd=>exact λs v=>.of_eq rfl
end K59
namespace PySem.Challenge.cw_cutlands_k59_whole_lands_tell_their_cuts_holds
def tw12755039047067393532:0=0:=rfl
def tw1087966989668162446:0=0:=rfl
def tw9324440375959125098:0=0:=rfl
def tw6152285215061422068:0=0:=rfl
def tw7942671227645989057:0=0:=rfl
def tw6830225991181932889:0=0:=rfl
def tw3797577537455511906:0=0:=rfl
def tw12546157982311770779:0=0:=rfl
def tw5926065022120719661:0=0:=rfl
def tw12872772519544702905:0=0:=rfl
def tw10626831355562686776:0=0:=rfl
def tw992640888866110879:0=0:=rfl
def tw17432163896278808905:0=0:=rfl
def tw14205000101447940570:0=0:=rfl
def tw8546839124420839648:0=0:=rfl
def tw16888842881508925582:0=0:=rfl
def tw15495879278543972547:0=0:=rfl
def tw11122925311263174942:0=0:=rfl
def tw13880912249616911924:0=0:=rfl
def tw2928442745662683307:0=0:=rfl
def tw5702235802946617848:0=0:=rfl
def tw4147154442711035117:0=0:=rfl
def tw8491339139675488325:0=0:=rfl
def tw13035602984735255141:0=0:=rfl
def tw12061820517696062340:0=0:=rfl
def tw910437142485351578:0=0:=rfl
def tw12439544463892105022:0=0:=rfl
def tw17452096293954571336:0=0:=rfl
def tw11601219823560775715:0=0:=rfl
def tw4074238989622121814:0=0:=rfl
def tw17563810964912919636:0=0:=rfl
def tw8261698070563896671:0=0:=rfl
def tw17820692740637737459:0=0:=rfl
def tw14848016493434234830:0=0:=rfl
def tw8454014573295455989:0=0:=rfl
def tw5471908878093473920:0=0:=rfl
def tw9302420805908194545:0=0:=rfl
def tw1552331883229890258:0=0:=rfl
def tw18048842459713494330:0=0:=rfl
def tw7967572471506004071:0=0:=rfl
def tw4734594177630690242:0=0:=rfl
def tw16910106785415287486:0=0:=rfl
def tw9051640036391019234:0=0:=rfl
def tw17595460639368312172:0=0:=rfl
def tw11914927364844901534:0=0:=rfl
def tw15515898110249610365:0=0:=rfl
def tw10836128661931563307:0=0:=rfl
def tw10012448847575168860:0=0:=rfl
def tw10498312811988785089:0=0:=rfl
def tw6257605020631953744:0=0:=rfl
def tw4054415190957847519:0=0:=rfl
def tw11694416463463958615:0=0:=rfl
def tw6400372828571166592:0=0:=rfl
def tw7193343946693238647:0=0:=rfl
def tw7850944054397918835:0=0:=rfl
def tw2166752453099439356:0=0:=rfl
def tw15853986832446170372:0=0:=rfl
def tw4843052851993226447:0=0:=rfl
def tw18206399553107148275:0=0:=rfl
def tw6921088700104568754:0=0:=rfl
def tw5259032352107884264:0=0:=rfl
def tw4865316096624561657:0=0:=rfl
def tw5628688479574481489:0=0:=rfl
def tw17104598937655095524:0=0:=rfl
def tw1381788648581179484:0=0:=rfl
def tw12895407605624505263:0=0:=rfl
def tw8965011491451578535:0=0:=rfl
def tw1683877328477063218:0=0:=rfl
def tw3597753509971559123:0=0:=rfl
def tw12543883976886572233:0=0:=rfl
def tw10627980598173493682:0=0:=rfl
def tw10904712180678126541:0=0:=rfl
def tw12291263013665097213:0=0:=rfl
def tw8519572585917819074:0=0:=rfl
def tw15250169206119801737:0=0:=rfl
def tw9728062135947531883:0=0:=rfl
def tw16332111833055754578:0=0:=rfl
def tw5249148469951748812:0=0:=rfl
def tw7866474868457306417:0=0:=rfl
def tw10165950285174314629:0=0:=rfl
def tw5509025091357957209:0=0:=rfl
def tw2007082925766505515:0=0:=rfl
def tw15875504239513206001:0=0:=rfl
def tw18005701794334864313:0=0:=rfl
def tw7170243978915927104:0=0:=rfl
def tw7094263020595941892:0=0:=rfl
def tw2344750608800160993:0=0:=rfl
def tw3715504786127792321:0=0:=rfl
def tw1882481851515753959:0=0:=rfl
def tw6918126071710683456:0=0:=rfl
def tw4028139398239814248:0=0:=rfl
def tw11220082288680324472:0=0:=rfl
def tw1042988702326219169:0=0:=rfl
def tw16163550203333715960:0=0:=rfl
def tw14279637940323181017:0=0:=rfl
def tw13802929797276667416:0=0:=rfl
def tw11570128281246829748:0=0:=rfl
def tw7001409016075901668:0=0:=rfl
def tw15369707038071462840:0=0:=rfl
def tw15882777968677670589:0=0:=rfl
def tw5637018218865159695:0=0:=rfl
def tw3353138657218286118:0=0:=rfl
def tw17679015538526646871:0=0:=rfl
def tw14547421998543966231:0=0:=rfl
def tw8643278090808674202:0=0:=rfl
def tw14978596258696091631:0=0:=rfl
def tw9520645046329093267:0=0:=rfl
def tw13372449256633677770:0=0:=rfl
def tw16634101235850962153:0=0:=rfl
def tw9785957970790644082:0=0:=rfl
def tw11426623766307289435:0=0:=rfl
def tw1979870413459266386:0=0:=rfl
def tw13199673717492321810:0=0:=rfl
def tw13280434697513497843:0=0:=rfl
def tw12330399909000545587:0=0:=rfl
def tw13559082197787843935:0=0:=rfl
def tw15611673373780648106:0=0:=rfl
def tw9498018409134096676:0=0:=rfl
def tw15206214452660165485:0=0:=rfl
def tw17142907069278602615:0=0:=rfl
def tw5512440949879321701:0=0:=rfl
def tw17187350007245204544:0=0:=rfl
def tw7879265065073959598:0=0:=rfl
def tw1139717745676476422:0=0:=rfl
def tw9905381082768561933:0=0:=rfl
def tw3215367419924006234:0=0:=rfl
def tw4745455276570010614:0=0:=rfl
def tw14593685008012821614:0=0:=rfl
def tw15287042438248637838:0=0:=rfl
def tw6257098938145209848:0=0:=rfl
def tw232519517199831104:0=0:=rfl
def tw9585954135048339387:0=0:=rfl
def tw16043154737420514972:0=0:=rfl
def tw12027171075076850364:0=0:=rfl
def tw17579123299696840698:0=0:=rfl
def tw14216484152708030821:0=0:=rfl
def tw15867123559575194732:0=0:=rfl
def tw18346842357020147597:0=0:=rfl
def tw8575073724414481171:0=0:=rfl
def tw11556355640883894488:0=0:=rfl
def tw16047164199539405579:0=0:=rfl
def tw14217883281839176890:0=0:=rfl
def tw1878060947885264738:0=0:=rfl
def tw16998046450465257179:0=0:=rfl
def tw1079536952005662836:0=0:=rfl
def tw5613134237355435693:0=0:=rfl
def tw16924108967995156463:0=0:=rfl
def tw554405363211542811:0=0:=rfl
def tw17016504922846539083:0=0:=rfl
def tw905537682423495080:0=0:=rfl
def tw11597762855225822193:0=0:=rfl
def tw4575144163560164310:0=0:=rfl
def tw2774829200660311409:0=0:=rfl
def tw8187556744190981543:0=0:=rfl
def tw8399511773310885713:0=0:=rfl
def tw7432380233288418515:0=0:=rfl
def tw2719869962320126582:0=0:=rfl
def tw15543550583535821402:0=0:=rfl
def tw12330901790273736320:0=0:=rfl
def tw11185743140216852832:0=0:=rfl
def tw15264944001030817345:0=0:=rfl
def tw8724849250596708236:0=0:=rfl
def tw9835262215336777186:0=0:=rfl
def tw208904755322721964:0=0:=rfl
def tw14050729152313057204:0=0:=rfl
def tw12537241687042660401:0=0:=rfl
def tw435885588183048809:0=0:=rfl
def tw13866331168400660627:0=0:=rfl
def tw18328363118394508655:0=0:=rfl
def tw454201067470567538:0=0:=rfl
def tw2602653400239129317:0=0:=rfl
def tw2412810715770549799:0=0:=rfl
def tw12629393855181371834:0=0:=rfl
def tw7646325137794275330:0=0:=rfl
def tw14969993850333506118:0=0:=rfl
def tw3096932878702663790:0=0:=rfl
def tw13490783677922714064:0=0:=rfl
def tw7234209913989112314:0=0:=rfl
def tw1298971440272509609:0=0:=rfl
def tw2374196416658645590:0=0:=rfl
def tw2207889370578869349:0=0:=rfl
def tw2653569653399349266:0=0:=rfl
def tw16978363212574043788:0=0:=rfl
def tw13378812798758864058:0=0:=rfl
def tw541065775250341954:0=0:=rfl
def tw4549388303207493695:0=0:=rfl
def tw8506010296646081633:0=0:=rfl
def tw17636059579748676126:0=0:=rfl
def tw16780564227438701383:0=0:=rfl
def tw6432085274094406300:0=0:=rfl
def tw6981397581624106218:0=0:=rfl
def tw14401392989379893971:0=0:=rfl
def tw3709285196039396170:0=0:=rfl
def tw12720523818992293780:0=0:=rfl
def tw1872217405319137993:0=0:=rfl
def tw7091646438677868644:0=0:=rfl
def tw5498993761337182451:0=0:=rfl
def tw9812644306425439156:0=0:=rfl
def tw12004041819440284885:0=0:=rfl
def tw11152186082952868871:0=0:=rfl
end PySem.Challenge.cw_cutlands_k59_whole_lands_tell_their_cuts_holds
open PySem PySem.W PyProof.Rows
set_option Elab.async true
theorem PySem.Challenge.cw_cutlands_k59_whole_lands_tell_their_cuts_holds : PySem.Challenge.rw_cutlands_k59_whole_lands_tell_their_cuts.Holds := by
 w_on;o_law;k_head;(case hw=>w_witness2);k_fill;refine L3.V5 (l:=PySem.Challenge.rw_cutlands_k59_whole_lands_tell_their_cuts) (k:=21) (x:= "_law_script") rfl ⟨rfl,by decide,by decide⟩ rfl (by decide +kernel) rfl (λw h Y=>PySem.W.kIn_of Y) ?F
 case F=>intro w mg fa h KX G hmg;refine' K59.RL KX G hmg ?a ?l ?c ?k ?B ?E (λns=>CL.IG ns) ?_ ?_ ?_ ?_ ?_ ?_ ?_ ?_ ?_ ?_ ?_ ?_ ?_ ?_ ?_ ?_ ?_ ?_ ?_ ?_ ?_ ?_ ?_ ?_ ?_ ?_ ?_ ?_ ?_ ?_ ?_ ?_ ?_ ?_ ?_ ?_ ?_ ?_ ?_ ?_ ?_ ?_ ?_ ?_ ?_ ?_ ?_ ?_ ?_ ?_ ?_ ?_ ?_ ?_ ?_ ?_ ?_ ?_ ?_ ?_ ?_ ?_ ?_ ?_ ?_ ?_ ?_ ?_ ?_ ?_ ?_ ?_ ?_ ?_ ?_ ?_;(case a=>k_is);(case l=>k_is);(case c=>k_is);(case k=>k_is);(case B=>constructor<;>(apply mg_none_of KX G;k_is));(case E=>apply K59.V2 KX G<;>first | k_is | k_exc | decide);all_goals first | (apply L2.To KX G<;>k_is) | (apply K59.VF<;>first | k_is | k_exc | decide)
