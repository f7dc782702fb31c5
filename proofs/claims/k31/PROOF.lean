import PyProof.Rows.All
import Wide.All
import OpenK.AllK
import Wide.FinOn
import Lean
import PyProof.EqAt
import PyProof.EqKinds
import PyProof.TupleCall
import PyProof.P3Eq
import PyProof.NeData
import PyProof.ReprRoads
import PyProof.ReprLen
import PyProof.Rows.ReprOcc
import PyProof.ConsumeWalk
import PyProof.Rows.SumAny
import PyProof.ZipIter
import PyProof.Rows.ZipGen
import PyProof.Rows.SeqMore
import PyProof.FactsAll.tuple
import PyProof.WalksMore
import PyProof.EnumMake
import PyProof.EnumFor
import PyProof.Rows.MinMaxN
import KE.KDictList
import KE.KRevIter
import KE.KItemsList
import PyProof.Rows.SortWalk
import PyProof.Rows.SetFrom
import PyProof.SetRoads
import PyProof.StrLoop
import PyProof.StrWalks
import PyProof.StrCalls2
import PyProof.StrLawsTight
import PyProof.StrLawsReplace
import PyProof.SliceStr2
import PyProof.StrOps
import PyProof.Rows.DictRows
import KE.KIntText
import PyProof.AttrMissHeap
import KE.KDictOf
import PyProof.ExcInit
import PyProof.ExcClass3
import PyProof.InstStoreFacts
import PyProof.Rows.ChunkEnd
import KE.KSortTup
import PyProof.SetKind
import PyProof.SetScanFacts
import PyProof.TupleKey
import PyProof.IsRules
import KE.KDictSum
import KE.KLam
import PyProof.Rows.SortRunsK
import PySem.Challenge.RW_cutlands_k31_bounded_or_far
set_option bootstrap.genMatcherCode false
set_option maxRecDepth 100000
set_option maxHeartbeats 0
set_option linter.all false
noncomputable section
set_option compiler.extract_closed false
set_option hygiene false
abbrev LI:=List Int
abbrev LL:=List LI
section
open PySem
def aa:=@List.getElem?_eq_some_iff
def ae:=@Heap.get?_push_of_some
def af:=@List.getD_eq_getElem?_getD
def ag:=@List.getElem?_eq_getElem
def ai:=@List.mem_append
def aj:=@List.mem_singleton
def ak:=@wpAny_pure
def ao:=@wpAny_bind
def aq:=@List.getElem?_set_ne
def ar:=@Heap.get?_push_size
def au:=@List.mem_of_getElem?
def av:=@List.getElem?_map
def aw:=@List.length_map
def ax:=@List.mem_append_left
def ay:=@List.length_cons
def aA:=@Int.le_of_lt
def aB:=@decide_eq_false
def aC:=@decide_eq_true
def aD:=@List.mem_map
def aE:=@Nat.lt_of_lt_of_le
def aF:=@List.mem_cons
def aG:=@Nat.zero_add
def aH:=@Bool.false_ne_true
def aI:=@List.map_map
def aJ:=@Int.mul_le_mul_of_nonneg_right
def aK:=@Nat.le_refl
def aL:=@Heap.lt_size
def aM:=@Nat.ne_of_lt
def aN:=@Nat.le_trans
def aO:=@Classical.byContradiction
def aP:=@Int.mul_nonneg
def aQ:=@if_pos
def aR:=@if_neg
def aS:=@List.mem_range
def aT:=@List.length_append
def aU:=@List.mem_filter
def aV:=@List.getElem_mem
def aW:=@List.of_mem_zip
def aX:=@Int.mul_pos
def aY:=@Int.natAbs_mul
def aZ:=@List.map_append
def a9:=@Nat.lt_irrefl
def bg:=@List.eq_of_mem_replicate
def bh:=@Nat.le_of_lt
def bj:=@List.filterMap_cons
def bx:=@List.mem_cons_self
def bz:=@List.mem_cons_of_mem
def bA:=@Array.append_assoc
def bB:=@Array.length_toList
def bC:=@Nat.ne_of_gt
def bD:=@Int.mul_one
def bE:=@List.mem_filterMap
def bF:=@List.mem_append_right
def bG:=@List.size_toArray
def bH:=@List.any_eq_false
def bI:=@List.map_cons
def bJ:=@Nat.le_of_eq
def bK:=@Nat.lt_succ_self
def bL:=@Nat.zero_le
def bM:=@List.append_nil
def bN:=@Nat.le_succ
def bO:=@List.nodup_cons
def bQ:=@Option.isSome_iff_exists
def bR:=@List.length_take
def bS:=@List.length_replicate
def bT:=@Int.toNat_natCast
def bU:=@Bool.and_eq_true
def bV:=@List.length_set
def bW:=@List.all_cons
def bX:=@List.any_cons
def bY:=@List.replicate_succ
def bZ:=@List.flatten_cons
def b4:=@List.append_assoc
def b5:=@List.length_singleton
def b6:=@List.nil_append
def b7:=@Nat.mul_comm
def b9:=@List.map_nil
def cf:=@Nat.le_of_not_lt
def cg:=@Nat.lt_of_le_of_lt
def cj:=@Bool.false_eq_true
def cm:=@List.lookup_cons
def cq:=@Nat.le_of_succ_le
def cv:=@Nat.lt_succ_of_lt
def cw:=@Option.isSome_some
def cx:=@Nat.le_add_right
def cy:=@Nat.le_succ_of_le
def cA:=@List.range_succ_eq_map
def cB:=@List.all_map
def cC:=@List.any_map
def cD:=@List.take_of_length_le
def cE:=@List.all_eq_true
def cF:=@List.length_nil
def cG:=@Option.isSome_map
def cH:=@Int.toNat_of_nonneg
def cI:=@Nat.lt_trichotomy
def cJ:=@Nat.sub_zero
def cK:=@List.pairwise_iff_getElem
def cL:=@Int.gcd_dvd_left
def cN:=@Int.gcd_dvd_right
def cO:=@Int.dvd_mul_of_dvd_left
def cP:=@Int.lt_or_gt_of_ne
def cQ:=@Int.fmod_nonneg_of_pos
def cR:=@Int.fmod_lt_of_pos
def cS:=@Int.natAbs_natCast
def cT:=@Int.gcd_pos_of_ne_zero_right
def cU:=@Int.mul_assoc
def cV:=@Int.mul_comm
def cW:=@Int.mul_fdiv_cancel_left
def cX:=@Int.mul_neg
def cY:=@Int.eq_of_mul_eq_mul_right
def cZ:=@Int.mul_ne_zero
def c6:=@Int.gcd_comm
def c7:=@Int.dvd_gcd_mul_iff_dvd_mul
def c8:=@Nat.eq_zero_or_pos
def c9:=@List.lookup_cons_self
def dc:=@List.drop_eq_getElem_cons
def de:=@List.mem_nil_iff
def dg:=@List.map_take
def dh:=@List.map_drop
def dq:=@Nat.not_lt_zero
def du:=@Nat.pow_le_pow_right
def dw:=@Nat.le_max_left
def dy:=@Nat.le_max_right
def dz:=@Nat.pow_succ
def dA:=@Int.natAbs_add_le
def dB:=@Int.natAbs_neg
def dC:=@List.drop_zero
def dD:=@Nat.min_eq_left
def dE:=@List.drop_of_length_le
def dF:=@List.length_reverse
def dG:=@List.mem_iff_getElem?
def dH:=@List.map_set
def dI:=@List.dropLast_concat_getLast
def dJ:=@Nat.two_pow_pos
def dM:=@Int.mul_le_mul_of_nonneg_left
def dN:=@Int.mul_zero
def dO:=@Int.dvd_trans
def dP:=@List.take_length
def dQ:=@Int.one_mul
def dR:=@List.getElem_map
def dS:=@Int.mul_eq_zero
def dU:=@Int.zero_mul
def dW:=@Int.mul_add
def dX:=@Int.add_zero
def dY:=@Int.zero_add
def dZ:=@List.length_zip
def d8:=@List.any_eq_true
def eg:=@List.mem_of_mem_take
def eA:=@List.pairwise_append
def eB:=@List.countP_mono_left
def eD:=@Int.le_refl
def eE:=@Int.not_le
def eF:=@Int.le_trans
def eG:=@Nat.lt_or_ge
def eI:=@Int.mul_nonpos_of_nonneg_of_nonpos
def eJ:=@List.length_erase_of_mem
def eK:=@List.mem_of_mem_erase
def eM:=@List.countP_eq_length_filter
def eN:=@List.nodup_range
def eO:=@Int.mul_neg_of_pos_of_neg
def eP:=@Rat.intCast_lt_intCast
def eQ:=@Rat.intCast_mul
def eS:=@Rat.intCast_sub
def eT:=@Rat.mul_pos
def eU:=@Rat.le_of_lt
def eV:=@List.sum_cons
def eW:=@Int.fdiv_nonneg
def eX:=@Int.not_lt
def eY:=@Int.lt_of_mul_lt_mul_right
def eZ:=@Int.pow_pos
def fg:=@Int.mul_le_mul
def fj:=@Int.pow_succ
def fv:=@Nat.mul_le_mul_left
def fw:=@List.mem_or_eq_of_mem_set
def fz:=@List.map_congr_left
def fC:=@List.length_filter_le
def fE:=@List.filter_append
def fF:=@List.mem_flatMap
def fG:=@Nat.mul_le_mul
def fH:=@Int.lt_trichotomy
def fJ:=@Rat.lt_of_mul_lt_mul_left
def fK:=@List.getElem_range
def fL:=@Int.lt_of_mul_lt_mul_left
def fM:=@List.zip_cons_cons
def fN:=@Rat.mul_nonneg
def fO:=@Nat.sub_self
def fP:=@Nat.mul_le_mul_right
def fQ:=@List.length_zipIdx
def fR:=@List.pairwise_singleton
def fS:=@List.length_range
def fT:=@Nat.pow_lt_pow_right
def fU:=@Int.mul_sub
def fV:=@List.dropLast_subset
def fW:=@List.getElem_take
def fX:=@List.mem_of_mem_drop
def fY:=@Int.lt_of_lt_of_le
def fZ:=@Int.pos_of_mul_pos_right
def f9:=@List.filter_congr
def gh:=@List.filter_eq_nil_iff
def gq:=@List.mem_zipIdx_iff_getElem?
def gw:=@List.getElem_of_mem
def gx:=@Option.getD_some
def gy:=@List.flatMap_cons
def gz:=@List.filter_cons_of_pos
def gA:=@List.filter_cons_of_neg
def gB:=@List.filter_sublist
def gC:=@Int.neg_nonneg_of_nonpos
def gD:=@List.mem_iff_getElem
def gE:=@Nat.le_of_ble_eq_true
end
set_option Elab.async false
namespace L2
open PySem PySem.Spec PyProof.Rows
abbrev qM:=Sum Int Str
noncomputable def Bh:qM->Value->Bool
 |.inl k,v=>Value.isInt k v
 |.inr x,v=>Value.isStrOf x v
def WM(w:World):qM->Int
 |.inl k=>hashInt k
 |.inr x=>hashStr w x
theorem kr:∀{k} {v},Bh k v=true->(∃i t,k=Sum.inl i/\v=Value.int i t)\/(∃x t,k=Sum.inr x/\v=Value.str x t)
 |.inl i,v,h=>by obtain⟨t,e⟩:=Value.isInt_shape h;exact .inl ⟨i,t,rfl,e⟩
 |.inr x,v,h=>by obtain⟨t,e⟩:=Value.isStrOf_shape h;exact .inr ⟨x,t,rfl,e⟩
def IY i t:Bh (.inl i) (.int i t)=true:=by simp[Bh,Value.isInt]
def JA x t:Bh (.inr x) (.str x t)=true:=by simp[Bh,Value.isStrOf]
def TH a b:decide ((Sum.inl a:qM)=Sum.inl b)=(a==b):=by
 by_cases e:a=b
 .subst e;simp
 .have h:¬(Sum.inl a:qM)=Sum.inl b:=λq=>e (Sum.inl.inj q);rw[aB h];exact (beq_eq_false_iff_ne.mpr e).symm
def SO a b:decide ((Sum.inr a:qM)=Sum.inr b)=decide (a=b):=by
 by_cases e:a=b
 .subst e;simp
 .have h:¬(Sum.inr a:qM)=Sum.inr b:=λq=>e (Sum.inr.inj q);rw[aB h,aB e]
def Ul a b:decide ((Sum.inl a:qM)=Sum.inr b)=false:=aB (λq=>nomatch q)
def SY a b:decide ((Sum.inr a:qM)=Sum.inl b)=false:=aB (λq=>nomatch q)
noncomputable def l9(prog:Program)(w:World):PySem.KeyKind prog w qM where
 is:=Bh
 hash:=WM w
 inj:=λv a b f d=>by
  rcases kr f with⟨i,t,rfl,rfl⟩|⟨x,t,rfl,rfl⟩
  .rcases kr d with⟨j,u,rfl,e⟩|⟨y,u,rfl,e⟩
   .injection e with c _;rw[c]
   .exact nomatch e
  .rcases kr d with⟨j,u,rfl,e⟩|⟨y,u,rfl,e⟩
   .exact nomatch e
   .injection e with c _;rw[c]
 byValue:=λk v h=>by rcases kr h with⟨i,t,rfl,rfl⟩|⟨x,t,rfl,rfl⟩<;>rfl
 pyHash:=λhv h=>by
  rcases kr hv with⟨i,t,rfl,rfl⟩|⟨x,t,rfl,rfl⟩
  .exact wpAny_pyHash_int h
  .exact wpAny_pyHash_str h
 eqBool:=λg hv h=>by
  rcases kr g with⟨i,t,rfl,rfl⟩|⟨x,t,rfl,rfl⟩
  .rcases kr hv with⟨j,u,rfl,rfl⟩|⟨y,u,rfl,rfl⟩
   .rw[TH]at h;exact wpAny_eqBool_int h
   .rw[Ul]at h;exact SeqAt.EqAt.int_str i t y u _ _ _ _ h
  .rcases kr hv with⟨j,u,rfl,rfl⟩|⟨y,u,rfl,rfl⟩
   .rw[SY]at h;exact SeqAt.EqAt.str_int x t j u _ _ _ _ h
   .rw[SO]at h;exact wpAny_eqBool_str h
 «strs»:=λk x t v h=>by
  rcases kr h with⟨i,u,rfl,e⟩|⟨y,u,rfl,e⟩
  .exact nomatch e
  .injection e with c _;subst c;cases v<;>rfl
def EO prog w i t:(l9 prog w).is (.inl i) (.int i t)=true:=IY i t
def EU prog w x t:(l9 prog w).is (.inr x) (.str x t)=true:=JA x t
end L2
namespace L2
open PySem PySem.Spec PyProof.Rows
inductive V where
 |non|bl (b:Bool)|int (i:Int)|str (x:Str)|byt (b:Array UInt8)|flt (b:UInt64)|ref (a:Addr)|ty (n:String)
 deriving DecidableEq
def jD:V->Value->Prop
 |.non,u=>u=Value.none
 |.bl b,u=>u=Value.bool b
 |.int i,u=>∃t,u=Value.int i t
 |.str x,u=>∃t,u=Value.str x t
 |.byt b,u=>∃t,u=Value.bytes b t
 |.flt b,u=>∃t,u=Value.float b t
 |.ref a,u=>u=Value.ref a
 |.ty n,u=>u=Value.type n
abbrev jc:List V->List Value->Prop:=Paired jD
def jc.length(r:jc xs us):xs.length=us.length:=Paired.length r
theorem jc.get:∀{xs:List V} {us:List Value} {i:Nat} {x:V},jc xs us->xs[i]? = some x->∃u,us[i]? = some u/\jD x u
 |_,_,_,_,.nil,e=>by simp at e
 |_,_,0,_,.cons r _,e=>by simp at e;subst e;exact⟨_,rfl,r⟩
 |_,_,i+1,x,.cons _ t,e=>by obtain⟨u,b,a⟩:=jc.get t (by simpa using e);exact⟨u,by simpa using b,a⟩
theorem jc.set(r:jD x u):∀{xs} {us} i,jc xs us->jc (xs.set i x) (us.set i u)
 |_,_,_,.nil=>.nil
 |_,_,0,.cons _ t=>.cons r t
 |_,_,i+1,.cons q t=>.cons q (jc.set r i t)
theorem jc.append:∀{xs ys} {us ws},jc xs us->jc ys ws->jc (xs++ys) (us++ws)
 |_,_,_,_,.nil,s=>s
 |_,_,_,_,.cons r t,s=>.cons r (jc.append t s)
theorem jc.take:∀{xs} {us} n,jc xs us->jc (xs.take n) (us.take n)
 |_,_,0,_=>.nil
 |_,_,_+1,.nil=>.nil
 |_,_,n+1,.cons r t=>.cons r (jc.take n t)
theorem jc.drop:∀{xs} {us} n,jc xs us->jc (xs.drop n) (us.drop n)
 |_,_,0,r=>r
 |_,_,_+1,.nil=>.nil
 |_,_,n+1,.cons _ t=>jc.drop n t
def uK:Option V->Option Value->Prop
 |some v,some u=>jD v u
 |none,none=>True
 |_,_=>False
def KV{a:Type}:List (a×V)->List (a×Value)->Prop:=Paired λ(p:a×V) (q:a×Value)=>p.1=q.1/\jD p.2 q.2
def kV:qM->V
 |.inl i=>.int i
 |.inr x=>.str x
inductive HO where
 |lst (xs:List V)
 |tup (xs:List V)
 |dK (kvs:List (qM×V))|dT (kvs:List (List qM×V))
 |set (S:Int->Bool) (n:Nat)
 |ins (C dx:Addr) (fs:List (Str×V))
 |own (x:Addr)
 |xd (fs:List (Str×V))
 |met (f x:Addr)
 |rng (lo hi:Int)
 |frz (o:Obj) (u:HO)
 |tbl (q:Str) (ps:Array Value)
 |ext (φ:Heap->Prop)
abbrev Hp:=Addr->Option HO
noncomputable def jR(H:Hp)(a:Addr)(o:HO):Hp:=λb=>if b=a then some o else H b
def hU:jR H a o a=some o:=by unfold jR;rw[aQ rfl]
def gY(h:b≠a):jR H a o b=H b:=by unfold jR;rw[aR h]
def QS{H:Hp}(h:H a=some o)(c:H b=some u)(d:o≠u):a≠b:=by intro e;subst e;rw[h]at c;exact d (Option.some.inj c)
def iX{H:Hp}(h:H a=some o)(c:H b=none):a≠b:=by intro e;subst e;rw[h]at c;cases c
section
variable (P:Program)(w:World)
def zE(h:Heap)(a:Addr)(items:Array Value):Prop:=∃o,h.get? a=some o/\o.cls=.type "tuple" /\∃n,o.data=.seq items n/\o.dict=none
def zE.tup(x:zE h a items):IsTup h a items:=let ⟨o,e,c,n,d,_⟩:=x;⟨o,e,c,n,d⟩
def zE.new(h:Heap) items:zE (h.push {cls:=.type "tuple",data:=.seq items}) h.objs.size items:=⟨_,ar _ rfl,rfl,_,rfl,rfl⟩
def Ir:List Value->List Value
 |_::_::c::r=>c::Ir r
 |_=>[]
def lT(H:Hp)(h:Heap)(a:Addr):HO->Prop
 |.lst xs=>xs.length<=sizeLine/\∃(its:List Value) (n:Nat),jc xs its/\h.get? a=some {cls:=.type "list",data:=.seq its.toArray n}
 |.tup xs=>xs.length<=sizeLine/\∃its:List Value,jc xs its/\zE h a its.toArray
 |.dK kvs=>kvs.length<=sizeLine/\(a==sysModules)=false/\∃vs,KV kvs vs/\h.DictOf (l9 P w) a vs
 |.dT kvs=>kvs.length<=sizeLine/\(a==sysModules)=false/\∃xs:List (List qM×Addr×Value),
   Paired (λ(p:List qM×V) (q:List qM×Addr×Value)=>p.1=q.1/\H q.2.1=some (.tup (p.1.map kV))/\jD p.2 q.2.2) kvs xs/\
   ∃o d i,h.get? a=some o/\o.ExactDict/\o.data=.dict d i/\d.toList=xs.map (entryOfKey (tupleKind (l9 P w)))/\(xs.map (·.1)).Nodup
 |.set S n=>h.SetOf (intKind P w) a S n
 |.ins C dx fs=>H dx=some (.own a)/\fs.length<=1000/\dx≠a/\h.get? a=some (W.instObj C dx)/\
   ∃c,h.Ns1 dx c/\(∀f,uK (fs.lookup f) (c f))/\PySem.Within c (fs.map (·.1))
 |.own _=>∃o,h.get? a=some o
 |.xd fs=>∃c,h.Ns1 a c/\∀f,uK (fs.lookup f) (c f)
 |.rng lo hi=>∃t u v,h.get? a=some {cls:=.type "range",data:=.fields #[.int lo t,.int hi u,.int 1 v]}
 |.frz o u=>h.get? a=some o/\lT H h a u
 |.tbl q ps=>h.get? a=some {cls:=.none,data:=.fields ps}/\TriplesOk ps.toList/\∀v∈Ir ps.toList,∃b,v=.ref b/\H b=some (.own a)/\h.CodeRec (.ref b) q
 |.met f x=>h.get? a=some (W.methodObj (.ref f) (.ref x))
 |.ext φ=>φ h/\(∃o,h.get? a=some o)/\∀e g:Heap,φ e->(∀o,e.get? a=some o->g.get? a=some o)->φ g
def uc(H:Hp)(h:Heap):Prop:=∀a o,H a=some o->lT P w H h a o
end
section
variable {P:Program}{w:World}{H H':Hp}{h h':Heap}{a:Addr}{o:HO}
def lT.lt(x:lT P w H h a o):a<h.objs.size:=by
 cases o with
 |lst xs=>obtain⟨_,_,_,_,e⟩:=x;exact aL e
 |tup xs=>obtain⟨_,_,_,p⟩:=x;exact (zE.tup p).lt
 |dK kvs=>obtain⟨_,_,_,_,o,_,_,e,_⟩:=x;exact aL e
 |dT kvs=>obtain⟨_,_,_,_,o,_,_,e,_⟩:=x;exact aL e
 |set S n=>obtain⟨o,_,_,_,e,_⟩:=x;exact aL e
 |ins C dx fs=>obtain⟨_,_,_,e,_⟩:=x;exact aL e
 |own y=>obtain⟨_,e⟩:=x;exact aL e
 |xd fs=>obtain⟨_,⟨_,_,_,e,_⟩,_⟩:=x;exact aL e
 |rng lo hi=>obtain⟨_,_,_,e⟩:=x;exact aL e
 |frz ob u=>obtain⟨e,_⟩:=x;exact aL e
 |tbl q ps=>exact aL x.1
 |met f y=>exact aL (x)
 |ext φ=>obtain⟨_,⟨_,e⟩,_⟩:=x;exact aL e
theorem Paired.mapP{F G:α->β->Prop}:∀{l₁} {l₂},Paired F l₁ l₂->(∀a b,F a b->G a b)->Paired G l₁ l₂
 |_,_,.nil,_=>.nil
 |_,_,.cons r t,f=>.cons (f _ _ r) (Paired.mapP t f)
def Paired.imp'{F G:α->β->Prop}(f:∀a b,F a b->G a b){d:List α}{c:List β}(r:Paired F d c):Paired G d c:=Paired.mapP r f
theorem lT.stay(x:lT P w H h a o)(k:∀b u,(b=a\/H b=some (.own a))->h.get? b=some u->h'.get? b=some u)
  (E:∀b,H b=some (.own a)->H' b=some (.own a)) (K:∀b xs,H b=some (.tup xs)->H' b=some (.tup xs)):lT P w H' h' a o:=by
 induction o with
 |lst xs=>obtain⟨z,l,n,r,e⟩:=x;exact⟨z,l,n,r,k _ _ (.inl rfl) e⟩
 |tup xs=>obtain⟨z,l,r,g,e,c⟩:=x;exact⟨z,l,r,g,k _ _ (.inl rfl) e,c⟩
 |dK kvs=>obtain⟨z,y,s,r,g,i,j,e,c⟩:=x;exact⟨z,y,s,r,g,i,j,k _ _ (.inl rfl) e,c⟩
 |dT kvs=>obtain⟨z,y,xs,r,g,i,j,e,c⟩:=x;exact⟨z,y,xs,Paired.mapP r λp q z=>⟨z.1,K _ _ z.2.1,z.2.2⟩,g,i,j,k _ _ (.inl rfl) e,c⟩
 |set S n=>obtain⟨g,i,j,t,e,c⟩:=x;exact⟨g,i,j,t,k _ _ (.inl rfl) e,c⟩
 |ins C dx fs=>obtain⟨d,z,ne,e,m,⟨B,i,j,A,c⟩,r⟩:=x;exact⟨E _ d,z,ne,k _ _ (.inl rfl) e,m,⟨B,i,j,k _ _ (.inr d) A,c⟩,r⟩
 |own y=>obtain⟨g,e⟩:=x;exact⟨g,k _ _ (.inl rfl) e⟩
 |xd fs=>obtain⟨m,⟨B,i,j,e,c⟩,r⟩:=x;exact⟨m,⟨B,i,j,k _ _ (.inl rfl) e,c⟩,r⟩
 |rng lo hi=>obtain⟨t,u,v,e⟩:=x;exact⟨t,u,v,k _ _ (.inl rfl) e⟩
 |frz g u ih=>obtain⟨e,q⟩:=x;exact⟨k _ _ (.inl rfl) e,ih q⟩
 |tbl q ps=>obtain⟨e,t,cs⟩:=x;refine⟨k a _ (.inl rfl) e,t,λv hv=>?_⟩;obtain⟨b,I,D,c,o,s,J,N,A,L⟩:=cs v hv;cases N;exact⟨_,I,E _ D,_,o,s,J,rfl,k _ _ (.inr D) A,L⟩
 |met f y=>have e:=x;exact k a _ (.inl rfl) e
 |ext φ=>obtain⟨p,⟨o,e⟩,F⟩:=x;exact⟨F _ _ p λo q=>k _ _ (.inl rfl) q,⟨o,k _ _ (.inl rfl) e⟩,F⟩
def uc.lt(x:uc P w H h)(e:H a=some o):a<h.objs.size:=(x a o e).lt
def uc.fresh(x:uc P w H h)(e:h.objs.size<=a):H a=none:=by
 cases q:H a with
 |none=>rfl
 |some u=>exact absurd (aE (x.lt q) e) (a9 _)
def uc.kept(x:uc P w H h)(k:∀b u,h.get? b=some u->h'.get? b=some u):uc P w H h':=λa o e=>(x a o e).stay (λb u _ q=>k b u q) (λ_ q=>q) λ_ _ q=>q
def uc.laid(x:uc P w H h)(k:∀b u,h.get? b=some u->h'.get? b=some u)(g:h.objs.size<=a)(new:lT P w (jR H a o) h' a o):uc P w (jR H a o) h':=λb u e=>by
 have d:=x.fresh g;by_cases f:b=a
 .subst f;rw[hU]at e;cases e;exact new
 .rw[gY f]at e;exact (x b u e).stay (λc v _ q=>k c v q) (λc q=>by rw[gY (iX q d)];exact q) λc i q=>by rw[gY (iX q d)];exact q
end
def Rd(H:Hp)(a:Addr)(u:HO):Prop:=H a=some u\/∃o,H a=some (.frz o u)
def Rd.ok(r:Rd H a u)(x:uc P w H h):lT P w H h a u:=by
 rcases r with r|⟨o,r⟩
 .exact x a u r
 .obtain⟨_,q⟩:=x a _ r;exact q
def Vr:Option HO->Prop
 |some (.lst _)=>True
 |some (.dK _)=>True
 |some (.dT _)=>True
 |some (.set _ _)=>True
 |some (.ins _ _ _)=>True
 |some (.ext _)=>True
 |_=>False
section
variable {P:Program}{w:World}{H:Hp}{h h':Heap}{x e:Addr}{o':HO}
def uc.write(ok:uc P w H h)(i:Vr (H x))(n:e=x\/H e=some (.own x))(k:∀b u,b≠e->h.get? b=some u->h'.get? b=some u)(m:∃u,h'.get? e=some u)
  (new:lT P w (jR H x o') h' x o'):uc P w (jR H x o') h':=λb u q=>by
 have d:∀c y,H c=some (.own y)->c≠x:=λc y r z=>by subst z;rw[r]at i;exact i
 have f:∀c l,H c=some (.tup l)->c≠x:=λc l r z=>by subst z;rw[r]at i;exact i
 by_cases g:b=x
 .subst g;rw[hU]at q;cases q;exact new
 .rw[gY g]at q;by_cases a:b=e
  .have o:H b=some (.own x):=by
    rcases n with z|z
    .exact absurd (a.trans z) g
    .rw[a];exact z
   rw[q]at o;cases o;obtain⟨v,hv⟩:=m;exact⟨v,by rw[a];exact hv⟩
  .refine (ok b u q).stay (λc v j r=>k c v ?_ r) (λc r=>by rw[gY (d c b r)];exact r) λc l r=>by rw[gY (f c l r)];exact r
   rcases j with rfl|j
   .exact a
   .rintro rfl;rcases n with z|z
    .exact d c b j z
    .rw[j]at z;cases z;exact g rfl
end
structure Un(fs ex:List Addr)(H H':Hp)(h h':Heap):Prop where
 keep:∀b o,h.get? b=some o->H b=none->b∉fs->b∉ex->h'.get? b=some o
 slot:∀b o,h.get? b=some o->H b=none->b∈fs->b∉ex->∃sl,h'.get? b=some {o with slots:=sl}
 free:∀b o,h.get? b=some o->H b=none->b∉ex->H' b=none
 there:∀b o,h.get? b=some o->b∉ex->∃o',h'.get? b=some o'
 tups:∀b xs,H b=some (.tup xs)->H' b=some (.tup xs)
 frzs:∀b o u,H b=some (.frz o u)->H' b=some (.frz o u)
 tbls:∀b q ps,H b=some (.tbl q ps)->∃more,H' b=some (.tbl q (ps++more))
section
variable {fs fs' ex ex':List Addr}{H H1 H2:Hp}{h h1 h2 h':Heap}{a x e:Addr}{o:HO}
def Un.any(u:Un fs ex H H1 h h1)(q:h.get? b=some ob)(n:H b=none)(d:b∉ex):∃f,h1.get? b=some {ob with slots:=f}:=by
 by_cases c:b∈fs
 .exact u.slot b ob q n c d
 .exact⟨ob.slots,u.keep b ob q n c d⟩
def Un.kept(k:∀b u,h.get? b=some u->h'.get? b=some u):Un fs ex H H h h':=⟨λb c q _ _ _=>k b c q,λb c q _ _ _=>⟨c.slots,k b c q⟩,λ_ _ _ n _=>n,λb c q _=>⟨c,k b c q⟩,λ_ _ q=>q,λ_ _ _ q=>q,λ_ _ d q=>⟨#[],by rw[q];simp⟩⟩
def Un.refl:Un fs ex H H h h:=Un.kept λ_ _ q=>q
def Un.laid(k:∀b u,h.get? b=some u->h'.get? b=some u)(d:h.objs.size<=a)(c:H a=none):Un fs ex H (jR H a o) h h' where
 keep:=λb u q _ _ _=>k b u q
 slot:=λb u q _ _ _=>⟨u.slots,k b u q⟩
 free:=λb u q n _=>by rw[gY (aM (aE (aL q) d))];exact n
 there:=λb u q _=>⟨u,k b u q⟩
 tups:=λb f q=>by rw[gY (iX q c)];exact q
 frzs:=λb u f q=>by rw[gY (iX q c)];exact q
 tbls:=λb _ g q=>⟨#[],by rw[gY (iX q c),q];simp⟩
def Un.write(d:Vr (H x))(l:e=x\/H e=some (.own x))(k:∀b u,b≠e->h.get? b=some u->h'.get? b=some u)(g:∃u,h'.get? e=some u):Un fs ex H (jR H x o) h h':=by
 have j:∀b,H b=none->b≠x:=λb n z=>by subst z;rw[n]at d;exact d
 have i:∀b,H b=none->b≠e:=λb n z=>by
  subst z;rcases l with r|r
  .exact j b n r
  .rw[n]at r;cases r
 have f:∀b u,H b=some u->¬Vr (some u)->b≠x:=λb u q m z=>by subst z;rw[q]at d;exact m d
 refine⟨λb u q n _ _=>k b u (i b n) q,λb u q n _ _=>⟨u.slots,k b u (i b n) q⟩,λb u q n _=>by rw[gY (j b n)];exact n,λb u q _=>?_,
  λb p q=>by rw[gY (f b _ q λz=>z)];exact q,λb u p q=>by rw[gY (f b _ q λz=>z)];exact q,λb _ s q=>⟨#[],by rw[gY (f b _ q λz=>z),q];simp⟩⟩
 by_cases c:b=e
 .subst c;exact g
 .exact⟨u,k b u c q⟩
end
noncomputable def V1(h:Heap)(H:Hp):List Addr:=(List.range h.objs.size).filter λa=>(H a).isSome
def KP(h:Heap)(H:Hp):Heap:=W.hideAll h (V1 h H)
def IC h H:(KP h H).objs.size=h.objs.size:=W.hideAll_size _ _
def K6(e:h.get? b=some o)(n:H b=none):(KP h H).get? b=some o:=W.hideAll_get _ e λa=>by have q:=(aU.mp a).2;rw[n]at q;simp at q
def Qm(e:(KP h H).get? b=some o):h.get? b=some o/\H b=none:=by
 have a:=W.of_hideAll (V1 h H) e;refine⟨a,?_⟩;cases q:H b with
 |none=>rfl
 |some x=>have c:b∈V1 h H:=aU.mpr ⟨aS.mpr (aL a),by simp[q]⟩;have z:(KP h H).get? b=none:=W.hideAll_none (V1 h H) c;rw[z]at e;cases e
end L2
namespace L2
open PySem PySem.Spec PyProof.Rows
structure Mod(K:W.Frag)(mg:Str->Option Value)(base:Heap):Prop where
 kin:K.In base
 glob:base.Ns mainGlobals mg
 blt:∃mb,base.Ns builtinsNs mb/\∀x:Str,x≠ "__name__" ->mb x=bootBuiltins x
 nolimit:base.NoLimit
def Lo(a:Heap)(H:Hp):Prop:=∀c P b,(c,P)∈a.life.ids->a.CodeRec (.ref c) b->∃d,H P=some (.tbl (b++ ".<locals>.<lambda>") d)
structure Cx where
 prog:Program
 w:World
 K:W.Frag
 mg:Str->Option Value
 base:Heap
 A:Around
 N:List Str
 s₀:Shared
 H₀:Hp
 env:Env
 outer:List Env
 stack:List Env
 ex:List Addr
 fn:Str->Bool
 calm:Bool
 pn:List (Addr×Obj)
 xe:Value->Shared->Prop
noncomputable def IS(l:List Env):List Addr:=l.filterMap (·.frame)
abbrev Cx.fs(X:Cx):List Addr:=IS X.outer
def VJ(a:Scope)(x:Str):Prop:=a.names.lookup x=some .local\/a.names.lookup x=some .cell\/a.names.lookup x=some .free
def HR(a:Scope)(x:Str):Prop:=a.names.lookup x=some .local\/a.names.lookup x=some .cell
def Ws(a:Env)(h:Heap)(m:Str->Option Value)(x:Str)(u:Value):Prop:=(a.kindOf x=some .local/\m x=some u)\/((a.kindOf x=some .cell\/a.kindOf x=some .free)/\∃c,a.cells.lookup x=some c/\h.IsCell c (some u))
structure Cx.Ok(X:Cx):Prop where
 mod:Mod X.K X.mg X.base
 kind:X.env.scope.kind=.function
 glob:X.env.globals=mainGlobals
 blt:X.env.builtins=builtinsNs
 above:X.s₀.heap.objs.size<=X.env.locals
 inj:∀x y c,X.env.cells.lookup x=some c->X.env.cells.lookup y=some c->x=y
 has:∀x,(X.env.kindOf x=some .cell\/X.env.kindOf x=some .free)->∃c,X.env.cells.lookup x=some c
 cab:∀x c,X.fn x=true->X.env.cells.lookup x=some c->X.s₀.heap.objs.size<=c
 hd:X.calm=true->X.A.handled=none
 frames:X.A.frames=some X.stack
 stk:X.stack=X.outer\/(X.stack=X.env::X.outer/\X.env.frame=some X.env.locals)
 exf:∀b∈X.ex,b≠X.env.locals/\∀x c,X.env.cells.lookup x=some c->c≠b
 bs:∀b o,X.base.get? b=some o->X.s₀.heap.get? b=some o/\X.H₀ b=none
 bsz:X.base.objs.size<=X.s₀.heap.objs.size
 noex:∀b o,X.base.get? b=some o->b∉X.ex
 exfs:∀b∈X.ex,b∉X.fs
 funs:X.s₀.heap.FunFrames X.base X.outer
 frf:∀b∈X.fs,X.H₀ b=none
 tab:Lo X.base X.H₀
structure iG(X:Cx)(gI:List (Addr×Obj))(σ:List (Option V))(H:Hp)(s:Shared):Prop where
 ok:X.Ok
 os:s.os=X.s₀.os
 bare:AllBare s.gens
 base:Un X.fs X.ex X.H₀ H X.s₀.heap s.heap
 loc:∃m,s.heap.Ns X.env.locals m/\∀(i:Nat) (x:Str) (v:V),X.N[i]? = some x->σ[i]? = some (some v)->VJ X.env.scope x->∃u,jD v u/\Ws X.env s.heap m x u
 cell:∀x c,X.env.cells.lookup x=some c->∃v,s.heap.IsCell c v
 free:H X.env.locals=none
 freeC:∀x c,X.env.cells.lookup x=some c->H c=none
 pin:∀p∈X.pn++gI,s.heap.get? p.1=some p.2/\H p.1=none/\p.1≠X.env.locals/\p.1∉X.fs/\∀v,p.2.data≠.cell v
 hok:uc X.prog X.w H s.heap
 len:σ.length=X.N.length
section
variable {X:Cx}{gI:List (Addr×Obj)}{σ:List (Option V)}{H H':Hp}{s:Shared}{h':Heap}
def Cx.Ok.nofr(ok:X.Ok)(e:X.base.get? b=some o):b∉X.fs:=λa=>by have:=(ok.funs.mem a).1;rw[e]at this;cases this
def iG.bs(I:iG X gI σ H s):∀b o,X.base.get? b=some o->s.heap.get? b=some o/\H b=none:=λb o e=>⟨I.base.keep b o (I.ok.bs b o e).1 (I.ok.bs b o e).2 (I.ok.nofr e) (I.ok.noex b o e),I.base.free b o (I.ok.bs b o e).1 (I.ok.bs b o e).2 (I.ok.noex b o e)⟩
def iG.tab(I:iG X gI σ H s):Lo X.base H:=λc P d a b=>let ⟨ps,e⟩:=I.ok.tab c P d a b;let ⟨more,q⟩:=I.base.tbls _ _ ps e;⟨ps++more,q⟩
def iG.bk(I:iG X gI σ H s):∀b o,X.base.get? b=some o->s.heap.get? b=some o:=λb o e=>(I.bs b o e).1
def iG.mod(I:iG X gI σ H s):Mod X.K X.mg X.base:=I.ok.mod
def iG.kIn(I:iG X gI σ H s):X.K.In s.heap:=I.ok.mod.kin.keeps I.bk
def iG.lt(I:iG X gI σ H s):X.env.locals<s.heap.objs.size:=let ⟨_,hn,_⟩:=I.loc;hn.lt
def iG.sz(I:iG X gI σ H s):X.s₀.heap.objs.size<=s.heap.objs.size:=aN I.ok.above (bh I.lt)
def iG.nofs(I:iG X gI σ H s)(h:s.heap.objs.size<=a):a∉X.fs:=λc=>by obtain⟨_,o,b,_⟩:=I.ok.funs.mem c;exact absurd (aE (aL b) (aN I.sz h)) (a9 _)
def iG.cne(I:iG X gI σ H s):∀x c,X.env.cells.lookup x=some c->c≠X.env.locals:=λx c e z=>by obtain⟨v,o,d,f⟩:=I.cell x c e;obtain⟨m,⟨h,i,g,a,b,_⟩,_⟩:=I.loc;rw[z,a]at d;cases d;rw[b]at f;cases f
def iG.funs(I:iG X gI σ H s):s.heap.FunFrames X.base X.outer:=by
 have all:∀(l:List Env),(∀b∈IS l,b∈X.fs)->X.s₀.heap.FunFrames X.base l->s.heap.FunFrames X.base l:=by
  intro l;induction l with
  |nil=>intro _ _;trivial
  |cons env r ih=>intro f g;obtain⟨k,⟨L,o,a,h,i,j⟩,hr⟩:=g;have c:=f L (by unfold IS;rw[bj,a];exact bx);obtain⟨m,e⟩:=I.base.slot L o i (I.ok.frf L c) c λz=>I.ok.exfs L z c;exact⟨k,⟨L,_,a,h,e,j⟩,ih (λb d=>f b (by unfold IS;rw[bj,a];exact bz _ d)) hr⟩
 exact all X.outer (λ_ d=>d) I.ok.funs
def iG.stack(I:iG X gI σ H s):s.heap.FunFrames X.base X.stack:=by
 rcases I.ok.stk with e|⟨e,a⟩
 .rw[e];exact I.funs
 .rw[e];obtain⟨m,b,_⟩:=I.loc;refine .cons (by rw[I.ok.kind];decide) a b ?_ I.funs;exact Heap.get?_none_of_le (aN I.ok.bsz I.ok.above)
def iG.stkSub(I:iG X gI σ H s):∀b∈IS X.stack,b∈X.env.locals::X.fs:=λb a=>by
 rcases I.ok.stk with e|⟨e,c⟩
 .rw[e]at a;exact bz _ a
 .rw[e]at a;unfold IS at a;rw[bj,c]at a;exact a
def iG.stkFree(I:iG X gI σ H s):∀b∈IS X.stack,H b=none:=λb a=>by
 rcases aF.mp (I.stkSub b a) with e|a
 .rw[e];exact I.free
 .obtain⟨_,o,c,_⟩:=I.ok.funs.mem a;exact I.base.free b o c (I.ok.frf b a) λz=>I.ok.exfs b z a
def iG.step{ch:List Addr}(I:iG X gI σ H s)
  (g:∀b∈ch,(b∈X.ex\/X.s₀.heap.objs.size<=b)/\b≠X.env.locals/\(∀x c,X.env.cells.lookup x=some c->c≠b)/\∀p∈X.pn++gI,p.1≠b)
  (keep:∀b o,b≠X.env.locals->b∉X.fs->b∉ch->s.heap.get? b=some o->H b=none->h'.get? b=some o)
  (B:∀b o,b≠X.env.locals->b∈X.fs->b∉ch->s.heap.get? b=some o->H b=none->∃U,h'.get? b=some {o with slots:=U}) (f:∀b o,b∉ch->s.heap.get? b=some o->H b=none->H' b=none)
  (C:∀b o,b∉ch->s.heap.get? b=some o->∃L,h'.get? b=some L)
  (P:∀b xs,H b=some (.tup xs)->H' b=some (.tup xs)) (Q:∀b o u,H b=some (.frz o u)->H' b=some (.frz o u)) (J:∀b q R,H b=some (.tbl q R)->∃F,H' b=some (.tbl q (R++F)))
  (ns:∀m,s.heap.Ns X.env.locals m->h'.Ns X.env.locals m) (S:uc X.prog X.w H' h') (hg:AllBare g') :
  iG X gI σ H' {s with heap:=h',gens:=g',drawn:=d',toks:=t'}:=by
 have K:∀b o,X.s₀.heap.get? b=some o->b≠X.env.locals:=λb o e=>aM (aE (aL e) I.ok.above);have y:∀b o,X.s₀.heap.get? b=some o->b∉X.ex->b∉ch:=λb o e a D=>by
  rcases (g b D).1 with z|z
  .exact a z
  .exact absurd (aE (aL e) z) (a9 _)
 have h:∀x c,X.env.cells.lookup x=some c->∀v,s.heap.IsCell c v->h'.IsCell c v:=λx c e v ⟨o,E,Y⟩=>by
  have j:c∉ch:=λz=>(g c z).2.2.1 x c e rfl;by_cases hc:c∈X.fs
  .obtain⟨U,q⟩:=B c o (I.cne x c e) hc j E (I.freeC x c e);exact⟨_,q,Y⟩
  .exact⟨o,keep c o (I.cne x c e) hc j E (I.freeC x c e),Y⟩
 refine⟨I.ok,I.os,hg,⟨λb o e n D a=>?_,λb o e n D a=>?_,λb o e n a=>?_,λb o e a=>?_,λb xs e=>P b xs (I.base.tups b xs e),λb o xs e=>Q b o xs (I.base.frzs b o xs e),λb _ R e=>?_⟩,?_,λx c e=>?_,?_,λx c e=>?_,λp hp=>?_,S,I.len⟩
 .exact keep b o (K b o e) D (y b o e a) (I.base.keep b o e n D a) (I.base.free b o e n a)
 .obtain⟨U,A⟩:=I.base.slot b o e n D a;obtain⟨Z,N⟩:=B b _ (K b o e) D (y b o e a) A (I.base.free b o e n a);exact⟨Z,N⟩
 .obtain⟨L,A⟩:=I.base.there b o e a;exact f b L (y b o e a) A (I.base.free b o e n a)
 .obtain⟨L,A⟩:=I.base.there b o e a;exact C b L (y b o e a) A
 .obtain⟨m1,A⟩:=I.base.tbls b _ R e;obtain⟨m2,N⟩:=J b _ _ A;exact⟨m1++m2,by rw[N,bA]⟩
 .obtain⟨m,hn,hl⟩:=I.loc;refine⟨m,ns m hn,λi x v A N e3=>?_⟩;obtain⟨u,r,l⟩:=hl i x v A N e3;refine⟨u,r,?_⟩;rcases l with l|⟨k,c,e,z⟩
  .exact .inl l
  .exact .inr ⟨k,c,e,h x c e _ z⟩
 .obtain⟨v,z⟩:=I.cell x c e;exact⟨v,h x c e v z⟩
 .obtain⟨m,⟨o,_,_,E,_⟩,_⟩:=I.loc;exact f _ o (λz=>(g _ z).2.1 rfl) E I.free
 .obtain⟨v,o,E,Y⟩:=I.cell x c e;exact f c o (λz=>(g c z).2.2.1 x c e rfl) E (I.freeC x c e)
 .obtain⟨e,n,ne,nf,d⟩:=I.pin p hp;have j:p.1∉ch:=λz=>(g p.1 z).2.2.2 p hp rfl;exact⟨keep p.1 p.2 ne nf j e n,f p.1 p.2 j e n,ne,nf,d⟩
def iG.un(I:iG X gI σ H s)(u:Un X.fs [] H H' s.heap h')(f:uc X.prog X.w H' h'):iG X gI σ H' {s with heap:=h',toks:=t'}:=by obtain⟨m,⟨o,p,q,h,r⟩,_⟩:=id I.loc;obtain⟨v,i⟩:=u.any h I.free (by simp);exact I.step (ch:=[]) (λ_ z=>nomatch z) (λb o _ d _ e n=>u.keep b o e n d (by simp)) (λb o _ d _ e n=>u.slot b o e n d (by simp)) (λb o _ e n=>u.free b o e n (by simp)) (λb o _ e=>u.there b o e (by simp)) u.tups u.frzs u.tbls (λl j=>by obtain⟨x,c,g,a,k⟩:=j;rw[h]at a;cases a;exact⟨_,c,g,i,k⟩) f I.bare
def iG.call(I:iG X gI σ H s)(u:Un (IS X.stack) ch H H' s.heap h')(i:uc X.prog X.w H' h')(v:AllBare g')
  (f:∀b∈ch,(b∈X.ex\/X.s₀.heap.objs.size<=b)/\b≠X.env.locals/\(∀x c,X.env.cells.lookup x=some c->c≠b)/\∀p∈X.pn++gI,p.1≠b) :
  iG X gI σ H' {s with heap:=h',gens:=g',drawn:=d',toks:=t'}:=by
 obtain⟨m,⟨o,B,C,k,r⟩,_⟩:=id I.loc;obtain⟨D,h⟩:=u.any k I.free λz=>(f _ z).2.1 rfl;exact I.step f (λb o h q a e n=>u.keep b o e n (λz=>(aF.mp (I.stkSub b z)).elim h q) a) (λb o _ _ a e n=>u.any e n a) (λb o a e n=>u.free b o e n a) (λb o a e=>u.there b o e a) u.tups u.frzs u.tbls (λA l=>by obtain⟨E,g,j,d,y⟩:=l;rw[k]at d;cases d;exact⟨_,g,j,h,y⟩) i v
def iG.turned(I:iG X gI σ H s)(k:∀b o,b≠it->s.heap.get? b=some o->h'.get? b=some o)(j:H it=none)(f:it≠X.env.locals)
  (l:it∈X.ex\/X.s₀.heap.objs.size<=it) (B:∀x c,X.env.cells.lookup x=some c->c≠it) (A:∀p∈X.pn++gI,p.1≠it):iG X gI σ H {s with heap:=h',toks:=t'}:=by
 have d:∀b u,H b=some u->b≠it:=λb u e z=>by rw[z,j]at e;cases e
 refine I.step (ch:=[it]) (λb i=>?_) (λb o _ _ a e _=>k b o (λz=>a (by simp[z])) e) (λb o _ _ a e _=>⟨o.slots,k b o (λz=>a (by simp[z])) e⟩) (λ_ _ _ _ n=>n)
  (λb o a e=>⟨o,k b o (λz=>a (by simp[z])) e⟩) (λ_ _ e=>e) (λ_ _ _ e=>e) (λb _ C e=>⟨#[],by rw[e];simp⟩) (λm g=>?_) (λb u e=>?_) I.bare
 .have e:b=it:=by simpa using i
  subst e;exact⟨l,f,B,A⟩
 .obtain⟨o,h,w,y,r⟩:=g;exact⟨o,h,w,k _ o (Ne.symm f) y,r⟩
 .refine (I.hok b u e).stay (λc v a q=>k c v ?_ q) (λ_ q=>q) λ_ _ q=>q;rcases a with z|z
  .rw[z];exact d b u e
  .exact d c _ z
def iG.tok(I:iG X gI σ H s) t:iG X gI σ H {s with toks:=t}:=I.un Un.refl I.hok
def iG.kept(I:iG X gI σ H s)(k:∀b u,s.heap.get? b=some u->h'.get? b=some u):iG X gI σ H {s with heap:=h',toks:=t'}:=I.un (Un.kept k) (I.hok.kept k)
def iG.laid(I:iG X gI σ H s)(k:∀b u,s.heap.get? b=some u->h'.get? b=some u)(c:s.heap.objs.size<=a)(new:lT X.prog X.w (jR H a o) h' a o) :
  iG X gI σ (jR H a o) {s with heap:=h',toks:=t'}:=I.un (Un.laid k c (I.hok.fresh c)) (I.hok.laid k c new)
def iG.write(I:iG X gI σ H s)(d:Vr (H x))(c:e=x\/H e=some (.own x))(k:∀b u,b≠e->s.heap.get? b=some u->h'.get? b=some u)(a:∃u,h'.get? e=some u)
  (new:lT X.prog X.w (jR H x o) h' x o):iG X gI σ (jR H x o) {s with heap:=h',toks:=t'}:=I.un (Un.write d c k a) (I.hok.write d c k a new)
def iG.weak(I:iG X gI σ H s)(c:σ'.length=σ.length)(w:∀(i:Nat) v,σ'[i]? = some (some v)->σ[i]? = some (some v)):iG X gI σ' H s:=⟨I.ok,I.os,I.bare,I.base,let ⟨m,hn,hl'⟩:=I.loc;⟨m,hn,λi x v a b d=>hl' i x v a (w i v b) d⟩,I.cell,I.free,I.freeC,I.pin,I.hok,c.trans I.len⟩
def iG.pins_of(I:iG X gI σ H s)(h:∀p∈pins',s.heap.get? p.1=some p.2/\H p.1=none/\p.1≠X.env.locals/\p.1∉X.fs/\∀v,p.2.data≠.cell v):iG X pins' σ H s:=⟨I.ok,I.os,I.bare,I.base,I.loc,I.cell,I.free,I.freeC,λp a=>(ai.mp a).elim (λz=>I.pin p (ax _ z)) (h p),I.hok,I.len⟩
def EH{N:List Str}(c:N.Nodup){i j:Nat}(a:N[i]? = some x)(b:N[j]? = some x):i=j:=by obtain⟨g,d⟩:=aa.mp a;obtain⟨f,e⟩:=aa.mp b;exact (List.getElem_inj c).mp (d.trans e.symm)
def Bb{M:Model}{A:Around}{E:Value->Shared->Prop}{i:Nat}{x:Str}{v:V}{u:Value}{Q:Unit->Shared->Prop}(I:iG X gI σ H s)(hN:X.N.Nodup)(R:X.N[i]? = some x)(B:HR X.env.scope x)(r:jD v u)
  (h:∀s',iG X gI (σ.set i (some v)) H s'->(∃a,Heap.SameBut a s.heap s'.heap/\(a=X.env.locals\/X.env.cells.lookup x=some a))->Q () s') (hf:X.fn x=true\/X.env.scope.names.lookup x=some .local:=by first|exact .inl rfl|exact .inr rfl|assumption):wpAny M A (storeName X.env x u) Q E s:=by
 obtain⟨m,hn,hl⟩:=id I.loc;have hcls:(X.env.scope.kind==.class||(X.env.scope.kind==.module&&X.env.locals != X.env.globals))=false:=by rw[I.ok.kind];rfl
 have F:i<σ.length:=by rw[I.len];exact (aa.mp R).1
 have cne:=I.cne;have tracked:∀{a:Addr} {h':Heap},(∃o,s.heap.get? a=some o/\H a=none)->Heap.SameBut a s.heap h'->uc X.prog X.w H h':=λ{a h'} ha f b ob e=>by
  obtain⟨_,_,C⟩:=ha;refine (I.hok b ob e).stay (λc w' l q=>(f.2 c ?_).trans q) (λ_ q=>q) λ_ _ q=>q;rintro rfl;rcases l with rfl|l
  .rw[C]at e;cases e
  .rw[C]at l;cases l
 rcases B with J|J
 .refine wpAny_storeName_local J hn (λh' hn' f=>?_) hcls;obtain⟨oL,_,_,hoL,_⟩:=id hn;refine h _ ⟨I.ok,I.os,I.bare,⟨λb o e n K B=>?_,λb o e n K B=>?_,I.base.free,λb o e B=>?_,I.base.tups,I.base.frzs,I.base.tbls⟩,⟨_,hn',λj y v' g D e3=>?_⟩,λy c e=>?_,I.free,I.freeC,λp hp=>?_,tracked ⟨oL,hoL,I.free⟩ f,by simpa using I.len⟩ ⟨_,f,.inl rfl⟩
  .exact (f.2 b (aM (aE (aL e) I.ok.above))).trans (I.base.keep b o e n K B)
  .obtain⟨sl,g⟩:=I.base.slot b o e n K B;exact⟨sl,(f.2 b (aM (aE (aL e) I.ok.above))).trans g⟩
  .obtain⟨o',g⟩:=I.base.there b o e B;exact⟨o',(f.2 b (aM (aE (aL e) I.ok.above))).trans g⟩
  .by_cases P:j=i
   .subst P;rw[R]at g;cases g;rw[List.getElem?_set_self F]at D;cases D;exact⟨u,r,.inl ⟨J,by simp⟩⟩
   .rw[aq (Ne.symm P)]at D;obtain⟨u',r',q⟩:=hl j y v' g D e3;refine⟨u',r',?_⟩;rcases q with⟨k,e⟩|⟨k,c,e,z⟩
    .refine .inl ⟨k,?_⟩;have:y≠x:=λe=>P (EH hN g (e▸R));simp[this,e]
    .exact .inr ⟨k,c,e,z.sameBut f (cne y c e)⟩
  .obtain⟨w',z⟩:=I.cell y c e;exact⟨w',z.sameBut f (cne y c e)⟩
  .obtain⟨e,n,ne,nf,d⟩:=I.pin p hp;exact⟨(f.2 p.1 ne).trans e,n,ne,nf,d⟩
 .have L:X.fn x=true:=by
   rcases hf with z|z
   .exact z
   .rw[z]at J;cases J
  obtain⟨c,l⟩:=I.ok.has x (.inl J);obtain⟨w',z⟩:=I.cell x c l;refine wpAny_storeName_cell I.ok.kind J l z (λh' Z f=>?_);obtain⟨oc,S,Y⟩:=id z;refine h {s with heap:=h'} ⟨I.ok,I.os,I.bare,⟨λb o e n K B=>?_,λb o e n K B=>?_,I.base.free,λb o e B=>?_,I.base.tups,I.base.frzs,I.base.tbls⟩,⟨m,hn.sameBut f (Ne.symm (cne x c l)),λj y v' g D e3=>?_⟩,λy c' e=>?_,I.free,I.freeC,λp hp=>?_,tracked ⟨oc,S,I.freeC x c l⟩ f,by simpa using I.len⟩ ⟨c,f,.inr l⟩
  .exact (f.2 b (aM (aE (aL e) (I.ok.cab x c L l)))).trans (I.base.keep b o e n K B)
  .obtain⟨sl,g⟩:=I.base.slot b o e n K B;exact⟨sl,(f.2 b (aM (aE (aL e) (I.ok.cab x c L l)))).trans g⟩
  .obtain⟨o',g⟩:=I.base.there b o e B;exact⟨o',(f.2 b (aM (aE (aL e) (I.ok.cab x c L l)))).trans g⟩
  .by_cases P:j=i
   .subst P;rw[R]at g;cases g;rw[List.getElem?_set_self F]at D;cases D;exact⟨u,r,.inr ⟨.inl J,c,l,Z⟩⟩
   .rw[aq (Ne.symm P)]at D;obtain⟨u',r',q⟩:=hl j y v' g D e3;refine⟨u',r',?_⟩;rcases q with q|⟨k,c',e,z'⟩
    .exact .inl q
    .refine .inr ⟨k,c',e,z'.sameBut f ?_⟩;rintro rfl;exact P (EH hN g (I.ok.inj _ _ _ e l▸R))
  .by_cases U:c'=c
   .subst U;exact⟨_,Z⟩
   .obtain⟨w2,z2⟩:=I.cell y c' e;exact⟨w2,z2.sameBut f U⟩
  .obtain⟨e,n,ne,nf,d⟩:=I.pin p hp;refine⟨(f.2 p.1 ?_).trans e,n,ne,nf,d⟩;intro q;rw[q,S]at e;have q':=Option.some.inj e;exact d w' (by rw[<-q'];exact Y)
def vz{M:Model}{A:Around}{E:Value->Shared->Prop}{i:Nat}{x:Str}{v:V}{u:Value}{Q:Unit->Shared->Prop}(I:iG X gI σ H s)(d:X.N.Nodup)(e:X.N[i]? = some x)(f:HR X.env.scope x)(r:jD v u)
  (h:∀a,iG X gI (σ.set i (some v)) H a->Q () a) (b:X.fn x=true\/X.env.scope.names.lookup x=some .local:=by first|exact .inl rfl|exact .inr rfl|assumption):wpAny M A (storeName X.env x u) Q E s:=
 Bb I d e f r (λa c _=>h a c) b
def iG.call'(I:iG X gI σ H s)(g:s'.os=s.os)(u:Un (IS X.stack) ch H H' s.heap s'.heap)(a:uc X.prog X.w H' s'.heap)(f:AllBare s'.gens)
  (d:∀b∈ch,(b∈X.ex\/X.s₀.heap.objs.size<=b)/\b≠X.env.locals/\(∀x c,X.env.cells.lookup x=some c->c≠b)/\∀p∈X.pn++gI,p.1≠b):iG X gI σ H' s':=by
 obtain⟨h',h,i,j,k⟩:=s';have e:=g;subst e;exact I.call u a f d
end
abbrev XK:=Value->Option Addr->Hp->Prop
abbrev St:=List (Option V)
abbrev VK:=V->Hp->Prop
abbrev TE:=St->Hp->VK->Prop
abbrev TT:=St->Hp->(Bool->Hp->Prop)->Prop
abbrev TA:=St->Hp->(List V->Hp->Prop)->Prop
structure wY where
 nx:St->Hp->Prop
 rt:VK
 bk:St->Hp->Prop:=λ_ _=>False
 ct:St->Hp->Prop:=λ_ _=>False
abbrev TS:=wY->St->Hp->Prop
def EP(X:Cx)(b:List (Addr×Obj))(d:St)(Q:VK)(u:Value)(c:Shared):Prop:=∃v a,iG X b d a c/\jD v u/\Q v a
def TP(X:Cx)(c:List (Addr×Obj))(e:St)(Q:Bool->Hp->Prop)(b:Bool)(d:Shared):Prop:=∃a,iG X c e a d/\Q b a
def AP(X:Cx)(c:List (Addr×Obj))(e:St)(Q:List V->Hp->Prop)(us:List Value)(d:Shared):Prop:=∃a b,iG X c e b d/\jc a us/\Q a b
def SP(X:Cx)(c:List (Addr×Obj))(D:wY)(f:Flow)(d:Shared):Prop:=
 match f with
 |.next=>∃a b,iG X c a b d/\D.nx a b
 |.brk=>∃a b,iG X c a b d/\D.bk a b
 |.cont=>∃a b,iG X c a b d/\D.ct a b
 |.ret u=>∃v a b,iG X c a b d/\jD v u/\D.rt v b
def PE(X:Cx)(e:Expr)(t:TE):Prop:=∀(b:List (Addr×Obj)) (s:Shared) (a:St) (H:Hp) (Q:VK),iG X b a H s->t a H Q->wpAny (model X.prog X.w) X.A (eval e X.env) (EP X b a Q) X.xe s
def PT(X:Cx)(e:Expr)(t:TT):Prop:=∀(b:List (Addr×Obj)) (s:Shared) (a:St) (H:Hp) (Q:Bool->Hp->Prop),iG X b a H s->t a H Q->wpAny (model X.prog X.w) X.A (isTrue e X.env (eval e X.env)) (TP X b a Q) X.xe s
def PW(X:Cx)(e:Expr)(t:TT):Prop:=∀(a:Sem Value) (c:List (Addr×Obj)) (s:Shared) (b:St) (H:Hp) (Q:Bool->Hp->Prop),iG X c b H s->t b H Q->wpAny (model X.prog X.w) X.A (isTrue e X.env a) (TP X c b Q) X.xe s
def PW.pt(h:PW X e t):PT X e t:=h _
def PA(X:Cx)(c:List Expr)(t:TA):Prop:=∀(pos:Pos) (b:List (Addr×Obj)) (s:Shared) (a:St) (H:Hp) (Q:List V->Hp->Prop),iG X b a H s->t a H Q->wpAny (model X.prog X.w) X.A (spliced (backTo pos (starEach c X.env))) (AP X b a Q) X.xe s
def PS(X:Cx)(st:Stmt)(t:TS):Prop:=∀(a:List (Addr×Obj)) (s:Shared) (b:St) (H:Hp) (D:wY),iG X a b H s->t D b H->wpAny (model X.prog X.w) X.A (exec st X.env) (SP X a D) X.xe s
def Ek(X:Cx)(st:List Stmt)(t:TS):Prop:=∀(a:List (Addr×Obj)) (s:Shared) (b:St) (H:Hp) (D:wY),iG X a b H s->t D b H->wpAny (model X.prog X.w) X.A (execs st X.env) (SP X a D) X.xe s
def kS{c:Type}{t:Sem c}{Q b:c->Shared->Prop}{M:Model}{A:Around}{E:Value->Shared->Prop}{s:Shared}(h:wpAny M A t Q E s)(d:∀a s,Q a s->b a s):wpAny M A t b E s:=wpAny_mono h d λ_ _ x=>x
end L2
namespace L2
open PySem PySem.Spec PyProof.Rows
section
variable {X:Cx}
def nM(i:Nat):TE:=λa H Q=>∃v,a[i]? = some (some v)/\Q v H
def tC(v:V):TE:=λ_ H Q=>Q v H
def Tf(k:X.N[i]? = some x)(hv:VJ X.env.scope x)(g:(x==("__debug__" : Str))=false:=by decide)(f:(x==("__classdict__" : Str))=false:=by decide):PE X (.Name x pos) (nM i):=by
 intro p s n H Q I h;obtain⟨v,e,h⟩:=h;obtain⟨m,w,o⟩:=I.loc;obtain⟨u,r,l⟩:=o i x v k e hv;have d:EP X p n Q u s:=⟨v,H,I,r,h⟩;rcases l with⟨b,q⟩|⟨b,c,j,a⟩
 .exact wpAny_Name (wpAny_loadName_local I.ok.kind b w q d) g
 .rcases b with b|b
  .exact wpAny_Name (wpAny_loadName_cell I.ok.kind b j a d) g
  .exact wpAny_Name (wpAny_loadName_free I.ok.kind b j a d f) g
def Gx{i j pos}:PE X (.Constant (.int i) j pos) (tC (.int i)):=λ_ _ _ H _ I h=>wpAny_Constant_int ⟨.int i,H,I.tok _,⟨_,rfl⟩,h⟩
def Q3{b j pos}:PE X (.Constant (.bool b) j pos) (tC (.bl b)):=λ_ _ _ H _ I h=>Constant_bool ⟨.bl b,H,I,rfl,h⟩
def T5{j pos}:PE X (.Constant .none j pos) (tC .non):=λ_ _ _ H _ I h=>Constant_none ⟨.non,H,I,rfl,h⟩
def Tc{x j pos}:PE X (.Constant (.str x) j pos) (tC (.str x)):=λ_ _ _ H _ I h=>Calls.Constant_str ⟨.str x,H,I.tok _,⟨_,rfl⟩,h⟩
def Gl(X:Cx)(x:Str):Prop:=X.env.kindOf x=some .globalImplicit
def CA(I:iG X gI σ H s)(a:Gl X x)(b:X.mg x=some u)(h:Q u s)
  (c:(x==("__debug__" : Str))=false:=by decide):wpAny (model X.prog X.w) X.A (eval (.Name x pos) X.env) Q E s:=
 Calls.Name_function_global I.ok.kind a (Calls.loadGlobal_global (by rw[I.ok.glob];exact I.mod.glob.keeps I.bk) b h) c
def rH(I:iG X gI σ H s)(c:Gl X x)(d:X.mg x=none)(hv:bootBuiltins x=some u)(h:Q u s)
  (e:x≠ "__name__" :=by decide) (f:(x==("__debug__" : Str))=false:=by decide):wpAny (model X.prog X.w) X.A (eval (.Name x pos) X.env) Q E s:=by
 obtain⟨g,b,a⟩:=I.mod.blt;exact Calls.Name_function_global I.ok.kind c (Calls.loadGlobal_builtin (by rw[I.ok.glob];exact I.mod.glob.keeps I.bk) d (by rw[I.ok.blt];exact b.keeps I.bk) ((a x e).trans hv) h) f
def OA(a:Gl X x)(b:X.mg x=some u)(r:jD v u)(c:(x==("__debug__" : Str))=false:=by decide):PE X (.Name x pos) (tC v):=λ_ _ _ H _ I h=>CA I a b ⟨v,H,I,r,h⟩ c
def OF(a:Gl X x)(b:X.mg x=none)(hv:bootBuiltins x=some u)(r:jD v u)(c:x≠ "__name__" :=by decide)(d:(x==("__debug__" : Str))=false:=by decide):PE X (.Name x pos) (tC v):=λ_ _ _ H _ I h=>rH I a b hv ⟨v,H,I,r,h⟩ c d
variable {a b:Expr}{ta tb:TE}{pos:Pos}
def tB(t:TE):TT:=λe H Q=>t e H λx d=>∃c,x=.bl c/\Q c d
def SU(h:PE X e t)(g:∀c,isTrue e X.env c=(do let v <-c;standAt e.pos;holding [v] (truthy v)):=by intro _;rfl):PT X e (tB t):=by intro f s i H Q I hw;refine isTrue_plain (kS (h f s i H _ I hw) λv s1 ⟨x,H1,I1,r1,q1⟩=>?_) (g _);obtain⟨d,rfl,q⟩:=q1;cases r1;exact wpAny_truthy_bool ⟨H1,I1,q⟩
variable {tA tB':TT}{rq:List Expr}
def Sx(t u:TT):TT:=λe H Q=>t e H λc d=>if c=true then u e d Q else Q false d
def WB(t u:TT):TT:=λe H Q=>t e H λc d=>if c=true then Q true d else u e d Q
def TL(t:TT):TT:=λe H Q=>t e H λc d=>Q (!c) d
def PV(f:PT X a tA):PW X (.BoolOp .And [a] pos) tA:=by
 intro j d s g H Q I h;refine isTrue_and (kS (f d s g H Q I h) λc i e=>?_);cases c with
 |true=>exact isTrue_and_nil e
 |false=>exact e
def RO(f:PT X a tA):PW X (.BoolOp .Or [a] pos) tA:=by
 intro j d s g H Q I h;refine isTrue_or (kS (f d s g H Q I h) λc i e=>?_);cases c with
 |false=>exact isTrue_or_nil e
 |true=>exact e
def SF(f:PT X a tA)(i:PW X (.BoolOp .And (b::rq) pos) tB'):PW X (.BoolOp .And (a::b::rq) pos) (Sx tA tB'):=by
 intro g d s e H Q I h;refine isTrue_and (kS (f d s e H _ I h) λc s1 ⟨H1,I1,q1⟩=>?_);cases c with
 |true=>exact i g d s1 e H1 Q I1 q1
 |false=>exact⟨H1,I1,q1⟩
def Vp(f:PT X a tA)(i:PW X (.BoolOp .Or (b::rq) pos) tB'):PW X (.BoolOp .Or (a::b::rq) pos) (WB tA tB'):=by
 intro g d s e H Q I h;refine isTrue_or (kS (f d s e H _ I h) λc s1 ⟨H1,I1,q1⟩=>?_);cases c with
 |true=>exact⟨H1,I1,q1⟩
 |false=>exact i g d s1 e H1 Q I1 q1
def S0(e:PT X a tA):PT X (.UnaryOp .Not a pos) (TL tA):=by intro d s g H Q I h;exact isTrue_not (e d s g H (λc f=>Q (!c) f) I h)
def LZ(ta tb:TE):TE:=λe H Q=>ta e H λx d=>∃c,x=.bl c/\if c=true then tb e d Q else Q (.bl false) d
def Lj(ta:TE):TE:=λe H Q=>ta e H λx d=>∃c,x=.bl c/\Q (.bl (!c)) d
def RW{op}(h:PE X a t):PE X (.BoolOp op [a] pos) t:=λc s d H Q I hw=>BoolOp_one (h c s d H Q I hw)
def SZ(g:PE X a ta)(i:PE X (.BoolOp .And (b::rq) pos) tb):PE X (.BoolOp .And (a::b::rq) pos) (LZ ta tb):=by
 intro e s f H Q I h;refine BoolOp_and (kS (g e s f H _ I h) λv s1 ⟨x,H1,I1,r1,d⟩=>?_);obtain⟨c,rfl,d⟩:=d;cases r1;refine wpAny_truthy_bool ?_;cases c with
 |true=>exact i e s1 f H1 Q I1 d
 |false=>exact⟨.bl false,H1,I1,rfl,d⟩
def R1(f:PE X a ta):PE X (.UnaryOp .Not a pos) (Lj ta):=by intro e s g H Q I h;refine UnaryOp_ (kS (f e s g H _ I h) λv s1 ⟨x,H1,I1,r1,d⟩=>?_);obtain⟨c,rfl,d⟩:=d;cases r1;exact not_of (wpAny_truthy_bool ⟨.bl (!c),H1,I1,rfl,d⟩)
def Wr(t:TT)(ta tb:TE):TE:=λd H Q=>t d H λc e=>if c=true then ta d e Q else tb d e Q
def Nu(j:PT X c tA)(g:PE X a ta)(i:PE X b tb):PE X (.IfExp c a b pos) (Wr tA ta tb):=by
 intro e s f H Q I h;refine wpAny_IfExp (kS (j e s f H _ I h) λd s1 ⟨H1,I1,q1⟩=>?_);cases d with
 |true=>exact g e s1 f H1 Q I1 q1
 |false=>exact i e s1 f H1 Q I1 q1
end
end L2
namespace L2
open PySem PySem.Spec PyProof.Rows
def mz(K:W.Frag)(H:Hp)(a:Addr)(xs:List V):Prop:=
 Rd H a (.lst xs)\/
  ∃(o:Obj) (b:Array Value) (n:Nat),K.lookup a=some o/\o.cls=.type "list" /\o.dict=none/\o.data=.seq b n/\b.size<=sizeLine/\jc xs b.toList
def oK(K:W.Frag)(H:Hp)(a:Addr)(xs:List V):Prop:=
 Rd H a (.tup xs)\/
  ∃(o:Obj) (b:Array Value) (n:Nat),K.lookup a=some o/\o.cls=.type "tuple" /\o.data=.seq b n/\b.size<=sizeLine/\jc xs b.toList
def WC:Value->Option V
 |.none=>some .non
 |.bool b=>some (.bl b)
 |.int i _=>some (.int i)
 |.str x _=>some (.str x)
 |.bytes b _=>some (.byt b)
 |.float b _=>some (.flt b)
 |.ref a=>some (.ref a)
 |.type n=>some (.ty n)
 |_=>none
def jD.abs(r:jD x u):WC u=some x:=by
 cases x with
 |non=>cases r;rfl
 |bl _=>cases r;rfl
 |int _=>obtain⟨t,rfl⟩:=r;rfl
 |str _=>obtain⟨t,rfl⟩:=r;rfl
 |byt _=>obtain⟨t,rfl⟩:=r;rfl
 |flt _=>obtain⟨t,rfl⟩:=r;rfl
 |ref _=>cases r;rfl
 |ty _=>cases r;rfl
def jD.inj(r:jD x u)(q:jD y u):x=y:=Option.some.inj (r.abs.symm.trans q.abs)
theorem jc.inj:∀{xs ys} {us},jc xs us->jc ys us->xs=ys
 |_,_,_,.nil,.nil=>rfl
 |_,_,_,.cons r t,.cons r' t'=>by rw[r.inj r',jc.inj t t']
section
variable {X:Cx}{gI:List (Addr×Obj)}{σ:St}{H:Hp}{s:Shared}{a:Addr}{xs ys:List V}
def mz.of{K:W.Frag}(h:H a=some (.lst xs)):mz K H a xs:=.inl (.inl h)
def oK.of{K:W.Frag}(h:H a=some (.tup xs)):oK K H a xs:=.inl (.inl h)
def iG.list(I:iG X gI σ H s)(h:mz X.K H a xs):∃its:List Value,jc xs its/\PlainL s.heap a its.toArray/\xs.length<=sizeLine:=by
 rcases h with h|⟨o,its,n,b,d,f,c,g,r⟩
 .obtain⟨z,its,n,r,e⟩:=h.ok I.hok;exact⟨its,r,⟨_,n,e,rfl,rfl,rfl⟩,z⟩
 .refine⟨its.toList,r,⟨o,n,I.kIn a o b,d,f,by simpa using c⟩,?_⟩;have e:=r.length;simp only[bB]at e;omega
def iG.tuple(I:iG X gI σ H s)(h:oK X.K H a xs):∃its:List Value,jc xs its/\IsTup s.heap a its.toArray/\xs.length<=sizeLine:=by
 rcases h with h|⟨o,its,n,b,d,c,f,r⟩
 .obtain⟨z,its,r,p⟩:=h.ok I.hok;exact⟨its,r,p.tup,z⟩
 .refine⟨its.toList,r,⟨o,I.kIn a o b,d,n,by simpa using c⟩,?_⟩;have e:=r.length;simp only[bB]at e;omega
def iG.list_inj(I:iG X gI σ H s)(h:mz X.K H a xs)(j:mz X.K H a ys):xs=ys:=by
 obtain⟨c,r,⟨o,n,e,_,_,d⟩,_⟩:=I.list h;obtain⟨b,k,⟨l,m,g,_,_,f⟩,_⟩:=I.list j;rw[e]at g;cases g;rw[d]at f;injection f with i _;have:c=b:=by simpa using congrArg Array.toList i
 subst this;exact r.inj k
def iG.tuple_inj(I:iG X gI σ H s)(h:oK X.K H a xs)(j:oK X.K H a ys):xs=ys:=by
 obtain⟨c,r,⟨o,e,_,n,d⟩,_⟩:=I.tuple h;obtain⟨b,k,⟨l,g,_,m,f⟩,_⟩:=I.tuple j;rw[e]at g;cases g;rw[d]at f;injection f with i _;have:c=b:=by simpa using congrArg Array.toList i
 subst this;exact r.inj k
end
noncomputable abbrev Cx.wish(X:Cx)(E:Value->Shared->Prop):Cx:={X with xe:=E}
abbrev Cx.nox(X:Cx):Cx:=X.wish λ_ _=>False
def Cx.Ok.wish{X:Cx}(ok:X.Ok) E:(X.wish E).Ok:=⟨ok.mod,ok.kind,ok.glob,ok.blt,ok.above,ok.inj,ok.has,ok.cab,ok.hd,ok.frames,ok.stk,ok.exf,ok.bs,ok.bsz,ok.noex,ok.exfs,ok.funs,ok.frf,ok.tab⟩
def Cx.Ok.unwish{X:Cx}(ok:(X.wish E).Ok):X.Ok:=⟨ok.mod,ok.kind,ok.glob,ok.blt,ok.above,ok.inj,ok.has,ok.cab,ok.hd,ok.frames,ok.stk,ok.exf,ok.bs,ok.bsz,ok.noex,ok.exfs,ok.funs,ok.frf,ok.tab⟩
section
variable {X:Cx}{gI:List (Addr×Obj)}{σ:St}{H:Hp}{s:Shared}{E:Value->Shared->Prop}
def iG.wish(I:iG X gI σ H s) E:iG (X.wish E) gI σ H s:=⟨I.ok.wish E,I.os,I.bare,I.base,I.loc,I.cell,I.free,I.freeC,I.pin,I.hok,I.len⟩
def iG.unwish(I:iG (X.wish E) gI σ H s):iG X gI σ H s:=⟨I.ok.unwish,I.os,I.bare,I.base,I.loc,I.cell,I.free,I.freeC,I.pin,I.hok,I.len⟩
def SP.unwish(h:SP (X.wish E) gI D f s'):SP X gI D f s':=by
 cases f with
 |next=>obtain⟨a,b,I,q⟩:=h;exact⟨a,b,I.unwish,q⟩
 |brk=>obtain⟨a,b,I,q⟩:=h;exact⟨a,b,I.unwish,q⟩
 |cont=>obtain⟨a,b,I,q⟩:=h;exact⟨a,b,I.unwish,q⟩
 |ret u=>obtain⟨v,a,b,I,r,q⟩:=h;exact⟨v,a,b,I.unwish,r,q⟩
def Ek.nox{st:List Stmt}(h:Ek X.nox st t):Ek X st t:=λgI s σ H D I hw=>wpAny_mono (h gI s σ H D (I.wish _) hw) (λ_ _ q=>q.unwish) λ_ _ z=>False.elim z
end
section
variable {X:Cx}{st:Stmt}{rq:List Stmt}{t u:TS}{e:Expr}{te:TE}{pos:Pos}
def vR:TS:=λD a H=>D.nx a H
def vB(t u:TS):TS:=λD a H=>t {D with nx:=u D} a H
def ya:Ek X [] vR:=λ_ _ a H _ I h=>wpAny_execs_nil ⟨a,H,I,h⟩
def pN(d:PS X st t)(c:Ek X rq u):Ek X (st::rq) (vB t u):=by
 intro b s k H D I h;refine wpAny_execs_cons (kS (d b s k H {D with nx:=u D} I h) λf g q=>?_);cases f with
 |next=>obtain⟨a,j,i,q⟩:=q;exact c b g a j D i q
 |ret v=>exact q
 |brk=>exact q
 |cont=>exact q
def yo(b:PS X st t):Ek X [st] t:=by
 intro a s c H D I h;refine wpAny_execs_cons (kS (b a s c H D I h) λf d q=>?_);cases f with
 |next=>exact wpAny_execs_nil q
 |ret v=>exact q
 |brk=>exact q
 |cont=>exact q
def iG.quiet(I:iG X gI σ H s):interactive X.env=false:=by simp[interactive,I.ok.kind]
def qR(te:TE):TS:=λD a H=>te a H λ_ b=>D.nx a b
def vL(c:PE X e te)(d:swapsWith e none pos.line X.env=pure false:=by rfl):PS X (.Expr e pos) (qR te):=by intro b s a H D I h;exact wpAny_Expr_any (kS (c b s a H _ I h) λv s1 ⟨x,H1,I1,r1,q1⟩=>⟨a,H1,I1,q1⟩) I.quiet d
def xU(te:TE):TS:=λD a H=>te a H D.rt
def Ak(c:PE X e te):PS X (.Return (some e) pos) (xU te):=by intro b s a H D I h;exact wpAny_Return_some (kS (c b s a H _ I h) λv s1 ⟨x,H1,I1,r1,q1⟩=>⟨x,a,H1,I1,r1,q1⟩)
def CD(c:TT)(t u:TS):TS:=λD a H=>c a H λb d=>if b=true then t D a d else u D a d
def HM(k:PT X c tc)(i:Ek X a t)(j:Ek X b u):PS X (.If c a b pos) (CD tc t u):=by
 intro f s g H D I h;refine wpAny_If (kS (k f s g H _ I h) λd s1 ⟨H1,I1,q1⟩=>?_);cases d with
 |true=>exact i f s1 g H1 D I1 q1
 |false=>exact j f s1 g H1 D I1 q1
def GR:TS:=λ_ _ _=>False
def L4:PS X st GR:=λ_ _ _ _ _ _ h=>h.elim
end
abbrev TG:=V->St->Hp->(St->Hp->Prop)->Prop
abbrev NM:=List V->St->Hp->(St->Hp->Prop)->Prop
def PG(X:Cx)(target:Expr)(t:TG):Prop:=
 ∀(b:List (Addr×Obj)) (s:Shared) (d:St) (H:Hp) (v:V) (u:Value) (Q:St->Hp->Prop),iG X b d H s->jD v u->t v d H Q->
  wpAny (model X.prog X.w) X.A (assign target X.env u) (λ_ e=>∃a c,iG X b a c e/\Q a c) X.xe s
def Uz(X:Cx)(ts:List Expr)(t:NM):Prop:=
 ∀(b:List (Addr×Obj)) (s:Shared) (f:St) (H:Hp) (c:List V) (d:List Value) (Q:St->Hp->Prop),iG X b f H s->jc c d->t c f H Q->
  wpAny (model X.prog X.w) X.A (assignInOrder ((assignEach ts X.env).map (·.2)) d) (λ_ g=>∃a e,iG X b a e g/\Q a e) X.xe s
abbrev VL:=V->V->V->Hp->(Hp->Prop)->Prop
def VG(X:Cx)(t:VL):Prop:=
 ∀(a:List (Addr×Obj)) (s:Shared) (d:St) (H:Hp) (o i v:V) (b e u:Value) (Q:Hp->Prop),iG X a d H s->jD o b->jD i e->jD v u->t o i v H Q->
  wpAny (model X.prog X.w) X.A (setItem b e u) (λ_ f=>∃c,iG X a d c f/\Q c) X.xe s
section
variable {X:Cx}{pos:Pos}
def j9(i:Nat):TG:=λv a H Q=>Q (a.set i (some v)) H
def HD(c:X.N.Nodup)(d:X.N[i]? = some x)(e:HR X.env.scope x)(a:X.fn x=true\/X.env.scope.names.lookup x=some .local:=by first|exact .inl rfl|exact .inr rfl|assumption):PG X (.Name x pos) (j9 i):=by intro f s j H v u Q I r h;exact wpAny_assign_Name (vz I c d e r (λg b=>⟨_,H,b,h⟩) a)
def IL:NM:=λa b H Q=>a=[]/\Q b H
def Ah(t:TG)(u:NM):NM:=λb d H Q=>∃v r,b=v::r/\t v d H λa c=>u r a c Q
def Io:Uz X [] IL:=by intro b s a H c d Q I r h;obtain⟨e,h⟩:=h;subst e;cases r;exact assignInOrder_nil ⟨a,H,I,h⟩
theorem Eh(c:PG X e t)(b:Uz X es u)
  (g:(assignEach (e::es) X.env).map (·.2)=assign e X.env::(assignEach es X.env).map (·.2):=by rfl):Uz X (e::es) (Ah t u):=by
 intro a s f H i j Q I r h;obtain⟨v,k,d,h⟩:=h;subst d;cases r with
 |cons r rr=>rw[g];refine assignInOrder_cons (kS (c a s f H _ _ _ I r h) λ_ s1 ⟨σ1,H1,I1,q1⟩=>?_);exact b a s1 σ1 H1 _ _ Q I1 rr q1
def Ji(K:W.Frag)(n:Nat)(t:NM):TG:=λv c H Q=>∃a b,v=.ref a/\oK K H a b/\b.length=n/\t b c H Q
def Me(w:X.calm=true)(h:Uz X es t)
  (m:(assignEach es X.env).length=n:=by rfl) (c:(assignEach es X.env).findIdx? (·.1)=none:=by rfl):PG X (.Tuple es k pos) (Ji X.K n t):=by
 intro l s g H v u Q I r hw;obtain⟨a,x,z,f,i,hw⟩:=hw;subst z;cases r;obtain⟨y,d,p,B⟩:=I.tuple f;refine assign_Tuple_tuple (I.ok.hd w) p (by simp[m,<-i,d.length]) c λA j=>?_;have q:=I.kept (t':=s.toks) λb o e=>j b o (aM (aL e)) e;exact h l _ g H x _ Q q (by simpa using d) hw
def R7(to b:TE)(t:VL):TG:=λv a H Q=>to a H λo c=>b a c λi e=>t o i v e λd=>Q a d
def RG(e:PE X o to)(d:PE X i ti)(f:VG X t)
  (c:∀v,assign (.Subscript o i pos) X.env v=(do
   let ov <-holding [v] (eval o X.env)
   let iv <-holding [v,ov] (eval i X.env)
   standAt pos
   holding [v,ov,iv] (setItem ov iv v)
   release [v,ov,iv] []):=by intro _;rfl):PG X (.Subscript o i pos) (R7 to ti t):=by
 intro b s a H v u Q I r h;rw[c];refine ao (wpAny_holding (kS (e b s a H _ I h) λov s1 ⟨x,H1,I1,r1,q1⟩=>?_));refine ao (wpAny_holding (kS (d b s1 a H1 _ I1 q1) λiv s2 ⟨y,H2,I2,r2,q2⟩=>?_));refine ao (wpAny_standAt (ao (wpAny_holding (kS (f b s2 a H2 x y v ov iv u _ I2 r1 r2 r q2) λ_ s3 ⟨H3,I3,q3⟩=>?_))));exact wpAny_release ⟨a,H3,I3,q3⟩
def nW(c:TE)(g:TG):TS:=λD a H=>c a H λx b=>g x a b D.nx
def Np(c:PE X e te)(f:PG X tg g)(i:swapsWithSole [tg] e pos.line X.env=pure false:=by rfl)(hw:swappedStores [tg] e X.env=pure none:=by rfl)
  (d:(assignEach [tg] X.env).map (·.2)=[assign tg X.env]:=by rfl):PS X (.Assign [tg] e pos) (nW te g):=by
 intro a s b H D I h;refine wpAny_Assign_stores (kS (c a s b H _ I h) λv s1 ⟨x,H1,I1,r1,q1⟩=>?_) i hw;rw[d];exact kS (f a s1 b H1 x v _ I1 r1 q1) λ_ j q=>q
def y9(f:X.N.Nodup)(g:X.N[i]? = some x)(l:HR X.env.scope x)(b:PE X e te)(k:swapsWith e (some (.Name x pos')) pos.line X.env=pure false:=by rfl)(c:X.fn x=true\/X.env.scope.names.lookup x=some .local:=by first|exact .inl rfl|exact .inr rfl|assumption) :
  PS X (.Assign [.Name x pos'] e pos) (nW te (j9 i)):=by
 intro a s j H D I h;refine wpAny_Assign_Name (kS (b a s j H _ I h) λv s1 ⟨y,H1,I1,r1,q1⟩=>?_) k;exact vz I1 f g l r1 (λm d=>⟨_,H1,d,q1⟩) c
def TB(i j:Nat)(c:TA):TS:=λD a H=>c a H λb d=>∃v w,b=[v,w]/\D.nx ((a.set i (some v)).set j (some w)) d
theorem RB{kt k2 pt2}(K:X.calm=true)(l:X.N.Nodup)(J:X.N[i]? = some x)(Q:X.N[j]? = some y)(k:i≠j)
  (n:X.env.scope.names.lookup x=some .local) (u:X.env.scope.names.lookup y=some .local) (B:PA X [a,b] ta)
  (hw:swappedStores [.Tuple [.Name x px,.Name y py] kt pt] (.Tuple [a,b] k2 pt2) X.env=pure (some [x,y]))
  (E:swapsWithSole [.Tuple [.Name x px,.Name y py] kt pt] (.Tuple [a,b] k2 pt2) pos.line X.env=pure false:=by rfl) :
  PS X (.Assign [.Tuple [.Name x px,.Name y py] kt pt] (.Tuple [a,b] k2 pt2) pos) (TB i j ta):=by
 intro r s m H D I h;rw[exec_Assign_arm];refine ao (wpAny_standAt ?_);rw[E];refine ao (ak ?_);rw[aR (by decide)];refine ao (Tuple_ (kS (B _ r s m H _ I h) λus s1 ⟨vs,H1,I1,r1,f⟩=>?_));obtain⟨v,w,P,f⟩:=f;subst P;obtain⟨c,d,rfl,rv,rw'⟩:∃c d,us=[c,d]/\jD v c/\jD w d:=by
  cases r1 with
  |cons p q=>
   cases q with
   |cons p' q'=>cases q';exact⟨_,_,rfl,p,p'⟩
 refine wpAny_newObj_type ?_ (by show 2<=sizeLine;decide);have C:iG X r m H1 {s1 with heap:=s1.heap.push {cls:=.type "tuple",data:=.seq [c,d].toArray}}:=I1.kept λb o e=>ae _ e;rw[hw];refine ao (ak ?_);show wpAny (model X.prog X.w) X.A (do rule "assign.swapped-stores";let items <-unpackItems (.ref s1.heap.objs.size) 2 none;assignInOrder [λv=>bindName X.env y v,λv=>bindName X.env x v] items.reverse;pure Flow.next) _ _ _;refine ao (wpAny_rule (ao (unpackItems_tuple (items:=#[c,d]) (I.ok.hd K) (IsTup.new s1.heap _) λR g=>?_)));have F:=C.kept (t':=s1.toks) λb o e=>g b o (aM (aL e)) e;refine ao (assignInOrder_cons (wpAny_bindName (vz F l Q (.inl u) rw' (λS L=>?_) (.inr u))));refine assignInOrder_cons (wpAny_bindName (vz L l J (.inl n) rv (λU z=>assignInOrder_nil (ak ?_)) (.inr n)));rw[List.set_comm _ _ (Ne.symm k)]at z;exact⟨_,H1,z,f⟩
end
section
variable {X:Cx}{pos:Pos}
def Gn(c:TT)(h:TS):TS:=λD a H=>∃W:Nat->St->Hp->Prop,(∃m,W m a H)/\∀m a H,W m a H->
 c a H λb e=>if b=true then ∃N:St->Hp->Prop,(∀d f,N d f->∃g,g<m/\W g d f)/\h {D with nx:=N,ct:=N,bk:=D.nx} a e else D.nx a e
def K7(z:PassesOwn (model X.prog X.w) X.A X.env X.xe)(Q:PT X c tc)(L:Ek X body tb):PS X (.While c body [] pos) (Gn tc tb):=by
 intro o s F H D I h;obtain⟨W,⟨J,C⟩,g⟩:=h;refine wpAny_While (codeAny_whileLoop (λn E=>∃e x,iG X o e x E/\W n e x) ?_ J ⟨F,H,I,C⟩);rintro n B ⟨d,y,P,K⟩;refine wpAny_passesOwn z (kS (Q o B d y _ P (g n d y K)) λb s2 ⟨H2,I2,j⟩=>?_);cases b with
 |true=>
  obtain⟨N,u,j⟩:=j;rw[aQ rfl];refine wpAny_passesOwn z (kS (L o s2 d H2 _ I2 j) λf R k=>?_);cases f with
  |next=>obtain⟨a,i,l,q⟩:=k;obtain⟨m,p,r⟩:=u a i q;exact⟨m,p,a,i,l,r⟩
  |cont=>obtain⟨a,i,l,q⟩:=k;obtain⟨m,p,r⟩:=u a i q;exact⟨m,p,a,i,l,r⟩
  |brk=>exact k
  |ret v=>exact k
 |false=>rw[aR aH];exact wpAny_execs_nil ⟨d,H2,I2,j⟩
end
structure It where
 go:Nat->Hp->Prop
 yld:Nat->Hp->V->Hp->Prop
 stop:Nat->Hp->Prop
def uO(X:Cx)(a:List (Addr×Obj))(H:Hp)(b:Addr):Prop:=H b=none/\b≠X.env.locals/\b∉X.fs/\(b∈X.ex\/X.s₀.heap.objs.size<=b)/\(∀x c,X.env.cells.lookup x=some c->c≠b)/\∀p∈X.pn++a,p.1≠b
def iG.fpOk(I:iG X gI σ H s)(a:s.heap.objs.size<=b)(f:H' b=none):uO X gI H' b:=by
 refine⟨f,bC (aE I.lt a),I.nofs a,.inr (aN I.sz a),λx c e z=>?_,λp d z=>?_⟩
 .obtain⟨v,q⟩:=I.cell x c e;exact absurd (aE q.lt (by rw[z];exact a)) (a9 _)
 .exact absurd (aE (aL (I.pin p d).1) (by rw[z];exact a)) (a9 _)
structure ED(P:Program)(w:World)(K:W.Frag)(tg:Expr)(J:It)(fp:List Addr)(it:Addr)(tn:Nat->Heap->Prop):Prop where
 mem:it∈fp
 obj:∀i h,tn i h->∀b∈fp,∃o,h.get? b=some o/\∀v,o.data≠.cell v
 keep:∀i h h',tn i h->(∀b∈fp,∀o,h.get? b=some o->h'.get? b=some o)->tn i h'
 item:∀(X:Cx),X.prog=P->X.w=w->X.K=K->X.calm=true->∀(i:Nat) (gI:List (Addr×Obj)) (s:Shared) (σ:St) (H:Hp) (E:Value->Shared->Prop),iG X gI σ H s->(∀b∈fp,uO X gI H b)->tn i s.heap->J.go i H->
  wpAny (model P w) X.A (pyNext (.ref it)) (λr s1=>∃u,r=some u/\
   wpAny (model P w) X.A (letOwnedTupleGo tg (.ref it) u) (λ_ s2=>∃x H',iG X gI σ H' s2/\jD x u/\J.yld i H x H'/\tn (i+1) s2.heap/\∀b∈fp,H' b=none) E s1) E s
 done:∀(X:Cx),X.prog=P->X.w=w->X.K=K->X.calm=true->∀(i:Nat) (gI:List (Addr×Obj)) (s:Shared) (σ:St) (H:Hp) (E:Value->Shared->Prop),iG X gI σ H s->(∀b∈fp,uO X gI H b)->tn i s.heap->J.stop i H->
  wpAny (model P w) X.A (pyNext (.ref it)) (λr s1=>r=none/\iG X gI σ H s1) E s
 self:∀(A:Around) (i:Nat) (s:Shared) (Q:Value->Shared->Prop) (E:Value->Shared->Prop),tn i s.heap->Q (.ref it) s->wpAny (model P w) A (pyIter (.ref it)) Q E s
abbrev TI:=St->Hp->(It->Hp->Prop)->Prop
def WW(X:Cx)(d:List (Addr×Obj))(i:St)(h:Expr)(R:It->Hp->Prop)(a:Value)(g:Shared):Prop:=∃(it:Addr) (e:List Addr) (f:Nat->Heap->Prop) (J:It) (c:Hp),a=.ref it/\iG X d i c g/\ED X.prog X.w X.K h J e it f/\f 0 g.heap/\(∀b∈e,uO X d c b)/\R J c
def PI(X:Cx)(f a:Expr)(e:TI):Prop:=
 ∀(c:List (Addr×Obj)) (s:Shared) (b:St) (H:Hp) (R:It->Hp->Prop),iG X c b H s->e b H R->
  wpAny (model X.prog X.w) X.A (eval a X.env) (λv d=>wpAny (model X.prog X.w) X.A (pyIter v) (WW X c b f R) X.xe d) X.xe s
theorem Hs{M:Model}{A:Around}{E:Value->Shared->Prop}{s:Shared}{b:Expr}{it:Addr}{u:Value}{o:Obj}{n:String}{vs:Array Value}{Q:Unit->Shared->Prop}(d:s.heap.get? it=some o)(e:o.cls=.type n)(f:o.data=.fields vs)
    (c:["enumerate", "zip", "dict_itemiterator", "dict_reverseitemiterator", "odict_iterator", "itertools.zip_longest", "itertools.pairwise"].contains n=false) (a:Q () s):wpAny M A (letOwnedTupleGo b (.ref it) u) Q E s:=by
  unfold letOwnedTupleGo;cases b<;>first
    |exact ak a
    | (cases u<;>first
        |exact ak a
        | (refine ao (wpAny_load d ?_)
           rw[e,f]
           show wpAny M A (if (["enumerate", "zip", "dict_itemiterator", "dict_reverseitemiterator", "odict_iterator", "itertools.zip_longest", "itertools.pairwise"].contains n&&vs[0]? == some (rawInt _))=true then _ else _) Q E s
           rw[aR (by intro h;rw[c,Bool.false_and]at h;cases h)]
           exact ak a))
noncomputable def WK(K:W.Frag)(a:Addr):It:=⟨λi H=>∃b x,mz K H a b/\b[i]? = some x,λi H x c=>c=H/\∀b,mz K H a b->b[i]? = some x,λi H=>∃b,mz K H a b/\b.length<=i⟩
noncomputable def Wn(K:W.Frag)(a:Addr):It:=⟨λi H=>∃b x,oK K H a b/\b[i]? = some x,λi H x c=>c=H/\∀b,oK K H a b->b[i]? = some x,λi H=>∃b,oK K H a b/\b.length<=i⟩
noncomputable def U5(b:Int)(n:Nat):It:=⟨λi _=>i<n,λi H x a=>a=H/\x=.int (b+i),λi _=>n<=i⟩
def JL{K:W.Frag} a it:ED P w K tg (WK K a) [it] it (λi h=>h.IsListIter it a i) where
 mem:=by simp
 obj:=λi h f b g=>by
  have e:b=it:=by simpa using g
  subst e;obtain⟨o,e,c,d⟩:=f;exact⟨o,e,λv z=>by rw[d]at z;cases z⟩
 keep:=λi h N f k=>f.at λo e=>k it (by simp) o e
 item:=by intro X n hw F Q i Y s S H E I l f A;subst n hw F;obtain⟨xs,x,m,q⟩:=A;obtain⟨J,L,p,hz⟩:=I.list m;obtain⟨u,hu,ru⟩:=L.get q;obtain⟨r,D,Z,C,y,B⟩:=l it (by simp);refine wpAny_pyNext_list_item f p.isList (by simpa using hu) λN j U=>?_;have I1:=I.turned (t':=s.toks) (λb o g e=>(U.2 b g).trans e) r D C y B;obtain⟨o,e,c,d⟩:=id j;exact⟨u,rfl,Hs e c d (by decide) ⟨x,H,I1,ru,⟨rfl,λys hy=>by rw[I.list_inj hy m];exact q⟩,j,λb g=>(l b g).1⟩⟩
 done:=by intro X n hw F Q i Y s S H E I l f A;subst n hw F;obtain⟨xs,m,q⟩:=A;obtain⟨J,L,p,hz⟩:=I.list m;obtain⟨r,D,Z,C,y,B⟩:=l it (by simp);have hl:=L.length;exact wpAny_pyNext_list_end (I.ok.hd Q) f p.isList (by simp;omega) λN R=>⟨rfl,I.turned (λb o g e=>R b o g e) r D C y B⟩
 self:=λ_ _ _ _ _ f h=>wpAny_pyIter_listiter f h
def Gq{K:W.Frag} a it:ED P w K tg (Wn K a) [it] it (λi h=>h.IsTupleIter it a i) where
 mem:=by simp
 obj:=λi h f b g=>by
  have e:b=it:=by simpa using g
  subst e;obtain⟨o,e,c,d⟩:=f;exact⟨o,e,λv z=>by rw[d]at z;cases z⟩
 keep:=λi h N f k=>f.at λo e=>k it (by simp) o e
 item:=by intro X n hw F Q i Y s S H E I l f A;subst n hw F;obtain⟨xs,x,m,q⟩:=A;obtain⟨J,L,p,hz⟩:=I.tuple m;obtain⟨u,hu,ru⟩:=L.get q;obtain⟨r,D,Z,C,y,B⟩:=l it (by simp);refine wpAny_pyNext_tuple_item f (p) (by simpa using hu) λN j U=>?_;have I1:=I.turned (t':=s.toks) (λb o g e=>(U.2 b g).trans e) r D C y B;obtain⟨o,e,c,d⟩:=id j;exact⟨u,rfl,Hs e c d (by decide) ⟨x,H,I1,ru,⟨rfl,λys hy=>by rw[I.tuple_inj hy m];exact q⟩,j,λb g=>(l b g).1⟩⟩
 done:=by intro X n hw F Q i Y s S H E I l f A;subst n hw F;obtain⟨xs,m,q⟩:=A;obtain⟨J,L,p,hz⟩:=I.tuple m;obtain⟨r,D,Z,C,y,B⟩:=l it (by simp);have hl:=L.length;exact wpAny_pyNext_tuple_end (I.ok.hd Q) f (p) (by simp;omega) λN R=>⟨rfl,I.turned (λb o g e=>R b o g e) r D C y B⟩
 self:=λ_ _ _ _ _ f h=>wpAny_pyIter_tupleiter f h
def GV{K:W.Frag} it lo n:ED P w K tg (U5 lo n) [it] it (λi h=>IsRangeIter h it (lo+(i:Nat)*1) ((n:Int)-(i:Nat)) 1) where
 mem:=by simp
 obj:=λi h a b c=>by
  have e:b=it:=by simpa using c
  subst e;exact⟨_,a,λv z=>by have J:=z;cases J⟩
 keep:=λi h l a k=>k it (by simp) _ a
 item:=by intro X g hw y x i B s A H E I f a p;subst g hw y;obtain⟨j,u,F,r,m,q⟩:=f it (by simp);have W:=Walks.range (prog:=X.prog) (w:=X.w) (I.ok.hd x) it lo 1 n;refine W.item i s _ _ p a λv l N hv d C=>?_;obtain⟨t,rfl⟩:=hv;have L:iG X B A H {s with heap:=l,toks:=N}:=I.turned (λb o c e=>C b o (by simpa using c) e) j u r m q;refine⟨_,rfl,Hs d rfl rfl (by decide) ⟨.int (lo+i),H,L,⟨t,?_⟩,⟨rfl,rfl⟩,d,λb c=>(f b c).1⟩⟩;rw[bD]
 done:=by intro X g hw y x i B s A H E I f a p;subst g hw y;obtain⟨j,u,F,r,m,q⟩:=f it (by simp);exact wpAny_pyNext_range_end (I.ok.hd x) a (by have:n<=i:=p;omega) λl D=>⟨rfl,I.turned (λb o c e=>D b o c e) j u r m q⟩
 self:=λ_ _ _ _ _ a h=>wpAny_pyIter_rangeiter a h
end L2
namespace L2
open PySem PySem.Spec PyProof.Rows
section
variable {X:Cx}{tg:Expr}
def L5(K:W.Frag)(c:TE):TI:=λd H R=>c d H λx b=>∃a,x=.ref a/\(∃e,mz K b a e)/\R (WK K a) b
def TU(K:W.Frag)(c:TE):TI:=λd H R=>c d H λx b=>∃a,x=.ref a/\(∃e,oK K b a e)/\R (Wn K a) b
def Qr(f:PE X l tl):PI X tg l (L5 X.K tl):=by
 intro g s d H R I h;refine kS (f g s d H _ I h) λv s1 ⟨x,H1,I1,r1,q1⟩=>?_;obtain⟨a,e,⟨k,c⟩,q⟩:=q1;subst e;cases r1;obtain⟨j,m,p,n⟩:=I1.list c;refine wpAny_pyIter_list p.isList ?_;refine⟨s1.heap.objs.size,[s1.heap.objs.size],_,_,H1,rfl,I1.kept λb o e=>ae _ e,JL a _,⟨_,ar _ rfl,rfl,rfl⟩,λb i=>?_,q⟩;have e:b=s1.heap.objs.size:=by simpa using i
 subst e;exact I1.fpOk (aK _) (I1.hok.fresh (aK _))
def T9(f:PE X l tl):PI X tg l (TU X.K tl):=by
 intro g s d H R I h;refine kS (f g s d H _ I h) λv s1 ⟨x,H1,I1,r1,q1⟩=>?_;obtain⟨a,e,⟨k,c⟩,q⟩:=q1;subst e;cases r1;obtain⟨j,m,p,n⟩:=I1.tuple c;refine wpAny_pyIter_tuple (p) ?_;refine⟨s1.heap.objs.size,[s1.heap.objs.size],_,_,H1,rfl,I1.kept λb o e=>ae _ e,Gq a _,⟨_,ar _ rfl,rfl,rfl⟩,λb i=>?_,q⟩;have e:b=s1.heap.objs.size:=by simpa using i
 subst e;exact I1.fpOk (aK _) (I1.hok.fresh (aK _))
def KR{a c:Int}(I:iG X gI σ H s)(g:-(2 ^ 62)<=a)(f:a<2 ^ 62)(k:-(2 ^ 62)<=c)(j:c<2 ^ 62)
  (q:R (U5 a (c-a).toNat) H):wpAny (model X.prog X.w) X.A (pyIter (.ref s.heap.objs.size)) (WW X gI σ tg R) E {s with heap:=s.heap.push {cls:=.type "range",data:=.fields #[.int a t,.int c u,.int 1 v]},toks:=tk}:=by
 refine wpAny_pyIter_range (IsRange.new ..) (small_one g f k j) ?_;have d:iG X gI σ H {s with heap:=s.heap.push {cls:=.type "range",data:=.fields #[.int a t,.int c u,.int 1 v]},toks:=tk}:=I.kept λb o e=>ae _ e;refine⟨(s.heap.push {cls:=.type "range",data:=.fields #[.int a t,.int c u,.int 1 v]}).objs.size,[(s.heap.push {cls:=.type "range",data:=.fields #[.int a t,.int c u,.int 1 v]}).objs.size],_,_,H,rfl,
  d.kept λb o e=>ae _ e,GV _ a (c-a).toNat,?_,λb l=>?_,q⟩
 .have h:a+((0:Nat):Int)*1=a:=by simp
  have i:(((c-a).toNat:Nat):Int)-((0:Nat):Int)=Builtin.Range.rangeSize a c 1:=by rw[rangeSize_one];split<;>omega
  rw[h,i];exact ar _ rfl
 .have e:b=(s.heap.push {cls:=.type "range",data:=.fields #[.int a t,.int c u,.int 1 v]}).objs.size:=by simpa using l
  subst e;exact d.fpOk (aK _) (d.hok.fresh (aK _))
def KU(b:TA):TI:=λd H R=>b d H λa c=>∃j:Int,a=[.int j]/\-(2 ^ 62)<=j/\j<2 ^ 62/\R (U5 0 j.toNat) c
def J2(f:Gl X "range")(g:X.mg "range" = none)(d:PA X [a] ta)(l:starEach [a] X.env=[(false,eval a X.env)]:=by rfl):PI X tg (.Call (.Name "range" p) [a] [] pos) (KU ta):=by
 intro c s k H R I h;refine Call_ (rH I f g boot_range (PyProof.Rows.callWith_type1 (kS (d pos c s k H _ I h) λus s1 ⟨vs,H1,I1,r1,b⟩=>?_) l rfl));obtain⟨j,e,b,i,q⟩:=b;subst e;cases r1 with
 |cons r rr=>cases rr;obtain⟨t,rfl⟩:=r;exact call_range_1 (KR I1 (by omega) (by omega) b i (by simpa using q))
def Kq(f:TI)(g:TG)(j:TS):TS:=λD a H=>f a H λJ k=>∃W:Nat->Nat->St->Hp->Prop,(∃m,W 0 m a k)/\∀i m a H,W i m a H->
 (J.stop i H/\D.nx a H)\/(J.go i H/\∃N:St->Hp->Prop,(∀b c,N b c->∃e,e<m/\W (i+1) e b c)/\∀x c,J.yld i H x c->g x a c λd h=>j {D with nx:=N,ct:=N,bk:=D.nx} d h)
noncomputable def zI(a:List Addr)(h:Heap):List (Addr×Obj):=a.filterMap λb=>(h.get? b).map λo=>(b,o)
def rJ(a:b∈fp)(e:h.get? b=some o):(b,o)∈zI fp h:=bE.mpr ⟨b,a,by rw[e];rfl⟩
def J3(c:p∈zI fp h):p.1∈fp/\h.get? p.1=some p.2:=by
 obtain⟨b,d,e⟩:=bE.mp c;cases q:h.get? b with
 |none=>rw[q]at e;cases e
 |some o=>rw[q]at e;have a:=Option.some.inj e;subst a;exact⟨d,q⟩
def iG.pinned(I:iG X gI σ H s)(f:∀b∈fp,uO X gI H b)(h:∀b∈fp,∃o,s.heap.get? b=some o/\∀v,o.data≠.cell v):iG X (gI++zI fp s.heap) σ H s:=I.pins_of λp i=>(ai.mp i).elim (λz=>I.pin p (bF _ z)) λz=>by obtain⟨a,e⟩:=J3 z;obtain⟨g,k,j,_⟩:=f p.1 a;obtain⟨o,c,d⟩:=h p.1 a;rw[e]at c;cases c;exact⟨e,g,k,j,d⟩
def iG.unpinned(I:iG X (gI++pl) σ H s):iG X gI σ H s:=I.pins_of λp a=>I.pin p (bF _ (ax _ a))
theorem Mf(R:PassesOwn (model X.prog X.w) X.A X.env X.xe)(hc:X.calm=true)(hi:PI X tg iter wi)(hg:PG X tg g)(k:Ek X body tb)
  (hs:∀x,foldedSetIterable iter X.env x=pure x:=by intro _;rfl):PS X (.For tg iter body [] pos) (Kq wi g tb):=by
 intro C s σ H D I h;refine wpAny_For (kS (hi C s σ H _ I h) λv s1 h1=>kS h1 λitv s2 h2=>?_) hs;obtain⟨it,F,tn,J,H2,e,I2,T,U,f2,W,⟨m0,w0⟩,K⟩:=h2;subst e;have l:∀{z:Hp},(∀b∈F,z b=none)->∀b∈F,uO X C z b:=λhn b k=>⟨hn b k,(f2 b k).2⟩;refine codeAny_forLoop_any (λn s'=>∃i c z,iG X C c z s'/\tn i s'.heap/\(∀b∈F,z b=none)/\W i n c z) ?_ m0 ⟨0,σ,H2,I2,U,λb k=>(f2 b k).1,w0⟩;rintro n s3 ⟨i,p,S,I3,P,Q,w3⟩;rcases K i n p S w3 with⟨E,qn⟩|⟨go,N,hN,step⟩
 .refine wpAny_passesOwn R (kS (T.done X rfl rfl rfl hc i C s3 p S X.xe I3 (l Q) P E) λr s4 ⟨hr,I4⟩=>?_);subst hr;exact wpAny_execs_nil ⟨p,S,I4,qn⟩
 .refine wpAny_passesOwn R (kS (T.item X rfl rfl rfl hc i C s3 p S X.xe I3 (l Q) P go) λr s4 ⟨u,hr,h4⟩=>?_);subst hr;refine wpAny_passesOwn R (kS h4 λ_ s5 ⟨x,H5,I5,r5,y5,st5,fr5⟩=>?_);have Y:=I5.pinned (l fr5) (T.obj _ _ st5);refine wpAny_passesOwn R (kS (hg _ s5 p H5 x u _ Y r5 (step x H5 y5)) λ_ s6 ⟨σ6,H6,I6,q6⟩=>?_);refine wpAny_passesOwn R (kS (k _ s6 σ6 H6 _ I6 q6) λf Z B=>?_);have j:∀{a:St} {y:Hp},iG X (C++zI F s5.heap) a y Z->N a y->∃m,m<n/\∃i c z,iG X C c z Z/\tn i Z.heap/\(∀b∈F,z b=none)/\W i m c z:=λ{a y} q L=>by obtain⟨m',hm,w7⟩:=hN a y L;refine⟨m',hm,i+1,a,y,q.unpinned,T.keep _ _ _ st5 λb k o e=>(q.pin (b,o) (bF _ (bF _ (rJ k e)))).1,λb k=>?_,w7⟩;obtain⟨o,e,d⟩:=T.obj _ _ st5 b k;exact (q.pin (b,o) (bF _ (bF _ (rJ k e)))).2.1
  cases f with
  |next=>obtain⟨a,y,q,L⟩:=B;exact j q L
  |cont=>obtain⟨a,y,q,L⟩:=B;exact j q L
  |brk=>obtain⟨a,y,q,B⟩:=B;exact⟨a,y,q.unpinned,B⟩
  |ret v=>obtain⟨x7,a,y,q,r7,B⟩:=B;exact⟨x7,a,y,q.unpinned,r7,B⟩
end
end L2
namespace L2
open PySem PySem.Spec PyProof.Rows
abbrev R2:=V->V->Hp->VK->Prop
def rO(X:Cx)(f:Value->Value->Sem Value)(r:R2):Prop:=
 ∀(a:List (Addr×Obj)) (s:Shared) (b:St) (H:Hp) (x y:V) (v u:Value) (Q:VK),iG X a b H s->jD x v->jD y u->r x y H Q->
  wpAny (model X.prog X.w) X.A (f v u) (EP X a b Q) X.xe s
def Wh(X:Cx)(f:Value->Sem Value)(r:V->Hp->VK->Prop):Prop:=
 ∀(a:List (Addr×Obj)) (s:Shared) (b:St) (H:Hp) (x:V) (v:Value) (Q:VK),iG X a b H s->jD x v->r x H Q->
  wpAny (model X.prog X.w) X.A (f v) (EP X a b Q) X.xe s
def lR(X:Cx)(f:Value)(r:List V->Hp->VK->Prop):Prop:=
 ∀(a:List (Addr×Obj)) (s:Shared) (c:St) (H:Hp) (d:List V) (b:List Value) (Q:VK),iG X a c H s->jc d b->r d H Q->
  wpAny (model X.prog X.w) X.A (call f b) (EP X a c Q) X.xe s
def wL(r:R2)(b d:TE):TE:=λa H Q=>b a H λx c=>d a c λy e=>r x y e Q
def WE(r:V->Hp->VK->Prop)(a:TE):TE:=λc H Q=>a c H λx b=>r x b Q
def rI(C:Int->Int->Prop)(g:Int->Int->V):R2:=λx y H Q=>∃i j,x=.int i/\y=.int j/\C i j/\Q (g i j) H
def Fs(g:Int->Int->V):R2:=λx y H Q=>∃i j,x=.int i/\y=.int j/\Q (g i j) H
def rU(g:Int->V):V->Hp->VK->Prop:=λx H Q=>∃i,x=.int i/\Q (g i) H
section
variable {X:Cx}{a b c:Expr}{ta tb tc:TE}{pos:Pos}
def RX(l:PE X a ta)(m:PE X b tb){R:V->V->Hp->Prop}(I:iG X gI σ H s)
  (h:ta σ H λx j=>tb σ j λy d=>R x y d) {f:Value->Value->Sem Value}
  (k:∀v u i x y d,iG X gI σ d i->jD x v->jD y u->R x y d->wpAny (model X.prog X.w) X.A (f v u) Q X.xe i) :
  wpAny (model X.prog X.w) X.A (eval a X.env) (λv e=>wpAny (model X.prog X.w) X.A (eval b X.env) (λu g=>wpAny (model X.prog X.w) X.A (f v u) Q X.xe g) X.xe e) X.xe s:=by
 refine kS (l gI s σ H _ I h) λv s1 ⟨x,j,I1,r1,q1⟩=>?_;refine kS (m gI s1 σ j _ I1 q1) λu i ⟨y,d,I2,r2,q2⟩=>?_;exact k v u i x y d I2 r1 r2 q2
def MJ(k:rO X (binaryOp op) r)(d:PE X a ta)(i:PE X b tb):PE X (.BinOp a op b pos) (wL r ta tb):=by intro g s f H Q I h;exact wpAny_BinOp (RX d i I h λv u l x y j e n m q=>k g l f j x y v u Q e n m q)
def Vu(g:Wh X (unaryOp op) r)(f:PE X a ta):PE X (.UnaryOp op a pos) (WE r ta):=by intro d s e H Q I h;exact UnaryOp_ (kS (f d s e H _ I h) λv s1 ⟨x,H1,I1,r1,q1⟩=>g d s1 e H1 x v Q I1 r1 q1)
def V2{g:Int->Int->Int}
  (d:∀i j t u s Q E,C i j->Q (.int (g i j) s.toks) {s with toks:=s.toks+1}->wpAny (model X.prog X.w) X.A (f (.int i t) (.int j u)) Q E s) :
  rO X f (rI C λi j=>.int (g i j)):=by
 intro o s n H x y v u Q I m l h;obtain⟨i,j,rfl,rfl,k,q⟩:=h;obtain⟨t,rfl⟩:=m;obtain⟨e,rfl⟩:=l;exact d i j t e s _ _ k ⟨.int (g i j),H,I.tok _,⟨_,rfl⟩,q⟩
def VQ{g:Int->Int->Int}
  (d:∀i j t u s Q E,Q (.int (g i j) s.toks) {s with toks:=s.toks+1}->wpAny (model X.prog X.w) X.A (f (.int i t) (.int j u)) Q E s) :
  rO X f (Fs λi j=>.int (g i j)):=by
 intro n s m H x y v u Q I l k h;obtain⟨i,j,rfl,rfl,q⟩:=h;obtain⟨t,rfl⟩:=l;obtain⟨e,rfl⟩:=k;exact d i j t e s _ _ ⟨.int (g i j),H,I.tok _,⟨_,rfl⟩,q⟩
def Ou{g:Int->Int->Bool}
  (d:∀(i j:Int) (t u:Tok) (s:Shared) (Q:Value->Shared->Prop) (E:Value->Shared->Prop),Q (.bool (g i j)) s->wpAny (model X.prog X.w) X.A (f (.int i t) (.int j u)) Q E s) :
  rO X f (Fs λi j=>.bl (g i j)):=by
 intro n s m H x y v u Q I l k h;obtain⟨i,j,rfl,rfl,q⟩:=h;obtain⟨t,rfl⟩:=l;obtain⟨e,rfl⟩:=k;exact d i j t e s _ _ ⟨.bl (g i j),H,I,rfl,q⟩
def VA(i j:Int):Prop:=0<=j/\j<=1000000/\i.natAbs<2 ^ 64
def S5:rO X (binaryOp .Add) (Fs λi j=>.int (i+j)):=VQ λ_ _ _ _ _ _ _ q=>add_int q
def SI:rO X (binaryOp .Sub) (Fs λi j=>.int (i-j)):=VQ λ_ _ _ _ _ _ _ q=>sub_int q
def Pu:rO X (binaryOp .Mod) (rI (λ_ j=>j≠0) λi j=>.int (i.fmod j)):=V2 λ_ _ _ _ _ _ _ d q=>mod_int' d q
def Ui:rO X (binaryOp .Pow) (rI VA λi j=>.int (i ^ j.toNat)):=V2 λ_ _ _ _ _ _ _ d q=>pow_int_small d.1 d.2.1 d.2.2 q
def X7{g:Int->Int}
  (d:∀i t s Q E,Q (.int (g i) s.toks) {s with toks:=s.toks+1}->wpAny (model X.prog X.w) X.A (f (.int i t)) Q E s) :
  Wh X f (rU λi=>.int (g i)):=by
 intro j s k H x v Q I e h;obtain⟨i,rfl,q⟩:=h;obtain⟨t,rfl⟩:=e;exact d i t s _ _ ⟨.int (g i),H,I.tok _,⟨_,rfl⟩,q⟩
def T1:Wh X (unaryOp .USub) (rU λi=>.int (-i)):=X7 λ_ _ _ _ _ q=>neg_int q
end
section
variable {X:Cx}{a b c:Expr}{ta tb tc:TE}{pos:Pos}
def Li(I:iG X gI σ H s)(q:Q (.bl k) H)(e:k=k'):EP X gI σ Q (.bool k') s:=by subst e;exact⟨.bl k,H,I,rfl,q⟩
def tf:rO X (compareOp .Lt) (Fs λi j=>.bl (decide (i<j))):=Ou λ_ _ _ _ _ _ _ q=>lt_int q
def zP:rO X (compareOp .LtE) (Fs λi j=>.bl (decide (i<=j))):=Ou λ_ _ _ _ _ _ _ q=>le_int q
def An:rO X (compareOp .Gt) (Fs λi j=>.bl (decide (j<i))):=Ou λ_ _ _ _ _ _ _ q=>gt_int q
def DZ:rO X (compareOp .GtE) (Fs λi j=>.bl (decide (j<=i))):=Ou λ_ _ _ _ _ _ _ q=>ge_int q
def xj:rO X (compareOp .Is) (λx y H Q=>y=.non/\Q (.bl (decide (x=.non))) H):=by
 intro f s g H x y v u Q I d e h;obtain⟨rfl,q⟩:=h;cases e;refine is_none_gen (Li I q ?_);cases x<;>first
  | (cases d;rfl)
  | (obtain⟨t,rfl⟩:=d;rfl)
def p7:rO X (compareOp .IsNot) (λx y H Q=>y=.non/\Q (.bl (!decide (x=.non))) H):=by
 intro f s g H x y v u Q I d e h;obtain⟨rfl,q⟩:=h;cases e;refine isnot_none_gen (Li I q ?_);cases x<;>first
  | (cases d;rfl)
  | (obtain⟨t,rfl⟩:=d;rfl)
def wm b (h:op≠.In:=by decide) (d:op≠.NotIn:=by decide):behindInMarks op b=false:=by
 have f:(op==CmpOp.In)=false:=by cases op<;>first|rfl|exact absurd rfl h
 have e:(op==CmpOp.NotIn)=false:=by cases op<;>first|rfl|exact absurd rfl d
 cases b<;>simp[behindInMarks,f,e]
def NZ(l:rO X (compareOp op) r)(d:PE X a ta)(j:PE X b tb)(i:behindInMarks op b=false):PE X (.Compare a [op] [b] pos) (wL r ta tb):=by intro g s f H Q I h;exact wpAny_Compare1 (RX d j I h λv u m x y k e o n q=>l g m f k x y v u Q e o n q) i
def A1(t:TE):TT:=λe H Q=>t e H λx d=>∃k,x=.bl k/\Q k d
def Oz(j:rO X (compareOp op) r)(g:PE X a ta)(l:PE X b tb)(i:behindInMarks op b=false):PT X (.Compare a [op] [b] pos) (A1 (wL r ta tb)):=by
 intro d s f H Q I h;refine wpAny_isTrue_Compare1 (kS (g d s f H _ I h) λv s1 ⟨x,H1,I1,r1,q1⟩=>kS (l d s1 f H1 _ I1 q1) λu s2 ⟨y,H2,I2,r2,q2⟩=>kS (j d s2 f H2 x y v u _ I2 r1 r2 q2) λc s3 ⟨z,H3,I3,r3,k,e,q3⟩=>?_) i
 subst e;cases r3;exact wpAny_truthy_bool ⟨H3,I3,q3⟩
def FC(r i:R2)(ta tb tc:TE):TE:=λd H Q=>ta d H λx g=>tb d g λy j=>r x y j λz e=>∃k,z=.bl k/\
 (if k=true then tc d e λh f=>i y h f Q else Q (.bl false) e)
theorem KD(m:rO X (compareOp op) r)(i:rO X (compareOp op') r')(j:PE X a ta)(n:PE X b tb)(o:PE X c tc)
  (l:lastMarks [op,op'] [b,c]=false:=by with_unfolding_all rfl):PE X (.Compare a [op,op'] [b,c] pos) (FC r r' ta tb tc):=by
 intro f s g H Q I h;refine Compare_chain (kS (j f s g H _ I h) λv s1 ⟨x,H1,I1,r1,q1⟩=>chain_link (kS (n f s1 g H1 _ I1 q1) λu s2 ⟨y,H2,I2,r2,q2⟩=>kS (m f s2 g H2 x y v u _ I2 r1 r2 q2) λd s3 ⟨z,H3,I3,r3,k,e,q3⟩=>?_)) l
 subst e;cases r3;refine wpAny_truthy_bool ?_;cases k with
 |false=>exact ite_ff ⟨.bl false,H3,I3,rfl,q3⟩
 |true=>exact ite_tt (chain_last (kS (o f s3 g H3 _ I3 q3) λw' s4 ⟨z',H4,I4,r4,q4⟩=>i f s4 g H4 y z' u w' Q I4 r2 r4 q4))
def B5:(sizeLine:Nat)<2 ^ 63:=by rw[sizeLine_eq];decide
def FX:rO X (binaryOp .Add) (λx y H Q=>∃i j,x=.str i/\y=.str j/\i.length+j.length<=sizeLine/\Q (.str (i++j)) H):=by intro l s k H x y v u Q I f e h;obtain⟨i,j,rfl,rfl,g,q⟩:=h;obtain⟨t,rfl⟩:=f;obtain⟨d,rfl⟩:=e;exact add_str (λd m=>⟨.str (i++j),H,I.tok _,⟨_,rfl⟩,q⟩) g
def qf(r:jc [x] us):∃u,us=[u]/\jD x u:=by
 cases r with
 |cons r1 r2=>cases r2;exact⟨_,rfl,r1⟩
def Hu(r:jc [x,y] us):∃u d,us=[u,d]/\jD x u/\jD y d:=by
 cases r with
 |cons r1 r2=>
  cases r2 with
  |cons r3 r4=>cases r4;exact⟨_,_,rfl,r1,r3⟩
def oJ:lR X (.builtin "abs") (λxs H Q=>∃i,xs=[.int i]/\Q (.int (if i<0 then -i else i)) H):=by intro e s g H xs f Q I r h;obtain⟨i,rfl,q⟩:=h;obtain⟨u,rfl,t,rfl⟩:=qf r;exact call_abs_int λu d=>⟨.int (if i<0 then -i else i),H,I.tok _,⟨_,rfl⟩,q⟩
def JS(e:X.calm=true):lR X (.builtin "max") (λxs H Q=>∃i j,xs=[.int i,.int j]/\Q (.int (if j>i then j else i)) H):=by
 intro l s g H xs p Q I r h;obtain⟨i,j,rfl,q⟩:=h;obtain⟨u,f,rfl,⟨t,rfl⟩,⟨m,rfl⟩⟩:=Hu r;refine max_two_ints (I.ok.hd e) λn o k=>⟨_,H,I.kept k,?_,q⟩;by_cases d:j>i
 .rw[aQ d,aQ d];exact⟨_,rfl⟩
 .rw[aR d,aR d];exact⟨_,rfl⟩
def JZ(e:X.calm=true):lR X (.builtin "min") (λxs H Q=>∃i j,xs=[.int i,.int j]/\Q (.int (if j<i then j else i)) H):=by
 intro l s g H xs p Q I r h;obtain⟨i,j,rfl,q⟩:=h;obtain⟨u,f,rfl,⟨t,rfl⟩,⟨m,rfl⟩⟩:=Hu r;refine min_two_ints (I.ok.hd e) λn o k=>⟨_,H,I.kept k,?_,q⟩;by_cases d:j<i
 .rw[aQ d,aQ d];exact⟨_,rfl⟩
 .rw[aR d,aR d];exact⟨_,rfl⟩
def xi:lR X (.type "int") (λxs H Q=>(∃i,xs=[.int i]/\Q (.int i) H)\/∃k,xs=[.bl k]/\Q (.int (if k then 1 else 0)) H):=by
 intro e s g H xs f Q I r h;rcases h with⟨i,rfl,q⟩|⟨k,rfl,q⟩
 .obtain⟨u,rfl,t,rfl⟩:=qf r;exact call_int_int ⟨.int i,H,I,⟨_,rfl⟩,q⟩
 .obtain⟨u,rfl,d⟩:=qf r;cases d;exact call_int_bool ⟨.int (if k then 1 else 0),H,I.tok _,⟨_,rfl⟩,q⟩
def TJ(K:W.Frag)(x:V)(H:Hp)(n:Nat):Prop:=
 match x with
 |.str y=>y.length<=sizeLine/\n=y.length
 |.byt y=>y.size<=sizeLine/\n=y.size
 |.ref p=>(∃d,mz K H p d/\n=d.length)\/∃d,oK K H p d/\n=d.length
 |_=>False
def KG:lR X (.builtin "len") (λxs H Q=>∃x n,xs=[x]/\TJ X.K x H n/\Q (.int n) H):=by
 intro w s o H xs z Q I r h;obtain⟨x,n,rfl,e,q⟩:=h;obtain⟨u,rfl,k⟩:=qf r;have v:=sizeLine_eq;cases x with
 |str y=>obtain⟨t,rfl⟩:=k;obtain⟨hy,d⟩:y.length<=sizeLine/\n=y.length:=e;subst d;exact len_str (by omega) ⟨.int _,H,I.tok _,⟨_,rfl⟩,q⟩
 |byt y=>obtain⟨t,rfl⟩:=k;obtain⟨hy,d⟩:y.size<=sizeLine/\n=y.size:=e;subst d;exact W.len_bytes (by omega) ⟨.int _,H,I.tok _,⟨_,rfl⟩,q⟩
 |ref p=>
  cases k;have d:=e;rcases d with⟨xs,f,d⟩|⟨xs,f,d⟩
  .subst d;obtain⟨i,l,g,m⟩:=I.list f;have j:=l.length;exact Calls.call_len_list g.isList (by simp only[bG];omega) ⟨.int xs.length,H,I.tok _,⟨_,by simp only[bG];rw[j]⟩,q⟩
  .subst d;obtain⟨i,l,g,m⟩:=I.tuple f;have j:=l.length;exact len_tuple g (by simp only[bG];omega) ⟨.int xs.length,H,I.tok _,⟨_,by simp only[bG];rw[j]⟩,q⟩
 |_=>exact (e).elim
end
end L2
namespace L2
open PySem PySem.Spec PyProof.Rows
structure FS(h:Heap)(x dx C:Addr)(mA:Str->Option Value):Prop where
 obj:h.get? x=some (W.instObj C dx)
 ns:h.Ns1 dx mA
 ne:dx≠x
def IZ{h:Heap}(n:h.Ns1 dx mA):∃d,h.get? dx=some d/\∀name,W.lookIn name d=some (mA name):=by
 obtain⟨o,c,m,g,j,k,_,f⟩:=n;refine⟨o,g,λname=>?_⟩;have e:=f name;unfold nsFind findBy at e;rw[<-Array.find?_toList]at e;unfold W.lookIn;rw[j];dsimp only;split
 .rename_i y q;rw[q]at e;exact congrArg some e
 .rename_i q;rw[q]at e;have a:c.toList.any (·.refKey)=false:=by rw[bH];intro y i;obtain⟨z,t,b⟩:=k y (Array.mem_toList_iff.mp i);simp[DictEntry.refKey,b]
  have l:¬c.toList.any (·.refKey)=true:=by rw[a];exact aH
  rw[aR l];exact congrArg some e
def FS.look(I:FS h x dx C mA):∃a,W.InstAt h x (W.instObj C dx) C (some a)/\∀name,W.lookIn name a=some (mA name):=
 let ⟨a,ho,hl⟩:=IZ I.ns
 ⟨a,⟨I.obj,rfl,rfl,ho⟩,hl⟩
section
variable {prog:Program}{w:World}{A:Around}{E:Value->Shared->Prop}{s:Shared}{K:W.Frag}{x dx C f:Addr}{mA:Str->Option Value}{name:Str}{v:Value}
def OC(X:K.In s.heap)(I:FS s.heap x dx C mA)(d:W.plainGet K C name=true)(c:W.hasDictIn K C=true)
  (b:W.findIn K (.ref C) name=some none) (hv:mA name=some v) (a:W.handedIn v=true) (h:Q v {s with toks:=s.toks+1}) :
  wpAny (model prog w) A (getAttr (.ref x) name expr) Q E s:=by
 obtain⟨g,J,e⟩:=I.look;exact W.get_value X J (W.plainGet_of d).1 (W.findObj_own c b rfl (by rw[e,hv])) a h
def M5(X:K.In s.heap)(I:FS s.heap x dx C mA)(a:W.plainGet K C name=true)
  (b:W.findIn K (.ref C) name=some (some (.ref f))) (e:W.isFn K (.ref f)=true) (hv:mA name=none) (h:Q (.ref f,[.ref x]) s) :
  wpAny (model prog w) A (getMethod (.ref x) name pl) Q E s:=by
 obtain⟨c,J,d⟩:=I.look;exact W.method_fn X J (W.plainGet_of a).1 (W.plainGet_of a).2 b (beq_iff_eq.mp e) (by show (W.lookIn name c).map (·.isSome)=some false;rw[d,hv];rfl) h
def PR(X:K.In s.heap)(I:FS s.heap x dx C mA)
  (l:W.findIn K (.ref C) "__setattr__" = some (some (.builtin "object.__setattr__"))) (r:W.plainOver K C=true) (o:W.takerIn K C name=some none) (k:W.hasDictIn K C=true)
  (hw:PySem.Within mA ns) (hsz:ns.length<=sizeLine)
  (h:∀d,FS d x dx C (λy=>if y=name then some v else mA y)->Heap.SameBut dx s.heap d->Q () {s with heap:=d,toks:=s.toks+2}) :
  wpAny (model prog w) A (setAttr (.ref x) name v) Q E s:=by
 obtain⟨D,J,u⟩:=I.look;refine W.set_plain X J l (W.osa_open X J r o λb=>?_);obtain⟨z,p,i⟩:=W.any_some k;have m:=I.obj;refine ao (ak (ao (ao (wpAny_loadPart m (ao (W.Looks.here (W.looks_clsIn X p) ?_))))));rw[i];refine ak (ao (ak (ao ?_)));refine wpAny_nsSet1 I.ns λd c a=>?_;obtain⟨B,q,n,j,e,g⟩:=c.count (PySem.Within.cons name v hw);refine ao (wpAny_lookBehind j (by rw[e];exact pastItsLine_dict (aN g (by rw[ay];omega))) ?_);exact ak (h _ ⟨(a.2 _ (Ne.symm I.ne)).trans I.obj,c,I.ne⟩ a)
def Ki(X:K.In s.heap)(c:W.makesIn K C=true)
  (e:W.findIn K (.ref C) "__init__" = some (some (.ref f))) (b:W.typeIn K (.ref f)=some (.type "function"))
  (h:codeAny (model prog w) (A.under (.builtin "type.__call__" ⟨.ref C::vs,kw⟩)) (.call (.ref f) ⟨.ref (s.heap.objs.size+1)::vs,kw⟩) (W.InitBack (s.heap.objs.size+1) R)
   {s with heap:=(s.heap.push W.emptyDict).push (W.instObj C s.heap.objs.size)}) :
  codeAny (model prog w) A (.call (.ref C) ⟨vs,kw⟩) R s:=by
 obtain⟨j,g,d,t,i⟩:=s;exact W.make_core (W.makes_of X c) (W.looks_findIn X e) (λa=>W.bind_fn X a b) (.inl rfl) h
end
def r6(f:Str)(v:V):List (Str×V)->List (Str×V)
 |[]=>[(f,v)]
 | (g,x)::r=>if g=f then (g,v)::r else (g,x)::r6 f v r
theorem xH f g v:∀fs:List (Str×V),(r6 f v fs).lookup g=if g=f then some v else fs.lookup g
 |[]=>by
  show List.lookup g [(f,v)]=_;by_cases h:g=f
  .have a:=beq_iff_eq.mpr h;simp only[List.lookup,a,aQ h]
  .have a:=beq_eq_false_iff_ne.mpr h;simp only[List.lookup,a,aR h]
 | (k,x)::r=>by
  have c:=xH f g v r;rw[show r6 f v ((k,x)::r)=(if k=f then (k,v)::r else (k,x)::r6 f v r) from rfl];by_cases b:k=f
  .rw[aQ b];by_cases h:g=k
   .have a:=beq_iff_eq.mpr h;simp only[List.lookup,a,aQ (h.trans b)]
   .have a:=beq_eq_false_iff_ne.mpr h;simp only[List.lookup,a,aR (λe:g=f=>h (e.trans b.symm))]
  .rw[aR b];by_cases h:g=k
   .have a:=beq_iff_eq.mpr h;simp only[List.lookup,a,aR (λe:g=f=>b (h.symm.trans e))]
   .have a:=beq_eq_false_iff_ne.mpr h;simp only[List.lookup,a];exact c
theorem xb f v:∀fs:List (Str×V),f∈(r6 f v fs).map (·.1)/\∀g,g∈fs.map (·.1)->g∈(r6 f v fs).map (·.1)
 |[]=>⟨by simp[r6],λg h=>by simp at h⟩
 | (k,x)::r=>by
  obtain⟨c,b⟩:=xb f v r;rw[show r6 f v ((k,x)::r)=(if k=f then (k,v)::r else (k,x)::r6 f v r) from rfl];by_cases a:k=f
  .rw[aQ a];subst a;exact⟨by simp,λg h=>by simpa using h⟩
  .rw[aR a];refine⟨?_,λg h=>?_⟩
   .rw[bI];exact bz _ c
   .rw[bI]at h ⊢;rcases aF.mp h with e|e
    .exact aF.mpr (.inl e)
    .exact bz _ (b g e)
theorem xC f v:∀fs:List (Str×V),(r6 f v fs).length<=fs.length+1
 |[]=>by simp[r6]
 | (k,x)::r=>by
  have b:=xC f v r;rw[show r6 f v ((k,x)::r)=(if k=f then (k,v)::r else (k,x)::r6 f v r) from rfl];by_cases a:k=f
  .rw[aQ a,ay,ay];omega
  .rw[aR a,ay,ay];omega
def uK.some_of(r:uK (some v) o):∃u,o=some u/\jD v u:=by
 cases o with
 |none=>exact (r).elim
 |some u=>exact⟨u,rfl,r⟩
def uK.none_of(r:uK none o):o=none:=by
 cases o with
 |none=>rfl
 |some u=>exact (r).elim
def Jb(r:jD v u):W.handedIn u=true:=by
 cases v with
 |non=>cases (r);rfl
 |bl b=>cases (r);rfl
 |int i=>obtain⟨t,e⟩:=(r);cases e;rfl
 |str x=>obtain⟨t,e⟩:=(r);cases e;rfl
 |byt b=>obtain⟨t,e⟩:=(r);cases e;rfl
 |flt b=>obtain⟨t,e⟩:=(r);cases e;rfl
 |ref a=>cases (r);rfl
 |ty n=>cases (r);rfl
section
variable {P:Program}{w:World}{H H':Hp}{h h':Heap}{a C dx:Addr}{fs fs':List (Str×V)}
def yy(c:uc P w H h)(e:H a=some (.ins C dx fs)):∃b,FS h a dx C b/\(∀f,uK (fs.lookup f) (b f))/\PySem.Within b (fs.map (·.1))/\fs.length<=1000/\H dx=some (.own a):=by obtain⟨d,z,ne,g,b,n,r,q⟩:=(c a _ e);exact⟨b,⟨g,n,ne⟩,r,q,z,d⟩
end
structure Bm(K:W.Frag)(C:Addr):Prop where
 pg:W.plainGet K C Str.empty=true
 hd:W.hasDictIn K C=true
 po:W.plainOver K C=true
 sa:W.findIn K (.ref C) "__setattr__" = some (some (.builtin "object.__setattr__"))
def Bm.get{K:W.Frag}(c:Bm K C) f:W.plainGet K C f=true:=c.pg
def nR(K:W.Frag)(C:Addr)(f:Str):Prop:=W.findIn K (.ref C) f=some none
def nR.taker{K:W.Frag}(n:nR K C f):W.takerIn K C f=some none:=by unfold W.takerIn;rw[show W.findIn K (.ref C) f=some none from n];rfl
structure OX(K:W.Frag)(C:Addr)(m:Str)(f:Addr):Prop where
 at_:W.findIn K (.ref C) m=some (some (.ref f))
 fn:W.isFn K (.ref f)=true
 kp:W.keepIn K (.ref f)=true
section
variable {X:Cx}{gI:List (Addr×Obj)}{σ:St}{H:Hp}{s:Shared}{a C dx:Addr}{fs:List (Str×V)}{f:Str}{v:V}{A:Around}{E:Value->Shared->Prop}
def Gm(I:iG X gI σ H s)(e:H a=some (.ins C dx fs))(c:Bm X.K C)(n:nR X.K C f)(l:fs.lookup f=some v)
  (h:∀u d,iG X gI σ H d->jD v u->Q u d):wpAny (model X.prog X.w) A (getAttr (.ref a) f b) Q E s:=by
 obtain⟨j,O,r,_,_,_⟩:=yy I.hok e;obtain⟨u,i,g⟩:=uK.some_of (by rw[<-l];exact r f);exact OC I.kIn O (c.get f) c.hd n i (Jb g) (h u _ (I.tok _) g)
def GM(I:iG X gI σ H s)(e:H a=some (.ins C dx fs))(c:Bm X.K C)(k:OX X.K C m g)(l:fs.lookup m=none)
  (h:Q (.ref g,[.ref a]) s):wpAny (model X.prog X.w) A (getMethod (.ref a) m pl) Q E s:=by
 obtain⟨d,O,r,_,_,_⟩:=yy I.hok e;have b:=uK.none_of (by rw[<-l];exact r m);exact M5 I.kIn O (c.get m) k.at_ k.fn b h
def FD(I:iG X gI σ H s)(e:H a=some (.ins C dx fs))(c:Bm X.K C)(n:nR X.K C f)(L:fs.length<1000)(F:jD y u)
  (h:∀j,iG X gI σ (jR H a (.ins C dx (r6 f y fs))) j->Q () j):wpAny (model X.prog X.w) A (setAttr (.ref a) f u) Q E s:=by
 obtain⟨m,O,r,i,_,k⟩:=yy I.hok e;have J:(fs.map (·.1)).length<=sizeLine:=by rw[aw,sizeLine_eq];omega
 refine PR I.kIn O c.sa c.po n.taker c.hd i J λp d l=>h _ ?_;have D:∃o,p.get? dx=some o:=let ⟨o,_,_,e',_⟩:=d.ns;⟨o,e'⟩;refine I.write (by rw[e];exact True.intro) (.inr k) (λb q x z=>(l.2 b x).trans z) D ?_;refine⟨by rw[gY O.ne];exact k,?_,O.ne,d.obj,_,d.ns,λg=>?_,λg B=>?_⟩
 .have:=xC f y fs;omega
 .rw[xH];by_cases q:g=f
  .rw[aQ q,aQ q];exact F
  .rw[aR q,aR q];exact r g
 .by_cases q:g=f
  .rw[q];exact (xb f y fs).1
  .refine (xb f y fs).2 g (i g λz=>B ?_);show (if g=f then some u else m g)=none;rw[aR q];exact z
def iG.made(I:iG X gI σ H s):iG X gI σ (jR (jR H s.heap.objs.size (.own (s.heap.objs.size+1))) (s.heap.objs.size+1) (.ins C s.heap.objs.size []))
  {s with heap:=(s.heap.push W.emptyDict).push (W.instObj C s.heap.objs.size)}:=by
 have c:(s.heap.push W.emptyDict).get? s.heap.objs.size=some W.emptyDict:=ar s.heap rfl;have g:((s.heap.push W.emptyDict).push (W.instObj C s.heap.objs.size)).get? (s.heap.objs.size+1)=some (W.instObj C s.heap.objs.size):=by have:=ar (s.heap.push W.emptyDict) (o:=W.instObj C s.heap.objs.size) rfl;rwa [Heap.size_push]at this
 have j:(s.heap.push W.emptyDict).Ns s.heap.objs.size (λ_=>none):=⟨W.emptyDict,#[],_,c,rfl,(λe d=>absurd d (by simp)),λ_=>rfl⟩;have h:=I.laid (o:=.own (s.heap.objs.size+1)) (t':=s.toks) (λb u q=>ae _ q) (aK _) ⟨_,c⟩;refine h.laid (λb u q=>ae _ q) (bJ (Heap.size_push _ _)) ?_;have ne:s.heap.objs.size≠s.heap.objs.size+1:=aM (bK _);refine⟨by rw[gY ne,hU],bL _,ne,g,λ_=>none,(Heap.Ns1.of_empty j).at λo q=>ae _ q,λ_=>True.intro,λy i=>absurd rfl i⟩
def Os(c:attributeBase e f env (eval e env)=eval e env)
  (h:wpAny (model prog w) A (eval e env) (λo b=>wpAny (model prog w) A (getAttr o f true) Q E b) E s):wpAny (model prog w) A (eval (.Attribute e f pos) env) Q E s:=
 Attribute_any_ h (by rw[arm_eval_Attribute,c])
end
def Uc(K:W.Frag)(c:TE)(f:Str):TE:=λd H Q=>c d H λx b=>∃a C e fs v,x=.ref a/\b a=some (.ins C e fs)/\Bm K C/\nR K C f/\fs.lookup f=some v/\Q v b
def R8(K:W.Frag)(e h:TE)(f:Str):TS:=λD b H=>h b H λy g=>e b g λx d=>∃a C c fs,x=.ref a/\d a=some (.ins C c fs)/\Bm K C/\nR K C f/\fs.length<1000/\
 D.nx b (jR d a (.ins C c (r6 f y fs)))
section
variable {X:Cx}{o e value:Expr}{f:Str}{pos pos' tpos:Pos}{ta tv:TE}
def RJ(d:PE X e ta)(j:attributeBase e f X.env (eval e X.env)=eval e X.env):PE X (.Attribute e f pos) (Uc X.K ta f):=by intro b s i H Q I h;refine Os j (kS (d b s i H _ I h) λu s1 ⟨x,H1,I1,rx,a,C,dx,fs,v,ex,ea,c,n,l,q⟩=>?_);subst ex;obtain rfl:u=Value.ref a:=rx;exact Gm I1 ea c n l λp m g k=>⟨v,H1,g,k,q⟩
def M6(g:PE X o ta)(hv:PE X value tv)(i:swapsWith value (some (.Attribute o f pos')) pos.line X.env=pure false):PS X (.Assign [.Attribute o f pos'] value pos) (R8 X.K ta tv f):=by intro d s b H D I h;refine plainObj_wpAny_Assign_Attribute (kS (hv d s b H _ I h) λu s1 ⟨y,H1,I1,ry,q⟩=>kS (g d s1 b H1 _ I1 q) λov s2 ⟨x,H2,I2,rx,a,C,dx,fs,ex,ea,c,n,l,q2⟩=>?_) i;subst ex;obtain rfl:ov=Value.ref a:=rx;exact FD I2 ea c n l ry λk j=>⟨b,_,j,q2⟩
end
section
variable {X:Cx}{gI:List (Addr×Obj)}{σ:St}{H:Hp}{s:Shared}{A:Around}{E:Value->Shared->Prop}{Q:Value->Shared->Prop}{c:Value}{b:Bool}
inductive sO(K:W.Frag)(H:Hp):V->Value->Prop where
 |non:sO K H .non (.type "NoneType")
 |bl (x:Bool):sO K H (.bl x) (.type "bool")
 |int (i:Int):sO K H (.int i) (.type "int")
 |str (x:Str):sO K H (.str x) (.type "str")
 |flt (x:UInt64):sO K H (.flt x) (.type "float")
 |lst {a:Addr} {xs:List V} (e:H a=some (.lst xs)):sO K H (.ref a) (.type "list")
 |frz {a:Addr} {o:Obj} {xs:List V} (e:H a=some (.frz o (.lst xs))):sO K H (.ref a) (.type "list")
 |tup {a:Addr} {xs:List V} (e:H a=some (.tup xs)):sO K H (.ref a) (.type "tuple")
 |dK {a:Addr} {kvs:List (qM×V)} (e:H a=some (.dK kvs)):sO K H (.ref a) (.type "dict")
 |dT {a:Addr} {kvs:List (List qM×V)} (e:H a=some (.dT kvs)):sO K H (.ref a) (.type "dict")
 |ins {a C dx:Addr} {fs:List (Str×V)} (e:H a=some (.ins C dx fs)) (cl:Bm K C) (ha:W.findIn K (.ref C) "__class__" = some (some (.builtin "object.__class__")))
   (hn:W.specialIn K (.builtin "object.__class__") "__get__" = some (some (.builtin "getset_descriptor.__get__"))) (htk:W.takesIn K (.builtin "object.__class__")=some true)
   (hm:W.mroIn K C (.type "object")=some true):sO K H (.ref a) (.ref C)
def JB(I:iG X gI σ H s)(d:jD x u)(ty:sO X.K H x t)(e:W.kitOne X.K t c=some b)(h:∀m,Q (.bool b) {s with toks:=m}) :
  wpAny (model X.prog X.w) A (call (.builtin "isinstance") [u,c]) Q E s:=by
 cases ty with
 |non=>cases (d);exact W.kia_one W.kitx_none I.kIn True.intro e (λz=>nomatch z) h
 |bl y=>cases (d);exact W.kia_one W.kitx_bool I.kIn True.intro e (λz=>nomatch z) h
 |int i=>obtain⟨t,q⟩:=(d);cases q;exact W.kia_one W.kitx_int I.kIn True.intro e (λz=>nomatch z) h
 |str y=>obtain⟨t,q⟩:=(d);cases q;exact W.kia_one W.kitx_str I.kIn True.intro e (λz=>nomatch z) h
 |flt y=>obtain⟨t,q⟩:=(d);cases q;exact W.kia_one W.kitx_float I.kIn True.intro e (λz=>nomatch z) h
 |@lst a j ea=>cases (d);obtain⟨_,_,n,_,f⟩:=(I.hok a _ ea);exact W.kia_one W.kitx_list I.kIn ⟨_,f,rfl⟩ e (λz=>nomatch z) h
 |@frz a ob j ea=>cases (d);obtain⟨_,_,_,n,_,f⟩:=(I.hok a _ ea);exact W.kia_one W.kitx_list I.kIn ⟨_,f,rfl⟩ e (λz=>nomatch z) h
 |@tup a j ea=>cases (d);obtain⟨_,_,_,p⟩:=(I.hok a _ ea);obtain⟨o,f,g,_⟩:=p;exact W.kia_one W.kitx_tuple I.kIn ⟨o,f,g⟩ e (λz=>nomatch z) h
 |@dK a kvs ea=>cases (d);obtain⟨_,_,v,_,p⟩:=(I.hok a _ ea);obtain⟨o,k,l,f,g,_⟩:=p;exact W.kia_one W.kitx_dict I.kIn ⟨o,f,g.1⟩ e (λz=>nomatch z) h
 |@dT a kvs ea=>cases (d);obtain⟨_,_,j,_,o,k,l,f,g,_⟩:=(I.hok a _ ea);exact W.kia_one W.kitx_dict I.kIn ⟨o,f,g.1⟩ e (λz=>nomatch z) h
 |@ins a C dx fs ea cl ha hn htk hm=>cases (d);obtain⟨r,O,_⟩:=yy I.hok ea;obtain⟨B,J,_⟩:=O.look;exact W.kia_one (W.kitx_own (cl.get _) cl.hd ha hn htk hm) I.kIn J e (λz=>nomatch z) h
end
end L2
namespace L2
open PySem PySem.Spec PyProof.Rows
structure jZ(k:Nat)(A:Around):Prop where
 hd:A.handled=none
 dp:A.depth+3*k+5<recursionLimit
 un:A.units+16*k+200<cLine
def jZ.mono(r:jZ k A)(h:j<=k):jZ j A:=⟨r.hd,by have:=r.dp;omega,by have:=r.un;omega⟩
def jZ.deeper(r:jZ (k+1) A) env:jZ k (A.deeper env):=⟨r.hd,by have:=r.dp;show A.depth+1+3*k+5<_;omega,by have:=r.un;show A.units+3+16*k+200<_;omega⟩
def GI{A:Around}:(A.under (.builtin "type.__call__" ⟨.ref C::us,kw⟩)).depth=A.depth+1:=by first|rfl|simp[Around.under,Code.weight,Code.isCreation,Code.isGuard,Code.isCaller,Code.frames,Code.isFrame,guardIds]
def G5{A:Around}:(A.under (.builtin "type.__call__" ⟨.ref C::us,kw⟩)).units=A.units+1:=by first|rfl|simp[Around.under,Code.cUnits,Code.frames,Code.isFrame]
def jZ.make(r:jZ (k+1) A) C us kw:jZ k (A.under (.builtin "type.__call__" ⟨.ref C::us,kw⟩)):=⟨r.hd,by have:=r.dp;rw[GI];omega,by have:=r.un;rw[G5];omega⟩
def jZ.depth(r:jZ k A):A.depth<recursionLimit:=by have:=r.dp;omega
def jZ.units(r:jZ k A):A.units+64<cLine:=by have:=r.un;omega
def um:TA:=λ_ H Q=>Q [] H
def qd(b:TE)(d:TA):TA:=λa H Q=>b a H λx c=>d a c λf e=>Q (x::f) e
section
variable {X:Cx}{e:Expr}{es:List Expr}{te:TE}{t:TA}{pos:Pos}
def uJ:PA X [] um:=λ_ _ _ _ H Q I h=>Calls.spliced_nil ⟨[],H,I,.nil,h⟩
def qc(c:PE X e te)(hr:PA X es t)(d:starEach (e::es) X.env=(false,eval e X.env)::starEach es X.env:=by rfl):PA X (e::es) (qd te t):=by intro pos a s b H Q I h;rw[d];refine Calls.spliced_cons (kS (c a s b H _ I h) λu s1 ⟨x,H1,I1,r1,q1⟩=>?_);exact kS (hr pos a s1 b H1 _ I1 q1) λus s2 ⟨xs,H2,I2,r2,q2⟩=>⟨x::xs,H2,I2,.cons r1 r2,q2⟩
def RT(t:TA):TE:=λc H Q=>t c H λb a=>b.length<=sizeLine/\∀p,a p=none->Q (.ref p) (jR a p (.tup b))
def Sq(t:TA):TE:=λc H Q=>t c H λb a=>b.length<=sizeLine/\∀p,a p=none->Q (.ref p) (jR a p (.lst b))
def Sf{x1}(h:PA X es t):PE X (.Tuple es x1 pos) (RT t):=by intro a s f H Q I d;refine wpAny_Tuple_spliced (kS (h pos a s f H _ I d) λus s1 ⟨xs,H1,I1,r,z,q⟩=>⟨by rw[<-r.length];exact z,?_⟩);have c:=I1.hok.fresh (aK _);refine⟨.ref s1.heap.objs.size,jR H1 s1.heap.objs.size (.tup xs),I1.laid (λb u e=>ae _ e) (aK _) ?_,rfl,q _ c⟩;exact⟨z,us,r,⟨_,ar _ rfl,rfl,_,rfl,rfl⟩⟩
def Tp(h:PA X es t):PE X (.List es pos) (Sq t):=by intro a s f H Q I d;refine wpAny_List_spliced (kS (h pos a s f H _ I d) λus s1 ⟨xs,H1,I1,r,z,q⟩=>⟨by rw[<-r.length];exact z,?_⟩);have c:=I1.hok.fresh (aK _);refine⟨.ref s1.heap.objs.size,jR H1 s1.heap.objs.size (.lst xs),I1.laid (λb u e=>ae _ e) (aK _) ?_,rfl,q _ c⟩;exact⟨z,us,0,r,ar _ rfl⟩
end
abbrev Sp:=List V->Hp->VK->XK->Prop
abbrev Pl:=List Env->Hp->Shared->XK->Value->Shared->Prop
structure FK(P:Program)(w:World)(K:W.Frag)(mg:Str->Option Value)(base:Heap)(A:Around)(outer:List Env)(s:Shared)(H:Hp):Prop where
 frames:A.frames=some outer
 mod:Mod K mg base
 bs:∀b o,base.get? b=some o->s.heap.get? b=some o/\H b=none
 bsz:base.objs.size<=s.heap.objs.size
 funs:s.heap.FunFrames base outer
 frf:∀b∈IS outer,H b=none
 hok:uc P w H s.heap
 bare:AllBare s.gens
 tab:Lo base H
def CE(a:List Env)(P:Program)(w:World)(H:Hp)(s:Shared)(Q:VK)(u:Value)(b:Shared):Prop:=∃v c,b.os=s.os/\AllBare b.gens/\Un (IS a) [] H c s.heap b.heap/\uc P w c b.heap/\jD v u/\Q v c
def CR(c:Pl)(a:List Env)(P:Program)(w:World)(H:Hp)(s:Shared)(Q:VK)(E:XK)(r:Result)(b:Shared):Prop:=
 match r with
 |.ok (.ret u)=>CE a P w H s Q u b
 |.ok _=>False
 |.error e=>c a H s E e b
structure pR(P:Program)(w:World)(K:W.Frag)(mg:Str->Option Value)(base:Heap)(CX:Pl)(k:Nat)(f:Addr)(fd:FuncData)(ps:List Str)(sp:Sp):Prop where
 len:∀vs H Q E,sp vs H Q E->vs.length=ps.length
 run:∀(A:Around) (outer:List Env) (s:Shared) (H:Hp) (args:Args) (us:List Value) (vs:List V) (Q:VK) (E:XK),jZ k A->FK P w K mg base A outer s H->BindsTo s fd args (ps.zip us)->jc vs us->sp vs H Q E->
  codeAny (model P w) A (.call (.ref f) args) (CR CX outer P w H s Q E) s
def pR.mono{K:W.Frag}(F:pR P w K mg base CX j f fd ps sp)(h:j<=k) :
  pR P w K mg base CX k f fd ps sp:=⟨F.len,λA a s H b d c Q E hr=>F.run A a s H b d c Q E (hr.mono h)⟩
def pR.imp{K:W.Frag}(F:pR P w K mg base CX k f fd ps sp)
  (h:∀vs H Q E,sp' vs H Q E->sp vs H Q E):pR P w K mg base CX k f fd ps sp':=
 ⟨λvs H Q E q=>F.len vs H Q E (h _ _ _ _ q),λA a s H b d vs Q E hr c g hv e=>F.run A a s H b d vs Q E hr c g hv (h _ _ _ _ e)⟩
def FK.make{K:W.Frag}(e:FK P w K mg base A outer s H) C us kw :
  FK P w K mg base (A.under (.builtin "type.__call__" ⟨.ref C::us,kw⟩)) outer s H:=⟨by first|exact e.frames|(simpa[Around.under,Code.envs,Code.isFrame,pushEnvs] using e.frames),e.mod,e.bs,e.bsz,e.funs,e.frf,e.hok,e.bare,e.tab⟩
section
variable {X:Cx}{gI:List (Addr×Obj)}{σ:St}{H:Hp}{s s':Shared}
def iG.env0(I:iG X gI σ H s):FK X.prog X.w X.K X.mg X.base X.A X.stack s H:=⟨I.ok.frames,I.ok.mod,I.bs,aN I.ok.bsz I.sz,I.stack,I.stkFree,I.hok,I.bare,I.tab⟩
def iG.after(I:iG X gI σ H s)(h:CE X.stack X.prog X.w H s Q u s'):EP X gI σ Q u s':=by obtain⟨v,i,f,a,un,e,r,q⟩:=h;obtain⟨j,g,d,t,c⟩:=s';obtain rfl:c=s.os:=f;exact⟨v,i,I.call un e a (λb z=>absurd z (by simp)),r,q⟩
end
def uA(c:Sp)(a:List V)(E:XK)(t:TA):TE:=λe H Q=>t e H λb d=>c (b++a) d Q E
def BJ(C:Addr)(m:Str)(g:Sp)(b:List V)(E:XK)(f:TE)(t:TA):TE:=λd H Q=>f d H λx c=>∃a h fs,x=.ref a/\c a=some (.ins C h fs)/\fs.lookup m=none/\
 t d c λe i=>g (x::(e++b)) i Q E
def Hr(C:Addr)(e:Sp)(c:List V)(E:XK)(t:TA):TE:=λf H Q=>t f H λd b=>∀x a,b x=none->b a=none->a≠x->
 e (.ref x::(d++c)) (jR (jR b a (.own x)) x (.ins C a [])) (λv g=>v=.non/\Q (.ref x) g) E
def tK(K:W.Frag)(fd:FuncData)(c:List Str)(b:List Value):Prop:=∀(s:Shared) (a:List Value),K.In s.heap->(a++b).length=c.length->BindsTo s fd ⟨a,[]⟩ (c.zip (a++b))
def tK.all{K:W.Frag}(h:∀us:List Value,us.length=ps.length->bindArgs fd ⟨us,[]⟩=pure (ps.zip us)):tK K fd ps []:=λs us _ a=>by rw[bM]at a ⊢;exact .of_eq (h us a)
def wZ(c:Pl)(X:Cx)(E:XK):Prop:=∀(b:List (Addr×Obj)) (d:St) (H:Hp) (s:Shared) (e:Value) (a:Shared),iG X b d H s->c X.stack H s E e a->X.xe e a
section
variable {X:Cx}{CX:Pl}{k:Nat}{f C:Addr}{fd:FuncData}{ps:List Str}{sp:Sp}{dvs:List V}{ds:List Value}{E:XK}{x m:Str}{p pos apos:Pos}{e o:Expr}{es:List Expr}{ta:TE}{t:TA}
theorem Ks(F:pR X.prog X.w X.K X.mg X.base CX k f fd ps sp)(hr:jZ k X.A)(g:tK X.K fd ps ds)(j:jc dvs ds)(i:wZ CX X E)
  (I:iG X gI σ H s) (r:jc vs us) (h:sp (vs++dvs) H Q E):wpAny (model X.prog X.w) X.A (call (.ref f) us) (EP X gI σ Q) X.xe s:=by
 have b:=r.append j;have d:(us++ds).length=ps.length:=by rw[<-b.length];exact F.len _ _ _ _ h
 refine wpAny_call (codeAny_mono (F.run X.A X.stack s H ⟨us,[]⟩ (us++ds) (vs++dvs) Q E hr I.env0 (g s us I.kIn d) b h) λr c a=>?_);cases r with
 |error e=>exact i gI σ H s e c I a
 |ok fl=>
  cases fl with
  |ret u=>exact I.after a
  |next=>exact False.elim a
  |brk=>exact False.elim a
  |cont=>exact False.elim a
def ON(F:pR X.prog X.w X.K X.mg X.base CX k f fd ps sp)(hr:jZ k X.A)(u:Gl X x)(l:X.mg x=some (.ref f))(y:W.keepIn X.K (.ref f)=true)(n:tK X.K fd ps ds)(v:jc dvs ds)(g:wZ CX X E)
  (c:PA X (e::es) t) (a:(x==("__debug__" : Str))=false:=by decide) (j:starEach (e::es) X.env=(false,eval e X.env)::starEach es X.env:=by rfl) (b:(backTo pos (starEach es X.env)).any (·.1)=false:=by rfl) :
  PE X (.Call (.Name x p) (e::es) [] pos) (uA sp dvs E t):=by
 intro i s d H Q I h;refine wpAny_Call_Name_kw (CA I u l ?_ a);refine W.callWith_K I.ok.mod.kin y (kS (c pos i s d H _ I h) λus s1 ⟨vs,H1,I1,r,q⟩=>⟨I1.kIn,?_⟩) j b;exact Ks F hr n v g I1 r q
def NG(g:PE X o ta)(c:Bm X.K C)(b:OX X.K C m f)(F:pR X.prog X.w X.K X.mg X.base CX k f fd ps sp)(hr:jZ k X.A)(j:tK X.K fd ps ds)(v:jc dvs ds)(n:wZ CX X E)
  (r:eval (.Call (.Attribute o m apos) [] [] pos) X.env=(do
   let ov <-eval o X.env
   standAt apos.atName
   let (f,first) <-holding [ov] (getMethod ov m pl)
   callWith pos f first (backTo pos (starEach [] X.env)) (backToKw pos (keywordEach [] X.env))):=by rfl) :
  PE X (.Call (.Attribute o m apos) [] [] pos) (BJ C m sp dvs E ta um):=by
 intro d s i H Q I h;refine W.methodCall_KW (kS (g d s i H _ I h) λu s1 ⟨x,H1,I1,rx,a,dx,fs,ex,ea,l,q⟩=>?_) r;subst ex;obtain rfl:u=Value.ref a:=rx;refine GM I1 ea c b l ?_;exact W.callWith_K0 I1.kIn b.kp (Ks (vs:=[.ref a]) F hr j v n I1 (.cons rfl .nil) q)
structure Mk(K:W.Frag)(C f:Addr):Prop where
 makes:W.makesIn K C=true
 init:W.findIn K (.ref C) "__init__" = some (some (.ref f))
 fn:W.isFn K (.ref f)=true
 kp:W.keepIn K (.ref C)=true
theorem M4(M:Mk X.K C f)(F:pR X.prog X.w X.K X.mg X.base CX k f fd ps sp)(hr:jZ (k+1) X.A)(n:tK X.K fd ps ds)(z:jc dvs ds)
  (j:wZ CX X E) (I:iG X gI σ H s) (r:jc vs us)
  (h:∀x dx,H x=none->H dx=none->dx≠x->sp (.ref x::(vs++dvs)) (jR (jR H dx (.own x)) x (.ins C dx [])) (λv q=>v=.non/\Q (.ref x) q) E) :
  wpAny (model X.prog X.w) X.A (call (.ref C) us) (EP X gI σ Q) X.xe s:=by
 have c:=h (s.heap.objs.size+1) s.heap.objs.size (I.hok.fresh (bN _)) (I.hok.fresh (aK _)) (aM (bK _));have b:=iG.made (C:=C) I;have d:jc (V.ref (s.heap.objs.size+1)::(vs++dvs)) (Value.ref (s.heap.objs.size+1)::(us++ds)):=.cons rfl (r.append z);have i:(Value.ref (s.heap.objs.size+1)::us++ds).length=ps.length:=by have e:=d.length;rw[F.len _ _ _ _ c]at e;exact e.symm
 refine wpAny_call (Ki I.kIn M.makes M.init (beq_iff_eq.mp M.fn) (codeAny_mono (F.run _ X.stack _ _ ⟨Value.ref (s.heap.objs.size+1)::us,[]⟩ (Value.ref (s.heap.objs.size+1)::(us++ds)) _ _ E (hr.make C us [])
  (b.env0.make C us []) (n _ (Value.ref (s.heap.objs.size+1)::us) b.kIn i) d c) λr g a=>?_))
 cases r with
 |error e=>exact j gI σ _ _ e g b a
 |ok fl=>
  cases fl with
  |ret u=>obtain⟨v,B,l,D,y,J⟩:=b.after a;subst y;exact⟨D,⟨V.ref (s.heap.objs.size+1),B,l,rfl,J⟩⟩
  |next=>exact False.elim a
  |brk=>exact False.elim a
  |cont=>exact False.elim a
def Qy(M:Mk X.K C f)(F:pR X.prog X.w X.K X.mg X.base CX k f fd ps sp)(hr:jZ (k+1) X.A)(u:Gl X x)(l:X.mg x=some (.ref C))(n:tK X.K fd ps ds)(v:jc dvs ds)(g:wZ CX X E)
  (c:PA X (e::es) t) (a:(x==("__debug__" : Str))=false:=by decide) (j:starEach (e::es) X.env=(false,eval e X.env)::starEach es X.env:=by rfl) (b:(backTo pos (starEach es X.env)).any (·.1)=false:=by rfl) :
  PE X (.Call (.Name x p) (e::es) [] pos) (Hr C sp dvs E t):=by
 intro i s d H Q I h;refine wpAny_Call_Name_kw (CA I u l ?_ a);refine W.callWith_K I.ok.mod.kin M.kp (kS (c pos i s d H _ I h) λus s1 ⟨vs,H1,I1,r,q⟩=>⟨I1.kIn,?_⟩) j b;exact M4 M F hr n v g I1 r q
end
structure kh(N P:List Str)(sc:Scope):Prop where
 kind:sc.kind=.function
 co:sc.isCoroutine=false
 gen:sc.isGenerator=false
 nd:N.Nodup
 pre:N.take P.length=P
 par:∀x∈P,sc.names.lookup x=some .local\/sc.names.lookup x=some .cell
 nofree:∀y∈sc.names,y.2≠.free
theorem By{kindOf:Str->Option NameKind}:∀{binds} {m},(∀v,(x,v)∉binds)->bindL kindOf binds m x=m x
 |[],_,_=>rfl
 | (n,v)::r,m,h=>by
  unfold bindL;rw[By λw hw=>h w (bz _ hw)];split
  .have:x≠n:=by rintro rfl;exact h v bx
   simp[this]
  .rfl
theorem A2{kindOf:Str->Option NameKind}:∀{binds} {m},(∀v,(x,v)∉binds)->bindC kindOf binds m x=m x
 |[],_,_=>rfl
 | (n,v)::r,m,h=>by
  unfold bindC;rw[A2 λw hw=>h w (bz _ hw)];split
  .rfl
  .have:x≠n:=by rintro rfl;exact h v bx
   simp[this]
theorem Bf{kindOf:Str->Option NameKind}:∀{P:List Str} {vs:List Value} {i:Nat} {m:Str->Option Value},P.Nodup->P[i]? = some x->vs[i]? = some v->kindOf x=some .local->
  bindL kindOf (P.zip vs) m x=some v
 |[],_,_,_,_,h,_,_=>by simp at h
 |_::_,[],_,_,_,_,h,_=>by simp at h
 |p::P,w::vs,0,m,nd,h1,h2,hk=>by simp at h1 h2;subst h1;subst h2;show bindL kindOf ((p,w)::P.zip vs) m p=_;unfold bindL;rw[By λv hv=>(bO.mp nd).1 (aW hv).1,aQ hk];simp
 |p::P,w::vs,i+1,m,nd,h1,h2,hk=>by unfold bindL;exact Bf (bO.mp nd).2 (by simpa using h1) (by simpa using h2) hk
theorem A9{kindOf:Str->Option NameKind}:∀{P:List Str} {vs:List Value} {i:Nat} {m:Str->Option Value},P.Nodup->P[i]? = some x->vs[i]? = some v->kindOf x≠some .local->
  bindC kindOf (P.zip vs) m x=some v
 |[],_,_,_,_,h,_,_=>by simp at h
 |_::_,[],_,_,_,_,h,_=>by simp at h
 |p::P,w::vs,0,m,nd,h1,h2,hk=>by simp at h1 h2;subst h1;subst h2;show bindC kindOf ((p,w)::P.zip vs) m p=_;unfold bindC;rw[A2 λv hv=>(bO.mp nd).1 (aW hv).1,aR hk];simp
 |p::P,w::vs,i+1,m,nd,h1,h2,hk=>by unfold bindC;exact A9 (bO.mp nd).2 (by simpa using h1) (by simpa using h2) hk
noncomputable def oM(N:List Str)(vs:List V):St:=vs.map some++List.replicate (N.length-vs.length) none
noncomputable def sM(g:Pl)(P:Program)(w:World)(K:W.Frag)(mg:Str->Option Value)(base:Heap)(N:List Str)(b:Str)(a:Scope)(f:Addr)(d:Value)(A:Around)(outer:List Env)(s:Shared)(H:Hp)(E:XK):Cx where
 prog:=P
 w:=w
 K:=K
 mg:=mg
 base:=base
 A:=A.deeper (envOfC b a s.heap.objs.size f d)
 N:=N
 s₀:=s
 H₀:=H
 env:=envOfC b a s.heap.objs.size f d
 outer:=outer
 stack:=envOfC b a s.heap.objs.size f d::outer
 ex:=[]
 calm:=true
 fn:=λ_=>true
 pn:=[]
 xe:=λe h=>wpAny (model P w) (A.deeper (envOfC b a s.heap.objs.size f d)) (leaving (envOfC b a s.heap.objs.size f d) e) (λ_ c=>g outer H s E e c) (λi c=>g outer H s E i c) h
def pV{a:Scope}(h:a.names.lookup x=some .cell):∃c,(cellsFrom n a.names []).lookup x=some c:=by have q:=W.cellsFrom_some a.names n [] (.inl h);exact bQ.mp q
theorem Je{K:W.Frag}
  (S:kh N ps scope) (I:A.handled=none) (g:FK P w K mg base A outer s H) (Q:vs.length=ps.length) (r:jc vs us)
  (x:InCallC s s.heap.objs.size (bindL (envOfC qual scope s.heap.objs.size f cd).kindOf (ps.zip us) λ_=>none) (cellsFrom (s.heap.objs.size+1) scope.names []) (bindC (envOfC qual scope s.heap.objs.size f cd).kindOf (ps.zip us) λ_=>none) s1) :
  iG (sM CX P w K mg base N qual scope f cd A outer s H E) [] (oM N vs) H s1:=by
 have J:ps.length<=N.length:=by have:=congrArg List.length S.pre;rw[bR]at this;omega
 obtain⟨o,U,rfl,C⟩:=x.done;have l:∀b:Addr,b∉(sM CX P w K mg base N qual scope f cd A outer s H E).ex:=λb z=>absurd (show b∈([]) from z) (by simp);refine⟨⟨g.mod,S.kind,rfl,rfl,aK _,λy z c o d=>?_,λy j=>?_,λy c _ h=>?_,λ_=>I,Around.frames_deeper g.frames,.inr ⟨rfl,rfl⟩,λb z=>absurd z (l b),g.bs,g.bsz,λb _ _=>l b,λb z=>absurd z (l b),g.funs,g.frf,g.tab⟩,
  rfl,g.bare,Un.kept C,⟨_,x.toInCall.ns,λi y v o d R=>?_⟩,λy c h=>⟨_,x.cell y c h⟩,g.hok.fresh (aK _),λy c h=>?_,λp n=>absurd (show p∈([]) from n) (by simp),g.hok.kept C,?_⟩
 .exact name_of_addr x.apart (PySem.mem_of_lookup o) (PySem.mem_of_lookup d)
 .have j:=j;rcases j with j|j
  .exact pV j
  .exact absurd rfl (S.nofree _ (PySem.mem_of_lookup j))
 .exact bh (x.above y c (PySem.mem_of_lookup h))
 .have B:i<vs.length:=by
   unfold oM at d;by_cases B:i<vs.length
   .exact B
   .rw[List.getElem?_append_right (by simpa using B)]at d;rw[List.getElem?_replicate]at d;split at d<;>cases d
  have F:vs[i]? = some v:=by
   unfold oM at d;rw[List.getElem?_append_left (by simpa using B),av]at d;cases e:vs[i]? with
   |none=>rw[e]at d;cases d
   |some a=>rw[e]at d;cases d;rfl
  obtain⟨u,D,L⟩:=r.get F;have n:ps[i]? = some y:=by rw[<-S.pre,List.getElem?_take_of_lt (by omega)];exact o
  have m:ps.Nodup:=by rw[<-S.pre];exact S.nd.sublist (List.take_sublist _ _)
  refine⟨u,L,?_⟩;rcases S.par y (au n) with k|k
  .exact .inl ⟨k,Bf m n D k⟩
  .obtain⟨c,e⟩:=pV k;refine .inr ⟨.inl k,c,e,?_⟩;have q:=x.cell y c e;rw[A9 m n D (by show scope.names.lookup y≠_;rw[k];decide)]at q;exact q
 .exact g.hok.fresh (bh (x.above y c (PySem.mem_of_lookup h)))
 .unfold oM;show _=N.length;rw[aT,aw,bS];omega
theorem UY{K:W.Frag}{dV kV p Z c X oc:Value}(lk:K.lookup f=some ⟨oc,od,.func (W.fnOf name qual params body scope dV kV p Z an c X),osl⟩)(D:W.codeIn K c qual=true)(S:kh N ps scope)
  (m:∀vs H Q E,sp vs H Q E->vs.length=ps.length)
  (h:∀A a s H vs Q E,jZ k (A.deeper (envOfC qual scope s.heap.objs.size f c))->sp vs H Q E->
   ∃t,Ek (sM CX P w K mg base N qual scope f c A a s H E) body t/\t {nx:=λ_ g=>Q .non g,rt:=Q} (oM N vs) H) :
  pR P w K mg base CX (k+1) f (W.fnOf name qual params body scope dV kV p Z an c X) ps sp:=by
 refine⟨m,λA a s H R us vs Q E hr l hb r z=>?_⟩;have hl:=m _ _ _ _ z;have Y:=l.mod.kin.keeps λb o e=>(l.bs b o e).1;have F:=l.mod.nolimit.keeps λb o e=>(l.bs b o e).1;have i:∀y∈ps.zip us,scope.names.lookup y.1=some .local\/(scope.names.lookup y.1=some .cell/\((cellsFrom (s.heap.objs.size+1) scope.names []).lookup y.1).isSome=true):=λ⟨n,v⟩ hy=>by
  rcases S.par n (aW hy).1 with q|q
  .exact .inl q
  .exact .inr ⟨q,W.cellsFrom_some _ _ _ (.inl q)⟩
 refine codeAny_call_function hr.depth (Y _ _ lk) rfl S.co S.gen rfl (W.codeRec_of Y D) (hb _ _ _ _ ?_);refine wpAny_newFunctionEnv_cells S.kind i λenv he U x=>?_;subst he;refine⟨F.keeps x.toInCall.keep,codeAny_func ?_⟩;obtain⟨t,ht,hq⟩:=h A a s H vs Q E (hr.deeper _) z;have I:iG (sM CX P w K mg base N qual scope f c A a s H E) [] (oM N vs) H U:=Je S hr.hd l hl r x;refine wpAny_mono (ht [] U (oM N vs) H _ I hq) (λfl C j=>?_) λe C j=>j;have B:∀{d:St} {g:Hp} {v:V} {u:Value},iG (sM CX P w K mg base N qual scope f c A a s H E) [] d g C->jD v u->Q v g->CE a P w H s Q u C:=λ{d g v u} J L q=>⟨v,g,J.os,J.bare,J.base,J.hok,L,q⟩
 cases fl with
 |ret u=>obtain⟨v,d,g,J,L,q⟩:=j;exact B J L q
 |next=>obtain⟨d,g,J,q⟩:=j;exact B (v:=V.non) J rfl q
 |brk=>obtain⟨_,_,_,q⟩:=j;exact False.elim q
 |cont=>obtain⟨_,_,_,q⟩:=j;exact False.elim q
end L2
namespace L2
open PySem PySem.Spec PyProof.Rows
section
variable {X:Cx}{x:Str}{p pos:Pos}{e:Expr}{es:List Expr}{t:TA}{id T:String}{r:List V->Hp->VK->Prop}
def LK(r:List V->Hp->VK->Prop)(t:TA):TE:=λc H Q=>t c H λa b=>r a b Q
def EB(l:lR X (.builtin id) r)(i:Gl X x)(j:X.mg x=none)(hv:bootBuiltins x=some (.builtin id))(g:PA X (e::es) t)(k:x≠ "__name__" :=by decide)(b:(x==("__debug__" : Str))=false:=by decide)
  (f:starEach (e::es) X.env=(false,eval e X.env)::starEach es X.env:=by rfl) (a:(backTo pos (starEach es X.env)).any (·.1)=false:=by rfl):PE X (.Call (.Name x p) (e::es) [] pos) (LK r t):=by
 intro c s d H Q I h;refine wpAny_Call_Name_kw (rH I i j hv ?_ k b);exact PyProof.Rows.callWith_builtin1 (kS (g pos c s d H _ I h) λus s1 ⟨vs,H1,I1,r1,q1⟩=>l c s1 d H1 vs us Q I1 r1 q1) f a
def xg(l:lR X (.type T) r)(i:Gl X x)(j:X.mg x=none)(hv:bootBuiltins x=some (.type T))(g:PA X (e::es) t)(k:x≠ "__name__" :=by decide)(b:(x==("__debug__" : Str))=false:=by decide)
  (f:starEach (e::es) X.env=(false,eval e X.env)::starEach es X.env:=by rfl) (a:(backTo pos (starEach es X.env)).any (·.1)=false:=by rfl):PE X (.Call (.Name x p) (e::es) [] pos) (LK r t):=by
 intro c s d H Q I h;refine wpAny_Call_Name_kw (rH I i j hv ?_ k b);exact PyProof.Rows.callWith_type1 (kS (g pos c s d H _ I h) λus s1 ⟨vs,H1,I1,r1,q1⟩=>l c s1 d H1 vs us Q I1 r1 q1) f a
end
end L2
namespace HT
open PySem PyProof.Rows
section
variable {prog:Program}{w:World}{A:Around}{E:Value->Shared->Prop}{s:Shared}
def cat_tup(r:IsTup s.heap t vs.toArray)(q:IsTup s.heap b ws.toArray)(hv:vs≠[])
  (u:ws=[]->Q (.ref t) s) (v:ws≠[]->Q (.ref s.heap.objs.size) {s with heap:=s.heap.push {cls:=.type "tuple",data:=.seq (vs++ws).toArray}})
  (hsz:vs.length+ws.length<=sizeLine):wpAny (model prog w) A (binaryOp .Add (.ref t) (.ref b)) Q E s:=by
 obtain⟨⟨cls,k,data,l⟩,h,m,n,o⟩:=id r;obtain⟨⟨j,c,i,g⟩,a,f,p,d⟩:=id q;simp only at m o f d;subst m o f d;have e:vs.toArray++ws.toArray=(vs++ws).toArray:=by simp
 by_cases hw:ws=[]
 .exact concat_meets ⟨_,h,rfl⟩ ⟨_,a,rfl⟩ noFill_tuple_add seq_tuple_add PySem.F.slot_tuple_add PySem.F.entry_tuple_add (PySem.F.args_tuple_add_2 _ _)
   (tuple_addW1 t b vs.toArray ws.toArray n p k c l g (by simpa using hv) (by simp[hw])) ⟨h,a,u hw⟩
 .refine concat_meets ⟨_,h,rfl⟩ ⟨_,a,rfl⟩ noFill_tuple_add seq_tuple_add PySem.F.slot_tuple_add PySem.F.entry_tuple_add (PySem.F.args_tuple_add_2 _ _)
   (tuple_addW2 t b vs.toArray ws.toArray n p k c l g (by simpa using hv) (by simpa using hw) (by rw[bG,bG];exact hsz)) ⟨h,a,?_⟩
  rw[e];exact v hw
noncomputable def sIx(n d:Nat):Option Int->Nat
 |none=>d
 |some v=>if v<0 then (v+(n:Int)).toNat else min v.toNat n
def sIx_none n d:sIx n d none=d:=rfl
def sIx_nat(n d k:Nat):sIx n d (some (k:Int))=min k n:=by show (if k<0 then (k+(n:Int)).toNat else min (k:Int).toNat n)=min k n;rw[aR (by omega),bT]
def HL v (n d:Nat):(if v<0 then max (v+(n:Int)) 0 else min v (n:Int))=((sIx n d (some v):Nat):Int):=by
 show (if v<0 then max (v+n) 0 else min v n)=(((if v<0 then (v+n).toNat else min v.toNat n):Nat):Int);by_cases hv:v<0
 .simp only[aQ hv];omega
 .simp only[aR hv];omega
def GK lo a (n:Nat):Builtin.Slice.sliceAdjust lo a 1 (n:Int)=(((sIx n 0 lo:Nat):Int),((sIx n n a:Nat):Int)):=by
 have b:¬(1<0):=by omega
 unfold Builtin.Slice.sliceAdjust;simp only[b,if_false];refine Prod.ext ?_ ?_
 .cases lo with
  |none=>rfl
  |some v=>exact HL v n 0
 .cases a with
  |none=>rfl
  |some v=>exact HL v n n
def FL(i j:Nat):Builtin.Slice.slicePlaces (i:Int) (j:Int) 1=j-i:=by
 unfold Builtin.Slice.slicePlaces;have a:1>0:=by omega
 simp only[a,if_true,Int.ediv_one];split<;>omega
def zr(p:IsPart v o)(h:Q o s):wpAny (model prog w) A (Builtin.Slice.slicePartIndex v) Q E s:=by
 cases p with
 |none=>exact slicePart_none h
 |int i t=>exact slicePart_int h
def qZ{a b:Option Int}{n:Nat}(g:s.heap.IsSliceOf sl vl vu .none)(e:IsPart vl a)(i:IsPart vu b)
  (h:Q (((sIx n 0 a:Nat):Int),1,sIx n n b-sIx n 0 a) s):wpAny (model prog w) A (Builtin.Slice.sliceApplied (.ref sl) (pure (n:Int))) Q E s:=by
 obtain⟨j,d,f,c⟩:=id g;unfold Builtin.Slice.sliceApplied Builtin.Slice.sliceFields;refine ao (ao (wpAny_field d c rfl (ao (wpAny_field d c rfl (ao (wpAny_field d c rfl (ak ?_)))))));refine ao (slicePart_none ?_);rw[aR (by decide)];refine ao (zr e (ao (zr i (ao (ak ?_)))));show wpAny _ _ (match Builtin.Slice.sliceAdjust a b 1 n with|(a,b)=>pure (a,(1:Int),Builtin.Slice.slicePlaces a b 1)) _ _ s;rw[GK a b n];show wpAny _ _ (pure (((sIx n 0 a):Int),1,Builtin.Slice.slicePlaces ((sIx n 0 a):Int) ((sIx n n b):Int) 1)) _ _ s;rw[FL];exact ak h
def Mi(xs:Array Value)(i k:Nat):((List.range k).filterMap λ(m:Nat)=>xs[((i:Int)+(m:Int)*1).toNat]?).toArray=((xs.toList.drop i).take k).toArray:=by
 have e:(λ(m:Nat)=>xs[(i+(m:Int)*1).toNat]?)=λm=>xs[i+m]?:=by
  funext m;have:(i+(m:Int)*1).toNat=i+m:=by omega
  rw[this]
 rw[e];have:=pick_run xs i k;rw[List.filterMap_map]at this;have a:((λx=>xs[x]?) ∘ λx=>i+x)=λm=>xs[i+m]?:=rfl;rw[a]at this;rw[this]
theorem getItem_tuple_cut{a b:Option Int}(d:IsTup s.heap t items)(j:s.heap.IsSliceOf sl vl vu .none)(l:IsPart vl a)(n:IsPart vu b)
  (hw:¬(sIx items.size 0 a=0/\sIx items.size items.size b=items.size))
  (h:Q (.ref s.heap.objs.size) {s with heap:=s.heap.push {cls:=.type "tuple",data:=.seq ((items.toList.drop (sIx items.size 0 a)).take (sIx items.size items.size b-sIx items.size 0 a)).toArray}})
  (hsz:items.size<=sizeLine):wpAny (model prog w) A (getItem (.ref t) (.ref sl)) Q E s:=by
 have c:sizeOk (.seq ((items.toList.drop (sIx items.size 0 a)).take (sIx items.size items.size b-sIx items.size 0 a)).toArray):=by show ((items.toList.drop (sIx items.size 0 a)).take (sIx items.size items.size b-sIx items.size 0 a)).toArray.size<=sizeLine;rw[bG,bR,List.length_drop,bB];omega
 obtain⟨k,i,e,m⟩:=id j;have f:s.TypeIs (.ref sl) "slice" :=⟨k,i,e⟩;unfold getItem;try with_reducible refine wpAny_holding ?_;first|refine ao (ak ?_)|skip
 refine ao (wpAny_sequenceKey d.typeIs (by decide) ?_);refine ao (wpAny_callSpecial?_slot d.typeIs PyProof.Rows.slot_tuple_getitem
  (wpAny_call_entry PyProof.Rows.slot_tuple_getitem d.typeIs entry_tuple_getitem ?_ (args_tuple_getitem _ _)))
 show wpAny _ _ (Builtin.Tuple.tupleItemsOf (.ref t) >>= _) _ _ s;refine ao (tupleItemsOf_ d ?_);refine ao (wpAny_typeOf f ?_);rw[aQ (by decide)];refine ao (qZ j l n ?_);have g:¬((((sIx items.size 0 a):Int)==0&&(1:Int)==1&&(sIx items.size items.size b-sIx items.size 0 a)==items.size)=true):=by intro q;rw[bU,bU]at q;have o:=eq_of_beq q.1.1;have p:=eq_of_beq q.2;exact hw ⟨by omega,by omega⟩
 show wpAny _ _ (if (((sIx items.size 0 a):Int)==0&&1==1&&(sIx items.size items.size b-sIx items.size 0 a)==items.size)=true then _ else _) _ _ s;rw[aR g,Mi];first
  |exact ao (wpAny_newObj_type (ak ⟨_,rfl,ak h⟩) c)
  |exact ao (wpAny_newObj_type (ao (ak (ak ⟨_,rfl,ak h⟩))) c)
  |exact ao (ao (wpAny_newObj_type (ak (ak ⟨_,rfl,ak h⟩)) c))
  |exact ao (ao (wpAny_newObj_type (ak ⟨_,rfl,ak h⟩) c))
end
end HT
namespace L2
open PySem PySem.Spec PyProof.Rows
abbrev TO:=St->Hp->(Option Int->Hp->Prop)->Prop
def PO(X:Cx)(e:Option Expr)(t:TO):Prop:=
 ∀(b:List (Addr×Obj)) (s:Shared) (a:St) (H:Hp) (Q:Option Int->Hp->Prop),iG X b a H s->t a H Q->
  wpAny (model X.prog X.w) X.A (evalPart e X.env) (λu d=>∃o c,iG X b a c d/\IsPart u o/\Q o c) X.xe s
def H9:TO:=λ_ H Q=>Q none H
def Rh(t:TE):TO:=λb H Q=>t b H λx a=>∃i,x=.int i/\Q (some i) a
section
variable {X:Cx}{e:Expr}{te:TE}{lo hi:Option Expr}{tl th:TO}{pos p2:Pos}
def QO:PO X none H9:=by intro a s b H Q I h;rw[evalPart_none];exact ak ⟨none,H,I,.none,h⟩
def OS(h:PE X e te):PO X (some e) (Rh te):=by intro a s b H Q I hw;rw[evalPart_some];refine kS (h a s b H _ I hw) λu s1 ⟨x,H1,I1,r1,q1⟩=>?_;obtain⟨i,rfl,q⟩:=q1;obtain⟨t,rfl⟩:=r1;exact⟨some i,H1,I1,.int i t,q⟩
def Rr(X:Cx)(r:V->Option Int->Option Int->Hp->VK->Prop):Prop:=
 ∀(a:List (Addr×Obj)) (s:Shared) (f:St) (H:Hp) (x:V) (v c b:Value) (lo hi:Option Int) (d:Addr) (Q:VK),iG X a f H s->jD x v->s.heap.IsSliceOf d c b .none->IsPart c lo->IsPart b hi->r x lo hi H Q->
  ∃T id,typeLookup (.type T) "__getitem__" = pure (some (.builtin id))/\s.TypeIs v T/\wpAny (model X.prog X.w) X.A (getItem v (.ref d)) (EP X a f Q) X.xe s
def Rr.or(h:Rr X r)(l:Rr X r'):Rr X (λx lo hi H Q=>r x lo hi H Q\/r' x lo hi H Q):=by
 intro d s b H x v j a lo hi g Q I k c f i q;rcases q with q|q
 .exact h d s b H x v j a lo hi g Q I k c f i q
 .exact l d s b H x v j a lo hi g Q I k c f i q
def WX(r:V->Option Int->Option Int->Hp->VK->Prop)(te:TE)(tl th:TO):TE:=λa H Q=>te a H λx c=>tl a c λl d=>th a d λu b=>r x l u b Q
def LX(hr:Rr X r)(g:PE X e te)(f:PO X lo tl)(m:PO X hi th):PE X (.Subscript e (.Slice lo hi none p2) pos) (WX r te tl th):=by intro c s a H Q I h;refine Subscript_ (kS (g c s a H _ I h) λv s1 ⟨x,H1,I1,r1,q1⟩=>?_);refine wpAny_Slice (kS (f c s1 a H1 _ I1 q1) λvl s2 ⟨l,H2,I2,pl,q2⟩=>kS (m c s2 a H2 _ I2 q2) λvu s3 ⟨u,H3,I3,pu,q3⟩=>?_);rw[evalPart_none];refine ak ?_;have k:iG X c a H3 {s3 with heap:=s3.heap.push {cls:=.type "slice",data:=.fields #[vl,vu,.none]}}:=I3.kept λb n q=>ae _ q;obtain⟨T,id,d,i,j⟩:=hr c {s3 with heap:=s3.heap.push {cls:=.type "slice",data:=.fields #[vl,vu,.none]}} a H3 x v vl vu l u s3.heap.objs.size Q k r1 (Heap.IsSliceOf.new ..) pl pu q3;exact tail_any i d j (by with_unfolding_all rfl)
noncomputable def LY(xs:List V)(lo hi:Option Int):List V:=(xs.drop (HT.sIx xs.length 0 lo)).take (HT.sIx xs.length xs.length hi-HT.sIx xs.length 0 lo)
def xI xs lo hi:(LY xs lo hi).length<=xs.length:=by unfold LY;rw[bR,List.length_drop];omega
def VI(K:W.Frag):V->Option Int->Option Int->Hp->VK->Prop:=λx lo hi H Q=>∃a b,x=.ref a/\oK K H a b/\
 ¬(HT.sIx b.length 0 lo=0/\HT.sIx b.length b.length hi=b.length)/\∀p,H p=none->Q (.ref p) (jR H p (.tup (LY b lo hi)))
def RF:Rr X (VI X.K):=by
 intro u s p H x v z o lo hi w Q I n j l m h;obtain⟨a,c,rfl,k,hw,q⟩:=h;cases n;obtain⟨d,r,g,i⟩:=I.tuple k;have f:d.toArray.size=c.length:=by rw[bG];exact r.length.symm
 refine⟨"tuple",_,PyProof.Rows.slot_tuple_getitem.lookup,g.typeIs,?_⟩;refine HT.getItem_tuple_cut g j l m (by rw[f];exact hw) ?_ (by rw[f];exact i);rw[f];refine⟨.ref s.heap.objs.size,_,I.laid (λb y q=>ae _ q) (aK _) ?_,rfl,q _ (I.hok.fresh (aK _))⟩;exact⟨aN (xI c lo hi) i,_,(r.drop (HT.sIx c.length 0 lo)).take (HT.sIx c.length c.length hi-HT.sIx c.length 0 lo),zE.new _ _⟩
def Vv(K:W.Frag):R2:=λx y H Q=>∃a b d c,x=.ref a/\y=.ref b/\oK K H a d/\oK K H b c/\d≠[]/\d.length+c.length<=sizeLine/\
 (c=[]->Q (.ref a) H)/\(c≠[]->∀p,H p=none->Q (.ref p) (jR H p (.tup (d++c))))
def jc.nil_iff(r:jc xs us):us=[]↔xs=[]:=by
 cases r with
 |nil=>simp
 |cons _ _=>simp
def Om:rO X (binaryOp .Add) (Vv X.K):=by intro B s A H x y v u Q I r o h;obtain⟨a,b,E,C,rfl,rfl,i,l,k,g,j,m⟩:=h;cases r;cases o;obtain⟨n,d,p,_⟩:=I.tuple i;obtain⟨f,c,p2,_⟩:=I.tuple l;refine HT.cat_tup p p2 (λz=>k (d.nil_iff.mp z)) (λz=>⟨.ref a,H,I,rfl,j (c.nil_iff.mp z)⟩) (λz=>?_) (by rw[<-d.length,<-c.length];exact g);refine⟨.ref s.heap.objs.size,_,I.laid (λb D q=>ae _ q) (aK _) ?_,rfl,m (λw=>z (c.nil_iff.mpr w)) _ (I.hok.fresh (aK _))⟩;exact⟨by rw[aT];exact g,_,d.append c,zE.new _ _⟩
end
end L2
namespace L2
open PySem PySem.Spec PyProof.Rows
noncomputable def Av(n:Nat)(i:Int):Option Nat:=if 0<=i then (if i<n then some i.toNat else none) else if -(n:Int)<=i then some (i+n).toNat else none
noncomputable def uD{a:Type}(xs:List a)(i:Int):Option a:=(Av xs.length i).bind λj=>xs[j]?
def HH(h:Av n i=some j):seqIndex? i n=some j/\j<n/\-(n:Int)<=i/\i<n:=by
 unfold Av at h;by_cases b:0<=i
 .rw[aQ b]at h;by_cases a:i<n
  .rw[aQ a]at h;have e:=Option.some.inj h;exact⟨by rw[seqIndex_of b a,e],by omega,by omega,a⟩
  .rw[aR a]at h;cases h
 .rw[aR b]at h;by_cases a:-n<=i
  .rw[aQ a]at h;have e:=Option.some.inj h;exact⟨by rw[seqIndex_neg (by omega) a,e],by omega,a,by omega⟩
  .rw[aR a]at h;cases h
def Dp{xs:List α}{v:α}(h:uD xs i=some v):∃j,seqIndex? i xs.length=some j/\xs[j]? = some v/\j<xs.length/\-(xs.length:Int)<=i/\i<xs.length:=by
 unfold uD at h;cases e:Av xs.length i with
 |none=>rw[e]at h;cases h
 |some j=>rw[e]at h;obtain⟨b,a,d,c⟩:=HH e;exact⟨j,b,h,a,d,c⟩
def Kl xs (v:α):uD (xs++[v]) (-1)=some v:=by
 have a:(xs++[v]).length=xs.length+1:=by simp
 have e:Av (xs++[v]).length (-1)=some xs.length:=by unfold Av;rw[a,aR (by decide),aQ (by omega)];congr 1;omega
 unfold uD;rw[e];simp
def Dj(b:Expr):Prop:=∀o i,subscripted b false o i=operate [o,i] (getItem o i)
def PJ(X:Cx)(r:R2):Prop:=
 ∀(b a:Expr) (c:List (Addr×Obj)) (s:Shared) (d:St) (H:Hp) (x y:V) (v u:Value) (Q:VK),iG X c d H s->jD x v->jD y u->r x y H Q->
  subscripted a false v u=operate [v,u] (getItem v u)->wpAny (model X.prog X.w) X.A (subscriptTail b a v u) (EP X c d Q) X.xe s
def Xi(X:Cx)(id:String)(r:V->List V->Hp->VK->Prop):Prop:=
 ∀(a:List (Addr×Obj)) (s:Shared) (c:St) (H:Hp) (x:V) (d:List V) (v:Value) (b:List Value) (Q:VK),iG X a c H s->jD x v->jc d b->r x d H Q->
  wpAny (model X.prog X.w) X.A (call (.builtin id) (v::b)) (EP X a c Q) X.xe s
section
variable {X:Cx}{a b:Expr}{ta tb:TE}{pos:Pos}
def PJ.or(h:PJ X r)(k:PJ X r'):PJ X (λx y H Q=>r x y H Q\/r' x y H Q):=by
 intro d c e s i H x y v u Q I g f q j;rcases q with q|q
 .exact h d c e s i H x y v u Q I g f q j
 .exact k d c e s i H x y v u Q I g f q j
def QR(hr:PJ X r)(c:PE X a ta)(i:PE X b tb)(f:Dj b):PE X (.Subscript a b pos) (wL r ta tb):=by intro g s e H Q I h;exact Subscript_ (RX c i I h λv u k x y j d m l q=>hr a b g k e j x y v u Q d m l q (f _ _))
def U1(K:W.Frag):R2:=λx y H Q=>∃p c i v,x=.ref p/\y=.int i/\mz K H p c/\uD c i=some v/\Q v H
def Vd(K:W.Frag):R2:=λx y H Q=>∃p c i v,x=.ref p/\y=.int i/\oK K H p c/\uD c i=some v/\Q v H
def Vw:R2:=λx y H Q=>∃z i c,x=.str z/\y=.int i/\z.length<=sizeLine/\uD z.cps.toList i=some c/\Q (.str ⟨#[c]⟩) H
def Cd:PJ X (U1 X.K):=by
 intro e k E s C H x y v u Q I R P h o;obtain⟨p,Z,i,z,rfl,rfl,B,F,q⟩:=h;cases R;obtain⟨t,rfl⟩:=P;obtain⟨g,r,f,S⟩:=I.list B;obtain⟨j,d,L,Y,J,N⟩:=Dp F;obtain⟨w,n,m⟩:=r.get L;have D:=r.length;have U:=B5;have c:EP X E C Q w s:=⟨z,H,I,m,q⟩;by_cases A:0<=i
 .have l:i.toNat=j:=by rw[seqIndex_of A N]at d;exact Option.some.inj d
  exact item_listR f.isList A (by omega) (by rw[l];simpa using n) c o
 .have l:(i+g.toArray.size).toNat=j:=by rw[seqIndex_neg (by omega) J]at d;rw[bG,<-D];exact Option.some.inj d
  exact subscriptTail_builtinR f.isList.typeIs slot_list_getitem.lookup
   (wpAny_getItem_list_neg f.isList (by omega) (by rw[bG]<;>omega) (by omega) (by rw[l];simpa using n) ⟨rfl,c⟩) o
def k9:PJ X (Vd X.K):=by
 intro c d A s m H x y v u Q I J F h o;obtain⟨p,S,i,z,rfl,rfl,k,B,q⟩:=h;cases J;obtain⟨t,rfl⟩:=F;obtain⟨D,r,g,L⟩:=I.tuple k;obtain⟨j,C,E,R,N,U⟩:=Dp B;obtain⟨w,l,f⟩:=r.get E;have n:=r.length;have P:=B5;have e:EP X A m Q w s:=⟨z,H,I,f,q⟩;exact subscriptTail_builtinR g.typeIs slot_tuple_getitem.lookup
  (getItem_tuple g (by omega) (by omega) (by rw[bG,<-n];exact C) (by simpa using l) ⟨rfl,e⟩) o
def TN:PJ X Vw:=by
 intro d e C s B H x y v u Q I A r h k;obtain⟨z,i,c,rfl,rfl,J,l,q⟩:=h;obtain⟨t,rfl⟩:=A;obtain⟨D,rfl⟩:=r;obtain⟨j,f,n,F,m,o⟩:=Dp l;have g:z.cps.toList.length=z.length:=by simp[Str.length]
 rw[g]at f m o;have E:=B5;exact tail_any (typeIs_str s z t) slot_str_getitem.lookup (getItem_str (by have p:decide (i < -(2 ^ 63))=false:=aB (by omega);have w:decide (i >= 2 ^ 63)=false:=aB (by omega);rw[p,w,Bool.or_false]) (by rw[f];simpa using n) ⟨.str ⟨#[c]⟩,H,I.tok _,⟨_,rfl⟩,q⟩) k
def Tw(K:W.Frag):R2:=λx y H Q=>U1 K x y H Q\/Vd K x y H Q\/Vw x y H Q
def NA:PJ X (Tw X.K):=Cd.or (k9.or TN)
def Fw(its:List Value) n j u:Obj.mapSeq (·.setIfInBounds j u) {cls:=.type "list",data:=.seq its.toArray n}={cls:=.type "list",data:=.seq (its.set j u).toArray n}:=by simp[Obj.mapSeq]
def iG.lst(I:iG X gI σ H s)(h:H p=some (.lst xs)) :
  ∃its n,jc xs its/\s.heap.get? p=some {cls:=.type "list",data:=.seq its.toArray n}/\xs.length<=sizeLine:=by
 obtain⟨z,its,n,r,e⟩:=I.hok p _ h;exact⟨its,n,r,e,z⟩
def iG.lstUpd{its c:List Value}(I:iG X gI σ H s)(h:H p=some (.lst xs))
  (g:s.heap.get? p=some {cls:=.type "list",data:=.seq its.toArray n}) (d:f {cls:=.type "list",data:=.seq its.toArray n}={cls:=.type "list",data:=.seq c.toArray n'}) (r:jc ys c) (j:ys.length<=sizeLine) t :
  iG X gI σ (jR H p (.lst ys)) {s with heap:=s.heap.update p f,toks:=t}:=by
 have e:(s.heap.update p f).get? p=some {cls:=.type "list",data:=.seq c.toArray n'}:=by rw[Heap.get?_update_self f g (by rw[d]<;>rfl),d]
 refine I.write (by rw[h];trivial) (.inl rfl) (λb u i q=>(Heap.get?_update_other _ _ (Ne.symm i)).trans q) ⟨_,e⟩ ?_;exact⟨j,c,n',r,e⟩
def Hm:V->V->V->Hp->(Hp->Prop)->Prop:=λo i v H Q=>∃p c k j,o=.ref p/\i=.int k/\H p=some (.lst c)/\Av c.length k=some j/\Q (jR H p (.lst (c.set j v)))
def LH:VG X Hm:=by
 intro C s A H o i v N P u Q I B z E h;obtain⟨p,D,k,j,rfl,rfl,x,F,q⟩:=h;cases B;obtain⟨t,rfl⟩:=z;obtain⟨c,n,r,f,J⟩:=I.lst x;obtain⟨d,L,w,l⟩:=HH F;have e:=r.length;have K:=B5;have m:iG X C A (jR H p (.lst (D.set j v))) {s with heap:=s.heap.update p (Obj.mapSeq (·.setIfInBounds j u))}:=I.lstUpd x f (Fw c n j u) (r.set E j) (by rw[bV];exact J) s.toks
 by_cases y:0<=k
 .have g:k.toNat=j:=by rw[seqIndex_of y l]at d;exact Option.some.inj d
  exact W.ki_setAt f y (by omega) (by rw[bG,<-e];exact l) (by rw[g];exact⟨_,m,q⟩)
 .have g:(k+c.toArray.size).toNat=j:=by rw[seqIndex_neg (by omega) w]at d;rw[bG,<-e];exact Option.some.inj d
  exact W.ki_setBack f (by omega) (by rw[bG,<-e];exact w) (by omega) (by rw[g];exact⟨_,m,q⟩)
def Cz lo hi n:(sliceBounds lo hi none n).1=((HT.sIx n 0 lo:Nat):Int)/\(sliceBounds lo hi none n).2.1=((HT.sIx n n hi:Nat):Int)/\(sliceBounds lo hi none n).2.2=1:=by
 refine⟨?_,?_,rfl⟩
 .cases lo with
  |none=>simp[sliceBounds,HT.sIx]
  |some i=>
   simp only[sliceBounds,HT.sIx,Option.getD_none,show 1>0 by decide,if_true];by_cases h:i<0
   .simp only[h,if_true]<;>omega
   .simp only[h,if_false]<;>omega
 .cases hi with
  |none=>simp[sliceBounds,HT.sIx]
  |some i=>
   simp only[sliceBounds,HT.sIx,Option.getD_none,show 1>0 by decide,if_true];by_cases h:i<0
   .simp only[h,if_true]<;>omega
   .simp only[h,if_false]<;>omega
def AU(its:List Value) lo hi:slicePick its.toArray lo hi none=((its.drop (HT.sIx its.length 0 lo)).take (HT.sIx its.length its.length hi-HT.sIx its.length 0 lo)).toArray:=by obtain⟨e,c,d⟩:=Cz lo hi its.toArray.size;unfold slicePick;rw[e,c,d];simp only[sliceRange_one,pick_run,bG]<;>rfl
def U3(K:W.Frag):V->Option Int->Option Int->Hp->VK->Prop:=λx e d H Q=>∃a c,x=.ref a/\mz K H a c/\∀p,H p=none->Q (.ref p) (jR H p (.lst (LY c e d)))
def PQ:Rr X (U3 X.K):=by intro w s u H x v A p d f y Q I n g j l h;obtain⟨a,c,rfl,i,q⟩:=h;cases n;obtain⟨k,r,e,o⟩:=I.list i;have m:=r.length;refine⟨"list",_,slot_list_getitem.lookup,e.isList.typeIs,?_⟩;refine wpAny_getItem_list_slice e.isList g j l .none (by simp) ?_ (by rw[bG]<;>omega);rw[AU,<-m];refine⟨.ref s.heap.objs.size,_,I.laid (λb z q=>ae _ q) (aK _) ?_,rfl,q _ (I.hok.fresh (aK _))⟩;exact⟨aN (xI c d f) o,_,0,(r.drop (HT.sIx c.length 0 d)).take (HT.sIx c.length c.length f-HT.sIx c.length 0 d),ar _ rfl⟩
noncomputable def uy:V->Bool
 |.non=>true
 |.bl _=>true
 |.int _=>true
 |.str _=>true
 |_=>false
noncomputable def NO:V->V->Bool
 |.non,.non=>true
 |.bl a,.bl b=>a==b
 |.bl a,.int b=>(if a then 1 else 0)==b
 |.int a,.bl b=>a==(if b then 1 else 0)
 |.int a,.int b=>a==b
 |.str a,.str b=>a==b
 |_,_=>false
def RD(e:jD y u)(c:jD x v)(g:uy y=true)(f:uy x=true):SeqAt.EqAt A s u v (NO y x):=by
 cases y with
 |non=>
  cases e;cases x with
  |non=>cases c;exact SeqAt.EqAt.same _
  |bl b=>cases c;exact SeqAt.EqAt.none_bool b
  |int b=>obtain⟨t,rfl⟩:=c;exact SeqAt.EqAt.none_int b t
  |str b=>obtain⟨t,rfl⟩:=c;exact SeqAt.EqAt.none_str b t
  |_=>exact absurd (f) aH
 |bl a=>
  cases e;cases x with
  |non=>cases c;exact SeqAt.EqAt.bool_none a
  |bl b=>cases c;exact SeqAt.EqAt.bool_bool a b
  |int b=>obtain⟨t,rfl⟩:=c;exact SeqAt.EqAt.bool_int a b t
  |str b=>obtain⟨t,rfl⟩:=c;exact SeqAt.EqAt.bool_str a b t
  |_=>exact absurd (f) aH
 |int a=>
  obtain⟨d,rfl⟩:=e;cases x with
  |non=>cases c;exact SeqAt.EqAt.int_none a d
  |bl b=>cases c;exact SeqAt.EqAt.int_bool a d b
  |int b=>obtain⟨t,rfl⟩:=c;exact SeqAt.EqAt.int_int a d b t
  |str b=>obtain⟨t,rfl⟩:=c;exact SeqAt.EqAt.int_str a d b t
  |_=>exact absurd (f) aH
 |str a=>
  obtain⟨d,rfl⟩:=e;cases x with
  |non=>cases c;exact SeqAt.EqAt.str_none a d
  |bl b=>cases c;exact SeqAt.EqAt.str_bool a d b
  |int b=>obtain⟨t,rfl⟩:=c;exact SeqAt.EqAt.str_int a d b t
  |str b=>obtain⟨t,rfl⟩:=c;exact SeqAt.EqAt.str_str a d b t
  |_=>exact absurd (f) aH
 |_=>exact absurd (g) aH
noncomputable def GG(x:V)(u:Value):Bool:=match u with
 |.none=>NO .non x
 |.bool b=>NO (.bl b) x
 |.int i _=>NO (.int i) x
 |.str z _=>NO (.str z) x
 |_=>false
def KC(r:jD y u)(f:uy y=true):GG x u=NO y x:=by
 cases y with
 |non=>cases r;rfl
 |bl b=>cases r;rfl
 |int i=>obtain⟨t,rfl⟩:=r;rfl
 |str z=>obtain⟨t,rfl⟩:=r;rfl
 |_=>exact absurd (f) aH
theorem vx:∀{xs} {us},jc xs us->xs.all uy=true->us.any (GG x)=xs.any λy=>NO y x
 |_,_,.nil,_=>rfl
 |y::xs,u::us,.cons r t,f=>by rw[bW,bU]at f;rw[bX,bX,KC r f.1,vx t f.2]
theorem sT(d:jD x v)(e:uy x=true):∀{xs} {us},jc xs us->xs.all uy=true->∀u∈us,SeqAt.EqAt A s u v (GG x u)
 |_,_,.nil,_=>λu c=>by cases c
 |y::xs,u::us,.cons r t,f=>λg c=>by
  rw[bW,bU]at f;rcases aF.mp c with rfl|c
  .rw[KC r f.1];exact RD r d f.1 e
  .exact sT d e t f.2 g c
noncomputable def V6(x:V)(xs:List V):Bool:=xs.any λy=>NO y x
def Vy(K:W.Frag)(neg:Bool):R2:=λx y H Q=>∃p c,y=.ref p/\(mz K H p c\/oK K H p c)/\uy x=true/\c.all uy=true/\Q (.bl (if neg then !V6 x c else V6 x c)) H
def Jw:rO X (compareOp .In) (Vy X.K false):=by
 intro l s k H x y v u Q I g i h;obtain⟨p,m,rfl,d,f,fs,q⟩:=h;cases i;rcases d with d|d
 .obtain⟨c,r,e,j⟩:=I.list d;refine SeqAt.in_listAt (GG x) e.isList (λw hw=>sT g f r fs w (by simpa using hw)) ⟨.bl _,H,I,rfl,?_⟩;rw[show c.toArray.any (GG x)=c.any (GG x) by simp,vx r fs];exact q
 .obtain⟨c,r,e,j⟩:=I.tuple d;refine SeqAt.in_tupleAt (GG x) e (λw hw=>sT g f r fs w (by simpa using hw)) ⟨.bl _,H,I,rfl,?_⟩;rw[show c.toArray.any (GG x)=c.any (GG x) by simp,vx r fs];exact q
def Ck:rO X (compareOp .NotIn) (Vy X.K true):=by
 intro l s k H x y v u Q I g i h;obtain⟨p,m,rfl,d,f,fs,q⟩:=h;cases i;rcases d with d|d
 .obtain⟨c,r,e,j⟩:=I.list d;refine SeqAt.notIn_listAt (GG x) e.isList (λw hw=>sT g f r fs w (by simpa using hw)) ⟨.bl _,H,I,rfl,?_⟩;rw[show c.toArray.any (GG x)=c.any (GG x) by simp,vx r fs];exact q
 .obtain⟨c,r,e,j⟩:=I.tuple d;refine SeqAt.notIn_tupleAt (GG x) e (λw hw=>sT g f r fs w (by simpa using hw)) ⟨.bl _,H,I,rfl,?_⟩;rw[show c.toArray.any (GG x)=c.any (GG x) by simp,vx r fs];exact q
def Cc:lR X (.type "list") (λxs H Q=>∃p f,xs=[.ref p]/\(mz X.K H p f\/oK X.K H p f)/\∀l,H l=none->Q (.ref l) (jR H l (.lst f))):=by
 intro D s C H xs J Q I r h;obtain⟨p,f,rfl,k,q⟩:=h;obtain⟨u,rfl,F⟩:=qf r;cases F;have m:∀(c:List Value),jc f c->f.length<=sizeLine->∀(d:Heap) (g:Nat),(∀b B,s.heap.get? b=some B->d.get? b=some B)->
   d.get? s.heap.objs.size=some {cls:=.type "list",dict:=none,data:=.seq c.toArray g,slots:=#[]}->EP X D C Q (.ref s.heap.objs.size) {s with heap:=d}:=λc i v d g j e=>
  ⟨.ref s.heap.objs.size,_,I.laid j (aK _) (show lT X.prog X.w _ d _ (.lst f) from ⟨v,c,g,i,e⟩),rfl,q _ (I.hok.fresh (aK _))⟩
 rcases k with k|k
 .obtain⟨c,i,x,v⟩:=I.list k;have E:=i.length;obtain⟨o,y,z,n,A⟩:=x.isList;exact call_list_seq p (.inl rfl) y z A (λd g j e=>m c i v d g j e) (by simp only[bG]<;>omega)
 .obtain⟨c,i,x,v⟩:=I.tuple k;have E:=i.length;obtain⟨o,y,z,n,A⟩:=x;exact call_list_seq p (.inr rfl) y z A (λd g j e=>m c i v d g j e) (by simp only[bG]<;>omega)
def AJ:lR X (.type "tuple") (λxs H Q=>∃p d,xs=[.ref p]/\((mz X.K H p d/\∀l,H l=none->Q (.ref l) (jR H l (.tup d)))\/(oK X.K H p d/\Q (.ref p) H))):=by
 intro x s w H xs z Q I r h;obtain⟨p,d,rfl,h⟩:=h;obtain⟨u,rfl,y⟩:=qf r;cases y;rcases h with⟨f,q⟩|⟨f,q⟩
 .obtain⟨c,j,i,m⟩:=I.list f;have A:=j.length;refine call_tuple_list i.isList (λg v=>?_) (by simp only[bG]<;>omega);have k:=I.kept (t':=s.toks) v;have n:iG X x w (jR H g.objs.size (.tup d)) {s with heap:=g.push {cls:=.type "tuple",data:=.seq c.toArray}}:=
   k.laid (λb o e=>ae _ e) (aK _) (⟨m,c,j,zE.new _ _⟩)
  exact⟨.ref g.objs.size,_,n,rfl,q _ (k.hok.fresh (aK _))⟩
 .obtain⟨c,j,i,m⟩:=I.tuple f;exact call_tuple_same i ⟨.ref p,H,I,rfl,q⟩
def Tn(K:W.Frag)(T:String)(x:V)(H:Hp):Prop:=match x with
 |.str _=>T = "str"
 |.int _=>T = "int"
 |.ref p=>(T = "list" /\∃d,mz K H p d)\/(T = "tuple" /\∃o,K.lookup p=some o/\o.cls=.type "tuple" /\o.dict=none)\/
   (T = "dict" /\((∃c,H p=some (.dK c))\/∃c,H p=some (.dT c)))\/(T = "set" /\∃S n,H p=some (.set S n))
 |_=>False
theorem Td{u:List (Addr×Obj)}{q:St}{H:Hp}{s:Shared}{T:String}{x:V}{v:Value}(I:iG X u q H s)(r:jD x v)(ty:Tn X.K T x H) :
  s.TypeIs v T/\∀a,v=.ref a->∃l,s.heap.get? a=some l/\l.dict=none:=by
 cases x with
 |str z=>obtain⟨t,rfl⟩:=r;cases (ty);exact⟨typeIs_str s z t,λ_ e=>nomatch e⟩
 |int i=>obtain⟨t,rfl⟩:=r;cases (ty);exact⟨typeIs_int s i t,λ_ e=>nomatch e⟩
 |ref p=>
  cases r;rcases ty with⟨rfl,A,m⟩|⟨rfl,o,d,w,h⟩|⟨rfl,d⟩|⟨rfl,S,n,d⟩
  .obtain⟨y,_,k,_⟩:=I.list m;refine⟨k.isList.typeIs,λa e=>?_⟩;cases e;obtain⟨o,n,e,c,h,_⟩:=k;exact⟨o,e,h⟩
  .refine⟨⟨o,I.kIn p o d,w⟩,λa e=>?_⟩;cases e;exact⟨o,I.kIn _ o d,h⟩
  .have z:∃o,s.heap.get? p=some o/\o.ExactDict:=by
    rcases d with⟨g,d⟩|⟨g,d⟩
    .obtain⟨_,_,_,_,o,_,_,e,f,_⟩:=I.hok p _ d;exact⟨o,e,f⟩
    .obtain⟨_,_,_,_,o,_,_,e,f,_⟩:=I.hok p _ d;exact⟨o,e,f⟩
   obtain⟨o,e,f⟩:=z;refine⟨⟨o,e,f.1⟩,λa j=>?_⟩;cases j;exact⟨o,e,f.2.1⟩
  .obtain⟨o,_,_,_,e,f,_⟩:=I.hok p _ d;refine⟨⟨o,e,f.1⟩,λa j=>?_⟩;cases j;exact⟨o,e,f.2.1⟩
 |_=>exact False.elim ty
def Ux(K:W.Frag)(T:String)(r:V->List V->Hp->VK->Prop)(to:TE)(t:TA):TE:=λd H Q=>to d H λx c=>Tn K T x c/\t d c λf e=>r x f e Q
variable {o e:Expr}{es:List Expr}{to:TE}{t:TA}{name:Str}{apos cpos:Pos}{T id:String}{r:V->List V->Hp->VK->Prop}
def Ig(y:PlainAttrs T)(f:Slot T name id)(k:typeOf (.builtin id)=pure (.type "method_descriptor"))(p:Xi X id r)(u:PE X o to)(m:PA X (e::es) t)
  (d:attributeBase o name X.env (eval o X.env)=eval o X.env:=by rfl)
  (g:((backTo cpos (starEach (e::es) X.env)).all (λx=>!x.1)&&(backToKw cpos (keywordEach [] X.env)).all (λx=>x.1.isSome)
   && decide ((e::es).length+([]:List Keyword).length+(if ([]:List Keyword).isEmpty then 0 else 1)<30))=true:=by rfl)
  (c:(apos.endLine==cpos.line)=true:=by rfl) (n:starEach (e::es) X.env=(false,eval e X.env)::starEach es X.env:=by rfl) (hplain:(backTo cpos (starEach es X.env)).any (·.1)=false:=by rfl) :
  PE X (.Call (.Attribute o name apos) (e::es) [] cpos) (Ux X.K T r to t):=by
 intro j s i H Q I h;refine wpAny_Call_method_late d g c rfl (kS (u j s i H _ I h) λv s1 ⟨x,H1,I1,r1,ty,q1⟩=>?_);obtain⟨q,w⟩:=Td I1 r1 ty;refine⟨T,id,y,f,k,q,w,?_⟩;have l:=m cpos j s1 i H1 _ I1 q1;rw[n]at l ⊢;refine Calls.callWith_builtin (by show (false||(backTo cpos (starEach es X.env)).any (·.1))=false;rw[hplain]<;>rfl) (Calls.evalArgs_plain ?_);exact kS l λus s2 ⟨vs,H2,I2,r2,q2⟩=>p j s2 i H2 x vs v us Q I2 r1 r2 q2
end
end L2
namespace L2
open PySem PySem.Spec PyProof.Rows
def W0(X:Cx)(id:String)(r:V->List V->Hp->VK->Prop):Prop:=
 ∀(a:List (Addr×Obj)) (s:Shared) (c:St) (H:Hp) (x:V) (d:List V) (v:Value) (b:List Value) (Q:VK),iG X a c H s->jD x v->jc d b->r x d H Q->
  wpAny (model X.prog X.w) X.A (call (.builtin id) (v::b)) (EP X a c Q) X.xe s
theorem jc.one:∀{x} {us},jc [x] us->∃u,us=[u]/\jD x u
 |_,_,.cons r .nil=>⟨_,rfl,r⟩
theorem jc.rep(h:jc xs us):∀k:Nat,jc (List.replicate k xs).flatten (List.replicate k us).flatten
 |0=>.nil
 |k+1=>by rw[bY,bY,bZ,bZ];exact jc.append h (jc.rep h k)
theorem t5(its:List Value):∀k a,
  List.foldl (λd c=>d++c) a.toArray (List.replicate k its.toArray)=(a++(List.replicate k its).flatten).toArray
 |0,a=>by simp
 |k+1,a=>by
  have e:a.toArray++its.toArray=(a++its).toArray:=by simp
  have b:(a++its)++(List.replicate k its).flatten=a++(List.replicate (k+1) its).flatten:=by rw[bY,bZ,b4]
  rw[<-b,<-t5 its k (a++its),<-e,bY,List.foldl_cons]
section
variable {X:Cx}{gI:List (Addr×Obj)}{σ:St}{H:Hp}{s:Shared}{l b:Addr}{xs ys zs:List V}
def iG.lset{its a:List Value}(I:iG X gI σ H s)(g:H l=some (.lst xs))
  (e:s.heap.get? l=some {cls:=.type "list",data:=.seq its.toArray n}) (c:f its.toArray=a.toArray) (hv:jc ys a) (d:ys.length<=sizeLine) :
  iG X gI σ (jR H l (.lst ys)) {s with heap:=s.heap.update l (Obj.mapSeq f),toks:=t'}:=by
 have q:=PySem.IsL.update e f;rw[c]at q;refine I.write (by rw[g];exact trivial) (.inl rfl) (λj u h i=>(Heap.get?_update_other s.heap (Obj.mapSeq f) (Ne.symm h)).trans i) ⟨_,q⟩ ?_;exact⟨d,a,_,hv,q⟩
def iG.lnew(I:iG X gI σ H s)(hv:jc ys its)(a:ys.length<=sizeLine) :
  iG X gI σ (jR H s.heap.objs.size (.lst ys)) {s with heap:=s.heap.push {cls:=.type "list",data:=.seq its.toArray},toks:=t'}:=
 I.laid (λ_ _ q=>ae _ q) (aK _) ⟨a,its,0,hv,ar _ rfl⟩
def iG.fresh(I:iG X gI σ H s):H s.heap.objs.size=none:=I.hok.fresh (aK _)
def iG.lstM(I:iG X gI σ H s)(a:H l=some (.lst xs)):xs.length<=sizeLine/\∃its n,jc xs its/\xs.length=its.length/\s.heap.get? l=some {cls:=.type "list",data:=.seq its.toArray n}:=by obtain⟨z,its,n,r,e⟩:=I.hok l _ a;exact⟨z,its,n,r,r.length,e⟩
def Nv(h:n<=sizeLine):Builtin.List.listTooLong n=false:=by unfold Builtin.List.listTooLong;exact aB (by omega)
end
section
variable {X:Cx}
def rB:V->List V->Hp->VK->Prop:=λx b H Q=>∃l a y,x=.ref l/\b=[y]/\H l=some (.lst a)/\a.length<sizeLine/\Q .non (jR H l (.lst (a++[y])))
def tW:W0 X "list.append" rB:=by intro j s g H x k v o Q I f d h;obtain⟨l,m,y,rfl,rfl,b,p,q⟩:=h;cases f;obtain⟨u,rfl,c⟩:=d.one;obtain⟨z,a,n,r,i,e⟩:=I.lstM b;refine call_meets F.slot_list_append ⟨_,e,rfl⟩ F.entry_list_append (F.args_list_append_2 _ _) (PySem.list_append l a.toArray n u (by rw[bG];omega)) ⟨e,?_⟩;refine⟨.non,_,I.lset b e (by simp) (r.append (.cons c .nil)) ?_,rfl,q⟩;rw[aT,b5];omega
def Sz:R2:=λx y H Q=>∃l b c a,x=.ref l/\y=.ref b/\H l=some (.lst c)/\H b=some (.lst a)/\c.length+a.length<=sizeLine/\∀p,H p=none->Q (.ref p) (jR H p (.lst (c++a)))
def Kn:rO X (binaryOp .Add) Sz:=by
 intro A s p H x y v u Q I j i h;obtain⟨l,b,D,F,rfl,rfl,d,k,B,q⟩:=h;cases j;cases i;obtain⟨z,c,n,r,w,e⟩:=I.lstM d;obtain⟨C,a,E,o,f,g⟩:=I.lstM k;refine PySem.P.add_list e g ?_ (by rw[bG,bG];omega);have m:c.toArray++a.toArray=(c++a).toArray:=by simp
 rw[m];exact⟨.ref _,_,I.lnew (r.append o) (by rw[aT];omega),rfl,q _ I.fresh⟩
def Vn:R2:=λx y H Q=>∃l k a,x=.ref l/\y=.int k/\H l=some (.lst a)/\-(2 ^ 63)<=k/\k<2 ^ 63/\a.length*k.toNat<=sizeLine/\
 ∀p,H p=none->Q (.ref p) (jR H p (.lst (List.replicate k.toNat a).flatten))
def Cp{a:Type}(xs:List a) k:(List.replicate k xs).flatten.length=k*xs.length:=by
 induction k with
 |zero=>simp
 |succ k ih=>rw[bY,bZ,aT,ih,Nat.succ_mul,Nat.add_comm]
def RH:rO X (binaryOp .Mult) Vn:=by
 intro N s L H x y v u Q I K E h;obtain⟨l,k,P,rfl,rfl,w,C,D,o,q⟩:=h;cases K;obtain⟨t,rfl⟩:=E;obtain⟨z,b,n,r,A,e⟩:=I.lstM w;have J:b.toArray.size*k.toNat<=sizeLine:=by rw[bG,<-A];exact o
 have f:¬b.toArray.size*k.toNat>(2 ^ 63-1) / 8:=by
  have:sizeLine<=(2 ^ 63-1) / 8:=by decide
  omega
 have d:¬(!Builtin.List.listFitsIndex k)=true:=by rw[fitsIndex_both C D];exact aH
 have c:¬Builtin.List.listTooLong (b.toArray.size*k.toNat)=true:=by rw[Nv J];exact aH
 have g:List.foldl (λj i=>j++i) #[] (List.replicate (if b.toArray.isEmpty=true then 0 else k.toNat) b.toArray)=(List.replicate k.toNat b).flatten.toArray:=by
  have B:∀m:Nat,List.foldl (λj i=>j++i) #[] (List.replicate m b.toArray)=(List.replicate m b).flatten.toArray:=λm=>by have:=t5 b m [];rw[b6]at this;exact this
  rw[B];cases b with
  |nil=>simp
  |cons a r'=>rw[aR (by simp)]
 refine wpAny_binaryOp_repeat_ref (by decide) ⟨_,e,rfl⟩ (λp=>typeIs_int p k t) noFill_list_mul F.fills_int_mul F.slot_int_rmul repeat_list F.slot_int_index.lookup
  (call_meets F.slot_int_rmul (typeIs_int s k t) F.entry_int_rmul (F.args_int_rmul_2 _ _) (int___rmul___int_list k t l b.toArray n)
   ⟨e,rfl,⟨_,e,rfl⟩,call_meets F.slot_list_mul ⟨_,e,rfl⟩ F.entry_list_mul (F.args_list_mul_2 _ _) (AutoListH.list___mul___list_int_3 l b.toArray n k t d f c) ⟨e,?_⟩⟩)
 rw[g];exact⟨.ref _,_,I.lnew (r.rep k.toNat) (by rw[Cp,b7];exact o),rfl,q _ I.fresh⟩
end
end L2
namespace Att
open PySem PySem.W PySem.Calls PyProof.Rows
def xP:∀c vs,WellAll P h vs (c.map WData.int)->IntsAre vs c:=by
 intro c;induction c with
 |nil=>intro vs w;rw[b9]at w;cases w;exact .nil
 |cons n c ih=>
  intro vs w;rw[bI]at w;cases w with
  |cons a b=>cases a;exact .cons _ _ (ih _ b)
theorem script_of{l:OpenLaw}(k:l.most=some n)
  (b:l.row.toRowW.claim.pre args=true) (g:WellAll P h vals args) :
  ∃a vs c,vals=[Value.ref a]/\args=[WData.list (c.map WData.int)]/\h.get? a=some {cls:=.type "list",data:=.seq vs.toArray}/\IntsAre vs c/\c.length<=n:=by
 have i:=(pre_splitW b).1;have j:l.pre.holds [] {args:=args}=true:=(pre_splitW b).2;obtain⟨d,r,rfl,m,p⟩:=hasAllW_cons i;obtain rfl:=hasAllW_nil p;obtain⟨u,rfl,o⟩:=hasW_list m;obtain⟨c,rfl⟩:=items_int o;have s:c.length<=n:=by
  unfold OpenLaw.pre at j;have e:(WTm.not (.lt (.lit (.int n)) (.len (.arg 0)))).holds [] {args:=[.list (c.map .int)]}=true:=by have e:=(holds_andW j).1;rw[k]at e;exact e
  have f:=condW_of e (w_not (w_lt w_lit (w_len_list (w_arg rfl))));rw[aw]at f;refine cf λq=>?_;first
   | (rw[aC q']at f;exact absurd f (by decide))
   | (simp at f;omega)
 cases g with
 |cons w1 w2=>
  cases w2;cases w1 with
  |list ho J7=>exact⟨_,_,c,rfl,rfl,ho,xP c _ J7,s⟩
def post_true(l:OpenLaw) args:l.row.toRowW.claim.post args (.bool true) args=true:=
 postW_of
  (show WShape.has [] (.bool true) .bool=true by first|rfl|decide|simp[WShape.has,WShape.arms,WShape.armsAll])
  (w_eq_bool (w_res rfl) w_lit) rfl
end Att
namespace L2
open PySem PySem.Spec PyProof.Rows
theorem Bo:∀{vs} {ns},IntsAre vs ns->jc (ns.map V.int) vs
 |_,_,.nil=>.nil
 |_,_,.cons n t h=>.cons ⟨t,rfl⟩ (Bo h)
def Sg(H:Hp):Prop:=∀b,H b=none\/∃o a,H b=some (.frz o (.lst a))
def DF(h:Heap)(H:Hp)(a:List (Addr×Addr)):Heap:=⟨(KP h H).objs,{ids:=a}⟩
theorem Nf{K:W.Frag}
  (KX:K.In s₁.heap) (J:s₁.heap.Ns mainGlobals mg) (f:s₁.heap.Ns builtinsNs mb) (U:∀x:Str,x≠ "__name__" ->mb x=bootBuiltins x) (B:s₁.heap.NoLimit) (hg:s₁.gens = #[])
  (L:s₁.heap.get? a=some {cls:=.type "list",data:=.seq vs.toArray}) (hi:IntsAre vs ns) (hl:ns.length<=sizeLine) (hr:jZ k callerA)
  (F:∀g:Heap,K.In g->g.Ns mainGlobals mg->pR P w K mg g CX k fa fd [x] sp) (p:∀(s:Shared) (u:Value),BindsTo s fd ⟨[u],[]⟩ [(x,u)])
  (Z:∀H:Hp,Sg H->mz K H a (ns.map V.int)->sp [.ref a] H (λv _=>v=.bl true) λ_ _ _=>False)
  (R:∀H e i,CX [] H s₁ (λ_ _ _=>False) e i->False) :
  codeAny (model P w) callerA (.call (.ref fa) ⟨[.ref a],[]⟩) (λr i=>r=.ok (.ret (.bool true))/\OldK s₁.heap i.heap/\i.os=s₁.os/\AllBare i.gens) s₁:=by
 have rv:=Bo hi;have A:=hi.length;have l:∀H:Hp,Sg H->mz K H a (ns.map V.int)->uc P w H s₁.heap->(∀b,H b≠none->b=a)->(H a≠none->K.lookup a=none)->
   codeAny (model P w) callerA (.call (.ref fa) ⟨[.ref a],[]⟩) (λr i=>r=.ok (.ret (.bool true))/\OldK s₁.heap i.heap/\i.os=s₁.os/\AllBare i.gens) s₁:=by
  intro H hO hS E hA hK;have base_of:∀{b:Addr} {o:Obj},s₁.heap.get? b=some o->H b=none->(DF s₁.heap H []).get? b=some o:=λe n=>K6 e n;have X:∀{b:Addr} {o:Obj} {N:Array DictEntry} {Q:Nat},s₁.heap.get? b=some o->o.data=.dict N Q->H b=none:=λ{b o N Q} e d=>by
   cases q:H b with
   |none=>rfl
   |some u=>have S:=hA b (by rw[q];simp);subst S;rw[L]at e;cases e;have d':=d;cases d'
  have j:∀{b:Addr} {m:Str->Option Value},s₁.heap.Ns b m->(DF s₁.heap H []).Ns b m:=λ{b m} ⟨o,N,Q,e,d,r⟩=>⟨o,N,Q,base_of e (X e d),d,r⟩;have I:K.In (DF s₁.heap H []):=λb o e=>base_of (KX b o e) (by
   cases q:H b with
   |none=>rfl
   |some u=>have S:=hA b (by rw[q];simp);subst S;rw[hK (by rw[q];simp)]at e;cases e)
  have hM:Mod K mg (DF s₁.heap H []):=⟨I,j J,⟨mb,j f,U⟩,let ⟨mc,h1,h2⟩:=B;⟨mc,j h1,h2⟩⟩;have e0:FK P w K mg (DF s₁.heap H []) callerA [] s₁ H:=⟨rfl,hM,λb o e=>Qm e,bJ (IC _ _),trivial,λb f=>absurd (show b∈([]) from f) (by simp),E,.of_eq hg,λc P qn hm=>nomatch (show (c,P)∈([]:List (Addr×Addr)) from hm)⟩;refine codeAny_mono ((F _ I (j J)).run callerA [] s₁ H ⟨[.ref a],[]⟩ [.ref a] [.ref a] _ _ hr e0 (p s₁ (.ref a)) (.cons rfl .nil) (Z H hO hS)) λr i h=>?_;cases r with
  |error e=>exact (R H e i h).elim
  |ok fl=>
   cases fl with
   |next=>exact False.elim h
   |brk=>exact False.elim h
   |cont=>exact False.elim h
   |ret u=>
    obtain⟨v,H',os,C,un,y,r',q⟩:=h;have q':=q;subst q';obtain rfl:u=Value.bool true:=r';refine⟨rfl,OldK.of_keep λb o e=>?_,os,C⟩;cases q:H b with
    |none=>exact un.keep b o e q (by intro z;exact absurd (show b∈([]) from z) (by simp)) (by simp)
    |some u=>
     rcases hO b with z|⟨ob,xs,z⟩
     .rw[q]at z;cases z
     .have z2:=un.frzs b ob _ z;obtain⟨e1,_⟩:=E b _ z;obtain⟨e2,_⟩:=y b _ z2;rw[e]at e1;cases e1;exact e2
 cases Y:K.lookup a with
 |some o=>have e:=KX a o Y;rw[L]at e;cases e;refine l (λ_=>none) (λ_=>.inl rfl) (.inr ⟨_,vs.toArray,_,Y,rfl,rfl,rfl,by rw[bG,A];exact hl,by simpa using rv⟩) (λb u z=>by have D:=z;cases D) (λb z=>absurd rfl z) λz=>absurd rfl z
 |none=>
  refine l (λb=>if b=a then some (.frz {cls:=.type "list",data:=.seq vs.toArray} (.lst (ns.map V.int))) else none) (λb=>?_) (.inl (.inr ⟨{cls:=.type "list",data:=.seq vs.toArray},aQ rfl⟩)) (λb u z=>?_) (λb z=>?_) λ_=>Y
  .by_cases f:b=a
   .exact .inr ⟨_,_,aQ f⟩
   .exact .inl (aR f)
  .by_cases f:b=a
   .have D:=(aQ f).symm.trans z;cases D;subst f;exact⟨L,by rw[aw];exact hl,vs,_,rv,L⟩
   .have D:=(aR f).symm.trans z;cases D
  .by_cases f:b=a
   .exact f
   .exact absurd (aR f) z
end L2
namespace L2
open PySem PySem.Spec PyProof.Rows
noncomputable def p9(s:Stmt)(j:Nat):Stmt:=match s with
 |.ClassDef _ _ _ body _ _ _ _ _ _ _=>body.getD j (.Pass ⟨0,0,0,0⟩)
 |_=>.Pass ⟨0,0,0,0⟩
noncomputable def kH(s:Stmt):Arguments:=match s with
 |.FunctionDef _ a _ _ _ _ _ _ _ _=>a
 |_=>{posonlyargs:=[],args:=[],vararg:=none,kwonlyargs:=[],kw_defaults:=[],kwarg:=none,defaults:=[]}
noncomputable def jx(s:Stmt):List Stmt:=match s with
 |.FunctionDef _ _ b _ _ _ _ _ _ _=>b
 |_=>[]
noncomputable def gZ(s:Stmt):Scope:=match s with
 |.FunctionDef _ _ _ _ _ _ sc _ _ _=>sc
 |_=>{kind:=.function,names:=[],isGenerator:=false,isCoroutine:=false}
abbrev Aw:Pl:=λ_ _ _ _ _ _=>False
abbrev E0:XK:=λ_ _ _=>False
def Lk:wZ Aw X E0:=λ_ _ _ _ _ _ _ h=>h.elim
structure NR(K:W.Frag)(x qual:Str)(st:Stmt)(f:Addr)(fd:FuncData):Prop where
 ex:∃(oc:Value) (od:Option Addr) (kV doc pm:Value) (an:Option Addr) (cdv ct:Value) (osl:Array (Option Value)),
  fd=W.fnOf x qual (kH st) (jx st) (gZ st) .none kV doc pm an cdv ct/\K.lookup f=some ⟨oc,od,.func fd,osl⟩/\W.codeIn K cdv qual=true
 kp:W.keepIn K (.ref f)=true
section
variable {P:Program}{w:World}{K:W.Frag}{mg:Str->Option Value}{base:Heap}
def NR.ok{st:Stmt}(F:NR K x qual st f fd)(S:kh N ps (gZ st))(e:∀vs H Q E,sp vs H Q E->vs.length=ps.length)
  (c:∀b A a s H vs Q E,jZ k (A.deeper (envOfC qual (gZ st) s.heap.objs.size f b))->sp vs H Q E->
   ∃t,Ek (sM Aw P w K mg base N qual (gZ st) f b A a s H E).nox (jx st) t/\t {nx:=λ_ m=>Q .non m,rt:=Q} (oM N vs) H):pR P w K mg base Aw (k+1) f fd ps sp:=by
 obtain⟨u,r,kV,l,p,n,b,o,i,rfl,j,d⟩:=F.ex;refine UY j d S e λA a s H vs Q E hr g=>?_;obtain⟨t,h,q⟩:=c b A a s H vs Q E hr g;exact⟨t,h.nox,q⟩
def NR.binds{st:Stmt}(F:NR K x qual st f fd)
  (h:∀(kV a d:Value) (e:Option Addr) (b c:Value) (us:List Value),us.length=ps.length->bindArgs (W.fnOf x qual (kH st) (jx st) (gZ st) .none kV a d e b c) ⟨us,[]⟩=pure (ps.zip us)):tK K fd ps []:=by
 obtain⟨l,k,kV,a,d,e,b,c,g,rfl,j,i⟩:=F.ex;exact .all (h kV a d e b c)
def FN{st:Stmt}{kV b e a d:Value}(l:K.lookup f=some ⟨oc,od,.func (W.fnOf x qual (kH st) (jx st) (gZ st) .none kV b e an a d),osl⟩)
  (c:W.codeIn K a qual=true) (k:W.keepIn K (.ref f)=true):NR K x qual st f (W.fnOf x qual (kH st) (jx st) (gZ st) .none kV b e an a d):=⟨⟨oc,od,kV,b,e,an,a,d,osl,rfl,l,c⟩,k⟩
end
def Lf(hr:jZ k A):A.units+1<cLine:=cg (Nat.add_le_add_left (by decide:1<=64) _) hr.units
section
variable {X:Cx}
def pv i (b:X.N[i]? = some x:=by rfl) (hv:VJ X.env.scope x:=by first|exact Or.inl rfl|exact Or.inr (Or.inl rfl)|exact Or.inr (Or.inr rfl)) (c:(x==("__debug__" : Str))=false:=by decide)
  (a:(x==("__classdict__" : Str))=false:=by decide):PE X (.Name x pos) (nM i):=Tf b hv c a
end
def J9(o:HO)(x:Option HO):Prop:=match o with
 |.tbl q ps=>∃a,x=some (.tbl q (ps++a))
 |o=>x=some o
def J9.of(h:x=some o):J9 o x:=by
 cases o with
 |tbl q ps=>exact⟨#[],by rw[h];simp⟩
 |_=>exact h
def J9.ne(h:J9 o x):x≠none:=by
 cases o with
 |tbl q ps=>obtain⟨m,e⟩:=h;rw[e];exact λz=>nomatch z
 |_=>have e:x=some _:=h;rw[e];exact λz=>nomatch z
def iJ(H a:Hp):Prop:=∀b o,H b=some o->J9 o (a b)
def iJ.refl H:iJ H H:=λ_ _ h=>.of h
def iJ.trans(a:iJ H H1)(b:iJ H1 H2):iJ H H2:=λc o h=>by
 have q:=a c o h;cases o with
 |tbl q ps=>obtain⟨m,e⟩:=q;obtain⟨f,d⟩:=b c _ e;exact⟨m++f,by rw[d,bA]⟩
 |_=>exact b c _ q
def iJ.seq{K:W.Frag}(e:iJ H H')(h:mz K H a xs):mz K H' a xs:=by
 rcases h with (h|⟨o,h⟩)|h
 .exact .inl (.inl (e _ _ h))
 .exact .inl (.inr ⟨o,e _ _ h⟩)
 .exact .inr h
end L2
namespace L2
open PySem PySem.Spec PyProof.Rows
section
variable {P:Program}{w:World}{H:Hp}{h:Heap}{a:Addr}{o:HO}
def uc.track(ok:uc P w H h)(d:H a=none)(new:lT P w (jR H a o) h a o):uc P w (jR H a o) h:=λb u e=>by
 by_cases f:b=a
 .subst f;rw[hU]at e;cases e;exact new
 .rw[gY f]at e;refine (ok b u e).stay (λ_ _ _ q=>q) (λc q=>?_) λc g q=>?_
  .rw[gY (iX q d)];exact q
  .rw[gY (iX q d)];exact q
end
def iG.track(I:iG X gI σ H s)(d:H a=none)(h:a∈X.ex\/X.s₀.heap.objs.size<=a)
  (g:a≠X.env.locals) (j:∀x c,X.env.cells.lookup x=some c->c≠a) (i:∀p∈X.pn++gI,p.1≠a) (new:lT X.prog X.w (jR H a o) s.heap a o):iG X gI σ (jR H a o) s:=by
 have J:=I.step (t':=s.toks) (d':=s.drawn) (ch:=[a])
  (λb f=>by
   have e:b=a:=by simpa using f
   subst e;exact⟨h,g,j,i⟩)
  (λ_ _ _ _ _ e _=>e) (λ_ u _ _ _ e _=>⟨u.slots,e⟩)
  (λb u f _ n=>by rw[gY (by simpa using f)];exact n)
  (λ_ u _ e=>⟨u,e⟩)
  (λb l q=>by rw[gY (iX q d)];exact q)
  (λb u v q=>by rw[gY (iX q d)];exact q)
  (λb _ k q=>⟨#[],by rw[gY (iX q d),q];simp⟩)
  (λ_ q=>q) (I.hok.track d new) I.bare
 exact J
noncomputable def oH(a:Env):List (Str×NameKind)->List (Str×Addr)->List (Str×Addr)
 |[],acc=>acc
 | (n,k)::r,acc=>if k==NameKind.free then (match a.cells.lookup n with
  |some c=>oH a r ((n,c)::acc)
  |none=>oH a r acc) else oH a r acc
def uw(h:∀y∈scope.names,y.2=.free->∃c,env.cells.lookup y.1=some c):closureFor scope env=pure (oH env scope.names []):=by
 have all:∀(l:List (Str×NameKind)) b,(∀y∈l,y.2=.free->∃c,env.cells.lookup y.1=some c)->
   (forIn l b λx cs=>(if (x.2==NameKind.free)=true then (do
    let a <-cellOf env x.1
    pure (ForInStep.yield ((x.1,a)::cs))) else pure (ForInStep.yield cs):Sem _))=pure (oH env l b):=by
  intro l;induction l with
  |nil=>intro b _;rfl
  |cons y r ih=>
   intro b j;obtain⟨n,k⟩:=y;rw[List.forIn_cons];by_cases d:(k==NameKind.free)=true
   .obtain⟨c,m⟩:=j (n,k) bx (by simpa using d);have f:=m;have e:cellOf env n=pure c:=by unfold cellOf;rw[f]
    simp only[d,if_true,e,pure_bind];rw[ih _ λy g=>j y (bz _ g)];show pure (oH env r ((n,c)::b))=pure (if (k==NameKind.free)=true then (match env.cells.lookup n with
     |some c=>oH env r ((n,c)::b)
     |none=>oH env r b) else oH env r b)
    rw[aQ d,f]
   .have i:(k==NameKind.free)=false:=by simpa using d
    simp only[i,cj,if_false,pure_bind];rw[ih _ λy g=>j y (bz _ g)];show pure (oH env r b)=pure (if (k==NameKind.free)=true then (match env.cells.lookup n with
     |some c=>oH env r ((n,c)::b)
     |none=>oH env r b) else oH env r b)
    rw[aR d]
 have:=all scope.names [] h;unfold closureFor;simp only[pure_bind,bind_pure]at this ⊢;exact this
theorem om:∀{l} {acc},(∀y d,acc.lookup y=some d->env.cells.lookup y=some d)->(oH env l acc).lookup x=some c->env.cells.lookup x=some c
 |[],acc,ha,h=>ha x c h
 | (n,k)::r,acc,ha,h=>by
  unfold oH at h;by_cases b:(k==NameKind.free)=true
  .rw[aQ b]at h;cases e:env.cells.lookup n with
   |none=>rw[e]at h;exact om ha h
   |some d=>
    rw[e]at h;refine om (λy d' a=>?_) h;rw[cm]at a;cases q:y==n with
    |true=>rw[q]at a;cases a;rw[beq_iff_eq.mp q];exact e
    |false=>rw[q]at a;exact ha y d' a
  .rw[aR b]at h;exact om ha h
theorem tP:∀{l} {acc},(∃c,acc.lookup x=some c)->∃c,(oH env l acc).lookup x=some c
 |[],_,h=>h
 | (n,k)::r,acc,h=>by
  unfold oH;by_cases a:(k==NameKind.free)=true
  .rw[aQ a];cases e:env.cells.lookup n with
   |none=>exact tP h
   |some d=>
    refine tP ?_;rw[cm];cases q:x==n with
    |true=>exact⟨d,rfl⟩
    |false=>exact h
  .rw[aR a];exact tP h
theorem qO:∀{l} {acc},(x,NameKind.free)∈l->(∃c,env.cells.lookup x=some c)->∃c,(oH env l acc).lookup x=some c
 | (n,k)::r,acc,b,a=>by
  rcases aF.mp b with e|b
  .cases e;obtain⟨c,a⟩:=a;unfold oH;rw[aQ (by rfl),a];refine tP ⟨c,?_⟩;rw[cm,beq_self_eq_true]
  .unfold oH;by_cases f:(k==NameKind.free)=true
   .rw[aQ f];cases env.cells.lookup n with
    |none=>exact qO b a
    |some d=>exact qO b a
   .rw[aR f];exact qO b a
def vQ(h:(relabel scope env).names.lookup x=some .cell\/(relabel scope env).names.lookup x=some .free):(x,NameKind.free)∈scope.names\/scope.names.lookup x=some .cell:=by
 have all:∀(l:List (Str×NameKind)),∀k,(k=NameKind.cell\/k=NameKind.free)->
   (l.map λ(n,k)=>if (k==NameKind.free&&env.scope.kind==.function&&env.kindOf n==some .cell) then (n,NameKind.cell) else (n,k)).lookup x=some k->(x,NameKind.free)∈l\/l.lookup x=some .cell:=by
  intro l;induction l with
  |nil=>intro k _ h;simp at h
  |cons y r ih=>
   intro k c h;obtain⟨n,b⟩:=y;rw[bI]at h;by_cases a:(b==NameKind.free&&env.scope.kind==.function&&env.kindOf n==some .cell)=true
   .have d:b=.free:=by simp only[bU,beq_iff_eq]at a;exact a.1.1
    simp only[a,if_true]at h;rw[cm]at h;cases q:x==n with
    |true=>rw[d,beq_iff_eq.mp q];exact .inl bx
    |false=>
     rw[q]at h;rcases ih k c h with z|z
     .exact .inl (bz _ z)
     .exact .inr (by rw[cm,q];exact z)
   .simp only[a,cj,if_false]at h;rw[cm]at h;cases q:x==n with
    |true=>
     rw[q]at h;have e:b=k:=by simpa using h
     rcases c with rfl|rfl
     .exact .inr (by rw[cm,q,e])
     .rw[e,beq_iff_eq.mp q];exact .inl bx
    |false=>
     rw[q]at h;rcases ih k c h with z|z
     .exact .inl (bz _ z)
     .exact .inr (by rw[cm,q];exact z)
 rcases h with h|h
 .exact all scope.names _ (.inl rfl) h
 .exact all scope.names _ (.inr rfl) h
def Dl(h:scope.names.lookup x=some .free):(relabel scope env).names.lookup x=some .cell\/(relabel scope env).names.lookup x=some .free:=by
 have all:∀(l:List (Str×NameKind)),l.lookup x=some .free->
   (l.map λ(n,k)=>if (k==NameKind.free&&env.scope.kind==.function&&env.kindOf n==some .cell) then (n,NameKind.cell) else (n,k)).lookup x=some .cell\/
   (l.map λ(n,k)=>if (k==NameKind.free&&env.scope.kind==.function&&env.kindOf n==some .cell) then (n,NameKind.cell) else (n,k)).lookup x=some .free:=by
  intro l;induction l with
  |nil=>intro h;simp at h
  |cons y r ih=>
   intro h;obtain⟨n,k⟩:=y;rw[bI];rw[cm]at h;cases q:x==n with
   |true=>
    rw[q]at h;have b:k=.free:=by simpa using h
    by_cases a:(k==NameKind.free&&env.scope.kind==.function&&env.kindOf n==some .cell)=true
    .refine .inl ?_;simp only[a,if_true];rw[cm,q]
    .refine .inr ?_;simp only[a,cj,if_false];rw[cm,q,b]
   |false=>
    rw[q]at h;by_cases a:(k==NameKind.free&&env.scope.kind==.function&&env.kindOf n==some .cell)=true
    .simp only[a,if_true];rw[cm,q];exact ih h
    .simp only[a,cj,if_false];rw[cm,q];exact ih h
 exact all scope.names h
def Jc(X:Cx)(a:List Expr)(t:TT):Prop:=
 ∀(d:List (Addr×Obj)) (s:Shared) (b:St) (H:Hp) (Q:Bool->Hp->Prop),iG X d b H s->t b H Q->
  wpAny (model X.prog X.w) X.A (forIn a true λc r=>if r=true then do let ok <-isTrue c X.env (eval c X.env);pure (ForInStep.yield ok) else pure (ForInStep.yield r)) (TP X d b Q) X.xe s
def Sd:TT:=λ_ H Q=>Q true H
def PX:Jc X [] Sd:=λ_ _ _ H _ I h=>wpAny_tests_nil ⟨H,I,h⟩
def N6(d:PT X c t):Jc X [c] t:=λa s b H Q I h=>wpAny_tests_one (d a s b H Q I h)
theorem pM:∀a k b,(cellsFrom k a b).lookup x=some c->b.lookup x=some c\/(k<=c/\(x,NameKind.cell)∈a)
 |[],_,_,h=>.inl h
 | (n,kd)::r,k,b,h=>by
  unfold cellsFrom at h;split at h
  .rename_i e;rcases pM r _ _ h with q|⟨q,m⟩
   .rw[cm]at q;cases d:x==n with
    |true=>rw[d]at q;cases q;refine .inr ⟨aK _,?_⟩;rw[beq_iff_eq.mp d,beq_iff_eq.mp e];exact bx
    |false=>rw[d]at q;exact .inl q
   .exact .inr ⟨cq q,bz _ m⟩
  .rcases pM r _ _ h with q|⟨q,m⟩
   .exact .inl q
   .exact .inr ⟨q,bz _ m⟩
theorem oz:∀a k b,(x,NameKind.cell)∉a->(cellsFrom k a b).lookup x=b.lookup x
 |[],_,_,_=>rfl
 | (n,kd)::r,k,b,h=>by
  unfold cellsFrom;have hr:(x,NameKind.cell)∉r:=λz=>h (bz _ z);split
  .rename_i c;rw[oz r _ _ hr,cm];cases d:x==n with
   |true=>exact absurd (by rw[beq_iff_eq.mp d,beq_iff_eq.mp c];exact bx) h
   |false=>rfl
  .exact oz r _ _ hr
theorem qF:∀a k b,(x,NameKind.cell)∈a->(cellsFrom k a b).lookup x=some c->k<=c
 |[],_,_,h,_=>nomatch h
 | (n,kd)::r,k,b,h,e=>by
  unfold cellsFrom at e;by_cases hr:(x,NameKind.cell)∈r
  .split at e
   .exact cq (qF r _ _ hr e)
   .exact qF r _ _ hr e
  .rcases aF.mp h with q|q
   .cases q;rw[aQ (by rfl),oz r _ _ hr,cm,beq_self_eq_true]at e;cases e;exact aK _
   .exact absurd q hr
theorem qB:∀d k a,(∀x y c,a.lookup x=some c->a.lookup y=some c->x=y)->(∀x c,a.lookup x=some c->c<k)->
  ∀x y c,(cellsFrom k d a).lookup x=some c->(cellsFrom k d a).lookup y=some c->x=y
 |[],_,_,h,_=>h
 | (n,kd)::r,k,a,h,hl=>by
  unfold cellsFrom;split
  .refine qB r (k+1) ((n,k)::a) (λx y c b e=>?_) λx c b=>?_
   .rw[cm]at b e;cases f:x==n with
    |true=>
     cases g:y==n with
     |true=>rw[beq_iff_eq.mp f,beq_iff_eq.mp g]
     |false=>rw[f]at b;rw[g]at e;cases b;exact absurd (hl _ _ e) (a9 _)
    |false=>
     rw[f]at b;cases g:y==n with
     |true=>rw[g]at e;cases e;exact absurd (hl _ _ b) (a9 _)
     |false=>rw[g]at e;exact h x y c b e
   .rw[cm]at b;cases f:x==n with
    |true=>rw[f]at b;cases b;exact bK _
    |false=>rw[f]at b;exact cv (hl x c b)
  .exact qB r k a h hl
theorem pO:∀a h b,(cellsFrom h.objs.size a b).lookup x=some c->b.lookup x=some c\/(h.objs.size<=c/\(pushCells h a).IsCell c none)
 |[],_,_,e=>.inl e
 | (n,kd)::r,h,b,e=>by
  unfold cellsFrom at e;unfold pushCells;split at e
  .rename_i d;rw[aQ d];have g:(cellsFrom (h.push {cls:=.type "cell",data:=.cell none}).objs.size r ((n,h.objs.size)::b)).lookup x=some c:=by rw[Heap.size_push];exact e
   rcases pO r _ _ g with q|⟨q,m⟩
   .rw[cm]at q;cases f:x==n with
    |true=>rw[f]at q;cases q;exact .inr ⟨aK _,_,pushCells_keeps r _ _ _ (ar _ rfl),rfl⟩
    |false=>rw[f]at q;exact .inl q
   .rw[Heap.size_push]at q;exact .inr ⟨cq q,m⟩
  .rename_i d;rw[aR d];exact pO r _ _ e
def wV{M:Model}{A:Around}{E:Value->Shared->Prop}{s:Shared}{a:Scope}{globals:Addr}{closure:List (Str×Addr)}{d:Str}{c:Option Addr}{e:Value}{b:Env}{builtins:Addr}{Q:Env->Shared->Prop}
  (j:Q (newEnv a s.heap.objs.size globals (cellsFrom (s.heap.objs.size+1) a.names closure) d c e (some b) builtins) {s with heap:=pushCells (s.heap.push {cls:=.type "dict",data:=.dict #[]}) a.names}) :
  wpAny M A (newFunctionEnv a globals closure [] d c e (some b) builtins) Q E s:=by
 simp only[newFunctionEnv,cw,if_true];refine ao (wpAny_alloc ?_);refine ao (wpAny_layCells _ (λi f g=>by cases h:f==NameKind.cell<;>simp[h]) _ _ _ _ ?_);rw[show ({s with heap:=s.heap.push {cls:=.type "dict",data:=.dict #[]}}:Shared).heap.objs.size=s.heap.objs.size+1 from Heap.size_push ..];rw[List.forIn_nil];exact ao (ak (ak j))
noncomputable def pj(X:Cx)(N:List Str)(a:Scope)(C:Addr)(b:Shared)(H:Hp)(ex:List Addr)(pn:List (Addr×Obj)):Cx:={X with N:=N,s₀:=b,H₀:=H,env:=compEnvC a (cellsFrom (C+1) a.names (oH X.env a.names [])) C X.env,outer:=X.stack,ex:=ex,fn:=λx=>a.names.lookup x==some .cell,pn:=pn,xe:=λ_ _=>False}
noncomputable def pull(ix:List (Option Nat))(a:St):St:=ix.map fun
 |none=>none
 |some j=>(a[j]?).getD none
def WV(J:It)(ix:List (Option Nat))(g:TG)(k:TT)(o:TE)(j:St)(n:Hp)(Q:VK):Prop:=∃W:Nat->Nat->List V->Hp->Prop,(∃m,W 0 m [] n)/\∀i m c H,W i m c H->
 (J.stop i H/\∀D,H D=none->Q (.ref D) (jR H D (.lst c)))\/
 (J.go i H/\c.length<sizeLine/\∀x f,J.yld i H x f->g x (pull ix j) f λd l=>k d l λb e=>if b=true then o d e λy h=>∃a,a<m/\W (i+1) a (c++[y]) h else ∃a,a<m/\W (i+1) a c e)
def Kj(ix:List (Option Nat))(b:TI)(g:TG)(e:TT)(d:TE):TE:=λa H Q=>b a H λJ c=>WV J ix g e d a c Q
end L2
namespace L2
open PySem PySem.Spec PyProof.Rows
section
variable {prog:Program}{w:World}{A:Around}{R:Result->Shared->Prop}{s:Shared}
theorem Cy{u F g:Expr}{q:List Expr}{d:Scope}{pos:Pos}{it p:Value}{a:Env}(J:Nat->Shared->Prop)
  (C:∀n s,J n s->wpAny (model prog w) A (pyNext it) (λr e=>match r with
   |none=>R (.ok .next) e
   |some v=>wpAny (model prog w) A (letOwnedTupleGo F it v) (λ_ j=>wpAny (model prog w) A (assign F a v) (λ_ o=>
     wpAny (model prog w) A (forIn q true λc r=>if r=true then do let ok <-isTrue c a (eval c a);pure (ForInStep.yield ok) else pure (ForInStep.yield r)) (λok b=>
      if ok=true then wpAny (model prog w) A (eval u a) (λx l=>wpAny (model prog w) A (call (.builtin "list.append") [p,x]) (λ_ k=>∃m,m<n/\J m k) (λ_ _=>False) l) (λ_ _=>False) b
      else ∃m,m<n/\J m b) (λ_ _=>False) o) (λ_ _=>False) j) (λ_ _=>False) e) (λ_ _=>False) s)
  (n:Nat) (h:J n s):codeAny (model prog w) A (.compLoop (.ListComp u [⟨F,g,q,0⟩] d pos) 0 it p a) R s:=by
 refine codeAny_loop rfl J (λn s H=>?_) n h;show wpAny _ A ((compTurn (.ListComp u [⟨F,g,q,0⟩] d pos) 0 it p a).onRaise (λx=>do noteFrame x a;theTreesLotGoes x)) _ _ s;refine wpAny_noted ?_;rw[compTurn_list];refine ao (wpAny_standAt (ao (wpAny_mono (C n s H) (λr e i=>?_) λ_ _ z=>z.elim)));cases r with
 |none=>exact ak i
 |some v=>
  refine ao (wpAny_mono i (λ_ j E=>?_) λ_ _ z=>z.elim);refine ao (wpAny_mono E (λ_ o B=>ao (wpAny_mono B (λok b f=>?_) λ_ _ z=>z.elim)) λ_ _ z=>z.elim);cases ok with
  |false=>exact ak ⟨rfl,f⟩
  |true=>exact ao (ao (wpAny_mono f (λx l y=>ao (wpAny_mono y (λ_ k D=>ak (ak ⟨rfl,D⟩)) λ_ _ z=>z.elim)) λ_ _ z=>z.elim))
end
def rA(ix:List (Option Nat))(g:TG):Prop:=∀x a H Q,g x a H Q->g x a H λb c=>(∀i j:Nat,ix[i]? = some (some j)->b[i]? = a[i]?)/\Q b c
def Al(b:ix[k]? = some none):rA ix (j9 k):=λx a H Q h=>by
 refine⟨λi j e=>?_,h⟩;have:k≠i:=by rintro rfl;rw[b]at e;cases e
 rw[aq this]
abbrev AB(us:List Value):Obj:={cls:=.type "list",data:=.seq us.toArray us.length}
section
variable {X:Cx}{tg elt iter:Expr}{ifs:List Expr}{scope:Scope}{pos:Pos}{N:List Str}{ix:List (Option Nat)}{wi:TI}{g:TG}{tt:TT}{te:TE}
structure Dt(X:Cx)(scope:Scope)(N:List Str)(ix:List (Option Nat)):Prop where
 kind:scope.kind=.function
 sep:∀y∈scope.names,y.2=.cell->scope.names.lookup y.1=some .cell
 names:∀y∈scope.names,y.2=.local->scope.names.lookup y.1=some .local
 fre:∀y∈scope.names,y.2=.free->∃c,X.env.cells.lookup y.1=some c
 len:N.length=ix.length
 ix:∀(i j:Nat) (x:Str),N[i]? = some x->ix[i]? = some (some j)->X.N[j]? = some x/\scope.names.lookup x=some .free/\VJ X.env.scope x/\X.env.kindOf x≠some .local
def Vk(L:Dt X scope N ix)(I:iG X gI σ H s)(f:∀b∈fp,uO X gI H b)(j:∀b∈fp,b<s.heap.objs.size) o :
  (pj X N scope (s.heap.objs.size+1) {s with heap:=s.heap.push o} H (s.heap.objs.size::fp) (X.pn++gI)).Ok:=by
 have v:iG X gI σ H {s with heap:=s.heap.push o}:=I.kept λb u e=>ae _ e;have sound0:∀x c,(oH X.env scope.names []).lookup x=some c->X.env.cells.lookup x=some c:=λx c e=>om (λy d z=>by simp at z) e;have cellLt:∀x c,X.env.cells.lookup x=some c->c<s.heap.objs.size:=λx c e=>let ⟨_,q⟩:=I.cell x c e;q.lt;have h:∀x c,(cellsFrom (s.heap.objs.size+1+1) scope.names (oH X.env scope.names [])).lookup x=some c->X.env.cells.lookup x=some c\/s.heap.objs.size+1+1<=c:=λx c e=>by
  rcases pM _ _ _ e with q|⟨q,_⟩
  .exact .inl (sound0 x c q)
  .exact .inr q
 refine⟨I.ok.mod,L.kind,I.ok.glob,I.ok.blt,?_,qB _ _ _ (λx y c i n=>I.ok.inj x y c (sound0 x c i) (sound0 y c n)) (λx c i=>cv (cv (cellLt x c (sound0 x c i)))),λx r=>?_,λx c i n=>?_,I.ok.hd,I.ok.frames,.inl rfl,λb a=>?_,λb u e=>?_,?_,λb u e a=>?_,λb a=>?_,v.stack,I.stkFree,I.tab⟩
 .show (s.heap.push o).objs.size<=s.heap.objs.size+1;rw[Heap.size_push];exact aK _
 .refine bQ.mp (W.cellsFrom_some _ _ _ ?_);rcases vQ r with k|k
  .exact .inr (bQ.mpr (qO k (L.fre _ k rfl)))
  .exact .inl k
 .have m:(scope.names.lookup x==some .cell)=true:=i;have w:scope.names.lookup x=some .cell:=by simpa using m
  show (s.heap.push o).objs.size<=c;rw[Heap.size_push];exact cq (qF _ _ _ (PySem.mem_of_lookup w) n)
 .rcases aF.mp a with rfl|a
  .refine⟨aM (bK _),λx c e z=>?_⟩;rcases h x c e with q|q
   .exact absurd (cellLt x c q) (by rw[z];exact a9 _)
   .rw[z]at q;omega
  .refine⟨aM (cv (j b a)),λx c e=>?_⟩;rcases h x c e with q|q
   .exact (f b a).2.2.2.2.1 x c q
   .intro z;rw[z]at q;exact absurd (aN (cx _ 2) q) (Nat.not_le.mpr (j b a))
 .exact⟨ae _ (I.bs b u e).1,(I.bs b u e).2⟩
 .show X.base.objs.size<=(s.heap.push o).objs.size;rw[Heap.size_push];exact cy (aN I.ok.bsz I.sz)
 .have l:=aL (I.bs b u e).1;rcases aF.mp a with rfl|a
  .exact a9 _ l
  .rcases (f b a).2.2.2.1 with z|z
   .exact I.ok.noex b u e z
   .exact absurd (aE (aL e) (aN I.ok.bsz z)) (a9 _)
 .intro z;have p:=I.stkSub b z;rcases aF.mp a with rfl|a
  .rcases aF.mp p with q|q
   .exact absurd I.lt (by rw[<-q];exact a9 _)
   .exact I.nofs (aK _) q
  .rcases aF.mp p with q|q
   .exact (f b a).2.1 q
   .exact (f b a).2.2.1 q
end
end L2
namespace L2
open PySem PySem.Spec PyProof.Rows
section
variable {X:Cx}{tg elt iter:Expr}{ifs:List Expr}{scope:Scope}{pos:Pos}{N:List Str}{ix:List (Option Nat)}{wi:TI}{g:TG}{tt:TT}{te:TE}
def Et{i:Nat}(h:(pull ix σ)[i]? = some (some v)):∃j,ix[i]? = some (some j)/\σ[j]? = some (some v):=by
 unfold pull at h;rw[av]at h;cases e:ix[i]? with
 |none=>rw[e]at h;cases h
 |some k=>
  rw[e]at h;cases k with
  |none=>cases h
  |some j=>
   refine⟨j,rfl,?_⟩;have a:(σ[j]?).getD none=some v:=by simpa using h
   cases q:σ[j]? with
   |none=>rw[q]at a;cases a
   |some z=>rw[q]at a;simpa using a
theorem Ia{RR:Value->Addr->Result->Shared->Prop}{Q:VK}{W:Nat->Nat->List V->Hp->Prop}
  (hc:X.calm=true) (L:Dt X scope N ix) (hgk:rA ix g)
  (blk:∀C P H ex pn,PG (pj X N scope C P H ex pn) tg g/\Jc (pj X N scope C P H ex pn) ifs tt/\PE (pj X N scope C P H ex pn) elt te)
  (l:iG X gI σ H2 s2) (T:ED X.prog X.w X.K tg J fp it tn) (st2:tn 0 s2.heap) (f2:∀b∈fp,uO X gI H2 b) (w0:W 0 m0 [] H2)
  (turn:∀i m U H,W i m U H->(J.stop i H/\∀D,H D=none->Q (.ref D) (jR H D (.lst U)))\/
   (J.go i H/\U.length<sizeLine/\∀x s,J.yld i H x s->g x (pull ix σ) s λσ2 H2=>tt σ2 H2 λb H3=>if b=true then te σ2 H3 λy H4=>∃m',m'<m/\W (i+1) m' (U++[y]) H4 else ∃m',m'<m/\W (i+1) m' U H3))
  (fin:∀D C m s Z,Z.heap.Ns C m->uO X gI s C->iG X gI σ s Z->Q (.ref D) s->RR (.ref D) C (.ok .next) Z) :
  wpAny (model X.prog X.w) X.A (newList []) (λacc P=>wpAny (model X.prog X.w) X.A (newFunctionEnv scope X.env.globals (oH X.env scope.names []) [] X.env.qual none .none (some X.env)) (λcenv s₄=>codeAny (model X.prog X.w) X.A (.compStart (.ListComp elt [⟨tg,iter,ifs,0⟩] scope pos) 0 (.ref it) acc {cenv with scope:=relabel scope X.env}) (RR acc cenv.locals) s₄) E P) E s2:=by
 refine wpAny_newObj_type (wV ?_);have hCs:(s2.heap.push {cls:=.type "list",dict:=none,data:=.seq ([]).toArray}).objs.size=s2.heap.objs.size+1:=Heap.size_push ..;generalize S:pushCells ((s2.heap.push {cls:=.type "list",dict:=none,data:=.seq ([]).toArray}).push {cls:=.type "dict",data:=.dict #[]}) scope.names=h₁;rw[hCs];have hns₁:h₁.Ns (s2.heap.objs.size+1) (λ_=>none):=by rw[<-S,<-hCs];exact (Heap.Ns.new _ _).keeps (pushCells_keeps _ _)
 have Y:∀x c,(cellsFrom (s2.heap.objs.size+1+1) scope.names (oH X.env scope.names [])).lookup x=some c->X.env.cells.lookup x=some c\/(s2.heap.objs.size+1+1<=c/\h₁.IsCell c none):=λx c e=>by
  have hs3:((s2.heap.push {cls:=.type "list",dict:=none,data:=.seq ([]).toArray}).push {cls:=.type "dict",data:=.dict #[]}).objs.size=s2.heap.objs.size+1+1:=by rw[Heap.size_push,hCs]
  rw[<-hs3]at e;rcases pO _ _ _ e with q|⟨q,m⟩
  .exact .inl (om (λy d z=>by simp at z) q)
  .rw[hs3]at q;rw[S]at m;exact .inr ⟨q,m⟩
 have fpObj:=T.obj 0 _ st2;have hlt:∀b∈fp,b<s2.heap.objs.size:=λb h=>let ⟨_,e,_⟩:=fpObj b h;aL e;have ok:=Vk L l f2 hlt {cls:=.type "list",dict:=none,data:=.seq ([]).toArray};have DC:s2.heap.objs.size≠s2.heap.objs.size+1:=aM (bK _);have hold:∀b o,(s2.heap.push {cls:=.type "list",dict:=none,data:=.seq ([]).toArray}).get? b=some o->h₁.get? b=some o:=λb o e=>by rw[<-S];exact pushCells_keeps _ _ _ _ (ae _ e)
 have old:∀b o,s2.heap.get? b=some o->h₁.get? b=some o:=λb o e=>hold b o (ae _ e);have sound:∀x c,(oH X.env scope.names []).lookup x=some c->X.env.cells.lookup x=some c:=λx c e=>om (λy d z=>by simp at z) e;have cellLt:∀x c,X.env.cells.lookup x=some c->c<s2.heap.objs.size:=λx c e=>let ⟨_,q⟩:=l.cell x c e;q.lt;have hDn:=l.hok.fresh (aK _);have hCn:=l.hok.fresh (bN _);have F:∀p∈X.pn++gI,p.1<s2.heap.objs.size:=λp f=>aL (l.pin p f).1;have hDfs:s2.heap.objs.size∉IS X.stack:=λz=>by
  rcases aF.mp (l.stkSub _ z) with q|q
  .exact absurd l.lt (by rw[<-q];exact a9 _)
  .exact l.nofs (aK _) q
 have I':iG (pj X N scope (s2.heap.objs.size+1) {s2 with heap:=s2.heap.push {cls:=.type "list",dict:=none,data:=.seq ([]).toArray}} H2 (s2.heap.objs.size::fp) (X.pn++gI))
   [(s2.heap.objs.size,AB [])] (pull ix σ) H2 {s2 with heap:=h₁,toks:=s2.toks}:=by
  refine⟨ok,rfl,l.bare,Un.kept hold,⟨_,hns₁,λi x v h1 h2 h3=>?_⟩,λx c e=>?_,hCn,λx c e=>?_,λp f=>?_,l.hok.kept old,?_⟩
  .obtain⟨j,ej,es⟩:=Et h2;obtain⟨q1,q2,q3,q4⟩:=L.ix i j x h1 ej;obtain⟨m,_,hl⟩:=l.loc;obtain⟨u,r,lk⟩:=hl j x v q1 es q3;refine⟨u,r,?_⟩;rcases lk with⟨k,_⟩|⟨k,c,hcl,hv⟩
   .exact absurd k q4
   .obtain⟨c',hc'⟩:=qO (PySem.mem_of_lookup q2) ⟨c,hcl⟩;have:=sound x c' hc';rw[hcl]at this;cases this;have hnc:(x,NameKind.cell)∉scope.names:=λz=>by have:=L.sep _ z rfl;rw[q2]at this;cases this
    refine .inr ⟨?_,c,(oz _ _ _ hnc).trans hc',let ⟨ob,ho,hd⟩:=hv;⟨ob,old c ob ho,hd⟩⟩;exact Dl q2
  .rcases Y x c e with q|⟨_,q⟩
   .obtain⟨v,ob,ho,hd⟩:=l.cell x c q;exact⟨v,ob,old c ob ho,hd⟩
   .exact⟨none,q⟩
  .rcases Y x c e with q|⟨q,_⟩
   .exact l.freeC x c q
   .exact l.hok.fresh (aN (cx _ 2) q)
  .rcases ai.mp f with f|f
   .obtain⟨e,n,ne,nf,d⟩:=l.pin p f;refine⟨old _ _ e,n,aM (cv (F p f)),λz=>?_,d⟩;rcases aF.mp (l.stkSub _ z) with q|q
    .exact ne q
    .exact nf q
   .have e:p=(s2.heap.objs.size,AB []):=by simpa using f
    subst e;exact⟨hold _ _ (ar _ rfl),hDn,DC,hDfs,λv z=>by cases z⟩
  .unfold pull;rw[aw];exact L.len.symm
 generalize a:pj X N scope (s2.heap.objs.size+1) {s2 with heap:=s2.heap.push {cls:=.type "list",dict:=none,data:=.seq ([]).toArray}} H2 (s2.heap.objs.size::fp) (X.pn++gI)=X' at I';obtain⟨hg,hif,he⟩:=blk (s2.heap.objs.size+1) {s2 with heap:=s2.heap.push {cls:=.type "list",dict:=none,data:=.seq ([]).toArray}} H2 (s2.heap.objs.size::fp) (X.pn++gI);rw[a]at hg hif he;have stat:∀{s:Hp} {R:List Value},(∀b∈fp,s b=none)->∀b∈fp,uO X' [(s2.heap.objs.size,AB R)] s b:=λ{s R} hn b h=>by
  subst a;obtain⟨_,f1,f2',f3,f4,f5⟩:=f2 b h;refine⟨hn b h,aM (cv (hlt b h)),λz=>?_,.inl (bz _ h),λx c e=>?_,λp f=>?_⟩
  .rcases aF.mp (l.stkSub _ z) with q|q
   .exact f1 q
   .exact f2' q
  .rcases Y x c e with q|⟨q,_⟩
   .exact f4 x c q
   .intro z;rw[z]at q;exact absurd (aN (cx _ 2) q) (Nat.not_le.mpr (hlt b h))
  .rcases ai.mp f with f|f
   .exact f5 p f
   .have e:p=(s2.heap.objs.size,AB R):=by simpa using f
    subst e;exact Ne.symm (aM (hlt b h))
 have loop:codeAny (model X.prog X.w) X.A (.compLoop (.ListComp elt [⟨tg,iter,ifs,0⟩] scope pos) 0 (.ref it) (.ref s2.heap.objs.size) X'.env) (RR (.ref s2.heap.objs.size) (s2.heap.objs.size+1))
   {s2 with heap:=h₁,toks:=s2.toks}:=by
  refine Cy (λn Z=>∃i U R s,iG X' [(s2.heap.objs.size,AB R)] (pull ix σ) s Z/\jc U R/\U.length<=sizeLine/\tn i Z.heap/\(∀b∈fp,s b=none)/\W i n U s) ?_ m0
   ⟨0,[],[],H2,I',.nil,bL _,T.keep _ _ _ st2 λb _ o e=>old b o e,λb h=>(f2 b h).1,w0⟩
  rintro n s3 ⟨i,U,R,H3,I3,rv,hz,st3,fr3,w3⟩;have hcX:X'.calm=true:=by subst a;exact hc
  have hA:X'.A=X.A:=by subst a;rfl
  rcases turn i n U H3 w3 with⟨stop,qn⟩|⟨go,mN,step⟩
  .have hd:=T.done X' (by subst a;rfl) (by subst a;rfl) (by subst a;rfl) hcX i _ s3 _ H3 (λ_ _=>False) I3 (stat fr3) st3 stop;rw[hA]at hd;refine kS hd λr s4 ⟨hr,I4⟩=>?_;subst hr;subst a;obtain⟨m,hn,_⟩:=I4.loc;have hD3:=I4.pin (s2.heap.objs.size,AB R) (bF _ bx);have u1:Un (IS X.stack) fp H2 H3 s2.heap s4.heap:=by
    have B:=I4.base;have nD:∀b o,s2.heap.get? b=some o->b∉fp->b∉s2.heap.objs.size::fp:=λb o e h z=>by
     rcases aF.mp z with q|q
     .exact absurd (aL e) (by rw[q];exact a9 _)
     .exact h q
    exact⟨λb o e n h hx=>B.keep b o (ae _ e) n h (nD b o e hx),λb o e n h hx=>B.slot b o (ae _ e) n h (nD b o e hx),
     λb o e n hx=>B.free b o (ae _ e) n (nD b o e hx),λb o e hx=>B.there b o (ae _ e) (nD b o e hx),B.tups,B.frzs,B.tbls⟩
   have I5:=l.call' I4.os u1 I4.hok I4.bare λb h=>let ⟨_,f1,_,f3,f4,f5⟩:=f2 b h;⟨f3,f1,f4,f5⟩;have I6:iG X gI σ (jR H3 s2.heap.objs.size (.lst U)) s4:=I5.track hD3.2.1 (.inr l.sz) (Ne.symm (aM l.lt)) (λx c e z=>absurd (cellLt x c e) (by rw[z];exact a9 _))
    (λp f=>aM (F p f)) ⟨hz,R,R.length,rv,hD3.1⟩
   refine fin _ _ m _ s4 hn ⟨?_,?_,?_,.inr (cy l.sz),λx c e z=>?_,λp f=>?_⟩ I6 (qn _ hD3.2.1)
   .rw[gY (Ne.symm DC)];exact I4.free
   .exact Ne.symm (aM (cv l.lt))
   .exact l.nofs (bN _)
   .exact absurd (cellLt x c e) (by rw[z];exact Nat.not_lt.mpr (bN _))
   .exact aM (cv (F p f))
  .have hd:=T.item X' (by subst a;rfl) (by subst a;rfl) (by subst a;rfl) hcX i _ s3 _ H3 (λ_ _=>False) I3 (stat fr3) st3 go;rw[hA]at hd;refine kS hd λr s4 ⟨u,hr,h4⟩=>?_;subst hr;refine kS h4 λ_ s5 ⟨x,H5,I5,r5,y5,st5,fr5⟩=>?_;have I5':=I5.pinned (stat fr5) (T.obj _ _ st5);have hM:model X'.prog X'.w=model X.prog X.w:=by subst a;rfl
   have hE:X'.xe=λ_ _=>False:=by subst a;rfl
   have a6:=hg _ s5 _ H5 x u _ I5' r5 (hgk x _ H5 _ (step x H5 y5));rw[hM,hA,hE]at a6;refine kS a6 λ_ s6 ⟨σ6,H6,I6,agr,q6⟩=>?_;have a7:=hif _ s6 σ6 H6 _ I6 q6;rw[hM,hA,hE]at a7;refine kS a7 λok s7 ⟨H7,I7,q7⟩=>?_;have back:∀{Z:Shared} {s:Hp} {pl:List (Addr×Obj)},iG X' pl σ6 s Z->iG X' pl (pull ix σ) s Z:=λ{Z s pl} I=>by
    refine I.weak ?_ λk v e=>?_
    .have e1:=I.len;have e2:=I3.len;rw[e1,e2]
    .obtain⟨j,ej,_⟩:=Et e;rw[agr k j ej];exact e
   have held:∀{Z:Shared} {s:Hp},iG X' ([(s2.heap.objs.size,AB R)]++zI fp s5.heap) σ6 s Z->tn (i+1) Z.heap/\∀b∈fp,s b=none:=λ{Z s} I=>by refine⟨T.keep _ _ _ st5 λb h o e=>(I.pin (b,o) (bF _ (bF _ (rJ h e)))).1,λb h=>?_⟩;obtain⟨o,e,_⟩:=T.obj _ _ st5 b h;exact (I.pin (b,o) (bF _ (bF _ (rJ h e)))).2.1
   cases ok with
   |false=>rw[aR aH]at q7 ⊢;obtain⟨m',hm,w7⟩:=q7;obtain⟨k1,k2⟩:=held I7;exact⟨m',hm,i+1,U,R,H7,(back I7).unpinned,rv,hz,k1,k2,w7⟩
   |true=>
    rw[aQ rfl]at q7 ⊢;have a8:=he _ s7 σ6 H7 _ I7 q7;rw[hM,hA,hE]at a8;refine kS a8 λy s8 ⟨yv,H8,I8,r8,m',hm,w8⟩=>?_;obtain⟨k1,k2⟩:=held I8;have hD8:=I8.pin (s2.heap.objs.size,AB R) (bF _ (ax _ bx));have hl:=rv.length;refine append_at hD8.1 λh9 sb hD9=>?_;have I9:iG X' [] (pull ix σ) H8 s8:=(back I8).pins_of λp f=>by simp at f
    have I10:=I9.turned (t':=s8.toks) (λb o h e=>sb.extBut b o h e) hD8.2.1 hD8.2.2.1 (.inl (by subst a;exact bx))
     (λx c e z=>by
      subst a;rcases Y x c e with q|⟨q,_⟩
      .exact absurd (cellLt x c q) (by rw[z];exact a9 _)
      .rw[z]at q;omega) (λp f z=>by
      subst a;rcases ai.mp f with f|f
      .exact absurd (F p f) (by rw[z];exact a9 _)
      .simp at f)
    have e9:h9.get? s2.heap.objs.size=some (AB (R++[y])):=by rw[hD9];simp
    refine⟨m',hm,i+1,U++[yv],R++[y],H8,I10.pins_of λp f=>?_,rv.append (.cons r8 .nil),by rw[aT,b5];omega,?_,k2,w8⟩
    .have e:p=(s2.heap.objs.size,AB (R++[y])):=by simpa using f
     subst e;exact⟨e9,hD8.2.1,hD8.2.2.1,hD8.2.2.2.1,λv z=>by cases z⟩
    .exact T.keep _ _ _ k1 λb h o e=>sb.extBut b o (aM (hlt b h)) e
 have loop':=loop;subst a;exact codeAny_compStart_list loop (T.self X.A 0 _ _ _ (T.keep _ _ _ st2 λb _ o e=>old b o e) loop')
def VE(R:X.calm=true)(K:PI X tg iter wi)(L:Dt X scope N ix)(i:rA ix g)
  (l:∀C a H j k,PG (pj X N scope C a H j k) tg g/\Jc (pj X N scope C a H j k) ifs tt/\PE (pj X N scope C a H j k) elt te)
  (w:∀x,foldedSetIterable iter X.env x=pure x:=by intro _;rfl):PE X (.ListComp elt [⟨tg,iter,ifs,0⟩] scope pos) (Kj ix wi g tt te):=by
 intro y s r H Q I h;rw[eval_ListComp];refine wpAny_comprehension_free rfl w (uw L.fre) L.kind L.names (kS (K y s r H _ I h) λv Y E=>kS E λP s2 S=>?_);obtain⟨it,fp,tn,J,H2,e,n,T,d,z,W,⟨m0,p⟩,c⟩:=S;subst e;refine Ia R L i l n T d z p c λD C m U Z B f F q=>?_;refine⟨m,B,λh' u=>⟨.ref D,U,F.turned (λb o A e=>u.extBut b o A e) f.1 f.2.1 f.2.2.2.1 f.2.2.2.2.1 f.2.2.2.2.2,rfl,q⟩⟩
end
end L2
namespace L2
open PySem PySem.Spec PyProof.Rows
structure gQ(K:W.Frag)(mg:Str->Option Value)(x:Str)(st:Stmt):Prop where
 ex:∃f fd,NR K x x st f fd/\mg x=some (.ref f)
def RC{K:W.Frag}{st:Stmt}{kV d g b e:Value}(X:K.In h)(G:h.Ns mainGlobals mg)
  (a:W.nsIn K mainGlobals x=some (some (.ref f)))
  (l:K.lookup f=some ⟨oc,od,.func (W.fnOf x x (kH st) (jx st) (gZ st) .none kV d g an b e),osl⟩)
  (c:W.codeIn K b x=true) (k:W.keepIn K (.ref f)=true):gQ K mg x st:=⟨f,_,FN l c k,W.mg_of X G a⟩
structure mU(P:Program)(w:World)(K:W.Frag)(mg:Str->Option Value)(base:Heap)(x:Str)(k:Nat)(sp:Sp):Prop where
 ex:∃f fd ps,pR P w K mg base Aw k f fd ps sp/\mg x=some (.ref f)/\W.keepIn K (.ref f)=true/\tK K fd ps []
def mU.mono{K:W.Frag}(h:mU P w K mg base x j sp)(d:j<=k):mU P w K mg base x k sp:=
 let ⟨f,fd,ps,F,a,b,c⟩:=h.ex
 ⟨f,fd,ps,F.mono d,a,b,c⟩
def De{K:W.Frag}{st:Stmt}(D:gQ K mg x st)(S:kh N ps (gZ st))
  (i:∀(kV e l:Value) (h:Option Addr) (a j:Value) (us:List Value),us.length=ps.length->bindArgs (W.fnOf x x (kH st) (jx st) (gZ st) .none kV e l h a j) ⟨us,[]⟩=pure (ps.zip us))
  (d:∀vs H Q E,sp vs H Q E->vs.length=ps.length)
  (b:∀f a A c s H vs Q E,jZ k (A.deeper (envOfC x (gZ st) s.heap.objs.size f a))->sp vs H Q E->
   ∃t,Ek (sM Aw P w K mg base N x (gZ st) f a A c s H E).nox (jx st) t/\t {nx:=λ_ n=>Q .non n,rt:=Q} (oM N vs) H):mU P w K mg base x (k+1) sp:=by
 obtain⟨f,g,F,m⟩:=D.ex;exact⟨f,g,ps,F.ok S d (b f),m,F.kp,F.binds i⟩
section
variable {X:Cx}{x:Str}{k:Nat}{sp:Sp}{e:Expr}{es:List Expr}{t:TA}{p pos:Pos}
def yV(h:mU X.prog X.w X.K X.mg X.base x k sp)(hr:jZ k X.A)(j:PA X (e::es) t)(l:Gl X x:=by rfl)
  (g:(x==("__debug__" : Str))=false:=by decide) (i:starEach (e::es) X.env=(false,eval e X.env)::starEach es X.env:=by rfl) (d:(backTo pos (starEach es X.env)).any (·.1)=false:=by rfl) :
  PE X (.Call (.Name x p) (e::es) [] pos) (uA sp [] E0 t):=by
 obtain⟨f,n,m,F,a,b,c⟩:=h.ex;exact ON F hr l a b c .nil Lk j g i d
end
def OO:rO X (binaryOp .Mult) (rI (λi j=>PySem.IntMulOk i j) λi j=>.int (i*j)):=V2 λ_ _ _ _ _ _ _ a q=>mul_int q a
def KN:rO X (binaryOp .FloorDiv) (rI (λi j=>j≠0/\Builtin.divisionGoesByPylong i j=false) λi j=>.int (i.fdiv j)):=V2 λ_ _ _ _ _ _ _ a q=>floordiv_int a.1 q (.inl a.2)
end L2
namespace L2
open PySem PySem.Spec PyProof.Rows PySem.W
mutual
inductive DV(K:Frag)(H:Hp):V->PyData->Prop
 |non:DV K H .non .none
 |bl (b:Bool):DV K H (.bl b) (.bool b)
 |int (i:Int):DV K H (.int i) (.int i)
 |str (x:Str):DV K H (.str x) (.str x)
 |lst {a:Addr} {xs:List V} {ds:List PyData} (h:mz K H a xs) (hs:DM K H xs ds):DV K H (.ref a) (.list ds)
 |tup {a:Addr} {xs:List V} {ds:List PyData} (h:oK K H a xs) (hs:DM K H xs ds):DV K H (.ref a) (.tuple ds)
inductive DM(K:Frag)(H:Hp):List V->List PyData->Prop
 |nil:DM K H [] []
 |cons {v:V} {d:PyData} {vs:List V} {ds:List PyData} (h:DV K H v d) (hs:DM K H vs ds):DM K H (v::vs) (d::ds)
end
section
variable {X:Cx}{gI:List (Addr×Obj)}{σ:St}{H:Hp}{s:Shared}
mutual
theorem DV.reads(I:iG X gI σ H s):∀{v} {d} {u},DV X.K H v d->jD v u->∃as,Reads s.heap u d as
 |_,_,_,.non,r=>by cases r;exact⟨_,.none⟩
 |_,_,_,.bl b,r=>by cases r;exact⟨_,.bool b⟩
 |_,_,_,.int i,r=>by obtain⟨t,rfl⟩:=r;exact⟨_,.int i t⟩
 |_,_,_,.str x,r=>by obtain⟨t,rfl⟩:=r;exact⟨_,.str x t⟩
 |_,_,_,.lst h hs,r=>by cases r;obtain⟨j,g,⟨o,n,e,a,k,c⟩,_⟩:=I.list h;obtain⟨as,f⟩:=DM.reads I hs g;exact⟨_,.list e a c (by simpa using f)⟩
 |_,_,_,.tup h hs,r=>by cases r;obtain⟨j,g,⟨o,e,a,n,c⟩,_⟩:=I.tuple h;obtain⟨as,f⟩:=DM.reads I hs g;exact⟨_,.tuple e a c (by simpa using f)⟩
theorem DM.reads(I:iG X gI σ H s):∀{vs} {ds} {us},DM X.K H vs ds->jc vs us->∃as,ReadsAll s.heap us ds as
 |_,_,_,.nil,r=>by cases r;exact⟨_,.nil⟩
 |_,_,_,.cons h hs,r=>by
  cases r with
  |cons r1 r2=>obtain⟨as,a⟩:=DV.reads I h r1;obtain⟨bs,rb⟩:=DM.reads I hs r2;exact⟨_,.cons a rb⟩
end
def GQ(K:Frag)(neg:Bool):R2:=λx y H Q=>∃a b,DV K H x a/\DV K H y b/\(a.canLay0=true/\b.canLay0=true/\a.depth<=100)/\Q (.bl (if neg then !PyData.eqv a b else PyData.eqv a b)) H
def Ku(n:X.A.units+200<cLine):rO X (compareOp .Eq) (GQ X.K false):=by intro j s i H x y v u Q I g f h;obtain⟨k,l,d,e,⟨b,a,m⟩,q⟩:=h;obtain⟨as,c⟩:=d.reads I g;obtain⟨bs,rb⟩:=e.reads I f;exact SeqAt.eqOverData _ _ _ _ _ _ _ _ _ _ _ _ c rb b a (by omega) ⟨.bl _,H,I,rfl,q⟩
def LS(n:X.A.units+200<cLine):rO X (compareOp .NotEq) (GQ X.K true):=by intro j s i H x y v u Q I g f h;obtain⟨k,l,d,e,⟨b,a,m⟩,q⟩:=h;obtain⟨as,c⟩:=d.reads I g;obtain⟨bs,rb⟩:=e.reads I f;exact SeqAt.neOverData _ _ _ _ _ _ _ _ _ _ _ _ c rb b a (by omega) ⟨.bl _,H,I,rfl,q⟩
def VY(hr:jZ k A):A.units+200<cLine:=by have:=hr.un;omega
end
end L2
namespace L2
open PySem PySem.Spec PyProof.Rows
theorem EA:∀{bs:List Bool} {us:List Value},jc (bs.map V.bl) us->us=bs.map Value.bool
 |[],_,.nil=>rfl
 |b::bs,u::us,.cons r t=>by have e:=r;rw[e,EA t];rfl
theorem zS:∀{ns} {us},jc (ns.map V.int) us->IntsAre us ns
 |[],_,.nil=>.nil
 |n::ns,u::us,.cons r t=>by obtain⟨a,e⟩:=(r);rw[e];exact .cons n a (zS t)
def IX{bs:List Bool}:(List.range bs.length).all (λi=>bs.getD i false)=bs.all id:=by
 induction bs with
 |nil=>rfl
 |cons b bs ih=>rw[ay,cA,bW,cB,bW,<-ih];rfl
def BM{bs:List Bool}:(List.range bs.length).any (λi=>bs.getD i false)=bs.any id:=by
 induction bs with
 |nil=>rfl
 |cons b bs ih=>rw[ay,cA,bX,cC,bX,<-ih];rfl
section
variable {X:Cx}
def Jm{bs:List Bool}:TruthOf prog w A (λi v=>(bs.map Value.bool).toArray[i]? = some v) (λi=>bs.getD i false):=λi v s Q E d a=>by
 have e:(bs.map Value.bool)[i]? = some v:=by simpa using d
 rw[av]at e;cases c:bs[i]? with
 |none=>rw[c]at e;cases e
 |some b=>
  rw[c]at e;cases e;have:bs.getD i false=b:=by rw[af,c];rfl
  dsimp only at a;rw[this]at a;exact ak a
def NH(g:X.calm=true):lR X (.builtin "all") (λxs H Q=>∃(p:Addr) (bs:List Bool),xs=[.ref p]/\mz X.K H p (bs.map V.bl)/\Q (.bl (bs.all id)) H):=by
 intro v s n H xs y Q I r h;obtain⟨p,bs,rfl,f,q⟩:=h;obtain⟨u,rfl,l⟩:=qf r;cases l;obtain⟨j,k,a,B⟩:=I.list f;have e:=EA k;subst e;have c:p<s.heap.objs.size:=by obtain⟨_,e,_⟩:=a.isList;exact aL e
 refine call_all_walk (wpAny_pyIter_list a.isList ⟨s.heap.objs.size,_,_,_,_,_,λi=>bs.getD i false,rfl,Walks.list (A:=X.A.in1) (I.ok.hd g) _ p (aM c) _,⟨⟨_,ar _ rfl,rfl,rfl⟩,a.isList.push _⟩,Jm,λw x m=>?_⟩);refine⟨.bl _,H,I.kept (λb o e=>m b o ?_ (ae _ e)),rfl,?_⟩
 .intro d;have:=aL e;have z:b=s.heap.objs.size:=by simpa using d
  rw[z]at this;exact a9 _ this
 .rw[<-IX]at q;simpa using q
def Nx(j:X.calm=true):lR X (.builtin "sum") (λxs H Q=>∃(p:Addr) (b:LI),xs=[.ref p]/\mz X.K H p (b.map V.int)/\Q (.int b.sum) H):=by intro o s n H xs x Q I r h;obtain⟨p,b,rfl,g,q⟩:=h;obtain⟨u,rfl,l⟩:=qf r;cases l;obtain⟨a,k,i,y⟩:=I.list g;have d:=zS k;obtain⟨xs,e⟩:=d.allInts.items;have c:=i.isList;rw[e]at c;refine sum_intListG (I.ok.hd j) c λv w f m=>⟨.int b.sum,H,I.kept m,⟨f,?_⟩,q⟩;rw[preSum_eq,cD (by simp),<-nums_intItems,<-e,show a.toArray.toList=a from rfl,d.numsOf]
def zu:bootBuiltins "all" = some (.builtin "all"):=by decide +kernel
def B9:bootBuiltins "any" = some (.builtin "any"):=by decide +kernel
def Cq:bootBuiltins "sum" = some (.builtin "sum"):=by decide +kernel
end
end L2
namespace L2
open PySem PySem.Spec PyProof.Rows
def j4(b:Bool)(h:Heap)(l:Addr)(xs:Array Value):Prop:=if b=true then h.IsTuple l xs else h.IsList l xs
def mq(b:Bool)(h:Heap)(it l:Addr)(k:Nat):Prop:=if b=true then h.IsTupleIter it l k else h.IsListIter it l k
noncomputable def yF(b:Bool):String:=if b=true then "tuple_iterator" else "list_iterator"
def mq.look(x:mq b h it l k):∃o,h.get? it=some o/\o.cls=.type (yF b)/\o.data=.fields #[.ref l,.int k 0]:=by
 cases b with
 |true=>exact (x)
 |false=>exact (x)
def mq.of{k:Nat}(x:∃o,h.get? it=some o/\o.cls=.type (yF b)/\o.data=.fields #[.ref l,.int k 0]):mq b h it l k:=by
 cases b with
 |true=>exact x
 |false=>exact x
def mq.to(x:mq b h it l k)(e:∀o,h.get? it=some o->h'.get? it=some o):mq b h' it l k:=by obtain⟨o,a,q⟩:=x.look;exact .of ⟨o,e o a,q⟩
def j4.look(x:j4 b h l xs):∃o n,h.get? l=some o/\o.data=.seq xs n:=by
 cases b with
 |true=>obtain⟨o,a,_,n,c⟩:=(x);exact⟨o,n,a,c⟩
 |false=>obtain⟨o,a,_,n,c⟩:=(x);exact⟨o,n,a,c⟩
def j4.to(x:j4 b h l xs)(e:∀o,h.get? l=some o->h'.get? l=some o):j4 b h' l xs:=by
 cases b with
 |true=>obtain⟨o,a,q⟩:=(x);exact⟨o,e o a,q⟩
 |false=>obtain⟨o,a,q⟩:=(x);exact⟨o,e o a,q⟩
section
variable {prog:Program}{w:World}{A:Around}{E:Value->Shared->Prop}{s:Shared}
theorem Pt(f:s.heap.IsTupleIter it l k)(i:s.heap.IsTuple l xs)
  (p:∀x a,xs[k]? = some x->a.IsTupleIter it l (k+1)->Heap.SameBut it s.heap a->Q x {s with heap:=a})
  (g:xs[k]? = none->A.handled=none/\∀a e,Heap.ExtBut it s.heap a->(∃o,a.get? e=some o/\o.cls=.type "StopIteration")->E (.ref e) {s with heap:=a}) :
  wpAny (model prog w) A (Builtin.SmallTypes.nextOf (.ref it)) Q E s:=by
 obtain⟨r,c,m,b⟩:=id f;obtain⟨u,j,_,n,q⟩:=i;unfold Builtin.SmallTypes.nextOf;refine ao (wpAny_callSpecial?_slot f.typeIs F.slot_tuple_iterator_next (wpAny_call_entry F.slot_tuple_iterator_next f.typeIs F.entry_tuple_iterator_next ?_ (F.args_tuple_iterator_next_1 _)));show wpAny _ _ (field (.ref it) 0 >>= _) _ _ s;refine ao (wpAny_field c b rfl ?_);have ne:(Value.ref l==Value.none)=false:=rfl;simp only[ne,cj,if_false];refine ao (wpAny_field c b rfl (ao (wpAny_seqItems j q ?_)));cases d:xs[k]? with
 |some x=>simp only[bT,d];refine ao (wpAny_setField c b (by simp) (ak ⟨x,rfl,ak (p x _ d ?_ (Heap.SameBut.update ..))⟩));refine⟨_,Heap.get?_update_self _ c (Obj.isFreed_of_fields (Obj.data_mapFields b _)),(Obj.cls_mapFields ..).trans m,?_⟩;rw[Obj.data_mapFields b];simp[rawInt]
 |none=>obtain⟨h,g⟩:=g d;simp only[bT,d];refine ao (wpAny_rule (ao (wpAny_setField c b (by simp) ?_)));show wpAny _ _ (newExc (.type "StopIteration") [] >>= _) _ _ _;simp only[newExc,newTuple];refine ao (ao (wpAny_newObj_type (ao (wpAny_of_eq (by first|rfl|(simp only[firstArgMember];rfl)) (wpAny_newObj_type ?_ (by size_fits)))) (by size_fits)));simp only[raiseNew];refine ao (wpAny_handled ?_);rw[show A.in1.handled=none from h];refine ao (ak (wpAny_throw ?_));exact g _ _ (((Heap.SameBut.update ..).extBut.push _).push _) ⟨_,ar _ rfl,rfl⟩
theorem vP(j:mq b s.heap it l k)(m:j4 b s.heap l xs)
  (i:∀x c,xs[k]? = some x->mq b c it l (k+1)->Heap.SameBut it s.heap c->Q x {s with heap:=c})
  (g:xs[k]? = none->A.handled=none/\∀c e,Heap.ExtBut it s.heap c->(∃o,c.get? e=some o/\o.cls=.type "StopIteration")->E (.ref e) {s with heap:=c}) :
  wpAny (model prog w) A (Builtin.SmallTypes.nextOf (.ref it)) Q E s:=by
 cases b with
 |true=>exact Pt j m i g
 |false=>
  have f:=j;have d:=m;cases h:xs[k]? with
  |some x=>exact wpAny_nextOf_list_item f d h λc a b=>i x c h a b
  |none=>obtain⟨n,g⟩:=g h;exact wpAny_nextOf_list_end n f d h g
def Ko{z TI TO F J P U:Addr}{Q:Value->Shared->Prop}(D:ZipApart z TI TO F J P U)
  (N:IsZip s.heap z TI TO .none) (hTI:IsPair s.heap TI (.ref F) (.ref J)) (Z:IsPair s.heap TO a b)
  (h1:mq b1 s.heap F P k) (h2:mq b2 s.heap J U k) (hl1:j4 b1 s.heap P xs) (hl2:j4 b2 s.heap U ys)
  (yes:∀x y g,xs[k]? = some x->ys[k]? = some y->IsZip g z TI TO (rawInt s.heap.objs.size)->IsPair g TO x y->mq b1 g F P (k+1)->mq b2 g J U (k+1)->IsPair g s.heap.objs.size x y->g.objs.size=s.heap.objs.size+1->
   (∀c o,c≠z->c≠TO->c≠F->c≠J->s.heap.get? c=some o->g.get? c=some o)->Q (.ref s.heap.objs.size) {s with heap:=g})
  (Y:xs[k]? = none\/ys[k]? = none->A.handled=none/\∀g e,(∀c o,c≠z->c≠TO->c≠F->c≠J->s.heap.get? c=some o->g.get? c=some o)->(∃o,g.get? e=some o/\o.cls=.type "StopIteration")->E (.ref e) {s with heap:=g}) :
  wpAny (model prog w) A (Builtin.«zip.__next__» ⟨[.ref z],[]⟩) (λfin s'=>∃v,fin=.done (.ret v)/\Q v s') E s:=by
 have p:∀{h:Heap} {e:Addr} {I:Obj} {f:Value},IsZip h z TI TO f->h.get? e=some I->I.cls=.type "StopIteration" ->e≠z:=λ{h e I f} q ge ce u=>by subst u;rw[q]at ge;cases ge;simp at ce
 show wpAny _ _ (field (.ref z) 2 >>= λ_=>_) _ _ _;refine ao (wpAny_field N rfl rfl ?_);refine ao (wpAny_field N rfl rfl (ao (wpAny_seqItems hTI rfl ?_)));unfold Builtin.SmallTypes.ownedTupleIsFree;refine ao (ao (wpAny_field N rfl rfl (ak ?_)));simp only[if_true];refine ao (wpAny_rule (ao (wpAny_field N rfl rfl (ao (wpAny_setField_rec N (by simp) λg1 y1 L=>?_)))));have z1:=y1;simp only[List.zipIdx_cons,List.zipIdx_nil,List.forIn_cons,List.forIn_nil];refine ao (ao (ao (wpAny_onRaise ?_)));refine ao (vP (h1.to λo e=>L.extBut _ _ D.i1z e) (hl1.to λo e=>L.extBut _ _ D.l1z e) (λx g2 X t2 n=>ak ?_) (λX=>⟨(Y (.inl X)).1,λg2 e n ⟨I,ge,ce⟩=>?_⟩))
 .have p2:=n.extBut _ _ D.TOi1 (L.extBut _ _ D.TOz Z);refine ao (wpAny_seqItems p2 rfl (ao (wpAny_updateSeq_pair p2 λg3 q3 r=>?_)));have p3:=q3;refine ao (wpAny_letGo (ak (ao (ao (wpAny_onRaise ?_)))));have j:∀c o,c≠z->c≠F->c≠TO->s.heap.get? c=some o->g3.get? c=some o:=λc o d i m e=>r.extBut _ _ m (n.extBut _ _ i (L.extBut _ _ d e));refine ao (vP (h2.to λo e=>j _ o D.i2z D.i12.symm D.TOi2.symm e) (hl2.to λo e=>j _ o D.l2z D.l2i1 D.l2TO e) (λy g4 S t4 H=>ak ?_) (λS=>⟨(Y (.inr S)).1,λg4 e H ⟨I,ge,ce⟩=>?_⟩))
  .have p4:=H.extBut _ _ D.TOi2 p3;refine ao (wpAny_seqItems p4 rfl (ao (wpAny_updateSeq_pair p4 λC q5 B=>?_)));have p5:IsPair C TO x y:=q5;refine ao (wpAny_letGo (ak (ak (ao (wpAny_seqItems p5 rfl (ao (wpAny_newTuple ?_)))))));have sz:C.objs.size=s.heap.objs.size:=by rw[B.1,H.1,r.1,n.1,L.1]
   have z5:=B.extBut _ _ D.TOz.symm (H.extBut _ _ D.i2z.symm (r.extBut _ _ D.TOz.symm (n.extBut _ _ D.i1z.symm z1)));have to5:∀c o,c≠z->c≠TO->c≠F->c≠J->s.heap.get? c=some o->C.get? c=some o:=λc o d i m K e=>B.extBut _ _ i (H.extBut _ _ K (j c o d m i e));unfold Builtin.SmallTypes.ownedTupleHandOut;refine ao (ao (wpAny_setField_rec (ae _ z5) (by simp) λg7 y7 k7=>?_));have z7:=y7;refine wpAny_setField_rec z7 (by simp) λR y8 k8=>?_;have z8:=y8;have up:∀c o,c≠z->(C.push {cls:=.type "tuple",data:=.seq #[x,y]}).get? c=some o->R.get? c=some o:=λc o d e=>k8.extBut _ _ d (k7.extBut _ _ d e);have l:∀c o,c≠z->C.get? c=some o->R.get? c=some o:=λc o d e=>up c o d (ae _ e);have p8:=up _ _ (bC (aL z5)) (ar _ rfl);have s8:R.objs.size=C.objs.size+1:=by rw[k8.1,k7.1,Heap.size_push]
   rw[sz]at z8 p8 s8;refine ak ⟨_,rfl,?_⟩;rw[sz];have e1:=t2.to λo e=>l _ o D.i1z (B.extBut _ _ D.TOi1.symm (H.extBut _ _ D.i12 (r.extBut _ _ D.TOi1.symm e)));have e2:=t4.to λo e=>l _ o D.i2z (B.extBut _ _ D.TOi2.symm e);exact yes x y R X S z8 (l _ _ D.TOz p5) e1 e2 p8 s8 λc o d i m K e=>l c o d (to5 c o d i m K e)
  .have z4:=H _ _ D.i2z.symm (r.extBut _ _ D.TOz.symm (n.extBut _ _ D.i1z.symm z1));refine wpAny_setField_rec z4 (by simp) λC _ B=>(Y (.inr S)).2 C e (λc o d i m K q=>B.extBut _ _ d (H _ _ K (j c o d m i q))) ⟨I,B.extBut _ _ (p z4 ge ce) ge,ce⟩
 .have z2:=n _ _ D.i1z.symm z1;refine wpAny_setField_rec z2 (by simp) λg3 _ r=>(Y (.inl X)).2 g3 e (λc o d i m K q=>r.extBut _ _ d (n _ _ m (L.extBut _ _ d q))) ⟨I,r.extBut _ _ (p z2 ge ce) ge,ce⟩
def Ep{z TI TO g f i h:Addr}(D:ZipApart z TI TO g f i h)
  (u:IsZip s.heap z TI TO .none) (p:IsPair s.heap TI (.ref g) (.ref f)) (j:IsPair s.heap TO a b)
  (J:mq b1 s.heap g i k) (L:mq b2 s.heap f h k) (m:j4 b1 s.heap i xs) (n:j4 b2 s.heap h ys)
  (l:∀x y d,xs[k]? = some x->ys[k]? = some y->IsZip d z TI TO (rawInt s.heap.objs.size)->IsPair d TO x y->mq b1 d g i (k+1)->mq b2 d f h (k+1)->IsPair d s.heap.objs.size x y->d.objs.size=s.heap.objs.size+1->
   (∀c o,c≠z->c≠TO->c≠g->c≠f->s.heap.get? c=some o->d.get? c=some o)->Q (some (.ref s.heap.objs.size)) {s with heap:=d})
  (r:xs[k]? = none\/ys[k]? = none->A.handled=none/\∀d,(∀c o,c≠z->c≠TO->c≠g->c≠f->s.heap.get? c=some o->d.get? c=some o)->Q none {s with heap:=d}) :
  wpAny (model prog w) A (pyNext (.ref z)) Q E s:=by
 have ty:s.TypeIs (.ref z) "zip" :=⟨_,u,rfl⟩;unfold pyNext;refine ao (wpAny_attempt (wpAny_callSpecial?_slot ty F.slot_zip_next (wpAny_call_entry F.slot_zip_next ty F.entry_zip_next
  (Ko D u p j J L m n (λx y d B C R P K N v H I=>ak (l x y d B C R P K N v H I)) λq=>⟨(r q).1,λd e hk ⟨o,ho,hc⟩=>?_⟩) (F.args_zip_next_1 _))))
 exact ao (wpAny_isInstance ⟨o,ho,hc⟩ isSubtype_stop (ak ((r q).2 d hk)))
theorem qS(a:j4 b s.heap l xs)
  (h:Q (.ref s.heap.objs.size) {s with heap:=s.heap.push {cls:=.type (yF b),data:=.fields #[.ref l,.int 0 0]}}):wpAny (model prog w) A (pyIter (.ref l)) Q E s:=by
 cases b with
 |true=>exact wpAny_pyIter_tuple (a) h
 |false=>exact wpAny_pyIter_list (a) h
end
noncomputable abbrev zo(b:Bool)(l:Addr):Obj:={cls:=.type (yF b),data:=.fields #[.ref l,.int 0 0]}
abbrev zt(x y:Value):Obj:={cls:=.type "tuple",data:=.seq #[x,y]}
abbrev zz(p q:Addr):Obj:={cls:=.type "zip",data:=.fields #[.none,.bool false,.bool false,.ref p,.ref q]}
noncomputable abbrev C1(b1 b2:Bool)(h:Heap)(l1 l2:Addr):Heap:=
 ((((h.push (zo b1 l1)).push (zo b2 l2)).push (zt (.ref h.objs.size) (.ref (h.push (zo b1 l1)).objs.size))).push (zt .none .none)).push
  (zz ((h.push (zo b1 l1)).push (zo b2 l2)).objs.size (((h.push (zo b1 l1)).push (zo b2 l2)).push (zt (.ref h.objs.size) (.ref (h.push (zo b1 l1)).objs.size))).objs.size)
section
variable {prog:Program}{w:World}{A:Around}{E:Value->Shared->Prop}{s:Shared}
def JW b1 b2 l1 l2 xs ys:Meets (Builtin.«zip.__new__» ⟨[.type "zip",.ref l1,.ref l2],[]⟩) (λ_ R s=>j4 b1 s.heap l1 xs/\j4 b2 s.heap l2 ys/\
  R (.ok (.ret (.ref ((((s.heap.push (zo b1 l1)).push (zo b2 l2)).push (zt (.ref s.heap.objs.size) (.ref (s.heap.push (zo b1 l1)).objs.size))).push (zt .none .none)).objs.size))) {s with heap:=C1 b1 b2 s.heap l1 l2}):=by
 refine .of_wp λprog w A R s h=>?_;obtain⟨k,g,d,j,c⟩:=s;obtain⟨l,f,b⟩:=h;have sz:=sub_zip;have a:=l;have i:j4 b2 (Shared.heap ⟨k.push (zo b1 l1),g,d,j,c⟩) l2 ys:=f.to λo e=>ae _ e;wp_walk using qS a,qS i;exact⟨_,rfl,b⟩
def Lb(j:j4 b1 s.heap l1 xs)(l:j4 b2 s.heap l2 ys)
  (h:∀b,IsZip b (s.heap.objs.size+4) (s.heap.objs.size+2) (s.heap.objs.size+3) .none->IsPair b (s.heap.objs.size+2) (.ref s.heap.objs.size) (.ref (s.heap.objs.size+1))->IsPair b (s.heap.objs.size+3) .none .none->
   mq b1 b s.heap.objs.size l1 0->mq b2 b (s.heap.objs.size+1) l2 0->b.objs.size=s.heap.objs.size+5->(∀c o,s.heap.get? c=some o->b.get? c=some o)->Q (.ref (s.heap.objs.size+4)) {s with heap:=b}) :
  wpAny (model prog w) A (call (.type "zip") [.ref l1,.ref l2]) Q E s:=by
 refine callType_new F.called_zip (by decide) (F.typeCall_zip_2 _ _) (F.newCall_zip_2 _ _) (λf=>F.args_object_init_3 f _ _) F.entry_zip_new (JW b1 b2 l1 l2 xs ys) ⟨j,l,?_⟩;generalize i:s.heap.objs.size=n at *;have d:(s.heap.push (zo b1 l1)).objs.size=n+1:=by rw[Heap.size_push,i]
 have m:((s.heap.push (zo b1 l1)).push (zo b2 l2)).objs.size=n+2:=by rw[Heap.size_push,d]
 generalize a:(s.heap.push (zo b1 l1)).push (zo b2 l2)=g2 at *;have u:∀c o,s.heap.get? c=some o->g2.get? c=some o:=λc o e=>by rw[<-a];exact ae _ (ae _ e)
 have y:g2.get? n=some (zo b1 l1):=by rw[<-a,<-i];exact ae _ (ar _ rfl)
 have q:g2.get? (n+1)=some (zo b2 l2):=by rw[<-a,<-d];exact ar _ rfl
 have k:(g2.push (zt (.ref n) (.ref (n+1)))).objs.size=n+3:=by rw[Heap.size_push,m]
 have g:((g2.push (zt (.ref n) (.ref (n+1)))).push (zt .none .none)).objs.size=n+4:=by rw[Heap.size_push,k]
 have r:C1 b1 b2 s.heap l1 l2=((g2.push (zt (.ref n) (.ref (n+1)))).push (zt .none .none)).push (zz (n+2) (n+3)):=by unfold C1;rw[i,d,a,m,k]
 rw[r,d,g];have x:(g2.push (zt (.ref n) (.ref (n+1)))).get? (n+2)=some (zt (.ref n) (.ref (n+1))):=by rw[<-m];exact ar _ rfl
 have v:((g2.push (zt (.ref n) (.ref (n+1)))).push (zt .none .none)).get? (n+3)=some (zt .none .none):=by rw[<-k];exact ar _ rfl
 have p:(((g2.push (zt (.ref n) (.ref (n+1)))).push (zt .none .none)).push (zz (n+2) (n+3))).get? (n+4)=some (zz (n+2) (n+3)):=by rw[<-g];exact ar _ rfl
 have up:∀c o,g2.get? c=some o->(((g2.push (zt (.ref n) (.ref (n+1)))).push (zt .none .none)).push (zz (n+2) (n+3))).get? c=some o:=λc o e=>ae _ (ae _ (ae _ e));exact⟨⟨_,p,rfl⟩,h _ p (ae _ (ae _ x)) (ae _ v) (.of ⟨_,up _ _ y,rfl,rfl⟩) (.of ⟨_,up _ _ q,rfl,rfl⟩) (by rw[Heap.size_push,g]) λc o e=>up c o (u c o e)⟩
end
end L2
namespace L2
open PySem PySem.Spec PyProof.Rows
def iG.turnedL{ch:List Addr}(I:iG X gI σ H s)(k:∀b o,b∉ch->s.heap.get? b=some o->h'.get? b=some o)(f:∀b∈ch,uO X gI H b) :
  iG X gI σ H {s with heap:=h',toks:=t'}:=by
 have d:∀b u,H b=some u->b∉ch:=λb u e z=>by rw[(f b z).1]at e;cases e
 refine I.step (λb i=>let ⟨_,f1,_,f3,f4,f5⟩:=f b i;⟨f3,f1,f4,f5⟩) (λb o _ _ a e _=>k b o a e) (λb o _ _ a e _=>⟨o.slots,k b o a e⟩) (λ_ _ _ _ n=>n)
  (λb o a e=>⟨o,k b o a e⟩) (λ_ _ e=>e) (λ_ _ _ e=>e) (λb _ p e=>⟨#[],by rw[e];simp⟩) (λm g=>?_) (λb u e=>?_) I.bare
 .obtain⟨o,h,j,l,r⟩:=g;exact⟨o,h,j,k _ o (λz=>(f _ z).2.1 rfl) l,r⟩
 .refine (I.hok b u e).stay (λc v a q=>k c v ?_ q) (λ_ q=>q) λ_ _ q=>q;rcases a with z|z
  .rw[z];exact d b u e
  .exact d c _ z
def xK(K:W.Frag)(H:Hp)(b:Bool)(a:Addr)(xs:List V):Prop:=if b=true then oK K H a xs else mz K H a xs
def iG.seqB(I:iG X gI σ H s)(h:xK X.K H b a xs):∃its:List Value,jc xs its/\j4 b s.heap a its.toArray/\xs.length<=sizeLine:=by
 cases b with
 |true=>obtain⟨its,r,p,z⟩:=I.tuple (h);exact⟨its,r,p,z⟩
 |false=>obtain⟨its,r,p,z⟩:=I.list (h);exact⟨its,r,p.isList,z⟩
def iG.seqB_inj(I:iG X gI σ H s)(h:xK X.K H b a xs)(c:xK X.K H b a ys):xs=ys:=by
 cases b with
 |true=>exact I.tuple_inj h c
 |false=>exact I.list_inj h c
noncomputable def WL(K:W.Frag)(d e:Bool)(c f:Addr):It:=
  ⟨λi H=>∃b a x y,xK K H d c b/\xK K H e f a/\b[i]? = some x/\a[i]? = some y,
   λi H v g=>∃p x y,v=.ref p/\H p=none/\g=jR H p (.tup [x,y])/\(∀b,xK K H d c b->b[i]? = some x)/\∀a,xK K H e f a->a[i]? = some y,
   λi H=>∃b a,xK K H d c b/\xK K H e f a/\(b.length<=i\/a.length<=i)⟩
def Nw{K:W.Frag}{x1}{z TI TO l m l1 l2:Addr}(D:ZipApart z TI TO l m l1 l2) :
  ED P w K (.Tuple elts x1 pos) (WL K b1 b2 l1 l2) [z,TI,TO,l,m] z (λi h=>IsZip h z TI TO .none/\IsPair h TI (.ref l) (.ref m)/\(∃a b,IsPair h TO a b)/\mq b1 h l l1 i/\mq b2 h m l2 i) where
 mem:=by simp
 obj:=λi h p b f=>by
  obtain⟨n,g,⟨a,c,j⟩,r,A⟩:=p;have mem:b=z\/b=TI\/b=TO\/b=l\/b=m:=by simpa using f
  rcases mem with rfl|rfl|rfl|rfl|rfl
  .exact⟨_,n,λv q=>by cases q⟩
  .exact⟨_,g,λv q=>by cases q⟩
  .exact⟨_,j,λv q=>by cases q⟩
  .obtain⟨o,e,_,d⟩:=r.look;exact⟨o,e,λv q=>by rw[d]at q;cases q⟩
  .obtain⟨o,e,_,d⟩:=A.look;exact⟨o,e,λv q=>by rw[d]at q;cases q⟩
 keep:=λi h h' p k=>by obtain⟨n,g,⟨a,c,j⟩,r,A⟩:=p;exact⟨k z (by simp) _ n,k TI (by simp) _ g,⟨a,c,k TO (by simp) _ j⟩,r.to λo e=>k l (by simp) o e,A.to λo e=>k m (by simp) o e⟩
 item:=by
  intro X hP hw hK hc i gI s σ H E I Z p hg;subst hP hw hK;obtain⟨n,g,⟨a,c,j⟩,r,A⟩:=p;obtain⟨xs,ys,x,y,q1,q2,e1,e2⟩:=hg;obtain⟨R,r1,p1,z1⟩:=I.seqB q1;obtain⟨Q,r2,p2,z2⟩:=I.seqB q2;obtain⟨u,gu,ru⟩:=r1.get e1;obtain⟨v,gv,rv⟩:=r2.get e2;have F:=I.fpOk (aK _) (I.hok.fresh (aK _));refine Ep D n g j r A p1 p2 (λY S h' B C a1 a2 a3 a4 a5 a6 U=>?_) λq=>?_
  .have eu:Y=u:=by
    have:R[i]? = some Y:=by simpa using B
    rw[gu]at this;cases this;rfl
   have ev:S=v:=by
    have:Q[i]? = some S:=by simpa using C
    rw[gv]at this;cases this;rfl
   subst eu;subst ev;refine⟨_,rfl,wpAny_letOwnedTupleGo_zip a1 λN J sb=>?_⟩;have zT:=bC (aL n);have I1:=I.turnedL (t':=s.toks) (ch:=[z,TO,l,m]) (λb o f e=>sb.extBut _ _ (λq=>f (by simp[q])) (U b o (λq=>f (by simp[q])) (λq=>f (by simp[q])) (λq=>f (by simp[q])) (λq=>f (by simp[q])) e))
    (λb f=>Z b (by
     have mem:b=z\/b=TO\/b=l\/b=m:=by simpa using f
     rcases mem with rfl|rfl|rfl|rfl<;>simp))
   have gT:=sb.extBut _ _ zT a5;have I2:iG X gI σ (jR H s.heap.objs.size (.tup [x,y])) {s with heap:=N}:=I1.track F.1 F.2.2.2.1 F.2.1 F.2.2.2.2.1 F.2.2.2.2.2
    ⟨by show 2<=sizeLine;decide,[Y,S],.cons ru (.cons rv .nil),⟨_,gT,rfl,_,rfl,rfl⟩⟩
   have lt:∀{b o},s.heap.get? b=some o->jR H s.heap.objs.size (.tup [x,y]) b=H b:=λ{b o} e=>gY (aM (aL e));refine⟨.ref s.heap.objs.size,_,I2,rfl,⟨_,x,y,rfl,F.1,rfl,λxs' h=>by rw[I.seqB_inj h q1];exact e1,λys' h=>by rw[I.seqB_inj h q2];exact e2⟩,?_,λb f=>?_⟩
   .have k2:∀c o,c≠z->h'.get? c=some o->N.get? c=some o:=λc o c1 e=>sb.extBut _ _ c1 e;exact⟨J,k2 _ _ D.TIz (U _ _ D.TIz D.TITO D.TIi1 D.TIi2 g),⟨_,_,k2 _ _ D.TOz a2⟩,a3.to λo e=>k2 _ o D.i1z e,a4.to λo e=>k2 _ o D.i2z e⟩
   .have mem:b=z\/b=TI\/b=TO\/b=l\/b=m:=by simpa using f
    have L:=(Z b f).1;obtain⟨o1,g1,_⟩:=r.look;obtain⟨o2,g2,_⟩:=A.look;rcases mem with rfl|rfl|rfl|rfl|rfl
    .rw[lt n];exact L
    .rw[lt g];exact L
    .rw[lt j];exact L
    .rw[lt g1];exact L
    .rw[lt g2];exact L
  .exfalso;have m1:R.toArray[i]? = some u:=by simpa using gu
   have m2:Q.toArray[i]? = some v:=by simpa using gv
   rcases q with q|q
   .rw[m1]at q;cases q
   .rw[m2]at q;cases q
 done:=by
  intro X hP hw hK hc i gI s σ H E I Z p hg;subst hP hw hK;obtain⟨n,g,⟨a,c,j⟩,r,A⟩:=p;obtain⟨xs,ys,q1,q2,hl⟩:=hg;obtain⟨R,r1,p1,z1⟩:=I.seqB q1;obtain⟨Q,r2,p2,z2⟩:=I.seqB q2;have n1:=r1.length;have n2:=r2.length;have fpc:∀b∈[z,TO,l,m],uO X gI H b:=λb f=>Z b (by
   have mem:b=z\/b=TO\/b=l\/b=m:=by simpa using f
   rcases mem with rfl|rfl|rfl|rfl<;>simp)
  refine Ep D n g j r A p1 p2 (λY S h' B C a1 a2 a3 a4 a5 a6 U=>?_) λq=>⟨I.ok.hd hc,λh' U=>⟨rfl,I.turnedL (λb o f e=>U b o (λq=>f (by simp[q])) (λq=>f (by simp[q])) (λq=>f (by simp[q])) (λq=>f (by simp[q])) e) fpc⟩⟩;exfalso;have m1:i<R.length:=by
   have:R[i]? = some Y:=by simpa using B
   exact (aa.mp this).1
  have m2:i<Q.length:=by
   have:Q[i]? = some S:=by simpa using C
   exact (aa.mp this).1
  omega
 self:=λ_ _ _ _ _ p h=>wpAny_pyIter_zip p.1 h
def SD:bootBuiltins "zip" = some (.type "zip"):=by decide +kernel
section
variable {X:Cx}
def Tz(K:W.Frag)(d e:Bool)(h:TA):TI:=λi H R=>h i H λf c=>∃a b,f=[.ref a,.ref b]/\(∃j,xK K c d a j)/\(∃g,xK K c e b g)/\R (WL K d e a b) c
def SJ{x1}(F:Gl X "zip")(C:X.mg "zip" = none)(w:PA X [a,b] ta)(z:starEach [a,b] X.env=[(false,eval a X.env),(false,eval b X.env)]:=by rfl)
  (c:starEach [b] X.env=[(false,eval b X.env)]:=by rfl):PI X (.Tuple elts x1 tpos) (.Call (.Name "zip" p) [a,b] [] pos) (Tz X.K b1 b2 ta):=by
 intro A s y H R I h;refine Call_ (rH I F C SD (PyProof.Rows.callWith_type1 (kS (w pos A s y H _ I h) λL s1 ⟨vs,H1,I1,r1,f⟩=>?_) (by rw[z,c]) (by rw[c];rfl)));obtain⟨B,x,rfl,⟨xs,f⟩,⟨ys,J⟩,q⟩:=f;obtain⟨Z,u2,rfl,N,P⟩:=Hu r1;cases N;cases P;obtain⟨L,v,r,_⟩:=I1.seqB f;obtain⟨ws,Q,m,_⟩:=I1.seqB J;have g:B<s1.heap.objs.size:=by obtain⟨o,n,e,_⟩:=r.look;exact aL e
 have j:x<s1.heap.objs.size:=by obtain⟨o,n,e,_⟩:=m.look;exact aL e
 refine Lb r m λh' u k d U S D Y=>?_;refine wpAny_pyIter_zip u ?_;refine⟨_,_,_,_,H1,rfl,I1.kept Y,Nw (zipApart_new g j),⟨u,k,⟨_,_,d⟩,U,S⟩,λb E=>?_,q⟩;have i:b=s1.heap.objs.size+4\/b=s1.heap.objs.size+2\/b=s1.heap.objs.size+3\/b=s1.heap.objs.size\/b=s1.heap.objs.size+1:=by simpa using E
 have l:s1.heap.objs.size<=b:=by rcases i with rfl|rfl|rfl|rfl|rfl<;>omega
 exact I1.fpOk l (I1.hok.fresh l)
end
end L2
namespace L2
open PySem PySem.Spec PyProof.Rows
def pG(h:H p=none):iJ H (jR H p o):=λb u e=>by rw[gY (iX e h)];exact .of e
def iJ.seqT{K:W.Frag}(e:iJ H H')(h:oK K H a xs):oK K H' a xs:=by
 rcases h with (h|⟨o,h⟩)|h
 .exact .inl (.inl (e _ _ h))
 .exact .inl (.inr ⟨o,e _ _ h⟩)
 .exact .inr h
noncomputable def C2(c:List Str)(b a:Scope)(N:List Str)(ix:List (Option Nat)):Bool:=
 a.kind==.function&&a.names.all (λy=>!(y.2==NameKind.cell)||a.names.lookup y.1==some .cell)&&a.names.all (λy=>!(y.2==NameKind.local)||a.names.lookup y.1==some .local) &&
 a.names.all (λy=>!(y.2==NameKind.free)||b.names.lookup y.1==some .cell)&&N.length==ix.length &&
 (List.range N.length).all (λi=>match ix[i]?,N[i]? with
  |some (some j),some x=>c[j]? == some x&&a.names.lookup x==some .free&&b.names.lookup x==some .cell
  |_,_=>true)
def Vt(l:∀x,X.env.scope.names.lookup x=some .cell->∃c,X.env.cells.lookup x=some c)(h:C2 X.N X.env.scope scope N ix=true):Dt X scope N ix:=by
 unfold C2 at h;simp only[bU]at h;obtain⟨⟨⟨⟨⟨m,r⟩,p⟩,k⟩,q⟩,o⟩:=h;refine⟨by simpa using m,λy d e=>?_,λy d e=>?_,λy d e=>?_,by simpa using q,λi j x g s=>?_⟩
 .have:=cE.mp r y d;rw[e]at this;simpa using this
 .have:=cE.mp p y d;rw[e]at this;simpa using this
 .have:=cE.mp k y d;rw[e]at this;exact l _ (by simpa using this)
 .have n:=(aa.mp g).1;have:=cE.mp o i (aS.mpr n);rw[g,s]at this;simp only[bU,beq_iff_eq]at this;obtain⟨⟨a,b⟩,c⟩:=this;exact⟨a,b,.inr (.inl c),λz=>by have f:X.env.scope.names.lookup x=some .local:=z;rw[c]at f;cases f⟩
def Kx(L:Dt X scope N ix):∀x,(pj X N scope C s₃ H ex pn).env.scope.names.lookup x=some .cell->∃c,(pj X N scope C s₃ H ex pn).env.cells.lookup x=some c:=λx b=>by
 refine bQ.mp (W.cellsFrom_some _ _ _ ?_);rcases vQ (.inl b) with a|a
 .exact .inr (bQ.mpr (qO a (L.fre _ a rfl)))
 .exact .inl a
def yG{K:W.Frag}(u:ix[k]? = some none)(d:ix[l]? = some none):rA ix (Ji K 2 (Ah (j9 k) (Ah (j9 l) IL))):=by
 rintro x c H Q ⟨a,n,o,b,f,v,r,p,s,y,h,g,q⟩;refine⟨a,n,o,b,f,v,r,p,s,y,h,g,λi j e=>?_,q⟩;have m:k≠i:=by rintro rfl;rw[u]at e;cases e
 have w:l≠i:=by rintro rfl;rw[d]at e;cases e
 rw[aq w,aq m]
end L2
namespace L2
open PySem PySem.Spec PyProof.Rows
structure mv(K:W.Frag)(C:Addr)(m qual:Str)(st:Stmt):Prop where
 ex:∃f fd,NR K m qual st f fd/\OX K C m f
structure lA(P:Program)(w:World)(K:W.Frag)(mg:Str->Option Value)(base:Heap)(C:Addr)(m:Str)(k:Nat)(sp:Sp):Prop where
 cl:Bm K C
 ex:∃f fd ps,pR P w K mg base Aw k f fd ps sp/\OX K C m f/\tK K fd ps []
def HG{K:W.Frag}{st:Stmt}(h:Bm K C)(D:mv K C m qual st)(S:kh N ps (gZ st))
  (j:∀(kV e n:Value) (i:Option Addr) (a l:Value) (us:List Value),us.length=ps.length->bindArgs (W.fnOf m qual (kH st) (jx st) (gZ st) .none kV e n i a l) ⟨us,[]⟩=pure (ps.zip us))
  (d:∀vs H Q E,sp vs H Q E->vs.length=ps.length)
  (b:∀f a A c s H vs Q E,jZ k (A.deeper (envOfC qual (gZ st) s.heap.objs.size f a))->sp vs H Q E->
   ∃t,Ek (sM Aw P w K mg base N qual (gZ st) f a A c s H E).nox (jx st) t/\t {nx:=λ_ o=>Q .non o,rt:=Q} (oM N vs) H):lA P w K mg base C m (k+1) sp:=by
 obtain⟨f,g,F,m⟩:=D.ex;exact⟨h,f,g,ps,F.ok S d (b f),m,F.binds j⟩
structure FV(P:Program)(w:World)(K:W.Frag)(mg:Str->Option Value)(base:Heap)(x:Str)(C:Addr)(k:Nat)(sp:Sp):Prop where
 ex:∃f fd ps,pR P w K mg base Aw k f fd ps sp/\Mk K C f/\tK K fd ps []
 mgx:mg x=some (.ref C)
section
variable {X:Cx}{x m:Str}{C:Addr}{k:Nat}{sp:Sp}{e o:Expr}{es:List Expr}{t:TA}{ta:TE}{p pos apos:Pos}
def VO(h:FV X.prog X.w X.K X.mg X.base x C k sp)(hr:jZ (k+1) X.A)(i:PA X (e::es) t)(j:Gl X x:=by rfl)
  (d:(x==("__debug__" : Str))=false:=by decide) (g:starEach (e::es) X.env=(false,eval e X.env)::starEach es X.env:=by rfl) (c:(backTo pos (starEach es X.env)).any (·.1)=false:=by rfl) :
  PE X (.Call (.Name x p) (e::es) [] pos) (Hr C sp [] E0 t):=by
 obtain⟨f,n,l,F,a,b⟩:=h.ex;exact Qy a F hr j h.mgx b .nil Lk i d g c
def LM(h:lA X.prog X.w X.K X.mg X.base C m k sp)(hr:jZ k X.A)(c:PE X o ta)
  (d:eval (.Call (.Attribute o m apos) [] [] pos) X.env=(do
   let ov <-eval o X.env
   standAt apos.atName
   let (f,first) <-holding [ov] (getMethod ov m pl)
   callWith pos f first (backTo pos (starEach [] X.env)) (backToKw pos (keywordEach [] X.env))):=by rfl) :
  PE X (.Call (.Attribute o m apos) [] [] pos) (BJ C m sp [] E0 ta um):=by
 obtain⟨f,i,g,F,a,b⟩:=h.ex;exact NG c h.cl a F hr b .nil Lk d
end
end L2
namespace L2
open PySem PySem.Spec PyProof.Rows
def LO(K:X.N.Nodup)(hy:X.N[i]? = some y)(Z:HR X.env.scope y)
  (hc:X.calm=true) (hi:PI X tg iter wi) (L:Dt X scope N ix) (l:rA ix g)
  (A:∀C c H r u,PG (pj X N scope C c H r u) tg g/\Jc (pj X N scope C c H r u) ifs tt/\PE (pj X N scope C c H r u) elt te)
  (E:X.fn y=true\/X.env.scope.names.lookup y=some .local:=by first|exact .inl rfl|exact .inr rfl)
  (p:swapsWith (.ListComp elt [⟨tg,iter,ifs,0⟩] scope pos) (some (.Name y py)) spos.line X.env=pure true:=by rfl)
  (Y:∀x,foldedSetIterable iter X.env x=pure x:=by intro _;rfl):PS X (.Assign [.Name y py] (.ListComp elt [⟨tg,iter,ifs,0⟩] scope pos) spos) (nW (Kj ix wi g tt te) (j9 i)):=by
 intro gI s B H D I h;rw[exec_Assign_Name_used _ _ _ _ p];refine ao (wpAny_standAt (ao ?_));rw[arm_evalThenUse_ListComp];refine ao (kS (wpAny_comprehension_free rfl Y (uw L.fre) L.kind L.names (kS (hi gI s B H _ I h) λv s1 h1=>kS h1 λitv s2 h2=>?_)) λ_ S q=>ak (ak q));obtain⟨it,fp,tn,J,H2,e,F,T,j,f2,W,⟨m0,R⟩,d⟩:=h2;subst e;refine Ia (Q:=λx H1=>j9 i x B H1 D.nx) hc L l A F T j f2 R d λE0 C m H' S hn f I' q=>?_;refine wpAny_assign_Name (Bb (v:=.ref E0) I' K hy Z rfl (λs3 I3 n=>?_) E);obtain⟨a,U,P⟩:=n;have ne:C≠a:=by
  rcases P with z|z
  .rw[z];exact f.2.1
  .exact λw=>f.2.2.2.2.1 y a z w.symm
 exact⟨m,hn.sameBut U ne,λh' k=>⟨_,H',I3.turned (λb o hb e=>k.extBut b o hb e) f.1 f.2.1 f.2.2.2.1 f.2.2.2.2.1 f.2.2.2.2.2,q⟩⟩
end L2
namespace L2
open PySem PySem.Spec PyProof.Rows
section
variable {κ:Type}[DecidableEq κ]
noncomputable def uI(kvs:List (κ×V))(k:κ):Option V:=(kvs.find? λa=>decide (a.1=k)).map (·.2)
noncomputable def qY(kvs:List (κ×V))(k:κ)(v:V):List (κ×V):=if (kvs.any λa=>decide (a.1=k))=true then kvs.map (λa=>if a.1=k then (a.1,v) else a) else kvs++[(k,v)]
def zw{k:κ}(e:p.1=k):uI (p::r) k=some p.2:=by simp[uI,List.find?_cons,e]
def yD{k:κ}(e:¬p.1=k):uI (p::r) k=uI r k:=by simp[uI,List.find?_cons,e]
theorem DY k:∀kvs:List (κ×V),(kvs.any λa=>decide (a.1=k))=(uI kvs k).isSome
 |[]=>rfl
 |p::r=>by
  rw[bX];by_cases e:p.1=k
  .simp only[zw e,aC e,Bool.true_or,cw]
  .rw[yD e,aB e,Bool.false_or];exact DY k r
def qi kvs (k:κ) v:(qY kvs k v).length<=kvs.length+1:=by
 unfold qY;split
 .rw[aw];omega
 .rw[aT,ay,cF];omega
def uK.isSome_eq(r:uK o u):o.isSome=u.isSome:=by
 cases o with
 |none=>cases u with
  |none=>rfl
  |some _=>exact (show False from r).elim
 |some _=>cases u with
  |none=>exact (show False from r).elim
  |some _=>rfl
def KV.val(r:KV kvs vs)(k:κ):uK (uI kvs k) (valueAt vs k):=by
 unfold KV at r;induction r with
 |nil=>exact True.intro
 |@cons p q ps qs h t ih=>
  obtain⟨c,d⟩:=h;by_cases e:p.1=k
  .have a:q.1=k:=c.symm.trans e;have b:valueAt (q::qs) k=some q.2:=by simp[valueAt,List.find?_cons,a]
   rw[zw e,b];exact d
  .have a:¬q.1=k:=λz=>e (c.trans z);have b:valueAt (q::qs) k=valueAt qs k:=by simp[valueAt,List.find?_cons,a]
   rw[yD e,b];exact ih
def KV.any(r:KV kvs vs)(k:κ):(kvs.any λa=>decide (a.1=k))=vs.any λa=>decide (a.1=k):=by
 unfold KV at r;induction r with
 |nil=>rfl
 |cons h t ih=>rw[bX,bX,ih,h.1]
theorem KV.repl(r:KV kvs vs)(k:κ)(d:jD y u) :
  KV (kvs.map λa=>if a.1=k then (a.1,y) else a) (vs.map λa=>if a.1=k then (a.1,u) else a):=by
 unfold KV at r ⊢;induction r with
 |nil=>exact .nil
 |@cons p q ps qs h t ih=>
  rw[bI,bI];refine .cons ?_ ih;obtain⟨b,c⟩:=h;by_cases e:p.1=k
  .rw[aQ e,aQ (b.symm.trans e)];exact⟨b,d⟩
  .rw[aR e,aR (λz=>e (b.trans z))];exact⟨b,c⟩
def KV.put(r:KV kvs vs)(k:κ)(a:jD y u):KV (qY kvs k y) (stored vs k u):=by
 unfold qY stored;rw[r.any k];by_cases e:(vs.any λb=>decide (b.1=k))=true
 .rw[aQ e,aQ e];exact r.repl k a
 .rw[aR e,aR e];exact Paired.snoc r ⟨rfl,a⟩
def KV.length{kvs:List (κ×V)}(r:KV kvs vs):kvs.length=vs.length:=Paired.length r
end
def Il(r:jD (kV k) u):(l9 P w).is k u=true:=by
 cases k with
 |inl i=>obtain⟨t,e⟩:=(show ∃t,u=Value.int i t from r);subst e;exact EO P w i t
 |inr x=>obtain⟨t,e⟩:=(show ∃t,u=Value.str x t from r);subst e;exact EU P w x t
theorem A6:∀{ks} {us},jc (ks.map kV) us->ItemsAre (l9 P w) ks us
 |[],_,r=>by rw[b9]at r;cases r;exact .nil
 |k::ks,_,r=>by
  rw[bI]at r;cases r with
  |cons h t=>exact .cons (Il h) (A6 t)
abbrev KT(H:Hp):List (List qM×V)->List (List qM×Addr×Value)->Prop:=Paired λp q=>p.1=q.1/\H q.2.1=some (.tup (p.1.map kV))/\jD p.2 q.2.2
def KT.val(r:KT H kvs xs) k:uK (uI kvs k) ((atKey xs k).map (·.2)):=by
 induction r with
 |nil=>exact True.intro
 |@cons p q ps qs h t ih=>
  obtain⟨c,_,d⟩:=h;by_cases e:p.1=k
  .have a:q.1=k:=c.symm.trans e;have b:atKey (q::qs) k=some q.2:=by simp[atKey,List.find?_cons,a]
   rw[zw e,b];exact d
  .have a:¬q.1=k:=λz=>e (c.trans z);have b:atKey (q::qs) k=atKey qs k:=by simp[atKey,List.find?_cons,a]
   rw[yD e,b];exact ih
theorem KT.repl(r:KT H kvs xs) k (d:jD y u) :
  KT H (kvs.map λb=>if b.1=k then (b.1,y) else b) (xs.map (putAt k u)):=by
 induction r with
 |nil=>exact .nil
 |@cons p q ps qs h t ih=>
  rw[bI,bI];refine .cons ?_ ih;obtain⟨a,c,f⟩:=h;unfold putAt;by_cases e:p.1=k
  .rw[aQ e,aQ (a.symm.trans e)];exact⟨a,c,d⟩
  .rw[aR e,aR (λz=>e (a.trans z))];exact⟨a,c,f⟩
def KT.put(r:KT H kvs xs) k (d:H b=some (.tup (k.map kV))) (a:jD y u) :
  KT H (qY kvs k y) (storedH xs k b u):=by
 have e:(kvs.any λc=>decide (c.1=k))=(atKey xs k).isSome:=by rw[DY,(r.val k).isSome_eq,cG]
 unfold qY storedH;rw[e];by_cases q:(atKey xs k).isSome=true
 .rw[aQ q,aQ q];exact r.repl k a
 .rw[aR q,aR q];exact Paired.snoc r ⟨rfl,d,a⟩
def KT.keeps(r:KT H kvs xs)(c:∀b a,H b=some (.tup a)->H' b=some (.tup a)):KT H' kvs xs:=Paired.mapP r λ_ _ z=>⟨z.1,c _ _ z.2.1,z.2.2⟩
section
variable {P:Program}{w:World}{H:Hp}{h:Heap}{a:Addr}
def Q6(ok:uc P w H h)(e:Rd H a u):lT P w H h a u:=e.ok ok
def HX(ok:uc P w H h)(e:Rd H a (.dK kvs)):kvs.length<=sizeLine/\(a==sysModules)=false/\∃vs,KV kvs vs/\h.DictOf (l9 P w) a vs:=show lT P w H h a (.dK kvs) from Q6 ok e
def Vb(ok:uc P w H h)(e:H a=some (.dK kvs)):kvs.length<=sizeLine/\(a==sysModules)=false/\∃vs,KV kvs vs/\h.DictOf (l9 P w) a vs:=HX ok (.inl e)
def yA(ok:uc P w H h)(e:H a=some (.tup (ks.map kV))):(tupleKind (l9 P w)).is h ks a:=by obtain⟨_,b,r,o,d,c,n,f,_⟩:=(show lT P w H h a (.tup (ks.map kV)) from ok a _ e);exact⟨o,b.toArray,n,d,c,f,by simpa using A6 r⟩
theorem HS(ok:uc P w H h)(e:Rd H a (.dT kvs)):kvs.length<=sizeLine/\(a==sysModules)=false/\
  ∃xs,KT H kvs xs/\h.DictOfH (tupleKind (l9 P w)) a xs:=by
 obtain⟨z,y,xs,r,o,d,g,f,j,i,c,k⟩:=(show lT P w H h a (.dT kvs) from Q6 ok e);refine⟨z,y,xs,r,o,d,g,f,j,i,c,λx b=>?_,k⟩;have all:∀{l:List (List qM×V)} {m:List (List qM×Addr×Value)},KT H l m->∀x∈m,(tupleKind (l9 P w)).is h x.1 x.2.1:=by
  intro l m q;induction q with
  |nil=>intro x b;exact nomatch b
  |@cons p q ps qs hq t ih=>
   intro x b;rcases aF.mp b with e|b
   .subst e;exact yA ok (by rw[<-hq.1];exact hq.2.1)
   .exact ih x b
 exact all r x b
def QX(ok:uc P w H h)(e:H a=some (.dT kvs)):kvs.length<=sizeLine/\(a==sysModules)=false/\
  ∃xs,KT H kvs xs/\h.DictOfH (tupleKind (l9 P w)) a xs:=HS ok (.inl e)
end
def CT(H:Hp)(a:Addr)(y:V)(r:Option V):Prop:=(∃c k,Rd H a (.dK c)/\y=kV k/\r=uI c k)\/∃c k b,Rd H a (.dT c)/\y=.ref b/\H b=some (.tup (k.map kV))/\r=uI c k
def Nn(H:Hp)(a:Addr)(y v:V)(d:Hp):Prop:=
 (∃c k,H a=some (.dK c)/\y=kV k/\c.length<sizeLine/\d=jR H a (.dK (qY c k v)))\/
 ∃c k b,H a=some (.dT c)/\y=.ref b/\H b=some (.tup (k.map kV))/\c.length<sizeLine/\d=jR H a (.dT (qY c k v))
def CT.t{H:Hp}{a b:Addr}{kvs:List (List qM×V)}{k:List qM}(e:H a=some (.dT kvs))(c:H b=some (.tup (k.map kV))):CT H a (.ref b) (uI kvs k):=.inr ⟨kvs,k,b,.inl e,rfl,c,rfl⟩
def Nn.t{H:Hp}{a b:Addr}{kvs:List (List qM×V)}{k:List qM}{v:V}(e:H a=some (.dT kvs))(c:H b=some (.tup (k.map kV)))(d:kvs.length<sizeLine) :
  Nn H a (.ref b) v (jR H a (.dT (qY kvs k v))):=.inr ⟨kvs,k,b,e,rfl,c,d,rfl⟩
section
variable {X:Cx}{gI:List (Addr×Obj)}{σ:St}{H:Hp}{s:Shared}{a:Addr}{y v:V}{u r:Value}{o:Option V}{A:Around}{E:Value->Shared->Prop}
def iG.big(I:iG X gI σ H s):sysModules<s.heap.objs.size:=by have h:mainGlobals<s.heap.objs.size:=(I.mod.glob.keeps I.bk).lt;exact Nat.lt_trans (by decide) h
def Jz(K:A.units+1<cLine)(I:iG X gI σ H s)(g:CT H a y (some v))(x:jD y u)(h:∀f q,iG X gI σ H q->jD v f->Q f q) :
  wpAny (model X.prog X.w) A (getItem (.ref a) u) Q E s:=by
 rcases g with⟨i,k,e,m,l⟩|⟨i,k,b,e,m,B,l⟩
 .subst m;obtain⟨z,F,C,c,j⟩:=HX I.hok e;obtain⟨f,hw,d⟩:=uK.some_of (v:=v) (o:=valueAt C k) (by rw[l];exact c.val k);exact wpAny_getItem_of (Il x) j.mapOf hw (h f _ (I.tok _) d)
 .subst m;cases (show u=Value.ref b from x);obtain⟨z,F,D,c,j⟩:=HS I.hok e;obtain⟨f,hw,d⟩:=uK.some_of (v:=v) (o:=(atKey D k).map (·.2)) (by rw[l];exact c.val k);obtain⟨p,J,n⟩:=Option.map_eq_some_iff.mp hw;refine wpAny_getItem_heap (tupleKind_room_in1 K) (yA I.hok B) j J ?_;rw[n];exact h f _ (I.tok _) d
def Wq(x:A.units+1<cLine)(I:iG X gI σ H s)(g:CT H a y o)(n:jD y u)(h:∀m,iG X gI σ H m->Q (.bool o.isSome) m) :
  wpAny (model X.prog X.w) A (compareOp .In u (.ref a)) Q E s:=by
 rcases g with⟨d,k,e,j,l⟩|⟨d,k,b,e,j,p,l⟩
 .subst j;obtain⟨z,i,B,c,f⟩:=HX I.hok e;refine wpAny_in_of (Il n) i f.mapOf ?_;rw[<-(c.val k).isSome_eq,<-l];exact h _ (I.tok _)
 .subst j;cases (show u=Value.ref b from n);obtain⟨z,i,C,c,f⟩:=HS I.hok e;refine wpAny_in_heap (tupleKind_room_in1 x) (yA I.hok p) i f ?_;have q:=(c.val k).isSome_eq;rw[cG]at q;rw[<-q,<-l];exact h _ (I.tok _)
def B7(I:iG X gI σ H s)(d:Vr (H a))(g:Heap.SameBut a s.heap h')(c:∃q,h'.get? a=some q)(new:lT X.prog X.w (jR H a ob) h' a ob) :
  iG X gI σ (jR H a ob) {s with heap:=h',toks:=t'}:=
 I.write (x:=a) (e:=a) d (.inl rfl) (λb q f z=>(g.2 b f).trans z) c new
def Sy(z:kvs.length<=sizeLine)(d:(a==sysModules)=false)(b:KV kvs vs)(c:h'.DictOf (l9 P w) a vs) :
  lT P w H' h' a (.dK kvs):=⟨z,d,vs,b,c⟩
def Jd(hu:A.units+1<cLine)(I:iG X gI σ H s)(g:Nn H a y v H')(N:jD y u)(P:jD v r)(h:∀F,iG X gI σ H' F->Q () F) :
  wpAny (model X.prog X.w) A (setItem (.ref a) u r) Q E s:=by
 rcases g with⟨f,k,e,C,l,p⟩|⟨f,k,b,e,C,J,l,p⟩
 .subst C p;obtain⟨z,B,Y,d,x⟩:=Vb I.hok e;have D:Y.length<=sizeLine:=by rw[<-d.length];exact z
  have m:(qY f k v).length<=sizeLine:=by have:=qi f k v;omega
  refine wpAny_setItem_pairs (hsz:=D) (Il N) x λK i n=>h _ ?_;have R:∃q,K.get? a=some q:=let ⟨q,_,_,j,_⟩:=i;⟨q,j⟩;exact B7 I (by rw[e];exact True.intro) n R (Sy m B (d.put k P) i)
 .subst C p;cases (show u=Value.ref b from N);obtain⟨z,B,xs,d,x⟩:=QX I.hok e;have D:xs.length<=sizeLine:=by rw[<-Paired.length d];exact z
  have m:(qY f k v).length<=sizeLine:=by have:=qi f k v;omega
  refine wpAny_setItem_heap (hsz:=D) (tupleKind_room_in1 hu) (yA I.hok J) x λK i n=>h _ ?_;obtain⟨q,U,Z,j,h2,h3,S,_,h5⟩:=i;refine B7 I (by rw[e];exact True.intro) n ⟨q,j⟩ ⟨m,B,_,(d.put k J P).keeps λc ys L=>?_,q,U,Z,j,h2,h3,S,h5⟩;rw[gY (QS L e (λz=>nomatch z))];exact L
end
def TQ(i:Expr):Prop:=∀b a,subscripted i false b a=operate [b,a] (getItem b a)
theorem N1{T id:String}
  (k:typeLookup (.type T) "__getitem__" = pure (some (.builtin id))) (l:TQ slice)
  (h:wpAny (model prog w) A (eval value env) (λo c=>wpAny (model prog w) A (eval slice env) (λi a=>a.TypeIs o T/\wpAny (model prog w) A (getItem o i) Q E a) E c) E s) :
  wpAny (model prog w) A (eval (.Subscript value slice pos) env) Q E s:=by
 refine Subscript_ (wpAny_mono h (λo c f=>wpAny_mono f (λi a b=>?_) λ_ _ x=>x) λ_ _ x=>x);obtain⟨j,b⟩:=b;unfold subscriptTail;refine ao ?_;rw[getitemInPython_of_ne j.not_modules];refine ao (wpAny_specialOf j k ?_);have e:wpAny (model prog w) A (subscripted slice false o i) (λr d=>wpAny (model prog w) A (letTemporaryGo value o r >>= λ_=>pure r) Q E d) E a:=by rw[l o i];exact wpAny_operating (wpAny_mono b (λr d g=>ao (wpAny_letTemporaryGo (ak g))) λ_ _ x=>x)
 first
  |exact ak (ao e)
  |exact ao (ak (ao e))
  |exact ao e
def EC(I:iG X gI σ H s)(g:CT H a y o):s.TypeIs (.ref a) "dict" :=by
 rcases g with⟨d,k,e,_,_⟩|⟨d,k,b,e,_,_,_⟩
 .obtain⟨_,_,f,_,c⟩:=HX I.hok e;exact c.typeIs
 .obtain⟨_,_,h,_,c⟩:=HS I.hok e;exact c.typeIs
def Ld(d ty:TE):TE:=λb H Q=>d b H λx e=>ty b e λy c=>∃a v,x=.ref a/\CT c a y (some v)/\Q v c
def My(d ty f:TE):TS:=λD b H=>f b H λv e=>d b e λx g=>ty b g λy h=>∃a c,x=.ref a/\Nn h a y v c/\D.nx b c
section
variable {X:Cx}{o i e value:Expr}{pos pos' tpos:Pos}{td ty tv:TE}
def Oy(k:X.A.units+1<cLine)(j:PE X o td)(f:PE X i ty)(l:TQ i):PE X (.Subscript o i pos) (Ld td ty):=by intro c s d H Q I h;refine N1 PySem.F.slot_dict_getitem.lookup l (kS (j c s d H _ I h) λu s1 ⟨x,H1,I1,rx,q1⟩=>kS (f c s1 d H1 _ I1 q1) λiv s2 ⟨y,H2,I2,ry,a,v,ex,g,q2⟩=>?_);subst ex;obtain rfl:u=Value.ref a:=rx;exact⟨EC I2 g,Jz k I2 g ry λn p m b=>⟨v,H2,m,b,q2⟩⟩
def PN(j:X.A.units+1<cLine)(f:PE X o td)(d:PE X i ty)(hv:PE X value tv)(k:swapsWith value (some (.Subscript o i pos')) pos.line X.env=pure false) :
  PS X (.Assign [.Subscript o i pos'] value pos) (My td ty tv):=by
 intro c s b H D I h;refine wpAny_Assign_Subscript (kS (hv c s b H _ I h) λr s1 ⟨v,H1,I1,rv,q1⟩=>kS (f c s1 b H1 _ I1 q1) λu s2 ⟨x,H2,I2,rx,q2⟩=>kS (d c s2 b H2 _ I2 q2) λiv s3 ⟨y,H3,I3,ry,a,H4,ex,g,q3⟩=>?_) k;subst ex;obtain rfl:u=Value.ref a:=rx;exact Jd j I3 g ry rv λm l=>⟨b,H4,l,q3⟩
end
def Es(h:Heap)(a:sysModules<h.objs.size):lT P w H (h.push {cls:=.type "dict",data:=.dict #[]}) h.objs.size (.dT []):=⟨bL _,beq_eq_false_iff_ne.mpr (Ne.symm (aM a)),[],.nil,_,#[],0,ar _ rfl,⟨rfl,rfl,rfl⟩,rfl,rfl,List.nodup_nil⟩
def Gh:TE:=λ_ H Q=>∀p,H p=none->Q (.ref p) (jR H p (.dT []))
section
variable {X:Cx}{pos:Pos}
def LJ:PE X (.Dict [] [] pos) Gh:=λb s c H Q I h=>wpAny_Dict_empty ⟨.ref s.heap.objs.size,_,I.laid (a:=s.heap.objs.size) (o:=.dT []) (t':=s.toks) (λ_ _ q=>ae _ q) (aK _) (Es s.heap I.big),rfl,h _ (I.hok.fresh (aK _))⟩
end
end L2
namespace L2
open PySem PySem.Spec PyProof.Rows Builtin
def xQ:fillsNumberSlot (.type "tuple") "mul" = pure false:=PySem.fillsNumberSlot_seq F.slot_tuple_mul.lookup (by decide +kernel) F.slot_tuple_rmul.lookup (by decide +kernel)
def CV:seqRepeat? (.type "tuple")=pure (some (.builtin "tuple.__mul__")):=by unfold seqRepeat?;rw[PySem.seqSlot_of (name:= "__mul__") F.slot_tuple_mul.lookup (by decide +kernel),PySem.seqSlot_of (name:= "__rmul__") F.slot_tuple_rmul.lookup (by decide +kernel)];rfl
def z9 a t l dct its n sl :
  Meets (Builtin.«int.__rmul__» ⟨[.int a t,.ref l],[]⟩) (λ_ R s=>s.heap.get? l=some ⟨.type "tuple",dct,.seq its n,sl⟩/\R (.ok (.ret Value.notImplemented)) s):=
 .of_wp λb w A R s h=>by obtain⟨f,g,d,c,e⟩:=s;obtain⟨i,h⟩:=h;wp_walk;exact⟨_,rfl,h⟩
def Ax a t l dct its n sl (E:-(2 ^ 63)<=a) (F:a<2 ^ 63) (m:its.size*a.toNat<=sizeLine) :
  Meets (Builtin.«tuple.__mul__» ⟨[.ref l,.int a t],[]⟩) (λ_ R s=>s.heap.get? l=some ⟨.type "tuple",dct,.seq its n,sl⟩/\((its.isEmpty=true\/a=1)->R (.ok (.ret (.ref l))) s)/\
   (¬(its.isEmpty=true\/a=1)->a<=0->R (.ok (.ret (.ref s.heap.objs.size))) {s with heap:=s.heap.push {cls:=.type "tuple",data:=.seq #[]}})/\
   (¬(its.isEmpty=true\/a=1)->0<a->R (.ok (.ret (.ref s.heap.objs.size))) {s with heap:=s.heap.push {cls:=.type "tuple",data:=.seq ((List.replicate a.toNat its).foldl (·++·) #[])}})):=
 .of_wp λk w A R s h=>by
  obtain⟨I,g,d,H,D⟩:=s;obtain⟨y,p,u,v⟩:=h;have o:¬(decide (a < -2 ^ 63)||decide (a >= 2 ^ 63))=true:=by simp;omega
  wp_walk;rw[aR o];wp_walk;by_cases b:its.isEmpty=true\/a=1
  .rw[aQ (by rcases b with c|c<;>simp[c])];wp_walk;exact⟨_,rfl,p b⟩
  .rw[aR (by intro z;exact b (by simpa using z))];by_cases f:a<=0
   .rw[aQ (by simp[f])];wp_walk;exact⟨_,rfl,u b f⟩
   .have x:¬its.isEmpty=true:=λz=>b (.inl z);have C:its.size*a<=sizeLine:=by
     have:((its.size*a.toNat:Nat):Int)<=sizeLine:=by exact_mod_cast m
     rw[Int.natCast_mul,cH (by omega)]at this;exact this
    have B:(sizeLine:Int)=2 ^ 24:=by decide
    rw[aR (by simp[f,x]),aR (by omega)];rw[aR (by simp[Tuple.tupleTooMany];omega)];have r:(List.foldl (λj i=>j++i) #[] (List.replicate a.toNat its)).size<=sizeLine:=by
     have e:=t5 its.toList a.toNat [];simp only[b6]at e;have q:List.foldl (λj i=>j++i) #[] (List.replicate a.toNat its)=(List.replicate a.toNat its.toList).flatten.toArray:=by simpa using e
     rw[q,bG,Cp,b7];simpa using m
    wp_walk;exact⟨_,rfl,v b (by omega)⟩
section
variable {X:Cx}
def K9:R2:=λx y H Q=>∃l k a,x=.ref l/\y=.int k/\H l=some (.tup a)/\-(2 ^ 63)<=k/\k<2 ^ 63/\a.length*k.toNat<=sizeLine/\((a=[]\/k=1)->Q (.ref l) H)/\
 (¬(a=[]\/k=1)->∀p,H p=none->Q (.ref p) (jR H p (.tup (List.replicate k.toNat a).flatten)))
def Qd:rO X (binaryOp .Mult) K9:=by
 intro gI s σ H x y v u Q I rx U h;obtain⟨l,k,j,rfl,rfl,D,J,R,A,P,m⟩:=h;cases rx;obtain⟨t,rfl⟩:=U;obtain⟨a,r,⟨⟨c,d,dt,p⟩,e,N,n,S⟩,_⟩:=I.tuple (oK.of D);subst N;subst S;have C:=r.length;have Z:a.toArray.size*k.toNat<=sizeLine:=by rw[bG,<-C];exact A
 have i:a.toArray.isEmpty=true↔j=[]:=by
  cases r with
  |nil=>simp
  |cons _ _=>simp
 have f:(a.toArray.isEmpty=true\/k=1)↔(j=[]\/k=1):=by rw[i]
 have g:List.foldl (λY K=>Y++K) #[] (List.replicate k.toNat a.toArray)=(List.replicate k.toNat a).flatten.toArray:=by have:=t5 a k.toNat [];rw[b6]at this;exact this
 have fr:=I.fresh;refine wpAny_binaryOp_repeat_ref (by decide) ⟨_,e,rfl⟩ (λB=>typeIs_int B k t) xQ F.fills_int_mul F.slot_int_rmul CV F.slot_int_index.lookup
  (call_meets F.slot_int_rmul (typeIs_int s k t) F.entry_int_rmul (F.args_int_rmul_2 _ _) (z9 k t l d a.toArray n p)
   ⟨e,rfl,⟨_,e,rfl⟩,call_meets F.slot_tuple_mul ⟨_,e,rfl⟩ F.entry_tuple_mul (F.args_tuple_mul_2 _ _) (Ax k t l d a.toArray n p J R Z) ⟨e,λz=>?_,λz w=>?_,λz w=>?_⟩⟩)
 .exact⟨.ref l,H,I,rfl,P (f.mp z)⟩
 .have E:k.toNat=0:=by omega
  have q:=m (λy=>z (f.mpr y)) s.heap.objs.size fr;rw[E]at q;exact⟨.ref _,_,I.laid (o:=.tup []) (λb L q=>ae _ q) (aK _) ⟨bL _,[],.nil,zE.new _ _⟩,rfl,q⟩
 .rw[g];refine⟨.ref _,_,I.laid (o:=.tup (List.replicate k.toNat j).flatten) (λb L q=>ae _ q) (aK _) ⟨?_,_,r.rep k.toNat,zE.new _ _⟩,rfl,m (λy=>z (f.mpr y)) _ fr⟩;rw[Cp,b7];exact A
def DX:V->Option Bool
 |.bl b=>some b
 |.int i=>some (i != 0)
 |_=>none
def oF:List V->Option (List Bool)
 |[]=>some []
 |v::vs=>(DX v).bind λb=>(oF vs).bind λr=>some (b::r)
theorem A8:∀{vs} {bs} {us} {i} {u},oF vs=some bs->jc vs us->us[i]? = some u->∃v,jD v u/\DX v=some (bs.getD i false)
 |[],_,_,_,_,_,.nil,e=>by simp at e
 |v::vs,bs,_,i,u,h,.cons r t,e=>by
  cases hv:DX v with
  |none=>simp[oF,hv]at h
  |some b=>
   cases hr:oF vs with
   |none=>simp[oF,hv,hr]at h
   |some r'=>
    simp[oF,hv,hr]at h;subst h;cases i with
    |zero=>simp at e;subst e;exact⟨v,r,by simpa using hv⟩
    |succ i=>obtain⟨d,a,c⟩:=A8 hr t (by simpa using e);exact⟨d,a,by simpa using c⟩
theorem BG:∀{vs} {bs},oF vs=some bs->vs.length=bs.length
 |[],_,h=>by cases h;rfl
 |v::vs,bs,h=>by
  cases hv:DX v with
  |none=>simp[oF,hv]at h
  |some b=>
   cases hr:oF vs with
   |none=>simp[oF,hv,hr]at h
   |some r'=>simp[oF,hv,hr]at h;subst h;simp[BG hr]
def Aa(h:oF vs=some bs)(r:jc vs us):TruthOf prog w A (λi v=>us.toArray[i]? = some v) (λi=>bs.getD i false):=λi u s Q E e a=>by
 obtain⟨v,d,c⟩:=A8 h r (by simpa using e);dsimp only at a;cases v with
 |bl b=>
  cases d;have:b=bs.getD i false:=by simpa[DX] using c
  rw[<-this]at a;exact wpAny_truthy_bool a
 |int n=>
  obtain⟨t,rfl⟩:=d;have:(n != 0)=bs.getD i false:=by simpa[DX] using c
  rw[<-this]at a;exact PyProof.Rows.truthy_int a
 |_=>simp[DX]at c
def JU(m:X.calm=true):lR X (.builtin "any") (λxs H Q=>∃p vs bs,xs=[.ref p]/\(mz X.K H p vs\/oK X.K H p vs)/\oF vs=some bs/\Q (.bl (bs.any id)) H):=by
 intro D s C H xs E Q I r h;obtain⟨p,vs,bs,rfl,g,a,q⟩:=h;obtain⟨u,rfl,y⟩:=qf r;cases y;have B:=BG a;rcases g with g|g
 .obtain⟨c,j,f,n⟩:=I.list g;have w:=j.length;have d:p<s.heap.objs.size:=by obtain⟨_,e,_⟩:=f.isList;exact aL e
  refine call_any_walk (wpAny_pyIter_list f.isList ⟨s.heap.objs.size,_,_,_,_,_,λi=>bs.getD i false,rfl,Walks.list (A:=X.A.in1) (I.ok.hd m) _ p (aM d) _,⟨⟨_,ar _ rfl,rfl,rfl⟩,f.isList.push _⟩,Aa a j,λv x l=>?_⟩);refine⟨.bl _,H,I.kept (λb o e=>l b o (λk=>?_) (ae _ e)),rfl,?_⟩
  .have lt:=aL e;have z:b=s.heap.objs.size:=by simpa using k
   rw[z]at lt;exact a9 _ lt
  .rw[<-BM]at q;have:c.toArray.size=bs.length:=by rw[bG];omega
   rw[this];exact q
 .obtain⟨c,j,f,n⟩:=I.tuple g;have w:=j.length;have d:p<s.heap.objs.size:=by obtain⟨_,e,_⟩:=f;exact aL e
  have pt:=f;refine call_any_walk (wpAny_pyIter_tuple pt ⟨s.heap.objs.size,_,_,_,_,_,λi=>bs.getD i false,rfl,Walks.tuple (A:=X.A.in1) (I.ok.hd m) _ p (aM d) _,⟨⟨_,ar _ rfl,rfl,rfl⟩,pt.push _⟩,Aa a j,λv x l=>?_⟩);refine⟨.bl _,H,I.kept (λb o e=>l b o (λk=>?_) (ae _ e)),rfl,?_⟩
  .have lt:=aL e;have z:b=s.heap.objs.size:=by simpa using k
   rw[z]at lt;exact a9 _ lt
  .rw[<-BM]at q;have:c.toArray.size=bs.length:=by rw[bG];omega
   rw[this];exact q
end
end L2
namespace L2
open PySem PySem.Spec PyProof.Rows
section
variable {prog:Program}{w:World}{A:Around}{E:Value->Shared->Prop}{s:Shared}
def JH{i:Nat}{Q:Value->Shared->Prop}(C:IsEnum s.heap e it i old)(hi:mq b s.heap it l i)(Z:j4 b s.heap l xs)(j:e≠it)
  (y:∀x h,xs[i]? = some x->IsEnumOut h e it ((i:Int)+1) x s.heap.objs.size->mq b h it l (i+1)->h.get? s.heap.objs.size=some {cls:=.type "tuple",data:=.seq #[.int i s.toks,x]}->h.objs.size=s.heap.objs.size+1->
   (∀c o,c≠e->c≠it->s.heap.get? c=some o->h.get? c=some o)->Q (.ref s.heap.objs.size) {s with heap:=h,toks:=s.toks+1})
  (no:xs[i]? = none->A.handled=none/\∀h x,Heap.ExtBut it s.heap h->(∃o,h.get? x=some o/\o.cls=.type "StopIteration")->E (.ref x) {s with heap:=h}) :
  wpAny (model prog w) A (Builtin.«enumerate.__next__» ⟨[.ref e],[]⟩) (λI Y=>∃v,I=.done (.ret v)/\Q v Y) E s:=by
 obtain⟨S,g,d,R,os⟩:=s;show wpAny _ _ (field (.ref e) 2 >>= λ_=>_) _ _ _;refine ao (wpAny_field C rfl rfl (ao (vP hi Z (λx g1 hx t1 k1=>?_) no)));have k:=k1;have z:=(k.2 e j).trans C;refine ao (wpAny_field z rfl rfl ?_);refine ao (wpAny_field z rfl rfl ?_);refine ao (wpAny_mkInt (ao (wpAny_setField_rec z (by simp) λg2 y2 D=>?_)));have z2:=y2;refine ao (wpAny_setField_rec z2 (by simp) λm y3 H=>?_);have X:=y3;refine ao (wpAny_newTuple ?_);have sz:m.objs.size=S.objs.size:=by have a:=H.1;have c:=D.1;have u:=k.1;dsimp only at a c u;omega
 have B:IsEnum (m.push {cls:=.type "tuple",data:=.seq #[.int i R,x]}) e it (i+1) old:=ae _ X;have U:=aL C;have r:∀c o,c≠e->c≠it->S.get? c=some o->m.get? c=some o:=λc o f F q=>H.extBut c o f (D.extBut c o f (k.extBut c o F q));unfold Builtin.SmallTypes.ownedTupleIsFree;refine ao (ao (wpAny_field B rfl rfl (ak ?_)));simp only[if_true];refine ao (wpAny_rule (ao (wpAny_field B rfl rfl (ao (wpAny_setField_rec B (by simp) λg5 y5 K=>?_)))));have z5:=y5;unfold Builtin.SmallTypes.ownedTupleHandOut;refine ao (ao (wpAny_setField_rec z5 (by simp) λg6 y6 J=>?_));have z6:=y6;refine wpAny_setField_rec z6 (by simp) λp y7 P=>?_;have L:=y7;have up:∀c o,c≠e->(m.push {cls:=.type "tuple",data:=.seq #[.int i R,x]}).get? c=some o->p.get? c=some o:=λc o f q=>P.extBut c o f (J.extBut c o f (K.extBut c o f q));have n:∀c o,c≠e->m.get? c=some o->p.get? c=some o:=λc o f q=>up c o f (ae _ q);have tp:=up _ _ (by rw[sz];exact bC U) (ar _ rfl);have N:p.objs.size=m.objs.size+1:=by have a:=P.1;have c:=J.1;have u:=K.1;dsimp only at a c u;rw[Heap.size_push]at u;omega
 refine ao (wpAny_letGo (ak ⟨_,rfl,?_⟩));rw[sz]at L tp N ⊢;exact y x p hx L (t1.to λo q=>n it o (Ne.symm j) (H.extBut it o (Ne.symm j) (D.extBut it o (Ne.symm j) q))) tp N λc o f F q=>n c o f (r c o f F q)
def wI{i:Nat}(g:IsEnum s.heap e it i old)(n:mq b s.heap it l i)(j:j4 b s.heap l xs)(d:e≠it)
  (f:∀x a,xs[i]? = some x->IsEnumOut a e it ((i:Int)+1) x s.heap.objs.size->mq b a it l (i+1)->a.get? s.heap.objs.size=some {cls:=.type "tuple",data:=.seq #[.int i s.toks,x]}->a.objs.size=s.heap.objs.size+1->
   (∀c o,c≠e->c≠it->s.heap.get? c=some o->a.get? c=some o)->Q (some (.ref s.heap.objs.size)) {s with heap:=a,toks:=s.toks+1})
  (h:xs[i]? = none->A.handled=none/\∀a,Heap.ExtBut it s.heap a->Q none {s with heap:=a}):wpAny (model prog w) A (pyNext (.ref e)) Q E s:=by
 have ty:s.TypeIs (.ref e) "enumerate" :=⟨_,g,rfl⟩;unfold pyNext;refine ao (wpAny_attempt (wpAny_callSpecial?_slot ty F.slot_enumerate_next (wpAny_call_entry F.slot_enumerate_next ty F.entry_enumerate_next
  (JH g n j d (λx a k m v u p r=>ak (f x a k m v u p r)) λq=>⟨(h q).1,λa x hk ⟨o,ho,hc⟩=>?_⟩) (F.args_enumerate_next_1 _))))
 exact ao (wpAny_isInstance ⟨o,ho,hc⟩ isSubtype_stop (ak ((h q).2 a hk)))
noncomputable abbrev eo(b:Bool)(l:Addr):Obj:={cls:=.type (yF b),data:=.fields #[.ref l,.int 0 0]}
abbrev en(p:Addr):Obj:={cls:=.type "enumerate",data:=.fields #[.none,.bool false,.ref p,rawInt 0,.none,.none]}
def FU b l xs:Meets (Builtin.«enumerate.__new__» ⟨[.type "enumerate",.ref l],[]⟩) (λ_ R s=>j4 b s.heap l xs/\
  R (.ok (.ret (.ref (s.heap.push (eo b l)).objs.size))) {s with heap:=(s.heap.push (eo b l)).push (en s.heap.objs.size)}):=by
 refine .of_wp λprog w A R s h=>?_;obtain⟨r,g,d,q,j⟩:=s;obtain⟨i,e⟩:=h;have f:=sub_enumerate;have a:=i;obtain⟨o,n,k,p⟩:=a.look;wp_walk using qS a;refine wpAny_stack_any λm=>ak ?_;split
 .rename_i c _ _ _ _ _;cases (c==Value.type "enumerate")
  .wp_walk using qS a;exact⟨_,rfl,e⟩
  .wp_walk using qS a;exact⟨_,rfl,e⟩
 .wp_walk using qS a;exact⟨_,rfl,e⟩
def A7(g:j4 b s.heap l xs)
  (h:∀a,IsEnum a (s.heap.objs.size+1) s.heap.objs.size 0 .none->mq b a s.heap.objs.size l 0->a.objs.size=s.heap.objs.size+2->(∀c o,s.heap.get? c=some o->a.get? c=some o)->Q (.ref (s.heap.objs.size+1)) {s with heap:=a}) :
  wpAny (model prog w) A (call (.type "enumerate") [.ref l]) Q E s:=by
 refine callType_new F.called_enumerate (by decide) (F.typeCall_enumerate_1 _) (F.newCall_enumerate_1 _) (λd=>F.args_object_init_2 d _) F.entry_enumerate_new (FU b l xs) ⟨g,?_⟩;have e:(s.heap.push (eo b l)).objs.size=s.heap.objs.size+1:=Heap.size_push ..;have f:=ar (s.heap.push (eo b l)) (o:=en s.heap.objs.size) rfl;rw[e]at f;rw[e];exact⟨⟨_,f,rfl⟩,h _ f (.of ⟨_,ae _ (ar _ rfl),rfl,rfl⟩) (by rw[Heap.size_push,e]) λc o q=>ae _ (ae _ q)⟩
end
noncomputable def WJ(K:W.Frag)(b:Bool)(l:Addr):It:=
  ⟨λi H=>∃a x,xK K H b l a/\a[i]? = some x,
   λi H v c=>∃p x,v=.ref p/\H p=none/\c=jR H p (.tup [.int i,x])/\∀a,xK K H b l a->a[i]? = some x,
   λi H=>∃a,xK K H b l a/\a.length<=i⟩
def JO{K:W.Frag}{x1}(n:e≠it) :
  ED P w K (.Tuple elts x1 pos) (WJ K b l) [e,it] e (λi h=>(∃a,IsEnum h e it i a)/\mq b h it l i) where
 mem:=by simp
 obj:=λi h j c J=>by
  obtain⟨⟨a,g⟩,m⟩:=j;have mem:c=e\/c=it:=by simpa using J
  rcases mem with rfl|rfl
  .exact⟨_,g,λv q=>by cases q⟩
  .obtain⟨o,q,_,d⟩:=m.look;exact⟨o,q,λv q'=>by rw[d]at q';cases q'⟩
 keep:=λi h Q j k=>by obtain⟨⟨a,g⟩,m⟩:=j;exact⟨⟨a,k e (by simp) _ g⟩,m.to λo q=>k it (by simp) o q⟩
 item:=by
  intro X N hw Y J i gI s σ H E I D j S;subst N hw Y;obtain⟨⟨a,g⟩,m⟩:=j;obtain⟨xs,x,F,e1⟩:=S;obtain⟨B,U,Z,z1⟩:=I.seqB F;obtain⟨u,gu,ru⟩:=U.get e1;have y:=I.fpOk (aK _) (I.hok.fresh (aK _));refine wI g m Z n (λC Q p a1 a2 a3 a4 L=>?_) λq=>?_
  .have eu:C=u:=by
    have:B[i]? = some C:=by simpa using p
    rw[gu]at this;cases this;rfl
   subst eu;refine⟨_,rfl,wpAny_letOwnedTupleGo_enum a1 λR A sb=>?_⟩;have r:=sb;have zT:=bC (aL g);have I1:=I.turnedL (t':=s.toks+1) (λb o f q=>r.extBut _ _ (λz=>f (by simp[z])) (L b o (λz=>f (by simp[z])) (λz=>f (by simp[z])) q)) (λb f=>D b f);have gT:=r.extBut _ _ zT a3;have I2:iG X gI σ (jR H s.heap.objs.size (.tup [.int i,x])) {s with heap:=R,toks:=s.toks+1}:=I1.track y.1 y.2.2.2.1 y.2.1 y.2.2.2.2.1 y.2.2.2.2.2
    ⟨by show 2<=sizeLine;decide,[.int i s.toks,C],.cons ⟨_,rfl⟩ (.cons ru .nil),⟨_,gT,rfl,_,rfl,rfl⟩⟩
   have lt:∀{b o},s.heap.get? b=some o->jR H s.heap.objs.size (.tup [.int i,x]) b=H b:=λ{b o} q=>gY (aM (aL q));refine⟨.ref s.heap.objs.size,_,I2,rfl,⟨_,x,rfl,y.1,rfl,λxs' h=>by rw[I.seqB_inj h F];exact e1⟩,?_,λb f=>?_⟩
   .exact⟨⟨_,A⟩,a2.to λo q=>r.extBut _ o (Ne.symm n) q⟩
   .have mem:b=e\/b=it:=by simpa using f
    have hn:=(D b f).1;obtain⟨o1,g1,_⟩:=m.look;rcases mem with rfl|rfl
    .rw[lt g];exact hn
    .rw[lt g1];exact hn
  .exfalso;have m1:B.toArray[i]? = some u:=by simpa using gu
   rw[m1]at q;cases q
 done:=by
  intro X N hw Y J i gI s σ H E I D j S;subst N hw Y;obtain⟨⟨a,g⟩,m⟩:=j;obtain⟨xs,F,hl⟩:=S;obtain⟨B,U,Z,z1⟩:=I.seqB F;have n1:=U.length;refine wI g m Z n (λC Q p a1 a2 a3 a4 L=>?_) λq=>⟨I.ok.hd J,λQ L=>⟨rfl,I.turnedL (ch:=[it]) (λb o f q=>L b o (λz=>f (by simp[z])) q) λb f=>D b (by
   have:b=it:=by simpa using f
   simp[this])⟩⟩
  exfalso;have m1:i<B.length:=by
   have:B[i]? = some C:=by simpa using p
   exact (aa.mp this).1
  omega
 self:=λ_ _ _ _ _ j h=>by obtain⟨⟨a,g⟩,_⟩:=j;exact wpAny_pyIter_enum g h
section
variable {X:Cx}
def KF(K:W.Frag)(b:Bool)(d:TA):TI:=λe H R=>d e H λc a=>∃l,c=[.ref l]/\(∃f,xK K a b l f)/\R (WJ K b l) a
def Nm{x1}(v:Gl X "enumerate")(n:X.mg "enumerate" = none)(i:PA X [a] ta)(k:starEach [a] X.env=[(false,eval a X.env)]:=by rfl) :
  PI X (.Tuple elts x1 tpos) (.Call (.Name "enumerate" p) [a] [] pos) (KF X.K b ta):=by
 intro m s j H R I h;refine Call_ (rH I v n boot_enumerate (PyProof.Rows.callWith_type1 (kS (i pos m s j H _ I h) λx s1 ⟨vs,H1,I1,r1,c⟩=>?_) k rfl));obtain⟨l,rfl,⟨C,c⟩,q⟩:=c;obtain⟨u,rfl,z⟩:=qf r1;cases z;obtain⟨x,g,y,_⟩:=I1.seqB c;refine A7 y λB e w o A=>?_;refine wpAny_pyIter_enum e ?_;refine⟨_,_,_,_,H1,rfl,I1.kept A,JO (Nat.succ_ne_self _),⟨⟨_,e⟩,w⟩,λb r=>?_,q⟩;have d:b=s1.heap.objs.size+1\/b=s1.heap.objs.size:=by simpa using r
 have f:s1.heap.objs.size<=b:=by rcases d with rfl|rfl<;>omega
 exact I1.fpOk f (I1.hok.fresh f)
end
end L2
namespace HT
open PySem PySem.Spec PyProof.Rows
section
variable {prog:Program}{w:World}{A:Around}{E:Value->Shared->Prop}{s:Shared}
def getItem_tuple_all{a d:Option Int}(c:IsTup s.heap t items)(i:s.heap.IsSliceOf sl vl vu .none)(k:IsPart vl a)(m:IsPart vu d)
  (hw:sIx items.size 0 a=0/\sIx items.size items.size d=items.size) (h:Q (.ref t) s):wpAny (model prog w) A (getItem (.ref t) (.ref sl)) Q E s:=by
 obtain⟨j,f,e,l⟩:=id i;have g:s.TypeIs (.ref sl) "slice" :=⟨j,f,e⟩;unfold getItem;try with_reducible refine wpAny_holding ?_;first|refine ao (ak ?_)|skip
 refine ao (wpAny_sequenceKey c.typeIs (by decide) ?_);refine ao (wpAny_callSpecial?_slot c.typeIs PyProof.Rows.slot_tuple_getitem
  (wpAny_call_entry PyProof.Rows.slot_tuple_getitem c.typeIs entry_tuple_getitem ?_ (args_tuple_getitem _ _)))
 show wpAny _ _ (Builtin.Tuple.tupleItemsOf (.ref t) >>= _) _ _ s;refine ao (tupleItemsOf_ c ?_);refine ao (wpAny_typeOf g ?_);rw[aQ (by decide)];refine ao (qZ i k m ?_);have b:(((sIx items.size 0 a):Int)==0&&(1:Int)==1&&(sIx items.size items.size d-sIx items.size 0 a)==items.size)=true:=by rw[hw.1,hw.2];simp
 show wpAny _ _ (if (((sIx items.size 0 a):Int)==0&&1==1&&(sIx items.size items.size d-sIx items.size 0 a)==items.size)=true then _ else _) _ _ s;rw[aQ b];refine ao (ao (wpAny_typeOf c.typeIs (ak ?_)));rw[aQ (by decide)];refine ao (wpAny_rule ?_);exact ak ⟨_,rfl,ak h⟩
end
end HT
namespace L2
open PySem PySem.Spec PyProof.Rows
section
variable {X:Cx}
def UI(K:W.Frag):V->Option Int->Option Int->Hp->VK->Prop:=λx d c H Q=>∃a b,x=.ref a/\oK K H a b/\(HT.sIx b.length 0 d=0/\HT.sIx b.length b.length c=b.length)/\Q (.ref a) H
def Qs:Rr X (UI X.K):=by
 intro n s m H x v w l u o p Q I k d f i h;obtain⟨a,g,rfl,e,hw,q⟩:=h;cases k;obtain⟨b,r,c,y⟩:=I.tuple e;have j:b.toArray.size=g.length:=by rw[bG];exact r.length.symm
 refine⟨"tuple",_,PyProof.Rows.slot_tuple_getitem.lookup,c.typeIs,?_⟩;exact HT.getItem_tuple_all c d f i (by rw[j];exact hw) ⟨.ref a,H,I,rfl,q⟩
end
end L2
namespace L2
open PySem PySem.Spec PyProof.Rows
section
variable {prog:Program}{w:World}{A:Around}{E:Value->Shared->Prop}{s:Shared}{d it:Addr}{es:Array DictEntry}{ep i:Nat}
def wW(h:Heap)(d:Addr)(es:Array DictEntry)(ep:Nat):Prop:=∃o,h.get? d=some o/\o.ExactDict/\o.data=.dict es ep
def wW.to(x:wW h d es ep)(k:∀o,h.get? d=some o->h'.get? d=some o):wW h' d es ep:=let ⟨o,a,r⟩:=x;⟨o,k o a,r⟩
def wW.lt(x:wW h d es ep):d<h.objs.size:=let ⟨_,a,_⟩:=x;aL a
def wW.ty(x:wW s.heap d es ep):s.TypeIs (.ref d) "dict" :=let ⟨o,a,c,_⟩:=x;⟨o,a,c.1⟩
def Lu(e:(d==sysModules)=false)(x:wW s.heap d es ep)
  (q:Q (.ref s.heap.objs.size) {s with heap:=s.heap.push {cls:=.type "dict_keyiterator",data:=.fields #[.ref d,.int 0 0,.int es.size 0,.int ep 0]}}):wpAny (model prog w) A (pyIter (.ref d)) Q E s:=by
 obtain⟨o,a,c,b⟩:=id x;refine wpAny_pyIter_slot x.ty F.slot_dict_iter (wpAny_call_entry F.slot_dict_iter x.ty F.entry_dict_iter ?_ (F.args_dict_iter_1 _));unfold Builtin.«dict.__iter__»;refine ao ?_;unfold Builtin.Dict.dictSlotNone;refine ao (wpAny_notOrdered_dict x.ty ?_);show wpAny _ _ (pure (Value.ref d)) _ _ s;refine ak ?_;show wpAny _ _ (Builtin.Dict.showsAll d >>= λ_=>_) _ _ s;unfold Builtin.Dict.showsAll;rw[aR (by rw[e];exact λz=>nomatch z)];refine ao (ak (ao (wpAny_dictEntries a b (ao (wpAny_dictEpoch a b ?_)))));refine ao (wpAny_newObj_type (ak ⟨_,rfl, "dict_keyiterator",_,⟨_,ar _ rfl,rfl⟩,F.slot_dict_keyiterator_next.lookup,?_⟩));simpa[rawInt] using q
def RN(j:s.heap.IsKeyIter it d i es.size ep)(x:wW s.heap d es ep) hi
  (q:∀f,f.IsKeyIter it d (i+1) es.size ep->Heap.SameBut it s.heap f->Q (some es[i].key) {s with heap:=f}):wpAny (model prog w) A (pyNext (.ref it)) Q E s:=by
 obtain⟨o,a,c,b⟩:=id j;obtain⟨l,k,m,g⟩:=id x;have e:Builtin.Dict_items.ownsTuple "dict_keyiterator" = false:=by decide
 unfold pyNext;refine ao (wpAny_attempt (wpAny_callSpecial?_slot j.typeIs F.slot_dict_keyiterator_next (wpAny_call_entry F.slot_dict_keyiterator_next j.typeIs F.entry_dict_keyiterator_next ?_ (F.args_dict_keyiterator_next_1 _))));refine ao (ak (ao (ao ?_)));first|refine ao (wpAny_typeNameOfWhole_keyiter j.typeIs (ak (ao (wpAny_fieldsOf a b ?_))))|refine ao (wpAny_typeNameOf_keyiter j.typeIs (ak (ao (wpAny_fieldsOf a b ?_))))
 simp only[e,cj,if_false];show wpAny _ _ (if (Value.ref d==Value.none)=true then _ else _) _ _ s;rw[aR (λz=>nomatch z)];refine ao (ak (ao (wpAny_dictEntries k g ?_)));rw[aR (by simp)];refine ao (ak (ao (wpAny_dictEpoch k g ?_)));rw[aR (by simp)];refine ak ?_;simp only[show ¬(i<0) from by omega,if_false,bT,Array.getElem?_eq_getElem hi];refine ao ?_;first|refine ao (wpAny_typeNameOfWhole_keyiter j.typeIs (ak (ao (wpAny_isOneOf_keyiter j.typeIs ?_))))|refine ao (wpAny_typeNameOf_keyiter j.typeIs (ak (ao (wpAny_isOneOf_keyiter j.typeIs ?_))))
 show wpAny _ _ (setField (.ref it) 1 (rawInt (i+1)) >>= λ_=>_) _ _ s;refine ao (wpAny_setField a b (by simp) ?_);have h:(s.heap.update it (Obj.mapFields (·.setIfInBounds 1 (rawInt (i+1))))).IsKeyIter it d (i+1) es.size ep:=⟨_,Heap.get?_update_self _ a (Obj.isFreed_of_fields (Obj.data_mapFields b _)),(Obj.cls_mapFields ..).trans c,by rw[Obj.data_mapFields b];simp[rawInt]⟩
 refine ao (wpAny_holding (ao (wpAny_isOneOf_keyiter h.typeIs ?_)));exact ak (ak ⟨_,rfl,ak (q _ h (Heap.SameBut.update ..))⟩)
def Oj(k:A.handled=none)(j:s.heap.IsKeyIter it d es.size es.size ep)(x:wW s.heap d es ep)(q:∀g,Heap.ExtBut it s.heap g->Q none {s with heap:=g}) :
  wpAny (model prog w) A (pyNext (.ref it)) Q E s:=by
 obtain⟨o,a,c,b⟩:=id j;obtain⟨l,h,m,f⟩:=id x;have e:Builtin.Dict_items.ownsTuple "dict_keyiterator" = false:=by decide
 unfold pyNext;refine ao (wpAny_attempt (wpAny_callSpecial?_slot j.typeIs F.slot_dict_keyiterator_next (wpAny_call_entry F.slot_dict_keyiterator_next j.typeIs F.entry_dict_keyiterator_next ?_ (F.args_dict_keyiterator_next_1 _))));refine ao (ak (ao (ao ?_)));first|refine ao (wpAny_typeNameOfWhole_keyiter j.typeIs (ak (ao (wpAny_fieldsOf a b ?_))))|refine ao (wpAny_typeNameOf_keyiter j.typeIs (ak (ao (wpAny_fieldsOf a b ?_))))
 simp only[e,cj,if_false];show wpAny _ _ (if (Value.ref d==Value.none)=true then _ else _) _ _ s;rw[aR (λz=>nomatch z)];refine ao (ak (ao (wpAny_dictEntries h f ?_)));rw[aR (by simp)];refine ao (ak (ao (wpAny_dictEpoch h f ?_)));rw[aR (by simp)];refine ak ?_;simp only[show ¬(es.size<0) from by omega,if_false,bT,Array.getElem?_eq_none (aK es.size)];refine ao ?_;first|refine ao (wpAny_typeNameOfWhole_keyiter j.typeIs (ak ?_))|refine ao (wpAny_typeNameOf_keyiter j.typeIs (ak ?_))
 show wpAny _ _ (setField (.ref it) 0 .none >>= λ_=>_) _ _ s;refine ao (wpAny_setField a b (by simp) ?_);refine ao ?_;simp only[newExc,newTuple];refine ao (wpAny_newObj_type ?_ (by size_fits));refine ao (wpAny_of_eq (by first|rfl|(simp only[firstArgMember];rfl)) ?_);refine wpAny_newObj_type ?_ (by size_fits);simp only[raiseNew];refine ao (wpAny_handled ?_);rw[show A.in1.handled=none from k];refine ao (ak (wpAny_throw ?_));refine ao (wpAny_isInstance ⟨_,ar _ rfl,rfl⟩ isSubtype_stop ?_);exact ak (q _ (((Heap.SameBut.update ..).extBut.push _).push _))
def Jx(g:A.handled=none) I d (ne:d≠I) es ep :
  Walks prog w A I [I,d] [I] es.size (λi v=>∃e,es[i]? = some e/\v=e.key) (λi h=>h.IsKeyIter I d i es.size ep/\wW h d es ep) where
 sub:=λb a=>by simp at a;simp[a]
 frame:=λ_ _ _ x k=>⟨x.1.at λo e=>k I (by simp) o e,x.2.to λo e=>k d (by simp) o e⟩
 item:=λi s Q E f x q=>RN x.1 x.2 f λc j k=>q _ c s.toks ⟨es[i],by simp[f],rfl⟩ ⟨j,x.2.to λo e=>k.extBut d o ne e⟩ λb o a e=>k.extBut b o (λz=>a (by simp[z])) e
 done:=λs Q E x q=>Oj g x.1 x.2 λc k=>q c s.toks λb o a e=>k b o (λz=>a (by simp[z])) e
 self:=λ_ _ _ _ x q=>wpAny_pyIter_keyiter x.1 q
def Po(b:(d==sysModules)=false):W.KdlSrc prog w "dict" d d es.size (λi v=>∃e,es[i]? = some e/\v=e.key) (λh=>wW h d es ep) where
 type:=λ_ x=>x.ty
 there:=λ_ x=>⟨x.lt,x.lt⟩
 keep:=λ_ _ x k=>x.to λo e=>k d (.inl rfl) o e
 notList:=by decide
 notTuple:=by decide
 hint:=λ_ _ _ _ x q=>W.kdl_hint_dict x.ty q
 iter:=λ_ _ a x=>⟨_,_,(λ_ _ q=>Lu b x q),Jx a _ d (aM x.lt) es ep,⟨⟨_,ar _ rfl,rfl,rfl⟩,x.to λo e=>ae _ e⟩⟩
end
theorem sI:∀{xs} {us},xs.length=us.length->(∀(i:Nat) v,us[i]? = some v->∃x,xs[i]? = some x/\jD x v)->jc xs us
 |[],[],_,_=>.nil
 |x::xs,u::us,hl,h=>by obtain⟨a,e,r⟩:=h 0 u rfl;simp at e;subst e;exact .cons r (sI (by simpa using hl) λi v hv=>by simpa using h (i+1) v (by simpa using hv))
theorem w9{F:α->β->Prop}:∀{l:List α} {m:List β} {i:Nat} {a:α},Paired F l m->l[i]? = some a->∃b,m[i]? = some b/\F a b
 |_::_,_::_,0,_,.cons h _,e=>by simp at e;subst e;exact⟨_,rfl,h⟩
 |_::_,_::_,i+1,_,.cons _ r,e=>by simpa using w9 r (by simpa using e)
section
variable {X:Cx}
theorem Fp(hc:X.calm=true):lR X (.type "list") (λxs H Q=>∃a kvs,xs=[.ref a]/\H a=some (.dT kvs)/\∀(l:Addr) (bs:List Addr),H l=none->bs.length=kvs.length->
  (∀(i:Nat) (b:Addr),bs[i]? = some b->∃k v,kvs[i]? = some (k,v)/\H b=some (.tup (k.map kV)))->Q (.ref l) (jR H l (.lst (bs.map V.ref)))):=by
 intro gI s σ H xs us Q I r h;obtain⟨a,kvs,rfl,e,q⟩:=h;obtain⟨u,rfl,rx⟩:=qf r;cases rx;obtain⟨z,Z,f,C,o,x,R,S,U,N,B,nd⟩:=(I.hok a _ e);have sz:x.size=f.length:=by rw[<-bB,B,aw]
 have n:=Paired.length C;refine W.kdl_call (Po Z) (I.ok.hd hc) (⟨o,S,U,N⟩:wW s.heap a x R) (by rw[sz,<-n];exact z) λL tk c c' F J d=>?_;have A:∀(i:Nat) v,c[i]? = some v->∃y,f[i]? = some y/\v=.ref y.2.1:=λi v hv=>by
  obtain⟨en,P,h2⟩:=d.2 i v hv;have m:x.toList[i]? = some en:=by simpa using P
  rw[B,av]at m;cases g:f[i]? with
  |none=>rw[g]at m;cases m
  |some y=>rw[g]at m;cases m;exact⟨y,rfl,h2⟩
 have K:c.size=f.length:=by rw[<-sz];exact d.1
 have va:jc ((f.map λy=>y.2.1).map V.ref) c.toList:=by refine sI (by simp[K]) λi v hv=>?_;obtain⟨y,p,E⟩:=A i v (by simpa using hv);exact⟨.ref y.2.1,by simp[p],by rw[E];rfl⟩
 refine⟨.ref s.heap.objs.size,_,I.laid F (aK _) (show lT X.prog X.w _ L _ (.lst ((f.map λy=>y.2.1).map V.ref)) from ⟨by simp[<-n];exact z,c.toList,c',va,by simpa using J⟩),rfl,q _ _ (I.hok.fresh (aK _)) (by simp[n]) λi b j=>?_⟩;rw[av]at j;cases g:f[i]? with
 |none=>rw[g]at j;cases j
 |some y=>
  rw[g]at j;cases j;have D:i<kvs.length:=by rw[n];exact (aa.mp g).1
  obtain⟨y',p,E,Y,e4⟩:=w9 C (ag D);rw[g]at p;cases p;exact⟨_,_,ag D,Y⟩
end
end L2
namespace L2
open PySem PySem.Spec PyProof.Rows
noncomputable def Wk(K:W.Frag)(a:Addr)(n:Nat):It:=⟨λi H=>i<n/\∃b x,mz K H a b/\b.length=n/\b[n-1-i]? = some x,λi H x c=>c=H/\∀b,mz K H a b->b[n-1-i]? = some x,λi H=>i=n/\∃b,mz K H a b⟩
def Le{K:W.Frag} a it n:ED P w K tg (Wk K a n) [it] it (λi h=>h.IsRevIter it a ((n:Int)-1-i)) where
 mem:=by simp
 obj:=λi h f b g=>by
  obtain rfl:b=it:=by simpa using g
  obtain⟨o,e,c,d⟩:=f;exact⟨o,e,λv z=>by rw[d]at z;cases z⟩
 keep:=λi h N f k=>f.at λo e=>k it (by simp) o e
 item:=by
  intro X q hw F Q i Y s S H E I l f A;subst q hw F;obtain⟨hi,xs,x,m,hn,L⟩:=A;obtain⟨its,rv,p,hz⟩:=I.list m;obtain⟨u,hu,ru⟩:=rv.get L;obtain⟨r,D,Z,C,y,B⟩:=l it (by simp);have J:n-1-i=((n-1-i:Nat):Int):=by omega
  rw[J]at f;refine wpAny_pyNext_rev_item f p.isList (by simpa using hu) λN j U=>?_;have I1:=I.turned (t':=s.toks) (λb o g e=>(U.2 b g).trans e) r D C y B;have e2:((n-1-i:Nat):Int)-1=n-1-((i+1):Int):=by omega
  rw[e2]at j;obtain⟨o,e,c,d⟩:=id j;exact⟨u,rfl,Hs e c d (by decide) ⟨x,H,I1,ru,⟨rfl,λys hy=>by rw[I.list_inj hy m];exact L⟩,j,λb g=>(l b g).1⟩⟩
 done:=by
  intro X q hw F Q i Y s S H E I l f A;subst q hw F;obtain⟨rfl,xs,m⟩:=A;obtain⟨r,D,Z,C,y,B⟩:=l it (by simp);have J:(i:Int)-1-i = -1:=by omega
  rw[J]at f;exact wpAny_pyNext_rev_end (I.ok.hd Q) f λN R=>⟨rfl,I.turned (λb o g e=>R b o g e) r D C y B⟩
 self:=λ_ _ _ _ _ f h=>wpAny_pyIter_revIter f h
section
variable {X:Cx}{tg:Expr}
def RE(K:W.Frag)(d:TA):TI:=λe H R=>d e H λc a=>∃l b,c=[.ref l]/\mz K a l b/\R (Wk K l b.length) a
def Qx(y:Gl X "reversed")(v:X.mg "reversed" = none)(j:PA X [a] ta)(r:starEach [a] X.env=[(false,eval a X.env)]:=by rfl) :
  PI X tg (.Call (.Name "reversed" p) [a] [] pos) (RE X.K ta):=by
 intro f s d H R I h;refine Call_ (rH I y v (by decide +kernel:bootBuiltins "reversed" = some (.type "reversed")) (PyProof.Rows.callWith_type1 (kS (j pos f s d H _ I h) λus s1 ⟨vs,H1,I1,r1,q1⟩=>?_) r rfl));obtain⟨l,i,rfl,m,q⟩:=q1;obtain⟨u,rfl,A⟩:=qf r1;cases A;obtain⟨c,z,x,B⟩:=I1.list m;have n:=z.length;refine call_reversed_list x.isList ?_;have k:iG X f d H1 {s1 with heap:=s1.heap.push (revObj l (c.toArray.size-1))}:=I1.kept λb o e=>ae _ e;have g:(s1.heap.push (revObj l (c.toArray.size-1))).IsRevIter s1.heap.objs.size l (i.length-1-(0:Int)):=⟨_,ar _ rfl,rfl,by simp[revObj,n]⟩;refine wpAny_pyIter_revIter g ?_;refine⟨s1.heap.objs.size,[s1.heap.objs.size],_,_,H1,rfl,k,Le l _ i.length,g,λb w=>?_,q⟩;obtain rfl:b=s1.heap.objs.size:=by simpa using w
 exact I1.fpOk (aK _) (I1.hok.fresh (aK _))
end
end L2
namespace L2
open PySem PySem.Spec PyProof.Rows
abbrev V0(h:Heap)(e it:Addr)(i:Int)(item:Value)(a:Addr)(f:Bool):Prop:=h.get? e=some {cls:=.type "enumerate",dict:=none,data:=.fields #[rawInt a,.bool f,.ref it,rawInt i,.none,item],slots:=#[]}
section
variable {prog:Program}{w:World}{A:Around}{E:Value->Shared->Prop}{s:Shared}
theorem GO{i:Nat}{Q:Value->Shared->Prop}(K:V0 s.heap e it i old a f)(ha:s.heap.get? a=some oa)(R:a≠e)(J:a≠it)(hi:mq b s.heap it l i)(hl:j4 b s.heap l xs)(k:e≠it)
  (B:∀x h,xs[i]? = some x->V0 h e it ((i:Int)+1) old a true->mq b h it l (i+1)->h.get? s.heap.objs.size=some {cls:=.type "tuple",data:=.seq #[.int i s.toks,x]}->h.objs.size=s.heap.objs.size+1->
   (∀c o,c≠e->c≠it->s.heap.get? c=some o->h.get? c=some o)->Q (.ref s.heap.objs.size) {s with heap:=h,toks:=s.toks+1})
  (no:xs[i]? = none->A.handled=none/\∀h x,Heap.ExtBut it s.heap h->(∃o,h.get? x=some o/\o.cls=.type "StopIteration")->E (.ref x) {s with heap:=h}) :
  wpAny (model prog w) A (Builtin.«enumerate.__next__» ⟨[.ref e],[]⟩) (λU s'=>∃v,U=.done (.ret v)/\Q v s') E s:=by
 obtain⟨S,g,d,m,P⟩:=s;show wpAny _ _ (field (.ref e) 2 >>= λ_=>_) _ _ _;refine ao (wpAny_field K rfl rfl (ao (vP hi hl (λx H X Z k1=>?_) no)));have r:=k1;have I:=(r.2 e k).trans K;show wpAny _ _ (field (.ref e) 3 >>= λ_=>_) _ _ ⟨H,g,d,m,P⟩;refine ao (wpAny_field I rfl rfl ?_);show wpAny _ _ (field (.ref e) 4 >>= λ_=>_) _ _ ⟨H,g,d,m,P⟩;refine ao (wpAny_field I rfl rfl ?_);show wpAny _ _ (mkInt i >>= λ_=>_) _ _ ⟨H,g,d,m,P⟩;refine ao (wpAny_mkInt (ao (wpAny_setField_rec I (by simp) λg2 y2 L=>?_)));have z2:=y2;refine ao (wpAny_setField_rec z2 (by simp) λn y3 N=>?_);have z3:=y3;refine ao (wpAny_newTuple ?_);have sz:n.objs.size=S.objs.size:=by have a:=N.1;have c:=L.1;have u:=r.1;dsimp only at a c u;omega
 have F:V0 (n.push {cls:=.type "tuple",data:=.seq #[.int i m,x]}) e it ((i:Int)+1) old a f:=ae _ z3;have el:=aL K;have y:∀c o,c≠e->c≠it->S.get? c=some o->n.get? c=some o:=λc o p C q=>N.extBut c o p (L.extBut c o p (r.extBut c o C q));have a4:(n.push {cls:=.type "tuple",data:=.seq #[.int i m,x]}).get? a=some oa:=ae _ (y a oa R J ha);have tp:(n.push {cls:=.type "tuple",data:=.seq #[.int i m,x]}).get? n.objs.size=some {cls:=.type "tuple",data:=.seq #[.int i m,x]}:=ar _ rfl;have up:∀c o,c≠e->c≠it->S.get? c=some o->(n.push {cls:=.type "tuple",data:=.seq #[.int i m,x]}).get? c=some o:=λc o p C q=>ae _ (y c o p C q);have Y:∀o,H.get? it=some o->(n.push {cls:=.type "tuple",data:=.seq #[.int i m,x]}).get? it=some o:=λo q=>ae _ (N.extBut it o (Ne.symm k) (L.extBut it o (Ne.symm k) q));show wpAny _ _ (Builtin.SmallTypes.ownedTupleIsFree (.ref e) >>= λ_=>_) _ _ _;unfold Builtin.SmallTypes.ownedTupleIsFree;refine ao (ao (wpAny_field F rfl rfl ?_));show wpAny _ _ (loadIfAlive ((a:Int).toNat) >>= λ_=>_) _ _ _;rw[bT];refine ao (W.kdx_alive a4 ?_);simp only[Option.isNone_some,cj,if_false];refine ao (wpAny_field F rfl (x:=.bool f) rfl ?_);cases f with
 |true=>rw[aR (λz=>nomatch z)];refine ak ?_;simp only[cj,if_false];refine ak ⟨_,rfl,?_⟩;rw[sz]at tp ⊢;exact B x _ X F (Z.to Y) tp (by rw[Heap.size_push,sz]) up
 |false=>rw[aQ (show (Value.bool false != Value.bool true)=true from rfl)];refine ao (wpAny_setField_rec F (by simp) λg5 y5 k5=>?_);have z5:=y5;have j:=k5;refine ak ?_;simp only[cj,if_false];refine ak ⟨_,rfl,?_⟩;have D:=j.extBut _ _ (by rw[sz];exact bC el) tp;rw[sz]at D ⊢;exact B x g5 X z5 (Z.to λo q=>j.extBut it o (Ne.symm k) (Y o q)) D (by rw[j.1,Heap.size_push,sz]) λc o p C q=>j.extBut c o p (up c o p C q)
def IE(h:Heap)(e it:Addr)(i:Nat):Prop:=(i=0/\∃b,IsEnum h e it 0 b)\/∃b a f c,V0 h e it i b a f/\h.get? a=some c/\a≠e/\a≠it
def IE.keep(x:IE h e it i)(v:∀o,h.get? S=some o->o.cls=.type "list")(d:∀b o,b≠S->h.get? b=some o->h'.get? b=some o)(k:∀o,h.get? S=some o->∃l,h'.get? S=some l)(j:e≠S):IE h' e it i:=by
 rcases x with⟨z,c,q⟩|⟨c,a,f,u,q,m,p,r⟩
 .exact .inl ⟨z,c,d _ _ j q⟩
 .by_cases n:a=S
  .subst n;obtain⟨l,g⟩:=k u m;exact .inr ⟨c,a,f,l,d _ _ j q,g,p,r⟩
  .exact .inr ⟨c,a,f,u,d _ _ j q,d _ _ n m,p,r⟩
def zQ(st:IE s.heap e it i)(J:mq b s.heap it l i)(I:j4 b s.heap l xs)(g:e≠it)(p:e<s.heap.objs.size)(D:it<s.heap.objs.size)
  (h:∀x d,xs[i]? = some x->IE d e it (i+1)->mq b d it l (i+1)->d.get? s.heap.objs.size=some {cls:=.type "tuple",data:=.seq #[.int i s.toks,x]}->d.objs.size=s.heap.objs.size+1->
   (∀c o,c≠e->c≠it->s.heap.get? c=some o->d.get? c=some o)->Q (some (.ref s.heap.objs.size)) {s with heap:=d,toks:=s.toks+1})
  (y:xs[i]? = none->A.handled=none/\∀d,Heap.ExtBut it s.heap d->Q none {s with heap:=d}):wpAny (model prog w) A (pyNext (.ref e)) Q E s:=by
 rcases st with⟨rfl,j,k⟩|⟨j,a,f,K,k,H,v,B⟩
 .exact wI k J I g (λx d r u C n z m=>h x d r (.inr ⟨x,_,false,_,by simpa using u,n,bC p,bC D⟩) C n z m) y
 .have ty:s.TypeIs (.ref e) "enumerate" :=⟨_,k,rfl⟩;unfold pyNext;refine ao (wpAny_attempt (wpAny_callSpecial?_slot ty F.slot_enumerate_next (wpAny_call_entry F.slot_enumerate_next ty F.entry_enumerate_next
   (GO k H v B J I g (λx d r u C n z m=>ak (h x d r (.inr ⟨j,a,true,K,by simpa using u,m a K v B H,v,B⟩) C n z m)) λq=>⟨(y q).1,λd x hk ⟨o,ho,hc⟩=>?_⟩) (F.args_enumerate_next_1 _))))
  exact ao (wpAny_isInstance ⟨o,ho,hc⟩ isSubtype_stop (ak ((y q).2 d hk)))
def J1:typeLookup (.type "enumerate") "__len__" = pure none:=by rw[typeLookup_type,builtinLookup_eq_fast];kernel_rfl
def Fv:typeLookup (.type "enumerate") "__length_hint__" = pure none:=by rw[typeLookup_type,builtinLookup_eq_fast];kernel_rfl
def WG(us:List Value)(b:Addr)(h:Heap)(as:List Addr):Prop:=∀(j:Nat) (a:Addr),as[j]? = some a->b<a/\∃t x,us[j]? = some x/\h.get? a=some {cls:=.type "tuple",data:=.seq #[.int j t,x]}
section
variable {R:Result->Shared->Prop}{us:List Value}{b:Bool}
theorem Qj{S e it l:Addr}(hh:A.handled=none)(U:e≠S)(N:it≠S)(hlS:l≠S)(hle:l≠e)(hli:l≠it)(Q:e≠it)(hn:us.length<=sizeLine)(res:Value){C:Heap}(H:e<C.objs.size/\it<C.objs.size/\S<C.objs.size)
  (hR:∀p J d c as,(∀c o,c≠S->c≠e->c≠it->C.get? c=some o->p.get? c=some o)->p.get? S=some {cls:=.type "list",dict:=none,data:=.seq d c,slots:=#[]}->as.length=us.length->(∀a∈as,C.objs.size<=a)->WG us 0 p as->
   d.toList=as.map Value.ref->R (.ok (.ret res)) {s with heap:=p,toks:=J}) :
  ∀(k i:Nat) (h:Heap) (J c:Nat) (d:Array Value) (as:List Addr),us.length-i=k->i<=us.length->IE h e it i->mq b h it l i->j4 b h l us.toArray->(∀c o,c≠S->c≠e->c≠it->C.get? c=some o->h.get? c=some o)->C.objs.size<=h.objs.size->
   h.get? S=some {cls:=.type "list",dict:=none,data:=.seq d c,slots:=#[]}->d.toList=as.map Value.ref->as.length=i->(∀a∈as,C.objs.size<=a)->WG us 0 h as->
   codeAny (model prog w) A (.builtin "list.extend.loop" ⟨[.ref S,.ref e,res],[]⟩) R {s with heap:=h,toks:=J}:=by
 intro k;induction k with
 |zero=>
  intro i h J c d as hk hi L K z g f hS m n v hG;refine codeAny_builtin PySem.F.entry_extend_loop ?_;rw[Around.under_plainId PySem.F.plain_extend_loop _];show wpAny _ A.in1 (pyNext (.ref e) >>= λ_=>_) _ _ _;refine ao (zQ L K z Q (aE H.1 f) (aE H.2.1 f) (λx p hx=>?_) λ_=>⟨hh,λp ex=>?_⟩)
  .have:us[i]? = none:=List.getElem?_eq_none (by omega);have X:us[i]? = some x:=by simpa using hx
   rw[this]at X;cases X
  .refine ak (hR p J d c as (λc o q1 q2 Y e=>ex c o Y (g c o q1 q2 Y e)) (ex S _ (Ne.symm N) hS) (by omega) v (λj a I=>?_) m);obtain⟨y,t,x,e1,e2⟩:=hG j a I;have B:=v a (au I);exact⟨y,t,x,e1,ex a _ (bC (aE H.2.1 B)) e2⟩
 |succ k ih=>
  intro i h J c d as hk hi L K z g f hS m n v hG;have u:d.size=i:=by rw[<-bB,m,aw,n]
  refine codeAny_builtin PySem.F.entry_extend_loop ?_;rw[Around.under_plainId PySem.F.plain_extend_loop _];show wpAny _ A.in1 (pyNext (.ref e) >>= λ_=>_) _ _ _;refine ao (zQ L K z Q (aE H.1 f) (aE H.2.1 f) (λx p hx st' it' ht hz r=>?_) λq=>?_)
  .dsimp only at ht hz r ⊢;have D:=r S _ (Ne.symm U) (Ne.symm N) hS;have up:∀c o,c≠S->p.get? c=some o->(p.update S (Obj.mapSeq (·.push (Value.ref h.objs.size)))).get? c=some o:=λc o B e=>(Heap.get?_update_other _ _ (Ne.symm B)).trans e;have Z:=aE H.2.2 f;refine ao (wpAny_updateSeq D rfl (ak ⟨plainId_quiet PySem.F.plain_extend_loop _,ih (i+1) _ (J+1) _ (d.push (Value.ref h.objs.size)) (as++[h.objs.size]) (by omega) (by omega)
    (st'.keep (λo ho=>by rw[D]at ho;cases ho;rfl) up (λo ho=>⟨_,Heap.get?_update_self _ D rfl⟩) U) (it'.to λo q=>up it o N q) (z.to λo q=>up l o hlS (r l o hle hli q))
    (λc o q1 q2 Y e=>up c o q1 (r c o q2 Y (g c o q1 q2 Y e))) (by rw[Heap.size_update];show C.objs.size<=p.objs.size;omega) (Heap.get?_update_self _ D rfl) (by rw[Array.toList_push,m,aZ];rfl) (by rw[aT,n];rfl) (λa P=>?_) (λj a I=>?_)⟩) (by rw[u];omega) (by rw[Array.size_push,u];omega))
   .rcases ai.mp P with P|P
    .exact v a P
    .rw[aj.mp P];exact f
   .rcases cI j as.length with q|q|q
    .rw[List.getElem?_append_left q]at I;obtain⟨y,t,x',e1,e2⟩:=hG j a I;have B:=v a (au I);have n1:=bC (aE H.2.2 B);have n2:=bC (aE H.1 B);have n3:=bC (aE H.2.1 B);exact⟨y,t,x',e1,up a _ n1 (r a _ n2 n3 e2)⟩
    .subst q;have B:h.objs.size=a:=by simpa using I
     subst B;refine⟨cg (bL _) Z,J,x,by rw[n];simpa using hx,?_⟩;rw[n];exact up _ _ (bC Z) ht
    .have VT:(as++[h.objs.size])[j]? = none:=List.getElem?_eq_none (by rw[aT,b5];omega);rw[VT]at I;cases I
  .exfalso;have:i<us.length:=by omega
   simp[this]at q
def FW(hh:A.handled=none)(P:IsEnum s.heap e it 0 .none)(hi:mq b s.heap it l 0)(hl:j4 b s.heap l us.toArray)(L:l≠e)(Y:l≠it)(N:e≠it)(hn:us.length<=sizeLine)(H:it<s.heap.objs.size)(X:l<s.heap.objs.size)
  (q:∀m Z f c as,(∀c o,c≠e->c≠it->s.heap.get? c=some o->m.get? c=some o)->m.get? s.heap.objs.size=some {cls:=.type "list",dict:=none,data:=.seq f c,slots:=#[]}->as.length=us.length->(∀a∈as,s.heap.objs.size<a)->WG us 0 m as->
   f.toList=as.map Value.ref->Q (.ref s.heap.objs.size) {s with heap:=m,toks:=Z}):wpAny (model prog w) A (call (.type "list") [.ref e]) Q E s:=by
 have n:=aL P;refine callType_codes (Q₁:=λu i=>u=.ref s.heap.objs.size/\i={s with heap:=s.heap.push {cls:=.type "list",data:=.seq #[]}}) PySem.F.called_list (PySem.F.typeCall_list_1 _) PySem.F.entry_list_init
  (code_list_new _ ⟨rfl,rfl⟩) λu i r=>?_
 obtain⟨rfl,rfl⟩:=r;generalize d:s.heap.objs.size=S at *;have J:(s.heap.push {cls:=.type "list",data:=.seq #[]}).get? S=some {cls:=.type "list",data:=.seq #[]}:=by rw[<-d];exact ar _ rfl
 have kp:∀c o,s.heap.get? c=some o->(s.heap.push {cls:=.type "list",data:=.seq #[]}).get? c=some o:=λc o z=>ae _ z;refine⟨⟨_,J,rfl⟩,PySem.F.args_list_init_2 _ _,?_⟩;show wpAny _ _ (do let old <-Builtin.List.listItems (.ref S);Builtin.List.listUpdate (.ref S) (λ_=>#[]);letGo old.toList.reverse;Builtin.List.listExtendWith (.ref S) (.ref e) .none) _ _ {s with heap:=s.heap.push {cls:=.type "list",data:=.seq #[]}};refine ao ?_;unfold Builtin.List.listItems;refine ao (wpAny_seqItems J rfl (ak ?_));refine ao (wpAny_updateSeq J rfl ?_);have C:=Heap.get?_update_self (Obj.mapSeq (λ_=>(#[]))) J rfl;have k2:∀c o,c≠S->s.heap.get? c=some o->((s.heap.push {cls:=.type "list",data:=.seq #[]}).update S (Obj.mapSeq (λ_=>(#[])))).get? c=some o:=λc o v z=>(Heap.get?_update_other _ _ (Ne.symm v)).trans (kp c o z);refine ao (wpAny_letGo ?_);have g:=aM n;have D:=aM H;have y:=aM X;have x:=k2 e _ g P;unfold Builtin.List.listExtendWith;have k:Shared.TypeIs {s with heap:=(s.heap.push {cls:=.type "list",data:=.seq #[]}).update S (Obj.mapSeq (λ_=>(#[])))} (.ref e) "enumerate" :=⟨_,x,rfl⟩;refine ao (wpAny_typeOf k ?_);have g1:Builtin.List.listSameRef (.ref S) (.ref e)=false:=by simp[Builtin.List.listSameRef,Ne.symm g]
 have g2:(Value.type "enumerate" == Value.type "list")=false:=by decide
 have g3:(Value.type "enumerate" == Value.type "tuple")=false:=by decide
 simp only[g1,g2,g3,Bool.or_false,cj,if_false];refine ao (wpAny_pyIter_enum x ?_);refine ao (wpAny_holding ?_);unfold Builtin.List.listLengthHint;refine ao (wpAny_specialOf k J1 ?_);refine ao (wpAny_specialOf k Fv ?_);refine ak ?_;refine ao (wpAny_rule (ao ?_));refine ao (wpAny_updateSeq C rfl ?_);have B:=Heap.get?_update_self (Obj.mapSeq (·.push Value.none)) C rfl;refine wpAny_updateSeq B rfl ?_;have hS4:=Heap.get?_update_self (Obj.mapSeq (·.pop)) B rfl;have I:∀c o,c≠S->s.heap.get? c=some o->((((s.heap.push {cls:=.type "list",data:=.seq #[]}).update S (Obj.mapSeq (λ_=>(#[])))).update S (Obj.mapSeq (·.push Value.none))).update S (Obj.mapSeq (·.pop))).get? c=some o:=λc o v z=>(Heap.get?_update_other _ _ (Ne.symm v)).trans ((Heap.get?_update_other _ _ (Ne.symm v)).trans (k2 c o v z))
 have h:((((s.heap.push {cls:=.type "list",data:=.seq #[]}).update S (Obj.mapSeq (λ_=>(#[])))).update S (Obj.mapSeq (·.push Value.none))).update S (Obj.mapSeq (·.pop))).objs.size=S+1:=by rw[Heap.size_update,Heap.size_update,Heap.size_update,Heap.size_push,d]
 refine ak ⟨plainId_quiet PySem.F.plain_extend_loop _,?_⟩;generalize hh4:((((s.heap.push {cls:=.type "list",data:=.seq #[]}).update S (Obj.mapSeq (λ_=>(#[])))).update S (Obj.mapSeq (·.push Value.none))).update S (Obj.mapSeq (·.pop)))=h4 at *;refine Qj (A:=A.in1) hh g D y L Y N hn .none ⟨by rw[h];exact cv n,by rw[h];exact cv H,by rw[h];exact bK _⟩ (λm Z f c as kk U e1 e2 e3 e4=>⟨rfl,?_⟩)
  us.length 0 h4 _ _ #[] [] (cJ _) (bL _) (.inl ⟨rfl,_,I e _ g P⟩) (hi.to λo z=>I it o D z) (hl.to λo z=>I l o y z) (λ_ _ _ _ _ z=>z) (aK _) hS4 rfl rfl (λa K=>nomatch K) (λj a hj=>by simp at hj)
 exact q m Z f c as (λc o z1 z2 p=>kk c o (λzz=>by rw[zz]at p;exact absurd (aL p) (by rw[d];exact a9 _)) z1 z2 (I c o (λzz=>by rw[zz]at p;exact absurd (aL p) (by rw[d];exact a9 _)) p)) U e1 (λa K=>by have:=e2 a K;rw[h]at this;omega) e3 e4
end
end
end L2
namespace L2
open PySem PySem.Spec PyProof.Rows
section
variable {X:Cx}
theorem ze(m:jc xs us)(f:2<=sizeLine):∀(as:List Addr) (j:Nat) (H:Hp),iG X gI σ H s->(∀a∈as,uO X gI H a)->as.Nodup->
  (∀i a,as[i]? = some a->∃t x,us[j+i]? = some x/\s.heap.get? a=some {cls:=.type "tuple",data:=.seq #[.int ((j+i:Nat):Int) t,x]})->
  ∃d,iG X gI σ d s/\iJ H d/\(∀a,a∉as->d a=H a)/\∀i a,as[i]? = some a->∃x,xs[j+i]? = some x/\d a=some (.tup [.int ((j+i:Nat):Int),x])
 |[],j,H,I,_,_,_=>⟨H,I,.refl _,λ_ _=>rfl,λi a h=>by simp at h⟩
 |a::as,j,H,I,hf,nd,hg=>by
  obtain⟨t,u,v,N⟩:=hg 0 a rfl;obtain⟨q,J,Q,F,B,E⟩:=hf a (by simp);have P:j+0<xs.length:=by rw[m.length];exact (aa.mp v).1
  have p:=ag P;obtain⟨R,r,A⟩:=m.get p;rw[v]at r;cases r;have D:iG X gI σ (jR H a (.tup [.int ((j+0):Int),xs[j+0]])) s:=I.track q F J B E ⟨f,[.int ((j+0):Int) t,u],.cons ⟨_,rfl⟩ (.cons A .nil),⟨_,N,rfl,_,rfl,rfl⟩⟩;obtain⟨n,l⟩:=bO.mp nd;obtain⟨d,C,o,K,L⟩:=ze m f as (j+1) _ D (λb c=>by obtain⟨g0,w⟩:=hf b (by simp[c]);have ne:b≠a:=λz=>n (z▸c);exact⟨by rw[gY ne];exact g0,w⟩) l (λi b c=>by obtain⟨y,k,e,g⟩:=hg (i+1) b (by simpa using c);rw[show j+(i+1)=j+1+i by omega]at e g;exact⟨y,k,e,g⟩)
  refine⟨d,C,(pG q).trans o,λb c=>?_,λi b c=>?_⟩
  .rw[K b (λz=>c (by simp[z])),gY (λz=>c (by simp[z]))]
  .cases i with
   |zero=>simp at c;subst c;exact⟨_,p,o _ _ hU⟩
   |succ i=>obtain⟨k,e,g⟩:=L i b (by simpa using c);rw[show j+1+i=j+(i+1) by omega]at e g;exact⟨k,e,g⟩
def Wo(K:W.Frag)(g:TA):TE:=λh H Q=>g h H λf c=>∃b l e,f=[.ref l]/\xK K c b l e/\∀(p:Addr) (as:List Addr) (d:Hp),iJ c d->c p=none->d p=some (.lst (as.map V.ref))->as.length=e.length->
 (∀(i:Nat) (a:Addr),as[i]? = some a->c a=none/\a≠p/\∃x,e[i]? = some x/\d a=some (.tup [.int (i:Int),x]))->Q (.ref p) d
def Mq(hc:X.calm=true)(hg:Gl X "list")(p:X.mg "list" = none)(Y:Gl X "enumerate")(U:X.mg "enumerate" = none)(f:PA X [a] ta)(hs:starEach [a] X.env=[(false,eval a X.env)]:=by rfl)
  (Z:starEach [Expr.Call (.Name "enumerate" p2) [a] [] pos2] X.env=[(false,eval (.Call (.Name "enumerate" p2) [a] [] pos2) X.env)]:=by rfl) :
  PE X (.Call (.Name "list" p1) [.Call (.Name "enumerate" p2) [a] [] pos2] [] pos) (Wo X.K ta):=by
 intro R s σ H Q I h;refine wpAny_Call_Name_kw (rH I hg p (by decide +kernel:bootBuiltins "list" = some (.type "list")) ?_);refine PyProof.Rows.callWith_type1 ?_ Z rfl;rw[Z];refine Calls.spliced_cons (Call_ (rH I Y U boot_enumerate (PyProof.Rows.callWith_type1 (kS (f pos2 R s σ H _ I h) λus s1 ⟨vs,H1,I1,r1,q1⟩=>?_) hs rfl)));obtain⟨b,l,xs,rfl,hq,q⟩:=q1;obtain⟨u,rfl,rx⟩:=qf r1;cases rx;obtain⟨us,rv,k,hz⟩:=I1.seqB hq;refine A7 k λm N P d hk=>Calls.spliced_nil ?_;have S:l<s1.heap.objs.size:=by obtain⟨o,n,e,_⟩:=k.look;exact aL e
 have F:=rv.length;refine FW (I1.ok.hd hc) N P (k.to λo e=>hk l o e) (aM (cv S)) (aM S) (Nat.succ_ne_self _) (by rw[<-F];exact hz) (by show _<m.objs.size;rw[d];omega) (by rw[d];exact aE S (cx _ _)) λh2 tk y c as k2 hS w A L r=>?_;have kk:∀b o,s1.heap.get? b=some o->h2.get? b=some o:=λb o e=>by have lt:=aL e;exact k2 b o (aM (cv lt)) (aM lt) (hk b o e)
 have I2:=I1.kept (t':=tk) kk;have fp:∀b,s1.heap.objs.size<=b->uO X R H1 b:=λb hb=>I1.fpOk hb (I1.hok.fresh hb);have g:∀a∈as,s1.heap.objs.size<=a:=λa f=>by have:=A a f;rw[d]at this;omega
 have nd:as.Nodup:=by refine cK.mpr λi j B hj hij e=>?_;obtain⟨_,t1,x1,_,g1⟩:=L i _ (ag B);obtain⟨_,t2,x2,_,g2⟩:=L j _ (ag hj);rw[e,g2]at g1;simp at g1;omega
 obtain⟨H',I3,s3,o3,g3⟩:=ze rv (by decide) as 0 H1 I2 (λa f=>fp a (g a f)) nd (λi a f=>by obtain⟨_,t,x,C,D⟩:=L i a f;rw[aG];exact⟨t,x,C,D⟩)
 have E:m.objs.size∉as:=λp=>a9 _ (A _ p);have J:H1 m.objs.size=none:=I1.hok.fresh (by rw[d];omega);obtain⟨f0,f1,f2,f3,f4,f5⟩:=fp m.objs.size (by rw[d];omega);have va:jc (as.map V.ref) y.toList:=by
  rw[r];refine sI (by simp) λi v hv=>?_;rw[av]at hv ⊢;cases B:as[i]? with
  |none=>rw[B]at hv;cases hv
  |some a'=>rw[B]at hv;cases hv;exact⟨_,rfl,rfl⟩
 have I4:iG X R σ (jR H' m.objs.size (.lst (as.map V.ref))) {s1 with heap:=h2,toks:=tk}:=I3.track (by rw[o3 _ E];exact f0) f3 f1 f4 f5 ⟨by rw[aw,w,<-F];exact hz,y.toList,c,va,by simpa using hS⟩;refine⟨.ref m.objs.size,_,I4,rfl,q _ as _ (s3.trans (pG (by rw[o3 _ E];exact f0))) J hU (by rw[w,F]) λi a f=>?_⟩;have p:=au f;have ne:a≠m.objs.size:=λz=>E (z▸p);obtain⟨x,C,D⟩:=g3 i a f;rw[aG]at C D;exact⟨I1.hok.fresh (g a p),ne,x,C,by rw[gY ne];exact D⟩
end
end L2
namespace L2
open PySem PySem.Spec PyProof.Rows
def OU:typeLookup (.type "list") "keys" = pure none:=by rw[typeLookup_type,builtinLookup_eq_fast];kernel_rfl
def Bj:entryFor table "dict.update.loop" = some Builtin.«dict.update.loop»:=entryFor_of_tree (by kernel_rfl)
def tZ:plainId "dict.update.loop" = true:=by decide +kernel
def Jl
  (p:s.heap.get? a=some o) (q:o.cls=.type "list") (f:o.data=.seq xs k) (r:o.dict=none) (v:A.handled=none)
  (h:∀m u,(∀b l,s.heap.get? b=some l->m.get? b=some l)->Q none {s with heap:=m,toks:=u}) :
  wpAny (model prog w) A (getAttr? (.ref a) "keys") Q E s:=by
 obtain⟨c,y,C,B⟩:=o;simp only at q f r;subst q f r;obtain⟨D,g,d,u,z⟩:=s;have n:∀j,(⟨D,g,d,j,z⟩:Shared).TypeIs (.ref a) "list" :=λ_=>⟨_,p,rfl⟩;have N:=sub_AttributeError;have L:=F.slot_list_getattribute.lookup;have J:=F.slot_list_getattribute.bind (.ref a);have K:=am_list_getattr_none;unfold getAttr? getAttrBy? getAttrBy;(repeat (any_goals (first|assumption|exact n _|((with_reducible show wpAny _ _ (call (Value.builtin "list.__getattribute__") _ _) _ _ _);refine call_meets F.slot_list_getattribute (n _) am_entry_list_getattribute (F.args_list_getattribute_2 _ _) (meets_getattribute_miss_list a xs k B "keys" _ OU (by decide +kernel) (by size_fits)) ⟨p,v,λm j e i=>?_⟩)|wp_step)));obtain⟨I,P,H⟩:=i.there;unfold getattributeRaised;(repeat (any_goals (first|assumption|wp_step)));exact h _ _ λb l x=>i.keeps b l x
section
variable {X:Cx}{gI:List (Addr×Obj)}{σ:St}{H:Hp}{s:Shared}
abbrev Pr:=Addr×Addr×List qM×V
def Qa(H:Hp)(q:Pr):Prop:=H q.1=some (.tup [.ref q.2.1,q.2.2.2])/\H q.2.1=some (.tup (q.2.2.1.map kV))
noncomputable def wQ(kvs:List (List qM×V))(a:List Pr):List (List qM×V):=a.foldl (λk q=>qY k q.2.2.1 q.2.2.2) kvs
def I0(L:A.units<cLine)(I:iG X gI σ H s)(e:H d=some (.dT kvs))(j:H b=some (.tup (k.map kV)))(l:kvs.length<sizeLine)(K:jD v r)
  (h:∀f t',Heap.SameBut d s.heap f->iG X gI σ (jR H d (.dT (qY kvs k v))) {s with heap:=f,toks:=t'}->Q () {s with heap:=f,toks:=t'}):wpAny (model X.prog X.w) A (dictSet d (.ref b) r) Q E s:=by
 obtain⟨z,D,C,a,p⟩:=QX I.hok e;have P:C.length<=sizeLine:=by rw[<-Paired.length a];exact z
 have o:(qY kvs k v).length<=sizeLine:=by have:=qi kvs k v;omega
 refine wpAny_dictSet_heap L (yA I.hok j) p λf g m=>h f _ m ?_;obtain⟨q,x,y,i,F,B,u,_,J⟩:=g;refine B7 I (by rw[e];exact True.intro) m ⟨q,i⟩ ⟨o,D,_,(a.put k j K).keeps λc N n=>?_,q,x,y,i,F,B,u,J⟩;rw[gY (QS n e (λz=>nomatch z))];exact n
theorem DE(S:A.handled=none)(hu:A.units+1<cLine) :
  ∀a c H kvs s t,iG X gI σ H s->H d=some (.dT kvs)->H l=some (.lst ((c++a).map λq=>.ref q.1))->(∀q∈a,Qa H q)->kvs.length+a.length<=sizeLine->
  s.heap.IsListIter it l c.length->uO X gI H it->(∀m,iG X gI σ (jR H d (.dT (wQ kvs a))) m->R (.ok (.ret .none)) m)->
  codeAny (model X.prog X.w) A (.builtin "dict.update.loop" ⟨[.ref d,.ref it,.int (c.length:Int) t,.none],[]⟩) R s
 |[],c,H,kvs,s,t,I,ed,el,_,hz,hit,hf,hR=>by
  obtain⟨its,P,K,_⟩:=I.list (mz.of el);have Z:=P.length;rw[bM,aw]at Z;obtain⟨f,D,Y,C,n,B⟩:=hf;refine codeAny_builtin Bj ?_;rw[Around.under_plainId tZ _];refine ao (wpAny_pyNext_list_end S hit K.isList (by simp[Z]) λh' eb=>?_);have p:=I.turned (t':=s.toks) (λb o F e=>eb b o F e) f D C n B;refine ao (ak (ak (hR _ ?_)));have e:jR H d (.dT (wQ kvs []))=H:=by
   funext b;by_cases q:b=d
   .subst q;rw[hU,ed];rfl
   .rw[gY q]
  rw[e];exact p
 |q::a,c,H,kvs,s,t,I,ed,el,hp,hz,hit,hf,hR=>by
  obtain⟨its,P,K,_⟩:=I.list (mz.of el);obtain⟨f,D,Y,C,n,B⟩:=id hf;obtain⟨h1,h2⟩:=hp q (by simp);obtain⟨u,J,ru⟩:=P.get (i:=c.length) (x:=.ref q.1) (by simp);cases (ru);refine codeAny_builtin Bj ?_;rw[Around.under_plainId tZ _];refine ao (wpAny_pyNext_list_item hit K.isList (by simpa using J) λh' j sb=>?_);have p:=I.turned (t':=s.toks) (λb o F e=>(sb.2 b F).trans e) f D C n B;obtain⟨ks,rk,⟨ot,U,ct,nt,dt⟩,_⟩:=p.tuple (oK.of h1);obtain⟨k,v,rfl,N,E⟩:=Hu rk;cases (N);refine ao (wpAny_holding (ao (wpAny_tryCatch ?_)));unfold Builtin.Dict.pairItems;refine ao (wpAny_typeOf ⟨_,U,ct⟩ ?_);rw[aQ (by decide)];refine ao (wpAny_seqItems U dt (ak ?_));have hz':kvs.length+(a.length+1)<=sizeLine:=hz;refine wpAny_holding (I0 hu p ed h2 (by omega) E λh2' t2 Q I2=>?_);have g:it≠d:=λz=>by rw[z,ed]at f;cases f
  have ne:∀b o,H b=some o->(∀kvs,o≠.dT kvs)->jR H d (.dT (qY kvs q.2.2.1 q.2.2.2)) b=some o:=λb o e z=>by rw[gY (λw=>by rw[w,ed]at e;cases e;exact z _ rfl)];exact e
  refine ak ⟨plainId_quiet tZ _,?_⟩;have L:=j.extBut Q.extBut g;have h:=DE S hu a (c++[q]) (jR H d (.dT (qY kvs q.2.2.1 q.2.2.2))) (qY kvs q.2.2.1 q.2.2.2) _ 0 I2 hU (by rw[b4];exact ne _ _ el (λ_ z=>nomatch z)) (λr hr=>⟨ne _ _ (hp r (by simp[hr])).1 (λ_ z=>nomatch z),ne _ _ (hp r (by simp[hr])).2 (λ_ z=>nomatch z)⟩) (by have:=qi kvs q.2.2.1 q.2.2.2;omega) (by simpa using L) ⟨by rw[gY g];exact f,D,Y,C,n,B⟩ (λm I'=>hR m (by
   have e:∀x y:HO,jR (jR H d x) d y=jR H d y:=λx y=>by
    funext b;by_cases z:b=d
    .subst z;rw[hU,hU]
    .rw[gY z,gY z,gY z]
   rw[e]at I';exact I'))
  rw[aT]at h;exact h
def Fo(Z:X.calm=true)(hu:X.A.units+4<cLine):lR X (.type "dict") (λxs H Q=>∃l g,xs=[.ref l]/\H l=some (.lst (g.map λq=>.ref q.1))/\(∀q∈g,Qa H q)/\∀d,H d=none->Q (.ref d) (jR H d (.dT (wQ [] g)))):=by
 intro gI s σ H xs us Q I r h;obtain⟨l,g,rfl,p,hp,q⟩:=h;obtain⟨u,rfl,rx⟩:=qf r;cases rx;have n:=I.ok.hd Z;refine callType_codes (Q₁:=λi c=>i=.ref s.heap.objs.size/\c={s with heap:=s.heap.push {cls:=.type "dict",data:=.dict #[]}}) F.kt_called_dict (F.kt_typeCall_dict_1 _) F.entry_dict_init (kt_code_dict_new _ ⟨rfl,rfl⟩) ?_;rintro i c ⟨rfl,rfl⟩;have a:=I.hok.fresh (aK s.heap.objs.size);have m:(s.heap.push {cls:=.type "dict",data:=.dict #[]}).get? s.heap.objs.size=some {cls:=.type "dict",data:=.dict #[]}:=ar _ rfl;refine⟨⟨_,m,rfl⟩,F.args_dict_init_2 _ _,?_⟩;have B:=I.laid (t':=s.toks) (λ_ _ q=>ae _ q) (aK _) (Es s.heap I.big);have f:jR H s.heap.objs.size (.dT []) l=some (.lst (g.map λq=>.ref q.1)):=by rw[gY (iX p a)];exact p
 obtain⟨its,rv,S,L⟩:=B.list (mz.of f);rw[aw]at L;obtain⟨ol,nl,E,J,Y,U⟩:=id S;unfold Builtin.«dict.__init__»;refine ao ?_;unfold Builtin.Dict.selfAndRest;refine ao (wpAny_notOrdered_dict ⟨_,m,rfl⟩ ?_);refine ak ?_;show wpAny _ _ (Builtin.Dict.updateFrom "dict.__init__" s.heap.objs.size (.ref l) [] .none) _ _ _;unfold Builtin.Dict.updateFrom;refine ao (wpAny_typeOf ⟨_,E,J⟩ ?_);rw[aQ (by decide)];refine ao (Jl E J U Y n λR D N=>?_);have j:=B.kept (t':=D) N;rw[aQ (by rfl)];refine ao (wpAny_rule ?_);obtain⟨K,rv2,k,_⟩:=j.list (mz.of f);refine ao (wpAny_pyIter_list k.isList ?_);have P:iG X gI σ (jR H s.heap.objs.size (.dT [])) {s with heap:=R.push {cls:=.type "list_iterator",data:=.fields #[.ref l,.int 0 0]},toks:=D}:=j.kept λb o e=>ae _ e;refine ak ⟨plainId_quiet tZ _,DE (A:=X.A.in1) n (by show X.A.units+1+1<_;omega) g [] _ [] _ _ P hU (by simpa using f) (λr hr=>?_) (by simpa using L) ⟨_,ar _ rfl,rfl,rfl⟩ (j.fpOk (aK _) (j.hok.fresh (aK _))) λs' v=>⟨rfl,.ref s.heap.objs.size,_,?_,rfl,q _ a⟩⟩
 .obtain⟨w,C⟩:=hp r hr;exact⟨by rw[gY (iX w a)];exact w,by rw[gY (iX C a)];exact C⟩
 .have e:∀x y:HO,jR (jR H s.heap.objs.size x) s.heap.objs.size y=jR H s.heap.objs.size y:=λx y=>by
   funext b;by_cases z:b=s.heap.objs.size
   .subst z;rw[hU,hU]
   .rw[gY z,gY z,gY z]
  rw[e]at v;exact v
end
end L2
namespace L2.Sp
open PySem PySem.SetTable
end L2.Sp
namespace L2.Sp
open PySem PySem.SetTable
end L2.Sp
namespace L2.Sp
open PySem PySem.SetTable
end L2.Sp
namespace L2.Sp
open PySem PySem.SetTable
end L2.Sp
namespace L2.Sp
open PySem PySem.SetTable PyProof.Rows
end L2.Sp
namespace L2.Sp
open PySem PySem.SetTable PyProof.Rows
end L2.Sp
namespace L2.Sp
open PySem PySem.SetTable PyProof.Rows
end L2.Sp
namespace L2.Sp
open PySem PySem.SetTable PyProof.Rows
end L2.Sp
namespace L2.Sp
open PySem PySem.SetTable PyProof.Rows
end L2.Sp
namespace Cu
noncomputable def G(a b:Int):Int:=(Int.gcd a b:Nat)
def Dh a b:G b (Int.fmod a b)=G a b:=by
 unfold G;have e:=Int.fmod_def a b;rw[e];congr 1;apply Nat.dvd_antisymm
 .apply Int.dvd_gcd
  .have g:=cL b (a-b*Int.fdiv a b);have f:=cN b (a-b*Int.fdiv a b);have d:=Int.dvd_add f (cO (c:=Int.fdiv a b) g);have h:a-b*Int.fdiv a b+b*Int.fdiv a b=a:=by omega
   rw[h]at d;exact d
  .exact cL b _
 .apply Int.dvd_gcd
  .exact cN a b
  .exact Int.dvd_sub (cL a b) (cO (cN a b))
def A4 a b (h:b≠0):(Int.fmod a b).natAbs<b.natAbs:=by
 rcases cP h with c|c
 .have e:=cQ (-a) (show 0 < -b by omega);have d:=cR (-a) (show 0 < -b by omega);rw[Int.neg_fmod_neg]at e d;omega
 .have e:=cQ a c;have d:=cR a c;omega
def UO a b:G (a.natAbs:Int) (b.natAbs:Int)=G a b:=by unfold G Int.gcd;rw[cS,cS]
def GT a:G a 0=(a.natAbs:Int):=by unfold G;rw[Int.gcd_zero_right]
def zL a b:0<=G a b:=Int.natCast_nonneg _
def Ez a b (h:b≠0):0<G a b:=by have:=cT a h;unfold G;omega
def mY a b:G a b ∣ a:=cL a b
def l7 a b:G a b ∣ b:=cN a b
def Pn a b (h:b≠0):G a b<=(b.natAbs:Int):=by have:=Int.natAbs_dvd_natAbs.mpr (l7 a b);have c:=Nat.le_of_dvd (by omega) this;have:=zL a b;omega
structure U7(t b p q:Int):Prop where
 pos:0<q
 one:G p q=1
 is:p*b=t*q
def Ag(i:b≠0)(l:g≠0)(k:g=G t b\/g = - G t b)(j:0<q)(d:t=g*p)(a:b=g*q):U7 t b p q:=by
 refine⟨j,?_,?_⟩
 .have c:Int.gcd t b=g.natAbs*Int.gcd p q:=by rw[d,a,Int.gcd_mul_left]
  have e:g.natAbs=Int.gcd t b:=by unfold G at k;omega
  rw[e]at c;have h:=cT t i;have f:Int.gcd p q=1:=by
   have:Int.gcd t b*1=Int.gcd t b*Int.gcd p q:=by rw[<-c,Nat.mul_one]
   exact (Nat.eq_of_mul_eq_mul_left h this).symm
  unfold G;rw[f];rfl
 .have:p*(g*q)=g*p*q:=by rw[<-cU,cV p g]
  rw[<-a,<-d]at this;exact this
def qr g p (a:g≠0):Int.fdiv (g*p) g=p:=by exact cW p a
def EG t b (i:b≠0):U7 t b (Int.fdiv t (if b<0 then-G t b else G t b)) (Int.fdiv b (if b<0 then-G t b else G t b)):=by
 have j:=Ez t b i;obtain⟨p,g⟩:=mY t b;obtain⟨q,f⟩:=l7 t b;by_cases h:b<0
 .rw[aQ h];have k:t=(-G t b)*(-p):=by rw[Int.neg_mul_neg];exact g
  have c:b=(-G t b)*(-q):=by rw[Int.neg_mul_neg];exact f
  have d:Int.fdiv t (-G t b) = -p:=by have:=qr (-G t b) (-p) (by omega);rw[<-k]at this;exact this
  have e:Int.fdiv b (-G t b) = -q:=by have:=qr (-G t b) (-q) (by omega);rw[<-c]at this;exact this
  rw[d,e];refine Ag i (by omega) (Or.inr rfl) ?_ k c;by_cases a:0 < -q
  .exact a
  .exfalso;have:0<=q:=by omega
   have:=aP (aA j) this;omega
 .rw[aR h];have d:Int.fdiv t (G t b)=p:=by have:=qr (G t b) p (by omega);rw[<-g]at this;exact this
  have e:Int.fdiv b (G t b)=q:=by have:=qr (G t b) q (by omega);rw[<-f]at this;exact this
  rw[d,e];refine Ag i (by omega) (Or.inl rfl) ?_ g f;by_cases a:0<q
  .exact a
  .exfalso;have:0<=-q:=by omega
   have:=aP (aA j) this;rw[cX]at this;omega
def Ka(m:b≠0)(c:b'≠0)(h:U7 t b p q)(d:U7 t' b' p' q')(e:t*b'=t'*b):p=p'/\q=q':=by
 have f:p*q'=p'*q:=by
  have i:(p*q')*(b*b')=(p'*q)*(b*b'):=by
   have o:(p*q')*(b*b')=(p*b)*(q'*b'):=by ac_rfl
   have k:(p'*q)*(b*b')=(p'*b')*(q*b):=by ac_rfl
   have g:(t*q)*(q'*b')=(t*b')*(q*q'):=by ac_rfl
   have u:(t'*q')*(q*b)=(t'*b)*(q*q'):=by ac_rfl
   rw[o,k,h.is,d.is,g,u,e]
  exact cY (cZ m c) i
 have s:Int.gcd q p=1:=by have:=h.one;unfold G at this;rw[c6];omega
 have n:Int.gcd q' p'=1:=by have:=d.one;unfold G at this;rw[c6];omega
 have l:q ∣ q':=by have:q ∣ p*q':=⟨p',by rw[f,cV]⟩;have a:=c7.mpr this;rw[s]at a;simpa using a
 have r:q' ∣ q:=by have:q' ∣ p'*q:=⟨p,by rw[<-f,cV]⟩;have a:=c7.mpr this;rw[n]at a;simpa using a
 have j:=Int.dvd_antisymm (aA h.pos) (aA d.pos) l r;subst j;refine⟨cY (by have:=h.pos;omega) f,rfl⟩
end Cu
namespace Cu
open PySem PyProof.Rows
open PySem.Builtin.Int (intBits)
def noPy(h:intBits y<=m)(c:m<=8000):PySem.Builtin.divisionGoesByPylong x y=false:=by
 refine PyProof.noPylong_of_log2 ?_;rcases c8 y.natAbs with a|b
 .rw[a];decide
 .refine (Nat.log2_lt (bC b)).mpr ?_;exact lt_pow_of_bits h (by omega)
end Cu
namespace L2
open PySem PySem.Spec PyProof.Rows
def Kg:lR X (.builtin "isinstance") (λxs H Q=>∃x T t b,xs=[x,.ty T]/\sO X.K H x t/\W.kitOne X.K t (.type T)=some b/\Q (.bl b) H):=by
 intro d s c H xs f Q I r h;obtain⟨x,T,t,b,rfl,ty,e,q⟩:=h;cases r with
 |cons r1 r2=>
  cases r2 with
  |cons r3 r4=>cases r4;cases (r3);exact JB I r1 ty e λa=>⟨.bl b,H,I.tok a,rfl,q⟩
def T6:bootBuiltins "isinstance" = some (.builtin "isinstance"):=by decide +kernel
def sv:bootBuiltins "abs" = some (.builtin "abs"):=by decide +kernel
def wa:bootBuiltins "int" = some (.type "int"):=by decide +kernel
def CS:bootBuiltins "bool" = some (.type "bool"):=by decide +kernel
def jJ:bootBuiltins "tuple" = some (.type "tuple"):=by decide +kernel
def lx:bootBuiltins "len" = some (.builtin "len"):=by decide +kernel
end L2
namespace L2
open PySem PySem.W PySem.Spec PyProof.Rows
def J4{l:W.OpenLaw}{n k:Nat}{q:Program}{j:List Str}{XP:(Str->Option Value)->Heap->Prop}{YP:World->Heap->Prop}{d:DefRec}{K:Params->W.Frag}{CX:Pl}{X:W.Frag->Sp}{x:Str}
  (hn:l.most=some n) (S:n<=sizeLine) (N:d.params.defaults=[]) (hr:jZ k callerA)
  (hY:∀(w:World) (h:Heap),YP w h->(K w.params).In h)
  (F:∀(w:World) (m:Str->Option Value) (D:Addr) (h:Heap),(K w.params).In h->h.Ns mainGlobals m->m d.name=some (.ref D)->
   ∃fd:FuncData,(∀(s:Shared) (u:Value),BindsTo s fd ⟨[u],[]⟩ [(x,u)])/\
    ∀c:Heap,(K w.params).In c->c.Ns mainGlobals m->pR l.prog w (K w.params) m c CX k D fd [x] (X (K w.params)))
  (P:∀(K:W.Frag) (H:Hp) (a:Addr) (p:LI),p.length<=n->(∀z∈p,PySem.Builtin.Int.intBits z<=2 ^ 20)->Sg H->mz K H a (p.map V.int)->X K [.ref a] H (λv _=>v=.bl true) λ_ _ _=>False)
  (L:∀(H:Hp) (s:Shared) (e:Value) (E:Shared),CX [] H s (λ_ _ _=>False) e E->False) :
  W.WalkO q j XP YP l.row.toRowW d [] (λf vs=>PySem.call f vs):=by
 intro w s₀ A m mb G Y D o pm cd doc dV kV ho hd hcd hD J hg U vals as C y hrd Q hlo;obtain rfl:dV=.none:=Dflts.none hD N;obtain rfl:kV=.none:=Dflts.noKw hD;obtain⟨a,vs,p,rfl,rfl,B,i,Z⟩:=Att.script_of hn C Q;have hb:∀z∈p,PySem.Builtin.Int.intBits z<=2 ^ 20:=λz hz=>by have h1:=(layW_cons y).1;have R:=layableW_item h1 (WData.int z) (aD.mpr ⟨z,hz,rfl⟩);exact PyData.bits_of_layable (layable_int R)
 have KX:=hY w _ Y;obtain⟨fd,I,hF⟩:=F w m D _ KX G.T.g J;refine enter_call (codeAny_mono (Nf KX G.T.g G.T.b G.T.builtins G.T.nolimit hg B i (aN Z S) hr hF I (λH hO hS=>P _ H a p Z hb hO hS) λH e E=>L H A e E) λr E hq=>?_);obtain⟨rfl,R,h3,h4⟩:=hq;exact⟨.inl ⟨.bool true,.bool true,[],rfl,λ_=>rfl,.bool true,Att.post_true l _,λ_=>⟨List.Pairwise.nil,λ_ hm=>(nomatch hm)⟩⟩,R,h3,h4⟩
end L2
namespace C4
def Xp(c e:LI):Prop:=∀i j,i<c.length->j<c.length->c.getD i 0*e.getD j 0=c.getD j 0*e.getD i 0
def par_of_place(g:c.getD p 0≠0)(h:∀i,i<c.length->c.getD i 0*e.getD p 0=e.getD i 0*c.getD p 0):Xp c e:=λi j f k=>by have b:=h i f;have a:=h j k;refine cY g ?_;have l:c.getD i 0*e.getD j 0*c.getD p 0=c.getD i 0*(e.getD j 0*c.getD p 0):=cU _ _ _;have d:c.getD j 0*e.getD i 0*c.getD p 0=c.getD j 0*(e.getD i 0*c.getD p 0):=cU _ _ _;rw[l,d,<-b,<-a,<-cU,<-cU,cV (c.getD i 0) (c.getD j 0)]
end C4
namespace L3
open PySem L2
inductive T where
 |non|bl (b:Bool)|int (i:Int)|str (x:Str)
 |tup (ts:List T)|lst (ts:List T)|scr (ns:LI)
 |obj (C:Addr) (fs:List (Str×T))|emp
 |dic (kvs:List (LI×T))
inductive M(α:Type) where
 |bad|ok (a:α)|er (C:Addr) (n:Option Int)
namespace M
noncomputable def bind{b c:Type}(m:M b)(k:b->M c):M c:=match m with
 |.bad=>.bad
 |.ok a=>k a
 |.er C n=>.er C n
instance:Monad M where
 pure:=.ok
 bind:=M.bind
noncomputable def res{b:Type}(m:M b)(P:b->Prop)(E:Addr->Option Int->Prop):Prop:=match m with
 |.bad=>False
 |.ok a=>P a
 |.er C n=>E C n
def res.unb{m:M α}{k:α->M β}{P:β->Prop}(h:res (m.bind k) P E):res m (λa=>res (k a) P E) E:=by cases m<;>exact h
def res.mono{m:M α}{P P':α->Prop}(h:res m P E)(c:∀a,P a->P' a)(b:∀C n,E C n->E' C n):res m P' E':=by
 cases m with
 |bad=>exact h
 |ok a=>exact c a h
 |er C n=>exact b C n h
noncomputable def noEr{a:Type}(m:M a):M a:=match m with
 |.er _ _=>.bad
 |m=>m
def res.noEr{m:M α}{P:α->Prop}(h:res m.noEr P E):res m P E':=by
 cases m with
 |bad=>exact h
 |ok a=>exact h
 |er C n=>exact h.elim
@[simp] theorem bind_ok a (k:α->M β):M.bind (.ok a) k=k a:=rfl
@[simp] theorem Vq(k:α->M β):M.bind (.bad:M α) k=.bad:=rfl
@[simp] theorem Wc C n (k:α->M β):M.bind (.er C n:M α) k=.er C n:=rfl
noncomputable def NoE{a:Type}(m:M a):Prop:=∀C n,m≠.er C n
def res.ne{m:M α}{P:α->Prop}(h:res m P E)(ne:NoE m):res m P E':=by
 cases m with
 |bad=>exact h
 |ok a=>exact h
 |er C n=>exact absurd rfl (ne C n)
@[simp] theorem noEr_ok(a:α):noEr (.ok a)=.ok a:=rfl
end M
mutual
inductive lF(K:W.Frag)(F:Hp):V->T->Prop
 |non:lF K F .non .non
 |bl (b:Bool):lF K F (.bl b) (.bl b)
 |int (i:Int):lF K F (.int i) (.int i)
 |str (x:Str):lF K F (.str x) (.str x)
 |tup {a:Addr} {xs:List V} {ts:List T} (h:F a=some (.tup xs)) (r:iD K F xs ts):lF K F (.ref a) (.tup ts)
 |lst {a:Addr} {xs:List V} {ts:List T} (h:F a=some (.lst xs)) (r:iD K F xs ts):lF K F (.ref a) (.lst ts)
 |scr {a:Addr} {ns:LI} (h:mz K F a (ns.map V.int)):lF K F (.ref a) (.scr ns)
 |obj {a C dx:Addr} {fs:List (Str×V)} {ts:List (Str×T)} (h:F a=some (.ins C dx fs)) (r:oQ K F fs ts):lF K F (.ref a) (.obj C ts)
 |emp {a:Addr} (h:F a=some (.dK [])):lF K F (.ref a) .emp
 |dic {a:Addr} {xs:List (List qM×V)} {kvs:List (LI×T)} (h:F a=some (.dT xs)) (r:pY K F xs kvs):lF K F (.ref a) (.dic kvs)
inductive iD(K:W.Frag)(F:Hp):List V->List T->Prop
 |nil:iD K F [] []
 |cons {v:V} {t:T} {vs:List V} {ts:List T} (h:lF K F v t) (r:iD K F vs ts):iD K F (v::vs) (t::ts)
inductive oQ(K:W.Frag)(F:Hp):List (Str×V)->List (Str×T)->Prop
 |nil:oQ K F [] []
 |cons {x:Str} {v:V} {t:T} {vs:List (Str×V)} {ts:List (Str×T)} (h:lF K F v t) (r:oQ K F vs ts):oQ K F ((x,v)::vs) ((x,t)::ts)
inductive pY(K:W.Frag)(F:Hp):List (List qM×V)->List (LI×T)->Prop
 |nil:pY K F [] []
 |cons {k:LI} {v:V} {t:T} {vs:List (List qM×V)} {ts:List (LI×T)} (h:lF K F v t) (r:pY K F vs ts):pY K F ((k.map Sum.inl,v)::vs) ((k,t)::ts)
end
section
variable {K:W.Frag}{F F':Hp}
mutual
theorem lF.mono(s:iJ F F'):∀{v} {t},lF K F v t->lF K F' v t
 |_,_,.non=>.non
 |_,_,.bl b=>.bl b
 |_,_,.int i=>.int i
 |_,_,.str x=>.str x
 |_,_,.tup h r=>.tup (s _ _ h) (iD.mono s r)
 |_,_,.lst h r=>.lst (s _ _ h) (iD.mono s r)
 |_,_,.scr h=>.scr (s.seq h)
 |_,_,.obj h r=>.obj (s _ _ h) (oQ.mono s r)
 |_,_,.emp h=>.emp (s _ _ h)
 |_,_,.dic h r=>.dic (s _ _ h) (pY.mono s r)
theorem iD.mono(s:iJ F F'):∀{vs} {ts},iD K F vs ts->iD K F' vs ts
 |_,_,.nil=>.nil
 |_,_,.cons h r=>.cons (lF.mono s h) (iD.mono s r)
theorem oQ.mono(s:iJ F F'):∀{vs} {ts},oQ K F vs ts->oQ K F' vs ts
 |_,_,.nil=>.nil
 |_,_,.cons h r=>.cons (lF.mono s h) (oQ.mono s r)
theorem pY.mono(s:iJ F F'):∀{vs} {ts},pY K F vs ts->pY K F' vs ts
 |_,_,.nil=>.nil
 |_,_,.cons h r=>.cons (lF.mono s h) (pY.mono s r)
end
theorem iD.length:∀{vs} {ts},iD K F vs ts->vs.length=ts.length
 |_,_,.nil=>rfl
 |_,_,.cons _ r=>by rw[ay,ay,iD.length r]
theorem iD.get:∀{vs:List V} {ts:List T} {i:Nat} {t:T},iD K F vs ts->ts[i]? = some t->∃v,vs[i]? = some v/\lF K F v t
 |_,_,_,_,.nil,e=>by simp at e
 |_,_,0,_,.cons h _,e=>by simp at e;subst e;exact⟨_,rfl,h⟩
 |_,_,i+1,_,.cons _ r,e=>by obtain⟨v,a,h⟩:=iD.get r (by simpa using e);exact⟨v,by simpa using a,h⟩
def iD.at_{i:Nat}(r:iD K F vs ts)(e:vs[i]? = some v):∃t,ts[i]? = some t/\lF K F v t:=by
 have b:i<ts.length:=by rw[<-r.length];exact (aa.mp e).1
 obtain⟨c,a,h⟩:=r.get (ag b);rw[e]at a;cases a;exact⟨_,ag b,h⟩
theorem iD.append:∀{vs us} {ts ss},iD K F vs ts->iD K F us ss->iD K F (vs++us) (ts++ss)
 |_,_,_,_,.nil,q=>q
 |_,_,_,_,.cons h r,q=>.cons h (iD.append r q)
theorem iD.set(q:lF K F v t):∀{vs} {ts} i,iD K F vs ts->iD K F (vs.set i v) (ts.set i t)
 |_,_,_,.nil=>.nil
 |_,_,0,.cons _ r=>.cons q r
 |_,_,i+1,.cons h r=>.cons h (iD.set q i r)
theorem iD.take:∀{vs} {ts} n,iD K F vs ts->iD K F (vs.take n) (ts.take n)
 |_,_,0,_=>.nil
 |_,_,_+1,.nil=>.nil
 |_,_,n+1,.cons h r=>.cons h (iD.take n r)
theorem iD.drop:∀{vs} {ts} n,iD K F vs ts->iD K F (vs.drop n) (ts.drop n)
 |_,_,0,r=>r
 |_,_,_+1,.nil=>.nil
 |_,_,n+1,.cons _ r=>iD.drop n r
theorem iD.rep:∀{vs} {ts} n,iD K F vs ts->iD K F (List.replicate n vs).flatten (List.replicate n ts).flatten
 |_,_,0,_=>.nil
 |_,_,n+1,r=>by rw[bY,bY,bZ,bZ];exact r.append (iD.rep n r)
theorem iD.ints:∀{vs:List V} {a:LI},iD K F vs (a.map T.int)->vs=a.map V.int
 |_,[],.nil=>rfl
 |_,_::_,.cons h r=>by cases h;rw[iD.ints r];rfl
theorem iD.bls:∀{vs:List V} {a:List Bool},iD K F vs (a.map T.bl)->vs=a.map V.bl
 |_,[],.nil=>rfl
 |_,_::_,.cons h r=>by cases h;rw[iD.bls r];rfl
theorem iD.of_ints:∀(a:LI),iD K F (a.map V.int) (a.map T.int)
 |[]=>.nil
 |n::a=>.cons (.int n) (iD.of_ints a)
theorem oQ.look:∀{fs} {ts},oQ K F fs ts->ts.lookup f=some t->∃v,fs.lookup f=some v/\lF K F v t
 |_,_,.nil,e=>by cases e
 |_,_,.cons (x:=x) h r,e=>by
  by_cases b:f=x
  .subst b;rw[c9]at e;cases e;exact⟨_,c9,h⟩
  .have a:(f==x)=false:=by simpa using b
   rw[cm,a]at e;obtain⟨v,d,c⟩:=oQ.look r e;exact⟨v,by rw[cm,a];exact d,c⟩
theorem oQ.none_:∀{fs} {ts},oQ K F fs ts->ts.lookup f=none->fs.lookup f=none
 |_,_,.nil,e=>rfl
 |_,_,.cons (x:=x) h r,e=>by
  by_cases a:f=x
  .subst a;rw[c9]at e;cases e
  .have b:(f==x)=false:=by simpa using a
   rw[cm,b]at e ⊢;exact oQ.none_ r e
end
def vM(h:J9 o (some u))(b:∀q a,u≠.tbl q a):o=u:=by
 cases o with
 |tbl q a=>obtain⟨m,e⟩:=h;exact absurd (Option.some.inj e) (b _ _)
 |_=>exact (Option.some.inj h).symm
def Rj{x y:Option HO}(h:J9 o x)(k:∀a,x=some a->J9 a y):J9 o y:=by
 cases o with
 |tbl q ps=>obtain⟨m,e⟩:=h;obtain⟨b,c⟩:=k _ e;exact⟨m++b,by rw[c,bA]⟩
 |_=>exact k _ h
def yU{H:Hp}(h:J9 u (H b))(a:H p=none):b≠p:=λz=>h.ne (by rw[z];exact a)
structure Gr(F H F' H':Hp):Prop where
 ff:iJ F F'
 fh:iJ F' H'
 hh:iJ H H'
 nw:∀a,F' a≠none->F a≠none\/H a=none\/∃xs,H a=some (.tup xs)
def Gr.refl(h:iJ F H):Gr F H F H:=⟨.refl _,h,.refl _,λ_ h=>.inl h⟩
def iO(h:iJ H H')(e:H' a=none):H a=none:=by
 cases q:H a with
 |none=>rfl
 |some o=>exact absurd e (h a o q).ne
def Gr.trans(g:Gr F H F' H')(b:Gr F' H' F'' H''):Gr F H F'' H'':=
 ⟨g.ff.trans b.ff,b.fh,g.hh.trans b.hh,λa c=>by
  rcases b.nw a c with q|q|⟨d,q⟩
  .exact g.nw a q
  .exact .inr (.inl (iO g.hh q))
  .cases z:H a with
   |none=>exact .inr (.inl rfl)
   |some o=>exact .inr (.inr ⟨d,by have k:=g.hh a o z;rw[q]at k;rw[vM k λ_ _ y=>nomatch y]⟩)⟩
def Gr.new(s:iJ F H)(h:H p=none):Gr F H (jR F p o) (jR H p o):=by
 have c:=iO s h;refine⟨λb u e=>?_,λb u e=>?_,λb u e=>?_,λb a=>?_⟩
 .rw[gY (iX e c)];exact .of e
 .by_cases q:b=p
  .subst q;rw[hU]at e ⊢;exact .of e
  .rw[gY q]at e ⊢;exact s b u e
 .rw[gY (iX e h)];exact .of e
 .by_cases q:b=p
  .subst q;exact .inr (.inl h)
  .rw[gY q]at a;exact .inl a
def Gr.new'(s:iJ F H)(h:H p=none):Gr F H F (jR H p o):=by
 refine⟨.refl _,λb u e=>?_,λb u e=>?_,λb a=>.inl a⟩
 .rw[gY (yU (s b u e) h)];exact s b u e
 .rw[gY (iX e h)];exact .of e
def Gr.take(g:Gr F0 H0 F H)(h:H p=some o)(c:F p=none)(d:H0 p=none):Gr F0 H0 (jR F p o) H:=by
 refine⟨λb u e=>?_,λb u e=>?_,g.hh,λb a=>?_⟩
 .rw[gY (yU (g.ff b u e) c)];exact g.ff b u e
 .by_cases q:b=p
  .subst q;rw[hU]at e;cases e;exact .of h
  .rw[gY q]at e;exact g.fh b u e
 .by_cases q:b=p
  .subst q;exact .inr (.inl d)
  .rw[gY q]at a;exact g.nw b a
def j8(a:F p=none):iJ F (jR F p o):=λb u e=>by rw[gY (iX e a)];exact .of e
abbrev Pe:=List (Option T)
section
variable (K:W.Frag)
def nX(F:Hp)(a:St)(ρ:Pe):Prop:=∀(i:Nat) (t:T),ρ[i]? = some (some t)->∃v,a[i]? = some (some v)/\lF K F v t
def nX.mono{K:W.Frag}(h:nX K F σ ρ)(s:iJ F F'):nX K F' σ ρ:=λi t e=>let ⟨v,a,b⟩:=h i t e;⟨v,a,b.mono s⟩
def XI(E:XK)(C:Addr)(n:Option Int)(F H:Hp):Prop:=match n with
 |none=>E (.ref C) none H
 |some i=>∀a,F a=some (.xd [("at",.int i)])->E (.ref C) (some a) H
def kE(E:XK)(F H:Hp)(C:Addr)(n:Option Int):Prop:=∀b a,Gr F H b a->XI E C n b a
def kE.go(h:kE E F H C n)(g:Gr F H F1 H1):kE E F1 H1 C n:=λb c a=>h b c (g.trans a)
def kV(F H:Hp)(Q:VK)(t:T):Prop:=∀v b a,Gr F H b a->lF K b v t->Q v a
def kB(F H:Hp)(Q:Bool->Hp->Prop)(b:Bool):Prop:=∀c a,Gr F H c a->Q b a
def kA(F H:Hp)(Q:List V->Hp->Prop)(ts:List T):Prop:=∀a c b,Gr F H c b->iD K c a ts->Q a b
def kF(F H:Hp)(Q:VK)(ts:List T):Prop:=∀l c b a,Gr F H b a->H l=none->b l=none->a l=some (.lst c)->iD K b c ts->Q (.ref l) a
noncomputable def ME(E:XK)(t:TE)(f:Pe->M T):Prop:=∀F H b a Q,iJ F H->nX K F b a->(f a).res (kV K F H Q) (kE E F H)->t b H Q
noncomputable def MT(E:XK)(t:TT)(f:Pe->M Bool):Prop:=∀F H b a Q,iJ F H->nX K F b a->(f a).res (kB F H Q) (kE E F H)->t b H Q
noncomputable abbrev a0:=List T
noncomputable def MA(E:XK)(t:TA)(f:Pe->M a0):Prop:=∀F H b a Q,iJ F H->nX K F b a->(f a).res (kA K F H Q) (kE E F H)->t b H Q
noncomputable def MF(E:XK)(t:TE)(f:Pe->M a0):Prop:=∀F H b a Q,iJ F H->nX K F b a->(f a).res (kF K F H Q) (kE E F H)->t b H Q
end
section
variable {K:W.Frag}{E:XK}{t u ta tb:TE}{f g fa fb:Pe->M T}
def kV.go{t:T}(h:kV K F H Q t)(g:Gr F H F1 H1):kV K F1 H1 Q t:=λv b c a r=>h v b c (g.trans a) r
def kB.go{t:Bool}(h:kB F H Q t)(g:Gr F H F1 H1):kB F1 H1 Q t:=λb c a=>h b c (g.trans a)
def kF.go{t:List T}(h:kF K F H Q t)(g:Gr F H F1 H1):kF K F1 H1 Q t:=λl i j k e a b c d=>h l i j k (g.trans e) (iO g.hh a) b c d
def kV.now{t:T}(h:kV K F H Q t)(s:iJ F H)(r:lF K F v t):Q v H:=h v F H (.refl s) r
def kF.of(h:kV K F H Q (.lst ts)):kF K F H Q ts:=λl c d i g e b a r=>h (.ref l) (jR d l (.lst c)) i (g.take a b e) (.lst hU (r.mono (j8 b)))
def MF.me{f:Pe->M a0}(h:MF K E t f):ME K E t (λρ=>(f ρ).bind λts=>.ok (.lst ts)):=λF H a ρ Q s V r=>h F H a ρ Q s V ((M.res.unb r).mono (λts q=>kF.of q) λ_ _ z=>z)
def ME.run{k:T->M α}{P:α->Prop}(h:ME K E t f)(s:iJ F H)(v:nX K F σ ρ)(r:((f ρ).bind k).res P (kE E F H))
  (d:∀x w a b,Gr F H a b->lF K a w x->(k x).res P (kE E a b)->Q w b):t σ H Q:=
 h F H σ ρ Q s v ((M.res.unb r).mono (λx q w a b g c=>d x w a b g c (q.mono (λ_ z=>z) λ_ _ z=>z.go g)) λ_ _ z=>z)
def MT.run{t:TT}{f:Pe->M Bool}{k:Bool->M α}{P:α->Prop}(h:MT K E t f)(s:iJ F H)(v:nX K F σ ρ)(r:((f ρ).bind k).res P (kE E F H))
  (c:∀x b a,Gr F H b a->(k x).res P (kE E b a)->Q x a):t σ H Q:=
 h F H σ ρ Q s v ((M.res.unb r).mono (λx q b a g=>c x b a g (q.mono (λ_ z=>z) λ_ _ z=>z.go g)) λ_ _ z=>z)
def MA.run{t:TA}{f:Pe->M a0}{k:List T->M α}{P:α->Prop}(h:MA K E t f)(s:iJ F H)(v:nX K F σ ρ)(r:((f ρ).bind k).res P (kE E F H))
  (d:∀x w a b,Gr F H a b->iD K a w x->(k x).res P (kE E a b)->Q w b):t σ H Q:=
 h F H σ ρ Q s v ((M.res.unb r).mono (λx q w a b g c=>d x w a b g c (q.mono (λ_ z=>z) λ_ _ z=>z.go g)) λ_ _ z=>z)
@[simp] noncomputable def gG(i:Nat):Pe->M T:=λa=>match a[i]? with
 |some (some t)=>.ok t
 |_=>.bad
def RZ:ME K E (nM i) (gG i):=λF H b c Q s V r=>by
 unfold gG at r;split at r
 .rename_i t e;obtain⟨v,a,h⟩:=V i t e;exact⟨v,a,r.now s h⟩
 .exact r.elim
@[simp] noncomputable def cM(t:T):Pe->M T:=λ_=>.ok t
def L9{t:T}(h:∀F,lF K F v t):ME K E (tC v) (cM t):=λF H b a Q s V r=>kV.now r s (h F)
@[simp] noncomputable def gR(o:T->T->M T)(fa fb:Pe->M T):Pe->M T:=λa=>(fa a).bind λx=>(fb a).bind λy=>o x y
structure MR(K:W.Frag)(r:R2)(o:T->T->M T):Prop where
 ne:∀x y,M.NoE (o x y)
 ok:∀F H v w x y Q,iJ F H->lF K F v x->lF K F w y->(o x y).res (kV K F H Q) (λ_ _=>False)->r v w H Q
def Iz(hr:MR K r o)(c:ME K E ta fa)(e:ME K E tb fb):ME K E (wL r ta tb) (gR o fa fb):=λF H n p Q s V q=>by refine c.run s V q λx v m A a i d=>?_;refine e.run a.fh (V.mono a.ff) d λy w k h b l j=>?_;exact hr.ok k h v w x y Q b.fh (i.mono b.ff) l ((j.ne (hr.ne x y)).mono (λ_ z=>z.go (a.trans b)) λ_ _ z=>z)
noncomputable def my(C:Int->Int->Bool)(g:Int->Int->T):T->T->M T
 |.int i,.int j=>if C i j then .ok (g i j) else .bad
 |_,_=>.bad
def E4{g:Int->Int->T} x y:M.NoE (my C g x y):=λa n=>by
 unfold my;split
 .split<;>exact λz=>nomatch z
 .exact λz=>nomatch z
def lF.int_inv(h:lF K F v (.int i)):v=.int i:=by cases h;rfl
def lF.lst_inv(h:lF K F v (.lst ts)):∃a xs,v=.ref a/\F a=some (.lst xs)/\iD K F xs ts:=by cases h;exact⟨_,_,rfl,‹_›,‹_›⟩
def lF.tup_inv(h:lF K F v (.tup ts)):∃a xs,v=.ref a/\F a=some (.tup xs)/\iD K F xs ts:=by cases h;exact⟨_,_,rfl,‹_›,‹_›⟩
def iD.two(h:iD K F vs [.int i,.int j]):vs=[.int i,.int j]:=by
 cases h with
 |cons h t=>
  cases t with
  |cons h2 t=>cases t;rw[h.int_inv,h2.int_inv]
def C7{g:Int->Int->V}(d:∀i j,Cb i j=true->C i j)(c:∀F i j,lF K F (g i j) (gt i j)):MR K (rI C g) (my Cb gt):=⟨E4,λF H v w x y Q s a b q=>by
 unfold my at q;split at q
 .rename_i i j;rw[a.int_inv,b.int_inv];by_cases h:Cb i j=true
  .rw[aQ h]at q;exact⟨i,j,rfl,rfl,d i j h,kV.now q s (c F i j)⟩
  .rw[aR h]at q;exact q.elim
 .exact q.elim⟩
def uY{g:Int->Int->V}(c:∀F i j,lF K F (g i j) (gt i j)):MR K (Fs g) (my (λ_ _=>true) gt):=⟨E4,λF H v w x y Q s a b q=>by
 unfold my at q;split at q
 .rw[a.int_inv,b.int_inv];exact⟨_,_,rfl,rfl,kV.now q s (c F _ _)⟩
 .exact q.elim⟩
@[simp] noncomputable def qw(o:Int->T)(fa:Pe->M T):Pe->M T:=λa=>(fa a).bind λx=>match x with
 |.int i=>.ok (o i)
 |_=>.bad
def U9{g:Int->V}(d:∀F i,lF K F (g i) (gt i))(c:ME K E ta fa):ME K E (WE (rU g) ta) (qw gt fa):=λF H k l Q s V q=>by
 refine c.run s V q λx v b j h e a=>?_;cases e<;>first
  |exact a.elim
  |exact⟨_,rfl,a _ b j h (d b _)⟩
@[simp] noncomputable def iR(fa:Pe->M T):Pe->M Bool:=λa=>(fa a).bind λx=>match x with
 |.bl b=>.ok b
 |_=>.bad
def PB(b:ME K E ta fa):MT K E (tB ta) (iR fa):=λF H i j Q s V q=>by
 refine b.run s V q λx v h c e d a=>?_;cases d<;>first
  |exact a.elim
  |exact⟨_,rfl,a h c e⟩
def Px(a:ME K E ta fa):MT K E (A1 ta) (iR fa):=PB a
section
variable {c d:TT}{fc fd:Pe->M Bool}
@[simp] noncomputable def mZ(fc fd:Pe->M Bool):Pe->M Bool:=λa=>(fc a).bind λb=>if b then fd a else .ok false
@[simp] noncomputable def wc(fc fd:Pe->M Bool):Pe->M Bool:=λa=>(fc a).bind λb=>if b then .ok true else fd a
@[simp] noncomputable def oj(fc:Pe->M Bool):Pe->M Bool:=λa=>(fc a).bind λb=>.ok (!b)
def To(m:MT K E c fc)(l:MT K E d fd):MT K E (Sx c d) (mZ fc fd):=λF H k j Q s V q=>by
 refine m.run s V q λb i h a e=>?_;cases b with
 |true=>rw[aQ rfl];exact l i h k j Q a.fh (V.mono a.ff) (e.mono (λ_ z=>z.go a) λ_ _ z=>z)
 |false=>rw[aR aH];exact e i h a
def UL(m:MT K E c fc)(l:MT K E d fd):MT K E (WB c d) (wc fc fd):=λF H k j Q s V q=>by
 refine m.run s V q λb i h a e=>?_;cases b with
 |true=>rw[aQ rfl];exact e i h a
 |false=>rw[aR aH];exact l i h k j Q a.fh (V.mono a.ff) (e.mono (λ_ z=>z.go a) λ_ _ z=>z)
def RV(j:MT K E c fc):MT K E (TL c) (oj fc):=λF H k l Q s V q=>by refine j.run s V q λb i e h a=>?_;exact a i e h
@[simp] noncomputable def NT(fc:Pe->M Bool)(fa fb:Pe->M T):Pe->M T:=λa=>(fc a).bind λb=>if b then fa a else fb a
def U6(n:MT K E c fc)(l:ME K E ta fa)(m:ME K E tb fb):ME K E (Wr c ta tb) (NT fc fa fb):=λF H k h Q s V q=>by
 refine n.run s V q λb j i a e=>?_;cases b with
 |true=>rw[aQ rfl];exact l j i k h Q a.fh (V.mono a.ff) (e.mono (λ_ z=>z.go a) λ_ _ z=>z)
 |false=>rw[aR aH];exact m j i k h Q a.fh (V.mono a.ff) (e.mono (λ_ z=>z.go a) λ_ _ z=>z)
end
@[simp] noncomputable def Mp(fa fb:Pe->M T):Pe->M T:=λa=>(iR fa a).bind λb=>if b then fb a else .ok (.bl false)
@[simp] noncomputable def Ds(fa:Pe->M T):Pe->M T:=λa=>(iR fa a).bind λb=>.ok (.bl (!b))
def Qv(h:ME K E ta fa)(k:ME K E tb fb):ME K E (LZ ta tb) (Mp fa fb):=λF H j i Q s V q=>by
 refine (PB h).run s V q λb e d a c=>?_;cases b with
 |true=>rw[aQ rfl];exact k e d j i Q a.fh (V.mono a.ff) (c.mono (λ_ z=>z.go a) λ_ _ z=>z)
 |false=>rw[aR aH];exact c _ e d a (.bl _)
def OQ(a:ME K E ta fa):ME K E (Lj ta) (Ds fa):=λF H i j Q s V q=>by refine (PB a).run s V q λb h d e c=>?_;exact c _ h d e (.bl _)
@[simp] noncomputable def gF(fa:Pe->M T)(fr:Pe->M a0):Pe->M a0:=λa=>(fa a).bind λx=>(fr a).bind λb=>.ok (x::b)
@[simp] noncomputable def gJ:Pe->M a0:=λ_=>.ok []
def GJ:MA K E um gJ:=λF H a b Q s V q=>q [] F H (.refl s) .nil
def OM{b:TA}{fr:Pe->M a0}(d:ME K E ta fa)(hr:MA K E b fr):MA K E (qd ta b) (gF fa fr):=λF H o p Q s V q=>by refine d.run s V q λx v n w a i e=>?_;refine hr.run a.fh (V.mono a.ff) e λr l k h c m j=>?_;exact j (v::l) k h (a.trans c) (.cons (i.mono c.ff) m)
@[simp] noncomputable def Cg(ts:List T):M a0:=if ts.length<=sizeLine then .ok ts else .bad
@[simp] noncomputable def jM(fr:Pe->M a0):Pe->M T:=λb=>(fr b).bind λa=>(Cg a).bind λa=>.ok (.tup a)
@[simp] noncomputable def lstM(fr:Pe->M a0):Pe->M a0:=λa=>(fr a).bind Cg
def T7{d:TA}{fr:Pe->M a0}(hr:MA K E d fr):ME K E (RT d) (jM fr):=λF H k l Q s V q=>by
 refine hr.run s V q λi n j m b c a=>?_;unfold Cg at a;by_cases h:i.length<=sizeLine
 .rw[aQ h]at a;refine⟨by rw[c.length];exact h,λp e=>?_⟩;exact a (.ref p) _ _ (b.trans (.new b.fh e)) (.tup hU (c.mono (Gr.new b.fh e).ff))
 .rw[aR h]at a;exact a.elim
def R3{e:TA}{fr:Pe->M a0}(hr:MA K E e fr):MF K E (Sq e) (lstM fr):=λF H l m Q s V q=>by
 refine hr.run s V q λj k i n b d a=>?_;unfold Cg at a;by_cases h:j.length<=sizeLine
 .rw[aQ h]at a;refine⟨by rw[d.length];exact h,λp c=>?_⟩;exact a p k i _ (b.trans (.new' b.fh c)) (iO b.hh c) (iO b.fh c) hU d
 .rw[aR h]at a;exact a.elim
end
end L3
namespace L3
open PySem L2
inductive W where
 |p (t:T)|o (ts:List T)|d (kvs:List (LI×T))
abbrev En:=List (Option W)
@[simp] def Wu:Option W->Option T
 |some (.p t)=>some t
 |_=>none
@[simp] def WR:Option W->Option T
 |some (.p t)=>some t
 |some (.o ts)=>some (.lst ts)
 |_=>none
@[simp] noncomputable def mD(ρ:En):Pe:=ρ.map Wu
@[simp] noncomputable def vw(ρ:En):Pe:=ρ.map WR
mutual
@[simp] noncomputable def lf:T->Bool
 |.lst _=>false
 |.scr _=>false
 |.dic _=>false
 |.tup ts=>B4 ts
 |.obj _ fs=>Ti fs
 |_=>true
@[simp] noncomputable def B4:List T->Bool
 |[]=>true
 |t::ts=>lf t&&B4 ts
noncomputable def Ti:List (Str×T)->Bool
 |[]=>true
 |t::ts=>lf t.2&&Ti ts
end
structure Fz where
 hp:Hp
 lt:List (Nat×Addr×List V)
instance:Coe Fz Hp:=⟨Fz.hp⟩
structure Lv(H0 F H:Hp)(σ:St)(ρ:En)(e:Nat×Addr×List V):Prop where
 h:H e.2.1=some (.lst e.2.2)
 f:F e.2.1=none
 z:H0 e.2.1=none
 d:∀(i:Nat) (ts:List T),ρ[i]? = some (some (.o ts))->σ[i]?≠some (some (.ref e.2.1))
def DR(K:W.Frag)(F:Hp)(xs:List (List qM×V))(kvs:List (LI×T)):Prop:=Paired (λ(p:List qM×V) (q:LI×T)=>p.1=q.1.map Sum.inl/\lF K F p.2 q.2) xs kvs
def DR.mono(s:iJ F F')(h:DR K F xs kvs):DR K F' xs kvs:=Paired.imp' (λ_ _ q=>⟨q.1,q.2.mono s⟩) h
structure Dv(K:W.Frag)(H0 F H:Hp)(σ:St)(ρ:En):Prop where
 at_:∀(i:Nat) kvs,ρ[i]? = some (some (.d kvs))->∃a,σ[i]? = some (some (.ref a))/\F a=none/\H0 a=none/\∃xs,H a=some (.dT xs)/\DR K F xs kvs
 dj:∀(i j:Nat) kvs kvs',ρ[i]? = some (some (.d kvs))->ρ[j]? = some (some (.d kvs'))->i≠j->σ[i]?≠σ[j]?
def IM{a:Type}{l:List a}{x y:a}(h:(l.set i x)[i]? = some y):y=x:=by
 rw[List.getElem?_set]at h;simp only[if_true]at h;split at h
 .exact (Option.some.inj h).symm
 .cases h
def J6{a:Type}{l:List a}{x y:a}(h:(l.set i x)[j]? = some y):(j=i/\y=x)\/(j≠i/\l[j]? = some y):=by
 by_cases e:j=i
 .subst e;exact .inl ⟨rfl,IM h⟩
 .rw[aq (λz=>e z.symm)]at h;exact .inr ⟨e,h⟩
def Dv.heap(d:Dv K H0 F H σ ρ)(s:iJ F F')(h:∀a xs,H a=some (.dT xs)->F a=none->F' a=none/\H' a=some (.dT xs)):Dv K H0 F' H' σ ρ:=⟨λi b e=>let ⟨a,e1,e2,e3,xs,e4,e5⟩:=d.at_ i b e;let ⟨h1,h2⟩:=h a xs e4 e2;⟨a,e1,h1,e3,xs,h2,e5.mono s⟩,d.dj⟩
def Dv.set(d:Dv K H0 F H σ ρ)(hw:∀kvs,w≠some (.d kvs)):Dv K H0 F H (σ.set i v) (ρ.set i w):=by
 refine⟨λj kvs e=>?_,λj k kvs b e h c=>?_⟩
 .rcases J6 e with⟨rfl,q⟩|⟨f,q⟩
  .exact absurd q.symm (hw kvs)
  .obtain⟨a,l,r⟩:=d.at_ j kvs q;exact⟨a,by rw[aq (λz=>f z.symm)];exact l,r⟩
 .rcases J6 e with⟨rfl,q⟩|⟨f,q⟩
  .exact absurd q.symm (hw kvs)
  .rcases J6 h with⟨rfl,g⟩|⟨m,g⟩
   .exact absurd g.symm (hw b)
   .rw[aq (λz=>f z.symm),aq (λz=>m z.symm)];exact d.dj j k kvs b q g c
def Dv.setR(d:Dv K H0 F H σ ρ)(hw:∀kvs,w≠some (.d kvs)):Dv K H0 F H σ (ρ.set i w):=by
 refine⟨λj kvs e=>?_,λj k kvs a e f b=>?_⟩
 .rcases J6 e with⟨rfl,q⟩|⟨g,q⟩
  .exact absurd q.symm (hw kvs)
  .exact d.at_ j kvs q
 .rcases J6 e with⟨rfl,q⟩|⟨g,q⟩
  .exact absurd q.symm (hw kvs)
  .rcases J6 f with⟨rfl,c⟩|⟨h,c⟩
   .exact absurd c.symm (hw a)
   .exact d.dj j k kvs a q c b
structure Sr(K:W.Frag)(F0:Fz)(H0 F H:Hp)(σ:St)(ρ:En):Prop where
 gr:Gr F0.hp H0 F H
 len:σ.length=ρ.length
 pv:∀(i:Nat) (t:T),ρ[i]? = some (some (.p t))->∃v,σ[i]? = some (some v)/\lF K F v t
 ov:∃ad:Nat->Addr,(∀(i:Nat) (ts:List T),ρ[i]? = some (some (.o ts))->σ[i]? = some (some (.ref (ad i)))/\F (ad i)=none/\H0 (ad i)=none/\∃vs,H (ad i)=some (.lst vs)/\iD K F vs ts)/\
  ∀(i j:Nat) (ts us:List T),ρ[i]? = some (some (.o ts))->ρ[j]? = some (some (.o us))->i≠j->ad i≠ad j
 lv:∀e∈F0.lt,Lv H0 F H σ ρ e
 sl:∀(j:Nat) (l:Addr) (vs:List V),F0.lt.lookup j=some (l,vs)->ρ[j]? = some none->σ[j]? = some (some (.ref l))
 dv:Dv K H0 F H σ ρ
section
variable {K:W.Frag}{F0:Fz}{H0 F H F' H':Hp}{σ:St}{ρ:En}
def Sr.vars(r:Sr K F0 H0 F H σ ρ):nX K F σ (mD ρ):=λi t e=>by
 unfold mD at e;rw[av]at e;cases q:ρ[i]? with
 |none=>rw[q]at e;cases e
 |some w=>
  rw[q]at e;cases w with
  |none=>cases e
  |some w=>
   cases w with
   |p t'=>cases e;exact r.pv i _ q
   |o ts=>cases e
   |d kvs=>cases e
def Sr.grow(r:Sr K F0 H0 F H σ ρ)(g:Gr F H F' H'):Sr K F0 H0 F' H' σ ρ:=by
 obtain⟨k,o,p⟩:=r.ov;refine⟨r.gr.trans g,r.len,λi t e=>?_,⟨k,λi l e=>?_,p⟩,λe m=>?_,r.sl,r.dv.heap g.ff λa x j s=>⟨?_,g.hh _ _ j⟩⟩
 .obtain⟨v,a,b⟩:=r.pv i t e;exact⟨v,a,b.mono g.ff⟩
 .obtain⟨a,b,c,n,d,q⟩:=o i l e;refine⟨a,?_,c,n,g.hh _ _ d,q.mono g.ff⟩;cases z:F' (k i) with
  |none=>rfl
  |some u=>
   rcases g.nw (k i) (by rw[z];exact λw=>nomatch w) with y|y|⟨_,y⟩
   .exact absurd b y
   .rw[d]at y;cases y
   .rw[d]at y;cases y
 .have L:=r.lv e m;refine⟨g.hh _ _ L.h,?_,L.z,L.d⟩;cases z:F' e.2.1 with
  |none=>rfl
  |some u=>
   rcases g.nw e.2.1 (by rw[z];exact λw=>nomatch w) with y|y|⟨_,y⟩
   .exact absurd L.f y
   .rw[L.h]at y;cases y
   .rw[L.h]at y;cases y
 .cases z:F' a with
  |none=>rfl
  |some u=>
   rcases g.nw a (by rw[z];exact λw=>nomatch w) with y|y|⟨_,y⟩
   .exact absurd s y
   .rw[j]at y;cases y
   .rw[j]at y;cases y
theorem Sr.lend(r:Sr K F0 H0 F H σ ρ):∃l,iJ F l/\Gr F0.hp H0 l H/\nX K l σ (vw ρ)/\
  (∀F' H',Gr l H F' H'->∃j,Gr F H j H'/\iJ F j/\iJ j F'/\(∀a,F' a≠none->j a=none->∃xs,F' a=some (.lst xs))/\(∀a,F' a≠none->j a=none->H a≠none)):=by
 classical
 obtain⟨I,m,L⟩:=r.ov;let f:Addr->Prop:=λa=>∃i h,ρ[i]? = some (some (.o h))/\I i=a;let l:Hp:=λa=>if f a then H a else F a
 have n:iJ F l:=λa o e=>by
  have:¬f a:=by rintro⟨i,h,q,rfl⟩;obtain⟨_,b,_⟩:=m i h q;rw[b]at e;cases e
  show J9 o (if f a then H a else F a);rw[aR this];exact .of e
 have J:iJ l H:=λa o e=>by
  by_cases q:f a
  .have s:(if f a then H a else F a)=some o:=e;rw[aQ q]at s;exact .of s
  .have s:(if f a then H a else F a)=some o:=e;rw[aR q]at s;exact r.gr.fh a o s
 have B:∀a,f a->l a=H a:=λa q=>aQ q;have C:∀a,¬f a->l a=F a:=λa q=>aR q;refine⟨l,n,⟨r.gr.ff.trans n,J,r.gr.hh,λa k=>?_⟩,λi t e=>?_,λF' H' g=>?_⟩
 .by_cases q:f a
  .obtain⟨i,h,e,rfl⟩:=q;exact .inr (.inl (m i h e).2.2.1)
  .rw[C a q]at k;exact r.gr.nw a k
 .unfold vw at e;rw[av]at e;cases q:ρ[i]? with
  |none=>rw[q]at e;cases e
  |some w=>
   rw[q]at e;cases w with
   |none=>cases e
   |some w=>
    cases w with
    |p t'=>cases e;obtain⟨v,a,b⟩:=r.pv i _ q;exact⟨v,a,b.mono n⟩
    |o h=>cases e;obtain⟨a,b,c,y,d,z⟩:=m i h q;exact⟨_,a,.lst (by rw[B _ ⟨i,h,q,rfl⟩];exact d) (z.mono n)⟩
    |d kvs=>cases e
 .let j:Hp:=λa=>if f a then none else F' a
  have x:∀a,¬f a->j a=F' a:=λa q=>aR q;have D:∀a,f a->j a=none:=λa q=>aQ q;have A:iJ F j:=λa o e=>by
   have:¬f a:=by rintro⟨i,h,q,rfl⟩;obtain⟨_,b,_⟩:=m i h q;rw[b]at e;cases e
   rw[x a this];exact (n.trans g.ff) _ _ e
  have E:iJ j F':=λa o e=>by
   by_cases q:f a
   .rw[D a q]at e;cases e
   .rw[x a q]at e;exact .of e
  refine⟨j,⟨A,E.trans g.fh,g.hh,λa k=>?_⟩,A,E,λa k u=>?_,λa k u=>?_⟩
  .by_cases q:f a
   .exact absurd (D a q) k
   .rw[x a q]at k;rcases g.nw a k with z|z
    .rw[C a q]at z;exact .inl z
    .exact .inr z
  .by_cases q:f a
   .obtain⟨i,h,e,rfl⟩:=id q;obtain⟨_,_,_,y,d,_⟩:=m i h e;exact⟨y,g.ff _ (.lst y) (by rw[B _ q];exact d)⟩
   .rw[x a q]at u;exact absurd u k
  .by_cases q:f a
   .obtain⟨i,h,e,rfl⟩:=id q;obtain⟨_,_,_,y,d,_⟩:=m i h e;rw[d];exact λz=>nomatch z
   .rw[x a q]at u;exact absurd u k
mutual
theorem lF.less(sb:iJ Fb F)(h:∀a,F a≠none->Fb a=none->∃xs,F a=some (.lst xs)):∀{v} {t},lF K F v t->lf t=true->lF K Fb v t
 |_,_,.non,_=>.non
 |_,_,.bl b,_=>.bl b
 |_,_,.int i,_=>.int i
 |_,_,.str x,_=>.str x
 |_,_,.tup (a:=a) e r,l=>by
  refine .tup ?_ (iD.less sb h r (by simpa[lf] using l));cases q:Fb a with
  |none=>obtain⟨xs,z⟩:=h a (by rw[e];exact λz=>nomatch z) q;rw[e]at z;cases z
  |some u=>have k:=sb a u q;rw[e]at k;rw[vM k λ_ _ y=>nomatch y]
 |_,_,.lst _ _,l=>by simp[lf]at l
 |_,_,.scr _,l=>by simp[lf]at l
 |_,_,.obj (a:=a) (dx:=dx) e r,l=>by
  refine .obj (dx:=dx) ?_ (oQ.less sb h r (by simpa[lf] using l));cases q:Fb a with
  |none=>obtain⟨xs,z⟩:=h a (by rw[e];exact λz=>nomatch z) q;rw[e]at z;cases z
  |some u=>have k:=sb a u q;rw[e]at k;rw[vM k λ_ _ y=>nomatch y]
 |_,_,.dic _ _,l=>by simp[lf]at l
 |_,_,.emp (a:=a) e,l=>by
  refine .emp ?_;cases q:Fb a with
  |none=>obtain⟨xs,z⟩:=h a (by rw[e];exact λz=>nomatch z) q;rw[e]at z;cases z
  |some u=>have k:=sb a u q;rw[e]at k;rw[vM k λ_ _ y=>nomatch y]
theorem iD.less(sb:iJ Fb F)(h:∀a,F a≠none->Fb a=none->∃xs,F a=some (.lst xs)):∀{vs} {ts},iD K F vs ts->B4 ts=true->iD K Fb vs ts
 |_,_,.nil,_=>.nil
 |_,_,.cons q r,l=>by rw[B4,bU]at l;exact .cons (lF.less sb h q l.1) (iD.less sb h r l.2)
theorem oQ.less(sb:iJ Fb F)(h:∀a,F a≠none->Fb a=none->∃xs,F a=some (.lst xs)):∀{vs} {ts},oQ K F vs ts->Ti ts=true->oQ K Fb vs ts
 |_,_,.nil,_=>.nil
 |_,_,.cons q r,l=>by rw[Ti,bU]at l;exact .cons (lF.less sb h q l.1) (oQ.less sb h r l.2)
end
end
end L3
namespace L3
open PySem L2
def kT(K:W.Frag)(F H:Hp)(Q:VK)(ts us:List T):Prop:=∀p l d c a b,Gr F H a b->H l=none->a l=none->H p=none->a p=none->p≠l->b l=some (.lst c)->b p=some (.tup (d++[.ref l]))->iD K a d ts->iD K a c us->Q (.ref p) b
def kT.of(h:kV K F H Q (.tup (ts++[.lst us]))):kT K F H Q ts us:=λp l v k j s g a b c d e f i r u=>by
 have q:=g.take f b a;have o:jR j l (.lst k) p=none:=by rw[gY e];exact d
 have n:iJ j (jR j l (.lst k)):=j8 b;have m:iJ (jR j l (.lst k)) (jR (jR j l (.lst k)) p (.tup (v++[.ref l]))):=j8 o;exact h (.ref p) _ s (q.take i o c) (.tup hU ((r.mono (n.trans m)).append (.cons (.lst (m _ _ hU) (u.mono (n.trans m))) .nil)))
inductive O where
 |bad|nx (ρ:En)|rt (t:T)|rf (ts:List T)|rn (ts us:List T)|bk (ρ:En)|ct (ρ:En)|er (C:Addr) (n:Option Int)
section
variable (K:W.Frag)(E:XK)
def kN(e:Fz)(d F:Hp)(D:St->Hp->Prop)(ρ:En):Prop:=∀b c a,iJ F b->Sr K e d b c a ρ->D a c
noncomputable def O.res(o:O)(b:Fz)(a F:Hp)(D:wY):Prop:=match o with
 |.bad=>False
 |.nx ρ=>kN K b a F D.nx ρ
 |.rt t=>kV K b.hp a D.rt t
 |.rf ts=>kF K b.hp a D.rt ts
 |.rn ts us=>kT K b.hp a D.rt ts us
 |.bk ρ=>kN K b a F D.bk ρ
 |.ct ρ=>kN K b a F D.ct ρ
 |.er C n=>kE E b.hp a C n
noncomputable def MS(t:TS)(g:En->O):Prop:=∀d c F H b a D,Sr K d c F H b a->(g a).res K E d c F D->t D b H
end
section
variable {K:W.Frag}{E:XK}{t u ta tb:TE}{f fa fb:Pe->M T}{F0:Fz}{H0 F H F1 H1:Hp}{σ:St}{ρ:En}{D:wY}
def kN.go(h:kN K F0 H0 F N ρ)(s:iJ F F1):kN K F0 H0 F1 N ρ:=λc d a b r=>h c d a (s.trans b) r
def O.res.go{o:O}(h:o.res K E F0 H0 F D)(s:iJ F F1):o.res K E F0 H0 F1 D:=by
 cases o with
 |bad=>exact h
 |nx ρ=>exact kN.go h s
 |rt t=>exact h
 |rf ts=>exact h
 |rn ts us=>exact h
 |bk ρ=>exact kN.go h s
 |ct ρ=>exact kN.go h s
 |er C n=>exact h
noncomputable def O.of{b:Type}(m:M b)(k:b->O):O:=match m with
 |.bad=>.bad
 |.ok a=>k a
 |.er C n=>.er C n
@[simp] theorem O.of_ok(a:α) k:O.of (.ok a) k=k a:=rfl
@[simp] theorem O.of_bad k:O.of (.bad:M α) k=.bad:=rfl
@[simp] theorem O.of_er C n k:O.of (.er C n:M α) k=.er C n:=rfl
def O.res_of{m:M α}{k:α->O}(h:(O.of m k).res K E F0 H0 F D):m.res (λa=>(k a).res K E F0 H0 F D) (kE E F0.hp H0):=by cases m<;>exact h
@[simp] noncomputable def gW(a b:En->O):En->O:=λρ=>match a ρ with
 |.nx ρ'=>b ρ'
 |o=>o
def Th{t u:TS}(d:MS K E t a)(h:MS K E u b):MS K E (vB t u) (gW a b):=λF0 H0 F H σ ρ D r q=>by
 refine d F0 H0 F H σ ρ _ r ?_;unfold gW at q;cases e:a ρ with
 |nx ρ'=>rw[e]at q;intro i g c s j;exact h F0 H0 i g c ρ' D j (q.go s)
 |bad=>rw[e]at q;exact q
 |rt t=>rw[e]at q;exact q
 |rf ts=>rw[e]at q;exact q
 |rn ts us=>rw[e]at q;exact q
 |bk ρ=>rw[e]at q;exact q
 |ct ρ=>rw[e]at q;exact q
 |er C n=>rw[e]at q;exact q
@[simp] noncomputable def iT:En->O:=λρ=>.nx ρ
def QN:MS K E vR iT:=λF0 H0 F H σ ρ D r q=>q F H σ (.refl _) r
def Md:MS K E GR (λ_=>.bad):=λ_ _ _ _ _ _ _ _ q=>q
def MT.inS(m:MT K E c fc)(r:Sr K F0 H0 F H σ ρ)(q:(O.of (fc (vw ρ)) k).res K E F0 H0 F D)
  (o:∀b e d,iJ F e->Sr K F0 H0 e d σ ρ->(k b).res K E F0 H0 e D->Q b d):c σ H Q:=by
 obtain⟨l,p,g0,V,a⟩:=r.lend;refine m l H σ (vw ρ) Q g0.fh V ((O.res_of q).mono (λb z e d g=>?_) λC n z=>z.go g0);obtain⟨j,i,h,_⟩:=a e d g;exact o b j d h (r.grow i) (z.go h)
@[simp] noncomputable def mh(fc:Pe->M Bool)(a b:En->O):En->O:=λρ=>.of (fc (vw ρ)) λc=>if c then a ρ else b ρ
def U2{t u:TS}(h:MT K E c fc)(g:MS K E t a)(i:MS K E u b):MS K E (CD c t u) (mh fc a b):=λF0 H0 F H σ ρ D r q=>by
 refine h.inS r q λc k j s e d=>?_;cases c with
 |true=>rw[aQ rfl];exact g _ _ _ _ _ _ _ e d
 |false=>rw[aR aH];exact i _ _ _ _ _ _ _ e d
@[simp] noncomputable def iW(f:Pe->M T):En->O:=λρ=>.of (f (vw ρ)) λt=>.rt t
def Sk(h:ME K E t f):MS K E (xU t) (iW f):=λF0 H0 F H σ ρ D r q=>by obtain⟨c,d,g0,V,a⟩:=r.lend;exact h c H σ (vw ρ) _ g0.fh V ((O.res_of q).mono (λb z=>kV.go z g0) λC n z=>z.go g0)
@[simp] noncomputable def nZ(f:Pe->M a0):En->O:=λρ=>.of (f (vw ρ)) λt=>.rf t
def N5{f:Pe->M a0}(h:MF K E t f):MS K E (xU t) (nZ f):=λF0 H0 F H σ ρ D r q=>by obtain⟨c,d,g0,V,a⟩:=r.lend;exact h c H σ (vw ρ) _ g0.fh V ((O.res_of q).mono (λb z=>kF.go z g0) λC n z=>z.go g0)
@[simp] noncomputable def qj(i:Nat):En->O:=λρ=>match ρ[i]? with
 |some (some (.o ts))=>.rf ts
 |_=>.bad
def IF:MS K E (xU (nM i)) (qj i):=λF0 H0 F H σ ρ D r q=>by
 unfold qj at q;split at q
 .rename_i h e;obtain⟨g,k,l⟩:=r.ov;obtain⟨a,b,c,j,d,z⟩:=k i h e;exact⟨_,a,q (g i) j F H r.gr c b d z⟩
 .exact q.elim
def vV{a:Type}{l:List a}{x y:a}(h:(l.set i x)[i]? = some y):y=x:=by
 rw[List.getElem?_set]at h;simp only[if_true]at h;split at h
 .exact (Option.some.inj h).symm
 .cases h
def hW{a:Type}{l:List a}{x y:a}(h:(l.set i x)[j]? = some y):(j=i/\y=x)\/(j≠i/\l[j]? = some y):=by
 by_cases e:j=i
 .subst e;exact .inl ⟨rfl,vV h⟩
 .rw[aq (λz=>e z.symm)]at h;exact .inr ⟨e,h⟩
def qg{a:Type}{l:List a}{x:a}(h:i<l.length):(l.set i x)[i]? = some x:=by rw[List.getElem?_set_self h]
def Sr.setP(r:Sr K F0 H0 F H σ ρ)(h:lF K F v x):Sr K F0 H0 F H (σ.set i (some v)) (ρ.set i (some (.p x))):=by
 obtain⟨s,I,J⟩:=r.ov;refine⟨r.gr,by simp[r.len],λj t e=>?_,⟨s,λj m e=>?_,λj k m N e A=>?_⟩,λe B=>?_,λj l C o q=>?_,r.dv.set λ_ z=>nomatch z⟩
 .have y:j<ρ.length:=by simpa using (aa.mp e).1
  rcases hW e with⟨rfl,q⟩|⟨c,q⟩
  .cases q;exact⟨v,qg (by rw[r.len];exact y),h⟩
  .obtain⟨w,a,b⟩:=r.pv j t q;exact⟨w,by rw[aq (λz=>c z.symm)];exact a,b⟩
 .rcases hW e with⟨rfl,q⟩|⟨c,q⟩
  .cases q
  .obtain⟨a,b⟩:=I j m q;exact⟨by rw[aq (λz=>c z.symm)];exact a,b⟩
 .rcases hW e with⟨rfl,q⟩|⟨c,q⟩
  .cases q
  .rcases hW A with⟨rfl,n⟩|⟨P,n⟩
   .cases n
   .exact J j k m N q n
 .have L:=r.lv e B;refine⟨L.h,L.f,L.z,λj m q=>?_⟩;rcases hW q with⟨rfl,g⟩|⟨c,g⟩
  .cases g
  .rw[aq (λz=>c z.symm)];exact L.d j m g
 .rcases hW q with⟨rfl,g⟩|⟨c,g⟩
  .cases g
  .rw[aq (λz=>c z.symm)];exact r.sl j l C o g
def Sr.setO(r:Sr K F0 H0 F H σ ρ)(g:Gr F H F1 H1)(x:H l=none)(Z:F1 l=none)(hv:H1 l=some (.lst vs))(hr:iD K F1 vs ts) :
  Sr K F0 H0 F1 H1 (σ.set i (some (.ref l))) (ρ.set i (some (.o ts))):=by
 have p:=r.grow g;obtain⟨C,N,_⟩:=r.ov;obtain⟨y,U,h2⟩:=p.ov;have Q:∀j m,ρ[j]? = some (some (.o m))->y j≠l:=λj m e z=>by
  obtain⟨a,_⟩:=U j m e;obtain⟨X,_,_,vs0,R,_⟩:=N j m e;rw[a]at X;have:y j=C j:=by simpa using X
  rw[<-this,z,x]at R;cases R
 refine⟨p.gr,by simp[r.len],λj t e=>?_,⟨λj=>if j=i then l else y j,λj m e=>?_,λj k m Y e P v=>?_⟩,λe S=>?_,λj l' B I q=>?_,p.dv.set λ_ z=>nomatch z⟩
 .rcases hW e with⟨rfl,q⟩|⟨c,q⟩
  .cases q
  .obtain⟨w,a,b⟩:=p.pv j t q;exact⟨w,by rw[aq (λz=>c z.symm)];exact a,b⟩
 .have A:j<ρ.length:=by simpa using (aa.mp e).1
  rcases hW e with⟨rfl,q⟩|⟨c,q⟩
  .cases q;dsimp only;rw[aQ rfl];exact⟨qg (by rw[r.len];exact A),Z,iO r.gr.hh x,vs,hv,hr⟩
  .dsimp only;rw[aR c];obtain⟨a,b⟩:=U j m q;exact⟨by rw[aq (λz=>c z.symm)];exact a,b⟩
 .rcases hW e with⟨rfl,q⟩|⟨c,q⟩
  .rcases hW P with⟨rfl,s⟩|⟨J,s⟩
   .exact absurd rfl v
   .dsimp only;rw[aQ rfl,aR J];exact λz=>Q k Y s z.symm
  .rcases hW P with⟨rfl,s⟩|⟨J,s⟩
   .dsimp only;rw[aR c,aQ rfl];exact Q j m q
   .dsimp only;rw[aR c,aR J];exact h2 j k m Y q s v
 .have L:=p.lv e S;have L0:=r.lv e S;refine⟨L.h,L.f,L.z,λj ts q=>?_⟩;rcases hW q with⟨rfl,n⟩|⟨c,n⟩
  .intro z;have z':=vV z;have:e.2.1=l:=by simpa using z'
   rw[<-this,L0.h]at x;cases x
  .rw[aq (λz=>c z.symm)];exact L.d j ts n
 .rcases hW q with⟨rfl,n⟩|⟨c,n⟩
  .cases n
  .rw[aq (λz=>c z.symm)];exact r.sl j l' B I n
@[simp] noncomputable def jr(f:Pe->M T)(ρ:En):M T:=f (mD ρ)
@[simp] noncomputable def oV(f:Pe->M T)(ρ:En):M T:=(f (vw ρ)).bind λt=>if lf t then .ok t else .bad
def ME.inH(h:ME K E t f)(r:Sr K F0 H0 F H σ ρ)(q:(O.of (jr f ρ) k).res K E F0 H0 F D)
  (d:∀x v a b,Gr F H a b->lF K a v x->Sr K F0 H0 a b σ ρ->(k x).res K E F0 H0 a D->Q v b):t σ H Q:=
 h F H σ (mD ρ) Q r.gr.fh r.vars ((O.res_of q).mono (λx z v a b g c=>d x v a b g c (r.grow g) (z.go g.ff)) λC n z=>z.go r.gr)
def ME.inB(h:ME K E t f)(r:Sr K F0 H0 F H σ ρ)(q:(O.of (oV f ρ) k).res K E F0 H0 F D)
  (s:∀x v b a,Gr F H b a->lF K b v x->Sr K F0 H0 b a σ ρ->(k x).res K E F0 H0 b D->Q v a):t σ H Q:=by
 obtain⟨p,w,g0,V,d⟩:=r.lend;refine h p H σ (vw ρ) Q g0.fh V ((M.res.unb (O.res_of q)).mono (λx z v b a g l=>?_) λC n z=>z.go g0);obtain⟨o,j,m,i,c,_⟩:=d b a g;by_cases e:lf x=true
 .rw[aQ e]at z;exact s x v o a j (l.less i c e) (r.grow j) (O.res.go z m)
 .rw[aR e]at z;exact z.elim
@[simp] noncomputable def setO(i:Nat)(f:En->M T):En->O:=λρ=>.of (f ρ) λt=>.nx (ρ.set i (some (.p t)))
def Ht(h:ME K E t f):MS K E (nW t (j9 i)) (setO i (jr f)):=λF0 H0 F H σ ρ D r q=>h.inH r q λx v c b g a e d=>d c b _ (.refl _) (e.setP a)
def OR(h:ME K E t f):MS K E (nW t (j9 i)) (setO i (oV f)):=λF0 H0 F H σ ρ D r q=>h.inB r q λx v c b g a e d=>d c b _ (.refl _) (e.setP a)
@[simp] noncomputable def qt(f:Pe->M a0)(ρ:En):M a0:=f (mD ρ)
@[simp] noncomputable def AC(f:Pe->M a0)(ρ:En):M a0:=(f (vw ρ)).bind λa=>if B4 a then .ok a else .bad
def MF.inH{f:Pe->M a0}(h:MF K E t f)(r:Sr K F0 H0 F H σ ρ)(q:(O.of (qt f ρ) k).res K E F0 H0 F D)
  (j:∀ts l vs e i,Gr F H e i->H l=none->e l=none->i l=some (.lst vs)->iD K e vs ts->(k ts).res K E F0 H0 e D->Q (.ref l) i):t σ H Q:=
 h F H σ (mD ρ) Q r.gr.fh r.vars ((O.res_of q).mono (λts z l vs e i g a b c d=>j ts l vs e i g a b c d (z.go g.ff)) λC n z=>z.go r.gr)
def MF.inB{f:Pe->M a0}(h:MF K E t f)(r:Sr K F0 H0 F H σ ρ)(q:(O.of (AC f ρ) k).res K E F0 H0 F D)
  (y:∀ts l vs i e,Gr F H i e->H l=none->i l=none->e l=some (.lst vs)->iD K i vs ts->(k ts).res K E F0 H0 i D->Q (.ref l) e):t σ H Q:=by
 obtain⟨x,A,g0,V,o⟩:=r.lend;refine h x H σ (vw ρ) Q g0.fh V ((M.res.unb (O.res_of q)).mono (λts z l vs i e g a b c d=>?_) λC n z=>z.go g0);obtain⟨w,v,s,m,j,_⟩:=o i e g;by_cases p:B4 ts=true
 .rw[aQ p]at z;exact y ts l vs w e v a (iO m b) c (d.less m j p) (O.res.go z s)
 .rw[aR p]at z;exact z.elim
@[simp] noncomputable def pB(i:Nat)(f:En->M a0):En->O:=λρ=>.of (f ρ) λa=>.nx (ρ.set i (some (.o a)))
def Iy{f:Pe->M a0}(h:MF K E t f):MS K E (nW t (j9 i)) (pB i (qt f)):=λF0 H0 F H σ ρ D r q=>h.inH r q λm l n k j g a b c d e=>e k j _ (.refl _) (r.setO g a b c d)
def Qo{f:Pe->M a0}(h:MF K E t f):MS K E (nW t (j9 i)) (pB i (AC f)):=λF0 H0 F H σ ρ D r q=>h.inB r q λm l n k j g a b c d e=>e k j _ (.refl _) (r.setO g a b c d)
@[simp] noncomputable def zD(f:En->M T):En->O:=λρ=>.of (f ρ) λ_=>.nx ρ
def Mr(h:ME K E t f):MS K E (qR t) (zD (jr f)):=λF0 H0 F H σ ρ D r q=>h.inH r q λx v b a g e d c=>c b a _ (.refl _) d
def Sr.change(r:Sr K F0 H0 F H σ ρ)(e:ρ[i]? = some (some (.o ts)))(hw:iD K F ws us) :
  ∃l vs,σ[i]? = some (some (.ref l))/\H l=some (.lst vs)/\iD K F vs ts/\Sr K F0 H0 F (jR H l (.lst ws)) σ (ρ.set i (some (.o us))):=by
 obtain⟨B,P,A⟩:=r.ov;obtain⟨a,b,c,vs,d,z⟩:=P i ts e;refine⟨B i,vs,a,d,z,⟨r.gr.ff,λp u q=>?_,λp u q=>?_,r.gr.nw⟩,by simp[r.len],λj t q=>?_,⟨B,λj n q=>?_,λj k n x q Q m=>?_⟩,λN R=>?_,λj l' s I q=>?_,(r.dv.heap (.refl _) λp xs J _=>⟨by assumption,by rw[gY (λz=>by rw[z,d]at J;cases J)];exact J⟩).setR λ_ z=>nomatch z⟩
 .rw[gY (iX q b)];exact r.gr.fh p u q
 .rw[gY (iX q c)];exact r.gr.hh p u q
 .rcases hW q with⟨rfl,g⟩|⟨y,g⟩
  .cases g
  .exact r.pv j t g
 .rcases hW q with⟨rfl,g⟩|⟨y,g⟩
  .cases g;exact⟨a,b,c,ws,hU,hw⟩
  .obtain⟨a',U,Z,s,X,S⟩:=P j n g;exact⟨a',U,Z,s,by rw[gY (A j i n ts g e y)];exact X,S⟩
 .rcases hW q with⟨rfl,g⟩|⟨y,g⟩
  .rcases hW Q with⟨rfl,v⟩|⟨Y,v⟩
   .exact absurd rfl m
   .exact A j k ts x e v m
  .rcases hW Q with⟨rfl,v⟩|⟨Y,v⟩
   .exact A j k n ts g e m
   .exact A j k n x g v m
 .have L:=r.lv N R;have C:N.2.1≠B i:=λw=>L.d i ts e (by rw[w];exact a);refine⟨by rw[gY C];exact L.h,L.f,L.z,λj n q=>?_⟩;rcases hW q with⟨rfl,g⟩|⟨y,g⟩
  .exact L.d _ ts e
  .exact L.d j n g
 .rcases hW q with⟨rfl,g⟩|⟨y,g⟩
  .cases g
  .exact r.sl j l' s I g
@[simp] noncomputable def oE(ρ:En)(i:Nat):M a0:=match ρ[i]? with
 |some (some (.o ts))=>.ok ts
 |_=>.bad
def vC(h:oE ρ i=.ok ts):ρ[i]? = some (some (.o ts)):=by
 unfold oE at h;split at h
 .rename_i a e;cases h;exact e
 .cases h
@[simp] noncomputable def qV(i:Nat)(f:En->M T):En->O:=λρ=>.of (oE ρ i) λa=>.of (f ρ) λt=>if a.length<sizeLine then .nx (ρ.set i (some (.o (a++[t])))) else .bad
def zV(r:Sr K F0 H0 F H σ ρ)(e:ρ[i]? = some (some (.o ts)))(k:lF K F v x)
  (q:(if ts.length<sizeLine then O.nx (ρ.set i (some (.o (ts++[x])))) else .bad).res K E F0 H0 F D):∃l,σ[i]? = some (some (.ref l))/\rB (.ref l) [v] H λ_ H1=>D.nx σ H1:=by
 by_cases c:ts.length<sizeLine
 .rw[aQ c]at q;obtain⟨m,h,_⟩:=r.ov;obtain⟨_,_,_,n,d,z⟩:=h i ts e;obtain⟨l,b,j,g,s,p⟩:=r.change e (z.append (.cons k .nil));have:b=n:=by
   have a:=(h i ts e).1;rw[j]at a;have:l=m i:=by simpa using a
   rw[this,d]at g;cases g;rfl
  subst this;exact⟨l,j,l,b,v,rfl,rfl,g,by rw[z.length];exact c,q F _ _ (.refl _) p⟩
 .rw[aR c]at q;exact q.elim
def IT(K:W.Frag)(i:Nat)(a:TE):TE:=Ux K "list" rB (nM i) (qd a um)
def Qb(m:∀l xs H,H l=some (.lst xs)->Tn K "list" (.ref l) H)(h:ME K E t f):MS K E (qR (IT K i t)) (qV i (jr f)):=λF0 H0 F H σ ρ D r q=>by
 unfold qV at q;cases e:oE ρ i with
 |bad=>rw[e]at q;exact q.elim
 |er C n=>unfold oE at e;split at e<;>cases e
 |ok ts=>rw[e]at q;have c:=vC e;obtain⟨w,o,_⟩:=r.ov;obtain⟨a,_,_,y,d,_⟩:=o i ts c;refine⟨_,a,m _ _ _ d,?_⟩;refine h.inH r q λx v A z g k s p=>?_;obtain⟨l,j,b⟩:=zV s c k p;rw[a]at j;cases j;exact b
def OV(m:∀l xs H,H l=some (.lst xs)->Tn K "list" (.ref l) H)(h:ME K E t f):MS K E (qR (IT K i t)) (qV i (oV f)):=λF0 H0 F H σ ρ D r q=>by
 unfold qV at q;cases e:oE ρ i with
 |bad=>rw[e]at q;exact q.elim
 |er C n=>unfold oE at e;split at e<;>cases e
 |ok ts=>rw[e]at q;have c:=vC e;obtain⟨w,o,_⟩:=r.ov;obtain⟨a,_,_,y,d,_⟩:=o i ts c;refine⟨_,a,m _ _ _ d,?_⟩;refine h.inB r q λx v A z g k s p=>?_;obtain⟨l,j,b⟩:=zV s c k p;rw[a]at j;cases j;exact b
@[simp] noncomputable def xS(i:Nat)(b:En->M T)(f:En->M T):En->O:=λρ=>.of (oE ρ i) λa=>.of (f ρ) λt=>.of (b ρ) λk=>match k with
 |.int k=>match Av a.length k with
  |some j=>.nx (ρ.set i (some (.o (a.set j t))))
  |none=>.bad
 |_=>.bad
theorem Mz{i:Nat}{ts:List T}{x y:T}{v w:V}{l:Addr}(r:Sr K F0 H0 F H σ ρ)(g:ρ[i]? = some (some (.o ts)))(n:σ[i]? = some (some (.ref l)))(s:lF K F v x)(m:lF K F w y)
  (b:(match y with
   |.int k=>match Av ts.length k with
    |some j=>O.nx (ρ.set i (some (.o (ts.set j x))))
    |none=>.bad
   |_=>.bad).res K E F0 H0 F D):Hm (.ref l) w v H λI=>D.nx σ I:=by
 cases m with
 |int k=>
  dsimp only at b;cases e:Av ts.length k with
  |none=>rw[e]at b;exact b.elim
  |some j=>
   rw[e]at b;obtain⟨A,p,_⟩:=r.ov;obtain⟨_,_,_,B,d,z⟩:=p i ts g;obtain⟨L,c,q,h,J,C⟩:=r.change g (z.set s j);rw[n]at q;cases q;have:c=B:=by
    have a:=(p i ts g).1;rw[n]at a;have:l=A i:=by simpa using a
    rw[this,d]at h;cases h;rfl
   subst this;exact⟨l,c,k,j,rfl,rfl,h,by rw[z.length];exact e,b F _ _ (.refl _) C⟩
 |_=>exact b.elim
def Ua(h:ME K E t f)(o:ME K E tk fk):MS K E (nW t (R7 (nM i) tk Hm)) (xS i (oV fk) (oV f)):=λF0 H0 F H σ ρ D r q=>by
 unfold xS at q;cases e:oE ρ i with
 |bad=>rw[e]at q;exact q.elim
 |er C n=>unfold oE at e;split at e<;>cases e
 |ok ts=>rw[e]at q;have c:=vC e;obtain⟨z,j,_⟩:=r.ov;have a:=(j i ts c).1;refine h.inB r q λx v I B g d p l=>⟨_,a,?_⟩;exact o.inB p l λy w J A m b s k=>Mz s c a (d.mono m.ff) b k
end
end L3
namespace L3
open PySem L2
section
variable {K:W.Frag}{E:XK}{t u ta tb:TE}{f fa fb:Pe->M T}{F0:Fz}{H0 F H F1 H1:Hp}{σ:St}{ρ:En}{D:wY}
structure AE(K:W.Frag)(J:It)(its:List T)(F1:Hp):Prop where
 go:∀i H,iJ F1 H->i<its.length->J.go i H
 stop:∀H,iJ F1 H->J.stop its.length H
 yld:∀(i:Nat) t F H x H',iJ F1 F->iJ F H->its[i]? = some t->J.yld i H x H'->∃F',Gr F H F' H'/\lF K F' x t
def kI(K:W.Frag)(F H:Hp)(R:It->Hp->Prop)(its:List T):Prop:=∀J b a,Gr F H b a->AE K J its b->R J a
noncomputable def MI(K:W.Frag)(E:XK)(w:TI)(f:Pe->M a0):Prop:=∀F H σ ρ R,iJ F H->nX K F σ ρ->(f ρ).res (kI K F H R) (kE E F H)->w σ H R
def Xx(K:W.Frag)(F H:Hp)(R:It->Hp->Prop)(its:List T):Prop:=∀J b a,Gr F H b a->(∀F1,AE K J its F1)->R J a
noncomputable def VH(K:W.Frag)(E:XK)(w:TI)(f:Pe->M a0):Prop:=∀F H σ ρ R,iJ F H->nX K F σ ρ->(f ρ).res (Xx K F H R) (kE E F H)->w σ H R
def VH.mi{f:Pe->M a0}(h:VH K E w f):MI K E w f:=λF H σ ρ R s V q=>h F H σ ρ R s V (q.mono (λc z J a b g i=>z J a b g (i a)) λ_ _ z=>z)
@[simp] noncomputable def VZ(fa:Pe->M T):Pe->M a0:=λρ=>(fa ρ).bind λx=>match x with
 |.lst ts=>.ok ts
 |.scr ns=>.ok (ns.map T.int)
 |_=>.bad
@[simp] noncomputable def WT(fa:Pe->M T):Pe->M a0:=λρ=>(fa ρ).bind λx=>match x with
 |.tup ts=>.ok ts
 |_=>.bad
def Iw(c:mz K F a xs)(r:iD K F xs ts):AE K (WK K a) ts F where
 go:=λi H s l=>by have e:xs[i]? = some (xs[i]'(by rw[r.length];exact l)):=ag _;exact⟨xs,_,s.seq c,e⟩
 stop:=λH s=>⟨xs,s.seq c,by rw[r.length];exact aK _⟩
 yld:=λi t m H x o d g e y=>by obtain⟨rfl,j⟩:=y;have k:=j xs ((d.trans g).seq c);obtain⟨n,b,h⟩:=r.at_ k;rw[e]at b;cases b;exact⟨m,.refl g,h.mono d⟩
def v8(s:iJ F H)(h:F a=some (.tup xs)):oK K H a xs:=oK.of (s _ _ h)
def SE(c:F a=some (.tup xs))(r:iD K F xs ts):AE K (Wn K a) ts F where
 go:=λi H s l=>by have e:xs[i]? = some (xs[i]'(by rw[r.length];exact l)):=ag _;exact⟨xs,_,v8 s c,e⟩
 stop:=λH s=>⟨xs,v8 s c,by rw[r.length];exact aK _⟩
 yld:=λi t m H x o d g e y=>by obtain⟨rfl,j⟩:=y;have k:=j xs (v8 (d.trans g) c);obtain⟨n,b,h⟩:=r.at_ k;rw[e]at b;cases b;exact⟨m,.refl g,h.mono d⟩
def C6(c:ME K E ta fa):MI K E (L5 K ta) (VZ fa):=λF H σ ρ R s V q=>by
  refine c.run s V q λx v F1 H1 a d b=>?_;cases d<;>first
    |exact b.elim
    | (rename_i h r
       exact⟨_,rfl,⟨_,mz.of (a.fh _ _ h)⟩,b _ F1 H1 a (Iw (mz.of h) r)⟩)
    | (rename_i h
       exact⟨_,rfl,⟨_,a.fh.seq h⟩,b _ F1 H1 a (Iw h (iD.of_ints _))⟩)
def R5(c:ME K E ta fa):MI K E (TU K ta) (WT fa):=λF H σ ρ R s V q=>by
  refine c.run s V q λx v F1 H1 b d a=>?_;cases d<;>first
    |exact a.elim
    | (rename_i h r
       exact⟨_,rfl,⟨_,oK.of (b.fh _ _ h)⟩,a _ F1 H1 b (SE h r)⟩)
def UX:(2:Int) ^ 62=4611686018427387904:=by decide +kernel
def V7:(2:Int) ^ 63=9223372036854775808:=by decide +kernel
noncomputable def Fu(j:Int):Bool:=decide (j.natAbs<4611686018427387904)
def tM(h:Fu j=true):-(2 ^ 62)<=j/\j<2 ^ 62:=by rw[UX];have:=of_decide_eq_true h;omega
def pL(h:j.natAbs<=1000000):Fu j=true:=aC (by omega)
noncomputable def CQ(a:Int)(n:Nat):List T:=(List.range n).map λ(i:Nat)=>T.int (a+(i:Int))
def RU F:AE K (U5 lo n) (CQ lo n) F where
 go:=λi H s a=>by show i<n;simpa[CQ] using a
 stop:=λH s=>by simp[CQ,U5]
 yld:=λi t b H x g d c e y=>by
  obtain⟨rfl,rfl⟩:=y;have a:i<n:=by simpa[CQ] using (aa.mp e).1
  have:t=.int (lo+i):=by unfold CQ at e;rw[av,List.getElem?_range a]at e;cases e;rfl
  rw[this];exact⟨b,.refl c,.int _⟩
@[simp] noncomputable def mM(fa:Pe->M a0):Pe->M a0:=λρ=>(fa ρ).bind λa=>match a with
 |[.int j]=>if Fu j then .ok (CQ 0 j.toNat) else .bad
 |_=>.bad
def Qz{ta:TA}{fa:Pe->M a0}(e:MA K E ta fa):VH K E (KU ta) (mM fa):=λF H σ ρ R s V q=>by
 refine e.run s V q λk i F1 H1 h g c=>?_;split at c
 .rename_i j;split at c
  .rename_i d;cases g with
   |cons a b=>cases a;cases b;exact⟨j,rfl,(tM d).1,(tM d).2,c _ F1 H1 h RU⟩
  .exact c.elim
 .exact c.elim
noncomputable def seqB(b:Bool):T->M a0
 |.tup ts=>if b then .ok ts else .bad
 |.lst ts=>if b then .bad else .ok ts
 |.scr ns=>if b then .bad else .ok (ns.map T.int)
 |_=>.bad
def CJ(r:lF K F v x)(e:seqB b x=.ok ts):∃a xs,v=.ref a/\(∀H,iJ F H->xK K H b a xs)/\iD K F xs ts:=by
 cases r<;>try (cases e)
 .rename_i a xs c h r;cases b with
  |true=>cases e;exact⟨a,xs,rfl,λH s=>by unfold xK;rw[aQ rfl];exact oK.of (s _ _ h),r⟩
  |false=>cases e
 .rename_i a xs c h r;cases b with
  |true=>cases e
  |false=>cases e;exact⟨a,xs,rfl,λH s=>by unfold xK;rw[aR aH];exact mz.of (s _ _ h),r⟩
 .rename_i a d h;cases b with
  |true=>cases e
  |false=>cases e;exact⟨a,_,rfl,λH s=>by unfold xK;rw[aR aH];exact s.seq h,iD.of_ints d⟩
noncomputable def BQ(xs a:List T):List T:=(xs.zip a).map λp=>T.tup [p.1,p.2]
def RL(c:∀H,iJ F H->xK K H b1 l1 xs)(d:iD K F xs ts)(j:∀H,iJ F H->xK K H b2 l2 ys)(m:iD K F ys us):AE K (WL K b1 b2 l1 l2) (BQ ts us) F where
 go:=λi H s B=>by
  have a:i<ts.length/\i<us.length:=by simp[BQ]at B;omega
  have k:xs[i]? = some (xs[i]'(by rw[d.length];exact a.1)):=ag _;have l:ys[i]? = some (ys[i]'(by rw[m.length];exact a.2)):=ag _;exact⟨xs,ys,_,_,c H s,j H s,k,l⟩
 stop:=λH s=>⟨xs,ys,c H s,j H s,by simp[BQ,d.length,m.length];omega⟩
 yld:=λi t N H x L b h e y=>by
  obtain⟨p,I,w,rfl,J,rfl,k,l⟩:=y;obtain⟨q,C,r⟩:=d.at_ (k xs (c H (b.trans h)));obtain⟨n,v,A⟩:=m.at_ (l ys (j H (b.trans h)));have:t=.tup [q,n]:=by unfold BQ at e;rw[av,(List.getElem?_zip_eq_some (z:=(q,n))).mpr ⟨C,v⟩]at e;cases e;rfl
  rw[this];have g:=Gr.new (o:=.tup [I,w]) h J;exact⟨_,g,.tup hU (.cons ((r.mono b).mono g.ff) (.cons ((A.mono b).mono g.ff) .nil))⟩
noncomputable def TM(a c:Bool)(fa:Pe->M a0):Pe->M a0:=λρ=>(fa ρ).bind λe=>match e with
 |[x,y]=>(seqB a x).bind λd=>(seqB c y).bind λb=>.ok (BQ d b)
 |_=>.bad
def Dg:seqB b x≠.er C n:=by cases x<;>cases b<;>exact λz=>nomatch z
def M9{ta:TA}{fa:Pe->M a0}(k:MA K E ta fa):MI K E (Tz K b1 b2 ta) (TM b1 b2 fa):=λF H σ ρ R s V q=>by
 refine k.run s V q λA z F1 H1 h o d=>?_;split at d
 .rename_i x y;cases o with
  |cons a b=>
   cases b with
   |cons b c=>
    cases c;cases e:seqB b1 x with
    |bad=>rw[e]at d;exact d.elim
    |er C n=>exact absurd e Dg
    |ok ts=>
     rw[e]at d;cases g:seqB b2 y with
     |bad=>simp only[g,M.bind_ok]at d;exact d.elim
     |er C n=>exact absurd g Dg
     |ok us=>simp only[g,M.bind_ok]at d;obtain⟨v,r,rfl,i,w⟩:=CJ a e;obtain⟨m,p,rfl,j,l⟩:=CJ b g;exact⟨v,m,rfl,⟨r,i _ h.fh⟩,⟨p,j _ h.fh⟩,d _ F1 H1 h (RL i w j l)⟩
 .exact d.elim
def MG(K:W.Frag)(g:TG)(m:T->Pe->Option Pe):Prop:=∀F H σ (ρ:Pe) x t ρ' Q,iJ F H->σ.length=ρ.length->nX K F σ ρ->lF K F x t->m t ρ=some ρ'->(∀a,a.length=ρ'.length->nX K F a ρ'->Q a H)->g x σ H Q
def Vi(K:W.Frag)(g:NM)(m:List T->Pe->Option Pe):Prop:=∀F H σ (ρ:Pe) xs ts ρ' Q,iJ F H->σ.length=ρ.length->nX K F σ ρ->iD K F xs ts->m ts ρ=some ρ'->(∀a,a.length=ρ'.length->nX K F a ρ'->Q a H)->g xs σ H Q
@[simp] def jN(i:Nat):T->Pe->Option Pe:=λt ρ=>some (ρ.set i (some t))
def nX.set{ρ:Pe}(V:nX K F σ ρ)(d:σ.length=ρ.length)(h:lF K F v x):nX K F (σ.set i (some v)) (ρ.set i (some x)):=λj t e=>by
 have c:j<ρ.length:=by simpa using (aa.mp e).1
 rcases hW e with⟨rfl,q⟩|⟨c,q⟩
 .cases q;exact⟨v,qg (by rw[d];exact c),h⟩
 .obtain⟨w,a,b⟩:=V j t q;exact⟨w,by rw[aq (λz=>c z.symm)];exact a,b⟩
def Pf:MG K (j9 i) (jN i):=λF H σ ρ x t b Q s a V r e k=>by cases e;exact k _ (by simp[a]) (V.set a r)
@[simp] noncomputable def ni:List T->Pe->Option Pe
 |[],ρ=>some ρ
 |_::_,_=>none
@[simp] def i7(m:T->Pe->Option Pe)(n:List T->Pe->Option Pe):List T->Pe->Option Pe
 |[],_=>none
 |t::ts,ρ=>(m t ρ).bind (n ts)
def N4:Vi K IL ni:=λF H σ ρ h g c Q s d V r e k=>by
 cases r with
 |nil=>cases e;exact⟨rfl,k σ d V⟩
 |cons a b=>cases e
def NI(p:MG K g m)(w:Vi K gs n):Vi K (Ah g gs) (i7 m n):=λF H σ ρ y x c Q s l V r e k=>by
 cases r with
 |nil=>cases e
 |cons a b=>
  rename_i v t j d;have e:(m t ρ).bind (n d)=some c:=e;cases q:m t ρ with
  |none=>rw[q]at e;cases e
  |some ρ1=>rw[q]at e;refine⟨v,j,rfl,p F H σ ρ v t ρ1 _ s l V a q λh i o=>?_⟩;exact w F H h ρ1 j d c Q s i o b e k
@[simp] noncomputable def nh(k:Nat)(m:List T->Pe->Option Pe):T->Pe->Option Pe
 |.tup ts,ρ=>if ts.length=k then m ts ρ else none
 |_,_=>none
def Se(h:Vi K g m):MG K (Ji K k g) (nh k m):=λF H σ ρ x t b Q s i V r e q=>by
 cases r with
 |tup hx rs=>
  rename_i a j c;have e:(if c.length=k then m c ρ else none)=some b:=e;by_cases d:c.length=k
  .rw[aQ d]at e;exact⟨_,_,rfl,oK.of (s _ _ hx),by rw[rs.length];exact d,h F H σ ρ _ _ b Q s i V rs e q⟩
  .rw[aR d]at e;cases e
 |_=>cases e
noncomputable def OI(K:W.Frag)(g:TG)(m:T->En->Option En):Prop:=∀F0 H0 F H σ ρ x t b Q,Sr K F0 H0 F H σ ρ->lF K F x t->m t ρ=some b->(∀a,Sr K F0 H0 F H a b->Q a H)->g x σ H Q
noncomputable def Mw(K:W.Frag)(g:NM)(m:List T->En->Option En):Prop:=∀F0 H0 F H σ ρ d c b Q,Sr K F0 H0 F H σ ρ->iD K F d c->m c ρ=some b->(∀a,Sr K F0 H0 F H a b->Q a H)->g d σ H Q
@[simp] noncomputable def j6(i:Nat):T->En->Option En:=λt ρ=>some (ρ.set i (some (.p t)))
def Kc:OI K (j9 i) (j6 i):=λF0 H0 F H σ ρ x t a Q s r e k=>by cases e;exact k _ (s.setP r)
@[simp] noncomputable def ml:List T->En->Option En
 |[],ρ=>some ρ
 |_::_,_=>none
@[simp] noncomputable def i8(m:T->En->Option En)(n:List T->En->Option En):List T->En->Option En
 |[],_=>none
 |t::ts,ρ=>(m t ρ).bind (n ts)
def Lm:Mw K IL ml:=λF0 H0 F H σ ρ g d c Q s r e k=>by
 cases r with
 |nil=>cases e;exact⟨rfl,k σ s⟩
 |cons a b=>cases e
def IU(l:OI K g m)(o:Mw K gs n):Mw K (Ah g gs) (i8 m n):=λF0 H0 F H σ ρ w p c Q s r e k=>by
 cases r with
 |nil=>cases e
 |cons a b=>
  rename_i v t i d;have e:(m t ρ).bind (n d)=some c:=e;cases q:m t ρ with
  |none=>rw[q]at e;cases e
  |some ρ1=>rw[q]at e;refine⟨v,i,rfl,l F0 H0 F H σ ρ v t ρ1 _ s a q λh j=>?_⟩;exact o F0 H0 F H h ρ1 i d c Q j b e k
@[simp] noncomputable def mj(k:Nat)(m:List T->En->Option En):T->En->Option En
 |.tup ts,ρ=>if ts.length=k then m ts ρ else none
 |_,_=>none
def QK(h:Mw K g m):OI K (Ji K k g) (mj k m):=λF0 H0 F H σ ρ x t b Q s r e q=>by
 cases r with
 |tup hx rs=>
  rename_i a i c;have e:(if c.length=k then m c ρ else none)=some b:=e;by_cases d:c.length=k
  .rw[aQ d]at e;exact⟨_,_,rfl,oK.of (s.gr.fh _ _ hx),by rw[rs.length];exact d,h F0 H0 F H σ ρ _ _ b Q s rs e q⟩
  .rw[aR d]at e;cases e
 |_=>cases e
noncomputable def j3(m:T->En->Option En)(g:En->O):List T->En->O
 |[],ρ=>.nx ρ
 |t::ts,ρ=>match m t ρ with
  |none=>.bad
  |some ρ1=>match g ρ1 with
   |.nx ρ2=>j3 m g ts ρ2
   |.ct ρ2=>j3 m g ts ρ2
   |.bk ρ2=>.nx ρ2
   |o=>o
theorem GE{tb:TS}{J:It}(hg:OI K g m)(hb:MS K E tb gb){G:Hp->Hp->Prop}(R:∀i F H,G F H->i<its.length->J.go i H)(X:∀F H,G F H->J.stop its.length H)(P:∀(i:Nat) t F H x c,G F H->its[i]? = some t->J.yld i H x c->∃d,Gr F H d c/\lF K d x t)
  (Y:∀d c b ρ',iJ F1 d->Sr K F0 H0 d c b ρ'->G d c) (r:Sr K F0 H0 F H σ ρ) (s1:iJ F1 F)
  (q:(j3 m gb its ρ).res K E F0 H0 F D):∃W:Nat->Nat->St->Hp->Prop,(∃m,W 0 m σ H)/\∀i m σ H,W i m σ H->
 (J.stop i H/\D.nx σ H)\/(J.go i H/\∃N:St->Hp->Prop,(∀b c,N b c->∃Z,Z<m/\W (i+1) Z b c)/\∀x c,J.yld i H x c->g x σ c λQ H2=>tb {D with nx:=N,ct:=N,bk:=D.nx} Q H2):=by
 refine⟨λi k b c=>i<=its.length/\k=its.length-i/\∃d ρ',iJ F1 d/\Sr K F0 H0 d c b ρ'/\(j3 m gb (its.drop i) ρ').res K E F0 H0 d D,⟨_,bL _,rfl,F,ρ,s1,r,by simpa using q⟩,?_⟩
 rintro i k p I ⟨hi,rfl,L,B,A,w,a⟩
 by_cases h:i<its.length
 .right;refine⟨R i L I (Y _ _ _ _ A w) h,λb c=>∃d ρ',iJ F1 d/\Sr K F0 H0 d c b ρ'/\(j3 m gb (its.drop (i+1)) ρ').res K E F0 H0 d D,λb c z=>⟨its.length-(i+1),by omega,h,rfl,z⟩,λx c y=>?_⟩;have et:=ag h;obtain⟨F3,o,rp⟩:=P i _ L I x c (Y _ _ _ _ A w) et y;rw[dc h]at a;unfold j3 at a;cases S:m its[i] B with
  |none=>rw[S]at a;exact a.elim
  |some ρ3=>
   rw[S]at a;refine hg F0 H0 F3 c p B x _ ρ3 _ (w.grow o) rp S λb r'=>?_;refine hb F0 H0 F3 c b ρ3 _ r' ?_;dsimp only at a;cases j:gb ρ3 with
   |bad=>rw[j]at a;exact a.elim
   |nx ρ4=>rw[j]at a;exact λd U v s l=>⟨d,ρ4,(A.trans o.ff).trans s,l,O.res.go a (o.ff.trans s)⟩
   |ct ρ4=>rw[j]at a;exact λd U v s l=>⟨d,ρ4,(A.trans o.ff).trans s,l,O.res.go a (o.ff.trans s)⟩
   |bk ρ4=>rw[j]at a;exact kN.go a o.ff
   |rt t=>rw[j]at a;exact a
   |rf ts=>rw[j]at a;exact a
   |rn ts us=>rw[j]at a;exact a
   |er C n=>rw[j]at a;exact a
 .left;have e:i=its.length:=by omega
  subst e;refine⟨X L I (Y _ _ _ _ A w),?_⟩;rw[List.drop_length]at a;exact a L I p (.refl _) w
def BF{tb:TS}(n:OI K g m)(k:MS K E tb gb)(a:AE K J its F1)(r:Sr K F0 H0 F H σ ρ)(j:iJ F1 F)
  (q:(j3 m gb its ρ).res K E F0 H0 F D):∃W:Nat->Nat->St->Hp->Prop,(∃m,W 0 m σ H)/\∀i m σ H,W i m σ H->
 (J.stop i H/\D.nx σ H)\/(J.go i H/\∃N:St->Hp->Prop,(∀c b,N c b->∃h,h<m/\W (i+1) h c b)/\∀x b,J.yld i H x b->g x σ b λd l=>tb {D with nx:=N,ct:=N,bk:=D.nx} d l):=
 GE (G:=λF H=>iJ F1 F/\iJ F H) n k (λi F H q o=>a.go i H (q.1.trans q.2) o) (λF H q=>a.stop H (q.1.trans q.2)) (λi t F H x b q e y=>a.yld i t F H x b q.1 q.2 e y) (λ_ _ _ _ s r=>⟨s,r.gr.fh⟩) r j q
@[simp] noncomputable def m8(b:Pe->M a0)(m:T->En->Option En)(g:En->O):En->O:=λρ=>.of (b (mD ρ)) λa=>j3 m g a ρ
def S6{tb:TS}(e:MI K E w fi)(d:OI K g m)(c:MS K E tb gb):MS K E (Kq w g tb) (m8 fi m gb):=λF0 H0 F H σ ρ D r q=>e F H σ (mD ρ) _ r.gr.fh r.vars ((O.res_of q).mono (λh z J j i b a=>BF d c a (r.grow b) (.refl _) (z.go b.ff)) λC n z=>z.go r.gr)
@[simp] noncomputable def qU(b:Pe->M a0)(m:T->En->Option En)(g:En->O):En->O:=λρ=>.of (b (vw ρ)) λa=>j3 m g a ρ
def QF{tb:TS}(k:VH K E w fi)(i:OI K g m)(h:MS K E tb gb):MS K E (Kq w g tb) (qU fi m gb):=λF0 H0 F H σ ρ D r q=>by obtain⟨l,v,g0,V,a⟩:=r.lend;refine k l H σ (vw ρ) _ g0.fh V ((O.res_of q).mono (λo z J s p d b=>?_) λC n z=>z.go g0);obtain⟨j,c,e,_⟩:=a s p d;exact BF i h (b j) (r.grow c) (.refl _) (z.go e)
noncomputable def nc(c:Pe->M Bool)(g:En->O):Nat->En->O
 |0,_=>.bad
 |n+1,ρ=>.of (c (vw ρ)) λb=>if b then (match g ρ with
   |.nx ρ2=>nc c g n ρ2
   |.ct ρ2=>nc c g n ρ2
   |.bk ρ2=>.nx ρ2
   |o=>o) else .nx ρ
def NC{tb:TS}(i:En->Nat)(J:MT K E c fc)(I:MS K E tb gb):MS K E (Gn c tb) (λρ=>nc fc gb (i ρ) ρ):=λF0 H0 F H σ ρ D r q=>by
 refine⟨λn g o=>∃e d,iJ F e/\Sr K F0 H0 e o g d/\(nc fc gb n d).res K E F0 H0 e D,⟨i ρ,F,ρ,.refl _,r,q⟩,?_⟩;rintro n k N ⟨P,m,A,L,p⟩;cases n with
 |zero=>exact p.elim
 |succ n=>
  unfold nc at p;refine J.inS L p λb B x y w a=>?_;cases b with
  |true=>
   rw[aQ rfl]at a ⊢;refine⟨λg o=>∃e d,iJ F e/\Sr K F0 H0 e o g d/\(nc fc gb n d).res K E F0 H0 e D,λg o z=>⟨n,bK n,z⟩,?_⟩;refine I F0 H0 B x k m _ w ?_;cases h:gb m with
   |bad=>rw[h]at a;exact a.elim
   |nx ρ4=>rw[h]at a;exact λe v l s j=>⟨e,ρ4,(A.trans y).trans s,j,O.res.go a s⟩
   |ct ρ4=>rw[h]at a;exact λe v l s j=>⟨e,ρ4,(A.trans y).trans s,j,O.res.go a s⟩
   |bk ρ4=>rw[h]at a;exact a
   |rt t=>rw[h]at a;exact a
   |rf ts=>rw[h]at a;exact a
   |rn ts us=>rw[h]at a;exact a
   |er C n=>rw[h]at a;exact a
  |false=>rw[aR aH]at a ⊢;exact a B x k (.refl _) w
@[simp] noncomputable def qh(ix:List (Option Nat))(ρ:Pe):Pe:=ix.map fun
 |none=>none
 |some j=>(ρ[j]?).getD none
def nX.pull{ρ:Pe}(V:nX K F σ ρ) ix:nX K F (L2.pull ix σ) (qh ix ρ):=λi t e=>by
 unfold qh at e;rw[av]at e;cases q:ix[i]? with
 |none=>rw[q]at e;cases e
 |some w=>
  rw[q]at e;cases w with
  |none=>cases e
  |some j=>
   have c:(ρ[j]?).getD none=some t:=by simpa using e
   cases z:ρ[j]? with
   |none=>rw[z]at c;cases c
   |some y=>rw[z]at c;have:y=some t:=c;rw[this]at z;obtain⟨v,a,b⟩:=V j t z;refine⟨v,?_,b⟩;unfold L2.pull;rw[av,q];simp[a]
@[simp] noncomputable def vG(m:T->Pe->Option Pe)(c:Pe->M Bool)(a:Pe->M T)(ρ:Pe)(t:T):M (Option T):=match m t ρ with
 |none=>.bad
 |some ρ1=>(c ρ1).bind λb=>if b then (a ρ1).bind λx=>.ok (some x) else .ok none
noncomputable def sR(k:T->M (Option T)):List T->M a0
 |[]=>.ok []
 |t::ts=>(k t).bind λo=>(sR k ts).bind λr=>.ok (match o with
  |some x=>x::r
  |none=>r)
def NP:XK:=λ_ _ _=>False
def Tr:MT K E Sd (λ_=>.ok true):=λF H σ ρ Q s V q=>q F H (.refl s)
theorem KZ{ρ:Pe}(hg:MG K g m)(ht:MT K NP tt ft)(he:ME K NP te fe)(V:nX K F1 σ ρ)
  (j:AE K J its F1) (s:iJ F1 H1) (hl:its.length<sizeLine) (q:(sR (vG m ft fe (qh ix ρ)) its).res (kF K F1 H1 Q) (λ_ _=>False)):WV J ix g tt te σ H1 Q:=by
 refine⟨λi k I H=>i<=its.length/\k=its.length-i/\∃F' d,Gr F1 H1 F' H/\iD K F' I d/\d.length<=i/\(sR (vG m ft fe (qh ix ρ)) (its.drop i)).res (λY=>kF K F1 H1 Q (d++Y)) (λ_ _=>False),
  ⟨_,bL _,rfl,F1,[],.refl s,.nil,bL _,by simpa using q⟩,?_⟩
 rintro i k I P ⟨hi,rfl,F2,d,a,A,tl,p⟩;by_cases c:i<its.length
 .right;refine⟨j.go i P (a.ff.trans a.fh) c,by rw[A.length];omega,λx N y=>?_⟩;have et:=ag c;obtain⟨Z,r,rp⟩:=j.yld i _ F2 P x N a.ff a.fh et y;rw[dc c]at p;unfold sR at p;have l:=M.res.unb p;unfold vG at l;cases R:m its[i] (qh ix ρ) with
  |none=>rw[R]at l;exact l.elim
  |some ρ3=>
   rw[R]at l;have h:=a.trans r;have V3:=(V.mono h.ff).pull ix;refine hg Z N _ _ x _ ρ3 _ r.fh (by simp[L2.pull,qh]) V3 rp R λo hl' S=>?_;have q4:=M.res.unb l;refine ht Z N o ρ3 _ r.fh S (q4.mono (λb z X H4 n=>?_) λ_ _ z=>z.elim);cases b with
   |true=>rw[aQ rfl]at z ⊢;have q5:=M.res.unb z;refine he X H4 o ρ3 _ n.fh (S.mono n.ff) (q5.mono (λx' z' v F5 H5 U C=>?_) λ_ _ z=>z.elim);refine⟨its.length-(i+1),by omega,c,rfl,F5,d++[x'],(h.trans n).trans U,(A.mono (r.ff.trans (n.ff.trans U.ff))).append (.cons C .nil),by simp;omega,?_⟩;have B:=M.res.unb z';exact B.mono (λY w=>by rw[b4];exact w) λ_ _ w=>w
   |false=>rw[aR aH]at z ⊢;refine⟨its.length-(i+1),by omega,c,rfl,X,d,h.trans n,A.mono (r.ff.trans n.ff),by omega,?_⟩;exact M.res.unb z
 .left;have e:i=its.length:=by omega
  subst e;rw[List.drop_length]at p;refine⟨j.stop P (a.ff.trans a.fh),λD L=>?_⟩;have l:kF K F1 H1 Q d:=by simpa[sR,M.res] using p
  exact l D I F2 _ (a.trans (.new' a.fh L)) (iO a.hh L) (iO a.fh L) hU A
def Rt(i:MI K E w fi)(h:MG K g m)(e:MT K NP tt ft)(d:ME K NP te fe) :
  MF K E (Kj ix w g tt te) (λρ=>(fi ρ).bind λits=>(if its.length<sizeLine then sR (vG m ft fe (qh ix ρ)) its else .bad).noEr):=λF H σ ρ Q s V q=>by
 refine i F H σ ρ _ s V ((M.res.unb q).mono (λits z J k j a b=>?_) λ_ _ z=>z);split at z
 .rename_i c;exact KZ h e d (V.mono a.ff) b a.fh c (z.noEr.mono (λ_ w=>w.go a) λ_ _ w=>w)
 .exact z.elim
end
end L3
namespace L3
open PySem L2
section
variable {K:W.Frag}{E:XK}{t u ta tb:TE}{f fa fb:Pe->M T}{F0:Fz}{H0 F H F1 H1:Hp}{σ:St}{ρ:En}{D:wY}
noncomputable def uT(K:W.Frag)(F:List T->M T):Sp:=λb H Q E=>∃a F0,iJ F0 H/\iD K F0 b a/\(F a).res (kV K F0 H Q) (kE E F0 H)
noncomputable def DB(K:W.Frag)(F:List T->M a0):Sp:=λb H Q E=>∃a F0,iJ F0 H/\iD K F0 b a/\(F a).res (kF K F0 H Q) (kE E F0 H)
@[simp] noncomputable def gS(fa:Pe->M a0)(F:List T->M T):Pe->M T:=λρ=>(fa ρ).bind λa=>(F a).noEr
@[simp] noncomputable def js(fa:Pe->M a0)(F:List T->M a0):Pe->M a0:=λρ=>(fa ρ).bind λa=>(F a).noEr
section
variable {tr:TA}{fr:Pe->M a0}{Fn:List T->M T}{Ff:List T->M a0}{E':XK}
def MV(b:MA K E tr fr):ME K E (uA (uT K Fn) [] E' tr) (gS fr Fn):=λF H σ ρ Q s V q=>by refine b.run s V q λe g F1 H1 a d c=>?_;exact⟨e,F1,a.fh,by rw[bM];exact d,(c.mono (λ_ z=>kV.go z a) λ_ _ z=>z).noEr⟩
def Ln(b:MA K E tr fr):MF K E (uA (DB K Ff) [] E' tr) (js fr Ff):=λF H σ ρ Q s V q=>by refine b.run s V q λe g F1 H1 a d c=>?_;exact⟨e,F1,a.fh,by rw[bM];exact d,(c.mono (λ_ z=>kF.go z a) λ_ _ z=>z).noEr⟩
@[simp] noncomputable def wX(C:Addr)(m:Str)(x:T):M Unit:=match x with
 |.obj C' fs=>if C'=C/\fs.lookup m=none then .ok () else .bad
 |_=>.bad
@[simp] noncomputable def sV(C:Addr)(m:Str)(a:Pe->M T)(fr:Pe->M a0)(F:List T->M T):Pe->M T:=λρ=>(a ρ).bind λx=>(wX C m x).bind λ_=>(fr ρ).bind λb=>(F (x::b)).noEr
@[simp] noncomputable def uM(C:Addr)(m:Str)(a:Pe->M T)(fr:Pe->M a0)(F:List T->M a0):Pe->M a0:=λρ=>(a ρ).bind λx=>(wX C m x).bind λ_=>(fr ρ).bind λb=>(F (x::b)).noEr
def HF(r:lF K F v x)(e:wX C m x=.ok ()):∃a dx fs,v=.ref a/\F a=some (.ins C dx fs)/\fs.lookup m=none:=by
 cases r with
 |obj h rs=>
  rename_i a c dx fs b;have e:(if c=C/\List.lookup m b=none then M.ok () else M.bad)=.ok ():=e;by_cases d:c=C/\List.lookup m b=none
  .obtain⟨rfl,g⟩:=d;exact⟨a,dx,fs,rfl,h,rs.none_ g⟩
  .rw[aR d]at e;cases e
 |_=>cases e
def Ii:wX C m x≠.er C' n:=by
 unfold wX;split
 .split<;>exact λz=>nomatch z
 .exact λz=>nomatch z
def Kh(o:ME K E ta fa)(hr:MA K E tr fr):ME K E (BJ C m (uT K Fn) [] E' ta tr) (sV C m fa fr Fn):=λF H σ ρ Q s V q=>by
 refine o.run s V q λx v F1 H1 c g b=>?_;cases e:wX C m x with
 |bad=>rw[e]at b;exact b.elim
 |er C n=>exact absurd e Ii
 |ok u=>rw[e]at b;obtain⟨a,j,fs,rfl,h,k⟩:=HF g e;refine⟨a,j,fs,rfl,c.fh _ _ h,k,?_⟩;refine hr.run c.fh (V.mono c.ff) b λi y p w d r l=>?_;exact⟨x::i,p,d.fh,by rw[bM];exact .cons (g.mono d.ff) r,(l.mono (λ_ z=>kV.go z (c.trans d)) λ_ _ z=>z).noEr⟩
def Kw(o:ME K E ta fa)(hr:MA K E tr fr):MF K E (BJ C m (DB K Ff) [] E' ta tr) (uM C m fa fr Ff):=λF H σ ρ Q s V q=>by
 refine o.run s V q λx v F1 H1 c g b=>?_;cases e:wX C m x with
 |bad=>rw[e]at b;exact b.elim
 |er C n=>exact absurd e Ii
 |ok u=>rw[e]at b;obtain⟨a,j,fs,rfl,h,k⟩:=HF g e;refine⟨a,j,fs,rfl,c.fh _ _ h,k,?_⟩;refine hr.run c.fh (V.mono c.ff) b λi y p w d r l=>?_;exact⟨x::i,p,d.fh,by rw[bM];exact .cons (g.mono d.ff) r,(l.mono (λ_ z=>kF.go z (c.trans d)) λ_ _ z=>z).noEr⟩
end
@[simp] noncomputable def Wl:O->M T
 |.nx _=>.ok .non
 |.rt t=>.ok t
 |.rf ts=>.ok (.lst ts)
 |.rn ts us=>.ok (.tup (ts++[.lst us]))
 |.er C n=>.er C n
 |_=>.bad
@[simp] noncomputable def Wy:O->M a0
 |.rf ts=>.ok ts
 |.er C n=>.er C n
 |_=>.bad
@[simp] noncomputable def i9(n:Nat)(ts:List T):En:=ts.map (λt=>some (W.p t))++List.replicate (n-ts.length) none
@[simp] noncomputable def lG(k n:Nat)(g:En->O):List T->M T:=λa=>if a.length=k then Wl (g (i9 n a)) else .bad
@[simp] noncomputable def v5(k n:Nat)(g:En->O):List T->M a0:=λa=>if a.length=k then Wy (g (i9 n a)) else .bad
def AZ{n i:Nat}(e:(i9 n ts)[i]? = some (some (.d kvs))):False:=by
 unfold i9 at e;rw[List.getElem?_append]at e;split at e
 .rw[av]at e;cases q:ts[i]? with
  |none=>rw[q]at e;cases e
  |some x=>rw[q]at e;cases e
 .rw[List.getElem?_replicate]at e;split at e<;>cases e
def DP(s:iJ F H)(r:iD K F vs ts):Sr K ⟨F,[]⟩ H F H (oM N vs) (i9 N.length ts):=by
 refine⟨.refl s,?_,λi t e=>?_,⟨λ_=>0,λi k e=>?_,λi j k m e=>?_⟩,λ_ g=>(nomatch g),λ_ _ _ h=>(by cases h),⟨λi c e=>(AZ e).elim,λi j c d e=>(AZ e).elim⟩⟩
 .simp[L2.oM,i9,r.length]
 .unfold i9 at e;rw[List.getElem?_append]at e;split at e
  .rename_i l;rw[av]at e;cases q:ts[i]? with
   |none=>rw[q]at e;cases e
   |some x=>rw[q]at e;cases e;obtain⟨v,a,b⟩:=r.get q;refine⟨v,?_,b⟩;unfold L2.oM;rw[List.getElem?_append_left (by simpa[r.length] using l),av,a];rfl
  .rw[List.getElem?_replicate]at e;split at e<;>cases e
 .exfalso;unfold i9 at e;rw[List.getElem?_append]at e;split at e
  .rw[av]at e;cases q:ts[i]? with
   |none=>rw[q]at e;cases e
   |some x=>rw[q]at e;cases e
  .rw[List.getElem?_replicate]at e;split at e<;>cases e
 .exfalso;unfold i9 at e;rw[List.getElem?_append]at e;split at e
  .rw[av]at e;cases q:ts[i]? with
   |none=>rw[q]at e;cases e
   |some x=>rw[q]at e;cases e
  .rw[List.getElem?_replicate]at e;split at e<;>cases e
def GS(h:uT K (lG k n g) vs H Q E):vs.length=k:=by
 obtain⟨b,F0,s,r,q⟩:=h;unfold lG at q;by_cases a:b.length=k
 .rw[r.length];exact a
 .rw[aR a]at q;exact q.elim
def Cf{t:TS}(i:MS K E t g)(h:uT K (lG k N.length g) vs H Q E):t {nx:=λ_ b=>Q .non b,rt:=Q} (oM N vs) H:=by
 obtain⟨a,F0,s,r,q⟩:=h;unfold lG at q;by_cases c:a.length=k
 .rw[aQ c]at q;refine i ⟨F0,[]⟩ H F0 H _ _ _ (DP s r) ?_;cases e:g (i9 N.length a) with
  |bad=>rw[e]at q;exact q
  |nx ρ=>rw[e]at q;exact λj b d _ l=>q .non j b l.gr .non
  |rt t=>rw[e]at q;exact q
  |rf a=>rw[e]at q;exact kF.of q
  |rn a us=>rw[e]at q;exact kT.of q
  |bk ρ=>rw[e]at q;exact q.elim
  |ct ρ=>rw[e]at q;exact q.elim
  |er C n=>rw[e]at q;exact q
 .rw[aR c]at q;exact q.elim
def Ij(h:DB K (v5 k n g) vs H Q E):vs.length=k:=by
 obtain⟨b,F0,s,r,q⟩:=h;unfold v5 at q;by_cases a:b.length=k
 .rw[r.length];exact a
 .rw[aR a]at q;exact q.elim
def EL{t:TS}(c:MS K E t g)(h:DB K (v5 k N.length g) vs H Q E):t {nx:=λ_ d=>Q .non d,rt:=Q} (oM N vs) H:=by
 obtain⟨a,F0,s,r,q⟩:=h;unfold v5 at q;by_cases b:a.length=k
 .rw[aQ b]at q;refine c ⟨F0,[]⟩ H F0 H _ _ _ (DP s r) ?_;cases e:g (i9 N.length a) with
  |bad=>rw[e]at q;exact q
  |nx ρ=>rw[e]at q;exact q.elim
  |rt t=>rw[e]at q;exact q.elim
  |rf a=>rw[e]at q;exact q
  |rn a us=>rw[e]at q;exact q.elim
  |bk ρ=>rw[e]at q;exact q.elim
  |ct ρ=>rw[e]at q;exact q.elim
  |er C n=>rw[e]at q;exact q
 .rw[aR b]at q;exact q.elim
@[simp] noncomputable def Fg(C:Addr)(x:Str)(fa:Pe->M T):Pe->M T:=λρ=>(fa ρ).bind λo=>match o with
 |.obj C' fs=>if C'=C then (match fs.lookup x with
  |some t=>.ok t
  |none=>.bad) else .bad
 |_=>.bad
def RS(m:Bm K C)(i:nR K C x)(j:ME K E ta fa):ME K E (Uc K ta x) (Fg C x fa):=λF H σ ρ Q s V q=>by
 refine j.run s V q λo v F1 H1 d p b=>?_;cases p with
 |obj h rs=>
  rename_i a c k fs l;dsimp only at b;by_cases g:c=C
  .subst g;rw[aQ rfl]at b;cases e:List.lookup x l with
   |none=>rw[e]at b;exact b.elim
   |some y=>rw[e]at b;obtain⟨w,n,r⟩:=rs.look e;exact⟨a,c,k,fs,w,rfl,d.fh _ _ h,m,i,n,b w F1 H1 d r⟩
  .rw[aR g]at b;exact b.elim
 |_=>exact b.elim
end
end L3
namespace L3
open PySem L2 PySem.Spec PyProof.Rows
structure Pm(K:W.Frag)(E:XK)(X:Cx)(e:Expr)(t:TE)(f:Pe->M T):Prop where
 pe:PE X e t
 me:ME K E t f
structure Hj(K:W.Frag)(E:XK)(X:Cx)(e:Expr)(t:TE)(f:Pe->M a0):Prop where
 pe:PE X e t
 mf:MF K E t f
structure Df(K:W.Frag)(E:XK)(X:Cx)(e:Expr)(t:TT)(f:Pe->M Bool):Prop where
 pt:PT X e t
 mt:MT K E t f
structure SS(K:W.Frag)(E:XK)(X:Cx)(e:Expr)(t:TT)(f:Pe->M Bool):Prop where
 pw:PW X e t
 mt:MT K E t f
structure Dr(K:W.Frag)(E:XK)(X:Cx)(es:List Expr)(t:TA)(f:Pe->M a0):Prop where
 pa:PA X es t
 ma:MA K E t f
structure NQ(K:W.Frag)(E:XK)(X:Cx)(tg it:Expr)(w:TI)(f:Pe->M a0):Prop where
 pi:PI X tg it w
 mi:MI K E w f
structure zH(K:W.Frag)(E:XK)(X:Cx)(tg it:Expr)(w:TI)(f:Pe->M a0):Prop where
 pi:PI X tg it w
 mi:VH K E w f
structure Uw(K:W.Frag)(X:Cx)(tg:Expr)(g:TG)(m:T->Pe->Option Pe):Prop where
 pg:PG X tg g
 mg:MG K g m
structure QQ(K:W.Frag)(X:Cx)(tg:List Expr)(g:NM)(m:List T->Pe->Option Pe):Prop where
 pg:Uz X tg g
 mg:Vi K g m
structure Us(K:W.Frag)(X:Cx)(tg:Expr)(g:TG)(m:T->En->Option En):Prop where
 pg:PG X tg g
 mg:OI K g m
structure Pg(K:W.Frag)(X:Cx)(tg:List Expr)(g:NM)(m:List T->En->Option En):Prop where
 pg:Uz X tg g
 mg:Mw K g m
structure vW(K:W.Frag)(E:XK)(X:Cx)(st:Stmt)(t:TS)(g:En->O):Prop where
 ps:PS X st t
 ms:MS K E t g
structure r9(K:W.Frag)(E:XK)(X:Cx)(sts:List Stmt)(t:TS)(g:En->O):Prop where
 ps:Ek X sts t
 ms:MS K E t g
noncomputable def MO(K:W.Frag)(E:XK)(t:TO)(f:Pe->M (Option Int)):Prop:=∀F H c a Q,iJ F H->nX K F c a->(f a).res (λo=>∀d b,Gr F H d b->Q o b) (kE E F H)->t c H Q
structure VU(K:W.Frag)(E:XK)(X:Cx)(e:Option Expr)(t:TO)(f:Pe->M (Option Int)):Prop where
 po:PO X e t
 mo:MO K E t f
structure Mv(K:W.Frag)(E:XK)(X:Cx)(es:List Expr)(t:TT)(f:Pe->M Bool):Prop where
 pf:Jc X es t
 mt:MT K E t f
section
variable {K:W.Frag}{E:XK}{X:Cx}{a b c e o:Expr}{es:List Expr}{ta tb tc te to:TE}{fa fb fc fe fo:Pe->M T}{tr:TA}{fr:Pe->M a0}{pos p p2 apos:Pos}
def gO i (f:X.N[i]? = some x:=by rfl) (hv:VJ X.env.scope x:=by first|exact Or.inl rfl|exact Or.inr (Or.inl rfl)|exact Or.inr (Or.inr rfl)) (g:(x==("__debug__" : Str))=false:=by decide)
  (d:(x==("__classdict__" : Str))=false:=by decide):Pm K E X (.Name x pos) (nM i) (gG i):=⟨pv i f hv g d,RZ⟩
def iH{j pos}:Pm K E X (.Constant (.int i) j pos) (tC (.int i)) (cM (.int i)):=⟨Gx,L9 λ_=>.int i⟩
def Lr{b:Bool}{j pos}:Pm K E X (.Constant (.bool b) j pos) (tC (.bl b)) (cM (.bl b)):=⟨Q3,L9 λ_=>.bl b⟩
noncomputable abbrev bw:=cM .non
def mm{j pos}:Pm K E X (.Constant .none j pos) (tC .non) bw:=⟨T5,L9 λ_=>.non⟩
def Mn{j pos}:Pm K E X (.Constant (.str x) j pos) (tC (.str x)) (cM (.str x)):=⟨Tc,L9 λ_=>.str x⟩
def E7 i (f:∃t,X.mg x=some (.int i t)) (d:Gl X x:=by rfl) (g:(x==("__debug__" : Str))=false:=by decide):Pm K E X (.Name x pos) (tC (.int i)) (cM (.int i)):=let ⟨t,h⟩:=f;⟨OA d h ⟨t,rfl⟩ g,L9 λ_=>.int i⟩
def jq(h:Hj K E X e te f):Pm K E X e te (λρ=>(f ρ).bind λts=>.ok (.lst ts)):=⟨h.pe,h.mf.me⟩
def yI(g:rO X (binaryOp op) r)(hr:MR K r m)(f:Pm K E X a ta fa)(d:Pm K E X b tb fb):Pm K E X (.BinOp a op b pos) (wL r ta tb) (gR m fa fb):=⟨MJ g f.pe d.pe,Iz hr f.me d.me⟩
def Mh(K:W.Frag):R2:=λx y H Q=>(Fs λi j=>.int (i+j)) x y H Q\/(∃i j,x=.str i/\y=.str j/\i.length+j.length<=sizeLine/\Q (.str (i++j)) H)\/Sz x y H Q\/
 ∃a b d f,x=.ref a/\y=.ref b/\H a=some (.tup d)/\H b=some (.tup f)/\d.length+f.length<=sizeLine/\(d=[]->Q (.ref b) H)/\(d≠[]->f=[]->Q (.ref a) H)/\(d≠[]->f≠[]->∀p,H p=none->Q (.ref p) (jR H p (.tup (d++f))))
def Of(U:X.K=K:=by rfl):rO X (binaryOp .Add) (Mh K):=by
 subst U;intro j s g H x y v u Q I f d h;rcases h with h|h|h|h
 .exact S5 j s g H x y v u Q I f d h
 .exact FX j s g H x y v u Q I f d h
 .exact Kn j s g H x y v u Q I f d h
 .obtain⟨a,b,r,L,rfl,rfl,m,n,hz,A,P,q3⟩:=h;by_cases i:r=[]
  .subst i;cases f;cases d;obtain⟨Y,N,p1,_⟩:=I.tuple (oK.of m);obtain⟨z,r2,p2,_⟩:=I.tuple (oK.of n);cases N;obtain⟨⟨c1,D,e1,B⟩,q,C,S,k⟩:=id p1;obtain⟨⟨c2,R,e2,Z⟩,w,J,n2,l⟩:=id p2;subst C k J l;exact concat_meets ⟨_,q,rfl⟩ ⟨_,w,rfl⟩ noFill_tuple_add seq_tuple_add PySem.F.slot_tuple_add PySem.F.entry_tuple_add (PySem.F.args_tuple_add_2 _ _) (tuple_addW0 a b _ _ S n2 D R B Z (by simp)) ⟨q,w,⟨.ref b,H,I,rfl,A rfl⟩⟩
  .exact Om j s g H _ _ v u Q I f d ⟨a,b,r,L,rfl,rfl,oK.of m,oK.of n,i,hz,λe=>P i e,λe p hp=>q3 i e p hp⟩
noncomputable def jI:T->T->M T
 |.int i,.int j=>.ok (.int (i+j))
 |.str i,.str j=>if i.length+j.length<=sizeLine then .ok (.str (i++j)) else .bad
 |.lst a,.lst b=>if a.length+b.length<=sizeLine then .ok (.lst (a++b)) else .bad
 |.tup a,.tup b=>if a.length+b.length<=sizeLine then .ok (.tup (a++b)) else .bad
 |_,_=>.bad
def OP x y:M.NoE (jI x y):=λC n=>by unfold jI;split<;>first|(intro z;cases z;done)|(split<;>intro z<;>cases z)
def Py:MR K (Mh K) jI:=⟨OP,λF H v w x y Q s n rb q=>by
 cases n with
 |int i=>
  cases rb with
  |int j=>exact .inl ⟨i,j,rfl,rfl,kV.now q s (.int _)⟩
  |_=>exact q.elim
 |str i=>
  cases rb with
  |str j=>
   have d:(if i.length+j.length<=sizeLine then M.ok (T.str (i++j)) else M.bad).res (kV K F H Q) (λ_ _=>False):=q;by_cases h:i.length+j.length<=sizeLine
   .rw[aQ h]at d;exact .inr (.inl ⟨i,j,rfl,rfl,h,kV.now d s (.str _)⟩)
   .rw[aR h]at d;exact d.elim
  |_=>exact q.elim
 |lst h1 r1=>
  cases rb with
  |lst h2 r2=>
   rename_i a m f b l g;have d:(if f.length+g.length<=sizeLine then M.ok (T.lst (f++g)) else M.bad).res (kV K F H Q) (λ_ _=>False):=q;by_cases h:f.length+g.length<=sizeLine
   .rw[aQ h]at d;refine .inr (.inr (.inl ⟨a,b,m,l,rfl,rfl,s _ _ h1,s _ _ h2,by rw[r1.length,r2.length];exact h,λp k=>?_⟩));exact d (.ref p) _ _ (.new s k) (.lst hU ((r1.append r2).mono (Gr.new s k).ff))
   .rw[aR h]at d;exact d.elim
  |_=>exact q.elim
 |tup h1 r1=>
  cases rb with
  |tup h2 r2=>
   rename_i a m f b l g;have d:(if f.length+g.length<=sizeLine then M.ok (T.tup (f++g)) else M.bad).res (kV K F H Q) (λ_ _=>False):=q;by_cases h:f.length+g.length<=sizeLine
   .rw[aQ h]at d;refine .inr (.inr (.inr ⟨a,b,m,l,rfl,rfl,s _ _ h1,s _ _ h2,by rw[r1.length,r2.length];exact h,λe=>?_,λ_ e=>?_,λ_ _ p k=>?_⟩))
    .subst e;cases r1;exact kV.now d s (.tup h2 r2)
    .subst e;cases r2;exact kV.now d s (.tup h1 (by rw[bM];exact r1))
    .exact d (.ref p) _ _ (.new s k) (.tup hU ((r1.append r2).mono (Gr.new s k).ff))
   .rw[aR h]at d;exact d.elim
  |_=>exact q.elim
 |_=>exact q.elim⟩
def qE(f:Pm K E X a ta fa)(g:Pm K E X b tb fb)(d:X.K=K:=by rfl):Pm K E X (.BinOp a .Add b pos) (wL (Mh K) ta tb) (gR jI fa fb):=yI (Of d) Py f g
@[simp] noncomputable def JE(fa fb:Pe->M T):Pe->M a0:=λd=>(fa d).bind λx=>(fb d).bind λy=>match x,y with
 |.lst a,.lst b=>if a.length+b.length<=sizeLine then .ok (a++b) else .bad
 |_,_=>.bad
def Nr(n:Pm K E X a ta fa)(r:Pm K E X b tb fb):Hj K E X (.BinOp a .Add b pos) (wL Sz ta tb) (JE fa fb):=by
 refine⟨MJ Kn n.pe r.pe,λF H L N Q s V q=>?_⟩;refine n.me.run s V q λx v J P k C z=>?_;refine r.me.run k.fh (V.mono k.ff) z λy w u A d I j=>?_;cases C with
 |lst h1 t1=>
  cases I with
  |lst h2 t2=>
   rename_i a D i b B l;have g:(if i.length+l.length<=sizeLine then M.ok (i++l) else M.bad).res (kF K F H Q) (kE E u A):=j;by_cases h:i.length+l.length<=sizeLine
   .rw[aQ h]at g;refine⟨a,b,D,B,rfl,rfl,d.fh _ _ (d.ff _ _ h1),d.fh _ _ h2,by rw[t1.length,t2.length];exact h,λp m=>?_⟩;have f:=k.trans d;exact g p _ u _ (f.trans (.new' d.fh m)) (iO f.hh m) (iO d.fh m) hU ((t1.mono d.ff).append t2)
   .rw[aR h]at g;exact g.elim
  |_=>exact j.elim
 |_=>exact j.elim
noncomputable def uS:T->T->M T:=my (λ_ _=>true) λi j=>.int (i-j)
def Fy(d:Pm K E X a ta fa)(f:Pm K E X b tb fb):Pm K E X (.BinOp a .Sub b pos) (wL (Fs λi j=>.int (i-j)) ta tb) (gR uS fa fb):=yI SI (uY λ_ _ _=>.int _) d f
instance {i j:Int}:Decidable (PySem.IntMulOk i j):=inferInstanceAs (Decidable (¬_))
noncomputable def jF:T->T->M T:=my (λi j=>decide (PySem.IntMulOk i j)) λi j=>.int (i*j)
def NK(d:Pm K E X a ta fa)(f:Pm K E X b tb fb):Pm K E X (.BinOp a .Mult b pos) (wL (rI (λi j=>PySem.IntMulOk i j) λi j=>.int (i*j)) ta tb) (gR jF fa fb):=yI OO (C7 (λi j h=>of_decide_eq_true h) λ_ _ _=>.int _) d f
noncomputable def n0:T->T->M T:=my (λi j=>decide (j≠0)&&!Builtin.divisionGoesByPylong i j) λi j=>.int (i.fdiv j)
def Hg(d:Pm K E X a ta fa)(f:Pm K E X b tb fb):Pm K E X (.BinOp a .FloorDiv b pos) (wL (rI (λi j=>j≠0/\Builtin.divisionGoesByPylong i j=false) λi j=>.int (i.fdiv j)) ta tb) (gR n0 fa fb):=yI KN (C7 (λi j h=>by simpa using h) λ_ _ _=>.int _) d f
noncomputable def w6:T->T->M T:=my (λ_ j=>decide (j≠0)) λi j=>.int (i.fmod j)
def Tx(d:Pm K E X a ta fa)(f:Pm K E X b tb fb):Pm K E X (.BinOp a .Mod b pos) (wL (rI (λ_ j=>j≠0) λi j=>.int (i.fmod j)) ta tb) (gR w6 fa fb):=yI Pu (C7 (λi j h=>by simpa using h) λ_ _ _=>.int _) d f
noncomputable def wF:T->T->M T:=my (λi j=>decide (0<=j)&&decide (j<=1000000)&&decide (i.natAbs<18446744073709551616)) λi j=>.int (i ^ j.toNat)
def C3(d:Pm K E X a ta fa)(f:Pm K E X b tb fb):Pm K E X (.BinOp a .Pow b pos) (wL (rI VA λi j=>.int (i ^ j.toNat)) ta tb) (gR wF fa fb):=yI Ui (C7 (λi j h=>by simp only[bU,decide_eq_true_eq]at h;exact⟨h.1.1,h.1.2,h.2⟩) λ_ _ _=>.int _) d f
def G8(d:Pm K E X a ta fa):Pm K E X (.UnaryOp .USub a pos) (WE (rU λi=>.int (-i)) ta) (qw (λi=>.int (-i)) fa):=⟨Vu T1 d.pe,U9 (λ_ _=>.int _) d.me⟩
@[simp] noncomputable def xm(fa fb:Pe->M T):Pe->M a0:=λd=>(fa d).bind λx=>(fb d).bind λy=>match x,y with
 |.lst a,.int k=>if Fu k=true/\a.length*k.toNat<=sizeLine then .ok (List.replicate k.toNat a).flatten else .bad
 |_,_=>.bad
def FY(n:Pm K E X a ta fa)(r:Pm K E X b tb fb):Hj K E X (.BinOp a .Mult b pos) (wL Vn ta tb) (xm fa fb):=by
 refine⟨MJ RH n.pe r.pe,λF H J L Q s V q=>?_⟩;refine n.me.run s V q λx v I N l B z=>?_;refine r.me.run l.fh (V.mono l.ff) z λy w u A d D j=>?_;cases B with
 |lst h1 t1=>
  cases D with
  |int k=>
   rename_i a C i;have g:(if Fu k=true/\i.length*k.toNat<=sizeLine then M.ok (List.replicate k.toNat i).flatten else M.bad).res (kF K F H Q) (kE E u A):=j;by_cases h:Fu k=true/\i.length*k.toNat<=sizeLine
   .rw[aQ h]at g;refine⟨a,k,C,rfl,rfl,d.fh _ _ (d.ff _ _ h1),by have:=tM h.1;rw[UX]at this;rw[V7];omega,by have:=tM h.1;rw[UX]at this;rw[V7];omega,by rw[t1.length];exact h.2,λp m=>?_⟩;have f:=l.trans d;exact g p _ u _ (f.trans (.new' d.fh m)) (iO f.hh m) (iO d.fh m) hU ((t1.mono d.ff).rep k.toNat)
   .rw[aR h]at g;exact g.elim
  |_=>exact j.elim
 |_=>exact j.elim
def qm(h:Pm K E X e te fe)(f:∀d,isTrue e X.env d=(do let v <-d;standAt e.pos;holding [v] (truthy v)):=by intro _;rfl):Df K E X e (tB te) (iR fe):=⟨SU h.pe f,PB h.me⟩
section
variable {tA tD:TT}{fA fD:Pe->M Bool}{rq:List Expr}
def pq(h:Df K E X a tA fA):Df K E X (.UnaryOp .Not a pos) (TL tA) (oj fA):=⟨S0 h.pt,RV h.mt⟩
def qN(h:SS K E X a tA fA):Df K E X a tA fA:=⟨PW.pt h.pw,h.mt⟩
def mH(h:Df K E X a tA fA):SS K E X (.BoolOp .And [a] pos) tA fA:=⟨PV h.pt,h.mt⟩
def nT(h:Df K E X a tA fA):SS K E X (.BoolOp .Or [a] pos) tA fA:=⟨RO h.pt,h.mt⟩
def nu(h:Df K E X a tA fA)(d:SS K E X (.BoolOp .And (b::rq) pos) tD fD):SS K E X (.BoolOp .And (a::b::rq) pos) (Sx tA tD) (mZ fA fD):=⟨SF h.pt d.pw,To h.mt d.mt⟩
def pT(h:Df K E X a tA fA)(d:SS K E X (.BoolOp .Or (b::rq) pos) tD fD):SS K E X (.BoolOp .Or (a::b::rq) pos) (WB tA tD) (wc fA fD):=⟨Vp h.pt d.pw,UL h.mt d.mt⟩
def zc{op}(h:Pm K E X a ta fa):Pm K E X (.BoolOp op [a] pos) ta fa:=⟨RW h.pe,h.me⟩
def yN(h:Pm K E X a ta fa)(d:Pm K E X (.BoolOp .And (b::rq) pos) tb fb):Pm K E X (.BoolOp .And (a::b::rq) pos) (LZ ta tb) (Mp fa fb):=⟨SZ h.pe d.pe,Qv h.me d.me⟩
def Ab(h:Pm K E X a ta fa):Pm K E X (.UnaryOp .Not a pos) (Lj ta) (Ds fa):=⟨R1 h.pe,OQ h.me⟩
def QT(h:Df K E X c tA fA)(d:Pm K E X a ta fa)(f:Pm K E X b tb fb):Pm K E X (.IfExp c a b pos) (Wr tA ta tb) (NT fA fa fb):=⟨Nu h.pt d.pe f.pe,U6 h.mt d.me f.me⟩
end
def wK(h:rO X (compareOp op) r)(hr:MR K r m)(d:Pm K E X a ta fa)(f:Pm K E X b tb fb)(g:behindInMarks op b=false:=by exact wm _):Pm K E X (.Compare a [op] [b] pos) (wL r ta tb) (gR m fa fb):=⟨NZ h d.pe f.pe g,Iz hr d.me f.me⟩
def iL(h:rO X (compareOp op) r)(hr:MR K r m)(d:Pm K E X a ta fa)(f:Pm K E X b tb fb)(g:behindInMarks op b=false:=by exact wm _):Df K E X (.Compare a [op] [b] pos) (A1 (wL r ta tb)) (iR (gR m fa fb)):=⟨Oz h d.pe f.pe g,Px (Iz hr d.me f.me)⟩
noncomputable def Dq:T->T->M T:=my (λ_ _=>true) λi j=>.bl (decide (i<j))
noncomputable def M8:T->T->M T:=my (λ_ _=>true) λi j=>.bl (decide (i<=j))
noncomputable def FM:T->T->M T:=my (λ_ _=>true) λi j=>.bl (decide (j<i))
noncomputable def Rn:T->T->M T:=my (λ_ _=>true) λi j=>.bl (decide (j<=i))
def sD:MR K (Fs λi j=>.bl (decide (i<j))) Dq:=uY λ_ _ _=>.bl _
def zh:MR K (Fs λi j=>.bl (decide (i<=j))) M8:=uY λ_ _ _=>.bl _
def yB:MR K (Fs λi j=>.bl (decide (j<i))) FM:=uY λ_ _ _=>.bl _
def El:MR K (Fs λi j=>.bl (decide (j<=i))) Rn:=uY λ_ _ _=>.bl _
@[simp] noncomputable def We(m f:T->T->M T)(fa fb fc:Pe->M T):Pe->M T:=λd=>(fa d).bind λx=>(fb d).bind λy=>(m x y).bind λz=>match z with
 |.bl true=>(fc d).bind λw=>f y w
 |.bl false=>.ok (.bl false)
 |_=>.bad
def LC(hr:MR K r m)(f:MR K r' m')(B:ME K E ta fa)(L:ME K E tb fb)(Y:ME K E tc fc):ME K E (FC r r' ta tb tc) (We m m' fa fb fc):=λF H σ ρ Q s V q=>by
 refine B.run s V q λx v F1 H1 j P C=>?_;refine L.run j.fh (V.mono j.ff) C λy w F2 N l A S=>?_;refine hr.ok F2 N v w x y _ l.fh (P.mono l.ff) A (((M.res.unb S).ne (hr.ne x y)).mono (λz i v3 F3 Z g U=>?_) λ_ _ z=>z);have d:=(j.trans l).trans g;cases U with
 |bl k=>
  refine⟨k,rfl,?_⟩;cases k with
  |true=>rw[aQ rfl];have h:=i.mono (λ_ z=>z) λ_ _ z=>z.go g;refine Y.run g.fh (V.mono d.ff) h λu D R I n r4 J=>?_;exact f.ok R I w D y u Q n.fh (A.mono (g.ff.trans n.ff)) r4 ((J.ne (f.ne y u)).mono (λ_ z=>z.go (d.trans n)) λ_ _ z=>z)
  |false=>rw[aR aH];exact i _ F3 Z d (.bl _)
 |_=>exact i.elim
def EN(k:rO X (compareOp op) r)(hr:MR K r m)(d:rO X (compareOp op') r')(f:MR K r' m')(g:Pm K E X a ta fa)(h:Pm K E X b tb fb)(i:Pm K E X c tc fc)
  (j:lastMarks [op,op'] [b,c]=false:=by with_unfolding_all rfl):Pm K E X (.Compare a [op,op'] [b,c] pos) (FC r r' ta tb tc) (We m m' fa fb fc):=⟨KD k d g.pe h.pe i.pe j,LC hr f g.me h.me i.me⟩
mutual
noncomputable def qG:T->Bool
 |.str x=>PyData.canLay0 (.str x)
 |.lst ts=>uf ts
 |.tup ts=>uf ts
 |.scr _=>false
 |.obj _ _=>false
 |.emp=>false
 |.dic _=>false
 |_=>true
noncomputable def uf:List T->Bool
 |[]=>true
 |t::ts=>qG t&&uf ts
end
mutual
def Eg:T->PyData
 |.non=>.none
 |.bl b=>.bool b
 |.int i=>.int i
 |.str x=>.str x
 |.lst ts=>.list (xR ts)
 |.tup ts=>.tuple (xR ts)
 |.scr _=>.none
 |.obj _ _=>.none
 |.emp=>.none
 |.dic _=>.none
def xR:List T->List PyData
 |[]=>[]
 |t::ts=>Eg t::xR ts
end
mutual
theorem KJ{F:Hp}:∀{v:V} {t:T},lF K F v t->qG t=true->DV K F v (Eg t)
 |_,_,.non,_=>.non
 |_,_,.bl b,_=>.bl b
 |_,_,.int i,_=>.int i
 |_,_,.str x,_=>.str x
 |_,_,.lst h r,l=>.lst (mz.of h) (GY r (by simpa[qG] using l))
 |_,_,.tup h r,l=>.tup (oK.of h) (GY r (by simpa[qG] using l))
 |_,_,.scr _,l=>by simp[qG]at l
 |_,_,.obj _ _,l=>by simp[qG]at l
 |_,_,.emp _,l=>by simp[qG]at l
 |_,_,.dic _ _,l=>by simp[qG]at l
theorem GY{F:Hp}:∀{vs:List V} {ts:List T},iD K F vs ts->uf ts=true->DM K F vs (xR ts)
 |_,_,.nil,_=>.nil
 |_,_,.cons h r,l=>by rw[uf,bU]at l;exact .cons (KJ h l.1) (GY r l.2)
end
mutual
theorem Dc:∀t,qG t=true->(Eg t).canLay0=true
 |.non,_=>rfl
 |.bl b,_=>rfl
 |.int i,_=>rfl
 |.str x,h=>by simpa[qG,Eg] using h
 |.lst ts,h=>by rw[Eg,PyData.canLay0];exact zA ts (by simpa[qG] using h)
 |.tup ts,h=>by rw[Eg,PyData.canLay0];exact zA ts (by simpa[qG] using h)
 |.scr _,h=>by simp[qG]at h
 |.obj _ _,h=>by simp[qG]at h
 |.emp,h=>by simp[qG]at h
 |.dic _,h=>by simp[qG]at h
theorem zA:∀ts,uf ts=true->PyData.canLayAll0 (xR ts)=true
 |[],_=>rfl
 |t::ts,h=>by rw[uf,bU]at h;rw[xR,PyData.canLayAll0,Dc t h.1,zA ts h.2];rfl
end
noncomputable def Ey(x y:T):Bool:=(Eg x).eqv (Eg y)
noncomputable def zp(xs a:List T):Bool:=PyData.eqvAll (xR xs) (xR a)
noncomputable def Fh(t:T):Nat:=(Eg t).depth
noncomputable def ug(ts:List T):Nat:=PyData.depthAll (xR ts)
@[simp] theorem V9 i:Fh (.int i)=0:=rfl
@[simp] theorem Wp i:Fh (.bl i)=0:=rfl
@[simp] theorem Wd i:Fh (.str i)=0:=rfl
@[simp] theorem V8:Fh .non=0:=rfl
@[simp] theorem V4 ts:Fh (.lst ts)=ug ts+1:=by unfold Fh ug;rw[Eg,PyData.depth]
@[simp] theorem P3 ts:Fh (.tup ts)=ug ts+1:=by unfold Fh ug;rw[Eg,PyData.depth]
@[simp] theorem Vg:ug []=0:=rfl
@[simp] theorem Jo t ts:ug (t::ts)=max (Fh t) (ug ts):=by unfold Fh ug;rw[xR,PyData.depthAll]
@[simp] theorem NX i j:Ey (.int i) (.int j)=(i==j):=rfl
@[simp] theorem HU i j:Ey (.str i) (.str j)=(i==j):=rfl
def yt xs ys:Ey (.lst xs) (.lst ys)=zp xs ys:=by unfold Ey zp;rw[Eg,Eg,PyData.eqv]
def pk xs ys:Ey (.tup xs) (.tup ys)=zp xs ys:=by unfold Ey zp;rw[Eg,Eg,PyData.eqv]
def rh x xs y ys:zp (x::xs) (y::ys)=(Ey x y&&zp xs ys):=by unfold Ey zp;rw[xR,xR,PyData.eqvAll]
noncomputable def iA(neg:Bool):T->T->M T:=λx y=>if qG x&&qG y&&decide (Fh x<=100) then .ok (.bl (if neg then !Ey x y else Ey x y)) else .bad
mutual
theorem DV.same{F H:Hp}(s:iJ F H):∀{v:V} {d:PyData},DV K F v d->DV K H v d
 |_,_,.non=>.non
 |_,_,.bl b=>.bl b
 |_,_,.int i=>.int i
 |_,_,.str x=>.str x
 |_,_,.lst h r=>.lst (s.seq h) (DM.same s r)
 |_,_,.tup h r=>.tup (s.seqT h) (DM.same s r)
theorem DM.same{F H:Hp}(s:iJ F H):∀{v:List V} {d:List PyData},DM K F v d->DM K H v d
 |_,_,.nil=>.nil
 |_,_,.cons h r=>.cons (DV.same s h) (DM.same s r)
end
def Pv x y:M.NoE (iA neg x y):=λC n=>by unfold iA;split<;>exact λz=>nomatch z
def HQ(neg:Bool):MR K (GQ K neg) (iA neg):=⟨Pv,λF H v w x y Q s a rb q=>by
 unfold iA at q;by_cases h:(qG x&&qG y&&decide (Fh x<=100))=true
 .rw[aQ h]at q;simp only[bU,decide_eq_true_eq]at h;refine⟨Eg x,Eg y,DV.same s (KJ a h.1.1),DV.same s (KJ rb h.1.2),⟨Dc x h.1.1,Dc y h.1.2,by exact h.2⟩,?_⟩;exact kV.now q s (.bl _)
 .rw[aR h]at q;exact q.elim⟩
def Lx{k:Nat}(hr:jZ k X.A)(c:Pm K E X a ta fa)(e:Pm K E X b tb fb)(f:X.K=K:=by rfl)(d:behindInMarks .Eq b=false:=by exact wm _):Pm K E X (.Compare a [.Eq] [b] pos) (wL (GQ K false) ta tb) (gR (iA false) fa fb):=wK (f▸Ku (VY hr)) (HQ false) c e d
def Rl{k:Nat}(hr:jZ k X.A)(c:Pm K E X a ta fa)(e:Pm K E X b tb fb)(f:X.K=K:=by rfl)(d:behindInMarks .NotEq b=false:=by exact wm _):Pm K E X (.Compare a [.NotEq] [b] pos) (wL (GQ K true) ta tb) (gR (iA true) fa fb):=wK (f▸LS (VY hr)) (HQ true) c e d
def NJ{k:Nat}(hr:jZ k X.A)(c:Pm K E X a ta fa)(e:Pm K E X b tb fb)(f:X.K=K:=by rfl)(d:behindInMarks .Eq b=false:=by exact wm _):Df K E X (.Compare a [.Eq] [b] pos) (A1 (wL (GQ K false) ta tb)) (iR (gR (iA false) fa fb)):=iL (f▸Ku (VY hr)) (HQ false) c e d
def uF{k:Nat}(hr:jZ k X.A)(c:Pm K E X a ta fa)(e:Pm K E X b tb fb)(f:X.K=K:=by rfl)(d:behindInMarks .NotEq b=false:=by exact wm _):Df K E X (.Compare a [.NotEq] [b] pos) (A1 (wL (GQ K true) ta tb)) (iR (gR (iA true) fa fb)):=iL (f▸LS (VY hr)) (HQ true) c e d
@[simp] noncomputable def kR(neg:Bool):T->T->M T:=λx y=>match y with
 |.non=>.ok (.bl (match x with|.non=>!neg|_=>neg))
 |_=>.bad
def IA x y:M.NoE (kR neg x y):=λC n=>by cases y<;>exact λz=>nomatch z
def wC:MR K (λx y H Q=>y=.non/\Q (.bl (decide (x=.non))) H) (kR false):=⟨IA,λF H v w x y Q s a rb q=>by
 cases rb with
 |non=>refine⟨rfl,?_⟩;cases a<;>exact kV.now q s (.bl _)
 |_=>exact q.elim⟩
def p6:MR K (λx y H Q=>y=.non/\Q (.bl (!decide (x=.non))) H) (kR true):=⟨IA,λF H v w x y Q s a rb q=>by
 cases rb with
 |non=>refine⟨rfl,?_⟩;cases a<;>exact kV.now q s (.bl _)
 |_=>exact q.elim⟩
noncomputable def lO:T->Bool
 |.non=>true
 |.bl _=>true
 |.int _=>true
 |.str _=>true
 |_=>false
noncomputable def xM(x:T)(ts:List T):Bool:=ts.any λy=>Ey y x
def lF.flat{F:Hp}{v:V}{x:T}(r:lF K F v x)(h:lO x=true):uy v=true:=by cases r<;>first|rfl|(simp[lO]at h;done)
theorem iD.flat{F:Hp}:∀{vs:List V} {xs:List T},iD K F vs xs->xs.all lO=true->vs.all uy=true
 |_,_,.nil,_=>rfl
 |_,_,.cons h r,q=>by rw[bW,bU]at q ⊢;exact⟨h.flat q.1,iD.flat r q.2⟩
def UM{F:Hp}{v w:V}{x y:T}(r:lF K F v x)(b:lF K F w y)(h:lO x=true)(a:lO y=true):NO v w=Ey x y:=by cases r<;>first|(exfalso;simp[lO]at h;done)|(cases b<;>first|(exfalso;simp[lO]at a;done)|rfl|simp[NO,pk])
theorem Ma{F:Hp}{v:V}{x:T}(r:lF K F v x)(h:lO x=true):∀{vs:List V} {xs:List T},iD K F vs xs->xs.all lO=true->V6 v vs=xM x xs
 |_,_,.nil,_=>rfl
 |_,_,.cons q rs,l=>by rw[bW,bU]at l;have a:=Ma r h rs l.2;unfold V6 xM at a ⊢;rw[bX,bX,a,UM q r l.1 h]
noncomputable def AM(neg:Bool):T->T->M T:=λx y=>match y with
 |.lst ts=>if lO x&&ts.all lO then .ok (.bl (if neg then !xM x ts else xM x ts)) else .bad
 |.tup ts=>if lO x&&ts.all lO then .ok (.bl (if neg then !xM x ts else xM x ts)) else .bad
 |_=>.bad
def Ql x y:M.NoE (AM neg x y):=λC n=>by unfold AM;split<;>first|(intro z;cases z;done)|(split<;>intro z<;>cases z)
def KA(neg:Bool):MR K (Vy K neg) (AM neg):=⟨Ql,λF H v w x y Q s e rb q=>by
 cases rb with
 |lst h r=>
  rename_i a f c;have d:(if lO x&&c.all lO then M.ok (T.bl (if neg then !xM x c else xM x c)) else M.bad).res (kV K F H Q) (λ_ _=>False):=q;by_cases b:(lO x&&c.all lO)=true
  .rw[aQ b]at d;rw[bU]at b;exact⟨a,f,rfl,.inl (mz.of (s _ _ h)),e.flat b.1,r.flat b.2,by rw[Ma e b.1 r b.2];exact kV.now d s (.bl _)⟩
  .rw[aR b]at d;exact d.elim
 |tup h r=>
  rename_i a f c;have d:(if lO x&&c.all lO then M.ok (T.bl (if neg then !xM x c else xM x c)) else M.bad).res (kV K F H Q) (λ_ _=>False):=q;by_cases b:(lO x&&c.all lO)=true
  .rw[aQ b]at d;rw[bU]at b;exact⟨a,f,rfl,.inr (oK.of (s _ _ h)),e.flat b.1,r.flat b.2,by rw[Ma e b.1 r b.2];exact kV.now d s (.bl _)⟩
  .rw[aR b]at d;exact d.elim
 |_=>exact q.elim⟩
end
end L3
namespace L3
open PySem L2 PySem.Spec PyProof.Rows
section
variable {K:W.Frag}{E:XK}{X:Cx}{a b c e o tg it:Expr}{es:List Expr}{ta tb tc te to:TE}{fa fb fc fe fo:Pe->M T}{tr:TA}{fr:Pe->M a0}{pos p p2 apos:Pos}
def ie:Dr K E X [] um gJ:=⟨uJ,GJ⟩
def gP(d:Pm K E X e te fe)(hr:Dr K E X es tr fr)(f:starEach (e::es) X.env=(false,eval e X.env)::starEach es X.env:=by rfl):Dr K E X (e::es) (qd te tr) (gF fe fr):=⟨qc d.pe hr.pa f,OM d.me hr.ma⟩
def qu{x1}(h:Dr K E X es tr fr):Pm K E X (.Tuple es x1 pos) (RT tr) (jM fr):=⟨Sf h.pa,T7 h.ma⟩
def wH(h:Dr K E X es tr fr):Hj K E X (.List es pos) (Sq tr) (lstM fr):=⟨Tp h.pa,R3 h.ma⟩
structure MC(K:W.Frag)(r:List V->Hp->VK->Prop)(o:List T->M T):Prop where
 ne:∀xs,M.NoE (o xs)
 ok:∀F H vs xs Q,iJ F H->iD K F vs xs->(o xs).res (kV K F H Q) (λ_ _=>False)->r vs H Q
structure WH(K:W.Frag)(r:List V->Hp->VK->Prop)(o:List T->M a0):Prop where
 ne:∀xs,M.NoE (o xs)
 ok:∀F H vs xs Q,iJ F H->iD K F vs xs->(o xs).res (kF K F H Q) (λ_ _=>False)->r vs H Q
@[simp] noncomputable def kG(o:List T->M T)(fr:Pe->M a0):Pe->M T:=λd=>(fr d).bind o
@[simp] noncomputable def Ba(o:List T->M a0)(fr:Pe->M a0):Pe->M a0:=λd=>(fr d).bind o
def Rb{o:List T->M T}(f:MC K r o)(h:MA K E tr fr):ME K E (LK r tr) (kG o fr):=λF H n u Q s V q=>by refine h.run s V q λg k j m d l i=>?_;exact f.ok j m k g Q d.fh l ((i.ne (f.ne g)).mono (λ_ z=>z.go d) λ_ _ z=>z)
def Vl{o:List T->M a0}(f:WH K r o)(h:MA K E tr fr):MF K E (LK r tr) (Ba o fr):=λF H n u Q s V q=>by refine h.run s V q λg k j m d l i=>?_;exact f.ok j m k g Q d.fh l ((i.ne (f.ne g)).mono (λ_ z=>z.go d) λ_ _ z=>z)
section
variable {x:Str}{id T':String}{r:List V->Hp->VK->Prop}{m:List T->M T}{mf:List T->M a0}
def iy(n:lR X (.builtin id) r)(f:MC K r m)(j:Gl X x)(k:X.mg x=none)(hv:bootBuiltins x=some (.builtin id))(h:Dr K E X (e::es) tr fr)(l:x≠ "__name__" :=by decide)(g:(x==("__debug__" : Str))=false:=by decide)
  (i:starEach (e::es) X.env=(false,eval e X.env)::starEach es X.env:=by rfl) (d:(backTo pos (starEach es X.env)).any (·.1)=false:=by rfl):Pm K E X (.Call (.Name x p) (e::es) [] pos) (LK r tr) (kG m fr):=⟨EB n j k hv h.pa l g i d,Rb f h.ma⟩
def jy(n:lR X (.type T') r)(f:MC K r m)(j:Gl X x)(k:X.mg x=none)(hv:bootBuiltins x=some (.type T'))(h:Dr K E X (e::es) tr fr)(l:x≠ "__name__" :=by decide)(g:(x==("__debug__" : Str))=false:=by decide)
  (i:starEach (e::es) X.env=(false,eval e X.env)::starEach es X.env:=by rfl) (d:(backTo pos (starEach es X.env)).any (·.1)=false:=by rfl):Pm K E X (.Call (.Name x p) (e::es) [] pos) (LK r tr) (kG m fr):=⟨xg n j k hv h.pa l g i d,Rb f h.ma⟩
def lH(n:lR X (.type T') r)(f:WH K r mf)(j:Gl X x)(k:X.mg x=none)(hv:bootBuiltins x=some (.type T'))(h:Dr K E X (e::es) tr fr)(l:x≠ "__name__" :=by decide)(g:(x==("__debug__" : Str))=false:=by decide)
  (i:starEach (e::es) X.env=(false,eval e X.env)::starEach es X.env:=by rfl) (d:(backTo pos (starEach es X.env)).any (·.1)=false:=by rfl):Hj K E X (.Call (.Name x p) (e::es) [] pos) (LK r tr) (Ba mf fr):=⟨xg n j k hv h.pa l g i d,Vl f h.ma⟩
end
@[simp] noncomputable def mC:List T->M T
 |[.lst ts]=>.ok (.int ts.length)
 |[.tup ts]=>.ok (.int ts.length)
 |[.scr ns]=>.ok (.int ns.length)
 |[.str z]=>if z.length<=sizeLine then .ok (.int z.length) else .bad
 |_=>.bad
def Qh xs:M.NoE (mC xs):=λC n=>by unfold mC;split<;>first|(intro z;cases z;done)|(split<;>first|(intro z;cases z;done)|(split<;>intro z<;>cases z))
def lg:MC K (λxs H Q=>∃x n,xs=[x]/\TJ K x H n/\Q (.int n) H) mC:=⟨Qh,λF H g xs Q s r q=>by
 cases r with
 |nil=>exact q.elim
 |cons h t=>
  cases t with
  |cons _ _=>cases h<;>exact q.elim
  |nil=>
   cases h with
   |lst h r=>exact⟨_,_,rfl,.inl ⟨_,mz.of (s _ _ h),rfl⟩,by rw[r.length];exact kV.now q s (.int _)⟩
   |tup h r=>exact⟨_,_,rfl,.inr ⟨_,oK.of (s _ _ h),rfl⟩,by rw[r.length];exact kV.now q s (.int _)⟩
   |scr h=>exact⟨_,_,rfl,.inl ⟨_,s.seq h,rfl⟩,by rw[aw];exact kV.now q s (.int _)⟩
   |str z=>
    have d:(if z.length<=sizeLine then M.ok (T.int z.length) else M.bad).res (kV K F H Q) (λ_ _=>False):=q;by_cases f:z.length<=sizeLine
    .rw[aQ f]at d;exact⟨_,z.length,rfl,⟨f,rfl⟩,kV.now d s (.int _)⟩
    .rw[aR f]at d;exact d.elim
   |_=>exact q.elim⟩
@[simp] noncomputable def wR:List T->M T
 |[.int i]=>.ok (.int (if i<0 then -i else i))
 |_=>.bad
def N3 xs:M.NoE (wR xs):=λC n=>by unfold wR;split<;>first|(intro z;cases z;done)|(split<;>first|(intro z;cases z;done)|(split<;>intro z<;>cases z))
def sN:MC K (λxs H Q=>∃i,xs=[.int i]/\Q (.int (if i<0 then -i else i)) H) wR:=⟨N3,λF H d xs Q s r q=>by
 cases r with
 |nil=>exact q.elim
 |cons h t=>
  cases t with
  |cons _ _=>cases h<;>exact q.elim
  |nil=>
   cases h with
   |int i=>exact⟨i,rfl,kV.now q s (.int _)⟩
   |_=>exact q.elim⟩
@[simp] noncomputable def Bi:List T->M T
 |[.int i,.int j]=>.ok (.int (if j>i then j else i))
 |_=>.bad
def Mo xs:M.NoE (Bi xs):=λC n=>by unfold Bi;split<;>first|(intro z;cases z;done)|(split<;>first|(intro z;cases z;done)|(split<;>intro z<;>cases z))
def Qe:MC K (λxs H Q=>∃i j,xs=[.int i,.int j]/\Q (.int (if j>i then j else i)) H) Bi:=⟨Mo,λF H d xs Q s r q=>by
 unfold Bi at q;split at q
 .exact⟨_,_,r.two,kV.now q s (.int _)⟩
 .exact q.elim⟩
@[simp] noncomputable def Ap:List T->M T
 |[.int i]=>.ok (.int i)
 |[.bl k]=>.ok (.int (if k then 1 else 0))
 |_=>.bad
def MP xs:M.NoE (Ap xs):=λC n=>by unfold Ap;split<;>first|(intro z;cases z;done)|(split<;>first|(intro z;cases z;done)|(split<;>intro z<;>cases z))
def Cj:MC K (λxs H Q=>(∃i,xs=[.int i]/\Q (.int i) H)\/∃k,xs=[.bl k]/\Q (.int (if k then 1 else 0)) H) Ap:=⟨MP,λF H d xs Q s r q=>by
 cases r with
 |nil=>exact q.elim
 |cons h t=>
  cases t with
  |cons _ _=>cases h<;>exact q.elim
  |nil=>
   cases h with
   |int i=>exact .inl ⟨i,rfl,kV.now q s (.int _)⟩
   |bl k=>exact .inr ⟨k,rfl,kV.now q s (.int _)⟩
   |_=>exact q.elim⟩
@[simp] noncomputable def j7:List T->M T
 |[.lst ts]=>.ok (.tup ts)
 |[.tup ts]=>.ok (.tup ts)
 |[.scr ns]=>.ok (.tup (ns.map T.int))
 |_=>.bad
def FF xs:M.NoE (j7 xs):=λC n=>by unfold j7;split<;>first|(intro z;cases z;done)|(split<;>first|(intro z;cases z;done)|(split<;>intro z<;>cases z))
def jU:MC K (λxs H Q=>∃p f,xs=[.ref p]/\((mz K H p f/\∀l,H l=none->Q (.ref l) (jR H l (.tup f)))\/(oK K H p f/\Q (.ref p) H))) j7:=⟨FF,λF H g xs Q s r q=>by
 cases r with
 |nil=>exact q.elim
 |cons h t=>
  cases t with
  |cons _ _=>cases h<;>exact q.elim
  |nil=>
   cases h with
   |lst h r=>exact⟨_,_,rfl,.inl ⟨mz.of (s _ _ h),λl d=>q (.ref l) _ _ (.new s d) (.tup hU (r.mono (Gr.new s d).ff))⟩⟩
   |scr h=>exact⟨_,_,rfl,.inl ⟨s.seq h,λl d=>q (.ref l) _ _ (.new s d) (.tup hU (iD.of_ints _))⟩⟩
   |tup h r=>exact⟨_,_,rfl,.inr ⟨oK.of (s _ _ h),kV.now q s (.tup h r)⟩⟩
   |_=>exact q.elim⟩
@[simp] noncomputable def mw:List T->M a0
 |[.lst ts]=>.ok ts
 |[.tup ts]=>.ok ts
 |[.scr ns]=>.ok (ns.map T.int)
 |_=>.bad
def JR xs:M.NoE (mw xs):=λC n=>by unfold mw;split<;>first|(intro z;cases z;done)|(split<;>first|(intro z;cases z;done)|(split<;>intro z<;>cases z))
def mG:WH K (λxs H Q=>∃p f,xs=[.ref p]/\(mz K H p f\/oK K H p f)/\∀l,H l=none->Q (.ref l) (jR H l (.lst f))) mw:=⟨JR,λF H g xs Q s r q=>by
 cases r with
 |nil=>exact q.elim
 |cons h t=>
  cases t with
  |cons _ _=>cases h<;>exact q.elim
  |nil=>
   cases h with
   |lst h r=>exact⟨_,_,rfl,.inl (mz.of (s _ _ h)),λl d=>q l _ F _ (.new' s d) d (iO s d) hU r⟩
   |scr h=>exact⟨_,_,rfl,.inl (s.seq h),λl d=>q l _ F _ (.new' s d) d (iO s d) hU (iD.of_ints _)⟩
   |tup h r=>exact⟨_,_,rfl,.inr (oK.of (s _ _ h)),λl d=>q l _ F _ (.new' s d) d (iO s d) hU r⟩
   |_=>exact q.elim⟩
def jY:List T->Option (LI)
 |[]=>some []
 |.int i::ts=>(jY ts).bind λr=>some (i::r)
 |_::_=>none
theorem m7:∀{ts} {ns},jY ts=some ns->ts=ns.map T.int
 |[],_,e=>by cases e;rfl
 |t::ts,ns,e=>by
  cases t with
  |int i=>
   cases q:jY ts with
   |none=>simp[jY,q]at e
   |some r=>simp[jY,q]at e;subst e;rw[m7 q];rfl
  |_=>cases e
@[simp] theorem tQ ns:jY (ns.map T.int)=some ns:=by
 induction ns with
 |nil=>rfl
 |cons n ns ih=>simp[jY,ih]
def ur:List T->Option (List Bool)
 |[]=>some []
 |.bl i::ts=>(ur ts).bind λr=>some (i::r)
 |_::_=>none
theorem Bx:∀{ts} {ns},ur ts=some ns->ts=ns.map T.bl
 |[],_,e=>by cases e;rfl
 |t::ts,ns,e=>by
  cases t with
  |bl i=>
   cases q:ur ts with
   |none=>simp[ur,q]at e
   |some r=>simp[ur,q]at e;subst e;rw[Bx q];rfl
  |_=>cases e
@[simp] theorem Vo ns:ur (ns.map T.bl)=some ns:=by
 induction ns with
 |nil=>rfl
 |cons n ns ih=>simp[ur,ih]
@[simp] noncomputable def E3:List T->M T
 |[.lst ts]=>match jY ts with
  |some ns=>.ok (.int ns.sum)
  |none=>.bad
 |_=>.bad
def OY xs:M.NoE (E3 xs):=λC n=>by unfold E3;split<;>first|(intro z;cases z;done)|(split<;>first|(intro z;cases z;done)|(split<;>intro z<;>cases z))
def BY:MC K (λxs H Q=>∃(p:Addr) (d:LI),xs=[.ref p]/\mz K H p (d.map V.int)/\Q (.int d.sum) H) E3:=⟨OY,λF H i xs Q s r q=>by
 cases r with
 |nil=>exact q.elim
 |cons h t=>
  cases t with
  |cons _ _=>cases h<;>exact q.elim
  |nil=>
   cases h with
   |lst h r=>
    rename_i a xs g;have f:(match jY g with|some d=>M.ok (T.int d.sum)|none=>M.bad).res (kV K F H Q) (λ_ _=>False):=q;cases e:jY g with
    |none=>rw[e]at f;exact f.elim
    |some d=>rw[e]at f;rw[m7 e]at r;have:=r.ints;subst this;exact⟨a,d,rfl,mz.of (s _ _ h),kV.now f s (.int _)⟩
   |_=>exact q.elim⟩
@[simp] noncomputable def EX:List T->M T
 |[.lst ts]=>match ur ts with
  |some ns=>.ok (.bl (ns.all id))
  |none=>.bad
 |_=>.bad
def OE xs:M.NoE (EX xs):=λC n=>by unfold EX;split<;>first|(intro z;cases z;done)|(split<;>first|(intro z;cases z;done)|(split<;>intro z<;>cases z))
def zC:MC K (λxs H Q=>∃(p:Addr) (bs:List Bool),xs=[.ref p]/\mz K H p (bs.map V.bl)/\Q (.bl (bs.all id)) H) EX:=⟨OE,λF H g xs Q s r q=>by
 cases r with
 |nil=>exact q.elim
 |cons h t=>
  cases t with
  |cons _ _=>cases h<;>exact q.elim
  |nil=>
   cases h with
   |lst h r=>
    rename_i a xs f;have d:(match ur f with|some ns=>M.ok (T.bl (ns.all id))|none=>M.bad).res (kV K F H Q) (λ_ _=>False):=q;cases e:ur f with
    |none=>rw[e]at d;exact d.elim
    |some ns=>rw[e]at d;rw[Bx e]at r;have:=r.bls;subst this;exact⟨a,ns,rfl,mz.of (s _ _ h),kV.now d s (.bl _)⟩
   |_=>exact q.elim⟩
@[simp] noncomputable def Uv:T->String
 |.non=> "NoneType"
 |.bl _=> "bool"
 |.int _=> "int"
 |.str _=> "str"
 |.tup _=> "tuple"
 |.lst _=> "list"
 |.scr _=> "script"
 |.obj _ _=> "object"
 |.emp=> "dict"
 |.dic _=> "table"
@[simp] noncomputable def Ss(n:String)(x:T):M T:=match x with
 |.scr _=>.bad
 |.obj _ _=>.bad
 |.dic _=>.bad
 |x=>.ok (.bl (Uv x==n||(n == "int" && Uv x == "bool")))
def UW(r:lF K F v x)(s:iJ F H)(f:∀k,x≠.scr k)(d:∀C fs,x≠.obj C fs)(g:∀j,x≠.dic j):sO K H v (.type (Uv x)):=by
 cases r with
 |non=>exact .non
 |bl b=>exact .bl b
 |int i=>exact .int i
 |str x=>exact .str x
 |tup h r=>exact .tup (s _ _ h)
 |lst h r=>exact .lst (s _ _ h)
 |scr h=>exact absurd rfl (f _)
 |obj h r=>exact absurd rfl (d _ _)
 |emp h=>exact .dK (s _ _ h)
 |dic h r=>exact absurd rfl (g _)
@[simp] noncomputable def ua(n:String)(fe:Pe->M T):Pe->M T:=λd=>(fe d).bind λx=>Ss n x
theorem Tg(B:∀t∈["NoneType", "bool", "int", "str", "tuple", "list", "dict"],W.kitOne K (.type t) (.type n)=some (t==n||(n == "int" && t == "bool")))(u:ME K E te fe) :
  ME K E (LK (λxs H Q=>∃x T t b,xs=[x,.ty T]/\sO K H x t/\W.kitOne K t (.type T)=some b/\Q (.bl b) H) (qd te (qd (tC (.ty n)) um))) (ua n fe):=λF H D I Q s V q=>by
 refine u.run s V q λx v w j l A f=>?_;have d:∀b,Ss n x=.ok (.bl b)->(∀h,x≠.scr h)->(∀C fs,x≠.obj C fs)->(∀i,x≠.dic i)->b=(Uv x==n||(n == "int" && Uv x == "bool"))->∃g T t b,[v,L2.V.ty n]=[g,.ty T]/\sO K j g t/\W.kitOne K t (.type T)=some b/\Q (.bl b) j:=by
  intro b e k r m y;rw[e]at f;refine⟨v,n,_,b,rfl,UW A l.fh k r m,?_,f _ w j l (.bl _)⟩;rw[y];refine B _ ?_;cases x with
  |scr h=>exact absurd rfl (k h)
  |obj C fs=>exact absurd rfl (r C fs)
  |dic i=>exact absurd rfl (m i)
  |_=>simp[Uv]
 cases x with
 |scr h=>exact f.elim
 |obj C fs=>exact f.elim
 |dic i=>exact f.elim
 |non=>exact d _ rfl (λ_ z=>nomatch z) (λ_ _ z=>nomatch z) (λ_ z=>nomatch z) rfl
 |bl _=>exact d _ rfl (λ_ z=>nomatch z) (λ_ _ z=>nomatch z) (λ_ z=>nomatch z) rfl
 |int _=>exact d _ rfl (λ_ z=>nomatch z) (λ_ _ z=>nomatch z) (λ_ z=>nomatch z) rfl
 |str _=>exact d _ rfl (λ_ z=>nomatch z) (λ_ _ z=>nomatch z) (λ_ z=>nomatch z) rfl
 |tup _=>exact d _ rfl (λ_ z=>nomatch z) (λ_ _ z=>nomatch z) (λ_ z=>nomatch z) rfl
 |lst _=>exact d _ rfl (λ_ z=>nomatch z) (λ_ _ z=>nomatch z) (λ_ z=>nomatch z) rfl
 |emp=>exact d _ rfl (λ_ z=>nomatch z) (λ_ _ z=>nomatch z) (λ_ z=>nomatch z) rfl
def Qf K:∀n∈["int", "bool", "str", "tuple", "list"],∀t∈["NoneType", "bool", "int", "str", "tuple", "list", "dict"],W.kitOne K (.type t) (.type n)=some (t==n||(n == "int" && t == "bool")):=by intro n d t f;simp only[aF,de,or_false]at d f;rcases d with rfl|rfl|rfl|rfl|rfl<;>rcases f with rfl|rfl|rfl|rfl|rfl|rfl|rfl<;>rfl
def mQ n (j:n∈["int", "bool", "str", "tuple", "list"]) (d:X.mg "isinstance" = none) (g:X.mg x=none) (m:bootBuiltins x=some (.type n)) (r:Pm K E X e te fe) (u:X.K=K:=by rfl) (f:Gl X "isinstance" :=by rfl) (h:Gl X x:=by rfl)
  (k:x≠ "__name__" :=by decide) (q:(x==("__debug__" : Str))=false:=by decide)
  (s:starEach [e,.Name x p3] X.env=(false,eval e X.env)::starEach [.Name x p3] X.env:=by rfl) (i:starEach [.Name x p3] X.env=(false,eval (.Name x p3) X.env)::starEach [] X.env:=by rfl) (l:(backTo pos (starEach [.Name x p3] X.env)).any (·.1)=false:=by rfl) :
  Pm K E X (.Call (.Name "isinstance" p) [e,.Name x p3] [] pos) (LK (λxs H Q=>∃x T t b,xs=[x,.ty T]/\sO K H x t/\W.kitOne K t (.type T)=some b/\Q (.bl b) H) (qd te (qd (tC (.ty n)) um))) (ua n fe):=by
 subst u;exact⟨EB Kg f d T6 (qc r.pe (qc (OF h g m rfl k q) uJ i) s) (by decide) (by decide) s l,Tg (Qf X.K n j) r.me⟩
@[simp] noncomputable def ja:T->T->M T
 |.lst ts,.int i=>match uD ts i with
  |some t=>.ok t
  |none=>.bad
 |.tup ts,.int i=>match uD ts i with
  |some t=>.ok t
  |none=>.bad
 |.scr ns,.int i=>match uD ns i with
  |some t=>.ok (.int t)
  |none=>.bad
 |.str z,.int i=>if z.length<=sizeLine then (match uD z.cps.toList i with
  |some c=>.ok (.str ⟨#[c]⟩)
  |none=>.bad) else .bad
 |_,_=>.bad
def Ie(r:iD K F vs ts)(h:uD ts i=some t):∃v,uD vs i=some v/\lF K F v t:=by
 unfold uD at h ⊢;rw[r.length];cases e:Av ts.length i with
 |none=>rw[e]at h;cases h
 |some j=>rw[e]at h;exact r.get h
def t7(f:α->β) l i:uD (l.map f) i=(uD l i).map f:=by
 unfold uD;rw[aw];cases Av l.length i with
 |none=>rfl
 |some j=>simp
def TV x y:M.NoE (ja x y):=λC n=>by unfold ja;split<;>first|(intro z;cases z;done)|(split<;>first|(intro z;cases z;done)|(split<;>intro z<;>cases z))
def Ve:MR K (Tw K) ja:=⟨TV,λF H v w x y Q s d rb q=>by
 unfold ja at q;split at q
 .rename_i k i;rw[rb.int_inv];obtain⟨a,g,rfl,h,r⟩:=d.lst_inv;split at q
  .rename_i t e;obtain⟨v,f,j⟩:=Ie r e;exact .inl ⟨a,g,i,v,rfl,rfl,mz.of (s _ _ h),f,kV.now q s j⟩
  .exact q.elim
 .rename_i k i;rw[rb.int_inv];obtain⟨a,g,rfl,h,r⟩:=d.tup_inv;split at q
  .rename_i t e;obtain⟨v,f,j⟩:=Ie r e;exact .inr (.inl ⟨a,g,i,v,rfl,rfl,oK.of (s _ _ h),f,kV.now q s j⟩)
  .exact q.elim
 .rename_i m i;rw[rb.int_inv];cases d with
  |scr h=>
   split at q
   .rename_i t e;exact .inl ⟨_,_,i,.int t,rfl,rfl,s.seq h,by rw[t7,e];rfl,kV.now q s (.int _)⟩
   .exact q.elim
 .rename_i z i;rw[rb.int_inv];cases d with
  |str z=>
   split at q
   .rename_i l;split at q
    .rename_i c e;exact .inr (.inr ⟨z,i,c,rfl,rfl,l,e,kV.now q s (.str _)⟩)
    .exact q.elim
   .exact q.elim
 .exact q.elim⟩
def Iq(d:Pm K E X a ta fa)(f:Pm K E X b tb fb)(g:Dj b:=by intro _ _;rfl)(h:X.K=K:=by rfl):Pm K E X (.Subscript a b pos) (wL (Tw K) ta tb) (gR ja fa fb):=⟨QR (h▸NA) d.pe f.pe g,Iz Ve d.me f.me⟩
def Nd:VU K E X none H9 (λ_=>.ok none):=⟨QO,λF H d f Q s V q=>q F H (.refl s)⟩
@[simp] noncomputable def ju(fe:Pe->M T):Pe->M (Option Int):=λd=>(fe d).bind λx=>match x with
 |.int i=>.ok (some i)
 |_=>.bad
def MM(h:Pm K E X e te fe):VU K E X (some e) (Rh te) (ju fe):=⟨OS h.pe,λF H l m Q s V q=>by
 refine h.me.run s V q λx v k f j g d=>?_;cases g with
 |int i=>exact⟨i,rfl,d k f j⟩
 |_=>exact d.elim⟩
noncomputable def qW{d:Type}(xs:List d)(f g:Option Int):List d:=(xs.drop (HT.sIx xs.length 0 f)).take (HT.sIx xs.length xs.length g-HT.sIx xs.length 0 f)
def So xs lo hi:LY xs lo hi=qW xs lo hi:=rfl
def iD.cut(r:iD K F vs ts) lo hi:iD K F (qW vs lo hi) (qW ts lo hi):=by unfold qW;rw[r.length];exact (r.drop _).take _
def ML(f:α->β) l lo hi:qW (l.map f) lo hi=(qW l lo hi).map f:=by unfold qW;rw[aw,dg,dh]
section
variable {lo hi:Option Expr}{tl th:TO}{fl fh:Pe->M (Option Int)}
def MO.run{k:Option Int->M α}{P:α->Prop}(h:MO K E t f)(s:iJ F H)(v:nX K F σ ρ)(r:((f ρ).bind k).res P (kE E F H))
  (j:∀x i d,Gr F H i d->(k x).res P (kE E i d)->Q x d):t σ H Q:=
 h F H σ ρ Q s v ((M.res.unb r).mono (λx q i d g=>j x i d g (q.mono (λ_ z=>z) λ_ _ z=>z.go g)) λ_ _ z=>z)
@[simp] noncomputable def ka(fe:Pe->M T)(fl fh:Pe->M (Option Int)):Pe->M T:=λd=>(fe d).bind λx=>(fl d).bind λl=>(fh d).bind λh=>match x with
 |.tup ts=>.ok (.tup (qW ts l h))
 |.lst ts=>.ok (.lst (qW ts l h))
 |.scr ns=>.ok (.lst ((qW ns l h).map T.int))
 |_=>.bad
def DH(z:Pm K E X e te fe)(y:VU K E X lo tl fl)(w:VU K E X hi th fh)(L:X.K=K:=by rfl):Pm K E X (.Subscript e (.Slice lo hi none p2) pos) (WX (λx lo hi H Q=>U3 K x lo hi H Q\/(VI K x lo hi H Q\/UI K x lo hi H Q)) te tl th) (ka fe fl fh):=by
 subst L;refine⟨LX (PQ.or (RF.or Qs)) z.pe y.po w.po,λF H R S Q s V q=>?_⟩;refine z.me.run s V q λx v P Z j D C=>?_;refine y.mo.run j.fh (V.mono j.ff) C λl F2 U k I=>?_;refine w.mo.run k.fh ((V.mono j.ff).mono k.ff) I λu B A d m=>?_;have g:=(j.trans k).trans d;have J:=D.mono (k.ff.trans d.ff);cases J with
 |lst h r=>exact .inl ⟨_,_,rfl,mz.of (d.fh _ _ h),λp i=>m (.ref p) _ _ (g.trans (.new d.fh i)) (.lst hU ((r.cut l u).mono (Gr.new d.fh i).ff))⟩
 |scr h=>exact .inl ⟨_,_,rfl,d.fh.seq h,λp i=>m (.ref p) _ _ (g.trans (.new d.fh i)) (.lst hU (by rw[So,ML];exact iD.of_ints _))⟩
 |tup h r=>
  rename_i a Y f;have n:(M.ok (T.tup (qW f l u))).res (kV X.K F H Q) (kE E B A):=m;by_cases hw:HT.sIx f.length 0 l=0/\HT.sIx f.length f.length u=f.length
  .have N:qW f l u=f:=by unfold qW;rw[hw.1,hw.2];simp
   rw[N]at n;exact .inr (.inr ⟨_,_,rfl,oK.of (d.fh _ _ h),by rw[r.length];exact hw,n _ B A g (.tup h r)⟩)
  .exact .inr (.inl ⟨_,_,rfl,oK.of (d.fh _ _ h),by rw[r.length];exact hw,λp i=>n (.ref p) _ _ (g.trans (.new d.fh i)) (.tup hU ((r.cut l u).mono (Gr.new d.fh i).ff))⟩)
 |_=>exact m.elim
end
section
variable {x:Str}{k:Nat}{Fn:List T->M T}{Ff:List T->M a0}
def jL(h:mU X.prog X.w X.K X.mg X.base x j (uT K Fn))(hr:jZ k X.A)(g:Dr K E X (e::es) tr fr)(m:j<=k:=by decide)(l:Gl X x:=by rfl)
  (f:(x==("__debug__" : Str))=false:=by decide) (i:starEach (e::es) X.env=(false,eval e X.env)::starEach es X.env:=by rfl) (d:(backTo pos (starEach es X.env)).any (·.1)=false:=by rfl) :
  Pm K E X (.Call (.Name x p) (e::es) [] pos) (uA (uT K Fn) [] E0 tr) (gS fr Fn):=⟨yV (h.mono m) hr g.pa l f i d,MV g.ma⟩
def vX(h:mU X.prog X.w X.K X.mg X.base x j (DB K Ff))(hr:jZ k X.A)(g:Dr K E X (e::es) tr fr)(m:j<=k:=by decide)(l:Gl X x:=by rfl)
  (f:(x==("__debug__" : Str))=false:=by decide) (i:starEach (e::es) X.env=(false,eval e X.env)::starEach es X.env:=by rfl) (d:(backTo pos (starEach es X.env)).any (·.1)=false:=by rfl) :
  Hj K E X (.Call (.Name x p) (e::es) [] pos) (uA (DB K Ff) [] E0 tr) (js fr Ff):=⟨yV (h.mono m) hr g.pa l f i d,Ln g.ma⟩
end
def UC(K:W.Frag)(t:TE):TI:=λd H R=>L5 K t d H R\/TU K t d H R
@[simp] noncomputable def iU(fa:Pe->M T):Pe->M a0:=λd=>(fa d).bind λx=>match x with
 |.lst ts=>.ok ts
 |.scr ns=>.ok (ns.map T.int)
 |.tup ts=>.ok ts
 |_=>.bad
def R4(f:ME K E ta fa):MI K E (UC K ta) (iU fa):=λF H g d R s V q=>by
 unfold iU at q;cases e:fa d with
 |bad=>rw[e]at q;exact q.elim
 |er C n=>rw[e]at q;exact .inl (C6 f F H g d R s V (by unfold VZ;rw[e];exact q))
 |ok x=>
  rw[e]at q;cases x with
  |lst ts=>exact .inl (C6 f F H g d R s V (by unfold VZ;rw[e];exact q))
  |scr ns=>exact .inl (C6 f F H g d R s V (by unfold VZ;rw[e];exact q))
  |tup ts=>exact .inr (R5 f F H g d R s V (by unfold WT;rw[e];exact q))
  |_=>exact q.elim
def iq(d:Pm K E X a ta fa)(i:X.K=K:=by rfl):NQ K E X tg a (UC K ta) (iU fa):=by
 subst i;refine⟨λf s g H R I h=>?_,R4 d.me⟩;rcases h with h|h
 .exact Qr d.pe f s g H R I h
 .exact T9 d.pe f s g H R I h
def Q8(K:W.Frag)(ta:TA):TI:=λg H R=>∃d f,Tz K d f ta g H R
@[simp] noncomputable def seqT:T->M a0
 |.lst ts=>.ok ts
 |.scr ns=>.ok (ns.map T.int)
 |.tup ts=>.ok ts
 |_=>.bad
@[simp] noncomputable def nq(fa:Pe->M a0):Pe->M a0:=λg=>(fa g).bind λh=>match h with
 |[x,y]=>(seqT x).bind λf=>(seqT y).bind λd=>.ok (BQ f d)
 |_=>.bad
noncomputable def vn:T->Bool
 |.tup _=>true
 |_=>false
def GX x:seqT x=seqB (vn x) x:=by cases x<;>rfl
def OB(f:MA K E tr fr):MI K E (Q8 K tr) (nq fr):=λF H g d R s V q=>by
 unfold nq at q;cases e:fr d with
 |bad=>rw[e]at q;exact q.elim
 |er C n=>rw[e]at q;exact⟨true,true,M9 f F H g d R s V (by unfold TM;rw[e];exact q)⟩
 |ok xs=>
  rw[e]at q;match xs,e,q with
  |[],_,q=>exact q.elim
  |[_],_,q=>exact q.elim
  |[x,y],e,q=>refine⟨vn x,vn y,M9 f F H g d R s V ?_⟩;unfold TM;rw[e];have h:((seqT x).bind λj=>(seqT y).bind λi=>M.ok (BQ j i)).res (kI K F H R) (kE E F H):=q;rw[GX x,GX y]at h;exact h
  |_::_::_::_,_,q=>exact q.elim
def lP{x1}(j:X.mg "zip" = none)(f:Dr K E X [a,b] tr fr)(m:X.K=K:=by rfl)(i:Gl X "zip" :=by rfl)(l:starEach [a,b] X.env=[(false,eval a X.env),(false,eval b X.env)]:=by rfl)
  (d:starEach [b] X.env=[(false,eval b X.env)]:=by rfl):NQ K E X (.Tuple elts x1 tpos) (.Call (.Name "zip" p) [a,b] [] pos) (Q8 K tr) (nq fr):=by
 subst m;refine⟨λg s k H R I h=>?_,OB f.ma⟩;obtain⟨n,q,h⟩:=h;exact SJ i j f.pa l d g s k H R I h
def lB(g:X.mg "range" = none)(d:Dr K E X [a] tr fr)(h:Gl X "range" :=by rfl)(f:starEach [a] X.env=[(false,eval a X.env)]:=by rfl):zH K E X tg (.Call (.Name "range" p) [a] [] pos) (KU tr) (mM fr):=⟨J2 h g d.pa f,Qz d.ma⟩
def zH.pim(h:zH K E X tg it w f):NQ K E X tg it w f:=⟨h.pi,h.mi.mi⟩
section
variable {x:Str}{g:TG}{gs:NM}{m:T->Pe->Option Pe}{ms:List T->Pe->Option Pe}{mo:T->En->Option En}{mos:List T->En->Option En}{n:Nat}
def iN i (j:X.N.Nodup) (f:HR X.env.scope x:=by first|exact Or.inl rfl|exact Or.inr rfl) (h:X.N[i]? = some x:=by rfl) (d:X.fn x=true\/X.env.scope.names.lookup x=some .local:=by first|exact .inl rfl|exact .inr rfl|assumption):Uw K X (.Name x pos) (j9 i) (jN i):=⟨HD j h f d,Pf⟩
def iQ i (j:X.N.Nodup) (f:HR X.env.scope x:=by first|exact Or.inl rfl|exact Or.inr rfl) (h:X.N[i]? = some x:=by rfl) (d:X.fn x=true\/X.env.scope.names.lookup x=some .local:=by first|exact .inl rfl|exact .inr rfl|assumption):Us K X (.Name x pos) (j9 i) (j6 i):=⟨HD j h f d,Kc⟩
def jX:QQ K X [] IL ni:=⟨Io,N4⟩
def mK:Pg K X [] IL ml:=⟨Io,Lm⟩
def iz(f:Uw K X e g m)(d:QQ K X es gs ms)(h:(assignEach (e::es) X.env).map (·.2)=assign e X.env::(assignEach es X.env).map (·.2):=by rfl):QQ K X (e::es) (Ah g gs) (i7 m ms):=⟨Eh f.pg d.pg h,NI f.mg d.mg⟩
def jh(f:Us K X e g mo)(d:Pg K X es gs mos)(h:(assignEach (e::es) X.env).map (·.2)=assign e X.env::(assignEach es X.env).map (·.2):=by rfl):Pg K X (e::es) (Ah g gs) (i8 mo mos):=⟨Eh f.pg d.pg h,IU f.mg d.mg⟩
def lW n (f:X.calm=true) (h:QQ K X es gs ms) (j:X.K=K:=by rfl) (i:(assignEach es X.env).length=n:=by rfl) (d:(assignEach es X.env).findIdx? (·.1)=none:=by rfl):Uw K X (.Tuple es k pos) (Ji K n gs) (nh n ms):=by subst j;exact⟨Me f h.pg i d,Se h.mg⟩
def qA n (f:X.calm=true) (h:Pg K X es gs mos) (j:X.K=K:=by rfl) (i:(assignEach es X.env).length=n:=by rfl) (d:(assignEach es X.env).findIdx? (·.1)=none:=by rfl):Us K X (.Tuple es k pos) (Ji K n gs) (mj n mos):=by subst j;exact⟨Me f h.pg i d,QK h.mg⟩
end
section
variable {elt iter:Expr}{ifs:List Expr}{scope:Scope}{N:List Str}{ix:List (Option Nat)}{wi:TI}{g:TG}{tt:TT}{fi:Pe->M a0}{m:T->Pe->Option Pe}{ft:Pe->M Bool}
def iF:Mv K E X [] Sd (λ_=>.ok true):=⟨PX,Tr⟩
def kb(h:Df K E X c t f):Mv K E X [c] t f:=⟨N6 h.pt,h.mt⟩
@[simp] noncomputable def j5(ix:List (Option Nat))(fi:Pe->M a0)(m:T->Pe->Option Pe)(ft:Pe->M Bool)(fe:Pe->M T):Pe->M a0:=λf=>(fi f).bind λd=>(if d.length<sizeLine then sR (vG m ft fe (qh ix f)) d else .bad).noEr
def VB(s:X.calm=true)(k:NQ K E X tg iter wi fi)(L:Dt X scope N ix)(j:rA ix g)
  (f:∀C d H h i,Uw K (pj X N scope C d H h i) tg g m/\Mv K NP (pj X N scope C d H h i) ifs tt ft/\Pm K NP (pj X N scope C d H h i) elt te fe)
  (r:∀x,foldedSetIterable iter X.env x=pure x:=by intro _;rfl):Hj K E X (.ListComp elt [⟨tg,iter,ifs,0⟩] scope pos) (Kj ix wi g tt te) (j5 ix fi m ft fe):=by
 obtain⟨l,n,q⟩:=f 0 X.s₀ X.H₀ [] [];exact⟨VE s k.pi L j (λC d H h i=>⟨(f C d H h i).1.pg,(f C d H h i).2.1.pf,(f C d H h i).2.2.pe⟩) r,Rt k.mi l.mg n.mt q.me⟩
end
end
end L3
namespace L3
open PySem L2 PySem.Spec PyProof.Rows
section
variable {K:W.Frag}{E:XK}{X:Cx}{a b c e o tg it:Expr}{es:List Expr}{ta tb tc te to:TE}{fa fb fc fe fo:Pe->M T}{tr:TA}{fr:Pe->M a0}{pos pos' p p2 apos:Pos}{st:Stmt}{rq:List Stmt}{t u:TS}{g g':En->O}{ff:Pe->M a0}{x:Str}
def iw:r9 K E X [] vR iT:=⟨ya,QN⟩
def gN(h:vW K E X st t g):r9 K E X [st] t g:=⟨yo h.ps,h.ms⟩
def gH(h:vW K E X st t g)(d:r9 K E X rq u g'):r9 K E X (st::rq) (vB t u) (gW g g'):=⟨pN h.ps d.ps,Th h.ms d.ms⟩
def yn:vW K E X st GR (λ_=>.bad):=⟨L4,Md⟩
def jg(h:Pm K E X e te fe):vW K E X (.Return (some e) pos) (xU te) (iW fe):=⟨Ak h.pe,Sk h.me⟩
def kK(h:Hj K E X e te ff):vW K E X (.Return (some e) pos) (xU te) (nZ ff):=⟨Ak h.pe,N5 h.mf⟩
def sG i (h:PE X (.Name x p) (nM i)):vW K E X (.Return (some (.Name x p)) pos) (xU (nM i)) (qj i):=⟨Ak h,IF⟩
def iV{tc:TT}{fc:Pe->M Bool}(f:Df K E X c tc fc)(h:r9 K E X A t g)(d:r9 K E X B u g'):vW K E X (.If c A B pos) (CD tc t u) (mh fc g g'):=⟨HM f.pt h.ps d.ps,U2 f.mt h.ms d.ms⟩
def yC{tc:TT}{fc:Pe->M Bool}(d:En->Nat)(i:PassesOwn (model X.prog X.w) X.A X.env X.xe)(f:Df K E X c tc fc)(h:r9 K E X A t g):vW K E X (.While c A [] pos) (Gn tc t) (λρ=>nc fc g (d ρ) ρ):=⟨K7 i f.pt h.ps,NC d f.mt h.ms⟩
section
variable {w:TI}{fi:Pe->M a0}{gt:TG}{m:T->En->Option En}{A:List Stmt}
def jz(i:PassesOwn (model X.prog X.w) X.A X.env X.xe)(k:X.calm=true)(f:NQ K E X tg it w fi)(d:Us K X tg gt m)(h:r9 K E X A t g)(j:∀x,foldedSetIterable it X.env x=pure x:=by intro _;rfl):vW K E X (.For tg it A [] pos) (Kq w gt t) (m8 fi m g):=⟨Mf i k f.pi d.pg h.ps j,S6 f.mi d.mg h.ms⟩
def oG(i:PassesOwn (model X.prog X.w) X.A X.env X.xe)(k:X.calm=true)(f:zH K E X tg it w fi)(d:Us K X tg gt m)(h:r9 K E X A t g)(j:∀x,foldedSetIterable it X.env x=pure x:=by intro _;rfl):vW K E X (.For tg it A [] pos) (Kq w gt t) (qU fi m g):=⟨Mf i k f.pi d.pg h.ps j,QF f.mi d.mg h.ms⟩
end
def RM i (r:X.N.Nodup) (w:HR X.env.scope x)
  (A:X.calm=true) (n:NQ K E X tg iter wi fi) (L:Dt X scope N ix) (k:rA ix gt)
  (f:∀C d H h j,Uw K (pj X N scope C d H h j) tg gt m/\Mv K NP (pj X N scope C d H h j) ifs tt ft/\Pm K NP (pj X N scope C d H h j) elt te fe)
  (y:MF K E (Kj ix wi gt tt te) (j5 ix fi m ft fe)->MS K E (nW (Kj ix wi gt tt te) (j9 i)) gm)
  (z:X.N[i]? = some x:=by rfl) (q:X.fn x=true\/X.env.scope.names.lookup x=some .local:=by first|exact .inl rfl|exact .inr rfl)
  (l:swapsWith (.ListComp elt [⟨tg,iter,ifs,0⟩] scope pos) (some (.Name x py)) spos.line X.env=pure true:=by rfl)
  (v:∀x,foldedSetIterable iter X.env x=pure x:=by intro _;rfl):vW K E X (.Assign [.Name x py] (.ListComp elt [⟨tg,iter,ifs,0⟩] scope pos) spos) (nW (Kj ix wi gt tt te) (j9 i)) gm:=by
 obtain⟨B,D,s⟩:=f 0 X.s₀ X.H₀ [] [];exact⟨LO r z w A n.pi L k (λC d H h j=>⟨(f C d H h j).1.pg,(f C d H h j).2.1.pf,(f C d H h j).2.2.pe⟩) q l v,y (Rt n.mi B.mg D.mt s.me)⟩
def iK i (f:X.N.Nodup) (h:Pm K E X e te fe) (l:HR X.env.scope x:=by first|exact Or.inl rfl|exact Or.inr rfl) (j:X.N[i]? = some x:=by rfl) (k:swapsWith e (some (.Name x pos')) pos.line X.env=pure false:=by rfl) (d:X.fn x=true\/X.env.scope.names.lookup x=some .local:=by first|exact .inl rfl|exact .inr rfl|assumption) :
  vW K E X (.Assign [.Name x pos'] e pos) (nW te (j9 i)) (setO i (jr fe)):=⟨y9 f j l h.pe k d,Ht h.me⟩
def zR i (f:X.N.Nodup) (h:Pm K E X e te fe) (l:HR X.env.scope x:=by first|exact Or.inl rfl|exact Or.inr rfl) (j:X.N[i]? = some x:=by rfl) (k:swapsWith e (some (.Name x pos')) pos.line X.env=pure false:=by rfl) (d:X.fn x=true\/X.env.scope.names.lookup x=some .local:=by first|exact .inl rfl|exact .inr rfl|assumption) :
  vW K E X (.Assign [.Name x pos'] e pos) (nW te (j9 i)) (setO i (oV fe)):=⟨y9 f j l h.pe k d,OR h.me⟩
def sr i (f:X.N.Nodup) (h:Hj K E X e te ff) (l:HR X.env.scope x:=by first|exact Or.inl rfl|exact Or.inr rfl) (j:X.N[i]? = some x:=by rfl) (k:swapsWith e (some (.Name x pos')) pos.line X.env=pure false:=by rfl) (d:X.fn x=true\/X.env.scope.names.lookup x=some .local:=by first|exact .inl rfl|exact .inr rfl|assumption) :
  vW K E X (.Assign [.Name x pos'] e pos) (nW te (j9 i)) (pB i (qt ff)):=⟨y9 f j l h.pe k d,Iy h.mf⟩
def nS(h:MF K E te ff):MS K E (nW te (j9 i)) (setO i (jr λρ=>(ff ρ).bind λts=>.ok (.lst ts))):=Ht h.me
@[simp] noncomputable def QJ(i j:Nat)(fr:Pe->M a0):En->O:=λd=>.of (fr (mD d)) λf=>match f with
 |[x,y]=>.nx ((d.set i (some (.p x))).set j (some (.p y)))
 |_=>.bad
def Sn(h:MA K E tr fr):MS K E (TB i j tr) (QJ i j fr):=λA w F H k l D r q=>by
 refine h F H k (mD l) _ r.gr.fh r.vars ((O.res_of q).mono (λB z y v m f d=>?_) λC n z=>z.go r.gr);have s:=r.grow f;cases d with
 |nil=>exact z.elim
 |cons h1 d=>
  cases d with
  |nil=>exact z.elim
  |cons h2 d=>
   cases d with
   |nil=>exact⟨_,_,rfl,z v m _ f.ff ((s.setP h1).setP h2)⟩
   |cons h3 d=>exact z.elim
def PZ{kt k2 pt2}(q:X.calm=true)(h:X.N.Nodup)(k:X.N[i]? = some x)(m:X.N[j]? = some y)(d:i≠j)
  (r:X.env.scope.names.lookup x=some .local) (l:X.env.scope.names.lookup y=some .local) (f:Dr K E X [a,b] tr fr)
  (hw:swappedStores [.Tuple [.Name x px,.Name y py] kt pt] (.Tuple [a,b] k2 pt2) X.env=pure (some [x,y]))
  (n:swapsWithSole [.Tuple [.Name x px,.Name y py] kt pt] (.Tuple [a,b] k2 pt2) pos.line X.env=pure false:=by rfl) :
  vW K E X (.Assign [.Tuple [.Name x px,.Name y py] kt pt] (.Tuple [a,b] k2 pt2) pos) (TB i j tr) (QJ i j fr):=⟨RB q h k m d r l f.pa hw n,Sn f.ma⟩
def B6(h:H l=some (.lst xs)):Tn K "list" (.ref l) H:=.inl ⟨rfl,_,mz.of h⟩
def oB i (hv:PE X (.Name x p) (nM i)) (m:Pm K E X e te fe) (n:starEach [e] X.env=(false,eval e X.env)::starEach [] X.env:=by rfl) (q:X.K=K:=by rfl)
  (f:attributeBase (.Name x p) "append" X.env (eval (.Name x p) X.env)=eval (.Name x p) X.env:=by rfl)
  (j:((backTo pos (starEach [e] X.env)).all (λx=>!x.1)&&(backToKw pos (keywordEach [] X.env)).all (λx=>x.1.isSome)&&decide (([e]:List Expr).length+([]:List Keyword).length+(if ([]:List Keyword).isEmpty then 0 else 1)<30))=true:=by rfl)
  (d:(apos.endLine==pos.line)=true:=by rfl) (hplain:(backTo pos (starEach [] X.env)).any (·.1)=false:=by rfl) (k:swapsWith (.Call (.Attribute (.Name x p) "append" apos) [e] [] pos) none pos'.line X.env=pure false:=by rfl) :
  vW K E X (.Expr (.Call (.Attribute (.Name x p) "append" apos) [e] [] pos) pos') (qR (IT K i te)) (qV i (jr fe)):=by
 subst q;exact⟨vL (Ig PySem.F.plainAttrs_list PySem.F.slot_list_append PySem.F.type_list_append tW hv (qc m.pe uJ n) f j d n hplain) k,Qb (λl r H h=>B6 h) m.me⟩
def Na i (hv:PE X (.Name x p) (nM i)) (m:Pm K E X e te fe) (n:starEach [e] X.env=(false,eval e X.env)::starEach [] X.env:=by rfl) (q:X.K=K:=by rfl)
  (f:attributeBase (.Name x p) "append" X.env (eval (.Name x p) X.env)=eval (.Name x p) X.env:=by rfl)
  (j:((backTo pos (starEach [e] X.env)).all (λx=>!x.1)&&(backToKw pos (keywordEach [] X.env)).all (λx=>x.1.isSome)&&decide (([e]:List Expr).length+([]:List Keyword).length+(if ([]:List Keyword).isEmpty then 0 else 1)<30))=true:=by rfl)
  (d:(apos.endLine==pos.line)=true:=by rfl) (hplain:(backTo pos (starEach [] X.env)).any (·.1)=false:=by rfl) (k:swapsWith (.Call (.Attribute (.Name x p) "append" apos) [e] [] pos) none pos'.line X.env=pure false:=by rfl) :
  vW K E X (.Expr (.Call (.Attribute (.Name x p) "append" apos) [e] [] pos) pos') (qR (IT K i te)) (qV i (oV fe)):=by
 subst q;exact⟨vL (Ig PySem.F.plainAttrs_list PySem.F.slot_list_append PySem.F.type_list_append tW hv (qc m.pe uJ n) f j d n hplain) k,OV (λl r H h=>B6 h) m.me⟩
def vm i (hv:PE X (.Name x p) (nM i)) (d:Pm K E X b tb fb) (h:Pm K E X e te fe)
  (f:∀v,assign (.Subscript (.Name x p) b p2) X.env v=(do
   let ov <-holding [v] (eval (.Name x p) X.env)
   let iv <-holding [v,ov] (eval b X.env)
   standAt p2
   holding [v,ov,iv] (setItem ov iv v)
   release [v,ov,iv] []):=by intro _;rfl)
  (k:swapsWithSole [.Subscript (.Name x p) b p2] e pos.line X.env=pure false:=by rfl) (hw:swappedStores [.Subscript (.Name x p) b p2] e X.env=pure none:=by rfl)
  (j:(assignEach [.Subscript (.Name x p) b p2] X.env).map (·.2)=[assign (.Subscript (.Name x p) b p2) X.env]:=by rfl) :
  vW K E X (.Assign [.Subscript (.Name x p) b p2] e pos) (nW te (R7 (nM i) tb Hm)) (xS i (oV fb) (oV fe)):=⟨Np h.pe (RG hv d.pe LH f) k hw j,Ua h.me d.me⟩
def Nl(h:Pm K E X e te fe)(d:swapsWith e none pos.line X.env=pure false:=by rfl):vW K E X (.Expr e pos) (qR te) (zD (jr fe)):=⟨vL h.pe d,Mr h.me⟩
end
section
variable {P:Program}{w:World}{K:W.Frag}{mg:Str->Option Value}{base:Heap}{x:Str}{st:Stmt}{N ps:List Str}{k:Nat}{g:En->O}
def WA(D:gQ K mg x st)(S:kh N ps (gZ st))
  (i:∀(kV c m:Value) (e:Option Addr) (b l:Value) (us:List Value),us.length=ps.length->bindArgs (W.fnOf x x (kH st) (jx st) (gZ st) .none kV c m e b l) ⟨us,[]⟩=pure (ps.zip us))
  (d:∀(f:Addr) (b:Value) (A:Around) (a:List Env) (s:Shared) (H:Hp) (E:XK),jZ k (A.deeper (envOfC x (gZ st) s.heap.objs.size f b))->∃t,r9 K E (sM Aw P w K mg base N x (gZ st) f b A a s H E).nox (jx st) t g) :
  mU P w K mg base x (k+1) (uT K (lG ps.length N.length g)):=
 De D S i (λj H Q E h=>GS h) λf b A a s H j Q E hr h=>let ⟨t,hp⟩:=d f b A a s H E hr;⟨t,hp.ps,Cf hp.ms h⟩
def WI(D:gQ K mg x st)(S:kh N ps (gZ st))
  (i:∀(kV c m:Value) (e:Option Addr) (b l:Value) (us:List Value),us.length=ps.length->bindArgs (W.fnOf x x (kH st) (jx st) (gZ st) .none kV c m e b l) ⟨us,[]⟩=pure (ps.zip us))
  (d:∀(f:Addr) (b:Value) (A:Around) (a:List Env) (s:Shared) (H:Hp) (E:XK),jZ k (A.deeper (envOfC x (gZ st) s.heap.objs.size f b))->∃t,r9 K E (sM Aw P w K mg base N x (gZ st) f b A a s H E).nox (jx st) t g) :
  mU P w K mg base x (k+1) (DB K (v5 ps.length N.length g)):=
 De D S i (λj H Q E h=>Ij h) λf b A a s H j Q E hr h=>let ⟨t,hp⟩:=d f b A a s H E hr;⟨t,hp.ps,EL hp.ms h⟩
end
end L3
namespace L3
open PySem L2 PySem.Spec PyProof.Rows
section
variable {K:W.Frag}{E:XK}{X:Cx}{a b c e o tg it:Expr}{es:List Expr}{ta tb tc te to:TE}{fa fb fc fe fo:Pe->M T}{tr:TA}{fr:Pe->M a0}{pos p p2 apos:Pos}
@[simp] noncomputable def jw(f:Pe->M a0):Pe->M T:=λg=>(f g).bind λd=>.ok (.lst d)
def jA(d:X.K=K:=by rfl):lR X (.builtin "len") (λxs H Q=>∃x n,xs=[x]/\TJ K x H n/\Q (.int n) H):=d▸KG
def tR(f:X.calm=true)(g:X.K=K:=by rfl):lR X (.builtin "sum") (λxs H Q=>∃(p:Addr) (d:LI),xs=[.ref p]/\mz K H p (d.map V.int)/\Q (.int d.sum) H):=g▸Nx f
def qJ(d:X.calm=true)(f:X.K=K:=by rfl):lR X (.builtin "all") (λxs H Q=>∃(p:Addr) (bs:List Bool),xs=[.ref p]/\mz K H p (bs.map V.bl)/\Q (.bl (bs.all id)) H):=f▸NH d
def tU(d:X.calm=true)(f:X.K=K:=by rfl):lR X (.builtin "any") (λxs H Q=>∃p vs bs,xs=[.ref p]/\(mz K H p vs\/oK K H p vs)/\oF vs=some bs/\Q (.bl (bs.any id)) H):=f▸JU d
def jv(f:X.K=K:=by rfl):lR X (.type "tuple") (λxs H Q=>∃p d,xs=[.ref p]/\((mz K H p d/\∀l,H l=none->Q (.ref l) (jR H l (.tup d)))\/(oK K H p d/\Q (.ref p) H))):=f▸AJ
def ku(f:X.K=K:=by rfl):lR X (.type "list") (λxs H Q=>∃p d,xs=[.ref p]/\(mz K H p d\/oK K H p d)/\∀l,H l=none->Q (.ref l) (jR H l (.lst d))):=f▸Cc
def Kk(d:X.K=K:=by rfl):rO X (compareOp .In) (Vy K false):=d▸Jw
def Jy(d:X.K=K:=by rfl):rO X (compareOp .NotIn) (Vy K true):=d▸Ck
def Pi:T->Option Bool
 |.bl b=>some b
 |.int i=>some (i != 0)
 |_=>none
def uB:List T->Option (List Bool)
 |[]=>some []
 |v::vs=>(Pi v).bind λb=>(uB vs).bind λr=>some (b::r)
theorem BS:∀{vs} {ts},iD K F vs ts->oF vs=uB ts
 |_,_,.nil=>rfl
 |v::vs,t::ts,.cons h r=>by
  have e:DX v=Pi t:=by cases h<;>rfl
  rw[oF,uB,BS r,e]
@[simp] theorem Gc(d:LI):uB (d.map T.int)=some (d.map λn=>n != 0):=by
 induction d with
 |nil=>rfl
 |cons n d ih=>simp[uB,Pi,ih]
@[simp] theorem Uu ns:uB (ns.map T.bl)=some ns:=by
 induction ns with
 |nil=>rfl
 |cons n ns ih=>simp[uB,Pi,ih]
@[simp] noncomputable def vJ(ts:List T):M T:=match uB ts with
 |some bs=>.ok (.bl (bs.any id))
 |none=>.bad
@[simp] noncomputable def xN:List T->M T
 |[.lst ts]=>vJ ts
 |[.tup ts]=>vJ ts
 |_=>.bad
def MZ ts:M.NoE (vJ ts):=λC n=>by unfold vJ;split<;>intro z<;>cases z
def Oh xs:M.NoE (xN xs):=λC n=>by unfold xN;split<;>first|exact MZ _ C n|(intro z;cases z)
def Ce:MC K (λxs H Q=>∃p vs bs,xs=[.ref p]/\(mz K H p vs\/oK K H p vs)/\oF vs=some bs/\Q (.bl (bs.any id)) H) xN:=⟨Oh,λF H vs xs Q s r q=>by
 cases r with
 |nil=>exact q.elim
 |cons h t=>
  cases t with
  |cons _ _=>cases h<;>exact q.elim
  |nil=>
   cases h with
   |lst h r=>
    rename_i a xs f;have d:(vJ f).res (kV K F H Q) (λ_ _=>False):=q;unfold vJ at d;cases e:uB f with
    |none=>rw[e]at d;exact d.elim
    |some bs=>rw[e]at d;exact⟨a,xs,bs,rfl,.inl (mz.of (s _ _ h)),by rw[BS r];exact e,kV.now d s (.bl _)⟩
   |tup h r=>
    rename_i a xs f;have d:(vJ f).res (kV K F H Q) (λ_ _=>False):=q;unfold vJ at d;cases e:uB f with
    |none=>rw[e]at d;exact d.elim
    |some bs=>rw[e]at d;exact⟨a,xs,bs,rfl,.inr (oK.of (s _ _ h)),by rw[BS r];exact e,kV.now d s (.bl _)⟩
   |_=>exact q.elim⟩
noncomputable def E9:T->T->M T
 |.tup a,.int k=>if Fu k=true/\a.length*k.toNat<=sizeLine then .ok (.tup (List.replicate k.toNat a).flatten) else .bad
 |_,_=>.bad
def LA x y:M.NoE (E9 x y):=λC n=>by unfold E9;split<;>first|(split<;>intro z<;>cases z)|(intro z;cases z)
def Qt:MR K K9 E9:=⟨LA,λF H v w x y Q s j rb q=>by
 cases j with
 |tup h r=>
  cases rb with
  |int k=>
   rename_i a l f;have d:(if Fu k=true/\f.length*k.toNat<=sizeLine then M.ok (T.tup (List.replicate k.toNat f).flatten) else M.bad).res (kV K F H Q) (λ_ _=>False):=q;by_cases g:Fu k=true/\f.length*k.toNat<=sizeLine
   .rw[aQ g]at d;refine⟨a,k,l,rfl,rfl,s _ _ h,by have:=tM g.1;rw[UX]at this;rw[V7];omega,by have:=tM g.1;rw[UX]at this;rw[V7];omega,by rw[r.length];exact g.2,λz=>?_,λz p i=>?_⟩
    .have:(List.replicate k.toNat f).flatten=f:=by
      rcases z with z|z
      .subst z;cases r;simp
      .subst z;simp
     rw[this]at d;exact kV.now d s (.tup h r)
    .exact d (.ref p) _ _ (.new s i) (.tup hU ((r.rep k.toNat).mono (Gr.new s i).ff))
   .rw[aR g]at d;exact d.elim
  |_=>exact q.elim
 |_=>exact q.elim⟩
@[simp] noncomputable def KS(fa fb:Pe->M T):Pe->M T:=gR E9 fa fb
def Pj(d:Pm K E X a ta fa)(f:Pm K E X b tb fb):Pm K E X (.BinOp a .Mult b pos) (wL K9 ta tb) (KS fa fb):=yI Qd Qt d f
noncomputable def oU(xs:List T):List T:=(xs.zipIdx).map λp=>T.tup [.int (p.2:Int),p.1]
def L6(K:W.Frag)(ta:TA):TI:=λd H R=>∃b,KF K b ta d H R
@[simp] noncomputable def tz(fa:Pe->M a0):Pe->M a0:=λf=>(fa f).bind λg=>match g with
 |[x]=>(seqT x).bind λd=>.ok (oU d)
 |_=>.bad
def NV{b:Bool}(d:∀H,iJ F H->xK K H b l xs)(f:iD K F xs ts):AE K (WJ K b l) (oU ts) F where
 go:=λi H s q=>by
  have j:i<ts.length:=by simpa[oU] using q
  have h:xs[i]? = some (xs[i]'(by rw[f.length];exact j)):=ag _;exact⟨xs,_,d H s,h⟩
 stop:=λH s=>⟨xs,d H s,by simp[oU,f.length]⟩
 yld:=λi t A H x z k m e y=>by
  obtain⟨p,u,rfl,v,rfl,h⟩:=y;obtain⟨w,r,n⟩:=f.at_ (h xs (d H (k.trans m)));have:t=.tup [.int i,w]:=by unfold oU at e;rw[av,List.getElem?_zipIdx,r]at e;simp at e;exact e.symm
  rw[this];have g:=Gr.new (o:=.tup [.int i,u]) m v;exact⟨_,g,.tup hU (.cons (.int _) (.cons ((n.mono k).mono g.ff) .nil))⟩
noncomputable def GD(b:Bool)(fa:Pe->M a0):Pe->M a0:=λf=>(fa f).bind λg=>match g with
 |[x]=>(seqB b x).bind λd=>.ok (oU d)
 |_=>.bad
def EJ{b:Bool}(i:MA K E tr fr):MI K E (KF K b tr) (GD b fr):=λF H v w R s V q=>by
 refine i.run s V q λz y j l h k d=>?_;split at d
 .rename_i x;cases k with
  |cons a c=>
   cases c;cases f:seqB b x with
   |bad=>rw[f]at d;exact d.elim
   |er C n=>exact absurd f Dg
   |ok ts=>rw[f]at d;obtain⟨r,m,rfl,g,u⟩:=CJ a f;exact⟨r,rfl,⟨m,g _ h.fh⟩,d _ j l h (NV g u)⟩
 .exact d.elim
def OT(f:MA K E tr fr):MI K E (L6 K tr) (tz fr):=λF H g d R s V q=>by
 unfold tz at q;cases e:fr d with
 |bad=>rw[e]at q;exact q.elim
 |er C n=>rw[e]at q;exact⟨true,EJ f F H g d R s V (by unfold GD;rw[e];exact q)⟩
 |ok xs=>
  rw[e]at q;match xs,e,q with
  |[],_,q=>exact q.elim
  |[x],e,q=>refine⟨vn x,EJ f F H g d R s V ?_⟩;unfold GD;rw[e];have h:((seqT x).bind λi=>M.ok (oU i)).res (kI K F H R) (kE E F H):=q;rw[GX x]at h;exact h
  |_::_::_,_,q=>exact q.elim
def BU{x1}(i:X.mg "enumerate" = none)(d:Dr K E X [a] tr fr)(l:X.K=K:=by rfl)(g:Gl X "enumerate" :=by rfl)(k:starEach [a] X.env=[(false,eval a X.env)]:=by rfl) :
  NQ K E X (.Tuple elts x1 tpos) (.Call (.Name "enumerate" p) [a] [] pos) (L6 K tr) (tz fr):=by
 subst l;refine⟨λf s j H R I h=>?_,OT d.ma⟩;obtain⟨b,h⟩:=h;exact Nm g i d.pa k f s j H R I h
end
structure Bs(mg:Str->Option Value):Prop where
 abs:mg "abs" = none
 isinstance:mg "isinstance" = none
 int:mg "int" = none
 bool:mg "bool" = none
 len:mg "len" = none
 range:mg "range" = none
 tuple:mg "tuple" = none
 list:mg "list" = none
 str:mg "str" = none
 all:mg "all" = none
 any:mg "any" = none
 sum:mg "sum" = none
 zip:mg "zip" = none
 max:mg "max" = none
 min:mg "min" = none
 enumerate:mg "enumerate" = none
 reversed:mg "reversed" = none
 set:mg "set" = none
 dict:mg "dict" = none
 sorted:mg "sorted" = none
def lu:bootBuiltins "list" = some (.type "list"):=by decide +kernel
def S3:bootBuiltins "max" = some (.builtin "max"):=by decide +kernel
def T2:bootBuiltins "min" = some (.builtin "min"):=by decide +kernel
end L3
namespace L3
open PySem L2
section
variable {α:Type}
theorem BH enc f:∀(l:List α),(∀a∈l,k (enc a)=.ok (some (f a)))->sR k (l.map enc)=.ok (l.map f)
 |[],_=>rfl
 |a::l,h=>by rw[bI,sR,h a (by simp),M.bind_ok,BH enc f l λb c=>h b (by simp[c])];rfl
theorem vg enc f p:∀(l:List α),(∀a∈l,k (enc a)=.ok (if p a then some (f a) else none))->sR k (l.map enc)=.ok ((l.filter p).map f)
 |[],_=>rfl
 |a::l,h=>by
  rw[bI,sR,h a (by simp),M.bind_ok,vg enc f p l λb d=>h b (by simp[d])];by_cases c:p a=true
  .simp[c]
  .simp[c]
theorem jE enc (P:Nat->En->Prop):∀(l:List α) (k:Nat) (ρ:En),P k ρ->
  (∀i a ρ,l[i]? = some a->P (k+i) ρ->∃d c,m (enc a) ρ=some d/\(g d=.nx c\/g d=.ct c)/\P (k+i+1) c)->∃ρ',j3 m g (l.map enc) ρ=.nx ρ'/\P (k+l.length) ρ'
 |[],k,ρ,h,_=>⟨ρ,rfl,h⟩
 |a::l,k,ρ,h,st=>by
  obtain⟨d,c,n,f,j⟩:=st 0 a ρ rfl h;obtain⟨ρ',e,q⟩:=jE enc P l (k+1) c j λi b ρ p o=>by have:=st (i+1) b ρ (by simpa using p) (by rw[show k+(i+1)=k+1+i by omega];exact o);rw[show k+1+i+1=k+(i+1)+1 by omega];exact this
  refine⟨ρ',?_,by rw[ay,show k+(l.length+1)=k+1+l.length by omega];exact q⟩;rw[bI,j3,n];rcases f with f|f<;>(dsimp only;rw[f];exact e)
theorem qH enc (P:En->Prop):∀(l:List α) (ρ:En),P ρ->
  (∀a∈l,∀ρ,P ρ->∃d c,m (enc a) ρ=some d/\(g d=.nx c\/g d=.ct c)/\P c)->∃ρ',j3 m g (l.map enc) ρ=.nx ρ'/\P ρ'
 |[],ρ,h,_=>⟨ρ,rfl,h⟩
 |a::l,ρ,h,st=>by obtain⟨d,c,j,f,i⟩:=st a (by simp) ρ h;obtain⟨ρ',e,n⟩:=qH enc P l c i λb o ρ k=>st b (by simp[o]) ρ k;refine⟨ρ',?_,n⟩;rw[bI,j3,j];rcases f with f|f<;>(dsimp only;rw[f];exact e)
theorem oo(P:En->Prop)(d:En->Nat)(R:En->Prop)(st:∀ρ,P ρ->(c (vw ρ)=.ok false/\R ρ)\/(c (vw ρ)=.ok true/\∃a,(g ρ=.nx a\/g ρ=.ct a)/\P a/\d a<d ρ)) :
  ∀n ρ,P ρ->d ρ<n->∃ρ',nc c g n ρ=.nx ρ'/\R ρ'
 |0,ρ,_,h=>absurd h (dq _)
 |n+1,ρ,hP,hn=>by
  rcases st ρ hP with⟨e,r⟩|⟨e,a,b,f,j⟩
  .exact⟨ρ,by rw[nc,e];rfl,r⟩
  .obtain⟨ρ',i,r⟩:=oo P d R st n a f (by omega);refine⟨ρ',?_,r⟩;rw[nc,e,O.of_ok,aQ rfl];rcases b with b|b<;>(rw[b];exact i)
end
def yx{g:Type}(l:List g) enc f (i:fi ρ=.ok (l.map enc)) (j:l.length<sizeLine)
  (o:∀a∈l,∃b,m (enc a) (qh ix ρ)=some b/\ft b=.ok true/\fe b=.ok (f a)):j5 ix fi m ft fe ρ=.ok (l.map f):=by
 have h:=BH (k:=vG m ft fe (qh ix ρ)) enc f l λa c=>by obtain⟨b,d,e,n⟩:=o a c;unfold vG;rw[d];dsimp only;rw[e,M.bind_ok,aQ rfl,n];rfl
 unfold j5;rw[i,M.bind_ok,aw,aQ j,h];rfl
theorem Ge{g:Type}(l:List g) enc f p (i:fi ρ=.ok (l.map enc)) (n:l.length<sizeLine)
  (q:∀a∈l,∃b,m (enc a) (qh ix ρ)=some b/\ft b=.ok (p a)/\(p a=true->fe b=.ok (f a))):j5 ix fi m ft fe ρ=.ok ((l.filter p).map f):=by
 have h:=vg (k:=vG m ft fe (qh ix ρ)) enc f p l λa c=>by
  obtain⟨b,d,e,o⟩:=q a c;unfold vG;rw[d];dsimp only;rw[e,M.bind_ok];cases j:p a with
  |true=>rw[aQ rfl,aQ rfl,o j];rfl
  |false=>rw[aR aH,aR aH]
 unfold j5;rw[i,M.bind_ok,aw,aQ n,h];rfl
def jC{c:Type}(l:List c) enc f (d:fi ρ=.ok (l.map enc)) (e:l.length<sizeLine)
  (g:∀a∈l,∃b,m (enc a) (qh ix ρ)=some b/\ft b=.ok true/\fe b=.ok (f a)) (hr:l.map f=ts):j5 ix fi m ft fe ρ=.ok ts:=by rw[<-hr];exact yx l enc f d e g
def og{c:Type}(l:List c) enc f p (d:fi ρ=.ok (l.map enc)) (e:l.length<sizeLine)
  (g:∀a∈l,∃b,m (enc a) (qh ix ρ)=some b/\ft b=.ok (p a)/\(p a=true->fe b=.ok (f a))) (hr:(l.filter p).map f=ts):j5 ix fi m ft fe ρ=.ok ts:=by rw[<-hr];exact Ge l enc f p d e g
def UE lo n:CQ lo n=(List.range n).map λ(i:Nat)=>T.int (lo+(i:Int)):=rfl
noncomputable def tI(a:LI):T:=.tup (a.map T.int)
def tL(a:LI):T:=.lst (a.map T.int)
def fr(p:Int×Int):T:=.tup [.int p.1,.int p.2]
noncomputable def tS(s:List (Int×Int)):T:=.tup (s.map fr)
def Gy(l:List α)(i:Int)(c:0<=i)(b:i<l.length):∃a,uD l i=some a/\a∈l:=by
 unfold uD Av;rw[aQ c,aQ b];have d:i.toNat<l.length:=by omega
 exact⟨l[i.toNat],by simp[d],aV _⟩
def iE(h:PySem.IntMulOk i j):jF (.int i) (.int j)=.ok (.int (i*j)):=by simp[jF,my,h]
def lC(h:j≠0)(a:Builtin.divisionGoesByPylong i j=false):n0 (.int i) (.int j)=.ok (.int (i.fdiv j)):=by simp[n0,my,h,a]
def tO(h:j≠0):w6 (.int i) (.int j)=.ok (.int (i.fmod j)):=by simp[w6,my,h]
@[simp] theorem jH i j:jI (.int i) (.int j)=.ok (.int (i+j)):=rfl
@[simp] theorem nr i j:uS (.int i) (.int j)=.ok (.int (i-j)):=rfl
@[simp] theorem oy i j:Dq (.int i) (.int j)=.ok (.bl (decide (i<j))):=rfl
@[simp] theorem CB i j:M8 (.int i) (.int j)=.ok (.bl (decide (i<=j))):=rfl
@[simp] theorem vH i j:FM (.int i) (.int j)=.ok (.bl (decide (j<i))):=rfl
@[simp] theorem yw i j:Rn (.int i) (.int j)=.ok (.bl (decide (j<=i))):=rfl
@[simp] theorem jK i j:iA false (.int i) (.int j)=.ok (.bl (i==j)):=by simp[iA,qG,pk]
@[simp] theorem nO i j:iA true (.int i) (.int j)=.ok (.bl (!(i==j))):=by simp[iA,qG,pk]
def qX(h:i.natAbs<2 ^ 64):PySem.IntMulOk i j:=IntMulOk.of_left (PyProof.Rows.intBits_le h)
def zJ(h:j.natAbs<2 ^ 64):PySem.IntMulOk i j:=PySem.IntMulOk.of_right (PyProof.Rows.intBits_le h)
def Bn(n:Nat)(x:Int):Prop:=x.natAbs<2 ^ n
def Bn.mono(h:Bn m x)(a:m<=n):Bn n x:=aE h (du (by decide) a)
def Bn.mul(h:Bn m x)(a:Bn n y):Bn (m+n) (x*y):=by unfold Bn at *;rw[aY,Nat.pow_add];exact Nat.mul_lt_mul'' h a
def Bn.add(h:Bn m x)(c:Bn n y):Bn (max m n+1) (x+y):=by have a:Bn (max m n) x:=h.mono (dw _ _);have b:Bn (max m n) y:=c.mono (dy _ _);unfold Bn at *;rw[dz];have:=dA x y;omega
def Bn.neg(h:Bn m x):Bn m (-x):=by unfold Bn at *;rw[dB];exact h
def Bn.sub(h:Bn m x)(a:Bn n y):Bn (max m n+1) (x-y):=by rw[Int.sub_eq_add_neg];exact h.add a.neg
def Bn.ok(h:Bn m x)(a:Bn n y)(b:m<=2 ^ 20)(c:n<=2 ^ 20):PySem.IntMulOk x y:=IntMulOk.of_bits (aN (PyProof.Rows.intBits_le h) b) (aN (PyProof.Rows.intBits_le a) c)
def Bn.noPy(h:Bn n y)(a:n<=8000):Builtin.divisionGoesByPylong x y=false:=Cu.noPy (PyProof.Rows.intBits_le h) a
section
variable {a b g:En->O}{ρ ρ':En}{r:O}{fc:Pe->M Bool}{f:Pe->M T}{ff:Pe->M a0}{t:T}{ts:List T}{k n i:Nat}
def gM(d:a ρ=.nx ρ')(c:b ρ'=r):gW a b ρ=r:=by unfold gW;rw[d];exact c
def lS(c:a ρ=.rt t)(hr:.rt t=r):gW a b ρ=r:=by unfold gW;rw[c];exact hr
def jf(h:fc (vw ρ)=.ok true)(c:a ρ=r):mh fc a b ρ=r:=by unfold mh;rw[h];exact c
def iS(h:fc (vw ρ)=.ok false)(c:b ρ=r):mh fc a b ρ=r:=by unfold mh;rw[h];exact c
def gU(h:f (mD ρ)=.ok t)(hr:ρ'=ρ.set i (some (.p t))):setO i (jr f) ρ=.nx ρ':=by unfold setO jr;rw[h,hr];rfl
def ym(h:f (vw ρ)=.ok t)(c:lf t=true)(hr:ρ'=ρ.set i (some (.p t))):setO i (oV f) ρ=.nx ρ':=by unfold setO oV;rw[h,hr];simp[c]
def ou(h:ff (mD ρ)=.ok ts)(hr:ρ'=ρ.set i (some (.o ts))):pB i (qt ff) ρ=.nx ρ':=by unfold pB qt;rw[h,hr];rfl
def PF(h:ff (vw ρ)=.ok ts)(c:B4 ts=true)(hr:ρ'=ρ.set i (some (.o ts))):pB i (AC ff) ρ=.nx ρ':=by unfold pB AC;rw[h,hr];simp[c]
def wO(d:ρ[i]? = some (some (.o us)))(h:f (mD ρ)=.ok t)(c:us.length<sizeLine)(hr:ρ'=ρ.set i (some (.o (us++[t])))):qV i (jr f) ρ=.nx ρ':=by unfold qV jr oE;rw[d,h,hr];simp[c]
def NY(c:ρ[i]? = some (some (.o us)))(h:f (vw ρ)=.ok t)(d:lf t=true)(e:us.length<sizeLine)(hr:ρ'=ρ.set i (some (.o (us++[t])))):qV i (oV f) ρ=.nx ρ':=by unfold qV oV oE;rw[c,h,hr];simp[e,d]
def BO(c:ρ[i]? = some (some (.o us)))(h:f (vw ρ)=.ok t)(e:lf t=true)(d:fk (vw ρ)=.ok (.int j))(l:Av us.length j=some m)(hr:ρ'=ρ.set i (some (.o (us.set m t)))):xS i (oV fk) (oV f) ρ=.nx ρ':=by unfold xS oV oE;rw[c,h,d,hr];simp[e,l]
def ig(h:f (vw ρ)=.ok t):iW f ρ=.rt t:=by unfold iW;rw[h];rfl
def mP(h:ff (vw ρ)=.ok ts):nZ ff ρ=.rf ts:=by unfold nZ;rw[h];rfl
def C8(h:f (mD ρ)=.ok t):zD (jr f) ρ=.nx ρ:=by unfold zD jr;rw[h];rfl
def jT(h:fi (mD ρ)=.ok its)(c:j3 m g its ρ=r):m8 fi m g ρ=r:=by unfold m8;rw[h];exact c
def nG(h:fi (vw ρ)=.ok its)(c:j3 m g its ρ=r):qU fi m g ρ=r:=by unfold qU;rw[h];exact c
def iI(c:ts.length=k)(h:g (i9 n ts)=.rt t):lG k n g ts=.ok t:=by unfold lG;rw[aQ c,h];rfl
def Rq(c:ts.length=k)(h:g (i9 n ts)=.nx ρ):lG k n g ts=.ok .non:=by unfold lG;rw[aQ c,h];rfl
def mx(c:ts.length=k)(h:g (i9 n ts)=.rf us):v5 k n g ts=.ok us:=by unfold v5;rw[aQ c,h];rfl
end
def U4 n:CQ 0 n=(List.range n).map λ(i:Nat)=>T.int (i:Int):=by simp[CQ]
theorem sA{c:Type} f:∀(l:List c),(∀a∈l,qG (f a)=true)->uf (l.map f)=true
 |[],_=>rfl
 |a::l,h=>by rw[bI,uf,h a (by simp),sA f l λb d=>h b (by simp[d])];rfl
theorem se{c:Type} f n:∀(l:List c),(∀a∈l,Fh (f a)<=n)->ug (l.map f)<=n
 |[],_=>bL _
 |a::l,h=>by rw[bI,Jo];have g:=h a (by simp);have e:=se f n l λb d=>h b (by simp[d]);omega
@[simp] theorem wz(a:LI):uf (a.map T.int)=true:=sA _ _ λ_ _=>rfl
def pI(a:LI):ug (a.map T.int)<=0:=se _ _ _ λ_ _=>aK _
@[simp] theorem LP ns:qG (tI ns)=true:=by simp[tI,qG]
def K4 ns:Fh (tI ns)<=1:=by unfold tI;rw[P3];have:=pI ns;omega
@[simp] theorem UG(l:LL):uf (l.map tI)=true:=sA _ _ λ_ _=>LP _
def zk(l:LL):ug (l.map tI)<=1:=se _ _ _ λ_ _=>K4 _
@[simp] theorem Nt l:zp l []=l.isEmpty:=by cases l<;>rfl
theorem yW{d:Type} f (c:∀a b,Ey (f a) (f b)=true↔a=b):∀(l m:List d),zp (l.map f) (m.map f)=true↔l=m
 |[],[]=>by simp[rh]
 |[],b::m=>⟨λz=>(nomatch (show false=true from z)),λz=>nomatch z⟩
 |a::l,[]=>by simp[rh]
 |a::l,b::m=>by rw[bI,bI,rh,bU,c a b,yW f c l m];simp
def tT(l m:LI):zp (l.map T.int) (m.map T.int)=decide (l=m):=by
 have h:=yW T.int (λa b=>by simp[pk]) l m;by_cases e:l=m
 .rw[aC e];exact h.mpr e
 .rw[aB e];cases c:zp (l.map T.int) (m.map T.int) with
  |false=>rfl
  |true=>exact absurd (h.mp c) e
def T3 neg (l m:LI):iA neg (.tup (l.map T.int)) (.tup (m.map T.int))=.ok (.bl (if neg then !decide (l=m) else decide (l=m))):=by have h:=pI l;unfold iA;rw[aQ (by simp[qG];omega),pk,tT]
def Ke neg (l m:LI):iA neg (.lst (l.map T.int)) (.lst (m.map T.int))=.ok (.bl (if neg then !decide (l=m) else decide (l=m))):=by have h:=pI l;unfold iA;rw[aQ (by simp[qG];omega),yt,tT]
def ye neg ts (h:uf ts=true) (a:ug ts<=90):iA neg (.lst ts) (.lst [])=.ok (.bl (if neg then !ts.isEmpty else ts.isEmpty)):=by unfold iA;rw[aQ (by simp[qG,h,uf];omega),yt,Nt]
def tY{a:Type} f (l:List a):oU (l.map f)=l.zipIdx.map λp=>T.tup [.int (p.2:Int),f p.1]:=by unfold oU;rw[List.zipIdx_map,aI];rfl
def MY{a b:Type} f (g:b->T) (l:List a) m:BQ (l.map f) (m.map g)=(l.zip m).map λp=>T.tup [f p.1,g p.2]:=by unfold BQ;rw[List.zip_map,aI];rfl
theorem B8{c:Type} f:∀(l:List c),(∀a∈l,lf (f a)=true)->B4 (l.map f)=true
 |[],_=>rfl
 |a::l,h=>by rw[bI,B4,h a (by simp),B8 f l λb d=>h b (by simp[d])];rfl
@[simp] theorem Lg(a:LI):B4 (a.map T.int)=true:=B8 _ _ λ_ _=>rfl
@[simp] theorem Hk ns:lf (tI ns)=true:=by simp[tI]
@[simp] theorem OG(l:LL):B4 (l.map tI)=true:=B8 _ _ λ_ _=>Hk _
section
variable {α:Type}{fe fd fl:Pe->M T}{ρ:Pe}{ts:List T}{d k:Nat}
def Bq(l:List α)(d:Nat):qW l none (some (d:Int))=l.take d:=by
 unfold qW;rw[HT.sIx_none,HT.sIx_nat,dC,cJ];by_cases h:d<=l.length
 .rw[dD h]
 .rw[Nat.min_eq_right (by omega),cD (aK _),cD (by omega)]
def wy(l:List α)(d:Nat):qW l (some (d:Int)) none=l.drop d:=by
 unfold qW;rw[HT.sIx_none,HT.sIx_nat];by_cases h:d<=l.length
 .rw[dD h,cD (by simp)]
 .rw[Nat.min_eq_right (by omega),dE (aK _),dE (by omega),List.take_nil]
def S7 n d:HT.sIx n d (some (-1))=n-1:=by unfold HT.sIx;dsimp only;rw[aQ (by decide)];omega
def JI(l:List α):qW l none (some (-1))=l.dropLast:=by unfold qW;rw[HT.sIx_none,S7,dC,cJ,List.dropLast_eq_take]
def qL(h:fe ρ=.ok (.tup ts))(a:fd ρ=.ok (.int (d:Int)))(b:d<=ts.length):ka fe (λ_=>.ok none) (ju fd) ρ=.ok (.tup (ts.take d)):=by simp only[ka,ju,h,a,M.bind_ok,Bq]
def JX(h:fe ρ=.ok (.lst ts))(a:fd ρ=.ok (.int (d:Int))):ka fe (λ_=>.ok none) (ju fd) ρ=.ok (.lst (ts.take d)):=by simp only[ka,ju,h,a,M.bind_ok,Bq]
noncomputable abbrev ab:=cM (.int 1)
def Kb(h:fe ρ=.ok (.tup ts))(a:ts≠[]):ka fe (λ_=>.ok none) (ju (qw (λi=>.int (-i)) ab)) ρ=.ok (.tup ts.dropLast):=by have e:ju (qw (λi=>.int (-i)) ab) ρ=.ok (some (-1)):=rfl;simp only[ka,h,e,M.bind_ok,JI]
def MQ(h:fe ρ=.ok (.tup ts))(a:fd ρ=.ok (.int (d:Int)))(b:0<d)(c:ts≠[]):ka fe (ju fd) (λ_=>.ok none) ρ=.ok (.tup (ts.drop d)):=by simp only[ka,ju,h,a,M.bind_ok,wy]
def oC(h:lc ρ=.ok ts)(hr:o [.lst ts]=r):kG o (gF (jw lc) gJ) ρ=r:=by simp only[kG,gF,gJ,jw,h,M.bind_ok];exact hr
def n8(h:f ρ=.ok t)(hr:o [t]=r):kG o (gF f gJ) ρ=r:=by simp only[kG,gF,gJ,h,M.bind_ok];exact hr
def iC(h:lc ρ=.ok ts):jw lc ρ=.ok (.lst ts):=by simp only[jw,h,M.bind_ok]
def Du(h:fe ρ=.ok (.tup ts)):iU fe ρ=.ok ts:=by simp only[iU,h,M.bind_ok]
def lY(h:fe ρ=.ok (.lst ts)):iU fe ρ=.ok ts:=by simp only[iU,h,M.bind_ok]
def gX(h:fe ρ=.ok (.bl b)):iR fe ρ=.ok b:=by simp only[iR,h,M.bind_ok]
def wj(h:fc ρ=.ok b)(hr:(!b)=r):L3.oj fc ρ=.ok r:=by simp only[L3.oj,h,M.bind_ok,hr]
def gL(a:fa ρ=.ok x)(b:fb ρ=.ok y)(hr:o x y=r):gR o fa fb ρ=r:=by simp only[gR,a,b,M.bind_ok];exact hr
def pX(h:f ρ=.ok x)(hr:F [x]=.ok t):gS (gF f gJ) F ρ=.ok t:=by simp only[gS,gF,gJ,h,hr,M.bind_ok];rfl
def iY(h:f ρ=.ok x)(a:g ρ=.ok y)(hr:F [x,y]=.ok t):gS (gF f (gF g gJ)) F ρ=.ok t:=by simp only[gS,gF,gJ,h,a,hr,M.bind_ok];rfl
def kW{f g k:Pe->M T}(h:f ρ=.ok x)(a:g ρ=.ok y)(b:k ρ=.ok z)(hr:F [x,y,z]=.ok t):gS (gF f (gF g (gF k gJ))) F ρ=.ok t:=by simp only[gS,gF,gJ,h,a,b,hr,M.bind_ok];rfl
def zf{f g k l:Pe->M T}(h:f ρ=.ok x)(a:g ρ=.ok y)(c:k ρ=.ok z)(b:l ρ=.ok u)(hr:F [x,y,z,u]=.ok t):gS (gF f (gF g (gF k (gF l gJ)))) F ρ=.ok t:=by simp only[gS,gF,gJ,h,a,c,b,hr,M.bind_ok];rfl
end
section
variable {ρ:Pe}{ts:List T}{F:List T->M a0}{f g k l:Pe->M T}{x y z u:T}
def xh(h:f ρ=.ok x)(hr:F [x]=.ok ts):js (gF f gJ) F ρ=.ok ts:=by simp only[js,gF,gJ,h,hr,M.bind_ok];rfl
def wU(h:f ρ=.ok x)(a:g ρ=.ok y)(hr:F [x,y]=.ok ts):js (gF f (gF g gJ)) F ρ=.ok ts:=by simp only[js,gF,gJ,h,a,hr,M.bind_ok];rfl
def wM(h:f ρ=.ok x)(a:g ρ=.ok y)(b:k ρ=.ok z)(hr:F [x,y,z]=.ok ts):js (gF f (gF g (gF k gJ))) F ρ=.ok ts:=by simp only[js,gF,gJ,h,a,b,hr,M.bind_ok];rfl
def wu(h:f ρ=.ok x)(a:g ρ=.ok y)(c:k ρ=.ok z)(b:l ρ=.ok u)(hr:F [x,y,z,u]=.ok ts):js (gF f (gF g (gF k (gF l gJ)))) F ρ=.ok ts:=by simp only[js,gF,gJ,h,a,c,b,hr,M.bind_ok];rfl
end
def nC{a b:Type}{l:List a}{m:List b}{f:a->T}{g:b->T}(c:fa ρ=.ok x)(h:seqT x=.ok (l.map f))(e:fb ρ=.ok y)(d:seqT y=.ok (m.map g)) :
  nq (gF fa (gF fb gJ)) ρ=.ok ((l.zip m).map λp=>T.tup [f p.1,g p.2]):=by
 rw[<-MY];simp only[nq,gF,gJ,c,e,M.bind_ok,h,d]
end L3
namespace L3
open PySem L2 PySem.Spec PyProof.Rows
section
variable {K:W.Frag}{E:XK}{X:Cx}{a b c e o tg it:Expr}{es:List Expr}{ta tb tc te to:TE}{fa fb fc fe fo:Pe->M T}{tr:TA}{fr:Pe->M a0}{pos p p2 apos:Pos}
@[simp] noncomputable def vD:List T->M T
 |[.int i,.int j]=>.ok (.int (if j<i then j else i))
 |_=>.bad
def LD xs:M.NoE (vD xs):=λC n=>by unfold vD;split<;>intro z<;>cases z
def NW:MC K (λxs H Q=>∃i j,xs=[.int i,.int j]/\Q (.int (if j<i then j else i)) H) vD:=⟨LD,λF H d xs Q s r q=>by
 unfold vD at q;split at q
 .exact⟨_,_,r.two,kV.now q s (.int _)⟩
 .exact q.elim⟩
end
section
variable {K:W.Frag}{E:XK}{X:Cx}{F0:Fz}{H0 F H:Hp}{σ:L2.St}{ρ:En}
def Sr.freeze(r:Sr K F0 H0 F H σ ρ)(e:ρ[j]? = some (some (.o ts))):∃Y,iJ F Y/\Sr K F0 H0 Y H σ (ρ.set j (some (.p (.lst ts)))):=by
 obtain⟨n,S,U⟩:=r.ov;obtain⟨a,b,c,R,d,z⟩:=S j ts e;have A:iJ F (jR F (n j) (.lst R)):=j8 b;refine⟨jR F (n j) (.lst R),A,⟨r.gr.ff.trans A,λp u q=>?_,r.gr.hh,λp l=>?_⟩,by simp[r.len],λi t q=>?_,⟨n,λi s q=>?_,λi k s N q q' D=>?_⟩,λQ Z=>?_,λi l' m J q=>?_,(r.dv.heap A λp xs l fp=>⟨by rw[gY (λz=>by rw[z,d]at l;cases l)];exact fp,l⟩).setR λ_ z=>nomatch z⟩
 .by_cases l:p=n j
  .subst l;rw[hU]at q;cases q;exact d
  .rw[gY l]at q;exact r.gr.fh p u q
 .by_cases P:p=n j
  .subst P;exact .inr (.inl c)
  .rw[gY P]at l;exact r.gr.nw p l
 .rcases hW q with⟨rfl,g⟩|⟨B,g⟩
  .cases g;exact⟨_,a,.lst hU (z.mono A)⟩
  .obtain⟨v,x,y⟩:=r.pv i t g;exact⟨v,x,y.mono A⟩
 .rcases hW q with⟨rfl,g⟩|⟨B,g⟩
  .cases g
  .obtain⟨a',b',c',m,d',z'⟩:=S i s g;exact⟨a',by rw[gY (U i j s ts g e B)];exact b',c',m,d',z'.mono A⟩
 .rcases hW q with⟨rfl,g⟩|⟨B,g⟩
  .cases g
  .rcases hW q' with⟨rfl,I⟩|⟨hk,I⟩
   .cases I
   .exact U i k s N g I D
 .have L:=r.lv Q Z;have C:Q.2.1≠n j:=λw=>L.d j ts e (by rw[w];exact a);refine⟨L.h,by rw[gY C];exact L.f,L.z,λi s q=>?_⟩;rcases hW q with⟨rfl,g⟩|⟨B,g⟩
  .cases g
  .exact L.d i s g
 .rcases hW q with⟨rfl,g⟩|⟨B,g⟩
  .cases g
  .exact r.sl i l' m J g
@[simp] noncomputable def Um(j:Nat)(g:En->O):En->O:=λρ=>match ρ[j]? with
 |some (some (.o ts))=>g (ρ.set j (some (.p (.lst ts))))
 |_=>.bad
def U8 j (h:MS K E t g):MS K E t (Um j g):=λF0 H0 F H σ ρ D r q=>by
 unfold Um at q;split at q
 .rename_i c e;obtain⟨a,s,b⟩:=r.freeze e;exact h F0 H0 a H σ _ D b (q.go s)
 .exact q.elim
def SM j (h:vW K E X s t g):vW K E X s t (Um j g):=⟨h.ps,U8 j h.ms⟩
def UF(e:ρ[j]? = some (some (.o ts)))(h:g (ρ.set j (some (.p (.lst ts))))=r):Um j g ρ=r:=by unfold Um;rw[e];exact h
end
def Kt(K:W.Frag):Sp:=λc H Q _=>∃(a:Addr) (b:LI),c=[.ref a]/\mz K H a (b.map V.int)/\b.length<=63/\(∀z∈b,Builtin.Int.intBits z<=2 ^ 20)/\∀d,Q (.bl true) d
def Kv{K:W.Frag}(h:∀b:LI,b.length<=63->(∀z∈b,Builtin.Int.intBits z<=2 ^ 20)->F [.scr b]=.ok (.bl true)) vs H Q E (z:Kt K vs H Q E):uT K F vs H Q E:=by obtain⟨a,b,rfl,e,d,f,c⟩:=z;refine⟨[.scr b],H,.refl _,.cons (.scr e) .nil,?_⟩;rw[h b d f];intro v i j g r;cases r;exact c _
def Wv{K:W.Frag}{st:Stmt}(F:NR K x x st f fd)(S:kh N ps (gZ st))
  (c:∀(f:Addr) (b:Value) (A:Around) (a:List Env) (s:Shared) (H:Hp) (E:XK),jZ k (A.deeper (envOfC x (gZ st) s.heap.objs.size f b))->∃t,r9 K E (sM Aw P w K mg base N x (gZ st) f b A a s H E).nox (jx st) t g) :
  pR P w K mg base Aw (k+1) f fd ps (uT K (lG ps.length N.length g)):=
 F.ok S (λd H Q E h=>GS h) λb A a s H d Q E hr h=>let ⟨t,hp⟩:=c f b A a s H E hr;⟨t,hp.ps,Cf hp.ms h⟩
def US{l:W.OpenLaw}{q:Program}{k:Nat}{x:Str}{c:List Str}{XP:(Str->Option Value)->Heap->Prop}{i:World->Heap->Prop}{d:DefRec}{K:Params->W.Frag}(p:l.most=some 63)(hr:jZ k callerA)(g:d.params.defaults=[])
  (v:∀(w:World) (h:Heap),i w h->(K w.params).In h)
  (F:∀(w:World) (e:Str->Option Value) (j:Addr) (h:Heap),(K w.params).In h->h.Ns mainGlobals e->e d.name=some (.ref j)->
   ∃fd:FuncData,(∀(s:Shared) (u:Value),BindsTo s fd ⟨[u],[]⟩ [(x,u)])/\∀b:Heap,(K w.params).In b->b.Ns mainGlobals e->pR l.prog w (K w.params) e b Aw k j fd [x] (Kt (K w.params))) :
  W.WalkO q c XP i l.row.toRowW d [] (λf vs=>PySem.call f vs):=
 L2.J4 p (by decide) g hr v F (λ_ _ a r m n _ o=>⟨a,r,rfl,o,m,n,λ_=>rfl⟩) λ_ _ _ _ z=>z
end L3
namespace L3
open PySem L2 PySem.Spec PyProof.Rows
section
variable {K:W.Frag}{E:XK}{t:TE}{f:Pe->M T}
def kO(K:W.Frag)(F H:Hp)(x:Addr)(Q:VK)(t:T):Prop:=∀b c,iJ F b->iJ b c->(∀a o,a≠x->H a=some o->J9 o (c a))->(∀a,b a≠none->F a≠none\/H a=none\/a=x\/∃d,H a=some (.tup d))->lF K b (.ref x) t->Q .non c
noncomputable def EY(K:W.Frag)(C:Addr)(e:List T->M T):Sp:=λd H Q _=>∃x g b c a,d=.ref x::b/\H x=some (.ins C g [])/\a x=none/\iJ a H/\iD K a b c/\(e c).noEr.res (kO K a H x Q) (λ_ _=>False)
def Nj{fr:Pe->M a0}(I:MA K E tr fr):ME K E (Hr C (EY K C Fn) [] E' tr) (gS fr Fn):=λF H Z ρ Q s V q=>by
 refine I.run s V q λD L J B g P i=>?_;intro x j l A u;have v:jR B j (.own x) x=none:=by rw[gY (λz=>u z.symm)];exact l
 have m:iJ B (jR (jR B j (.own x)) x (.ins C j [])):=(pG A).trans (pG v);refine⟨x,j,L,D,J,by rw[bM],hU,iO g.fh l,g.fh.trans m,P,?_⟩;cases e:Fn D with
 |bad=>rw[e]at i;exact i.elim
 |er C n=>rw[e]at i;exact i.elim
 |ok t=>
  rw[e]at i;intro Y U a b c d r;refine⟨rfl,i (.ref x) Y U ⟨g.ff.trans a,b,λp o h=>?_,λp X=>?_⟩ r⟩
  .have N:=g.hh p o h;have w:p≠x:=yU N l;exact Rj (g.hh.trans m p o h) λS e=>c p S w e
  .rcases d p X with z|z|z|⟨R,z⟩
   .exact g.nw p z
   .exact .inr (.inl (iO g.hh (iO m z)))
   .rw[z];exact .inr (.inl (iO g.hh l))
   .cases y:H p with
    |none=>exact .inr (.inl rfl)
    |some o=>exact .inr (.inr ⟨R,by have k:=g.hh.trans m p o y;rw[z]at k;rw[vM k λ_ _ y=>nomatch y]⟩)
noncomputable def AY(C:Addr)(n:Nat)(h g:Str)(e d:Pe->M T):List T->M T:=λc=>if c.length=n then (e (none::c.map some)).bind λa=>(d (none::c.map some)).bind λb=>.ok (.obj C [(h,a),(g,b)]) else .bad
structure Ww(K:W.Frag)(E:XK)(X:Cx)(body:List Stmt)(f1 f2:Str)(g1 g2:Pe->M T):Prop where
 ex:∃(t1 t2:TE),Ek X body (vB (R8 K (nM 0) t1 f1) (R8 K (nM 0) t2 f2))/\ME K E t1 g1/\ME K E t2 g2
def Wz(h:X.K=K)(c:PE X o1 (nM 0))(g:Pm K E X a1 t1 g1)(a:PE X o2 (nM 0))(e:Pm K E X a2 t2 g2)
  (d:swapsWith a1 (some (.Attribute o1 f1 p1)) q1.line X.env=pure false:=by rfl) (b:swapsWith a2 (some (.Attribute o2 f2 p2)) q2.line X.env=pure false:=by rfl) :
  Ww K E X [.Assign [.Attribute o1 f1 p1] a1 q1,.Assign [.Attribute o2 f2 p2] a2 q2] f1 f2 g1 g2:=by
 subst h;exact⟨t1,t2,pN (M6 c g.pe d) (yo (M6 a e.pe b)),g.me,e.me⟩
theorem SQ{st:Stmt}(cl:Bm K C)(n1:nR K C f1)(n2:nR K C f2)(ne:f1≠f2)(D:mv K C "__init__" qual st)(S:kh N N (gZ st))
  (mk:W.makesIn K C=true) (kp:W.keepIn K (.ref C)=true) (hm:mg x=some (.ref C)) (hN:N.length=n+1)
  (hb:∀(kV doc pm:Value) (an:Option Addr) (j ct:Value) (us:List Value),us.length=N.length->bindArgs (W.fnOf "__init__" qual (kH st) (jx st) (gZ st) .none kV doc pm an j ct) ⟨us,[]⟩=pure (N.zip us))
  (hT:∀(f:Addr) (j:Value) (A:Around) (d:List Env) (s:Shared) (H:Hp) (E:XK),jZ k (A.deeper (envOfC qual (gZ st) s.heap.objs.size f j))->Ww K E (sM Aw P w K mg base N qual (gZ st) f j A d s H E).nox (jx st) f1 f2 g1 g2) :
  FV P w K mg base x C (k+1) (EY K C (AY C n f1 f2 g1 g2)):=by
 obtain⟨fi,fd,F,Mm⟩:=D.ex;refine⟨⟨fi,fd,N,F.ok S (λvs H Q E h=>?_) (λj A d s H vs Q E hr h=>?_),⟨mk,Mm.at_,Mm.fn,kp⟩,F.binds hb⟩,hm⟩
 .obtain⟨x,B,us,u,F0,rfl,Z,fx,s,r,q⟩:=h;unfold AY at q;by_cases J:u.length=n
  .rw[ay,r.length,J,hN]
  .rw[aR J]at q;exact q.elim
 .obtain⟨x,B,us,u,F0,rfl,Z,fx,s0,r,q⟩:=h;obtain⟨t1,t2,ps,m1,m2⟩:=(hT fi j A d s H E hr).ex;refine⟨_,ps,?_⟩;unfold AY at q;by_cases J:u.length=n
  .rw[aQ J]at q;have V:nX K F0 (oM N (.ref x::us)) (none::u.map some):=λi t e=>by
    cases i with
    |zero=>cases e
    |succ i=>
     rw[List.getElem?_cons_succ,av]at e;cases hq:u[i]? with
     |none=>rw[hq]at e;cases e
     |some y=>rw[hq]at e;cases e;obtain⟨v,a,b⟩:=r.get hq;refine⟨v,?_,b⟩;unfold L2.oM;rw[List.getElem?_append_left (by rw[aw,ay];exact Nat.succ_lt_succ (aa.mp a).1),av,List.getElem?_cons_succ,a];rfl
   cases X:g1 (none::u.map some) with
   |bad=>rw[X]at q;exact q.elim
   |er C n=>rw[X]at q;exact q.elim
   |ok a=>
    rw[X,L3.M.bind_ok]at q;cases Y:g2 (none::u.map some) with
    |bad=>rw[Y]at q;exact q.elim
    |er C n=>rw[Y]at q;exact q.elim
    |ok b=>
     rw[Y,L3.M.bind_ok]at q;refine m1 F0 H _ _ _ s0 V ?_;rw[X];intro v R H1 c r1;have hx1:=c.hh _ _ Z;have L:R x=none:=by
      cases z:R x with
      |none=>rfl
      |some o=>
       rcases c.nw x (by rw[z];exact λy=>nomatch y) with y|y|⟨_,y⟩
       .exact absurd fx y
       .rw[Z]at y;cases y
       .rw[Z]at y;cases y
     refine⟨.ref x,rfl,x,C,B,[],rfl,hx1,cl,n1,by decide,?_⟩;have s1:iJ R (jR H1 x (.ins C B (r6 f1 v []))):=λp o h=>by
      have l:p≠x:=λz=>by rw[z,L]at h;cases h
      rw[gY l];exact c.fh p o h
     refine m2 R _ _ _ _ s1 (V.mono c.ff) ?_;rw[Y];intro U I H3 g r2;have hx3:=g.hh x _ hU;have fx2:I x=none:=by
      cases z:I x with
      |none=>rfl
      |some o=>
       rcases g.nw x (by rw[z];exact λy=>nomatch y) with y|y|⟨_,y⟩
       .exact absurd L y
       .rw[hU]at y;cases y
       .rw[hU]at y;cases y
     refine⟨.ref x,rfl,x,C,B,_,rfl,hx3,cl,n2,by show 1<1000;decide,?_⟩;have ep:r6 f2 U (r6 f1 v [])=[(f1,v),(f2,U)]:=by show (if f1=f2 then _ else _)=_;rw[aR ne];rfl
     have sF:iJ I (jR I x (.ins C B [(f1,v),(f2,U)])):=pG fx2;refine q (jR I x (.ins C B [(f1,v),(f2,U)])) _ ((c.ff.trans g.ff).trans sF) (λp o h=>?_) (λp o l h=>?_) (λp l=>?_) (.obj hU (.cons (r1.mono (g.ff.trans sF)) (.cons (r2.mono sF) .nil)))
     .by_cases l:p=x
      .subst l;rw[hU]at h;rw[hU,ep];exact .of h
      .rw[gY l]at h ⊢;exact g.fh p o h
     .rw[gY l];exact Rj (c.hh p o h) λo' e=>g.hh p o' (by rw[gY l];exact e)
     .by_cases m:p=x
      .exact .inr (.inr (.inl m))
      .rw[gY m]at l;rcases g.nw p l with z|z|⟨xs,z⟩
       .rcases c.nw p z with y|y|y
        .exact .inl y
        .exact .inr (.inl y)
        .exact .inr (.inr (.inr y))
       .rw[gY m]at z;exact .inr (.inl (iO c.hh z))
       .rw[gY m]at z;cases y:H p with
        |none=>exact .inr (.inl rfl)
        |some o=>exact .inr (.inr (.inr ⟨xs,by have k:=c.hh p o y;rw[z]at k;rw[vM k λ_ _ y=>nomatch y]⟩))
  .rw[aR J]at q;exact q.elim
end
section
variable {X:Cx}{K:W.Frag}{E:XK}{x m:Str}{C:Addr}{k:Nat}{Fn:List T->M T}{Ff:List T->M a0}{e o:Expr}{es:List Expr}{tr:TA}{fr:Pe->M a0}{ta:TE}{fa:Pe->M T}{p pos apos:Pos}
def RA(h:FV X.prog X.w X.K X.mg X.base x C j (EY K C Fn))(hr:jZ k X.A)(c:Dr K E X (e::es) tr fr)(g:j+1<=k:=by decide)(f:Gl X x:=by rfl)
  (b:(x==("__debug__" : Str))=false:=by decide) (d:starEach (e::es) X.env=(false,eval e X.env)::starEach es X.env:=by rfl) (a:(backTo pos (starEach es X.env)).any (·.1)=false:=by rfl) :
  Pm K E X (.Call (.Name x p) (e::es) [] pos) (Hr C (EY K C Fn) [] E0 tr) (gS fr Fn):=⟨VO h (hr.mono g) c.pa f b d a,Nj c.ma⟩
def yO(h:lA X.prog X.w X.K X.mg X.base C m j (uT K Fn))(hr:jZ k X.A)(a:Pm K E X o ta fa)(b:j<=k:=by decide)
  (c:eval (.Call (.Attribute o m apos) [] [] pos) X.env=(do
   let ov <-eval o X.env
   standAt apos.atName
   let (f,first) <-holding [ov] (getMethod ov m pl)
   callWith pos f first (backTo pos (starEach [] X.env)) (backToKw pos (keywordEach [] X.env))):=by rfl) :
  Pm K E X (.Call (.Attribute o m apos) [] [] pos) (BJ C m (uT K Fn) [] E0 ta um) (sV C m fa gJ Fn):=⟨LM h (hr.mono b) a.pe c,Kh a.me GJ⟩
def FH(h:lA X.prog X.w X.K X.mg X.base C m j (DB K Ff))(hr:jZ k X.A)(a:Pm K E X o ta fa)(b:j<=k:=by decide)
  (c:eval (.Call (.Attribute o m apos) [] [] pos) X.env=(do
   let ov <-eval o X.env
   standAt apos.atName
   let (f,first) <-holding [ov] (getMethod ov m pl)
   callWith pos f first (backTo pos (starEach [] X.env)) (backToKw pos (keywordEach [] X.env))):=by rfl) :
  Hj K E X (.Call (.Attribute o m apos) [] [] pos) (BJ C m (DB K Ff) [] E0 ta um) (uM C m fa gJ Ff):=⟨LM h (hr.mono b) a.pe c,Kw a.me GJ⟩
def Ga(b:X.K=K)(d:Bm K C)(a:nR K C f)(h:Pm K E X e ta fa)(c:attributeBase e f X.env (eval e X.env)=eval e X.env:=by rfl):Pm K E X (.Attribute e f pos) (Uc X.K ta f) (Fg C f fa):=by subst b;exact⟨RJ h.pe c,RS d a h.me⟩
@[simp] noncomputable def IW(f:Pe->M T)(m:T->En->Option En):En->O:=λa=>O.of (jr f a) λt=>match m t a with
 |some ρ'=>.nx ρ'
 |none=>.bad
def S9{m:T->En->Option En}(h:ME K E t f)(u:OI K g m):MS K E (nW t g) (IW f m):=λw s F H n b D r q=>
 h.inH r q λx v d c z j y a=>by
  cases e:m x b with
  |none=>rw[e]at a;exact a.elim
  |some ρ'=>rw[e]at a;exact u w s d c n b v x ρ' _ y j e λi l=>a d c _ (.refl _) l
def Hx{m:T->En->Option En}(a:Pm K E X e t f)(b:Us K X tg g m)(d:swapsWithSole [tg] e pos.line X.env=pure false:=by rfl)(hw:swappedStores [tg] e X.env=pure none:=by rfl)
  (c:(assignEach [tg] X.env).map (·.2)=[assign tg X.env]:=by rfl):vW K E X (.Assign [tg] e pos) (nW t g) (IW f m):=⟨Np a.pe b.pg d hw c,S9 a.me b.mg⟩
def KI{m:T->En->Option En}(h:f (mD ρ)=.ok t)(a:m t ρ=some ρ'):IW f m ρ=.nx ρ':=by unfold IW jr;rw[h];simp[a]
end
section
variable {P:Program}{w:World}{K:W.Frag}{mg:Str->Option Value}{base:Heap}{C:Addr}{m qual:Str}{st:Stmt}{N ps:List Str}{k:Nat}{g:En->O}
def VM(e:Bm K C)(D:mv K C m qual st)(S:kh N ps (gZ st))
  (j:∀(kV c o:Value) (i:Option Addr) (b n:Value) (us:List Value),us.length=ps.length->bindArgs (W.fnOf m qual (kH st) (jx st) (gZ st) .none kV c o i b n) ⟨us,[]⟩=pure (ps.zip us))
  (d:∀(f:Addr) (b:Value) (A:Around) (a:List Env) (s:Shared) (H:Hp) (E:XK),jZ k (A.deeper (envOfC qual (gZ st) s.heap.objs.size f b))->∃t,r9 K E (sM Aw P w K mg base N qual (gZ st) f b A a s H E).nox (jx st) t g) :
  lA P w K mg base C m (k+1) (uT K (lG ps.length N.length g)):=
 HG e D S j (λl H Q E h=>GS h) λf b A a s H l Q E hr h=>let ⟨t,hp⟩:=d f b A a s H E hr;⟨t,hp.ps,Cf hp.ms h⟩
def VS(e:Bm K C)(D:mv K C m qual st)(S:kh N ps (gZ st))
  (j:∀(kV c o:Value) (i:Option Addr) (b n:Value) (us:List Value),us.length=ps.length->bindArgs (W.fnOf m qual (kH st) (jx st) (gZ st) .none kV c o i b n) ⟨us,[]⟩=pure (ps.zip us))
  (d:∀(f:Addr) (b:Value) (A:Around) (a:List Env) (s:Shared) (H:Hp) (E:XK),jZ k (A.deeper (envOfC qual (gZ st) s.heap.objs.size f b))->∃t,r9 K E (sM Aw P w K mg base N qual (gZ st) f b A a s H E).nox (jx st) t g) :
  lA P w K mg base C m (k+1) (DB K (v5 ps.length N.length g)):=
 HG e D S j (λl H Q E h=>Ij h) λf b A a s H l Q E hr h=>let ⟨t,hp⟩:=d f b A a s H E hr;⟨t,hp.ps,EL hp.ms h⟩
end
end L3
namespace L3
open PySem L2 PySem.Spec PyProof.Rows
section
variable {K:W.Frag}{E:XK}{X:Cx}{a tg:Expr}{tr:TA}{fr:Pe->M a0}{p p2 pos pos2:Pos}{F:Hp}
def RY(d:mz K F l xs)(r:iD K F xs ts):AE K (Wk K l xs.length) ts.reverse F where
 go:=λi H s c=>by rw[dF,<-r.length]at c;exact⟨c,xs,_,s.seq d,rfl,ag (by omega)⟩
 stop:=λH s=>⟨by rw[dF,r.length],xs,s.seq d⟩
 yld:=λi t m H x o f g e y=>by
  obtain⟨rfl,j⟩:=y;have k:=j xs ((f.trans g).seq d);obtain⟨n,b,h⟩:=r.at_ k;have c:i<ts.length:=by simpa using (aa.mp e).1
  rw[List.getElem?_reverse c,<-r.length]at e;rw[e]at b;cases b;exact⟨m,.refl g,h.mono f⟩
@[simp] noncomputable def J5(b:Pe->M a0):Pe->M a0:=λc=>(b c).bind λd=>match d with
 |[.lst ts]=>.ok ts.reverse
 |_=>.bad
def Tv(d:MA K E tr fr):MI K E (RE K tr) (J5 fr):=λF H j k R s V q=>by
 refine d.run s V q λm o e i c g b=>?_;cases g with
 |nil=>exact b.elim
 |cons h t=>
  cases t with
  |cons _ _=>cases h<;>exact b.elim
  |nil=>
   cases h with
   |lst h r=>rename_i l f n;refine⟨l,f,rfl,mz.of (c.fh _ _ h),b _ e i c (RY (mz.of h) r)⟩
   |_=>exact b.elim
def Hz(d:X.mg "reversed" = none)(b:Dr K E X [a] tr fr)(f:X.K=K:=by rfl)(c:Gl X "reversed" :=by rfl)(e:starEach [a] X.env=[(false,eval a X.env)]:=by rfl):NQ K E X tg (.Call (.Name "reversed" p) [a] [] pos) (RE K tr) (J5 fr):=by subst f;exact⟨Qx c d b.pa e,Tv b.ma⟩
@[simp] noncomputable def UB(b:Pe->M a0):Pe->M a0:=λd=>(b d).bind λe=>match e with
 |[x]=>(seqT x).bind λc=>.ok (oU c)
 |_=>.bad
theorem zg:∀{vs} {ts},vs.length=ts.length->(∀(i:Nat) t,ts[i]? = some t->∃v,vs[i]? = some v/\lF K F v t)->iD K F vs ts
 |[],[],_,_=>.nil
 |v::vs,t::ts,hl,h=>by obtain⟨c,e,r⟩:=h 0 t rfl;simp at e;subst e;exact .cons r (zg (by simpa using hl) λi t b=>by simpa using h (i+1) t (by simpa using b))
def Va(Y:MA K E tr fr):MF K E (Wo K tr) (UB fr):=λF H σ ρ Q s va q=>by
 classical
 refine Y.run s va q λxs ws B y m r1 A=>?_;have z:∀(b:Bool) (l:Addr) (J:List V) (I:List T),xK K y b l J->iD K B J I->kF K F H Q (oU I)->∃b' U n,[V.ref l]=[.ref U]/\xK K y b' U n/\∀(p:Addr) (as:List Addr) (g:Hp),iJ y g->y p=none->g p=some (.lst (as.map V.ref))->as.length=n.length->
   (∀(i:Nat) (a:Addr),as[i]? = some a->y a=none/\a≠p/\∃x,n[i]? = some x/\g a=some (.tup [.int i,x]))->Q (.ref p) g:=λb l J I hq r qk=>by
  refine⟨b,l,J,rfl,hq,λp as g sm S hl C L=>?_⟩;let D:Hp:=λc=>if c∈as then g c else B c
  have j:∀c,c∈as->D c=g c:=λc d=>aQ d;have f:∀c,c∉as->D c=B c:=λc d=>aR d;have new:∀c,c∈as->y c=none:=λc d=>by obtain⟨i,k⟩:=dG.mp d;exact (L i c k).1
  have N:iJ B D:=λc o e=>by rw[f c (λd=>(m.fh c o e).ne (new c d))];exact .of e
  have pn:p∉as:=λd=>by obtain⟨i,k⟩:=dG.mp d;exact (L i p k).2.1 rfl
  have Z:Gr B y D g:=⟨N,λc o e=>by
   by_cases d:c∈as
   .rw[j c d]at e;exact .of e
   .rw[f c d]at e;exact m.fh.trans sm c o e,sm,λc d=>by
   by_cases P:c∈as
   .exact .inr (.inl (new c P))
   .rw[f c P]at d;exact .inl d⟩
  refine qk p (as.map V.ref) D g (m.trans Z) (iO m.hh S) (by rw[f p pn];exact iO m.fh S) hl (zg (by simp[oU,C,r.length]) λi t v=>?_);unfold oU at v;rw[av,List.getElem?_zipIdx]at v;cases k:I[i]? with
  |none=>rw[k]at v;cases v
  |some u=>
   rw[k]at v;simp at v;have w:i<as.length:=by rw[C,r.length];exact (aa.mp k).1
   obtain⟨h1,h2,x,e1,e2⟩:=L i _ (ag w);obtain⟨x',R,rx⟩:=r.get k;rw[e1]at R;cases R;refine⟨.ref as[i],by rw[av,ag w];rfl,?_⟩;rw[<-v];exact .tup (by rw[j _ (aV w)];exact e2) (.cons (.int _) (.cons (rx.mono N) .nil))
 cases r1 with
 |nil=>exact A.elim
 |cons h t=>
  cases t with
  |cons _ _=>cases h<;>exact A.elim
  |nil=>
   cases h with
   |lst h r=>exact z false _ _ _ (mz.of (m.fh _ _ h)) r A
   |tup h r=>exact z true _ _ _ (oK.of (m.fh _ _ h)) r A
   |scr h=>exact z false _ _ _ (m.fh.seq h) (iD.of_ints _) A
   |_=>exact A.elim
def UD(i:X.calm=true)(g:X.mg "list" = none)(b:X.mg "enumerate" = none)(d:Dr K E X [a] tr fr)(j:X.K=K:=by rfl)(f:Gl X "list" :=by rfl)(c:Gl X "enumerate" :=by rfl)(h:starEach [a] X.env=[(false,eval a X.env)]:=by rfl)
  (e:starEach [Expr.Call (.Name "enumerate" p2) [a] [] pos2] X.env=[(false,eval (.Call (.Name "enumerate" p2) [a] [] pos2) X.env)]:=by rfl) :
  Hj K E X (.Call (.Name "list" p) [.Call (.Name "enumerate" p2) [a] [] pos2] [] pos) (Wo K tr) (UB fr):=by
 subst j;exact⟨Mq i f g c b d.pa h e,Va d.ma⟩
end
section
variable {K:W.Frag}{E:XK}{X:Cx}{F0:Fz}{H0 F H:Hp}{σ:L2.St}{ρ:En}{x:Str}{e:Expr}{pos pos' p pd:Pos}
noncomputable def rY(kvs:List (LI×T))(k:LI)(v:T):List (LI×T):=if (kvs.any λa=>decide (a.1=k))=true then kvs.map (λa=>if a.1=k then (a.1,v) else a) else kvs++[(k,v)]
theorem yj:∀{a b:LI},a.map (Sum.inl:Int->qM)=b.map Sum.inl->a=b
 |[],[],_=>rfl
 |[],_::_,h=>nomatch h
 |_::_,[],h=>nomatch h
 |x::a,y::b,h=>by simp only[bI,List.cons.injEq]at h;rw[Sum.inl.inj h.1,yj h.2]
def DR.put(h:DR K F xs kvs) k (r:lF K F v t):DR K F (qY xs (k.map Sum.inl) v) (rY kvs k t):=by
 have b:(xs.any λa=>decide (a.1=k.map Sum.inl))=kvs.any λa=>decide (a.1=k):=by
  induction h with
  |nil=>rfl
  |cons q _ ih=>
   rename_i x y _ _ _;rw[bX,bX,ih];congr 1;by_cases z:y.1=k
   .rw[aC z,aC (by rw[q.1,z])]
   .rw[aB z,aB (λw=>z (yj (by rw[<-q.1,w])))]
 unfold qY rY;rw[b];generalize (kvs.any λa=>decide (a.1=k))=bb;split
 .clear b;unfold DR at h ⊢;induction h with
  |nil=>exact .nil
  |cons q _ ih=>
   rename_i x y _ _ _;refine .cons ?_ ih;dsimp only;by_cases z:y.1=k
   .rw[aQ (by rw[q.1,z]),aQ z];exact⟨q.1,r⟩
   .rw[aR (λw=>z (yj (by rw[<-q.1,w]))),aR z];exact q
 .clear b;unfold DR at h ⊢;induction h with
  |nil=>exact .cons ⟨rfl,r⟩ .nil
  |cons q _ ih=>exact .cons q ih
@[simp] noncomputable def HC(i:Nat):En->O:=λρ=>.nx (ρ.set i (some (.d [])))
def Sr.setD{p:Addr}(r:Sr K F0 H0 F H σ ρ)(C:H p=none):Sr K F0 H0 F (jR H p (.dT [])) (σ.set i (some (.ref p))) (ρ.set i (some (.d []))):=by
 have R:=iO r.gr.fh C;have A:=r.grow (Gr.new' (o:=.dT []) r.gr.fh C);obtain⟨S,h1,h2⟩:=A.ov;refine⟨A.gr,by simp[r.len],λj t e=>?_,⟨S,λj J e=>?_,λj k J ws e y s=>?_⟩,λe Y=>?_,λj l' I P q=>?_,⟨λj c e=>?_,λj k c u e y s=>?_⟩⟩
 .rcases hW e with⟨rfl,q⟩|⟨g,q⟩
  .cases q
  .obtain⟨w,a,b⟩:=A.pv j t q;exact⟨w,by rw[aq (λz=>g z.symm)];exact a,b⟩
 .rcases hW e with⟨rfl,q⟩|⟨g,q⟩
  .cases q
  .obtain⟨a,b⟩:=h1 j J q;exact⟨by rw[aq (λz=>g z.symm)];exact a,b⟩
 .rcases hW e with⟨rfl,q⟩|⟨g,q⟩
  .cases q
  .rcases hW y with⟨rfl,n⟩|⟨D,n⟩
   .cases n
   .exact h2 j k J ws q n s
 .have L:=A.lv e Y;refine⟨L.h,L.f,L.z,λj U q=>?_⟩;rcases hW q with⟨rfl,v⟩|⟨g,v⟩
  .cases v
  .rw[aq (λz=>g z.symm)];exact L.d j U v
 .rcases hW q with⟨rfl,v⟩|⟨g,v⟩
  .cases v
  .rw[aq (λz=>g z.symm)];exact r.sl j l' I P v
 .have l:j<ρ.length:=by simpa using (aa.mp e).1
  rcases hW e with⟨rfl,q⟩|⟨g,q⟩
  .cases q;exact⟨p,qg (by rw[r.len];exact l),R,iO r.gr.hh C,[],hU,.nil⟩
  .obtain⟨a,N,Z⟩:=A.dv.at_ j c q;exact⟨a,by rw[aq (λz=>g z.symm)];exact N,Z⟩
 .have B:∀(m:Nat) c,ρ[m]? = some (some (.d c))->σ[m]?≠some (some (.ref p)):=λm c q w=>by
   obtain⟨a,N,_,_,xs,Q,_⟩:=r.dv.at_ m c q;rw[N]at w;have:a=p:=by simpa using w
   rw[this,C]at Q;cases Q
  have l:∀{m:Nat} {z},(ρ.set i (some (W.d [])))[m]? = some z->m<σ.length:=λ{m z} q=>by rw[r.len];simpa using (aa.mp q).1
  rcases hW e with⟨rfl,q⟩|⟨g,q⟩
  .rcases hW y with⟨rfl,n⟩|⟨D,n⟩
   .exact absurd rfl s
   .rw[qg (l e),aq (λz=>D z.symm)];exact λw=>B k u n w.symm
  .rcases hW y with⟨rfl,n⟩|⟨D,n⟩
   .rw[qg (l y),aq (λz=>g z.symm)];exact B j c q
   .rw[aq (λz=>g z.symm),aq (λz=>D z.symm)];exact r.dv.dj j k c u q n s
def N8:MS K E (nW Gh (j9 i)) (HC i):=λF0 H0 F H σ ρ D r q p a=>q F _ _ (.refl _) (r.setD a)
def ES i (b:X.N.Nodup) (f:HR X.env.scope x:=by first|exact Or.inl rfl|exact Or.inr rfl) (c:X.N[i]? = some x:=by rfl) (d:swapsWith (.Dict [] [] pd) (some (.Name x pos')) pos.line X.env=pure false:=by rfl) (a:X.fn x=true\/X.env.scope.names.lookup x=some .local:=by first|exact .inl rfl|exact .inr rfl|assumption) :
  vW K E X (.Assign [.Name x pos'] (.Dict [] [] pd) pos) (nW Gh (j9 i)) (HC i):=⟨y9 b c f LJ d a,N8⟩
@[simp] noncomputable def wd(ρ:En)(i:Nat):M (List (LI×T)):=match ρ[i]? with
 |some (some (.d kvs))=>.ok kvs
 |_=>.bad
def IV(h:wd ρ i=.ok kvs):ρ[i]? = some (some (.d kvs)):=by
 unfold wd at h;split at h
 .rename_i a e;cases h;exact e
 .cases h
noncomputable def UR(ρ:En)(i:Nat)(kvs:List (LI×T))(t:T):T->O
 |.tup ks=>match jY ks with
  |some ns=>if kvs.length<sizeLine then .nx (ρ.set i (some (.d (rY kvs ns t)))) else .bad
  |none=>.bad
 |_=>.bad
@[simp] noncomputable def xy(i:Nat)(b f:En->M T):En->O:=λρ=>.of (wd ρ i) λa=>.of (f ρ) λt=>.of (b ρ) λk=>UR ρ i a t k
def Sr.changeD(r:Sr K F0 H0 F H σ ρ)(e:ρ[i]? = some (some (.d kvs)))(S:σ[i]? = some (some (.ref a)))(Q:F a=none)(N:H0 a=none)(I:H a=some (.dT xs))(hy:DR K F ys kvs'):Sr K F0 H0 F (jR H a (.dT ys)) σ (ρ.set i (some (.d kvs'))):=by
 obtain⟨U,h1,h2⟩:=r.ov;refine⟨⟨r.gr.ff,λp u q=>?_,λp u q=>?_,r.gr.nw⟩,by simp[r.len],λj t q=>?_,⟨U,λj v q=>?_,λj k v D q y g=>?_⟩,λJ Y=>?_,λj l' m C q=>?_,⟨λj o q=>?_,λj k o s q y g=>?_⟩⟩
 .rw[gY (iX q Q)];exact r.gr.fh p u q
 .rw[gY (iX q N)];exact r.gr.hh p u q
 .rcases hW q with⟨rfl,c⟩|⟨n,c⟩
  .cases c
  .exact r.pv j t c
 .rcases hW q with⟨rfl,c⟩|⟨n,c⟩
  .cases c
  .obtain⟨a',b',c',m,B,z'⟩:=h1 j v c;exact⟨a',b',c',m,by rw[gY (λz=>by rw[z,I]at B;cases B)];exact B,z'⟩
 .rcases hW q with⟨rfl,c⟩|⟨n,c⟩
  .cases c
  .rcases hW y with⟨rfl,l⟩|⟨R,l⟩
   .cases l
   .exact h2 j k v D c l g
 .have L:=r.lv J Y;have A:J.2.1≠a:=λw=>by have:=L.h;rw[w,I]at this;cases this
  refine⟨by rw[gY A];exact L.h,L.f,L.z,λj v q=>?_⟩;rcases hW q with⟨rfl,c⟩|⟨n,c⟩
  .cases c
  .exact L.d j v c
 .rcases hW q with⟨rfl,c⟩|⟨n,c⟩
  .cases c
  .exact r.sl j l' m C c
 .rcases hW q with⟨rfl,c⟩|⟨n,c⟩
  .cases c;exact⟨a,S,Q,N,ys,hU,hy⟩
  .obtain⟨b,P,e2,e3,zs,e4,Z⟩:=r.dv.at_ j o c;have:b≠a:=λz=>r.dv.dj j i o kvs c e n (by rw[P,S,z]);exact⟨b,P,e2,e3,zs,by rw[gY this];exact e4,Z⟩
 .rcases hW q with⟨rfl,c⟩|⟨n,c⟩
  .rcases hW y with⟨rfl,l⟩|⟨R,l⟩
   .exact absurd rfl g
   .exact r.dv.dj j k kvs s e l g
  .rcases hW y with⟨rfl,l⟩|⟨R,l⟩
   .exact r.dv.dj j k o kvs c e g
   .exact r.dv.dj j k o s c l g
def PP(h:ME K E t f)(hk:ME K E tk fk):MS K E (My (nM i) tk t) (xy i (oV fk) (oV f)):=λF0 H0 F H σ ρ D r q=>by
 unfold xy at q;cases e:wd ρ i with
 |bad=>rw[e]at q;exact q.elim
 |er C n=>unfold wd at e;split at e<;>cases e
 |ok kvs=>
  rw[e]at q;have l:=IV e;obtain⟨a,s,_⟩:=r.dv.at_ i kvs l;refine h.inB r q λx v F' H' g L r' U=>⟨_,s,?_⟩;refine hk.inB r' U λy w I R B o J A=>?_;obtain⟨S,j,Z,Q,xs,z,dr⟩:=J.dv.at_ i kvs l;rw[s]at j;have:a=S:=by simpa using j
  subst this;cases o with
  |tup h rs=>
   rename_i b vs u;have c:(match jY u with
    |some ns=>if kvs.length<sizeLine then O.nx (ρ.set i (some (.d (rY kvs ns x)))) else .bad
    |none=>.bad).res K E F0 H0 I D:=A
   cases m:jY u with
   |none=>rw[m]at c;exact c.elim
   |some ns=>
    rw[m]at c;dsimp only at c;by_cases k:kvs.length<sizeLine
    .rw[aQ k]at c;have N:=m7 m;rw[N]at rs;have Y:=rs.ints;have P:R b=some (.tup ((ns.map Sum.inl).map L2.kV)):=by rw[aI,B.fh _ _ h,Y];rfl
     refine⟨a,_,rfl,Nn.t z P (by rw[Paired.length dr];exact k),?_⟩;exact c I _ _ (.refl _) (J.changeD l s Z Q z (dr.put ns (L.mono B.ff)))
    .rw[aR k]at c;exact c.elim
  |_=>exact A.elim
def zq i (hr:jZ k X.A) (b:PE X (.Name x p) (nM i)) (a:Pm K E X i_ tk fk) (hv:Pm K E X v t f) (c:swapsWith v (some (.Subscript (.Name x p) i_ pos')) pos.line X.env=pure false:=by rfl) :
  vW K E X (.Assign [.Subscript (.Name x p) i_ pos'] v pos) (My (nM i) tk t) (xy i (oV fk) (oV f)):=⟨PN (Lf hr) b a.pe hv.pe c,PP hv.me a.me⟩
@[simp] noncomputable def vY(i:Nat):En->O:=λρ=>match ρ[i]? with
 |some (some (.d kvs))=>.rf (kvs.map λa=>tI a.1)
 |_=>.bad
def Rg:List V->Hp->VK->Prop:=λd H Q=>∃a c,d=[.ref a]/\H a=some (.dT c)/\∀(l:Addr) (bs:List Addr),H l=none->bs.length=c.length->
  (∀(i:Nat) (b:Addr),bs[i]? = some b->∃k v,c[i]? = some (k,v)/\H b=some (.tup (k.map L2.kV)))->Q (.ref l) (jR H l (.lst (bs.map V.ref)))
def Gw:MS K E (xU (LK Rg (qd (nM i) um))) (vY i):=λF0 H0 F H σ ρ D r q=>by
 classical
 unfold vY at q;split at q
 .rename_i m e;obtain⟨a,ea,fa,za,xs,S,dr⟩:=r.dv.at_ i m e;refine⟨_,ea,a,xs,rfl,S,λl bs u s L=>?_⟩;let A:Hp:=λc=>if c∈bs then H c else F c
  have f:∀c,c∈bs->A c=H c:=λc b=>aQ b;have d:∀c,c∉bs->A c=F c:=λc b=>aR b;have tp:∀c,c∈bs->∃w,H c=some (.tup w):=λc b=>by obtain⟨j,hj⟩:=dG.mp b;obtain⟨k,v,_,h⟩:=L j c hj;exact⟨_,h⟩
  have Q:iJ F A:=λc o h=>by
   by_cases b:c∈bs
   .rw[f c b];exact r.gr.fh c o h
   .rw[d c b];exact .of h
  have U:l∉bs:=λb=>by obtain⟨w,h⟩:=tp l b;rw[u]at h;cases h
  have I:iJ H (jR H l (.lst (bs.map V.ref))):=pG u;refine q l (bs.map V.ref) A _ ⟨r.gr.ff.trans Q,λc o h=>?_,r.gr.hh.trans I,λc b=>?_⟩ (iO r.gr.hh u) (by rw[d l U];exact iO r.gr.fh u) hU (zg (by simp[s,Paired.length dr]) λj t n=>?_)
  .by_cases b:c∈bs
   .rw[f c b]at h;exact I c o h
   .rw[d c b]at h;exact r.gr.fh.trans I c o h
  .by_cases J:c∈bs
   .obtain⟨w,h⟩:=tp c J;cases z:H0 c with
    |none=>exact .inr (.inl rfl)
    |some o=>exact .inr (.inr ⟨w,by have k:=r.gr.hh c o z;rw[h]at k;rw[vM k λ_ _ y=>nomatch y]⟩)
   .rw[d c J]at b;exact r.gr.nw c b
  .rw[av]at n;cases B:m[j]? with
   |none=>rw[B]at n;cases n
   |some kv=>
    rw[B]at n;have C:tI kv.1=t:=by simpa using n
    have g:j<bs.length:=by rw[s,Paired.length dr];exact (aa.mp B).1
    obtain⟨k,v,e1,P⟩:=L j _ (ag g);obtain⟨R,N,Z,_⟩:=w9 dr e1;rw[B]at N;cases N;refine⟨.ref bs[j],by rw[av,ag g];rfl,?_⟩;rw[<-C];have Y:k=kv.1.map Sum.inl:=Z;rw[Y,aI]at P;exact .tup (by rw[f _ (aV g)];exact P) (iD.of_ints _)
 .exact q.elim
def Nc i (f:X.calm=true) (c:X.mg "list" = none) (d:PE X (.Name x p) (nM i)) (b:Gl X "list" :=by rfl) (a:starEach [Expr.Name x p] X.env=[(false,eval (.Name x p) X.env)]:=by rfl) :
  vW K E X (.Return (some (.Call (.Name "list" p1) [.Name x p] [] pos1)) pos) (xU (LK Rg (qd (nM i) um))) (vY i):=
 ⟨Ak (xg (Fp f) b c lu (qc d uJ a) (by decide) (by decide) a rfl),Gw⟩
end
section
variable {K:W.Frag}{E:XK}{X:Cx}{t:TE}
@[simp] noncomputable def Bt(i:Nat)(f:En->M a0):En->O:=λa=>.of (oE a i) λb=>.of (f a) λc=>if b.length<sizeLine then .nx (a.set i (some (.o (b++[.lst c])))) else .bad
def MN(p:∀l xs H,H l=some (.lst xs)->Tn K "list" (.ref l) H)(h:MF K E t f):MS K E (qR (IT K i t)) (Bt i (AC f)):=λA y F H x o D r q=>by
 unfold Bt at q;cases e:oE o i with
 |bad=>rw[e]at q;exact q.elim
 |er C n=>unfold oE at e;split at e<;>cases e
 |ok ts=>rw[e]at q;have k:=vC e;obtain⟨w,s,_⟩:=r.ov;obtain⟨a,_,_,z,d,_⟩:=s i ts k;refine⟨_,a,p _ _ _ d,?_⟩;refine h.inB r q λI l L J B g m b hv hr u=>?_;have v:=g.take hv b m;obtain⟨N,j,c⟩:=zV (r.grow v) k (.lst hU (hr.mono (j8 b))) (u.go (j8 b));rw[a]at j;cases j;exact c
variable {e:Expr}{te:TE}{ff:Pe->M a0}{p apos pos pos':Pos}
def IP i (hv:PE X (.Name x p) (nM i)) (f:Hj K E X e te ff) (g:starEach [e] X.env=(false,eval e X.env)::starEach [] X.env:=by rfl) (j:X.K=K:=by rfl)
  (b:attributeBase (.Name x p) "append" X.env (eval (.Name x p) X.env)=eval (.Name x p) X.env:=by rfl)
  (c:((backTo pos (starEach [e] X.env)).all (λx=>!x.1)&&(backToKw pos (keywordEach [] X.env)).all (λx=>x.1.isSome)&&decide (([e]:List Expr).length+([]:List Keyword).length+(if ([]:List Keyword).isEmpty then 0 else 1)<30))=true:=by rfl)
  (a:(apos.endLine==pos.line)=true:=by rfl) (hplain:(backTo pos (starEach [] X.env)).any (·.1)=false:=by rfl) (d:swapsWith (.Call (.Attribute (.Name x p) "append" apos) [e] [] pos) none pos'.line X.env=pure false:=by rfl) :
  vW K E X (.Expr (.Call (.Attribute (.Name x p) "append" apos) [e] [] pos) pos') (qR (IT K i te)) (Bt i (AC ff)):=by
 subst j;exact⟨vL (Ig PySem.F.plainAttrs_list PySem.F.slot_list_append PySem.F.type_list_append tW hv (qc f.pe uJ g) b c a g hplain) d,MN (λl k H h=>B6 h) f.mf⟩
end
end L3
namespace L3
open PySem L2 PySem.Spec PyProof.Rows
def Tt:Nat->(List Value->Prop)->Prop
 |0,P=>P []
 |k+1,P=>∀v,Tt k λus=>P (v::us)
theorem rK:∀{k} {P},Tt k P->∀us:List Value,us.length=k->P us
 |0,_,h,[],_=>h
 |k+1,_,h,v::us,e=>rK (h v) us (by simpa using e)
def Wa(X:Cx):Prop:=∀x,X.env.scope.names.lookup x=some .cell->∃c,X.env.cells.lookup x=some c
structure Zx(P:Program)(w:World)(K:W.Frag)(mg:Str->Option Value)(base:Heap):Prop where
 here:True
section
variable {P:Program}{w:World}{K:W.Frag}{mg:Str->Option Value}{base:Heap}
noncomputable abbrev CP(_:Zx P w K mg base)(x:Str)(k:Nat)(F:List T->M T):Prop:=mU P w K mg base x k (uT K F)
noncomputable abbrev CF(_:Zx P w K mg base)(x:Str)(k:Nat)(F:List T->M a0):Prop:=mU P w K mg base x k (DB K F)
end
section
variable {P:Program}{w:World}{K:W.Frag}{mg:Str->Option Value}{base:Heap}{x m qual:Str}{C:Addr}{st:Stmt}{g:En->O}
noncomputable abbrev Vm(P:Program)(w:World)(K:W.Frag)(mg:Str->Option Value)(base:Heap)(k:Nat)(qual:Str)(st:Stmt)(N:List Str)(g:En->O):Prop:=∀{f:Addr} {cdv:Value} {A:Around} {outer:List Env} {s:Shared} {H:Hp} {E:XK},N.Nodup->Wa (sM Aw P w K mg base N qual (gZ st) f cdv A outer s H E).nox->jZ k (A.deeper (envOfC qual (gZ st) s.heap.objs.size f cdv))->∃t,r9 K E (sM Aw P w K mg base N qual (gZ st) f cdv A outer s H E).nox (jx st) t g
abbrev BD(x qual:Str)(st:Stmt)(ps:List Str):Prop:=∀(kV doc pm:Value) (an:Option Addr) (cdv ct:Value),Tt ps.length λus=>bindArgs (W.fnOf x qual (kH st) (jx st) (gZ st) .none kV doc pm an cdv ct) ⟨us,[]⟩=pure (ps.zip us)
def jO(_:Zx P w K mg base) k F N ps (e:F=lG ps.length N.length g) (D:gQ K mg x st) (i:Vm P w K mg base k x st N g) (S:kh N ps (gZ st):=by constructor<;>first|rfl|decide +kernel)
  (n:BD x x st ps:=by first|exact λ_ _ _ _ _ _ _ _=>rfl|exact λ_ _ _ _ _ _ _=>rfl|exact λ_ _ _ _ _ _ _ _ _=>rfl|exact λ_ _ _ _ _ _ _ _ _ _=>rfl|exact λ_ _ _ _ _ _ _ _ _ _ _=>rfl|exact λ_ _ _ _ _ _=>rfl) :
  mU P w K mg base x (k+1) (uT K F):=e▸WA D S (λa b c d e f j l=>rK (n a b c d e f) j l) λ_ _ _ _ _ _ _ r=>i S.nd (λ_ h=>pV h) r
def oO(_:Zx P w K mg base) k F N ps (e:F=v5 ps.length N.length g) (D:gQ K mg x st) (i:Vm P w K mg base k x st N g) (S:kh N ps (gZ st):=by constructor<;>first|rfl|decide +kernel)
  (n:BD x x st ps:=by first|exact λ_ _ _ _ _ _ _ _=>rfl|exact λ_ _ _ _ _ _ _=>rfl|exact λ_ _ _ _ _ _ _ _ _=>rfl|exact λ_ _ _ _ _ _ _ _ _ _=>rfl|exact λ_ _ _ _ _ _ _ _ _ _ _=>rfl|exact λ_ _ _ _ _ _=>rfl) :
  mU P w K mg base x (k+1) (DB K F):=e▸WI D S (λa b c d e f j l=>rK (n a b c d e f) j l) λ_ _ _ _ _ _ _ r=>i S.nd (λ_ h=>pV h) r
def Ru(_:Zx P w K mg base) k F N ps (e:F=lG ps.length N.length g) (o:Bm K C) (D:mv K C m qual st) (i:Vm P w K mg base k qual st N g) (S:kh N ps (gZ st):=by constructor<;>first|rfl|decide +kernel)
  (n:BD m qual st ps:=by first|exact λ_ _ _ _ _ _ _=>rfl|exact λ_ _ _ _ _ _ _ _=>rfl|exact λ_ _ _ _ _ _ _ _ _=>rfl) :
  lA P w K mg base C m (k+1) (uT K F):=e▸VM o D S (λa b c d e f j l=>rK (n a b c d e f) j l) λ_ _ _ _ _ _ _ r=>i S.nd (λ_ h=>pV h) r
def Ud(_:Zx P w K mg base) k F N ps (e:F=v5 ps.length N.length g) (o:Bm K C) (D:mv K C m qual st) (i:Vm P w K mg base k qual st N g) (S:kh N ps (gZ st):=by constructor<;>first|rfl|decide +kernel)
  (n:BD m qual st ps:=by first|exact λ_ _ _ _ _ _ _=>rfl|exact λ_ _ _ _ _ _ _ _=>rfl|exact λ_ _ _ _ _ _ _ _ _=>rfl) :
  lA P w K mg base C m (k+1) (DB K F):=e▸VS o D S (λa b c d e f j l=>rK (n a b c d e f) j l) λ_ _ _ _ _ _ _ r=>i S.nd (λ_ h=>pV h) r
def UP(_:Zx P w K mg base) k F N ps (e:F=lG ps.length N.length g) (D:NR K x x st f fd) (a:Vm P w K mg base k x st N g) (S:kh N ps (gZ st):=by constructor<;>first|rfl|decide +kernel) :
  pR P w K mg base Aw (k+1) f fd ps (uT K F):=e▸Wv D S λ_ _ _ _ _ _ _ r=>a S.nd (λ_ h=>pV h) r
def Wm(_:Zx P w K mg base) k F N (e:F=AY C n f1 f2 g1 g2) (q:Bm K C) (y:nR K C f1) (I:nR K C f2) (z:W.makesIn K C=true) (o:W.keepIn K (.ref C)=true) (u:mg x=some (.ref C)) (D:mv K C "__init__" qual st)
  (j:∀{f:Addr} {i:Value} {A:Around} {h:List Env} {s:Shared} {H:Hp} {E:XK},jZ k (A.deeper (envOfC qual (gZ st) s.heap.objs.size f i))->Ww K E (sM Aw P w K mg base N qual (gZ st) f i A h s H E).nox (jx st) f1 f2 g1 g2)
  (S:kh N N (gZ st):=by constructor<;>first|rfl|decide +kernel) (v:BD "__init__" qual st N:=by exact λ_ _ _ _ _ _ _ _ _=>rfl) (ne:f1≠f2:=by decide) (l:N.length=n+1:=by rfl) :
  FV P w K mg base x C (k+1) (EY K C F):=e▸SQ q y I ne D S z o u l (λa b c d e f B p=>rK (v a b c d e f) B p) λ_ _ _ _ _ _ _ r=>j r
end
section
variable {K:W.Frag}{E:XK}{X:Cx}{tg elt iter:Expr}{ifs:List Expr}{scope:Scope}{wi:TI}{g:TG}{tt:TT}{te:TE}{fe:Pe->M T}{fi:Pe->M a0}{m:T->Pe->Option Pe}{ft:Pe->M Bool}{pos:Pos}{x:Str}
noncomputable abbrev WQ(K:W.Frag)(X:Cx)(scope:Scope)(N:List Str)(tg elt:Expr)(ifs:List Expr)(g:TG)(tt:TT)(te:TE)(m:T->Pe->Option Pe)(ft:Pe->M Bool)(fe:Pe->M T):Prop:=∀{C s₃ H ex pn},N.Nodup->Wa (pj X N scope C s₃ H ex pn)->Uw K (pj X N scope C s₃ H ex pn) tg g m/\Mv K NP (pj X N scope C s₃ H ex pn) ifs tt ft/\Pm K NP (pj X N scope C s₃ H ex pn) elt te fe
def jb N ix (e:Wa X) (c:NQ K E X tg iter wi fi) (b:WQ K X scope N tg elt ifs g tt te m ft fe) (d:C2 X.N X.env.scope scope N ix=true:=by rfl) (a:rA ix g:=by first|exact Al rfl|exact yG rfl rfl) (nd:N.Nodup:=by decide) (h:X.calm=true:=by rfl)
  (f:∀x,foldedSetIterable iter X.env x=pure x:=by intro _;rfl):Hj K E X (.ListComp elt [⟨tg,iter,ifs,0⟩] scope pos) (Kj ix wi g tt te) (j5 ix fi m ft fe):=
 let L:=Vt e d
 VB h c L a (λ_ _ _ _ _=>b nd (Kx L)) f
def pW N ix i (e:X.N.Nodup) (l:Wa X) (h:NQ K E X tg iter wi fi) (b:WQ K X scope N tg elt ifs g tt te m ft fe)
  (f:MF K E (Kj ix wi g tt te) (j5 ix fi m ft fe)->MS K E (nW (Kj ix wi g tt te) (j9 i)) gm) (k:C2 X.N X.env.scope scope N ix=true:=by rfl) (a:rA ix g:=by first|exact Al rfl|exact yG rfl rfl) (nd:N.Nodup:=by decide) (p:HR X.env.scope x:=by first|exact Or.inl rfl|exact Or.inr rfl) (o:X.calm=true:=by rfl)
  (j:X.N[i]? = some x:=by rfl) (d:X.fn x=true\/X.env.scope.names.lookup x=some .local:=by first|exact .inl rfl|exact .inr rfl)
  (c:swapsWith (.ListComp elt [⟨tg,iter,ifs,0⟩] scope pos) (some (.Name x py)) spos.line X.env=pure true:=by rfl)
  (n:∀x,foldedSetIterable iter X.env x=pure x:=by intro _;rfl):vW K E X (.Assign [.Name x py] (.ListComp elt [⟨tg,iter,ifs,0⟩] scope pos) spos) (nW (Kj ix wi g tt te) (j9 i)) gm:=
 let L:=Vt l k
 RM i e p o h L a (λ_ _ _ _ _=>b nd (Kx L)) f j d c n
end
end L3
namespace L3
open PySem L2 PySem.Spec PyProof.Rows
section
variable {K:W.Frag}{E:XK}{X:Cx}{e:Expr}{es:List Expr}{tr:TA}{pos pos' p p2 p3 p4 p5 pc apos:Pos}{x y:Str}
noncomputable abbrev ii:=qd (tC (.int 0)) um
def QM(hv:PE X (.Name x p) (nM i))(g:Dj (.Constant (.int 1) jj p2):=by intro _ _;rfl)
  (a:starEach [Expr.Constant (.int 0) j0 p5] X.env=(false,eval (.Constant (.int 0) j0 p5) X.env)::starEach [] X.env:=by rfl)
  (c:attributeBase (.Subscript (.Name x p) (.Constant (.int 1) jj p2) p4) "append" X.env (eval (.Subscript (.Name x p) (.Constant (.int 1) jj p2) p4) X.env)=eval (.Subscript (.Name x p) (.Constant (.int 1) jj p2) p4) X.env:=by rfl)
  (b:((backTo pos (starEach [Expr.Constant (.int 0) j0 p5] X.env)).all (λx=>!x.1)&&(backToKw pos (keywordEach [] X.env)).all (λx=>x.1.isSome)&&decide (([Expr.Constant (.int 0) j0 p5]:List Expr).length+([]:List Keyword).length+(if ([]:List Keyword).isEmpty then 0 else 1)<30))=true:=by rfl)
  (f:(apos.endLine==pos.line)=true:=by rfl) (d:(backTo pos (starEach [] X.env)).any (·.1)=false:=by rfl)
  (h:swapsWith (.Call (.Attribute (.Subscript (.Name x p) (.Constant (.int 1) jj p2) p4) "append" apos) [.Constant (.int 0) j0 p5] [] pos) none pos'.line X.env=pure false:=by rfl) :
  PS X (.Expr (.Call (.Attribute (.Subscript (.Name x p) (.Constant (.int 1) jj p2) p4) "append" apos) [.Constant (.int 0) j0 p5] [] pos) pos') (qR (Ux X.K "list" rB (wL (Tw X.K) (nM i) (tC (.int 1))) ii)):=
 vL (Ig PySem.F.plainAttrs_list PySem.F.slot_list_append PySem.F.type_list_append tW (QR NA hv Gx g) (qc Gx uJ a) c b f a d) h
def He i (b:X.N.Nodup) (h:PE X e te) (f:HR X.env.scope x:=by first|exact Or.inl rfl|exact Or.inr rfl) (c:X.N[i]? = some x:=by rfl) (d:swapsWith e (some (.Name x pos')) pos.line X.env=pure false:=by rfl) (a:X.fn x=true\/X.env.scope.names.lookup x=some .local:=by first|exact .inl rfl|exact .inr rfl|assumption) :
  PS X (.Assign [.Name x pos'] e pos) (nW te (j9 i)):=y9 b c f h d a
end
end L3
namespace L3
open PySem L2 PySem.Spec PyProof.Rows
section
variable {K:W.Frag}{E:XK}{F H:Hp}{X:Cx}{a b:Expr}{ta tb:TE}{fa fb:Pe->M T}{pos:Pos}
theorem pY.dr:∀{xs} {kvs},pY K F xs kvs->DR K F xs kvs
 |_,_,.nil=>.nil
 |_,_,.cons h r=>.cons ⟨rfl,h⟩ (pY.dr r)
theorem DR.rd:∀{xs} {kvs},DR K F xs kvs->pY K F xs kvs
 |[],_,.nil=>.nil
 | (_,_)::_,_,.cons ⟨e,h⟩ r=>by cases e;exact .cons h (DR.rd r)
noncomputable def nH(kvs:List (LI×T))(k:LI):Option T:=(kvs.find? λc=>decide (c.1=k)).map (·.2)
theorem pY.val k:∀{xs} {kvs},pY K F xs kvs->(nH kvs k=none/\uI xs (k.map Sum.inl)=none)\/∃t v,nH kvs k=some t/\uI xs (k.map Sum.inl)=some v/\lF K F v t
 |_,_,.nil=>.inl ⟨rfl,rfl⟩
 |_,_,.cons (k:=j) (v:=v) (t:=t) h r=>by
  unfold nH uI;by_cases e:j=k
  .subst e;exact .inr ⟨t,v,by simp,by simp,h⟩
  .rw[List.find?_cons_of_neg (by simpa using e),List.find?_cons_of_neg (by simpa using λz=>e (yj z))];exact pY.val k r
def yP:List T->Option (List (LI×T))
 |[]=>some []
 |.tup [.tup ks,v]::r=>(jY ks).bind λc=>(yP r).bind λq=>some ((c,v)::q)
 |_=>none
noncomputable def vI(kvs c:List (LI×T)):List (LI×T):=c.foldl (λk q=>rY k q.1 q.2) kvs
@[simp] noncomputable def Dw:List T->M T
 |[.lst ts]=>match yP ts with
  |some ps=>.ok (.dic (vI [] ps))
  |none=>.bad
 |_=>.bad
def K2 xs:M.NoE (Dw xs):=λC n=>by unfold Dw;split<;>first|(intro z;cases z;done)|(split<;>intro z<;>cases z)
theorem Nz:∀{vs} {ts} {ps},iD K F vs ts->yP ts=some ps->∃l:List Pr,vs=l.map (λq=>.ref q.1)/\(∀q∈l,Qa F q)/\pY K F (l.map λq=>(q.2.2.1,q.2.2.2)) ps
 |_,[],_,.nil,e=>by cases e;exact⟨[],rfl,(λ_ h=>nomatch h),pY.nil⟩
 |_,t::ts,ps,.cons h r,e=>by
  unfold yP at e;split at e
  .rename_i z;cases z
  .rename_i j v m z;cases z;cases d:jY j with
   |none=>rw[d]at e;cases e
   |some ns=>
    rw[d]at e;cases c:yP ts with
    |none=>rw[c]at e;cases e
    |some q=>
     rw[c]at e;cases e;obtain⟨l,rfl,f,k⟩:=Nz r c;cases h with
     |tup h rs=>
      cases rs with
      |cons h1 rs=>
       cases rs with
       |cons hv rs=>
        cases rs;cases h1 with
        |tup hb rk=>
         rw[m7 d]at rk;rename_i a g b n;refine⟨(a,b,ns.map Sum.inl,g)::l,rfl,λq i=>?_,.cons hv k⟩;rcases aF.mp i with rfl|z
         .exact⟨h,by rw[hb,rk.ints,aI];rfl⟩
         .exact f q z
  .cases e
theorem Bz:∀l {xs} {kvs ps},pY K F (l.map λq=>(q.2.2.1,q.2.2.2)) ps->pY K F xs kvs->pY K F (wQ xs l) (vI kvs ps)
 |[],_,_,ps,h,r=>by cases h;exact r
 |q::l,xs,kvs,ps,h,r=>by
  generalize e:(q::l).map (λq:Pr=>(q.2.2.1,q.2.2.2))=m at h;cases h with
  |nil=>cases e
  |cons h1 h2=>rw[bI]at e;obtain⟨c,d⟩:=List.cons.inj e;subst d;have i:=(Prod.mk.inj c).1;have f:=(Prod.mk.inj c).2;rename_i k v t g;show pY K F (wQ (qY xs q.2.2.1 q.2.2.2) l) (vI (rY kvs k t) g);refine Bz l h2 ?_;rw[i,f];exact (r.dr.put _ h1).rd
def QB:MC K (λxs H Q=>∃l c,xs=[.ref l]/\H l=some (.lst (c.map λq=>.ref q.1))/\(∀q∈c,Qa H q)/\∀d,H d=none->Q (.ref d) (jR H d (.dT (wQ [] c)))) Dw:=⟨K2,λF H k xs Q s r q=>by
 unfold Dw at q;split at q
 .split at q
  .rename_i j _ c e;cases r with
   |cons h t=>
    cases t;cases h with
    |lst h r=>obtain⟨l,rfl,g,i⟩:=Nz r e;refine⟨_,l,rfl,s _ _ h,λp e=>⟨s _ _ (g p e).1,s _ _ (g p e).2⟩,λd f=>?_⟩;exact q (.ref d) _ _ (.new s f) (.dic hU ((Bz l i .nil).mono (Gr.new s f).ff))
  .exact q.elim
 .exact q.elim⟩
def Od:bootBuiltins "dict" = some (.type "dict"):=by decide +kernel
def XY(hr:jZ k A):A.units+4<cLine:=by have:=hr.un;omega
noncomputable def Gj(neg:Bool):T->T->M T
 |.tup ks,.dic kvs=>match jY ks with
  |some ns=>.ok (.bl (if neg then !(nH kvs ns).isSome else (nH kvs ns).isSome))
  |none=>.bad
 |_,_=>.bad
def TZ:R2:=λy x H Q=>∃a o,x=.ref a/\CT H a y o/\Q (.bl o.isSome) H
def T4(f:X.A.units+1<cLine):rO X (compareOp .In) TZ:=by intro k s j H x y v u Q I e d h;obtain⟨a,o,rfl,g,q⟩:=h;cases d;exact Wq f I g e λi c=>⟨.bl _,H,c,rfl,q⟩
def Oa x y:M.NoE (Gj neg x y):=λC n=>by unfold Gj;split<;>first|(intro z;cases z;done)|(split<;>intro z<;>cases z)
def Vz{kvs:List (LI×T)}{c:LI}(s:iJ F H)(e:F p=some (.tup vs))(f:iD K F vs (c.map T.int))(g:F d=some (.dT xs)):CT H d (.ref p) (uI xs (c.map Sum.inl)):=CT.t (s _ _ g) (by rw[s _ _ e,f.ints,aI];rfl)
def Ub:MR K TZ (Gj false):=⟨Oa,λF H v w x y Q s e rb q=>by
 unfold Gj at q;split at q
 .split at q
  .rename_i h kvs _ f g;cases e with
   |tup hp rk=>
    cases rb with
    |dic hd rd=>rw[m7 g]at rk;refine⟨_,_,rfl,Vz (kvs:=kvs) s hp rk hd,?_⟩;rcases rd.val f with⟨c,d⟩|⟨t,v,c,d,_⟩<;>(rw[c]at q;rw[d];exact kV.now q s (.bl _))
  .exact q.elim
 .exact q.elim⟩
def QL(hr:jZ k X.A)(c:Pm K E X a ta fa)(d:Pm K E X b tb fb)(e:behindInMarks .In b=false:=by rfl):Df K E X (.Compare a [.In] [b] pos) (A1 (wL TZ ta tb)) (iR (gR (Gj false) fa fb)):=iL (T4 (Lf hr)) Ub c d e
noncomputable def Gf:T->T->M T
 |.dic kvs,.tup ks=>match jY ks with
  |some ns=>match nH kvs ns with
   |some t=>.ok t
   |none=>.bad
  |none=>.bad
 |_,_=>.bad
def TR(j:ME K E ta fa)(m:ME K E tb fb):ME K E (Ld ta tb) (gR Gf fa fb):=λF H D I Q s V q=>by
 refine j.run s V q λx v C L e p k=>?_;refine m.run e.fh (V.mono e.ff) k λy w z n f B c=>?_;have r:=p.mono f.ff;unfold Gf at c;split at c
 .split at c
  .rename_i kvs N _ o A;split at c
   .rename_i t d;cases r with
    |dic hd rd=>
     cases B with
     |tup hp rk=>
      rw[m7 A]at rk;rcases rd.val o with⟨h,i⟩|⟨J,u,h,i,l⟩
      .rw[h]at d;cases d
      .rw[h]at d;cases d;have g:=Vz (kvs:=kvs) f.fh hp rk hd;rw[i]at g;exact⟨_,u,rfl,g,c _ z n (e.trans f) l⟩
   .exact c.elim
  .exact c.elim
 .exact c.elim
def Mc(hr:jZ k X.A)(c:Pm K E X a ta fa)(d:Pm K E X b tb fb)(e:TQ b:=by intro _ _;rfl):Pm K E X (.Subscript a b pos) (Ld ta tb) (gR Gf fa fb):=⟨Oy (Lf hr) c.pe d.pe e,TR c.me d.me⟩
end
section
variable {P:Program}{w:World}{K:W.Frag}{mg:Str->Option Value}{base:Heap}{x:Str}{st:Stmt}
def Vj N ps (e:F=λ_=>.bad) (D:gQ K mg x st) (S:kh N ps (gZ st):=by constructor<;>first|rfl|decide +kernel)
  (l:BD x x st ps:=by first|exact λ_ _ _ _ _ _ _ _=>rfl|exact λ_ _ _ _ _ _ _=>rfl|exact λ_ _ _ _ _ _ _ _ _=>rfl):mU P w K mg base x (k+1) (uT K F):=by
 have i:∀g H Q E,¬uT K F g H Q E:=λg H Q E h=>by subst e;obtain⟨_,_,_,_,_,z⟩:=h
 exact De D S (λa b c d e f m j=>rK (l a b c d e f) m j) (λg H Q E h=>absurd h (i _ _ _ _)) λ_ _ _ _ _ _ _ _ _ _ h=>absurd h (i _ _ _ _)
end
end L3
namespace L3
open PySem L2
section
variable {K:W.Frag}{E:XK}{X:Cx}{F0:Fz}{H0 F H:Hp}{σ:L2.St}{ρ:En}
theorem DR.rep:∀{xs kvs},DR K F xs kvs->pY K F xs kvs
 |_,_,.nil=>.nil
 | (_,_)::_,(_,_)::_,.cons h t=>by obtain⟨rfl,a⟩:=h;exact .cons a (DR.rep t)
def Sr.freezeD(r:Sr K F0 H0 F H σ ρ)(e:ρ[j]? = some (some (.d kvs))):∃F',iJ F F'/\Sr K F0 H0 F' H σ (ρ.set j (some (.p (.dic kvs)))):=by
 obtain⟨ad,h1,h2⟩:=r.ov;obtain⟨a,ea,b,c,Y,d,z⟩:=r.dv.at_ j kvs e;have s:iJ F (jR F a (.dT Y)):=j8 b;refine⟨jR F a (.dT Y),s,⟨r.gr.ff.trans s,λp u q=>?_,r.gr.hh,λp B=>?_⟩,by simp[r.len],λi t q=>?_,⟨ad,λi A q=>?_,λi k A Q q J l=>?_⟩,λU he=>?_,λi l' m P q=>?_,⟨λi C q=>?_,λi k C D q J l=>?_⟩⟩
 .by_cases B:p=a
  .subst B;rw[hU]at q;cases q;exact d
  .rw[gY B]at q;exact r.gr.fh p u q
 .by_cases S:p=a
  .subst S;exact .inr (.inl c)
  .rw[gY S]at B;exact r.gr.nw p B
 .rcases hW q with⟨rfl,g⟩|⟨o,g⟩
  .cases g;exact⟨_,ea,.dic hU (DR.rep (z.mono s))⟩
  .obtain⟨v,x,y⟩:=r.pv i t g;exact⟨v,x,y.mono s⟩
 .rcases hW q with⟨rfl,g⟩|⟨o,g⟩
  .cases g
  .obtain⟨R,b',c',m,N,z'⟩:=h1 i A g;exact⟨R,by rw[gY (λw=>by rw[w,d]at N;cases N)];exact b',c',m,N,z'.mono s⟩
 .rcases hW q with⟨rfl,g⟩|⟨o,g⟩
  .cases g
  .rcases hW J with⟨rfl,n⟩|⟨hk,n⟩
   .cases n
   .exact h2 i k A Q g n l
 .have L:=r.lv U he;have I:U.2.1≠a:=λw=>by have:=L.h;rw[w,d]at this;cases this
  refine⟨L.h,by rw[gY I];exact L.f,L.z,λi A q=>?_⟩;rcases hW q with⟨rfl,g⟩|⟨o,g⟩
  .cases g
  .exact L.d i A g
 .rcases hW q with⟨rfl,g⟩|⟨o,g⟩
  .cases g
  .exact r.sl i l' m P g
 .rcases hW q with⟨rfl,g⟩|⟨o,g⟩
  .cases g
  .obtain⟨R,Z,e2,e3,ys,e4,e5⟩:=r.dv.at_ i C g;exact⟨R,Z,by rw[gY (λw=>r.dv.dj i j C kvs g e o (by rw[Z,ea,w]))];exact e2,e3,ys,e4,e5.mono s⟩
 .rcases hW q with⟨rfl,g⟩|⟨o,g⟩
  .cases g
  .rcases hW J with⟨rfl,n⟩|⟨hk,n⟩
   .cases n
   .exact r.dv.dj i k C D g n l
@[simp] noncomputable def IK(j:Nat)(g:En->O):En->O:=λρ=>match ρ[j]? with
 |some (some (.d kvs))=>g (ρ.set j (some (.p (.dic kvs))))
 |_=>.bad
def Ug j (h:MS K E t g):MS K E t (IK j g):=λF0 H0 F H σ ρ D r q=>by
 unfold IK at q;split at q
 .rename_i a e;obtain⟨b,s,c⟩:=r.freezeD e;exact h F0 H0 b H σ _ D c (q.go s)
 .exact q.elim
def P9 j (h:vW K E X s t g):vW K E X s t (IK j g):=⟨h.ps,Ug j h.ms⟩
def SW(e:ρ[j]? = some (some (.d kvs)))(h:g (ρ.set j (some (.p (.dic kvs))))=r):IK j g ρ=r:=by unfold IK;rw[e];exact h
end
end L3
namespace L3
open PySem L2 PySem.Spec PyProof.Rows
section
variable {K:W.Frag}{E:XK}{X:Cx}{F H F1 H1 F2 H2:Hp}
def uP(F:Hp):Hp:=λa=>match F a with
 |some (.lst _)=>none
 |o=>o
def vj(h:uP F a=some u):F a=some u/\∀xs,u≠.lst xs:=by
 unfold uP at h;split at h
 .cases h
 .rename_i b;exact⟨h,λxs z=>b xs (by rw[h,z])⟩
def CZ(h:F a=some u)(b:∀xs,u≠.lst xs):uP F a=some u:=by
 unfold uP;split
 .rename_i e;rw[h]at e;cases e;exact absurd rfl (b _)
 .exact h
mutual
theorem lF.noL:∀{v} {t},lF K F v t->lf t=true->lF K (uP F) v t
 |_,_,.non,_=>.non
 |_,_,.bl b,_=>.bl b
 |_,_,.int i,_=>.int i
 |_,_,.str x,_=>.str x
 |_,_,.tup h r,e=>.tup (CZ h λ_ z=>nomatch z) (iD.noL r (by rw[lf]at e;exact e))
 |_,_,.lst _ _,e=>by rw[lf]at e;cases e
 |_,_,.scr _,e=>by rw[lf]at e;cases e
 |_,_,.dic _ _,e=>by rw[lf]at e;cases e
 |_,_,.obj h r,e=>.obj (CZ h λ_ z=>nomatch z) (oQ.noL r (by rw[lf]at e;exact e))
 |_,_,.emp h,_=>.emp (CZ h λ_ z=>nomatch z)
theorem iD.noL:∀{vs} {ts},iD K F vs ts->B4 ts=true->iD K (uP F) vs ts
 |_,_,.nil,_=>.nil
 |_,_,.cons h r,e=>by rw[B4,bU]at e;exact .cons (lF.noL h e.1) (iD.noL r e.2)
theorem oQ.noL:∀{vs} {ts},oQ K F vs ts->Ti ts=true->oQ K (uP F) vs ts
 |_,_,.nil,_=>.nil
 |_,_,.cons h r,e=>by rw[Ti,bU]at e;exact .cons (lF.noL h e.1) (oQ.noL r e.2)
end
def Uo(b c:Hp):Hp:=λa=>match b a with
 |none=>c a
 |o=>o
def OJ(s:iJ F1 H1):iJ (uP F1) H1:=λa u e=>s a u (vj e).1
def SA(s:iJ F1 H1)(g:Gr (uP F1) H1 F2 H2):Gr F1 H1 (Uo F2 F1) H2/\iJ F2 (Uo F2 F1):=by
 have c:∀a u,F1 a=some u->F2 a≠none->uP F1 a=some u:=λa u e ne=>by
  rcases g.nw a ne with q|q|⟨f,q⟩
  .cases z:uP F1 a with
   |none=>exact absurd z q
   |some u'=>rw[<-e];exact (vj z).1.symm
  .exact absurd q (s a u e).ne
  .have k:=s a u e;rw[q]at k;have:=vM k λ_ _ y=>nomatch y;subst this;exact CZ e λ_ z=>nomatch z
 refine⟨⟨λa u e=>?_,λa u e=>?_,g.hh,λa b=>?_⟩,λa u e=>?_⟩
 .unfold Uo;split
  .exact .of e
  .rename_i o d;exact g.ff a u (c a u e d)
 .unfold Uo at e;split at e
  .rename_i d;exact (s.trans g.hh) a u e
  .exact g.fh a u e
 .unfold Uo at b;split at b
  .exact .inl b
  .rename_i d;rcases g.nw a b with q|q|q
   .cases z:uP F1 a with
    |none=>exact absurd z q
    |some u'=>exact .inl (by rw[(vj z).1];exact λy=>nomatch y)
   .exact .inr (.inl q)
   .exact .inr (.inr q)
 .unfold Uo;rw[e];exact .of rfl
def VD(g:Gr (uP F1) H1 F2 H2)(h:F2 l=some (.lst ws)):H1 l=none:=by
 rcases g.nw l (by rw[h];exact λz=>nomatch z) with q|q|⟨b,q⟩
 .cases z:uP F1 l with
  |none=>exact absurd z q
  |some u=>have k:=g.ff l u z;rw[h]at k;exact absurd (vM k λ_ _ y=>nomatch y) ((vj z).2 _)
 .exact q
 .have k:H2 l=some (.tup b):=g.hh l _ q;have a:H2 l=some (.lst ws):=g.fh l _ h;rw[k]at a;cases a
def Wb:T->Bool
 |.tup [_,.lst us]=>decide (us.length<sizeLine)
 |_=>false
def Ph(h:Wb t=true):∃a us,t=.tup [a,.lst us]/\us.length<sizeLine:=by
 unfold Wb at h;split at h
 .exact⟨_,_,rfl,of_decide_eq_true h⟩
 .cases h
end
section
variable {K:W.Frag}{E:XK}{X:Cx}{e:Expr}{es:List Expr}{tr:TA}{p p2 p3 p8 pc:Pos}{x y:Str}
def Kf(h:mU X.prog X.w X.K X.mg X.base x j (uT K R))(hr:jZ k X.A)(f:PA X (a::es) tr)(i:j<=k:=by decide)(g:Gl X x:=by rfl)
  (c:(x==("__debug__" : Str))=false:=by decide) (d:starEach (a::es) X.env=(false,eval a X.env)::starEach es X.env:=by rfl) (b:(backTo pc (starEach es X.env)).any (·.1)=false:=by rfl) :
  PE X (.Call (.Name x p) (a::es) [] pc) (uA (uT K R) [] E0 tr):=yV (h.mono i) hr f g c d b
end
end L3
namespace L3
open PySem L2 PySem.Spec PyProof.Rows
section
variable {K:W.Frag}{E:XK}{X:Cx}{F H F1 H1 F2 H2:Hp}
noncomputable def EM(i j:Nat)(fr:Pe->M a0)(R:List T->M T)(d g:Pe->M Bool)(c:Pe->M a0)(f:Pe->M Bool)(e:En->O):En->O:=λa=>match fr (mD a) with
 |.ok xs=>if B4 xs=true/\i≠j/\i<a.length/\j<a.length then (match R xs with
  |.ok t=>(match d (mD (a.set i (some (.p t)))),g (mD (a.set i (some (.p t)))) with
   |.ok false,.ok b=>if b then (if Wb t then (match c (mD (a.set i (some (.p t)))) with
     |.ok ks=>(match jY ks with
      |some ns=>(match f (mD ((a.set i none).set j (some (.p (.lst (ns.map T.int)))))) with
       |.ok true=>.rt (.bl true)
       |_=>.bad)
      |none=>.bad)
     |_=>.bad) else .bad) else e (a.set i (some (.p t)))
   |_,_=>.bad)
  |_=>.bad) else .bad
 |_=>.bad
theorem RQ{t0 t3:TS}{c0 c1 c2:TT}{f0 f1 f2:Pe->M Bool}{t6:TE}{f6 fr:Pe->M a0}{tr:TA}{E0:XK}(ht:∀l xs H,H l=some (.lst xs)->Tn K "list" (.ref l) H)(h:MA K E tr fr)(h0:MT K E c0 f0)(h1:MT K E c1 f1)(h6:MF K E t6 f6)(h2:MT K E c2 f2)(h3:MS K E t3 g3) :
  MS K E (vB (nW (uA (uT K R) [] E0 tr) (j9 i)) (vB (CD c0 t0 vR) (vB (CD c1 (vB (nW t6 (j9 j)) (vB (qR (Ux K "list" rB (wL (Tw K) (nM i) (tC (.int 1))) ii)) (CD c2 (xU (tC (.bl true))) vR))) vR) t3)))
   (EM i j fr R f0 f1 f6 f2 g3):=λF0 U F H I ρ D r q=>by
 unfold EM at q;cases e:fr (mD ρ) with
 |bad=>rw[e]at q;exact q.elim
 |er C n=>rw[e]at q;exact q.elim
 |ok xs=>
  rw[e]at q;refine h F H I (mD ρ) _ r.gr.fh r.vars ?_;rw[e];intro vs F1 H1 m r1;dsimp only at q;split at q
  case isFalse=>exact q.elim
  rename_i hc;obtain⟨hl,ij,il,jl⟩:=hc;refine⟨xs,uP F1,OJ m.fh,by rw[bM];exact r1.noL hl,?_⟩;cases eR:R xs with
  |bad=>rw[eR]at q;exact q.elim
  |er C n=>rw[eR]at q;exact q.elim
  |ok t=>
   rw[eR]at q;intro v F2 H2 B rep;dsimp only at q;obtain⟨y,sm⟩:=SA m.fh B;have N:=r.len;have rr:=r.grow m;have r2:=(rr.grow y).setP (i:=i) (rep.mono sm);split at q
   case h_2=>exact q.elim
   rename_i b e0 e1;refine h0 _ H2 (I.set i (some v)) _ _ y.fh r2.vars ?_;rw[e0];intro F3 H3 c;refine h1 F3 H3 (I.set i (some v)) _ _ c.fh (r2.grow c).vars ?_;rw[e1];intro F4 H4 x;have r4:=(r2.grow c).grow x;cases b with
   |false=>exact h3 F0 U F4 H4 _ _ D r4 (O.res.go q (((m.trans y).trans c).trans x).ff)
   |true=>
    rw[aQ rfl]at q;split at q
    case isFalse=>exact q.elim
    rename_i hap;split at q
    case h_2=>exact q.elim
    rename_i ks e6;split at q
    case h_2=>exact q.elim
    rename_i ns ei;split at q
    case h_2=>exact q.elim
    rename_i e2;obtain⟨t1,us,rfl,hu⟩:=Ph hap;obtain⟨p,ys,rfl,hp,rs⟩:=rep.tup_inv;cases rs with
    |cons rw1 rs2=>
     cases rs2 with
     |cons rw2 rs3=>
      cases rs3;obtain⟨l,Q,rfl,hw,rus⟩:=rw2.lst_inv;have nl:=VD B hw;refine h6 F4 H4 (I.set i (some (V.ref p))) _ _ x.fh r4.vars ?_;rw[e6];intro f s F6 S a6 P nf6 e6' rk;have o:=(c.hh.trans x.hh).trans a6.hh;have L:=y.hh.trans o;rw[m7 ei]at rk;have ev:=rk.ints;have el:S l=some (.lst Q):=o _ _ (B.fh _ _ hw);have ep:S p=some (.tup _):=o _ _ (B.fh _ _ hp);have at2:((I.set i (some (V.ref p))).set j (some (V.ref f)))[i]? = some (some (V.ref p)):=by rw[aq (Ne.symm ij)];exact qg (by rw[N];exact il)
      refine⟨V.ref p,at2,.inr (.inl ⟨p,_,1,.ref l,rfl,rfl,oK.of ep,rfl,ht _ _ _ el,l,Q,.int 0,rfl,rfl,el,by rw[rus.length];exact hu,?_⟩)⟩;have J:=r.gr.trans m;have Z:f≠l:=λz=>by rw[z,(c.hh.trans x.hh) _ _ (B.fh _ _ hw)]at P;cases P
      have f6n:F1 f=none:=by
       cases z:F1 f with
       |none=>rfl
       |some u=>exact absurd P ((m.fh.trans (y.hh.trans (c.hh.trans x.hh))) _ _ z).ne
      have s8:iJ F1 (jR F1 f (.lst s)):=j8 f6n;have A:iJ (jR F1 f (.lst s)) (jR S l (.lst (Q++[.int 0]))):=λa u g=>by
       by_cases d:a=f
       .subst d;rw[hU]at g;cases g;rw[gY Z];exact .of e6'
       .rw[gY d]at g;rw[gY (λz=>by rw[z,iO m.fh nl]at g;cases g)];exact (m.fh.trans L) a u g
      have g8:Gr F0.hp U (jR F1 f (.lst s)) (jR S l (.lst (Q++[.int 0]))):=by
       refine⟨J.ff.trans s8,A,λa u g=>?_,λa ha=>?_⟩
       .rw[gY (λz=>by rw[z]at g;exact (J.hh _ _ g).ne nl)];exact (J.hh.trans L) a u g
       .by_cases d:a=f
        .subst d;right;left;cases z:U a with
         |none=>rfl
         |some u=>exact absurd P ((J.hh.trans (y.hh.trans (c.hh.trans x.hh))) _ _ z).ne
        .rw[gY d]at ha;exact J.nw a ha
      refine h2 _ _ _ (mD ((ρ.set i none).set j (some (.p (.lst (ns.map T.int)))))) _ A (λk u ek=>?_) ?_
      .simp only[mD,dH]at ek;rcases hW ek with⟨rfl,z⟩|⟨hk,z⟩
       .cases z;refine⟨.ref f,qg (by simp[N,jl]),.lst hU ?_⟩;rw[ev];exact iD.of_ints ns
       .rcases hW z with⟨_,Y⟩|⟨hki,Y⟩
        .exact nomatch Y
        .obtain⟨w,a,b⟩:=rr.vars k u Y;exact⟨w,by rw[aq (Ne.symm hk),aq (Ne.symm hki)];exact a,b.mono s8⟩
      .rw[e2];intro F8 H8 g9;exact q _ F8 H8 (g8.trans g9) (.bl true)
def MW{fr c:Pe->M a0} i j (h:Dr K E X es tr fr) (n:PA X es tr->PS X g (nW (uA (uT K R) [] E0 tr) (j9 i))) (f:Df K E X q0 c0 f0) (q:r9 K E X A0 t0 g0) (b:Df K E X q1 c1 f1) (d:Hj K E X q6 t6 c) (m:PE X q6 t6->PS X s6 (nW t6 (j9 j)))
  (k:PS X s7 (qR (Ux X.K "list" rB (wL (Tw X.K) (nM i) (tC (.int 1))) ii))) (a:Df K E X q2 c2 f2) (o:PS X s8 (xU (tC (.bl true)))) (e:r9 K E X A3 t3 g3) (p:X.K=K:=by rfl) :
  r9 K E X (g::.If q0 A0 [] p0::.If q1 [s6,s7,.If q2 [s8] [] p2] [] p1::A3) (vB (nW (uA (uT K R) [] E0 tr) (j9 i)) (vB (CD c0 t0 vR) (vB (CD c1 (vB (nW t6 (j9 j)) (vB (qR (Ux K "list" rB (wL (Tw K) (nM i) (tC (.int 1))) ii)) (CD c2 (xU (tC (.bl true))) vR))) vR) t3))) (EM i j fr R f0 f1 c f2 g3):=by
 subst p;exact⟨pN (n h.pa) (pN (HM f.pt q.ps ya) (pN (HM b.pt (pN (m d.pe) (pN k (yo (HM a.pt (yo o) ya)))) ya) e.ps)),RQ (λl r H h=>B6 h) h.ma f.mt b.mt d.mf a.mt e.ms⟩
def PH{a b f:Pe->M Bool}{c fr:Pe->M a0}(e:fr (mD ρ)=.ok xs)(g:B4 xs=true/\i≠j/\i<ρ.length/\j<ρ.length)(l:R xs=.ok t)(k:a (mD (ρ.set i (some (.p t))))=.ok false)(d:b (mD (ρ.set i (some (.p t))))=.ok false)(h:g3 (ρ.set i (some (.p t)))=r):EM i j fr R a b c f g3 ρ=r:=by unfold EM;rw[e];dsimp only;rw[aQ g,l];dsimp only;rw[k,d];exact h
def Pq{c f d:Pe->M Bool}{b fr:Pe->M a0}(a:LI)(e:fr (mD ρ)=.ok xs)(n:B4 xs=true/\i≠j/\i<ρ.length/\j<ρ.length)(q:R xs=.ok t)(o:c (mD (ρ.set i (some (.p t))))=.ok false)(k:f (mD (ρ.set i (some (.p t))))=.ok true)(h:Wb t=true)(g:b (mD (ρ.set i (some (.p t))))=.ok (a.map T.int))(m:jY (a.map T.int)=some a)(l:d (mD ((ρ.set i none).set j (some (.p (.lst (a.map T.int))))))=.ok true):EM i j fr R c f b d g3 ρ=.rt (.bl true):=by unfold EM;rw[e];dsimp only;rw[aQ n,q];dsimp only;rw[o,k];dsimp only;rw[aQ rfl,aQ h,g];dsimp only;rw[m];dsimp only;rw[l]
end
end L3
namespace CL
open PySem L2 L3
structure Cs where
 Cutting:Addr
 Desk:Addr
 CutError:Addr
 NoCutting:Addr
 NoTable:Addr
 NoFraction:Addr
 NoSpot:Addr
 NoSigns:Addr
 NoLand:Addr
 NoFace:Addr
 NoNumber:Addr
 NoText:Addr
 NoDeed:Addr
noncomputable abbrev ah:=gG 0
noncomputable abbrev al:=gG 1
noncomputable abbrev bd:=gG 2
def vO(c:Cs):En->O:=(gW (setO 2 (jr (gR w6 ah al)))
  (gW (setO 0 (jr al))
  (setO 1 (jr bd))))
noncomputable abbrev ac:=cM (.int 0)
noncomputable abbrev bf:=gF ah gJ
noncomputable abbrev eH:=iR (gR (iA true) al ac)
def xk(c:Cs):En->O:=(gW (λa=>nc eH (vO c) ((λa=>match a with|_::some (.p (.int j))::_=>j.natAbs+1|_=>0) a) a)
  (iW (kG wR bf)))
def ji(c:Cs):List T->M T:=lG 2 3 (xk c)
noncomputable abbrev bc:=gF al gJ
noncomputable abbrev bP:=gF ah bc
noncomputable abbrev gi:=iR (gR (iA false) al ac)
def TY(c:Cs):En->O:=(gW (mh gi (λ_=>.bad) iT)
  (gW (setO 2 (jr (gS bP (ji c))))
  (gW (mh (iR (gR Dq al ac)) (setO 2 (jr (qw (λi=>.int (-i)) bd))) iT)
  (iW (jM (gF (gR n0 ah bd) (gF (gR n0 al bd) gJ)))))))
def rM(c:Cs):List T->M T:=lG 2 3 (TY c)
noncomputable abbrev dk:=gR ja ah ac
noncomputable abbrev dl:=gR ja ah ab
noncomputable abbrev h8:=gR ja al ab
noncomputable abbrev iu:=gR ja al ac
def Ta(c:Cs):En->O:=(gW (mh (iR (gR (iA false) iu ac)) (λ_=>.bad) iT)
  (iW (gS (gF (gR jF dk h8) (gF (gR jF dl iu) gJ)) (rM c))))
def sW(c:Cs):List T->M T:=lG 2 2 (Ta c)
noncomputable abbrev c5:=gR ja ah al
def qC(c:Cs):En->O:=(gW (mh (iR (gR Dq al (kG mC bf))) (iW c5) iT)
  (iW ac))
def jk(c:Cs):List T->M T:=lG 2 2 (qC c)
def Eb(c:Cs):En->O:=(iW (Mp (ua "int" ah) (Ds (ua "bool" ah))))
def jo(c:Cs):List T->M T:=lG 1 1 (Eb c)
def AF(c:Cs):En->O:=(QJ 0 1 (gF al (gF (gR w6 ah al) gJ)))
def CG(c:Cs):En->O:=(gW (setO 0 (jr (kG wR bf)))
  (gW (setO 1 (jr (kG wR bc)))
  (gW (λa=>nc (iR (gR FM al ac)) (AF c) ((λa=>match a with|_::some (.p (.int j))::_=>j.natAbs+1|_=>0) a) a)
  (iW ah))))
def nJ(c:Cs):List T->M T:=lG 2 2 (CG c)
def OL(c:Cs):En->O:=(iW (gS (gF (gR uS (gR jF dk h8) (gR jF iu dl)) (gF (gR jF dl h8) gJ)) (rM c)))
def vK(c:Cs):List T->M T:=lG 2 2 (OL c)
def Oo(c:Cs):En->O:=(iW (gS (gF (gR jF dk iu) (gF (gR jF dl h8) gJ)) (rM c)))
def vZ(c:Cs):List T->M T:=lG 2 2 (Oo c)
def SN(c:Cs):En->O:=(iW (gR Dq (gR jF dk h8) (gR jF iu dl)))
def lM(c:Cs):List T->M T:=lG 2 2 (SN c)
def Di(c:Cs):En->O:=(gW (setO 2 (jr (gS bP (nJ c))))
  (iW (jM (gF (gR n0 ah bd) (gF (gR n0 al bd) gJ)))))
def l8(c:Cs):List T->M T:=lG 2 3 (Di c)
def FP(c:Cs):En->O:=(iW (gR n0 dk dl))
def l5(c:Cs):List T->M T:=lG 1 1 (FP c)
def CC(c:Cs):En->O:=(iW (qw (λi=>.int (-i)) (gR n0 (qw (λi=>.int (-i)) dk) dl)))
def lq(c:Cs):List T->M T:=lG 1 1 (CC c)
def JJ(c:Cs):En->O:=(gW (mh (iR (gR FM ah ac)) (iW ab) iT)
  (gW (mh (iR (gR Dq ah ac)) (iW (qw (λi=>.int (-i)) ab)) iT)
  (iW ac)))
def ki(c:Cs):List T->M T:=lG 1 1 (JJ c)
noncomputable abbrev d2:=cM (.int 3)
def JD(c:Cs):En->O:=(iW (Mp (gS bf (jo c)) (We M8 M8 ab ah d2)))
def pJ(c:Cs):List T->M T:=lG 1 1 (JD c)
def xa(c:Cs):Pe->M T:=(gS bf (jo c))
def wG(c:Cs):Pe->M T:=(gR (iA true) ah ac)
noncomputable abbrev bq:=iW (cM (.bl false))
noncomputable abbrev bv:=jN 0
noncomputable abbrev j2:=kG mC bc
def LU(c:Cs):En->O:=(gW (mh (wc (oj (iR (ua "tuple" al))) (iR (gR (iA true) j2 (gR jI ah ab)))) bq iT)
  (gW (mh (oj (iR (kG EX (gF (jw (j5 [none] (iU al) bv (λ_=>.ok true) (xa c))) gJ)))) bq iT)
  (iW (kG xN (gF (jw (j5 [none] (iU (ka al (λ_=>.ok none) (ju ah))) bv (λ_=>.ok true) (wG c))) gJ)))))
def qQ(c:Cs):List T->M T:=lG 2 2 (LU c)
def sE(c:Cs):En->O:=(setO 1 (jr (gR jI al ab)))
def AS(c:Cs):En->O:=(gW (setO 1 (jr ac))
  (gW (λa=>nc (iR (gR (iA false) c5 ac)) (sE c) ((λa=>match a with|some (.p (.tup ts))::_=>ts.length+1|_=>0) a) a)
  (iW al)))
def mB(c:Cs):List T->M T:=lG 1 2 (AS c)
noncomputable abbrev be:=gG 3
noncomputable abbrev bu:=gG 4
def uo(c:Cs):Pe->M T:=(gR (iA false) (gR jF ah (gR ja bd be)) (gR jF al (gR ja bu be)))
noncomputable abbrev ap:=nh 2 (i7 (jN 0) (i7 (jN 1) ni))
def BW(c:Cs):En->O:=(gW (setO 2 (jr (gS bf (mB c))))
  (iW (kG EX (gF (jw (j5 [none,none,some 1,some 2,some 0] (nq bP) ap (λ_=>.ok true) (uo c))) gJ))))
def nL(c:Cs):List T->M T:=lG 2 3 (BW c)
def rC(c:Cs):Pe->M T:=(gS bP (nL c))
noncomputable abbrev ba:=gF (gG 2) gJ
noncomputable abbrev ia:=cM (.int 7)
def DD(c:Cs):En->O:=(gW (mh (wc (iR (gR Rn j2 ia)) (oj (iR (gS (gF ah ba) (qQ c))))) bq iT)
  (iW (Ds (kG xN (gF (jw (j5 [none,some 2] (iU al) bv (λ_=>.ok true) (rC c))) gJ)))))
def ng(c:Cs):List T->M T:=lG 3 3 (DD c)
noncomputable abbrev df:=gF be gJ
def rQ(c:Cs):En->O:=(gW (mh (oj (iR (gS (gF ah (gF bd df)) (ng c)))) (λ_=>.bad) iT)
  (qV 2 (jr (kG j7 df))))
noncomputable abbrev gK:=qt (lstM gJ)
def zU(c:Cs):En->O:=(gW (mh (wc (oj (iR (gS bf (pJ c)))) (oj (iR (ua "list" al)))) (λ_=>.bad) iT)
  (gW (pB 2 gK)
  (gW (m8 (iU al) (j6 3) (rQ c))
  (iW (kG j7 ba)))))
def kJ(c:Cs):List T->M T:=lG 2 4 (zU c)
noncomputable abbrev gV:=gF al ba
def jV(c:Cs):List T->M T:=AY c.Cutting 2 "own_cuts" "own_dims" (gS gV (kJ c)) al
def zW(c:Cs):En->O:=(iW (Fg c.Cutting "own_dims" ah))
def je(c:Cs):List T->M T:=lG 1 1 (zW c)
def yZ(c:Cs):En->O:=(nZ (Ba mw (gF (Fg c.Cutting "own_cuts" ah) gJ)))
def jG(c:Cs):List T->M a0:=v5 1 1 (yZ c)
def zd(c:Cs):En->O:=(iW (kG mC (gF (Fg c.Cutting "own_cuts" ah) gJ)))
def kM(c:Cs):List T->M T:=lG 1 1 (zd c)
def ET(c:Cs):En->O:=(setO 3 (jr (gR n0 be bd)))
noncomputable abbrev bi:=gG 5
noncomputable abbrev gn:=gR wF (cM (.int 10)) (cM (.int 18))
def F7(c:Cs):En->O:=(gW (mh (iR (gR Rn ah gn)) (gW (setO 3 (jr ah))
  (gW (qU (mM bc) (j6 4) (ET c))
  (iW (gR w6 be bd)))) iT)
  (gW (setO 5 (jr (gR w6 (gR jF (gR jI (gR jI (gR w6 ah (cM (.int 1000000007))) (gR jF (cM (.int 1009)) al)) (cM (.int 17))) (cM (.int 69621))) (cM (.int 2147483647)))))
  (gW (setO 5 (jr (gR w6 (gR jI (gR jI (gR jF bi bi) (gR jF (cM (.int 40503)) al)) (cM (.int 5))) (cM (.int 2147483629)))))
  (iW (gR w6 (gR n0 (gR w6 (gR jF bi (cM (.int 48271))) (cM (.int 2147483647))) (cM (.int 32))) bd)))))
def iM(c:Cs):List T->M T:=lG 3 6 (F7 c)
noncomputable abbrev i6:=gR ja al bd
def xt(c:Cs):En->O:=(mh (iR (gR (iA true) (gR jF (gR ja ah bd) (gR ja al be)) (gR jF (gR ja ah be) i6))) bq iT)
def EF(c:Cs):En->O:=(qU (mM ba) (j6 3) (xt c))
def Gb(c:Cs):En->O:=(gW (qU (mM (gF (kG mC bf) gJ)) (j6 2) (EF c))
  (iW (cM (.bl true))))
def mX(c:Cs):List T->M T:=lG 2 4 (Gb c)
def Af(c:Cs):Pe->M T:=(gR uS (gS (gF al (gF ah (gF ia gJ))) (iM c)) d2)
def yL(c:Cs):Pe->M T:=(gR jF ah al)
def zF(c:Cs):Pe->M T:=(gR jF ah al)
noncomputable abbrev cb:=jw (lstM gJ)
noncomputable abbrev c4:=gF bu gJ
noncomputable abbrev dL:=gR (iA false) be (jw (xm (jw (lstM (gF ac gJ))) al))
noncomputable abbrev em:=gG 6
noncomputable abbrev fy:=gF ah (gF (cM (.int 8)) (gF (kG mC ba) gJ))
noncomputable abbrev io:=gR (iA false) bi ab
noncomputable abbrev ir:=gR (iA true) bd cb
noncomputable abbrev jd:=cM (.int 2)
def BI(c:Cs):En->O:=(gW (pB 3 (qt (j5 [none,some 0] (mM bc) bv (λ_=>.ok true) (Af c))))
  (gW (mh (iR dL) (xS 3 (oV (gS (gF ah (gF (cM (.int 4)) bc)) (iM c))) (oV (gR jI ab (gS (gF ah (gF (cM (.int 5)) (gF d2 gJ))) (iM c))))) iT)
  (gW (setO 4 (jr (gR uS (gS (gF ah (gF (cM (.int 6)) (gF (cM (.int 9)) gJ))) (iM c)) (cM (.int 4)))))
  (gW (setO 5 (jr (gS (gF ah (gF ia (gF ia gJ))) (iM c))))
  (gW (mh (mZ (iR io) (iR ir)) (pB 3 (qt (Ba mw (gF (ka (gR ja bd (gS fy (iM c))) (λ_=>.ok none) (ju al)) gJ)))) iT)
  (gW (mh (wc (iR (gR (iA false) bi jd)) (iR (gR (iA false) bi d2))) (setO 4 (oV (kG E3 (gF (jw (j5 [none,none] (nq (gF be (gF (jw (lstM (gF ab (gF jd (gF (qw (λi=>.int (-i)) ab) gJ))))) gJ))) ap (λ_=>.ok true) (yL c))) gJ)))) iT)
  (gW (mh (iR (gR (iA false) bi (cM (.int 4)))) (gW (setO 6 (jr (gR jF (gR jI ab (gS (gF ah (gF (cM (.int 9)) (gF (gR wF (cM (.int 10)) (cM (.int 6))) gJ))) (iM c))) (gR ja (jw (lstM (gF ab (gF ab (gF gn gJ))))) (gS (gF ah (gF (cM (.int 11)) (gF d2 gJ))) (iM c))))))
  (gW (pB 3 (AC (j5 [none,some 6] (iU be) bv (λ_=>.ok true) (zF c))))
  (setO 4 (jr (gR jI (gR jF bu em) (gS (gF ah (gF (cM (.int 10)) (gF ia gJ))) (iM c))))))) iT)
  (iW (kG j7 (gF (jw (JE be (jw (lstM c4)))) gJ))))))))))
def pE(c:Cs):List T->M T:=lG 3 7 (BI c)
def sJ(c:Cs):Pe->M T:=ah
def xx(c:Cs):En->O:=(gW (setO 6 (oV (gS (gF (gS (gF ah (gF (gR jI al bi) gJ)) (jk c)) (gF bd c4)) (pE c))))
  (mh (iR (gR (iA false) (jw (j5 [none,some 6] (iU bu) bv (iR (gS (gF al bf) (mX c))) (sJ c))) cb)) (qV 4 (jr em)) iT))
def F9(c:Cs):En->O:=(gW (pB 4 gK)
  (gW (qU (mM df) (j6 5) (xx c))
  (qj 4)))
def mV(c:Cs):List T->M a0:=v5 4 7 (F9 c)
def G7(c:Cs):Pe->M T:=(gR jF ah al)
def UV(c:Cs):En->O:=(iW (kG E3 (gF (jw (j5 [none,none] (nq bP) ap (λ_=>.ok true) (G7 c))) gJ)))
def rX(c:Cs):List T->M T:=lG 2 2 (UV c)
def BE(c:Cs):En->O:=(gW (setO 1 (jr (gS gV (ji c))))
  (mh (iR (gR (iA false) al ab)) (iW ah) iT))
def JV(c:Cs):Pe->M T:=(gR n0 ah al)
noncomputable abbrev db:=iU ah
def Lq(c:Cs):En->O:=(gW (setO 1 (jr ac))
  (gW (m8 db (j6 2) (BE c))
  (gW (mh gi (iW ah) iT)
  (iW (kG j7 (gF (jw (j5 [none,some 1] db bv (λ_=>.ok true) (JV c))) gJ))))))
def lV(c:Cs):List T->M T:=lG 1 3 (Lq c)
def Gk(c:Cs):Pe->M T:=(gR jI (gR jF bd ah) (gR jF be al))
def II(c:Cs):En->O:=(gW (mh (iR (gR (iA false) (gR ja ah bd) ac)) (iW ah) iT)
  (gW (setO 3 (jr (kG wR (gF i6 gJ))))
  (gW (setO 4 (jr (gR jF (qw (λi=>.int (-i)) (gR ja ah bd)) (gS (gF i6 gJ) (ki c)))))
  (iW (gS (gF (kG j7 (gF (jw (j5 [none,none,some 3,some 4] (nq bP) ap (λ_=>.ok true) (Gk c))) gJ)) gJ) (lV c))))))
def jt(c:Cs):List T->M T:=lG 3 5 (II c)
def xA(c:Cs):En->O:=(gW (pB 4 (qt (xm (jw (lstM (gF ac gJ))) (kG mC bf))))
  (gW (xS 4 (oV bd) (oV ab))
  (qV 1 (oV (gR jI be (kG j7 c4))))))
noncomputable abbrev gk:=i8 (j6 2) (i8 (j6 3) ml)
def Gs(c:Cs):En->O:=(gW (pB 1 gK)
  (gW (m8 (tz bf) (mj 2 gk) (xA c))
  (qj 1)))
def m9(c:Cs):List T->M a0:=v5 1 5 (Gs c)
def GN(c:Cs):En->O:=(setO 0 (jr (gS (gF ah (gF be ba)) (jt c))))
def JG(c:Cs):En->O:=(gW (m8 (iU al) (mj 2 gk) (GN c))
  (iW ah))
def pF(c:Cs):List T->M T:=lG 2 4 (JG c)
def AO(c:Cs):Pe->M T:=(jM (gF ah (gF (gS (gF al (gF bd df)) (jt c)) gJ)))
def B3(c:Cs):En->O:=(nZ (JE (jw (j5 [none,none,some 1,some 2] db ap (λ_=>.ok true) (AO c))) (jw (lstM (gF (jM (gF bd bc)) gJ)))))
def pC(c:Cs):List T->M a0:=v5 3 3 (B3 c)
def ue(c:Cs):Pe->M T:=ah
def uh(c:Cs):En->O:=(gW (setO 5 (jr (gS (gF bu ba) (pF c))))
  (gW (setO 6 (jr (jw (j5 [none,some 5] (mM bc) bv (iR (gR (iA true) (gR ja al ah) ac)) (ue c)))))
  (mh (iR (gR (iA false) em cb)) (qV 3 (jr bi)) (setO 2 (jr (jw (js (gF bd (gF bi (gF (gR ja em ac) gJ))) (pC c))))))))
def uN(c:Cs):En->O:=(gW (setO 2 (jr cb))
  (gW (pB 3 gK)
  (gW (m8 db (j6 4) (uh c))
  (iW (jM (gF bd df))))))
def kX(c:Cs):List T->M T:=lG 2 7 (uN c)
def yM(c:Cs):Pe->M T:=ah
def Ad(c:Cs):Pe->M T:=ah
def Az(c:Cs):En->O:=(gW (setO 2 (jr (jw (j5 [none,none] db ap (λ_=>.ok true) (yM c)))))
  (nZ (j5 [none,some 2] (mM bc) bv (iR (gR (AM true) ah al)) (Ad c))))
def mF(c:Cs):List T->M a0:=v5 2 3 (Az c)
noncomputable abbrev da:=gF ab gJ
def sj(c:Cs):En->O:=(setO 2 (jr (gS (gF bd (gF (gS (gF (jM (gF be da)) c4) (vZ c)) gJ)) (vK c))))
noncomputable abbrev cu:=i8 (j6 3) (i8 (j6 4) ml)
def FO(c:Cs):En->O:=(gW (setO 2 (jr (jM (gF (gR ja ah j2) da))))
  (gW (m8 (nq bP) (mj 2 cu) (sj c))
  (iW bd)))
def lX(c:Cs):List T->M T:=lG 2 5 (FO c)
def Jj(c:Cs):En->O:=(xS 2 (oV be) (oV (gS (gF (gS (gF bu bc) (lX c)) (gF (jM (gF (gR ja bu be) da)) gJ)) (sW c))))
def Ny(c:Cs):En->O:=(gW (pB 2 (qt (Ba mw bc)))
  (gW (m8 db (mj 2 cu) (Jj c))
  (iW (kG j7 ba))))
def vq(c:Cs):List T->M T:=lG 2 5 (Ny c)
def vd(c:Cs):En->O:=(setO 1 (jr (gR n0 (gR jF al (gR ja bd ab)) (gS (gF al (gF (gR ja bd ab) gJ)) (ji c)))))
def vS(c:Cs):Pe->M T:=(gR jF dk (gR n0 al dl))
def Ej(c:Cs):En->O:=(gW (setO 1 (jr ab))
  (gW (m8 db (j6 2) (vd c))
  (iW (gS (gF (kG j7 (gF (jw (j5 [none,some 1] db bv (λ_=>.ok true) (vS c))) gJ)) gJ) (lV c)))))
def oN(c:Cs):List T->M T:=lG 1 3 (Ej c)
def JM(c:Cs):En->O:=(iW (gR uS (gS (gF (ka ah (λ_=>.ok none) (ju (qw (λi=>.int (-i)) ab))) (gF (ka al (λ_=>.ok none) (ju (qw (λi=>.int (-i)) ab))) gJ)) (rX c)) (gR jF (gR ja ah (qw (λi=>.int (-i)) ab)) (gR ja al (qw (λi=>.int (-i)) ab)))))
def kL(c:Cs):List T->M T:=lG 2 2 (JM c)
def vv(c:Cs):En->O:=(gW (setO 6 (jr (kG wR (gF (gS (gF (ka bi (λ_=>.ok none) (ju (qw (λi=>.int (-i)) ab))) (gF (ka al (λ_=>.ok none) (ju (qw (λi=>.int (-i)) ab))) gJ)) (rX c)) gJ))))
  (setO 4 (jr (kG Bi (gF bu (gF (gR jI (gR n0 em (kG wR (gF (gS (gF bi ba) (kL c)) gJ))) ab) gJ))))))
def uX(c:Cs):Pe->M T:=(gR jI (gR jF bd ah) (gR jF be al))
noncomputable abbrev ic:=gF (gG 7) gJ
def Fc(c:Cs):En->O:=(gW (setO 4 (jr ab))
  (gW (m8 db (j6 5) (vv c))
  (gW (setO 7 (jr (jw (j5 [none,none,some 4,some 3] (nq (gF (ka bd (λ_=>.ok none) (ju (qw (λi=>.int (-i)) ab))) (gF (ka al (λ_=>.ok none) (ju (qw (λi=>.int (-i)) ab))) gJ))) ap (λ_=>.ok true) (uX c)))))
  (iW (gS (gF (gR jI (kG j7 ic) (jM (gF (gR jF bu (gR ja bd (qw (λi=>.int (-i)) ab))) gJ))) gJ) (lV c))))))
def kU(c:Cs):List T->M T:=lG 4 8 (Fc c)
noncomputable abbrev dn:=ju (gR jI al ab)
def xV(c:Cs):En->O:=(iW (gR jI (ka ah (λ_=>.ok none) (ju al)) (ka ah dn (λ_=>.ok none))))
def jQ(c:Cs):List T->M T:=lG 2 2 (xV c)
def xv(c:Cs):Pe->M T:=(gR jF al ah)
def GU(c:Cs):En->O:=(gW (setO 3 (jr (kG wR (gF c5 gJ))))
  (gW (setO 4 (jr (gR jF (qw (λi=>.int (-i)) (gS (gF c5 gJ) (ki c))) (gS (gF (gS bP (jQ c)) ba) (kL c)))))
  (gW (setO 5 (jr (kG j7 (gF (jw (j5 [none,some 3] (iU bd) bv (λ_=>.ok true) (xv c))) gJ))))
  (iW (gS (gF (gR jI (gR jI (ka bi (λ_=>.ok none) (ju al)) (jM c4)) (ka bi (ju al) (λ_=>.ok none))) gJ) (lV c))))))
def mW(c:Cs):List T->M T:=lG 3 6 (GU c)
def vF(c:Cs)(a:List T->M T):Pe->M T:=ah
def uZ(c:Cs)(a:List T->M T):Pe->M T:=(gS (gF (gS (gF ah (gF bd bc)) (jt c)) bc) (jQ c))
def vf(c:Cs)(a:List T->M T):Pe->M T:=(Ds (kG xN bf))
def Da(c:Cs)(a:List T->M T):Pe->M T:=(jM (gF ah (gF (gS (gF bd (gF be bc)) (mW c)) gJ)))
def EE(c:Cs)(a:List T->M T):En->O:=(gW (setO 2 (jr (jw (j5 [none,none] (tz (gF (ka al (λ_=>.ok none) (ju (qw (λi=>.int (-i)) ab))) gJ)) ap eH (vF c a)))))
  (gW (mh (iR (gR (iA false) bd cb)) (nZ (lstM gJ)) iT)
  (gW (setO 3 (jr (gR ja bd ac)))
  (gW (setO 4 (jr (jw (j5 [none,some 3,some 1] db bv (λ_=>.ok true) (uZ c a)))))
  (gW (mh (iR (kG xN (gF (jw (j5 [none] (iU bu) bv (λ_=>.ok true) (vf c a))) gJ))) (nZ (lstM gJ)) iT)
  (nZ (j5 [none,none,some 1,some 3] (iU (gS (gF bu (gF (gR uS j2 jd) gJ)) a)) ap (λ_=>.ok true) (Da c a))))))))
def lU(c:Cs)(a:List T->M T):List T->M a0:=v5 2 5 (EE c a)
def n9(c:Cs)(FR:List T->M T):En->O:=(qV 4 (jr (jM (gF (gR jI bi (jM ic)) (gF (gS (gF al (gF bd (gF (gR Gf be bi) ic))) (kU c)) gJ)))))
def qT(c:Cs)(a:List T->M T):En->O:=(mh (iR (gR (Gj false) bi be)) (m8 (iU (jM (gF (qw (λi=>.int (-i)) ab) da))) (j6 7) (n9 c a)) (qV 4 (jr (jM (gF (gR jI bi (jM (gF (gS (gF (gS (gF bd (gF em gJ)) (kL c)) gJ) (ki c)) gJ))) (gF em gJ))))))
def xX(c:Cs)(a:List T->M T):En->O:=(gW (setO 3 (jr (kG Dw (gF (jw (js gV (lU c a))) gJ))))
  (gW (pB 4 gK)
  (gW (m8 db (mj 2 (i8 (j6 5) (i8 (j6 6) ml))) (qT c a))
  (qj 4))))
def lD(c:Cs)(a:List T->M T):List T->M a0:=v5 3 8 (xX c a)
def Ea(c:Cs)(a:List T->M T):En->O:=(setO 2 (jr (jw (js (gF bd (gF (ka ah (λ_=>.ok none) (ju be)) c4)) (lD c a)))))
def OK(c:Cs)(a:List T->M T):En->O:=(gW (setO 2 (jr (jw (lstM (gF (jM (gF (jM gJ) (gF (gR jI (KS (jM (gF ac gJ)) al) (jM da)) gJ))) gJ)))))
  (gW (m8 (tz bf) (mj 2 cu) (Ea c a))
  (iW bd)))
def mO(c:Cs):Nat->List T->M T
 |0=>λ_=>.bad
 |k+1=>lG 2 5 (OK c (mO c k))
def kD(c:Cs):En->O:=(gW (setO 2 (jr (gR jI (gR jF bd (gR ja bi ab)) (gR jF (gR jF bu (gR ja bi ac)) be))))
  (setO 3 (jr (gR jF be (gR ja bi ab)))))
noncomputable abbrev ca:=mj 2 (i8 (j6 4) (i8 (j6 5) ml))
def BP(c:Cs):En->O:=(gW (setO 2 (jr (qw (λi=>.int (-i)) (gR ja ah (qw (λi=>.int (-i)) ab)))))
  (gW (setO 3 (jr ab))
  (gW (m8 (nq bP) ca (kD c))
  (iW (gR uS (kG Ap (gF (gR FM bd ac) gJ)) (kG Ap (gF (gR Dq bd ac) gJ)))))))
def nv(c:Cs):List T->M T:=lG 2 6 (BP c)
def tE(c:Cs):Pe->M T:=(gS bf (jo c))
def AQ(c:Cs):En->O:=(gW (mh (wc (oj (iR (ua "list" ah))) (iR (gR (iA true) (kG mC bf) al))) bq iT)
  (iW (kG EX (gF (jw (j5 [none] db bv (λ_=>.ok true) (tE c))) gJ))))
def lE(c:Cs):List T->M T:=lG 2 2 (AQ c)
def s9(c:Cs):Pe->M T:=(jw (Ba mw bf))
def xw(c:Cs):Pe->M T:=ah
def xE(c:Cs):Pe->M T:=ah
def Eu(c:Cs):Pe->M T:=(gR uS (gR jF i6 (gR ja be ah)) (gR jF (gR ja be bd) (gR ja al ah)))
def xB(c:Cs):Pe->M T:=(jw (j5 [none,some 2,some 3,some 0] (mM bc) bv (λ_=>.ok true) (Eu c)))
def xF(c:Cs):En->O:=(gW (setO 4 (jr (jw (j5 [none,some 3] db bv (iR (gR (iA true) c5 ac)) (xw c)))))
  (mh (iR (gR (iA true) bu cb)) (gW (setO 5 (jr (gR ja bu ac)))
  (gW (setO 2 (jr (gR jI bd ab)))
  (gW (setO 6 (jr (jw (j5 [none,some 5] db bv (iR (gR (iA true) ah al)) (xE c)))))
  (setO 0 (jr (jw (j5 [none,some 1,some 5,some 3] (iU em) bv (λ_=>.ok true) (xB c)))))))) iT))
def yR(c:Cs):En->O:=(gW (setO 0 (jr (jw (j5 [none] db bv (λ_=>.ok true) (s9 c)))))
  (gW (setO 2 (jr ac))
  (gW (qU (mM bc) (j6 3) (xF c))
  (iW bd))))
def l4(c:Cs):List T->M T:=lG 2 7 (yR c)
def tq(c:Cs):Pe->M T:=(Mp (gS bf (jo c)) (We M8 M8 (qw (λi=>.int (-i)) ab) ah ab))
def G4(c:Cs):En->O:=(gW (mh (wc (oj (iR (ua "tuple" al))) (iR (gR (iA true) j2 ah))) bq iT)
  (iW (kG EX (gF (jw (j5 [none] (iU al) bv (λ_=>.ok true) (tq c))) gJ))))
def pQ(c:Cs):List T->M T:=lG 2 2 (G4 c)
def AH(c:Cs):En->O:=(mh (oj (iR (gS (gF (sV c.Cutting "many" ah gJ (kM c)) bc) (pQ c)))) (λ_=>.bad) iT)
def kC(c:Cs):List T->M T:=lG 2 2 (AH c)
def JQ(c:Cs):Pe->M T:=(gR jF al ah)
def M7(c:Cs):En->O:=(iW (kG j7 (gF (jw (j5 [none,some 1] db bv (λ_=>.ok true) (JQ c))) gJ)))
def nK(c:Cs):List T->M T:=lG 2 2 (M7 c)
def BL(c:Cs):En->O:=(mh (iR (gR (iA false) (gR ja bi bd) ac)) (xy 4 (oV bi) (oV (cM (.bl true)))) iT)
def wD(c:Cs):Pe->M T:=ah
def xo(c:Cs):Pe->M T:=ah
def wA(c:Cs):Pe->M T:=ah
noncomputable abbrev fm:=iR (gR (iA true) ah ac)
def v9(c:Cs):En->O:=(gW (setO 8 (jr (gS (gF em (gF (gG 7) ba)) (jt c))))
  (mh (iR (gR M8 (kG mC (gF (jw (j5 [none] (iU (ka (gG 8) dn (λ_=>.ok none))) bv fm (wA c))) gJ)) be)) (xy 4 (oV (gG 8)) (oV (cM (.bl true)))) iT))
def Be(c:Cs):En->O:=(m8 (iU (jw (j5 [none,some 2] db bv (iR (gR Dq c5 ac)) (xo c)))) (j6 7) (v9 c))
def Kr(c:Cs):En->O:=(gW (HC 4)
  (gW (m8 db (j6 5) (BL c))
  (gW (m8 (iU (jw (j5 [none,some 2] db bv (iR (gR FM c5 ac)) (wD c)))) (j6 6) (Be c))
  (vY 4))))
def sS(c:Cs):List T->M a0:=v5 4 9 (Kr c)
def Aj(c:Cs):En->O:=(gW (setO 6 (oV (gR jI (gR jI (kG mC c4) ab) (kG mC df))))
  (Bt 4 (AC (js (gF (gR ja bu (qw (λi=>.int (-i)) ab)) (gF al (gF bi (gF em gJ)))) (sS c)))))
def JT(c:Cs):En->O:=(gW (pB 4 (qt (lstM bf)))
  (gW (m8 (iU bd) (j6 5) (Aj c))
  (qj 4)))
def oq(c:Cs):List T->M a0:=v5 4 7 (JT c)
noncomputable abbrev ga:=gR ja bi al
noncomputable abbrev gg:=gR (kR false) be bw
def Ac(c:Cs):En->O:=(mh (iR (gR (iA true) ga ac)) (gW (setO 6 (jr (gS (gF (gS (gF bi ba) (lX c)) (gF (jM (gF ga da)) gJ)) (sW c))))
  (gW (mh (mZ (iR (gR FM ga ac)) (wc (iR gg) (iR (gS (gF be (gF em gJ)) (lM c))))) (setO 3 (jr em)) iT)
  (mh (mZ (iR (gR Dq ga ac)) (wc (iR (gR (kR false) bu bw)) (iR (gS (gF em c4) (lM c))))) (setO 4 (jr em)) iT))) iT)
def Jr(c:Cs):En->O:=(gW (setO 3 (jr bw))
  (gW (setO 4 (jr bw))
  (gW (m8 db (j6 5) (Ac c))
  (iW (jM (gF be c4))))))
def pH(c:Cs):List T->M T:=lG 3 7 (Jr c)
noncomputable abbrev di:=mZ (iR (gR (kR true) al bw)) (iR (gR M8 (gR ja al ac) ac))
noncomputable abbrev dm:=iR (gR (kR true) ah bw)
def xJ(c:Cs):En->O:=(gW (setO 2 (jr ac))
  (gW (mh (mZ dm (iR (gR Rn dk ac))) (setO 2 (jr (gR jI (gS bf (l5 c)) ab))) (mh di (setO 2 (jr (gR uS (gS bc (lq c)) ab))) iT))
  (gW (mh (mZ dm (oj (iR (gS (gF ah (gF (jM (gF bd da)) gJ)) (lM c))))) (iW bw) iT)
  (gW (mh (mZ (iR (gR (kR true) al bw)) (oj (iR (gS (gF (jM (gF bd da)) bc) (lM c))))) (iW bw) iT)
  (iW bd)))))
def kq(c:Cs):List T->M T:=lG 2 3 (xJ c)
noncomputable abbrev ib:=gF bi gJ
def nA(c:Cs):En->O:=(gW (setO 4 (jr (gS bf (l5 c))))
  (gW (qV 2 (jr bu))
  (gW (setO 5 (jr (gR uS dk (gR jF bu dl))))
  (gW (setO 6 (jr (NT (iR (gR (iA false) bi ac)) bw (jM (gF dl ib)))))
  (gW (setO 0 (jr (jM (gF h8 (gF (gR uS iu (gR jF bu h8)) gJ)))))
  (gW (setO 1 (jr em))
  (setO 3 (jr (gS bP (kq c))))))))))
def nF(c:Cs):En->O:=(setO 7 (jr (jM (gF (gR jI (gR jF bu (gR ja (gG 7) ac)) (gR ja (gG 7) ab)) (gF (gR ja (gG 7) ac) gJ)))))
def AR(c:Cs):En->O:=(gW (mh (mZ dm (iR (gR (iA false) ah al))) (iW ah) iT)
  (gW (pB 2 gK)
  (gW (setO 3 (jr (gS bP (kq c))))
  (gW (λd=>nc (iR gg) (nA c) ((λd=>match d with|some (.p (.tup [_,.int a]))::some (.p (.tup [_,.int b]))::_=>a.natAbs+b.natAbs+2|_=>1) d) d)
  (gW (setO 7 (jr (jM (gF be da))))
  (gW (Um 2 (m8 (J5 ba) (j6 4) (nF c)))
  (iW (gG 7))))))))
def kz(c:Cs):List T->M T:=lG 2 8 (AR c)
def rS(c:Cs):En->O:=(gW (setO 6 (oV (gS (gF (gR ja ah bu) (gF bi df)) (pH c))))
  (xS 3 (oV bi) (oV (gS (gF (gR ja em ac) (gF (gR ja em ab) gJ)) (kz c)))))
def Ar(c:Cs):En->O:=(gW (pB 3 (qt (Ba mw ba)))
  (gW (m8 (J5 (gF (jw (UB bc)) gJ)) ca (rS c))
  (qj 3)))
def jW(c:Cs):List T->M a0:=v5 3 7 (Ar c)
def ud(c:Cs):En->O:=(mh (iR (gR (iA true) (gR ja bd al) ac)) (iW (jw (Ba mw (gF (ka (gS (gF bd (gF (gS (gF (gR ja bd al) gJ) (ki c)) gJ)) (nK c)) dn (λ_=>.ok none)) gJ)))) iT)
def uW(c:Cs):En->O:=(gW (m8 db (j6 2) (ud c))
  (iW bw))
def kZ(c:Cs):List T->M T:=lG 2 3 (uW c)
def oX(c:Cs):Pe->M T:=ah
def ph(c:Cs):Pe->M T:=(gS (gF (gS bP (nK c)) ba) (pF c))
def oW(c:Cs):En->O:=(mh (iR (gR Rn (gR ja (gG 10) al) ac)) (iW (jM (gF (cM (.str "paper")) (gF (jw (Ba mw (gF (ka (gG 10) dn (λ_=>.ok none)) gJ))) gJ)))) iT)
noncomputable abbrev fI:=lstM (gF (jM (gF ac da)) gJ)
noncomputable abbrev j1:=gR ja bu ab
def uC(c:Cs):En->O:=(gW (setO 3 (jr (jw (js bf (m9 c)))))
  (gW (setO 4 (jr (gS (gF (jw (j5 [none,none] (nq (gF be ba)) ap gi (oX c))) bc) (kX c))))
  (gW (setO 5 (jr (gS (gF j1 bc) (kZ c))))
  (gW (mh (iR (gR (kR true) bi bw)) (iW (jM (gF (cM (.str "paper")) ib))) iT)
  (gW (setO 6 (jr (gR ja bu ac)))
  (gW (setO 7 (jr (jw (j5 [none,none,some 6] (nq (gF be ba)) ap eH (ph c)))))
  (gW (setO 8 (jr (jw (js (gF em bc) (mF c)))))
  (gW (setO 9 (jr (jw (js (gF (gG 7) (gF al (gF (gG 8) (gF em gJ)))) (oq c)))))
  (gW (m8 (iU (gR ja (gG 9) (qw (λi=>.int (-i)) ab))) (j6 10) (oW c))
  (iW (jM (gF (cM (.str "spot")) (gF (gS (gF em (gF (jw (js (gF (gG 9) (gF (gG 8) (gF (jw (xm (jw fI) al)) gJ))) (jW c))) gJ)) (vq c)) gJ)))))))))))))
def lh(c:Cs):List T->M T:=lG 3 11 (uC c)
def SV(c:Cs):En->O:=(gW (zD (jr (gS bP (kC c))))
  (iW (gS (gF (jw (uM c.Cutting "cuts" ah gJ (jG c))) (gF (sV c.Cutting "dims" ah gJ (je c)) bc)) (lh c))))
def wN(c:Cs):List T->M T:=lG 2 2 (SV c)
def sC(c:Cs):Pe->M T:=c5
def zN(c:Cs):Pe->M T:=(gS (gF al (gF (jw (j5 [none,some 0] (iU bd) bv (λ_=>.ok true) (sC c))) gJ)) (rX c))
def AA(c:Cs):En->O:=(nZ (j5 [none,some 1,some 0] (mM ba) bv (λ_=>.ok true) (zN c)))
def lI(c:Cs):List T->M a0:=v5 3 3 (AA c)
def AK(c:Cs):En->O:=(gW (setO 3 (jr (gS bP (jk c))))
  (gW (setO 4 (jr (gR jI ab (gS (gF be (gF ac (gF d2 gJ))) (iM c)))))
  (gW (setO 5 (jr (gS (gF be (gF ab (gF (gR jI bd ab) gJ))) (iM c))))
  (gW (mh (iR (gR (iA false) bu d2)) (setO 5 (jr (kG vD (gF bi (gF (cM (.int 5)) gJ))))) iT)
  (iW (jM (gF bu (gF (jw (js (gF ah (gF (gR jI al ab) (gF bu ib))) (mV c))) gJ))))))))
def mJ(c:Cs):List T->M T:=lG 3 6 (AK c)
def La(c:Cs):Pe->M T:=ah
def Qg(c:Cs):En->O:=(nZ (j5 [none,none] (iU (gS (gF (jw (uM c.Cutting "cuts" ah gJ (jG c))) (gF (sV c.Cutting "dims" ah gJ (je c)) gJ)) (mO c 5))) ap (λ_=>.ok true) (La c)))
def rF(c:Cs):List T->M a0:=v5 1 1 (Qg c)
def Dd(c:Cs):Pe->M T:=(gS bP (nK c))
def DQ(c:Cs):En->O:=(nZ (j5 [none,none] (nq (gF (jw (js (gF (jw (uM c.Cutting "cuts" ah gJ (jG c))) gJ) (m9 c))) bc)) ap (λ_=>.ok true) (Dd c)))
def oI(c:Cs):List T->M a0:=v5 2 2 (DQ c)
def AN(c:Cs):Pe->M T:=(gR jI (gR jI (ka ah (λ_=>.ok none) (ju al)) (jM (gF ac gJ))) (ka ah dn (λ_=>.ok none)))
def BX(c:Cs):En->O:=(gW (setO 2 (jr (sV c.Cutting "dims" ah gJ (je c))))
  (nZ (j5 [none,some 2] (iU (jw (js bP (oI c)))) bv (λ_=>.ok true) (AN c))))
def nU(c:Cs):List T->M a0:=v5 2 3 (BX c)
def xY(c:Cs):Pe->M T:=ah
def zZ(c:Cs):En->O:=(nZ (j5 [none,some 1] (mM bf) bv (iR (gR (iA true) ah al)) (xY c)))
def ke(c:Cs):List T->M a0:=v5 2 2 (zZ c)
def we(c:Cs):En->O:=(iW (jw (js (gF ah (gF al (gF (jw (js gV (ke c))) (gF cb gJ)))) (oq c))))
def kP(c:Cs):List T->M T:=lG 3 3 (we c)
def zj(c:Cs):En->O:=(mh (iR (gR Dq (gR jF (gR ja be al) bd) ac)) (iW be) iT)
def JN(c:Cs):En->O:=(gW (m8 (iU (gR ja ah (qw (λi=>.int (-i)) ab))) (j6 3) (zj c))
  (iW bw))
def pK(c:Cs):List T->M T:=lG 3 4 (JN c)
def uR(c:Cs):En->O:=(gW (pB 4 (qt (xm (jw fI) al)))
  (gW (xS 4 (oV bd) (oV (jM (gF be da))))
  (iW (gS (gF (jw (js (gF ah (gF (jw (js gV (ke c))) c4)) (jW c))) gJ) (oN c)))))
def kc(c:Cs):List T->M T:=lG 4 5 (uR c)
def oZ(c:Cs):En->O:=(gW (setO 6 (jr (NT (iR (gR FM (gR ja bu bi) ac)) ab (qw (λi=>.int (-i)) ab))))
  (setO 4 (jr (gS (gF bu (gF (gR Gf al (jM (gF bi (gF em gJ)))) ib)) (jt c)))))
def oS(c:Cs):Pe->M T:=(gR jF ah al)
def uL(c:Cs):En->O:=(gW (setO 4 (jr (kG j7 (gF (jw (js (gF ah (gF (jw (xm (jw (lstM da)) (kG mC bf))) (gF (kG mC (gF dk gJ)) gJ))) (lI c))) gJ))))
  (gW (qU (mM df) (j6 5) (oZ c))
  (nZ (j5 [none,none] (nq (gF bd (gF (ka bu (ju (gR jI be ab)) (λ_=>.ok none)) gJ))) ap (λ_=>.ok true) (oS c)))))
def kf(c:Cs):List T->M a0:=v5 4 7 (uL c)
def C0(c:Cs):En->O:=(gW (zD (jr (gS bP (kC c))))
  (mh (wc (iR (gR (AM false) ac al)) (iR (gR (iA true) (gR ja (gS bP (wN c)) ac) (cM (.str "spot"))))) (λ_=>.bad) iT))
def nP(c:Cs):List T->M T:=lG 2 2 (C0 c)
def Dy(c:Cs):En->O:=(gW (setO 8 (jr (gS (gF em (gF bi ic)) (pK c))))
  (gW (mh (iR (gR (kR false) (gG 8) bw)) (iW (jM (gF (cM (.str "far")) (gF (gS (gF em (gF bd (gF bi ic))) (kc c)) gJ)))) iT)
  (xy 4 (oV (jM (gF bi ic))) (oV (gG 8)))))
def yS(c:Cs):En->O:=(gW (setO 6 (jr (gS (gF be (gF bd ib)) (kP c))))
  (m8 (iU (jM (gF ab (gF (qw (λi=>.int (-i)) ab) gJ)))) (j6 7) (Dy c)))
noncomputable abbrev ip:=cM (.str "bounded")
def Hi(c:Cs):En->O:=(gW (zD (jr (gS bP (nP c))))
  (gW (setO 2 (jr (sV c.Cutting "dims" ah gJ (je c))))
  (gW (setO 3 (jr (jw (js bP (nU c)))))
  (gW (HC 4)
  (gW (qU (mM ba) (j6 5) (yS c))
  (IK 4 (iW (jM (gF ip (gF (jw (js (gF be (gF bu gV)) (kf c))) gJ))))))))))
def pD(c:Cs):List T->M T:=lG 2 9 (Hi c)
def v7(c:Cs):Pe->M T:=ah
def xW(c:Cs):En->O:=(nZ (j5 [none,some 0] (iU (jw (js bf (rF c)))) bv (iR (gR (iA false) (gR ja (gS (gF al bf) (pD c)) ac) ip)) (v7 c)))
def ko(c:Cs):List T->M a0:=v5 1 1 (xW c)
def Eo(c:Cs):Pe->M T:=(gR jF al ah)
def Ec(c:Cs):Pe->M T:=(jw (j5 [none,some 1] (iU (ka ah (λ_=>.ok none) (ju bd))) bv (λ_=>.ok true) (Eo c)))
def Ha(c:Cs):En->O:=(nZ (j5 [none,none,some 2] (nq bP) ap (λ_=>.ok true) (Ec c)))
def mR(c:Cs):List T->M a0:=v5 3 3 (Ha c)
def sY(c:Cs):Pe->M T:=ah
def sh(c:Cs):Pe->M T:=(gR jF ah i6)
def sZ(c:Cs):En->O:=(mh (iR (gR (iA true) (kG E3 (gF (jw (j5 [none,none,some 5] (nq (gF be c4)) ap (λ_=>.ok true) (sh c))) gJ)) ac)) bq iT)
def AW(c:Cs):En->O:=(gW (mh (iR (gR (iA true) (jw (j5 [none] (iU be) bv (iR (gR Dq ah ab)) (sY c))) cb)) bq iT)
  (gW (setO 4 (jr (jw (js (gF ah gV) (mR c)))))
  (gW (qU (mM ba) (j6 5) (sZ c))
  (iW (gR (iA false) (gS (gF bu ba) (l4 c)) bd)))))
def mE(c:Cs):List T->M T:=lG 4 6 (AW c)
def zO(c:Cs):Pe->M T:=(gR jF ah al)
def Ao(c:Cs):En->O:=(mh (iR (gR Dq (kG E3 (gF (jw (j5 [none,none] (nq (gF bu df)) ap (λ_=>.ok true) (zO c))) gJ)) ac)) bq iT)
def yJ(c:Cs):Pe->M T:=ah
def Js(c:Cs):En->O:=(gW (m8 (iU (jw (js (gF ah gV) (mR c)))) (j6 4) (Ao c))
  (iW (gR (iA true) (jw (j5 [none] (iU be) bv fm (yJ c))) cb)))
def q8(c:Cs):List T->M T:=lG 4 5 (Js c)
def AD(c:Cs):En->O:=(EM 4 5 (gF ah df) (pD c) (wc (oj (iR (ua "tuple" bu))) (iR (gR (iA true) (kG mC c4) jd))) (mZ (iR (gR (iA false) (gR ja bu ac) ip)) (iR (gS (gF j1 (gF j2 gJ)) (lE c)))) (Ba mw (gF j1 gJ)) (mZ (iR (gS (gF al (gF be (gF bd ib))) (mE c))) (iR (gR (iA false) (gS (gF ah df) (pD c)) (jM (gF ip ib))))) (gW (mh (mZ (iR (gR (iA false) (gR ja bu ac) (cM (.str "far")))) (mZ (iR (ua "tuple" j1)) (iR (gS (gF (jw (Ba mw (gF j1 gJ))) ba) (lE c))))) (mh (mZ (iR (gS (gF al (gF be (gF bd (gF j1 gJ)))) (q8 c))) (iR (gR (iA false) (gS (gF ah df) (pD c)) bu))) bq iT) iT)
  (iW bw)))
def kx(c:Cs):List T->M T:=lG 4 6 (AD c)
def tG(c:Cs):En->O:=(gW (setO 5 (jr (gS (gF bd (gF al (gF ah c4))) (kx c))))
  (gW (mh (iR (gR (kR false) bi bw)) bq iT)
  (mh (iR bi) (qV 3 (jr bu)) iT)))
def AI(c:Cs):En->O:=(gW (setO 2 (jr (gS bP (jV c))))
  (gW (pB 3 gK)
  (gW (m8 (iU (jw (js ba (rF c)))) (j6 4) (tG c))
  (gW (pB 6 (qt (js ba (ko c))))
  (gW (mh (wc (oj (iR (ua "list" em))) (iR (gR (iA true) em be))) bq iT)
  (gW (qV 6 (jr (jM gJ)))
  (iW (gR (iA false) (jw (js ba (ko c))) be))))))))
def mL(c:Cs):List T->M T:=lG 2 7 (AI c)
def rT(c:Cs):Pe->M T:=(gS (gF (gR ja (jw (lstM (gF al (gF (gR jF al al) (gF (gR jF (gR jF al al) al) gJ))))) ah) (gF (cM (.int 1000)) gJ)) (l8 c))
def rV(c:Cs):Pe->M T:=(gS bP (nv c))
def rP(c:Cs):En->O:=(gW (setO 3 (jr (gR jI be ab)))
  (gW (setO 5 (jr (kG j7 (gF (jw (j5 [none,some 3] (mM bc) bv (λ_=>.ok true) (rT c))) gJ))))
  (setO 4 (jr (kG j7 (gF (jw (j5 [none,some 5] (iU bd) bv (λ_=>.ok true) (rV c))) gJ))))))
def yE(c:Cs):En->O:=(gW (setO 1 (jr (gR jI ab (gS (gF (gS (gF ah (gF (cM (.int 16)) gJ)) (jk c)) (gF ac (gF d2 gJ))) (iM c)))))
  (gW (setO 2 (jr (jw (js (gF ah (gF (cM (.int 17)) (gF al (gF ia gJ)))) (mV c)))))
  (gW (setO 3 (jr (gR jI ab (gS (gF (gS (gF ah (gF (cM (.int 16)) gJ)) (jk c)) (gF ab (gF (gR wF (cM (.int 10)) (cM (.int 4))) gJ))) (iM c)))))
  (gW (setO 4 (jr (jM (gF ac gJ))))
  (gW (λa=>nc (iR (gR (AM false) ac bu)) (rP c) ((λ_=>400) a) a)
  (iW (jM (gF al (gF bd c4)))))))))
def lZ(c:Cs):List T->M T:=lG 1 6 (yE c)
def BA(c:Cs):En->O:=(gW (IW (gS (gF ah (gF al (gF (cM (.int 6)) gJ))) (mJ c)) (mj 2 gk))
  (mh (oj (iR (gS (gF bd df) (mL c)))) bq iT))
def LN(c:Cs):En->O:=(gW (m8 (iU (jw (lstM (gF ac (gF (cM (.int 8)) (gF ac gJ)))))) (j6 1) (BA c))
  (gW (IW (gS bf (lZ c)) (mj 3 (i8 (j6 2) cu)))
  (iW (gR (kR true) (gS (gF (gS (gF bd df) (jV c)) (gF be (gF bd c4))) (kx c)) bw))))
def vU(c:Cs):List T->M T:=lG 1 5 (LN c)
variable {c:Cs}
def uE ns (k:Nat):∃v,jk c [.scr ns,.int k]=.ok (.int v)/\(v=0\/v∈ns):=by
 by_cases h:(k:Int)<ns.length
 .obtain⟨a,e,b⟩:=Gy ns k (by omega) h;exact⟨a,by simp[jk,qC,h,e],.inr b⟩
 .exact⟨0,by simp[jk,qC,h],.inl rfl⟩
def md(h:i.natAbs<2 ^ 64):jF (.int i) (.int j)=.ok (.int (i*j)):=iE (qX h)
def Pb cell (k:Nat) b (A:0<b) (D:b<2 ^ 62) (J:k<=1000000):∃d,iM c [.int cell,.int (k:Int),.int b]=.ok (.int d)/\0<=d/\d<b:=by
 have f:b≠0:=by omega
 have z:∀x:Int,0<=x.fmod b/\x.fmod b<b:=λx=>⟨cQ x A,cR x A⟩;have l:wF (.int 10) (.int 18)=.ok (.int 1000000000000000000):=by simp[wF,my]
 by_cases h:(1000000000000000000:Int)<=cell
 .obtain⟨q,e,v,w,rfl⟩:=jE (m:=j6 4) (g:=setO 3 (jr (gR n0 be bd))) (λ(i:Nat)=>T.int (i:Int)) (λ_ q=>∃v w,q=[some (.p (.int cell)),some (.p (.int k)),some (.p (.int b)),some (.p (.int v)),w,none])
   (List.range k) 0 [some (.p (.int cell)),some (.p (.int k)),some (.p (.int b)),some (.p (.int cell)),none,none] ⟨_,_,rfl⟩ (by rintro i a q I ⟨v,w,rfl⟩;have F:Builtin.divisionGoesByPylong v b=false:=Bn.noPy (n:=62) (by unfold Bn;omega) (by decide);exact⟨_,_,rfl,.inl (gU (by simp[lC f F];rfl) rfl),_,_,rfl⟩)
  refine⟨v.fmod b,iI rfl ?_,z v⟩;have s:Fu (k:Int)=true:=pL (by omega);refine lS (jf (by simp[l,h]) (gM (gU (by simp) rfl) (gM (nG (by simp[s,U4]) e) (ig (by simp[tO f]))))) rfl
 .have u:∀x y:Int,0<y->0<=x.fmod y/\x.fmod y<y:=λx y B=>⟨cQ x B,cR x B⟩;have K:=u cell 1000000007 (by decide);have E:=u ((cell.fmod 1000000007+1009*k+17)*69621) 2147483647 (by decide);generalize r:((cell.fmod 1000000007+1009*k+17)*69621).fmod 2147483647=s1 at E;have C:=u (s1*s1+40503*k+5) 2147483629 (by decide);generalize o:(s1*s1+40503*k+5).fmod 2147483629=s2 at C;have H:Builtin.divisionGoesByPylong ((s2*48271).fmod 2147483647) 32=false:=Bn.noPy (n:=62) (by unfold Bn;decide) (by decide);refine⟨(((s2*48271).fmod 2147483647).fdiv 32).fmod b,iI rfl ?_,z _⟩;refine gM (iS (by simp[l,h]) rfl) (gM (gU (t:=.int s1) ?_ rfl) (gM (gU (t:=.int s2) ?_ rfl) (ig ?_)))
  .rw[<-r];simp[tO,md (i:=1009) (j:=k) (by decide),md (i:=cell.fmod 1000000007+1009*k+17) (j:=69621) (by omega)]
  .rw[<-o];simp[tO,md (i:=40503) (j:=k) (by decide),md (i:=s1) (j:=s1) (by omega)]
  .simp[tO,f,lC (j:=32) (by decide) H,md (i:=s2) (j:=48271) (by omega)]
def dr(c:Cs)(a k b:Int):Int:=match iM c [.int a,.int k,.int b] with
 |.ok (.int d)=>d
 |_=>0
def lQ cell k b (h:0<b) (a:b<2 ^ 62) (i:0<=k) (j:k<=1000000):iM c [.int cell,.int k,.int b]=.ok (.int (dr c cell k b))/\0<=dr c cell k b/\dr c cell k b<b:=by
 obtain⟨d,e,g,f⟩:=Pb cell k.toNat b h a (by omega);rw[cH i]at e;have:dr c cell k b=d:=by unfold dr;rw[e]
 rw[this];exact⟨e,g,f⟩
def Pc(l:LI)(i:Int)(f:0<=i)(b:i<l.length):∃w,ja (.lst (l.map T.int)) (.int i)=.ok (.int w)/\w∈l:=by obtain⟨a,e,d⟩:=Gy l i f b;exact⟨a,by simp[t7,e],d⟩
def Pz i:(if i<0 then -i else i)=(i.natAbs:Int):=by split<;>omega
def nV a b:ji c [.int a,.int b]=.ok (.int (Cu.G a b)):=by
 obtain⟨d,e,x,w,rfl,i⟩:=oo (c:=iR (gR (iA true) al ac)) (g:=gW (setO 2 (jr (gR w6 ah al))) (gW (setO 0 (jr al)) (setO 1 (jr bd))))
  (λd=>∃x y w,d=[some (.p (.int x)),some (.p (.int y)),w]/\Cu.G x y=Cu.G a b) (λd=>match d with|_::some (.p (.int j))::_=>j.natAbs|_=>0)
  (λd=>∃x w,d=[some (.p (.int x)),some (.p (.int 0)),w]/\Cu.G x 0=Cu.G a b) (by
   rintro d ⟨x,y,w,rfl,h⟩;by_cases f:y=0
   .subst f;exact .inl ⟨by simp,_,_,rfl,h⟩
   .refine .inr ⟨by simp[f],_,.inl (gM (gU (t:=.int (x.fmod y)) (by simp[tO f]) rfl) (gM (gU (by simp) rfl) (gU (by simp) rfl))),⟨y,x.fmod y,_,rfl,?_⟩,?_⟩
    .rw[<-h];exact Cu.Dh x y
    .exact Cu.A4 x y f)
  (b.natAbs+1) [some (.p (.int a)),some (.p (.int b)),none] ⟨a,b,none,rfl,rfl⟩ (bK _)
 refine iI rfl (gM e (ig ?_));rw[Cu.GT]at i;simp[Pz,i]
def AL a b:nJ c [.int a,.int b]=.ok (.int (Cu.G a b)):=by
 obtain⟨d,e,x,rfl,f,l⟩:=oo (c:=iR (gR FM al ac)) (g:=QJ 0 1 (gF al (gF (gR w6 ah al) gJ)))
  (λd=>∃x y:Int,d=[some (.p (.int x)),some (.p (.int y))]/\0<=x/\0<=y/\Cu.G x y=Cu.G a b) (λd=>match d with|_::some (.p (.int j))::_=>j.natAbs|_=>0)
  (λd=>∃x:Int,d=[some (.p (.int x)),some (.p (.int 0))]/\0<=x/\Cu.G x 0=Cu.G a b) (by
   rintro d ⟨x,y,rfl,f,hy0,h⟩;by_cases i:y=0
   .subst i;exact .inl ⟨by simp,_,rfl,f,h⟩
   .have k:0<y:=by omega
    refine .inr ⟨by simp[k],_,.inl (by simp[tO i]),⟨y,x.fmod y,rfl,hy0,cQ x k,?_⟩,?_⟩
    .rw[<-h];exact Cu.Dh x y
    .exact Cu.A4 x y i)
  ((b.natAbs:Int).natAbs+1) [some (.p (.int (a.natAbs:Int))),some (.p (.int (b.natAbs:Int)))] ⟨_,_,rfl,by omega,by omega,Cu.UO a b⟩ (bK _)
 refine iI rfl (gM (gU (by simp[Pz]) rfl) (gM (gU (t:=.int (b.natAbs:Int)) (by simp[Pz]) rfl) (gM e (ig ?_))));rw[Cu.GT]at l;have:x=Cu.G a b:=by omega
 simp[this]
def rD{t g:Int}(a:g ∣ t)(b:g≠0):(t.fdiv g).natAbs<=t.natAbs:=by obtain⟨k,rfl⟩:=a;rw[cW k b,aY];exact Nat.le_mul_of_pos_left _ (by omega)
noncomputable def Uq:T->Bool
 |.scr _=>false
 |.obj _ _=>false
 |.dic _=>false
 |_=>true
noncomputable def isInt:T->Bool
 |.int _=>true
 |_=>false
def Dz x (h:Uq x=true):jo c [x]=.ok (.bl (isInt x)):=by cases x<;>first|(simp[Uq]at h;done)|rfl
def QP x (h:Uq x=true):Ss "tuple" x=.ok (.bl (vn x)):=by cases x<;>first|(simp[Uq]at h;done)|rfl
noncomputable def lK(x:Int):Int:=if 0<x then 1 else if x<0 then -1 else 0
def xr x:-1<=lK x/\lK x<=1:=by unfold lK;split<;>(try split)<;>lia
def uQ x:ki c [.int x]=.ok (.int (lK x)):=by
 unfold lK;by_cases h:0<x
 .rw[aQ h];exact iI rfl (lS (jf (by simp[h]) (ig (by simp))) rfl)
 .rw[aR h];by_cases a:x<0
  .rw[aQ a];exact iI rfl (gM (iS (by simp[h]) rfl) (lS (jf (by simp[a]) (ig (by simp))) rfl))
  .rw[aR a];exact iI rfl (gM (iS (by simp[h]) rfl) (gM (iS (by simp[a]) rfl) (ig (by simp))))
def vy(bs:List Bool):EX [.lst (bs.map T.bl)]=.ok (.bl (bs.all id)):=by simp
def BR(bs:List Bool):xN [.lst (bs.map T.bl)]=.ok (.bl (bs.any id)):=by simp
noncomputable def ux(d:Nat):T->Bool
 |.tup ts=>decide (ts.length=d+1)&&ts.all isInt&&(match jY ts with|some ns=>(ns.take d).any (· != 0)|none=>false)
 |_=>false
theorem DU:∀ts,ts.all isInt=true->∃a:LI,ts=a.map T.int
 |[],_=>⟨[],rfl⟩
 |t::ts,h=>by
  rw[bW,bU]at h;obtain⟨a,e⟩:=DU ts h.2;cases t with
  |int i=>exact⟨i::a,by rw[e];rfl⟩
  |_=>simp[isInt]at h
def JK(d:Nat)(r:d<=10) x (m:Uq x=true) (l:∀ts,x=.tup ts->ts.length<1000/\∀t∈ts,Uq t=true):qQ c [.int d,x]=.ok (.bl (ux d x)):=by
 have sz:1000<sizeLine:=by decide
 by_cases f:vn x=true
 .cases x with
  |tup ts=>
   obtain⟨q,p⟩:=l ts rfl;by_cases g:ts.length=d+1
   .have j:j5 [none] (iU al) bv (λ_=>.ok true) (xa c) (vw (i9 2 [.int d,.tup ts]))=.ok ((ts.map isInt).map T.bl):=by rw[yx ts id (λt=>T.bl (isInt t)) (by simp) (by lia) λt f=>⟨_,rfl,rfl,by simp[xa,Dz t (p t f)]⟩];simp
    have i:(L3.wc (L3.oj (iR (ua "tuple" al))) (iR (gR (iA true) j2 (gR jI ah ab)))) (vw (i9 2 [.int d,.tup ts]))=.ok false:=by simp[g]
    by_cases e:ts.all isInt=true
    .obtain⟨b,rfl⟩:=DU ts e;have h:b.length=d+1:=by simpa using g
     have a:ux d (.tup (b.map T.int))=(b.take d).any (· != 0):=by simp[ux,h,e]
     rw[a];have o:j5 [none] (iU (ka al (λ_=>.ok none) (ju ah))) bv (λ_=>.ok true) (wG c) (vw (i9 2 [.int d,.tup (b.map T.int)]))=.ok (((b.take d).map λn=>n != 0).map T.bl):=by rw[yx (b.take d) T.int (λn=>T.bl (n != 0)) (Du (by rw[dg];exact qL rfl rfl (by simp;lia))) (by simp;lia) λn g=>⟨_,rfl,rfl,by simp[wG,bne]⟩];rw[aI];rfl
     refine iI rfl (gM (iS i rfl) (gM (iS (wj (gX (oC j (vy _))) ?_) rfl) (ig (oC o ?_))))
     .rw[cB];simpa using e
     .rw[BR,cC];rfl
    .have a:ux d (.tup ts)=false:=by simp[ux,e]
     rw[a];refine iI rfl (gM (iS i rfl) (lS (jf (wj (gX (oC j (vy _))) ?_) (ig rfl)) rfl));rw[cB];simpa using e
   .have a:ux d (.tup ts)=false:=by simp[ux,g]
    rw[a];refine iI rfl (lS (jf ?_ (ig rfl)) rfl);have:¬(ts.length=(d:Int)+1):=by lia
    simp[this]
  |_=>simp[vn]at f
 .have a:ux d x=false:=by cases x<;>first|rfl|(simp[vn]at f;done)
  rw[a];refine iI rfl (lS (jf ?_ (ig rfl)) rfl);have k:vn x=false:=by simpa using f
  have:=QP x m;rw[k]at this;simp only[L3.wc,L3.oj,iR,ua,gG,vw,i9,bI,b9,List.cons_append,b6,List.getElem?_cons_succ,List.getElem?_cons_zero,WR,M.bind_ok,this];rfl
def Nq(l:List α)(h:l≠[]):uD l (-1)=l.getLast?:=by obtain⟨m,a,rfl⟩:∃m a,l=m++[a]:=⟨l.dropLast,l.getLast h,(dI h).symm⟩;rw[L2.Kl];simp
def Gz(d:Nat)(h:1<=d/\d<=3):pJ c [.int d]=.ok (.bl true):=by
 have w:jo c [.int d]=.ok (.bl true):=rfl;have b:(1:Int)<=d:=by lia
 have a:(d:Int)<=3:=by lia
 exact iI rfl (ig (by simp[w,b,a]))
def DG(n:Nat) r (d:r.length=n) (e:n<=100) (h:∀x∈r,-1<=x/\x<=1):pQ c [.int n,tI r]=.ok (.bl true):=by
 have sz:1000<sizeLine:=by decide
 have w:∀i:Int,jo c [.int i]=.ok (.bl true):=λi=>rfl;have b:j5 [none] (iU al) bv (λ_=>.ok true) (tq c) (vw (i9 2 [.int n,tI r]))=.ok ((r.map λ_=>true).map T.bl):=by rw[yx r T.int (λ_=>T.bl true) rfl (by lia) λx a=>⟨_,rfl,rfl,by simp[tq,w,(h x a).1,(h x a).2]⟩];simp
 refine iI rfl (gM (iS (by simp[tI,d]) rfl) (ig (oC b ?_)));rw[vy];simp
def UZ n:(List.replicate n [T.int 0]).flatten=(List.replicate n (0:Int)).map T.int:=by
 induction n with
 |zero=>rfl
 |succ n ih=>rw[bY,bZ,ih,bY];rfl
def Ra(n:Nat)(d:n<=1000)(h:f ρ=.ok (.int (n:Int))):jw (xm (jw (lstM (gF ac gJ))) f) ρ=.ok (.lst ((List.replicate n (0:Int)).map T.int)):=by
 have sz:1000<sizeLine:=by decide
 have hr:Fu n=true:=pL (by lia);have b:1<=sizeLine:=by decide
 have a:n<=sizeLine:=by lia
 simp[h,hr,b,a,UZ]
def UT(n:Nat)(d:n<=1000)(h:f ρ=.ok (.int (n:Int))):KS (jM (gF ac gJ)) f ρ=.ok (.tup ((List.replicate n (0:Int)).map T.int)):=by
 have sz:1000<sizeLine:=by decide
 have hr:Fu n=true:=pL (by lia);have b:1<=sizeLine:=by decide
 have a:n<=sizeLine:=by lia
 simp[h,E9,hr,b,a,UZ]
end CL
namespace L3
open PySem L2
theorem uH{k:Type} enc (P:En->Prop) p t:∀(l:List k) (ρ:En),P ρ->
  (∀a∈l,∀ρ,P ρ->∃c,m (enc a) ρ=some c/\(p a=true->∃d,g c=.nx d/\P d)/\(p a=false->g c=.rt t))->
  (l.all p=true->∃ρ',j3 m g (l.map enc) ρ=.nx ρ'/\P ρ')/\(l.all p=false->j3 m g (l.map enc) ρ=.rt t)
 |[],ρ,h,_=>⟨λ_=>⟨ρ,rfl,h⟩,λh=>by simp at h⟩
 |a::l,ρ,h,st=>by
  obtain⟨c,r,j,q⟩:=st a (by simp) ρ h;rw[bI,j3,r];dsimp only;cases e:p a with
  |true=>obtain⟨d,s,n⟩:=j e;rw[s];have o:=uH enc P p t l d n λb i ρ f=>st b (by simp[i]) ρ f;rw[bW,e,Bool.true_and];exact o
  |false=>rw[q e,bW,e,Bool.false_and];exact⟨λz=>(by cases z),λ_=>rfl⟩
end L3
namespace CL
open PySem L2 L3
variable {c:Cs}
def zb:Bn (n+1) 1:=by unfold Bn;rw[dz];have:=dJ n;lia
def Wx a b:ja (fr (a,b)) (.int 0)=.ok (.int a):=rfl
def QA a b:ja (fr (a,b)) (.int 1)=.ok (.int b):=rfl
def xu ns:jY (ns.map T.int)=some ns:=by simp
def zY(a:LI):E3 [.lst (a.map T.int)]=.ok (.int a.sum):=by simp
end CL
namespace L3
open PySem L2
theorem sX{p:Type} enc (P:Nat->En->Prop) (R:T->Prop):∀(l:List p) (k:Nat) (ρ:En),P k ρ->
  (∀i a ρ,l[i]? = some a->P (k+i) ρ->∃c,m (enc a) ρ=some c/\((∃d,g c=.nx d/\P (k+i+1) d)\/∃t,g c=.rt t/\R t))->
  (∃ρ',j3 m g (l.map enc) ρ=.nx ρ'/\P (k+l.length) ρ')\/∃t,j3 m g (l.map enc) ρ=.rt t/\R t
 |[],k,ρ,h,_=>.inl ⟨ρ,rfl,h⟩
 |a::l,k,ρ,h,st=>by
  obtain⟨c,q,o⟩:=st 0 a ρ rfl h;rw[bI,j3,q];dsimp only;rcases o with⟨d,f,e⟩|⟨t,f,e⟩
  .rw[f];rw[ay,show k+(l.length+1)=k+1+l.length by lia];exact sX enc P R l (k+1) d e λi b ρ n j=>by have:=st (i+1) b ρ (by simpa using n) (by rw[show k+(i+1)=k+1+i by lia];exact j);rw[show k+1+i+1=k+(i+1)+1 by lia];exact this
  .rw[f];exact .inr ⟨t,rfl,e⟩
end L3
namespace CL
open PySem L2 L3
variable {c:Cs}
def MX(S b:Int)(k:0<S)(i:0<b):0<(S*b).fdiv (Cu.G S b)/\S ∣ (S*b).fdiv (Cu.G S b)/\b ∣ (S*b).fdiv (Cu.G S b)/\((S*b).fdiv (Cu.G S b)).natAbs<=(S*b).natAbs:=by
 have j:=Cu.Ez S b (by lia);have g:Cu.G S b≠0:=by lia
 obtain⟨u,e⟩:=Cu.mY S b;obtain⟨v,hv⟩:=Cu.l7 S b;have a:(S*b).fdiv (Cu.G S b)=u*b:=by
  conv=>lhs;arg 1;rw[e]
  rw[cU];exact cW _ g
 have h:u*b=S*v:=by
  conv=>lhs;rw[hv]
  conv=>rhs;rw[e]
  ac_rfl
 have d:0<u:=by
  refine aO λl=>?_;have f:u<=0:=by lia
  have:=dM f (aA j);rw[<-e,dN]at this;lia
 refine⟨?_,?_,?_,rD ?_ g⟩
 .rw[a];exact aX d i
 .rw[a,h];exact⟨v,rfl⟩
 .rw[a];exact⟨u,cV _ _⟩
 .exact dO (Cu.mY S b) ⟨b,rfl⟩
def G6(l:List α)(k:Nat) h:uD l (k:Int)=some l[k]:=by unfold uD Av;rw[aQ (by lia),aQ (by lia)];simp[h]
def HZ(l:LI) k (h:k<l.length):uD l (k:Int)=some (l.getD k 0):=by rw[G6 l k h,af,ag h];rfl
def getD_mem(l:LI) k (h:k<l.length):l.getD k 0∈l:=by rw[af,ag h];exact aV h
def Cd(l:LI) k (h:k<l.length):ja (.lst (l.map T.int)) (.int (k:Int))=.ok (.int (l.getD k 0)):=by simp[t7,HZ l k h]
def k9 l (k:Nat) (h:k<l.length):ja (tI l) (.int (k:Int))=.ok (.int (l.getD k 0)):=by simp[tI,t7,HZ l k h]
def Q0 x xs:ja (.lst (x::xs)) (.int 0)=.ok x:=by have h:=G6 (x::xs) 0 (by simp);have a:uD (x::xs) 0=some x:=h;show (match uD (x::xs) 0 with|some t=>M.ok t|none=>.bad)=_;rw[a]
def UK n (x:T):(List.replicate n [x]).flatten=List.replicate n x:=by
 induction n with
 |zero=>rfl
 |succ n ih=>rw[bY,bZ,ih,bY];rfl
def RK(n:Nat)(d:n<=1000) x (h:f ρ=.ok (.int (n:Int))):jw (xm (jw (lstM (gF (cM x) gJ))) f) ρ=.ok (.lst (List.replicate n x)):=by
 have sz:1000<sizeLine:=by decide
 have hr:Fu n=true:=pL (by lia);have b:1<=sizeLine:=by decide
 have a:n<=sizeLine:=by lia
 simp[h,hr,b,a,UK]
end CL
namespace CL
abbrev Vc:=Nat->Int
end CL
namespace CL
open PySem L2 L3
variable {c:Cs}
noncomputable def vc(l:LI):Vc:=λi=>l.getD i 0
def pP l i (h:l.length<=i):vc l i=0:=by unfold vc;rw[af,List.getElem?_eq_none h];rfl
def jS l i h:vc l i=l[i]:=by unfold vc;rw[af,ag h];rfl
def jP{a:Type}(l:List a) k v (h:l[k]? = some v):l.take (k+1)=l.take k++[v]:=by rw[List.take_succ,h];rfl
def pS(h:f ρ=.ok (.int i)):qw (λi=>.int (-i)) f ρ=.ok (.int (-i)):=by simp only[qw,h,M.bind_ok]
def qq:Bn n 0:=by unfold Bn;exact dJ _
def tX N (B:N<=8000) row (I:row.length<1000) (n:∀x∈row,Bn N x):∃g o,0<g/\lV c [tI row]=.ok (tI o)/\o.length=row.length/\(∀i,vc row i=g*vc o i)/\∀y∈o,Bn N y:=by
 have sz:1000<sizeLine:=by decide
 have main:=sX (m:=j6 2) (g:=BE c) T.int
  (λk v=>∃(a:Int) (s:Option W),v=[some (.p (tI row)),some (.p (.int a)),s]/\0<=a/\Bn N a/\∀x∈row.take k,a ∣ x)
  (λt=>t=tI row) row 0 _ ⟨0,none,rfl,by decide,qq,λx f=>by simp at f⟩ (by
   rintro i x v b ⟨a,s,rfl,E,u,d⟩;rw[aG]at d ⊢;have r:=au b;refine⟨_,rfl,?_⟩;have w:setO 1 (jr (gS gV (ji c))) [some (.p (tI row)),some (.p (.int a)),some (.p (.int x))]=.nx [some (.p (tI row)),some (.p (.int (Cu.G a x))),some (.p (.int x))]:=gU (iY rfl rfl (nV a x)) rfl;by_cases h:Cu.G a x=1
   .right;exact⟨_,gM w (jf (gX (gL rfl rfl (by rw[jK,h];rfl))) (ig rfl)),rfl⟩
   .left;refine⟨_,gM w (iS (gX (gL rfl rfl (by rw[jK];simp[h]))) rfl),_,_,rfl,Cu.zL _ _,?_,λz A=>?_⟩
    .by_cases j:x=0
     .rw[j,Cu.GT];exact cg (by lia) u
     .have H:=Cu.Pn a x j;have J:=Cu.zL a x;exact cg (by lia) (n x r)
    .rw[jP row i x b]at A;rcases ai.mp A with q|q
     .exact dO (Cu.mY a x) (d z q)
     .rw[aj.mp q];exact Cu.l7 a x)
 rcases main with⟨D,e,a,s,rfl,E,u,d⟩|⟨t,e,rfl⟩
 .rw[aG,dP]at d;by_cases l:a=0
  .exact⟨1,row,by decide,iI rfl (gM (gU rfl rfl) (gM (jT rfl e) (lS (jf (gX (gL rfl rfl (by rw[jK,l];rfl))) (ig rfl)) rfl))),rfl,λi=>by rw[dQ],n⟩
  .refine⟨a,row.map (λx=>x.fdiv a),by lia,iI rfl (gM (gU rfl rfl) (gM (jT rfl e) (gM (iS (gX (gL rfl rfl (by rw[jK];simp[l]))) rfl) (ig ?_)))),by simp,λi=>?_,λy F=>?_⟩
   .exact n8 (iC (jC row T.int (λx=>T.int (x.fdiv a)) rfl (by lia) (λx f=>⟨_,rfl,rfl,gL rfl rfl (lC l (u.noPy B))⟩) (by rw[aI];rfl))) rfl
   .by_cases b:i<row.length
    .rw[jS row i b,jS _ i (by simpa using b),dR];obtain⟨q,C⟩:=d _ (aV b);rw[C,cW q l]
    .rw[pP row i (by lia),pP _ i (by simp;lia),dN]
   .obtain⟨x,f,rfl⟩:=aD.mp F;exact cg (rD (d x f) l) (n x f)
 .exact⟨1,row,by decide,iI rfl (gM (gU rfl rfl) (lS (jT rfl e) rfl)),rfl,λi=>by rw[dQ],n⟩
def Co{g x:Int}(a:g≠0)(h:g*x=0):x=0:=by
 rcases dS.mp h with z|z
 .exact absurd z a
 .exact z
def Hf o:lK o*o=(o.natAbs:Int):=by
 unfold lK;split
 .rw[dQ];lia
 .split
  .rw[Int.neg_mul,dQ];lia
  .rw[dU];lia
def TF(p:Nat×LI):T:=.tup [.int (p.1:Int),tI p.2]
noncomputable def sm:Nat->(Nat->Int)->Int
 |0,_=>0
 |n+1,f=>f 0+sm n λi=>f (i+1)
theorem iZ:∀n f g,(∀i,i<n->f i=g i)->sm n f=sm n g
 |0,_,_,_=>rfl
 |n+1,f,g,h=>by rw[sm,sm,h 0 (by lia),iZ n _ _ λi a=>h (i+1) (by lia)]
theorem uV a b:∀n f g,sm n (λi=>a*f i+b*g i)=a*sm n f+b*sm n g
 |0,_,_=>by simp[sm]
 |n+1,f,g=>by rw[sm,sm,sm,uV a b n (λi=>f (i+1)) λi=>g (i+1),dW,dW];lia
theorem lL a:∀n f,sm n (λi=>a*f i)=a*sm n f
 |0,_=>by simp[sm]
 |n+1,f=>by rw[sm,sm,lL a n λi=>f (i+1),dW]
theorem rE:∀n:Nat,sm n (λ_=>0)=0
 |0=>rfl
 |n+1=>by rw[sm,rE n];rfl
theorem G3:∀(n k:Nat) (f:Nat->Int),k<n->sm n (λi=>(if i=k then 1 else 0)*f i)=f k
 |0,k,f,h=>absurd h (dq _)
 |n+1,0,f,h=>by rw[sm,aQ rfl,dQ,iZ n _ (λ_=>0) (λi _=>by rw[aR (by lia),dU]),rE,dX]
 |n+1,k+1,f,h=>by rw[sm,aR (by lia),dU,dY,iZ n _ (λi=>(if i=k then 1 else 0)*f (i+1)) (λi _=>by simp),G3 n k (λi=>f (i+1)) (by lia)]
def QH(e:fa ρ=.ok (.lst a))(f:fb ρ=.ok (.lst b))(d:a.length+b.length<=sizeLine):JE fa fb ρ=.ok (a++b):=by simp only[JE,e,f,M.bind_ok];rw[aQ d]
def R6(h:f ρ=.ok a):jw (lstM (gF f gJ)) ρ=.ok (.lst [a]):=by
 have b:1<=sizeLine:=by decide
 simp only[jw,lstM,gF,gJ,h,M.bind_ok,Cg,ay,cF,b,if_true]
def GA(h:f ρ=.ok a):jM (gF f gJ) ρ=.ok (.tup [a]):=by
 have b:1<=sizeLine:=by decide
 simp only[jM,gF,gJ,h,M.bind_ok,Cg,ay,cF,b,if_true]
def pZ(h:f ρ=.ok a)(d:g ρ=.ok b):jM (gF f (gF g gJ)) ρ=.ok (.tup [a,b]):=by
 have e:2<=sizeLine:=by decide
 simp only[jM,gF,gJ,h,d,M.bind_ok,Cg,ay,cF,e,if_true]
def GZ(h:jw f ρ=.ok (.lst ts)):f ρ=.ok ts:=by
 unfold jw at h;cases d:f ρ with
 |ok us=>rw[d]at h;cases h;rfl
 |bad=>rw[d]at h;cases h
 |er a b=>rw[d]at h;cases h
def Ox a b (h:a.length+b.length<=sizeLine):jI (.tup a) (.tup b)=.ok (.tup (a++b)):=by unfold jI;exact aQ h
def qD a b (h:a.length+b.length<=1000):jI (tI a) (tI b)=.ok (tI (a++b)):=by
 have sz:1000<sizeLine:=by decide
 unfold tI;rw[Ox _ _ (by simp;lia),aZ]
def t8{d e:Type}[Inhabited e]{P:d->e->Prop}(l:List d)(h:∀a∈l,∃b,P a b):∃f:d->e,∀a∈l,P a (f a):=⟨λa=>Classical.epsilon λb=>P a b,λa g=>Classical.epsilon_spec (h a g)⟩
def xG(iB:LL)(w:iB.length<=8)(q:∀r∈iB,r.length<=100):m9 c [.lst (iB.map tI)]=.ok ((iB.zipIdx.map λp=>p.1++(List.replicate iB.length (0:Int)).set p.2 1).map tI):=by
 have sz:1000<sizeLine:=by decide
 obtain⟨b,e,j,d,f,rfl⟩:=jE (m:=mj 2 gk) (g:=xA c) (λ(p:LI×Nat)=>T.tup [.int (p.2:Int),tI p.1])
  (λk b=>∃j d f:Option W,b=[some (.p (.lst (iB.map tI))),some (.o (((iB.zipIdx.take k).map λp=>p.1++(List.replicate iB.length (0:Int)).set p.2 1).map tI)),j,d,f])
  iB.zipIdx 0 _ ⟨none,none,none,rfl⟩ (by
   rintro i ⟨r,k⟩ b l ⟨j,d,f,rfl⟩;rw[aG];have a:=au l;have h:=List.mem_zipIdx a;have s:k<iB.length:=by lia
   have u:=q r (by rw[h.2.2];exact aV _);have v:i<iB.length:=by have:=(aa.mp l).1;simpa using this
   have n:Av ((List.replicate iB.length (0:Int)).map T.int).length (k:Int)=some k:=by unfold Av;rw[aQ (by lia),aQ (by rw[aw,bS];lia)];simp
   refine⟨_,_,rfl,.inl (gM (ou (GZ (Ra iB.length (by lia) (n8 rfl (by simp)))) rfl) (gM (BO (m:=k) rfl rfl rfl rfl n rfl) (NY (t:=tI (r++(List.replicate iB.length (0:Int)).set k 1)) rfl ?_ (by simp) (by simp;lia) rfl))),some (.p (.int (k:Int))),some (.p (tI r)),some (.o (((List.replicate iB.length (0:Int)).map T.int).set k (.int 1))),?_⟩
   .refine gL (x:=tI r) (y:=tI ((List.replicate iB.length (0:Int)).set k 1)) rfl (n8 (t:=.lst (((List.replicate iB.length (0:Int)).set k 1).map T.int)) ?_ rfl) (qD _ _ (by simp;lia));show (M.ok (T.lst (((List.replicate iB.length (0:Int)).map T.int).set k (.int 1))))=_;rw[<-dH]
   .rw[jP _ i (r,k) l,aZ,aZ];rfl)
 rw[aG,dP]at e;refine mx rfl (gM (ou (ts:=[]) (by simp) rfl) (gM (jT ?_ e) rfl));rw[<-tY];rfl
def Lw{S b:Int}(h:b ∣ S)(a:b≠0):S.fdiv b*b=S:=by obtain⟨k,rfl⟩:=h;rw[cW k a,cV]
def TX{b:Type}(l:List b) f k a (h:l[k]? = some a):vc (l.map f) k=f a:=by unfold vc;rw[af,av,h];rfl
def sP a b i:vc (a++b) i=if i<a.length then vc a i else vc b (i-a.length):=by
 unfold vc;by_cases h:i<a.length
 .rw[aQ h,af,List.getElem?_append_left h,<-af]
 .rw[aR h,af,List.getElem?_append_right (by lia),<-af]
def GL(d B:Nat)(a:LI):Prop:=a.length=d+1/\∀x∈a,Bn B x
structure GC(d B:Nat)(ns:LI):Prop where
 gl:GL d B ns
 re:∃p,p<d/\vc ns p≠0
def GL.mono(h:GL d B ns)(a:B<=B'):GL d B' ns:=⟨h.1,λx b=>(h.2 x b).mono a⟩
def TC ns k v i (a:k<ns.length):vc (ns.set k v) i=if k=i then v else vc ns i:=by
 unfold vc;rw[af,List.getElem?_set];by_cases h:k=i
 .subst h;rw[aQ rfl,aQ rfl,aQ a];rfl
 .rw[aR h,aR h,<-af]
def QD n k (h:k<n):Av n (k:Int)=some k:=by unfold Av;rw[aQ (by lia),aQ (by lia)];simp
def n5(n:Nat)(h:n<=1000)(hf:f ρ=.ok (.int (n:Int))):mM (gF f gJ) ρ=.ok ((List.range n).map λ(i:Nat)=>T.int (i:Int)):=by have hr:Fu n=true:=pL (by lia);rw[<-U4];simp[hf,hr]
noncomputable def nE(a b:LI):Bool:=(List.range a.length).all λk=>(List.range k).all λj=>vc a k*vc b j==vc a j*vc b k
def DK n B a b (r:a.length=n) (L:b.length=n) (N:n<=10) (P:B<=1000) (v:∀x∈a,Bn B x) (w:∀x∈b,Bn B x):mX c [tI a,tI b]=.ok (.bl (nE a b)):=by
 have sz:1000<sizeLine:=by decide
 have i:=uH (m:=j6 2) (λ(k:Nat)=>T.int (k:Int)) (λρ=>∃q d,ρ=[some (.p (tI a)),some (.p (tI b)),q,d]) (λk=>(List.range k).all λj=>vc a k*vc b j==vc a j*vc b k) (.bl false) (List.range n) [some (.p (tI a)),some (.p (tI b)),none,none] ⟨none,none,rfl⟩ (by
  rintro k I ρ ⟨q,d,rfl⟩;have C:=aS.mp I;refine⟨_,rfl,?_⟩;have l:=uH (m:=j6 3) (g:=xt c) (λ(j:Nat)=>T.int (j:Int)) (λρ=>∃d,ρ=[some (.p (tI a)),some (.p (tI b)),some (.p (.int (k:Int))),d]) (λj=>vc a k*vc b j==vc a j*vc b k) (.bl false) (List.range k) [some (.p (tI a)),some (.p (tI b)),some (.p (.int (k:Int))),d] ⟨d,rfl⟩ (by
   rintro j K ρ ⟨d,rfl⟩;have J:=aS.mp K;have H:=k9 a k (by lia);have F:=k9 b j (by lia);have E:=k9 a j (by lia);have A:=k9 b k (by lia);have D:=iE ((v _ (getD_mem a k (by lia))).ok (w _ (getD_mem b j (by lia))) (by lia) (by lia));have y:=iE ((v _ (getD_mem a j (by lia))).ok (w _ (getD_mem b k (by lia))) (by lia) (by lia));have u:iR (gR (iA true) (gR jF (gR ja ah bd) (gR ja al be)) (gR jF (gR ja ah be) i6)) (vw [some (.p (tI a)),some (.p (tI b)),some (.p (.int (k:Int))),some (.p (.int (j:Int)))])=.ok (!(vc a k*vc b j==vc a j*vc b k)):=gX (gL (gL (gL rfl rfl H) (gL rfl rfl F) D) (gL (gL rfl rfl E) (gL rfl rfl A) y) (nO _ _))
   refine⟨_,rfl,λh=>⟨_,iS (u.trans (by rw[h];rfl)) rfl,_,rfl⟩,λh=>jf (u.trans (by rw[h];rfl)) (ig rfl)⟩)
  have hr:=n5 (f:=gG 2) (ρ:=vw [some (.p (tI a)),some (.p (tI b)),some (.p (.int (k:Int))),d]) k (by lia) rfl;refine⟨λh=>?_,λh=>nG hr (l.2 h)⟩;obtain⟨o,e,z,rfl⟩:=l.1 h;exact⟨_,nG hr e,_,_,rfl⟩)
 have hr:=n5 (f:=kG mC bf) (ρ:=vw (i9 4 [tI a,tI b])) n (by lia) (n8 (t:=tI a) rfl (by simp[tI,r]));have s:nE a b=((List.range n).all λk=>(List.range k).all λj=>vc a k*vc b j==vc a j*vc b k):=by unfold nE;rw[r]
 cases h:nE a b with
 |true=>obtain⟨o,e,q,d,rfl⟩:=i.1 (by rw[<-s];exact h);exact iI rfl (gM (nG hr e) (ig rfl))
 |false=>exact iI rfl (lS (nG hr (i.2 (by rw[<-s];exact h))) rfl)
def GC.mono(h:GC d B ns)(a:B<=B'):GC d B' ns:=⟨h.gl.mono a,h.re⟩
def yX a (r:a.length<=100) (h:∃p,p<a.length/\vc a p≠0):∃p:Nat,mB c [tI a]=.ok (.int (p:Int))/\p<a.length/\vc a p≠0:=by
 obtain⟨q,o,l⟩:=h;obtain⟨b,e,p,rfl,i,f⟩:=oo (c:=iR (gR (iA false) c5 ac)) (g:=sE c)
  (λb=>∃k:Nat,b=[some (.p (tI a)),some (.p (.int (k:Int)))]/\k<=q) (λb=>match b with|_::some (.p (.int j))::_=>q-j.toNat|_=>0)
  (λb=>∃k:Nat,b=[some (.p (tI a)),some (.p (.int (k:Int)))]/\k<a.length/\vc a k≠0) (by
   rintro b ⟨k,rfl,hk⟩;have m:ja (tI a) (.int (k:Int))=.ok (.int (vc a k)):=k9 a k (by lia);by_cases d:vc a k=0
   .have n:k≠q:=λz=>l (by rw[<-z];exact d);refine .inr ⟨gX (gL (gL rfl rfl m) rfl (by rw[jK,d];rfl)),_,.inl (gU (gL rfl rfl (by rw[jH];simp)) rfl),⟨k+1,rfl,by lia⟩,?_⟩;show q-(((k+1:Nat):Int)).toNat<q-((k:Int)).toNat;lia
   .exact .inl ⟨gX (gL (gL rfl rfl m) rfl (by rw[jK];simp[d])),k,rfl,by lia,d⟩)
  ((a.map T.int).length+1) [some (.p (tI a)),some (.p (.int ((0:Nat):Int)))] ⟨0,rfl,by lia⟩ (by rw[aw];lia)
 exact⟨p,iI rfl (gM (gU rfl rfl) (gM e (ig rfl))),i,f⟩
def AG d B a b (Q:d<=3) (R:B<=1000) (f:GC d B a) (g:GL d B b) (h:nE a b=false):nL c [tI a,tI b]=.ok (.bl false):=by
 have sz:1000<sizeLine:=by decide
 have w:=f.gl.1;have N:=g.1;obtain⟨q,P,n⟩:=f.re;obtain⟨p,C,u,m⟩:=yX a (by lia) ⟨q,by lia,n⟩;have J:=k9 b p (by lia);have I:=k9 a p u;have H:j5 [none,none,some 1,some 2,some 0] (nq bP) ap (λ_=>.ok true) (uo c) (vw [some (.p (tI a)),some (.p (tI b)),some (.p (.int p))])=.ok (((a.zip b).map λx=>x.1*vc b p==x.2*vc a p).map T.bl):=jC (a.zip b) (λx=>T.tup [.int x.1,.int x.2]) (λx=>T.bl (x.1*vc b p==x.2*vc a p)) (nC rfl rfl rfl rfl) (by rw[dZ];lia) (λx o=>⟨_,rfl,rfl,by have A:=f.gl.2 _ (aW o).1;have F:=g.2 _ (aW o).2;have D:=g.2 _ (getD_mem b p (by lia));have y:=f.gl.2 _ (getD_mem a p u);exact gL (gL rfl (gL rfl rfl J) (iE (A.ok D (by lia) (by lia)))) (gL rfl (gL rfl rfl I) (iE (F.ok y (by lia) (by lia)))) (jK _ _)⟩) (by rw[aI];rfl)
 refine iI rfl (gM (gU (pX rfl C) rfl) (ig (oC H ?_)));rw[vy];congr 2;cases s:((a.zip b).map λx=>x.1*vc b p==x.2*vc a p).all id with
 |false=>rfl
 |true=>
  exfalso;rw[cE]at s;have e:=C4.par_of_place m λi r=>by
   have v:(a.zip b)[i]? = some (a[i],b[i]'(by lia)):=by rw[List.getElem?_zip_eq_some];exact⟨ag r,ag (by lia)⟩
   have:=s _ (aD.mpr ⟨_,au v,rfl⟩);have z:a[i]*vc b p=(b[i]'(by lia))*vc a p:=by simpa using this
   show vc a i*vc b p=vc b i*vc a p;rw[jS a i r,jS b i (by lia)];exact z
  have:nE a b=true:=by unfold nE;refine cE.mpr λk K=>cE.mpr λj L=>?_;have l:=aS.mp K;have E:=aS.mp L;have:=e k j l (by lia);simpa[vc] using this
  rw[h]at this;cases this
structure yc(d B:Nat)(cs:LL):Prop where
 gc:∀f∈cs,GC d B f
 few:cs.length<=7
 pw:cs.Pairwise λa b=>nE a b=false
def KY(h:GC d B ns):ux d (tI ns)=true:=by
 obtain⟨p,f,a⟩:=h.re;have g:=h.gl.1;unfold tI ux;have e:(ns.map T.int).length=d+1:=by simp[g]
 have b:(ns.map T.int).all isInt=true:=cE.mpr λx j=>by obtain⟨y,-,rfl⟩:=aD.mp j;rfl
 show (decide ((ns.map T.int).length=d+1)&&(ns.map T.int).all isInt&&(match jY (ns.map T.int) with|some ns=>(ns.take d).any (· != 0)|none=>false))=true;rw[aC e,b,xu];refine d8.mpr ⟨vc ns p,?_,by simpa using a⟩;rw[jS ns p (by lia)];refine au (i:=p) ?_;rw[List.getElem?_take,aQ f,ag (by lia)]
def CI d B (b:LL) ns (q:1<=d/\d<=3) (u:B<=1000) (w:b.length<7) (j:∀f∈b,GC d B f) (g:GC d B ns) (m:∀f∈b,nE f ns=false):ng c [.int d,.lst (b.map tI),tI ns]=.ok (.bl true):=by
 have sz:1000<sizeLine:=by decide
 have i:=JK (c:=c) d (by lia) (tI ns) rfl λv e=>by cases e;refine⟨by rw[aw,g.gl.1];lia,λt o=>by obtain⟨y,-,rfl⟩:=aD.mp o;rfl⟩
 rw[KY g]at i;have r:j5 [none,some 2] (iU al) bv (λ_=>.ok true) (rC c) (vw (i9 3 [.int d,.lst (b.map tI),tI ns]))=.ok ((b.map λ_=>false).map T.bl):=jC b tI (λ_=>T.bl false) rfl (by lia) (λf h=>⟨_,rfl,rfl,iY rfl rfl (AG d B f ns q.2 u (j f h) g.gl (m f h))⟩) (by rw[aI];rfl)
 have k:iR (gR Rn j2 ia) (vw (i9 3 [.int d,.lst (b.map tI),tI ns]))=.ok false:=gX (gL (x:=.int (b.length:Int)) (n8 (t:=.lst (b.map tI)) rfl (by simp)) rfl (by rw[yw];congr 2;exact aB (by lia)))
 have p:iR (gS (gF ah ba) (qQ c)) (vw (i9 3 [.int d,.lst (b.map tI),tI ns]))=.ok true:=gX (iY rfl rfl i);refine iI rfl (gM (iS ?_ rfl) (ig ?_))
 .simp only[L3.wc,L3.oj,k,p,M.bind_ok];rfl
 .have s:kG xN (gF (jw (j5 [none,some 2] (iU al) bv (λ_=>.ok true) (rC c))) gJ) (vw (i9 3 [.int d,.lst (b.map tI),tI ns]))=.ok (.bl false):=by
   refine oC r ?_;rw[BR];congr 2;induction b with
   |nil=>rfl
   |cons a l ih=>simp
  have n:=gX s;simp only[Ds,n,M.bind_ok];rfl
def FG d B cs (s:1<=d/\d<=3) (A:B<=1000) (h:yc d B cs):kJ c [.int d,.lst (cs.map tI)]=.ok (.tup (cs.map tI)):=by
 have sz:1000<sizeLine:=by decide
 have b:=h.few;obtain⟨l,e,n,rfl⟩:=jE (m:=j6 3) (g:=rQ c) tI
  (λk l=>∃n:Option W,l=[some (.p (.int d)),some (.p (.lst (cs.map tI))),some (.o ((cs.take k).map tI)),n])
  cs 0 _ ⟨none,rfl⟩ (by
   rintro k a l j ⟨n,rfl⟩;rw[aG];have w:=(aa.mp j).1;have r:=CI (c:=c) d B (cs.take k) a s A (by rw[bR];lia) (λf b=>h.gc f (eg b)) (h.gc a (au j)) λf b=>by have u:=h.pw;rw[<-List.take_append_drop k cs,eA]at u;refine u.2.2 f b a ?_;refine au (i:=0) ?_;rw[List.getElem?_drop,Nat.add_zero];exact j
   have q:iR (gS (gF ah (gF bd df)) (ng c)) (vw [some (.p (.int d)),some (.p (.lst (cs.map tI))),some (.o ((cs.take k).map tI)),some (.p (tI a))])=.ok true:=gX (kW (y:=.lst ((cs.take k).map tI)) (z:=tI a) rfl rfl rfl r);refine⟨_,_,rfl,.inl (gM (iS (wj q rfl) rfl) (wO (us:=(cs.take k).map tI) (t:=tI a) rfl (n8 (t:=tI a) rfl rfl) (by rw[aw,bR];lia) rfl)),some (.p (tI a)),?_⟩;rw[jP cs k a j,aZ];rfl)
 rw[aG,dP]at e;have v:iR (gS bf (pJ c)) (vw (i9 4 [.int d,.lst (cs.map tI)]))=.ok true:=gX (pX rfl (Gz d s));have x:iR (ua "list" al) (vw (i9 4 [.int d,.lst (cs.map tI)]))=.ok true:=rfl;refine iI rfl (gM (iS ?_ rfl) (gM (ou (ts:=[]) (by simp) rfl) (gM (jT rfl e) (ig rfl))));simp only[L3.wc,L3.oj,v,x,M.bind_ok];rfl
noncomputable def lN(c:Cs)(d:Nat)(cs:LL):T:=.obj c.Cutting [("own_cuts",.tup (cs.map tI)),("own_dims",.int d)]
def Iu d B cs (b:1<=d/\d<=3) (a:B<=1000) (h:yc d B cs):jV c [.int d,.lst (cs.map tI)]=.ok (lN c d cs):=by have e:=FG (c:=c) d B cs b a h;have q:gS gV (kJ c) (none::[T.int d,.lst (cs.map tI)].map some)=.ok (.tup (cs.map tI)):=iY rfl rfl e;unfold jV AY;rw[aQ (show [T.int d,T.lst (cs.map tI)].length=2 from rfl),q];rfl
def FQ(h:f ρ=.ok (.obj C fs))(a:fs.lookup x=some t):Fg C x f ρ=.ok t:=by unfold Fg;rw[h,M.bind_ok];show (if C=C then (match fs.lookup x with|some t=>M.ok t|none=>.bad) else .bad)=_;rw[aQ rfl,a]
def yp(d:Nat)(cs:LL){f:Pe->M T}{ρ:Pe}(b:f ρ=.ok (lN c d cs)):sV c.Cutting "dims" f gJ (je c) ρ=.ok (.int d):=by
 have e:wX c.Cutting "dims" (lN c d cs)=.ok ():=by unfold wX lN;exact aQ ⟨rfl,rfl⟩
 have a:je c [lN c d cs]=.ok (.int d):=iI rfl (ig (FQ rfl rfl));simp only[sV,b,M.bind_ok,e,gJ,a,M.noEr_ok]
def Cw d cs (b:f ρ=.ok (lN c d cs)):uM c.Cutting "cuts" f gJ (jG c) ρ=.ok (cs.map tI):=by
 have e:wX c.Cutting "cuts" (lN c d cs)=.ok ():=by unfold wX lN;exact aQ ⟨rfl,rfl⟩
 have a:jG c [lN c d cs]=.ok (cs.map tI):=mx rfl (mP (by have:Fg c.Cutting "own_cuts" ah (vw (i9 1 [lN c d cs]))=.ok (.tup (cs.map tI)):=FQ rfl rfl;simp only[Ba,gF,gJ,this,M.bind_ok];rfl))
 simp only[uM,b,M.bind_ok,e,gJ,a,M.noEr_ok]
noncomputable def Tu(a b:LI):Int:=((a.zip b).map λp=>p.1*p.2).sum
def FA{a b e x y z:Int}(g:x≠y)(i:x≠z)(o:y≠z)(k:a+b*x+e*(x*x)=0)(q:a+b*y+e*(y*y)=0)(p:a+b*z+e*(z*z)=0):a=0/\b=0/\e=0:=by
 have d:(x-y)*(b+e*(x+y))=0:=by grind
 have m:(x-z)*(b+e*(x+z))=0:=by grind
 have l:=Co (by lia) d;have r:=Co (by lia) m;have n:(y-z)*e=0:=by grind
 have h:=Co (by lia) n;subst h;have j:b=0:=by simpa using l
 subst j;have f:a=0:=by simpa using k
 exact⟨f,rfl,rfl⟩
def Wf(j:f ρ=.ok a)(d:g ρ=.ok b)(i:h ρ=.ok e):jM (gF f (gF g (gF h gJ))) ρ=.ok (.tup [a,b,e]):=by
 have k:3<=sizeLine:=by decide
 simp only[jM,gF,gJ,j,d,i,M.bind_ok,Cg,ay,cF,k,if_true]
def DS l k i:vc (l.drop k) i=vc l (k+i):=by unfold vc;rw[af,List.getElem?_drop,<-af]
end CL
namespace CL
noncomputable def jB(m:Nat)(A u:Vc):Int:=sm m λi=>A i*u i
def qp(h:∀i,s*z i=a*x i+b*y i):s*jB m A z=a*jB m A x+b*jB m A y:=by
 unfold jB;rw[<-lL,<-uV];refine iZ m _ _ λi _=>?_;have:=h i;calc s*(A i*z i)=A i*(s*z i):=by rw[Int.mul_left_comm]
  _=A i*(a*x i+b*y i):=by rw[this]
  _=a*(A i*x i)+b*(A i*y i):=by grind
structure kY(m:Nat)(As:List Vc)(u:Vc):Prop where
 nn:∀i,0<=u i
 out:∀i,m<=i->u i=0
 ne:∃i,u i≠0
 eq:∀A∈As,jB m A u=0
noncomputable def cs(m:Nat)(u:Vc):Nat:=(List.range m).countP λi=>decide (u i≠0)
def VR(h:∀i,i<m->v i=0->u i=0):cs m u<=cs m v:=by unfold cs;refine eB λi b q=>?_;have a:=aS.mp b;simp only[decide_eq_true_eq]at q ⊢;exact λz=>q (h i a z)
theorem A5{f:Type}{p q:f->Bool}:∀{l:List f},(∀a∈l,p a=true->q a=true)->(∃a∈l,q a=true/\p a=false)->l.countP p<l.countP q
 |[],_,⟨_,h,_⟩=>by cases h
 |a::l,h,⟨b,d,h1,h2⟩=>by
  rw[List.countP_cons,List.countP_cons];have mono:l.countP p<=l.countP q:=eB λc e=>h c (by simp[e]);rcases aF.mp d with rfl|d
  .rw[h1,h2];simp;lia
  .have j:=A5 (λc e=>h c (by simp[e])) ⟨b,d,h1,h2⟩;cases g:p a with
   |true=>rw[h a (by simp) g];simp;lia
   |false=>cases i:q a<;>simp<;>lia
def Ew(h:∀i,i<m->v i=0->u i=0)(e:k<m)(c:v k≠0)(b:u k=0):cs m u<cs m v:=by unfold cs;refine A5 (λi d q=>?_) ⟨k,aS.mpr e,by simpa using c,by simpa using b⟩;have a:=aS.mp d;simp only[decide_eq_true_eq]at q ⊢;exact λz=>q (h i a z)
theorem QU(u v:Vc):∀m,(∃j,j<m/\0<v j)->∃k,k<m/\0<v k/\∀i,i<m->0<v i->u k*v i<=u i*v k
 |0,⟨_,h,_⟩=>absurd h (dq _)
 |m+1,⟨j,hj,hv⟩=>by
  by_cases c:∃j,j<m/\0<v j
  .obtain⟨k,z,f,l⟩:=QU u v m c;by_cases d:0<v m
   .by_cases o:u k*v m<=u m*v k
    .refine⟨k,by lia,f,λi g b=>?_⟩;by_cases e:i=m
     .subst e;exact o
     .exact l i (by lia) b
    .refine⟨m,by lia,d,λi g b=>?_⟩;by_cases e:i=m
     .subst e;exact eD _
     .have a:=l i (by lia) b;have n:u m*v k<=u k*v m:=aA (eE.mp o);have x:u m*v i*v k<=u i*v m*v k:=by
       have p:=aJ n (aA b);have w:=aJ a (aA d);have y:u m*v i*v k=u m*v k*v i:=by grind
       have r:u k*v m*v i=u k*v i*v m:=by grind
       have q:u i*v m*v k=u i*v k*v m:=by grind
       rw[y,q];rw[r]at p;exact eF p w
      exact Int.le_of_mul_le_mul_right x f
   .refine⟨k,by lia,f,λi g b=>?_⟩;by_cases e:i=m
    .subst e;exact absurd b d
    .exact l i (by lia) b
  .have s:j=m:=by
    rcases eG j m with h|h
    .exact absurd ⟨j,h,hv⟩ c
    .lia
   subst s;refine⟨j,by lia,hv,λi g b=>?_⟩;by_cases e:i=j
   .subst e;exact eD _
   .exact absurd ⟨i,by lia,b⟩ c
def Ai(d:kY m As u)(h:∀i,m<=i->v i=0)(p:∀A∈As,jB m A v=0)(o:∃j,j<m/\0<v j)(vs:∀i,u i=0->v i=0) :
  ∃k,k<m/\0<v k/\0<u k/\(∀i,0<=v k*u i-u k*v i)/\(∀i,m<=i->v k*u i-u k*v i=0)/\(∀A∈As,jB m A (λi=>v k*u i-u k*v i)=0)/\cs m (λi=>v k*u i-u k*v i)<cs m u:=by
 obtain⟨k,l,e,q⟩:=QU u v m o;have n:u k≠0:=λz=>by rw[vs k z]at e;exact absurd e (by decide)
 have c:0<u k:=by have:=d.nn k;lia
 refine⟨k,l,e,c,λi=>?_,λi f=>?_,λA g=>?_,?_⟩
 .by_cases f:i<m
  .by_cases hv:0<v i
   .have:=q i f hv;rw[cV (v k)];lia
   .have a:0<=v k*u i:=aP (aA e) (d.nn i);have b:u k*v i<=0:=eI (aA c) (by lia);lia
  .rw[d.out i (by lia),h i (by lia)];simp
 .rw[d.out i f,h i f];simp
 .have:=qp (m:=m) (A:=A) (x:=u) (y:=v) (z:=λi=>v k*u i-u k*v i) (s:=1) (a:=v k) (b:=-u k) (λi=>by grind);rw[d.eq A g,p A g]at this;simpa using this
 .refine Ew (λi _ z=>?_) l n ?_
  .rw[z,vs i z];simp
  .rw[cV];lia
theorem vT m:∀(f:List Vc) (T:List Nat),T.Nodup->(∀t∈T,t<m)->f.length<T.length->∃v:Vc,(∃i,v i≠0)/\(∀i,i∉T->v i=0)/\∀A∈f,jB m A v=0
 |[],T,nd,ht,hl=>by
  cases T with
  |nil=>cases hl
  |cons t T=>refine⟨λi=>if i=t then 1 else 0,⟨t,by simp⟩,λi g=>?_,λA l=>nomatch l⟩;have:i≠t:=λz=>g (by simp[z]);simp[this]
 |A::f,T,nd,ht,hl=>by
  cases T with
  |nil=>cases hl
  |cons t T=>
   obtain⟨F,p⟩:=bO.mp nd;have h:f.length<T.length:=by simp at hl;exact hl
   obtain⟨d,⟨j,w⟩,o1,D⟩:=vT m f T p (λx n=>ht x (by simp[n])) h;have r:j∈T:=aO λz=>w (o1 j z);have o:f.length<((t::T).erase j).length:=by have C:j∈t::T:=bz _ r;rw[eJ C,ay];exact h
   obtain⟨c,⟨k,E⟩,o2,u⟩:=vT m f ((t::T).erase j) (nd.erase j) (λx n=>ht x (eK n)) o;have q:c j=0:=o2 j (λz=>by rw[List.Nodup.mem_erase_iff nd]at z;exact z.1 rfl);by_cases l:jB m A c=0
   .exact⟨c,⟨k,E⟩,λi g=>o2 i (λz=>g (eK z)),λB e=>by
     rcases aF.mp e with rfl|e
     .exact l
     .exact u B e⟩
   .refine⟨λi=>jB m A c*d i-jB m A d*c i,⟨j,?_⟩,λi g=>?_,λB e=>?_⟩
    .dsimp only;rw[q];simp[l,w]
    .show jB m A c*d i-jB m A d*c i=0;rw[o1 i (λz=>g (by simp[z])),o2 i (λz=>g (eK z))];simp
    .have:=qp (m:=m) (A:=B) (x:=d) (y:=c) (z:=λi=>jB m A c*d i-jB m A d*c i) (s:=1) (a:=jB m A c) (b:=-jB m A d) (λi=>by grind);rcases aF.mp e with rfl|e
     .rw[dQ]at this;rw[this];grind
     .rw[D B e,u B e]at this;simpa using this
def Ue(m:Nat)(a:List Vc)(u:Vc):Prop:=kY m a u/\∀v,kY m a v->(∀i,u i=0->v i=0)->∀i,v i=0->u i=0
def LB(h:Ue m As u):cs m u<=As.length+1:=by
 obtain⟨L,F⟩:=h;refine cf λI=>?_;let S:=(List.range m).filter λi=>decide (u i≠0);have o:S.length=cs m u:=by show (List.filter _ _).length=_;unfold cs;rw[eM]
 have r:∀i,i∈S↔i<m/\u i≠0:=λi=>by show i∈List.filter _ _↔_;simp
 have g:S.Nodup:=List.Pairwise.filter _ eN;cases c:S with
 |nil=>rw[c]at o;simp at o;lia
 |cons t T=>
  rw[c]at o g;simp only[ay]at o;obtain⟨n,p⟩:=bO.mp g;have e:∀i∈T,i<m/\u i≠0:=λi f=>(r i).mp (by rw[c];simp[f]);obtain⟨d,⟨j,K⟩,o0,q⟩:=vT m As T p (λi f=>(e i f).1) (by lia);obtain⟨v,vo,ve,vp,vt⟩:∃v:Vc,(∀i,i∉T->v i=0)/\(∀A∈As,jB m A v=0)/\(∃j,j<m/\0<v j)/\v t=0:=by
   have l:j∈T:=aO λz=>K (o0 j z);by_cases J:0<d j
   .exact⟨d,o0,q,⟨j,(e j l).1,J⟩,o0 t n⟩
   .refine⟨λi=>-d i,λi f=>by show -d i=0;rw[o0 i f];rfl,λA D=>?_,⟨j,(e j l).1,by show 0 < -d j;lia⟩,by show -d t=0;rw[o0 t n];rfl⟩;have:=qp (m:=m) (A:=A) (x:=d) (y:=d) (z:=λi=>-d i) (s:=1) (a:=-1) (b:=0) (λi=>by grind);rw[q A D]at this;simpa using this
  have H:t<m/\u t≠0:=(r t).mp (by rw[c];simp);obtain⟨k,X,U,R,B,N,C,P⟩:=Ai L (λi f=>vo i (λz=>by have:=(e i z).1;lia)) ve vp (λi z=>vo i (λw=>(e i w).2 z));have E:kY m As (λi=>v k*u i-u k*v i):=⟨B,N,⟨t,by rw[vt];simp;exact⟨by lia,H.2⟩⟩,C⟩;have Q:=F _ E (λi z=>by rw[z,vo i (λw=>(e i w).2 z)];simp) k (by rw[cV];lia);lia
def Ik{m:Nat}{a Bs:List Vc}{u:Vc}(h:kY m Bs u)(c:∀A∈a,A∈Bs):kY m a u:=⟨h.nn,h.out,h.ne,λA b=>h.eq A (c A b)⟩
inductive Cn(P:Vc->Prop):Vc->Prop
 |of {x:Vc}:P x->Cn P x
 |lin {x y z:Vc} {s a b:Int}:Cn P x->Cn P y->0<s->0<=a->0<=b->0<a+b->(∀i,s*z i=a*x i+b*y i)->Cn P z
def Cn.mono(h:∀x,P x->P' x)(q:Cn P z):Cn P' z:=by
 induction q with
 |of q=>exact .of (h _ q)
 |lin _ _ hs ha hb hab e i1 i2=>exact .lin i1 i2 hs ha hb hab e
def yz{a b p q:Int}(f:0<=a)(g:0<=b)(h:0<a*p+b*q):(0<a/\0<p)\/0<b/\0<q:=by
 have d:∀{u v:Int},0<=u->¬(0<u/\0<v)->u*v<=0:=λ{u v} hu hn=>by
  by_cases i:u=0
  .rw[i,dU];exact eD _
  .exact eI hu (by lia)
 by_cases e:0<a/\0<p
 .exact .inl e
 .by_cases c:0<b/\0<q
  .exact .inr c
  .have:=d f e;have:=d g c;lia
theorem Cn.parts(Y:∀x,P x->∀i,0<=x i){f:Vc->Int}(S:∀x y z s a b,(∀i,s*z i=a*x i+b*y i)->s*f z=a*f x+b*f y)(h:Cn P z) :
  (∀i,0<=z i)/\(0<f z->∃g,P g/\(∀i,z i=0->g i=0)/\0<f g)/\(f z<0->∃g,P g/\(∀i,z i=0->g i=0)/\f g<0)/\
   (f z=0->(∃g,P g/\(∀i,z i=0->g i=0)/\f g=0)\/∃g l,P g/\P l/\(∀i,z i=0->g i=0)/\(∀i,z i=0->l i=0)/\0<f g/\f l<0):=by
 induction h with
 |of h=>rename_i x;exact⟨Y _ h,λq=>⟨x,h,λ_ z=>z,q⟩,λq=>⟨x,h,λ_ z=>z,q⟩,λq=>.inl ⟨x,h,λ_ z=>z,q⟩⟩
 |lin _ _ hs ha hb hab e i1 i2=>
  rename_i x y z s a b _ _;obtain⟨I,R,N,Z⟩:=i1;obtain⟨J,Q,L,z2⟩:=i2;have q:=S _ _ _ _ _ _ e;have U:∀i,0<=z i:=λi=>by
   have C:=aP ha (I i);have E:=aP hb (J i);have o:0<=s*z i:=by rw[e i];lia
   exact Int.le_of_mul_le_mul_left (a:=s) (by simpa using o) hs
  have m:0<a->∀i,z i=0->x i=0:=λha' i n=>by
   have:=e i;rw[n,dN]at this;have C:=aP ha (I i);have E:=aP hb (J i);have o:a*x i=0:=by lia
   rcases dS.mp o with h|h
   .lia
   .exact h
  have v:0<b->∀i,z i=0->y i=0:=λX i n=>by
   have:=e i;rw[n,dN]at this;have C:=aP ha (I i);have E:=aP hb (J i);have o:b*y i=0:=by lia
   rcases dS.mp o with h|h
   .lia
   .exact h
  have up:∀{g w:Vc},(∀i,z i=0->w i=0)->(∀i,w i=0->g i=0)->∀i,z i=0->g i=0:=λC E i n=>E i (C i n);refine⟨U,λh=>?_,λh=>?_,λh=>?_⟩
  .rcases yz ha hb (by rw[<-q];exact aX hs h) with⟨k,p⟩|⟨k,p⟩
   .obtain⟨g,c,d,j⟩:=R p;exact⟨g,c,up (m k) d,j⟩
   .obtain⟨g,c,d,j⟩:=Q p;exact⟨g,c,up (v k) d,j⟩
  .have w:=eO hs h;rcases yz (p:=-f x) (q:=-f y) ha hb (by rw[cX,cX];lia) with⟨k,p⟩|⟨k,p⟩
   .obtain⟨g,c,d,j⟩:=N (by lia);exact⟨g,c,up (m k) d,j⟩
   .obtain⟨g,c,d,j⟩:=L (by lia);exact⟨g,c,up (v k) d,j⟩
  .rw[h,dN]at q;by_cases B:0<a/\0<f x
   .have w:=aX B.1 B.2;rcases yz (p:=0) (q:=-f y) ha hb (by rw[cX];lia) with⟨-,p⟩|⟨k,p⟩
    .lia
    .obtain⟨g,c,d,j⟩:=R B.2;obtain⟨r,F,K,H⟩:=L (by lia);exact .inr ⟨g,r,c,F,up (m B.1) d,up (v k) K,j,H⟩
   .by_cases D:0<a/\f x<0
    .have w:=eO D.1 D.2;rcases yz (p:=0) (q:=f y) ha hb (by lia) with⟨-,p⟩|⟨k,p⟩
     .lia
     .obtain⟨g,c,d,j⟩:=Q p;obtain⟨r,F,K,H⟩:=N D.2;exact .inr ⟨g,r,c,F,up (v k) d,up (m D.1) K,j,H⟩
    .have A:∀{w:Vc},(∀i,z i=0->w i=0)->((∃g,P g/\(∀i,w i=0->g i=0)/\f g=0)\/∃g l,P g/\P l/\(∀i,w i=0->g i=0)/\(∀i,w i=0->l i=0)/\0<f g/\f l<0)->(∃g,P g/\(∀i,z i=0->g i=0)/\f g=0)\/∃g l,P g/\P l/\(∀i,z i=0->g i=0)/\(∀i,z i=0->l i=0)/\0<f g/\f l<0:=λu h=>by
      rcases h with⟨g,c,d,j⟩|⟨g,l,c,d,j,g4,g5⟩
      .exact .inl ⟨g,c,up u d,j⟩
      .exact .inr ⟨g,l,c,d,up u j,up u g4,g5⟩
     by_cases k:0<a
     .exact A (m k) (Z (by lia))
     .rw[show a=0 by lia,dU,dY]at q;exact A (v (by lia)) (z2 (by rcases dS.mp q.symm with w|w<;>lia))
def Ja(d:Ue m As u)(b:kY m As z)(c:∀i,u i=0->z i=0):∃s a:Int,0<s/\0<a/\∀i,s*u i=a*z i:=by
 obtain⟨j,q⟩:=b.ne;have n:j<m:=by
  rcases eG j m with h|h
  .exact h
  .exact absurd (b.out j h) q
 have p:0<z j:=by have:=b.nn j;lia
 obtain⟨k,x,r,o,e,v,f,w⟩:=Ai d.1 b.out b.eq ⟨j,n,p⟩ c;refine⟨z k,u k,r,o,λi=>?_⟩;refine aO λg=>?_;have l:kY m As (λi=>z k*u i-u k*z i):=⟨e,v,⟨i,by lia⟩,f⟩;have:=d.2 _ l (λi z=>by rw[z,c i z];simp) k (by rw[cV];lia);lia
def Sj m A:∀x y z s a b,(∀i,s*z i=a*x i+b*y i)->s*jB m A z=a*jB m A x+b*jB m A y:=λ_ _ _ _ _ _ h=>qp h
theorem Sw(p:∀x,P x->kY m As x)(K:∀u,kY m As u->Cn P u)(h0:∀x,P x->jB m A x=0->P' x)
  (h1:∀x y,P x->P y->0<jB m A x->jB m A y<0->cs m (λi=>(-jB m A y)*x i+jB m A x*y i)<=As.length+2->P' (λi=>(-jB m A y)*x i+jB m A x*y i)) :
  ∀n u,cs m u<=n->kY m (A::As) u->Cn P' u:=by
 intro n;induction n with
 |zero=>
  intro u hn f;obtain⟨i,l⟩:=f.ne;have im:i<m:=by
   rcases eG i m with h|h
   .exact h
   .exact absurd (f.out i h) l
  have:=Ew (m:=m) (u:=λ_=>0) (v:=u) (λ_ _ _=>rfl) im l rfl;lia
 |succ n ih=>
  intro u hn f;by_cases H:Ue m (A::As) u
  .have J:kY m As u:=Ik f λB d=>by simp[d]
   have hz:∃z,P' z/\kY m (A::As) z/\∀i,u i=0->z i=0:=by
    obtain⟨_,_,_,hp⟩:=(K u J).parts (λx Z=>(p x Z).nn) (Sj m A);rcases hp (f.eq A (by simp)) with⟨g,o,C,D⟩|⟨g,c,o,C,D,g4,I,g6⟩
    .exact⟨g,h0 g o D,⟨(p g o).nn,(p g o).out,(p g o).ne,λB d=>by
      rcases aF.mp d with rfl|d
      .exact D
      .exact (p g o).eq B d⟩,C⟩
    .have q:=p g o;have r:=p c C;have L:∀B,jB m B (λi=>(-jB m A c)*g i+jB m A g*c i)=(-jB m A c)*jB m B g+jB m A g*jB m B c:=λB=>by have:=qp (m:=m) (A:=B) (x:=g) (y:=c) (z:=λi=>(-jB m A c)*g i+jB m A g*c i) (s:=1) (a:=-jB m A c) (b:=jB m A g) (λi=>by grind);simpa using this
     have Q:0 < -jB m A c:=by lia
     obtain⟨j,R⟩:=q.ne;have F:kY m (A::As) (λi=>(-jB m A c)*g i+jB m A g*c i):=by
      refine⟨λi=>?_,λi l=>?_,⟨j,?_⟩,λB d=>?_⟩
      .have x1:=aP (aA Q) (q.nn i);have x2:=aP (aA I) (r.nn i);lia
      .rw[q.out i l,r.out i l];simp
      .have gj:0<g j:=by have:=q.nn j;lia
       have x1:=aX Q gj;have x2:=aP (aA I) (r.nn j);lia
      .rw[L B];rcases aF.mp d with rfl|d
       .grind
       .rw[q.eq B d,r.eq B d];simp
     have sz:∀i,u i=0->(-jB m A c)*g i+jB m A g*c i=0:=λi l=>by rw[D i l,g4 i l];simp
     refine⟨_,h1 g c o C I g6 ?_,F,sz⟩;have f1:=LB H;have f2:cs m (λi=>(-jB m A c)*g i+jB m A g*c i)<=cs m u:=VR λi _ z=>sz i z;simp only[ay]at f1;lia
   obtain⟨z,N,F,sz⟩:=hz;obtain⟨s,a,Y,U,e⟩:=Ja H F sz;exact .lin (.of N) (.of N) Y (aA U) (eD 0) (by lia) λi=>by rw[e i];simp
  .obtain⟨v,hv,w,k,vk,uk⟩:∃v,kY m (A::As) v/\(∀i,u i=0->v i=0)/\∃k,v k=0/\u k≠0:=by refine aO λE=>H ⟨f,λv hv w i vi=>aO λui=>E ⟨v,hv,w,i,vi,ui⟩⟩
   have km:k<m:=by
    rcases eG k m with h|h
    .exact h
    .exact absurd (f.out k h) uk
   obtain⟨j,R⟩:=hv.ne;have jm:j<m:=by
    rcases eG j m with h|h
    .exact h
    .exact absurd (hv.out j h) R
   have jp:0<v j:=by have:=hv.nn j;lia
   obtain⟨t,ht,a1,a2,S,a4,X,a6⟩:=Ai f hv.out hv.eq ⟨j,jm,jp⟩ w;have kp:0<u k:=by have:=f.nn k;lia
   have cn:kY m (A::As) (λi=>v t*u i-u t*v i):=⟨S,a4,⟨k,by rw[vk];simp;exact⟨by lia,uk⟩⟩,X⟩;have l1:=Ew (m:=m) (u:=v) (v:=u) (λi _ z=>w i z) km uk vk;exact .lin (ih _ (by lia) cn) (ih v (by lia) hv) a1 (by decide:(0:Int)<=1) (aA a2) (by lia) λi=>by grind
end CL
namespace CL
open PySem L2 L3
variable {c:Cs}
def qv(p:Int×Int):Rat:=(p.1:Rat) / (p.2:Rat)
structure GF(A B:Nat)(p:Int×Int):Prop where
 pos:0<p.2
 one:Cu.G p.1 p.2=1
 b1:Bn A p.1
 b2:Bn B p.2
def GF.mono(h:GF A B p)(b:A<=A')(a:B<=B'):GF A' B' p:=⟨h.pos,h.one,h.b1.mono b,h.b2.mono a⟩
def nN{i:Int}(h:0<i):(0:Rat)<(i:Rat):=by have:=(eP).mpr h;simpa using this
def UA{i:Int}(h:i≠0):(i:Rat)≠0:=λz=>by
 have e:i=(0:Rat):=by simpa using z
 exact h (Rat.intCast_inj.mp e)
def LQ a:Cu.G a 1=1:=by simp[Cu.G]
@[simp] theorem oY p:ja (fr p) (.int 0)=.ok (.int p.1):=rfl
@[simp] theorem nB p:ja (fr p) (.int 1)=.ok (.int p.2):=rfl
def Aq A B t b (d:b≠0) (m:Bn A t) (k:Bn B b) (n:B<=8000):∃p,rM c [.int t,.int b]=.ok (fr p)/\GF A B p/\qv p=(t:Rat) / (b:Rat):=by
 have v:=Cu.Ez t b d;have l:=Cu.Pn t b d;have a:∀x:Int,Builtin.divisionGoesByPylong x (if b<0 then -Cu.G t b else Cu.G t b)=false:=λx=>by refine Bn.noPy ?_ n;unfold Bn at *;refine cg ?_ k;split<;>lia
 have g:(if b<0 then -Cu.G t b else Cu.G t b)≠0:=by split<;>lia
 have i:(if b<0 then -Cu.G t b else Cu.G t b) ∣ t:=by split<;>first|exact Int.neg_dvd.mpr (Cu.mY t b)|exact Cu.mY t b
 have j:(if b<0 then -Cu.G t b else Cu.G t b) ∣ b:=by split<;>first|exact Int.neg_dvd.mpr (Cu.l7 t b)|exact Cu.l7 t b
 have f:=Cu.EG t b d;refine⟨(t.fdiv (if b<0 then -Cu.G t b else Cu.G t b),b.fdiv (if b<0 then -Cu.G t b else Cu.G t b)),iI rfl (gM (iS (gX (gL rfl rfl (by rw[jK];simp[d]))) rfl) (gM (gU (iY rfl rfl (nV t b)) rfl) (gM (ρ':=[some (.p (.int t)),some (.p (.int b)),some (.p (.int (if b<0 then -Cu.G t b else Cu.G t b)))]) ?_ (ig (pZ (gL rfl rfl (lC g (a t))) (gL rfl rfl (lC g (a b)))))))),⟨f.pos,f.one,cg (rD i g) m,cg (rD j g) k⟩,?_⟩
 .by_cases h:b<0
  .exact jf (gX (gL rfl rfl (by rw[oy];simp[h]))) (gU (pS rfl) (by simp[h]))
  .exact iS (gX (gL rfl rfl (by rw[oy];simp[h]))) (by simp[h])
 .have e:=f.is;generalize t.fdiv (if b<0 then -Cu.G t b else Cu.G t b)=x at *;generalize q:b.fdiv (if b<0 then -Cu.G t b else Cu.G t b)=y at *;have s:=f.pos;have o:(x:Rat)*(b:Rat)=(t:Rat)*(y:Rat):=by rw[<-eQ,<-eQ,e]
  have r:=UA d;have u:(y:Rat)≠0:=UA (by lia);show (x:Rat) / (y:Rat)=_;grind
def Jg(a:GF A B p)(hr:GF A' B' r)(f:B+B'<=8000)(k:A<=20000)(h:A'<=20000):∃s,vK c [fr p,fr r]=.ok (fr s)/\GF (max (A+B') (A'+B)+1) (B+B') s/\qv s=qv p-qv r:=by have d:=a.pos;have b:=hr.pos;obtain⟨s,e,g,q⟩:=Aq (max (A+B') (A'+B)+1) (B+B') (p.1*r.2-r.1*p.2) (p.2*r.2) (cZ (by lia) (by lia)) ((a.b1.mul hr.b2).sub (hr.b1.mul a.b2)) (a.b2.mul hr.b2) f;refine⟨s,iI rfl (ig (iY (gL (gL (gL rfl rfl (oY p)) (gL rfl rfl (nB r)) (iE (a.b1.ok hr.b2 (by lia) (by lia)))) (gL (gL rfl rfl (oY r)) (gL rfl rfl (nB p)) (iE (hr.b1.ok a.b2 (by lia) (by lia)))) (nr _ _)) (gL (gL rfl rfl (nB p)) (gL rfl rfl (nB r)) (iE (a.b2.ok hr.b2 (by lia) (by lia)))) e)),g,?_⟩;rw[q];have j:(p.2:Rat)≠0:=UA (by lia);have i:(r.2:Rat)≠0:=UA (by lia);unfold qv;simp only[eS,eQ];grind
def Ft(a:Bn N k)(hr:GF A B r)(d:B<=8000)(f:N<=20000)(h:A<=20000):∃s,vZ c [fr (k,1),fr r]=.ok (fr s)/\GF (N+A) B s/\qv s=(k:Rat)*qv r:=by have b:=hr.pos;obtain⟨s,e,g,q⟩:=Aq (N+A) B (k*r.1) (1*r.2) (by lia) (a.mul hr.b1) (by rw[dQ];exact hr.b2) d;refine⟨s,iI rfl (ig (iY (gL (gL rfl rfl (oY (k,1))) (gL rfl rfl (oY r)) (iE (a.ok hr.b1 (by lia) (by lia)))) (gL (gL rfl rfl (nB (k,1))) (gL rfl rfl (nB r)) (iE (qX (show (1:Int).natAbs<2 ^ 64 by decide)))) e)),g,?_⟩;rw[q,dQ];unfold qv;simp only[eQ];grind
def Jf(b:k≠0)(a:Bn N k)(hr:GF A B r)(f:B+N<=8000)(h:A<=20000):∃s,sW c [fr r,fr (k,1)]=.ok (fr s)/\GF A (B+N) s/\qv s=qv r / (k:Rat):=by have d:=hr.pos;obtain⟨s,e,g,q⟩:=Aq A (B+N) (r.1*1) (r.2*k) (cZ (by lia) b) (by rw[bD];exact hr.b1) (hr.b2.mul a) f;refine⟨s,iI rfl (gM (iS (gX (gL (gL rfl rfl (oY (k,1))) rfl (by rw[jK];simp[b]))) rfl) (ig (iY (gL (gL rfl rfl (oY r)) (gL rfl rfl (nB (k,1))) (iE (zJ (show (1:Int).natAbs<2 ^ 64 by decide)))) (gL (gL rfl rfl (nB r)) (gL rfl rfl (oY (k,1))) (iE (hr.b2.ok a (by lia) (by lia)))) e))),g,?_⟩;rw[q,bD];unfold qv;simp only[eQ];grind
def Hy(g:0<p.2)(hr:0<r.2):qv p<qv r↔p.1*r.2<r.1*p.2:=by
 have a:=nN g;have b:=nN hr;have j:(p.2:Rat)≠0:=UA (by lia);have i:(r.2:Rat)≠0:=UA (by lia);have e:qv p*(p.2*r.2)=((p.1*r.2:Int):Rat):=by unfold qv;rw[eQ];grind
 have f:qv r*((p.2:Rat)*(r.2:Rat))=((r.1*p.2:Int):Rat):=by unfold qv;rw[eQ];grind
 have d:=eT a b;rw[<-eP,<-e,<-f];exact⟨λh=>Rat.mul_lt_mul_of_pos_right h d,λh=>Rat.lt_of_mul_lt_mul_right h (eU d)⟩
def yY(d:0<p.2)(hr:0<r.2)(a:IntMulOk p.1 r.2)(b:IntMulOk r.1 p.2):lM c [fr p,fr r]=.ok (.bl (decide (qv p<qv r))):=by
 refine iI rfl (ig (gL (gL (gL rfl rfl (oY p)) (gL rfl rfl (nB r)) (iE a)) (gL (gL rfl rfl (oY r)) (gL rfl rfl (nB p)) (iE b)) ?_));rw[oy];have:=Hy d hr;by_cases h:p.1*r.2<r.1*p.2
 .rw[aC h,aC (this.mpr h)]
 .rw[aB h,aB (λz=>h (this.mp z))]
noncomputable def nb(x:Int):Nat:=x.natAbs.log2+1
def HW x:Bn (nb x) x:=Nat.lt_log2_self
def HA(h:Bn E x)(b:1<=E):nb x<=E:=by
 unfold nb Bn at *;by_cases a:x.natAbs=0
 .rw[a];simp;exact b
 .have:=(Nat.log2_lt a).mpr h;lia
noncomputable def wt(p:Int×Int):Nat:=max (nb p.1) (nb p.2)
noncomputable def nY(s:List (Int×Int)):Nat:=(s.map wt).sum
structure Fq(p:Int×Int):Prop where
 pos:0<p.2
 one:Cu.G p.1 p.2=1
def Fq.gf(h:Fq p):GF (wt p) (wt p) p:=⟨h.pos,h.one,(HW _).mono (dw _ _),(HW _).mono (dy _ _)⟩
def Ju(p:Int×(Int×Int)):T:=.tup [.int p.1,fr p.2]
theorem Bv x0 x1 N (n:N<=8000):∀(a:List (Int×(Int×Int))) (left:Int×Int) (B j:Nat) (b d:Option W),j+a.length<=100->(∀p∈a,Bn N p.1/\Fq p.2)->B+nY (a.map Prod.snd)<=8000->GF (N+B+j) B left->
  ∃s i k,j3 (mj 2 cu) (sj c) (a.map Ju) [x0,x1,some (.p (fr left)),b,d]=.nx [x0,x1,some (.p (fr s)),i,k]/\GF (N+(B+nY (a.map Prod.snd))+(j+a.length)) (B+nY (a.map Prod.snd)) s/\
   qv s=qv left-(a.map λp=>(p.1:Rat)*qv p.2).sum
 |[],left,B,j,b,d,_,_,_,hg=>⟨left,b,d,rfl,by simpa[nY] using hg,by simp;grind⟩
 |p::a,left,B,j,b,d,hj,hp,hB,hg=>by
  obtain⟨u,y⟩:=hp p (by simp);have h:B+wt p.2+nY (a.map Prod.snd)<=8000:=by simp[nY]at hB ⊢;lia
  obtain⟨t,l,w,o⟩:=Ft u y.gf (by lia) (by lia) (by lia);simp at hj;obtain⟨f,A,z,v⟩:=Jg hg w (by lia) (by lia) (by lia);have C:GF (N+(B+wt p.2)+(j+1)) (B+wt p.2) f:=z.mono (by lia) (by lia);obtain⟨s,i,k,e,g,q⟩:=Bv x0 x1 N n a f (B+wt p.2) (j+1) (some (.p (.int p.1))) (some (.p (fr p.2))) (by lia) (λr hr=>hp r (by simp[hr])) h C;refine⟨s,i,k,?_,?_,?_⟩
  .rw[bI,j3];have m:(mj 2 cu) (Ju p) [x0,x1,some (.p (fr left)),b,d]=some [x0,x1,some (.p (fr left)),some (.p (.int p.1)),some (.p (fr p.2))]:=rfl;rw[m];have x:sj c [x0,x1,some (.p (fr left)),some (.p (.int p.1)),some (.p (fr p.2))]=.nx [x0,x1,some (.p (fr f)),some (.p (.int p.1)),some (.p (fr p.2))]:=gU (iY rfl (iY (pZ rfl rfl) rfl l) A) rfl;dsimp only;rw[x];exact e
  .have l:B+wt p.2+nY (a.map Prod.snd)=B+nY ((p::a).map Prod.snd):=by simp[nY];lia
   rw[l]at g;exact g.mono (by simp;lia) (aK _)
  .rw[q,v,o];simp only[bI,eV];grind
noncomputable def J0(row:LI)(s:List (Int×Int)):Rat:=((row.zip s).map λp=>(p.1:Rat)*qv p.2).sum
def Em N (i:N<=8000) (m:1<=N) row s (d:s.length<row.length) (o:s.length<=10) (f:∀x∈row,Bn N x) (j:∀p∈s,Fq p) (k:1+nY s<=8000) :
  ∃r,lX c [tI row,.lst (s.map fr)]=.ok (fr r)/\GF (N+nY s+20) (1+nY s) r/\qv r=(vc row s.length:Rat)-J0 row s:=by
 have h:=k9 row s.length d;have a:(row.zip s).map Prod.snd=s:=by rw[List.map_snd_zip];lia
 have l:=f _ (getD_mem row s.length d);obtain⟨r,u,n,e,g,q⟩:=Bv (some (.p (tI row))) (some (.p (.lst (s.map fr)))) N i (row.zip s) (vc row s.length,1) 1 0 none none (by simp;lia) (λp b=>⟨f _ (aW b).1,j _ (aW b).2⟩) (by rw[a];exact k) ⟨show 0<1 by decide,LQ _,l.mono (by lia),show Bn 1 1 by unfold Bn;decide⟩;rw[a]at g;refine⟨r,iI rfl (gM (gU (pZ (gL rfl (n8 (r:=.ok (.int s.length)) rfl (by simp)) ?_) rfl) rfl) (gM (jT (nC rfl rfl rfl rfl) e) (ig rfl))),g.mono (by simp;lia) (aK _),?_⟩
 .exact h
 .rw[q];unfold J0;have:qv (vc row s.length,1)=(vc row s.length):=by unfold qv;simp;grind
  rw[this]
def oT:Option (Int×Int)->T
 |none=>.non
 |some p=>fr p
def qK(a:Option (Int×Int))(q:Rat):Prop:=∀p,a=some p->qv p<q
def qP(a:Option (Int×Int))(q:Rat):Prop:=∀r,a=some r->q<qv r
noncomputable def Qc:Option (Int×Int)->Int
 |some r=>if r.1<=0 then -((-r.1).fdiv r.2)-1 else 0
 |none=>0
noncomputable def wb(b a:Option (Int×Int)):Int:=match b with
 |some p=>if 0<=p.1 then p.1.fdiv p.2+1 else Qc a
 |none=>Qc a
instance (lo:Option (Int×Int)) (q:Rat):Decidable (qK lo q):=match lo with
 |none=>.isTrue λ_ h=>nomatch h
 |some p=>if h:qv p<q then .isTrue λr e=>by cases e;exact h else .isFalse λz=>h (z p rfl)
instance (hi:Option (Int×Int)) (q:Rat):Decidable (qP hi q):=match hi with
 |none=>.isTrue λ_ h=>nomatch h
 |some p=>if h:q<qv p then .isTrue λr e=>by cases e;exact h else .isFalse λz=>h (z p rfl)
def J8(b a:Option (Int×Int)):T:=if qK b (wb b a:Rat)/\qP a (wb b a:Rat) then .int (wb b a) else .non
def Oe(E:Nat)(o:Option (Int×Int)):Prop:=∀p,o=some p->0<p.2/\Bn E p.1/\Bn E p.2
def HK i:qv (i,1)=(i:Rat):=by unfold qv;simp;grind
def uz(a b:Int)(d:0<b):a.fdiv b*b<=a/\a<(a.fdiv b+1)*b:=by
 have e:=Int.fmod_def a b;have g:=cQ a d;have f:=cR a d;have i:b*a.fdiv b=a.fdiv b*b:=cV _ _;constructor
 .omega
 .have h:(a.fdiv b+1)*b=a.fdiv b*b+b:=by grind
  omega
def B2(a b:Int)(d:0<b):(a.fdiv b).natAbs<=a.natAbs:=by
 obtain⟨k,j⟩:=uz a b d;rcases Int.le_total 0 a with h|h
 .have f:=eW h (aA d);have e:a.fdiv b<=a.fdiv b*b:=by have:=dM (show 1<=b by omega) f;omega
  omega
 .have f:a.fdiv b+1<=1:=by
   refine eX.mp λz=>?_;have e:1<=a.fdiv b:=by omega
   have:=aJ e (aA d);omega
  by_cases i:a=0
  .subst i;simp
  .have m:a<=a.fdiv b:=by
    refine eX.mp λz=>?_;have g:a.fdiv b+1<=a:=by omega
    have n:=aJ g (aA d);have l:a*b<=a*1:=Int.mul_le_mul_of_nonpos_left h (by omega);omega
   omega
def Rv(g:Oe E lo)(f:Oe E hi):(wb lo hi).natAbs<2 ^ E+1:=by
 have d:(Qc hi).natAbs<2 ^ E+1:=by
  cases e:hi with
  |none=>simp[Qc]
  |some r=>
   obtain⟨a,b,_⟩:=f r e;show (if r.1<=0 then -((-r.1).fdiv r.2)-1 else 0).natAbs<2 ^ E+1;split
   .have:=B2 (-r.1) r.2 a;unfold Bn at b;rw[dB]at this;omega
   .simp
 unfold wb;cases e:lo with
 |none=>exact d
 |some p=>
  obtain⟨a,b,_⟩:=g p e;dsimp only;split
  .have:=B2 p.1 p.2 a;unfold Bn at b;omega
  .exact d
def rW neg o:kR neg (oT o) .non=.ok (.bl (if neg then o.isSome else o.isNone)):=by cases o<;>cases neg<;>rfl
def Ov(a:0<p.2/\Bn E p.1/\Bn E p.2)(d:E<=8000)(b:Bn (E+1) i):lM c [fr p,fr (i,1)]=.ok (.bl (decide (qv p<(i:Rat)))):=by have:=yY (c:=c) (r:=(i,1)) a.1 (by decide:(0:Int)<1) (a.2.1.ok (show Bn 1 1 by unfold Bn;decide) (by omega) (by omega)) (b.ok a.2.2 (by omega) (by omega));rw[HK]at this;exact this
def Qu(a:0<p.2/\Bn E p.1/\Bn E p.2)(d:E<=8000)(b:Bn (E+1) i):lM c [fr (i,1),fr p]=.ok (.bl (decide ((i:Rat)<qv p))):=by have:=yY (c:=c) (p:=(i,1)) (by decide:(0:Int)<1) a.1 (b.ok a.2.2 (by omega) (by omega)) (a.2.1.ok (show Bn 1 1 by unfold Bn;decide) (by omega) (by omega));rw[HK]at this;exact this
def tJ(h:fc ρ=.ok false):mZ fc fd ρ=.ok false:=by simp only[L3.mZ,h,M.bind_ok];rfl
def kQ(h:fc ρ=.ok true)(a:fd ρ=.ok b):mZ fc fd ρ=.ok b:=by simp only[L3.mZ,h,a,M.bind_ok];rfl
def Kz(h:fc ρ=.ok b):oj fc ρ=.ok (!b):=by simp only[L3.oj,h,M.bind_ok]
def Lc(a:0<p.2/\Bn E p.1/\Bn E p.2)(b:E<=8000):l5 c [fr p]=.ok (.int (p.1.fdiv p.2)):=by have:=a.1;exact iI rfl (ig (gL (gL rfl rfl (oY p)) (gL rfl rfl (nB p)) (lC (by omega) (a.2.2.noPy b))))
def VC(a:0<p.2/\Bn E p.1/\Bn E p.2)(b:E<=8000):lq c [fr p]=.ok (.int (-((-p.1).fdiv p.2))):=by have:=a.1;exact iI rfl (ig (pS (gL (pS (gL rfl rfl (oY p))) (gL rfl rfl (nB p)) (lC (by omega) (a.2.2.noPy b)))))
def qI E (m:E<=8000) b a (s:Oe E b) (v:Oe E a):kq c [oT b,oT a]=.ok (J8 b a):=by
 have hw:=Rv s v;have x:Bn (E+1) (wb b a):=by unfold Bn;have:=dJ E;rw[dz];omega
 let R (w:Option W):En:=[some (.p (oT b)),some (.p (oT a)),w];have A:setO 2 (jr ac) (R none)=.nx (R (some (.p (.int 0)))):=gU rfl rfl;have j:mh (mZ dm (iR (gR Rn dk ac))) (setO 2 (jr (gR jI (gS bf (l5 c)) ab))) (mh di (setO 2 (jr (gR uS (gS bc (lq c)) ab))) iT) (R (some (.p (.int 0))))=.nx (R (some (.p (.int (wb b a))))):=by
  have k:∀o,(o=Qc a)->(mh di (setO 2 (jr (gR uS (gS bc (lq c)) ab))) iT) (R (some (.p (.int 0))))=.nx (R (some (.p (.int o)))):=λo f=>by
   cases e:a with
   |none=>rw[e,Qc]at f;subst f;exact iS (tJ (gX (gL rfl rfl (by show kR true (oT a) .non=_;rw[rW,e];rfl)))) rfl
   |some r=>
    rw[e,Qc]at f;have d:kR true (oT a) .non=.ok (.bl true):=by rw[rW,e];rfl
    have QA:ja (oT a) (.int 0)=.ok (.int r.1):=by rw[e];rfl
    by_cases hr:r.1<=0
    .rw[aQ hr]at f;subst f;exact jf (kQ (gX (gL rfl rfl d)) (gX (gL (gL rfl rfl QA) rfl (by rw[CB];simp[hr])))) (gU (gL (pX rfl (by rw[e];exact VC (v r e) m)) rfl (nr _ _)) rfl)
    .rw[aR hr]at f;subst f;exact iS (kQ (gX (gL rfl rfl d)) (gX (gL (gL rfl rfl QA) rfl (by rw[CB];simp[hr])))) rfl
  cases e:b with
  |none=>exact iS (tJ (gX (gL rfl rfl (by show kR true (oT b) .non=_;rw[rW,e];rfl)))) (k _ rfl)
  |some p=>
   have d:kR true (oT b) .non=.ok (.bl true):=by rw[rW,e];rfl
   have QA:ja (oT b) (.int 0)=.ok (.int p.1):=by rw[e];rfl
   by_cases n:0<=p.1
   .refine jf (kQ (gX (gL rfl rfl d)) (gX (gL (gL rfl rfl QA) rfl (by rw[yw];simp[n])))) (gU (gL (pX rfl (by rw[e];exact Lc (s p e) m)) rfl (jH _ _)) ?_);simp[wb,n,R]
   .exact iS (kQ (gX (gL rfl rfl d)) (gX (gL (gL rfl rfl QA) rfl (by rw[yw];simp[n])))) (k _ (by simp[wb,n]))
 have testlo:mZ dm (oj (iR (gS (gF ah (gF (jM (gF bd da)) gJ)) (lM c)))) (vw (R (some (.p (.int (wb b a))))))=.ok (!decide (qK b (wb b a:Rat))):=by
  cases e:b with
  |none=>have:qK none (wb none a:Rat):=λ_ z=>nomatch z;rw[<-e,aC (by rw[e];exact this)];exact tJ (gX (gL rfl rfl (by show kR true (oT b) .non=_;rw[rW,e];rfl)))
  |some p=>
   have d:kR true (oT b) .non=.ok (.bl true):=by rw[rW,e];rfl
   rw[<-e];refine kQ (gX (gL rfl rfl d)) (Kz (gX (iY rfl (pZ rfl rfl) ?_)));have q:=Ov (c:=c) (s p e) m x;have u:decide (qK b (wb b a:Rat))=decide (qv p<(wb b a:Rat)):=by
    by_cases z:qv p<(wb b a:Rat)
    .rw[aC z,aC];intro r g;rw[e]at g;cases g;exact z
    .rw[aB z,aB];exact λy=>z (y p e)
   rw[u];rw[show oT b=fr p by rw[e];rfl];exact q
 have testhi:mZ (iR (gR (kR true) al bw)) (oj (iR (gS (gF (jM (gF bd da)) bc) (lM c)))) (vw (R (some (.p (.int (wb b a))))))=.ok (!decide (qP a (wb b a:Rat))):=by
  cases e:a with
  |none=>have:qP none (wb b none:Rat):=λ_ z=>nomatch z;rw[<-e,aC (by rw[e];exact this)];exact tJ (gX (gL rfl rfl (by show kR true (oT a) .non=_;rw[rW,e];rfl)))
  |some p=>
   have d:kR true (oT a) .non=.ok (.bl true):=by rw[rW,e];rfl
   rw[<-e];refine kQ (gX (gL rfl rfl d)) (Kz (gX (iY (y:=oT a) (pZ rfl rfl) rfl ?_)));have q:=Qu (c:=c) (i:=wb b a) (v p e) m x;have u:decide (qP a (wb b a:Rat))=decide ((wb b a:Rat)<qv p):=by
    by_cases z:(wb b a:Rat)<qv p
    .rw[aC z,aC];intro r g;rw[e]at g;cases g;exact z
    .rw[aB z,aB];exact λy=>z (y p e)
   rw[u];rw[show oT a=fr p by rw[e];rfl];exact q
 refine iI rfl (gM A (gM j ?_));unfold J8;by_cases l:qK b (wb b a:Rat)
 .rw[aC l]at testlo;refine gM (iS testlo rfl) ?_;by_cases h:qP a (wb b a:Rat)
  .rw[aC h]at testhi;rw[aQ ⟨l,h⟩];exact gM (iS testhi rfl) (ig rfl)
  .rw[aB h]at testhi;rw[aR (λz=>h z.2)];exact lS (jf testhi (ig rfl)) rfl
 .rw[aB l]at testlo;rw[aR (λz=>l z.1)];exact lS (jf testlo (ig rfl)) rfl
def pA:0<((i,1):Int×Int).2:=by show 0<1;decide
noncomputable def rb(fs:LI)(x:Int×Int):Int×Int:=fs.foldr (λf x=>(f*x.1+x.2,x.1)) x
structure VW(lo hi:Option (Int×Int))(f:Int)(lo1 hi1:Option (Int×Int)):Prop where
 ex:∃p r:Int×Int,lo=some p/\hi=some r/\f=p.1.fdiv p.2/\lo1=some (r.2,r.1-f*r.2)/\hi1=(if p.1-f*p.2=0 then none else some (p.2,p.1-f*p.2))/\0<p.2/\0<r.2/\p.1*r.2<r.1*p.2/\r.1<=(f+1)*r.2
inductive AV:Option (Int×Int)->Option (Int×Int)->LI->Option (Int×Int)->Option (Int×Int)->Prop
 |nil {lo hi:Option (Int×Int)}:AV lo hi [] lo hi
 |cons {lo hi lo1 hi1 lo2 hi2:Option (Int×Int)} {f:Int} {fs:LI}:VW lo hi f lo1 hi1->AV lo1 hi1 fs lo2 hi2->AV lo hi (f::fs) lo2 hi2
def AV.snoc(h:AV lo hi fs lo1 hi1)(s:VW lo1 hi1 f lo2 hi2):AV lo hi (fs++[f]) lo2 hi2:=by
 induction h with
 |nil=>exact .cons s .nil
 |cons s' _ ih=>exact .cons s' (ih s)
structure Gd(lo hi:Option (Int×Int))(x:Int×Int):Prop where
 lo:qK lo (qv x)
 hi:qP hi (qv x)
 pos:0<x.2
 one:Cu.G x.1 x.2=1
noncomputable def tp:Option (Int×Int)->Int
 |some p=>p.1
 |none=>1
noncomputable def bt:Option (Int×Int)->Int
 |some p=>p.2
 |none=>0
def Ob f a b:Cu.G (f*a+b) a=Cu.G b a:=by
 have h:=Cu.Dh (f*a+b) a;have d:=Cu.Dh b a;have e:(f*a+b).fmod a=b.fmod a:=by rw[Int.add_comm];have:=Int.add_mul_fmod_self_right b f a;exact this
 rw[<-h,e,d]
def Sa a b:Cu.G a b=Cu.G b a:=by unfold Cu.G;rw[c6]
def HE(s:VW lo hi f lo1 hi1)(h:Gd lo1 hi1 x)(g:0<x.1):Gd lo hi (f*x.1+x.2,x.1):=by
 obtain⟨p,r,rfl,rfl,k,rfl,rfl,b,hr,y,m⟩:=s.ex;obtain⟨n,l,i,q⟩:=h;obtain⟨a,j⟩:=uz p.1 p.2 b;rw[<-k]at a j;have d:0<r.1-f*r.2:=by
  have F:=aJ a (aA hr);have u:f*r.2*p.2<r.1*p.2:=by
   have:f*r.2*p.2=f*p.2*r.2:=by grind
   lia
  have:=eY u (aA b);lia
 have A:=(Hy d i).mp (n _ rfl);refine⟨λE e=>?_,λC e=>?_,g,?_⟩
 .cases e;rw[Hy b g];by_cases z:p.1-f*p.2=0
  .have:p.1=f*p.2:=by lia
   rw[this];have:=aX i b;have w:(f*x.1+x.2)*p.2=f*p.2*x.1+x.2*p.2:=by grind
   lia
  .have v:=l (p.2,p.1-f*p.2) (by rw[aR z]);have o:0<p.1-f*p.2:=by lia
   have D:=(Hy i o).mp v;have w:(f*x.1+x.2)*p.2=f*x.1*p.2+p.2*x.2:=by grind
   have B:x.1*(p.1-f*p.2)=p.1*x.1-f*x.1*p.2:=by grind
   lia
 .cases e;rw[Hy g hr];lia
 .rw[Ob,Sa];exact q
theorem MU(e:b=some p)(i:0<p.2)(o:0<p.1)(hr:∀r,a=some r->0<r.2)(k:qK b (wb b a:Rat))(g:qP a (wb b a:Rat)) :
  Gd b a (wb b a,1)/\0<wb b a/\wb b a<=tp b+tp a/\1<=bt b+bt a:=by
 have j:wb b a=p.1.fdiv p.2+1:=by unfold wb;rw[e];simp;lia
 have l:0<=p.1.fdiv p.2:=eW (by lia) (by lia);have m:=B2 p.1 p.2 i;refine⟨⟨by rw[HK];exact k,by rw[HK];exact g,pA,LQ _⟩,by lia,?_,?_⟩
 .cases d:a with
  |none=>rw[d]at j;rw[e];show wb (some p) none<=p.1+1;rw[<-e];lia
  |some r=>have h:=hr r d;have f:=g r d;rw[<-HK,Hy pA h]at f;dsimp only at f;rw[<-d,e];rw[d];show wb (some p) (some r)<=p.1+r.1;rw[<-e,<-d];have n:wb b a*1<=wb b a*r.2:=dM (by lia) (by lia);lia
 .rw[e];show 1<=p.2+bt a;have:0<=bt a:=by
   cases d:a with
   |none=>exact eD _
   |some r=>have:=hr r d;show 0<=r.2;lia
  lia
theorem DL(h:AV k i fs b a):∀p,k=some p->0<p.2->0<p.1->(∀r,i=some r->0<r.2)->(∀r,a=some r->0<r.2)->qK b (wb b a:Rat)->qP a (wb b a:Rat)->
  Gd k i (rb fs (wb b a,1))/\0<(rb fs (wb b a,1)).1/\(rb fs (wb b a,1)).1<=tp k+tp i/\(rb fs (wb b a,1)).2<=bt k+bt i:=by
 induction h with
 |nil=>intro p e o J hr _ v q;exact MU e o J hr v q
 |cons s _ ih=>
  rename_i k i g d b a f fs _;intro p e o J hr y v q;obtain⟨p',r,E,F,B,n,m,R,D,Z,U⟩:=s.ex;rw[e]at E;cases E;obtain⟨j,x⟩:=uz p.1 p.2 o;rw[<-B]at j x;have C:0<=f:=by rw[B];exact eW (by lia) (by lia)
  have w:0<r.1-f*r.2:=by
   have Y:=aJ j (aA D);have K:f*r.2*p.2<r.1*p.2:=by
    have:f*r.2*p.2=f*p.2*r.2:=by grind
    lia
   have:=eY K (aA o);lia
  have u:∀A,d=some A->0<A.2:=λA l=>by
   rw[m]at l;split at l
   .cases l
   .cases l;dsimp only;lia
  obtain⟨I,H,X,Q⟩:=ih (r.2,r.1-f*r.2) n w D u y v q;refine⟨HE s I H,?_,?_,?_⟩
  .show 0<f*(rb fs (wb b a,1)).1+(rb fs (wb b a,1)).2;have:=I.pos;have:=aP C (aA H);lia
  .show f*(rb fs (wb b a,1)).1+(rb fs (wb b a,1)).2<=_;rw[e,F];show _<=p.1+r.1;have L:tp g+tp d<=r.2+p.2:=by
    rw[n,m];split
    .show r.2+1<=_;lia
    .exact eD _
   have N:bt g+bt d=(r.1-f*r.2)+(p.1-f*p.2):=by
    rw[n,m];split
    .rename_i z;rw[z];rfl
    .rfl
   have S:f*(rb fs (wb b a,1)).1<=f*(r.2+p.2):=dM (by lia) C;have P:f*(r.2+p.2)=f*r.2+f*p.2:=dW _ _ _;lia
  .show (rb fs (wb b a,1)).1<=_;rw[e,F];show _<=p.2+r.2;have L:tp g+tp d<=r.2+p.2:=by
    rw[n,m];split
    .show r.2+1<=_;lia
    .exact eD _
   lia
theorem K3(h:∀p,f=some p->0<p.2)(i:∀r,d=some r->0<r.2)(n:∀p r,f=some p->d=some r->qv p<qv r)(k:¬(qK f (wb f d:Rat)/\qP d (wb f d:Rat))) :
  ∃p r,f=some p/\d=some r/\p.1*r.2<r.1*p.2/\r.1<=(p.1.fdiv p.2+1)*r.2:=by
 have up:∀p:Int×Int,f=some p->qv p<((p.1.fdiv p.2+1:Int):Rat):=λp e=>by rw[<-HK,Hy (h p e) pA];have:=(uz p.1 p.2 (h p e)).2;dsimp only;lia
 have u:∀r:Int×Int,d=some r->((-((-r.1).fdiv r.2)-1:Int):Rat)<qv r:=λr e=>by
  rw[<-HK,Hy pA (i r e)];have:=(uz (-r.1) r.2 (i r e)).2;have w:(-((-r.1).fdiv r.2)-1)*r.2 = -(((-r.1).fdiv r.2+1)*r.2):=by grind
  lia
 have j:∀p:Int×Int,f=some p->p.1<0->qv p<((0:Int):Rat):=λp e z=>by rw[<-HK,Hy (h p e) pA];dsimp only;lia
 have l:∀r:Int×Int,d=some r->0<r.1->((0:Int):Rat)<qv r:=λr e z=>by rw[<-HK,Hy pA (i r e)];dsimp only;lia
 cases a:f with
 |none=>
  exfalso;refine k ⟨λp e=>(by rw[a]at e;cases e),λr e=>?_⟩;have g:wb f d=if r.1<=0 then -((-r.1).fdiv r.2)-1 else 0:=by unfold wb;rw[a,e];rfl
  rw[g];split
  .exact u r e
  .exact l r e (by lia)
 |some p=>
  cases b:d with
  |none=>
   exfalso;refine k ⟨λq e=>?_,λr e=>(by rw[b]at e;cases e)⟩;rw[a]at e;cases e;have g:wb f d=if 0<=p.1 then p.1.fdiv p.2+1 else 0:=by unfold wb;rw[a,b];rfl
   rw[g];split
   .exact up p a
   .exact j p a (by lia)
  |some r=>
   have lt:=(Hy (h p a) (i r b)).mp (n p r a b);refine⟨p,r,rfl,rfl,lt,?_⟩;by_cases o:0<=p.1
   .have g:wb f d=p.1.fdiv p.2+1:=by unfold wb;rw[a];simp[o]
    refine eX.mp λz=>k ⟨λq e=>?_,λs e=>?_⟩
    .rw[a]at e;cases e;rw[g];exact up p a
    .rw[b]at e;cases e;rw[g,<-HK,Hy pA (i r b)];dsimp only;lia
   .by_cases hr:r.1<=0
    .have g:wb f d = -((-r.1).fdiv r.2)-1:=by unfold wb;rw[a,b];simp[o,Qc,hr]
     refine eX.mp λz=>k ⟨λq e=>?_,λs e=>?_⟩
     .rw[a]at e;cases e;rw[g,<-HK,Hy (h p a) pA];dsimp only;have x:=(uz (-r.1) r.2 (i r b)).1;have A:=(uz p.1 p.2 (h p a)).2;have m:=i r b;have w:-((-r.1).fdiv r.2)*r.2 = -((-r.1).fdiv r.2*r.2):=by grind
      have v:(p.1.fdiv p.2+1)*r.2 < -((-r.1).fdiv r.2)*r.2:=by lia
      have y:=eY v (aA m);have B:(p.1.fdiv p.2+1)*p.2<=(-((-r.1).fdiv r.2)-1)*p.2:=aJ (by lia) (aA (h p a));lia
     .rw[b]at e;cases e;rw[g];exact u r b
    .have g:wb f d=0:=by unfold wb;rw[a,b];simp[o,Qc,hr]
     exfalso;refine k ⟨λq e=>?_,λs e=>?_⟩
     .rw[a]at e;cases e;rw[g];exact j p a (by lia)
     .rw[b]at e;cases e;rw[g];exact l r b (by lia)
noncomputable def Ur:En->Nat:=λd=>match d with|some (.p (.tup [_,.int a]))::some (.p (.tup [_,.int b]))::_=>a.natAbs+b.natAbs+2|_=>1
noncomputable def Fj:En->Nat:=λd=>match d with|some (.p (.tup [_,.int a]))::some (.p (.tup [_,.int b]))::_::some (.p .non)::_=>a.natAbs+b.natAbs+1|_=>0
def yf(b a:Option (Int×Int))(fs:LI)(e f d:Option W):En:=[some (.p (oT b)),some (.p (oT a)),some (.o (fs.map T.int)),some (.p (J8 b a)),e,f,d,none]
structure Q5(E:Nat)(lo hi:Option (Int×Int))(fs:LI)(lo' hi':Option (Int×Int)):Prop where
 path:AV lo hi fs lo' hi'
 l:Oe E lo'
 h:Oe E hi'
 lt:∀p r,lo'=some p->hi'=some r->qv p<qv r
 fb:∀f∈fs,Bn E f
 few:fs≠[]->∃p,lo'=some p/\p.2<=p.1/\∀r,hi'=some r->0<r.1/\4 ^ (fs.length-1)*(p.1*p.2*(r.1*r.2))<=2 ^ (4*E)
def rR(h:Bn E x):x<2 ^ E/\-(2 ^ E)<x:=by
 unfold Bn at h;have:((2 ^ E):Int)=2 ^ E:=by simp
 lia
def uv(b:x<2 ^ E)(a:-(2 ^ E)<x):Bn E x:=by
 unfold Bn;have:((2 ^ E):Int)=2 ^ E:=by simp
 lia
theorem LG(h:Q5 E lo hi fs a b)(Z:¬(qK a (wb a b:Rat)/\qP b (wb a b:Rat))) :
  ∃p r f,p.1.fdiv p.2=f/\a=some p/\b=some r/\fs.length<=2*E+1/\0<p.2/\0<r.2/\0<r.1-f*r.2/\r.1-f*r.2<=r.2/\0<=p.1-f*p.2/\p.1-f*p.2<p.2/\Bn E (f)/\
   Q5 E lo hi (fs++[f]) (some (r.2,r.1-f*r.2)) (if p.1-f*p.2=0 then none else some (p.2,p.1-f*p.2)):=by
 obtain⟨p,r,s,u,lt,le⟩:=K3 (λp e=>(h.l p e).1) (λr e=>(h.h r e).1) h.lt Z;obtain⟨d,x,o⟩:=h.l p s;obtain⟨v,R,n⟩:=h.h r u;obtain⟨y,fl2⟩:=uz p.1 p.2 d;have J:=cg (B2 p.1 p.2 d) x;generalize D:p.1.fdiv p.2=f at *;have g4:(f+1)*r.2=f*r.2+r.2:=by grind
 have g5:(f+1)*p.2=f*p.2+p.2:=by grind
 have i:0<r.1-f*r.2:=by
  have a1:=aJ y (aA v);have a2:f*r.2*p.2<r.1*p.2:=by
   have:f*r.2*p.2=f*p.2*r.2:=by grind
   lia
  have:=eY a2 (aA d);lia
 have st:VW a b f (some (r.2,r.1-f*r.2)) (if p.1-f*p.2=0 then none else some (p.2,p.1-f*p.2)):=⟨p,r,s,u,D.symm,rfl,rfl,d,v,lt,le⟩;have rlt:=(rR n).1;have Y:=(rR o).1;have w:fs.length<=2*E+1:=by
  by_cases k:fs=[]
  .subst k;simp
  .obtain⟨C,m,q2,B⟩:=h.few k;rw[s]at m;cases m;obtain⟨H,A⟩:=B r u;have m1:1<=p.1*p.2:=by have:=aX (show 0<p.1 by lia) d;lia
   have m2:1<=r.1*r.2:=by have:=aX H v;lia
   have m3:1<=p.1*p.2*(r.1*r.2):=by have:=aX (show 0<p.1*p.2 by lia) (show 0<r.1*r.2 by lia);lia
   have m4:=eF (dM m3 (aA (eZ (by decide)))) A;have F:(4:Nat) ^ (fs.length-1)<=2 ^ (4*E):=by
    have:(((4:Nat) ^ (fs.length-1):Nat):Int)<=((2 ^ (4*E):Nat):Int):=by push_cast;lia
    exact Int.ofNat_le.mp this
   rw[show (4:Nat)=2 ^ 2 by decide,<-Nat.pow_mul]at F;have m6:=(Nat.pow_le_pow_iff_right (show 1<2 by decide)).mp F;lia
 refine⟨p,r,f,D,s,u,w,d,v,i,by lia,by lia,by lia,J,h.path.snoc st,λC e=>?_,λK e=>?_,λC K e j=>?_,λg q=>?_,λ_=>⟨_,rfl,?_,λK j=>?_⟩⟩
 .cases e;exact⟨i,n,uv (by dsimp only;lia) (by dsimp only;lia)⟩
 .split at e
  .cases e
  .cases e;exact⟨by dsimp only;omega,o,uv (by dsimp only;omega) (by dsimp only;omega)⟩
 .cases e;split at j
  .cases j
  .cases j;rw[Hy i (by dsimp only;omega)];dsimp only;have x1:r.2*(p.1-f*p.2)=p.1*r.2-f*r.2*p.2:=by grind
   have x2:p.2*(r.1-f*r.2)=r.1*p.2-f*r.2*p.2:=by grind
   lia
 .rcases ai.mp q with q|q
  .exact h.fb g q
  .rw[aj.mp q];exact J
 .dsimp only;lia
 .split at j
  .cases j
  .rename_i hR;cases j;refine⟨d,?_⟩;dsimp only;rw[aT,b5,Nat.add_sub_cancel];by_cases k:fs=[]
   .subst k;simp only[cF,Int.pow_zero,dQ];have E2:(2:Int) ^ (4*E)=2 ^ E*2 ^ E*(2 ^ E*2 ^ E):=by rw[show 4*E=E+E+(E+E) by lia,Int.pow_add,Int.pow_add]
    rw[E2];have P0:(0:Int)<=2 ^ E:=aA (eZ (by decide));have y1:r.2*(r.1-f*r.2)<=2 ^ E*2 ^ E:=fg (by lia) (by lia) (by lia) P0;have S:p.2*(p.1-f*p.2)<=2 ^ E*2 ^ E:=fg (by lia) (by lia) (by lia) P0;exact fg y1 S (aP (by lia) (by lia)) (aP P0 P0)
   .obtain⟨C,m,q2,B⟩:=h.few k;rw[s]at m;cases m;obtain⟨H,A⟩:=B r u;have I:1<=f:=by
     refine eX.mp λz=>?_;have:f+1<=1:=by lia
     have:=aJ this (aA d);lia
    have z1:p.2<=f*p.2:=by have:=aJ I (aA d);lia
    have z2:r.2<=f*r.2:=by have:=aJ I (aA v);lia
    have X:r.2*(2*(r.1-f*r.2))<=r.2*r.1:=dM (by lia) (by lia);have Q:p.2*(2*(p.1-f*p.2))<=p.2*p.1:=dM (by lia) (by lia);have w3:=fg X Q (aP (by lia) (by lia)) (aP (by lia) (by lia));have U:fs.length=fs.length-1+1:=by
     cases fs with
     |nil=>exact absurd rfl k
     |cons _ _=>simp
    rw[U,fj];refine eF ?_ A;have N:(0:Int)<=4 ^ (fs.length-1):=aA (eZ (by decide));have P:r.2*(r.1-f*r.2)*(p.2*(p.1-f*p.2))*4=r.2*(2*(r.1-f*r.2))*(p.2*(2*(p.1-f*p.2))):=by grind
    have L:r.2*r.1*(p.2*p.1)=p.1*p.2*(r.1*r.2):=by grind
    rw[cU,cV 4];refine dM ?_ N;rw[P,<-L];exact w3
def yd(h:¬(qK b (wb b a:Rat)/\qP a (wb b a:Rat))):J8 b a=.non:=aR h
def yr(h:qK b (wb b a:Rat)/\qP a (wb b a:Rat)):J8 b a=.int (wb b a):=aQ h
def QI E (L:E<=7000) lo hi:∀ρ,(∃b d fs j i e,ρ=yf b d fs j i e/\Q5 E lo hi fs b d)->
  (iR gg (vw ρ)=.ok false/\∃b d fs j i e,ρ=yf b d fs j i e/\Q5 E lo hi fs b d/\qK b (wb b d:Rat)/\qP d (wb b d:Rat))\/
  (iR gg (vw ρ)=.ok true/\∃g,(nA c ρ=.nx g\/nA c ρ=.ct g)/\(∃b d fs j i e,g=yf b d fs j i e/\Q5 E lo hi fs b d)/\Fj g<Fj ρ):=by
 rintro ρ ⟨b,d,fs,j,i,e,rfl,h⟩;by_cases q:qK b (wb b d:Rat)/\qP d (wb b d:Rat)
 .left;refine⟨gX (gL rfl rfl ?_),b,d,fs,j,i,e,rfl,h,q⟩;show kR false (J8 b d) .non=_;rw[yr q];rfl
 .right;have sz:20000<sizeLine:=by decide
  refine⟨gX (gL rfl rfl (by show kR false (J8 b d) .non=_;rw[yd q];rfl)),?_⟩;obtain⟨p,r,f,z,x,y,F,H,R,P,N,K,Q,w,u⟩:=LG h q;obtain⟨_,v,n⟩:=h.l p x;obtain⟨_,B,s⟩:=h.h r y;subst x y;have A:=yd q;let a:Option (Int×Int):=if p.1-f*p.2=0 then none else some (p.2,p.1-f*p.2)
  have I:NT (iR (gR (iA false) bi ac)) bw (jM (gF dl ib)) (mD [some (.p (fr p)),some (.p (fr r)),some (.o ((fs++[f]).map T.int)),some (.p (J8 (some p) (some r))),some (.p (.int f)),some (.p (.int (p.1-f*p.2))),e,none])=.ok (oT a):=by
   by_cases m:p.1-f*p.2=0
   .have:a=none:=aQ m;rw[this,m];rfl
   .have:a=some (p.2,p.1-f*p.2):=aR m;rw[this];have J:iR (gR (iA false) bi ac) (mD [some (.p (fr p)),some (.p (fr r)),some (.o ((fs++[f]).map T.int)),some (.p (J8 (some p) (some r))),some (.p (.int f)),some (.p (.int (p.1-f*p.2))),e,none])=.ok false:=gX (gL rfl rfl (by rw[jK];simp[m]));show (iR _ _).bind _=_;rw[J];show jM (gF dl ib) (mD [some (.p (fr p)),some (.p (fr r)),some (.o ((fs++[f]).map T.int)),some (.p (J8 (some p) (some r))),some (.p (.int f)),some (.p (.int (p.1-f*p.2))),e,none])=_;exact pZ (gL rfl rfl (nB p)) rfl
  have D:=qI (c:=c) E (by lia) (some (r.2,r.1-f*r.2)) a u.l u.h;refine⟨yf (some (r.2,r.1-f*r.2)) a (fs++[f]) (some (.p (.int f))) (some (.p (.int (p.1-f*p.2)))) (some (.p (oT a))),.inl ?_,⟨_,_,_,_,_,_,rfl,u⟩,?_⟩
  .refine gM (gU (t:=.int f) (pX rfl (by rw[<-z];exact Lc ⟨H,v,n⟩ (by lia))) rfl) ?_;refine gM (wO (us:=fs.map T.int) rfl (t:=.int f) rfl (by simp;lia) rfl) ?_;refine gM (gU (t:=.int (p.1-f*p.2)) (gL (gL rfl rfl (oY p)) (gL rfl (gL rfl rfl (nB p)) (iE (w.ok n (by lia) (by lia)))) (nr _ _)) rfl) ?_;refine gM (gU (t:=oT a) ?_ rfl) ?_
   .have:=I;rw[aZ]at this;exact this
   refine gM (gU (t:=fr (r.2,r.1-f*r.2)) (pZ (gL rfl rfl (nB r)) (gL (gL rfl rfl (oY r)) (gL rfl (gL rfl rfl (nB r)) (iE (w.ok s (by lia) (by lia)))) (nr _ _))) rfl) ?_;refine gM (gU (t:=oT a) rfl rfl) ?_;refine gU (iY rfl rfl D) ?_;unfold yf;rw[aZ];rfl
  .have C:Fj (yf (some p) (some r) fs j i e)=p.2.natAbs+r.2.natAbs+1:=by unfold yf Fj;rw[A];rfl
   rw[C];by_cases hw:qK (some (r.2,r.1-f*r.2)) (wb (some (r.2,r.1-f*r.2)) a:Rat)/\qP a (wb (some (r.2,r.1-f*r.2)) a:Rat)
   .have:Fj (yf (some (r.2,r.1-f*r.2)) a (fs++[f]) (some (.p (.int f))) (some (.p (.int (p.1-f*p.2)))) (some (.p (oT a))))=0:=by unfold yf Fj;rw[yr hw];cases a<;>rfl
    rw[this];lia
   .by_cases m:p.1-f*p.2=0
    .have:a=none:=aQ m;have k:Fj (yf (some (r.2,r.1-f*r.2)) a (fs++[f]) (some (.p (.int f))) (some (.p (.int (p.1-f*p.2)))) (some (.p (oT a))))=0:=by unfold yf Fj;rw[this];rfl
     rw[k];lia
    .have:a=some (p.2,p.1-f*p.2):=aR m;have k:Fj (yf (some (r.2,r.1-f*r.2)) a (fs++[f]) (some (.p (.int f))) (some (.p (.int (p.1-f*p.2)))) (some (.p (oT a))))=(r.1-f*r.2).natAbs+(p.1-f*p.2).natAbs+1:=by unfold yf Fj;rw[yd hw,this];rfl
     rw[k];lia
theorem Bw(h:AV lo hi fs b a) p (e:lo=some p) (s:0<p.2) (u:0<p.1) (j:Oe E lo) (d:Oe E hi) (i:Oe E a) (l:qK b (wb b a:Rat)) (o:qP a (wb b a:Rat)) :
  Gd lo hi (rb fs (wb b a,1))/\0<(rb fs (wb b a,1)).1/\Bn (E+1) (rb fs (wb b a,1)).1/\Bn (E+1) (rb fs (wb b a,1)).2:=by
 obtain⟨g,v,z,w⟩:=DL h p e s u (λr f=>(d r f).1) (λr f=>(i r f).1) l o;have P:(2:Int) ^ (E+1)=2*2 ^ E:=by rw[fj,cV]
 have q:(1:Int)<=2 ^ E:=by have:=eZ (n:=2) (m:=E) (by decide);lia
 have B:=rR (j p e).2.1;have D:=rR (j p e).2.2;have F:tp lo=p.1:=by rw[e];rfl
 have A:bt lo=p.2:=by rw[e];rfl
 have C:tp hi<=2 ^ E/\bt hi<=2 ^ E:=by
  cases k:hi with
  |none=>exact⟨q,by show (0:Int)<=_;lia⟩
  |some r=>have x:=rR (d r k).2.1;have y:=rR (d r k).2.2;exact⟨by show r.1<=_;lia,by show r.2<=_;lia⟩
 have H:=g.pos;exact⟨g,v,uv (by lia) (by lia),uv (by lia) (by lia)⟩
noncomputable def U0(z:Int×Int)(f:Int):Int×Int:=(f*z.1+z.2,z.1)
theorem Dx E (h:E<=7000) x0 x1 x2 x3 x5 x6:∀(a:LI) (z:Int×Int) (b:Option W),(∀f∈a,Bn E f)->(∀k,k<=a.length->Bn (2*E+10) ((a.take k).foldl U0 z).1)->
  ∃d,j3 (j6 4) (nF c) (a.map T.int) [x0,x1,x2,x3,b,x5,x6,some (.p (fr z))]=.nx [x0,x1,x2,x3,d,x5,x6,some (.p (fr (a.foldl U0 z)))]
 |[],z,b,_,_=>⟨b,rfl⟩
 |f::a,z,b,hf,hb=>by
  have l:=hf f (by simp);have o:Bn (2*E+10) z.1:=by simpa using hb 0 (bL _)
  obtain⟨d,e⟩:=Dx E h x0 x1 x2 x3 x5 x6 a (U0 z f) (some (.p (.int f))) (λg i=>hf g (by simp[i])) (λk n=>by simpa using hb (k+1) (by simpa using n));refine⟨d,?_⟩;have j:nF c [x0,x1,x2,x3,some (.p (.int f)),x5,x6,some (.p (fr z))]=.nx [x0,x1,x2,x3,some (.p (.int f)),x5,x6,some (.p (fr (U0 z f)))]:=gU (pZ (gL (gL rfl (gL rfl rfl (oY z)) (iE (l.ok o (by lia) (by lia)))) (gL rfl rfl (nB z)) (jH _ _)) (gL rfl rfl (oY z))) rfl
  rw[bI,j3];have m:j6 4 (.int f) [x0,x1,x2,x3,b,x5,x6,some (.p (fr z))]=some [x0,x1,x2,x3,some (.p (.int f)),x5,x6,some (.p (fr z))]:=rfl;rw[m];dsimp only;rw[j];exact e
def DI fs y:fs.reverse.foldl U0 y=rb fs y:=by rw[List.foldl_reverse];rfl
def Og E (h:E<=7000) x0 x1 x2 x3 x5 x6 fs y x4 (g:∀f∈fs,Bn E f) (i:∀k,k<=fs.length->Bn (2*E+10) (rb (fs.drop k) y).1) :
  ∃b,j3 (j6 4) (nF c) (fs.reverse.map T.int) [x0,x1,x2,x3,x4,x5,x6,some (.p (fr y))]=.nx [x0,x1,x2,x3,b,x5,x6,some (.p (fr (rb fs y)))]:=by
 obtain⟨b,e⟩:=Dx E h x0 x1 x2 x3 x5 x6 fs.reverse y x4 (λf a=>g f (by simpa using a)) (λk j=>by
  have d:fs.reverse.take k=(fs.drop (fs.length-k)).reverse:=by rw[List.take_reverse]
  rw[d,DI];exact i _ (by lia))
 rw[DI]at e;exact⟨b,e⟩
def MB p r:iA false (fr p) (fr r)=.ok (.bl (decide (p=r))):=by
 have:=T3 false [p.1,p.2] [r.1,r.2];have e:decide ([p.1,p.2]=[r.1,r.2])=decide (p=r):=by
  by_cases h:p=r
  .rw[aC h,aC (by rw[h])]
  .rw[aB h,aB];intro z;simp at z;exact h (Prod.ext z.1 z.2)
 simp only[cj,if_false]at this;rw[e]at this;exact this
theorem yT E (hE:E<=7000) lo hi (U:Oe E lo) (h2:Oe E hi) (X:∀p r,lo=some p->hi=some r->qv p<qv r) :
  ∃x,kz c [oT lo,oT hi]=.ok (fr x)/\Gd lo hi x/\Bn (E+2) x.1/\Bn (E+1) x.2:=by
 have w0:=qI (c:=c) E (by lia) lo hi U h2;have i0:Q5 E lo hi [] lo hi:=⟨.nil,U,h2,X,λf hf=>(nomatch hf),λz=>absurd rfl z⟩;have fu:Fj (yf lo hi [] none none none)<Ur (yf lo hi [] none none none):=by
  cases el:lo with
  |none=>cases eh:hi<;>(unfold yf Fj Ur oT;simp)
  |some p=>
   cases eh:hi with
   |none=>unfold yf Fj Ur oT;simp[fr]
   |some r=>
    by_cases hw:qK (some p) (wb (some p) (some r):Rat)/\qP (some r) (wb (some p) (some r):Rat)
    .unfold yf Fj Ur oT;rw[yr hw];simp[fr]
    .unfold yf Fj Ur oT;rw[yd hw];simp[fr]
 obtain⟨ρ',e,b,a,fs,I,J,K,rfl,y,R,Y⟩:=oo (g:=nA c) (λρ=>∃b a fs I J K,ρ=yf b a fs I J K/\Q5 E lo hi fs b a) Fj
  (λρ=>∃b a fs I J K,ρ=yf b a fs I J K/\Q5 E lo hi fs b a/\qK b (wb b a:Rat)/\qP a (wb b a:Rat)) (QI E hE lo hi) (Ur (yf lo hi [] none none none)) (yf lo hi [] none none none) ⟨lo,hi,[],none,none,none,rfl,i0⟩ fu
 have wi:=yr ⟨R,Y⟩;have P:(2:Int) ^ (E+1)=2*2 ^ E:=by rw[fj,cV]
 have P1:(1:Int)<=2 ^ E:=by have:=eZ (n:=2) (m:=E) (by decide);lia
 have wB:Bn (E+1) (wb b a):=by have:=Rv y.l y.h;unfold Bn;have p0:=dJ E;rw[dz];lia
 have fin:Gd lo hi (rb fs (wb b a,1))/\Bn (E+2) (rb fs (wb b a,1)).1/\Bn (E+1) (rb fs (wb b a,1)).2/\∀k,k<=fs.length->Bn (2*E+10) (rb (fs.drop k) (wb b a,1)).1:=by
  have B:=y.path;have hfb:=y.fb;cases B with
  |nil=>exact⟨⟨by show qK lo (qv (wb lo hi,1));rw[HK];exact R,by show qP hi (qv (wb lo hi,1));rw[HK];exact Y,pA,LQ _⟩,wB.mono (by lia),by show Bn (E+1) 1;exact uv (by lia) (by lia),λk _=>by rw[List.drop_nil];exact wB.mono (by lia)⟩
  |cons s B=>
   rename_i d i f u;obtain⟨p,r,e1,e2,hf,H,e4,p2,r2,g3,g4⟩:=s.ex;obtain⟨Q,fl2⟩:=uz p.1 p.2 p2;rw[<-hf]at Q fl2;have q4:(f+1)*r.2=f*r.2+r.2:=by grind
   have q5:(f+1)*p.2=f*p.2+p.2:=by grind
   have w:0<r.1-f*r.2:=by
    have a1:=aJ Q (aA r2);have a2:f*r.2*p.2<r.1*p.2:=by
     have:f*r.2*p.2=f*p.2*r.2:=by grind
     lia
    have:=eY a2 (aA p2);lia
   have bp:=rR (U p e1).2.2;have br:=rR (h2 r e2).2.2;have F:Oe E d:=λo j=>by rw[H]at j;cases j;exact⟨w,(h2 r e2).2.2,uv (by dsimp only;lia) (by dsimp only;lia)⟩
   have D:Oe E i:=λq j=>by
    rw[e4]at j;split at j
    .cases j
    .cases j;exact⟨by dsimp only;lia,(U p e1).2.2,uv (by dsimp only;lia) (by dsimp only;lia)⟩
   obtain⟨g,a1,a2,a3⟩:=Bw B (r.2,r.1-f*r.2) H w r2 F D y.h R Y;have fB:=hfb f (by simp);have iP:Bn (E+2) (f*(rb u (wb b a,1)).1+(rb u (wb b a,1)).2):=by
    obtain⟨_,c1,c2,c3⟩:=DL B (r.2,r.1-f*r.2) H w r2 (λr er=>(D r er).1) (λr er=>(y.h r er).1) R Y;have t1:tp d+tp i<=r.2+p.2:=by
     rw[H,e4];split
     .show r.2+1<=_;lia
     .exact eD _
    have t2:bt d+bt i=(r.1-f*r.2)+(p.1-f*p.2):=by
     rw[H,e4];split
     .rename_i z;rw[z];rfl
     .rfl
    have gp:=g.pos;have cp:=rR (U p e1).2.1;have cr:=rR (h2 r e2).2.1;have m2:f*(r.2+p.2)=f*r.2+f*p.2:=dW _ _ _;have P2:(2:Int) ^ (E+2)=4*2 ^ E:=by rw[fj,P];lia
    generalize (2:Int) ^ E=pe at *;generalize (rb u (wb b a,1)).1=x1 at *;generalize (rb u (wb b a,1)).2=x2 at *;refine uv ?_ ?_<;>rw[P2]
    .by_cases f0:0<=f
     .have:=dM (show x1<=r.2+p.2 by lia) f0;lia
     .have:=aP (show 0<=-f by lia) (aA c1);have e:-f*x1 = -(f*x1):=by grind
      lia
    .by_cases f0:0<=f
     .have:=aP f0 (aA c1);lia
     .have:=dM (show x1<=r.2+p.2 by lia) (show 0<=-f by lia);have e:-f*x1 = -(f*x1):=by grind
      have j:-f*(r.2+p.2) = -(f*r.2)-f*p.2:=by grind
      lia
   refine⟨HE s g a1,iP,a2,λk hk=>?_⟩;have sm:∀(fs:LI) (d i:Option (Int×Int)),AV d i fs b a->(∃p,d=some p/\0<p.2/\0<p.1)->Oe E d->Oe E i->∀k,k<=fs.length->Bn (2*E+10) (rb (fs.drop k) (wb b a,1)).1:=by
    intro fs;induction fs with
    |nil=>intro _ _ _ _ _ _ k _;rw[List.drop_nil];exact wB.mono (by lia)
    |cons v fs2 ih=>
     rintro d i B ⟨p,e,c1,c2⟩ F D k hk;cases k with
     |zero=>obtain⟨_,_,b2,_⟩:=Bw B p e c1 c2 F D y.h R Y;rw[dC];exact b2.mono (by lia)
     |succ k=>
      cases B with
      |cons s2 hp2=>
       obtain⟨o,q,e1',L,hf',e3',e4',Z,S,g3',g4'⟩:=s2.ex;obtain⟨A,N⟩:=uz o.1 o.2 Z;rw[<-hf']at A N;have q4':(v+1)*q.2=v*q.2+q.2:=by grind
       have q5':(v+1)*o.2=v*o.2+o.2:=by grind
       have C:0<q.1-v*q.2:=by
        have a1:=aJ A (aA S);have a2:v*q.2*o.2<q.1*o.2:=by
         have:v*q.2*o.2=v*o.2*q.2:=by grind
         lia
        have:=eY a2 (aA Z);lia
       have bp':=rR (F o e1').2.2;have br':=rR (D q L).2.2;have:=ih _ _ hp2 ⟨_,e3',C,S⟩ (λp'' j=>by rw[e3']at j;cases j;exact⟨C,(D q L).2.2,uv (by dsimp only;lia) (by dsimp only;lia)⟩) (λr'' j=>by
        rw[e4']at j;split at j
        .cases j
        .cases j;exact⟨by dsimp only;lia,(F o e1').2.2,uv (by dsimp only;lia) (by dsimp only;lia)⟩) k (by simpa using hk)
       simpa using this
   cases k with
   |zero=>rw[dC];exact iP.mono (by lia)
   |succ k=>simpa using sm u d i B ⟨_,H,w,r2⟩ F D k (by simpa using hk)
 obtain⟨f1,v,f3,f4⟩:=fin;obtain⟨y4,eb⟩:=Og (c:=c) E hE (some (.p (oT b))) (some (.p (oT a))) (some (.p (.lst (fs.map T.int)))) (some (.p (J8 b a))) J K fs (wb b a,1) I y.fb f4;refine⟨rb fs (wb b a,1),?_,f1,v,f3⟩;have t0:L3.mZ dm (iR (gR (iA false) ah al)) (vw (i9 8 [oT lo,oT hi]))=.ok false:=by
  cases el:lo with
  |none=>exact tJ (gX (gL rfl rfl rfl))
  |some p=>
   cases eh:hi with
   |none=>exact kQ (gX (gL rfl rfl rfl)) (gX (gL rfl rfl (by show iA false (fr p) .non=_;rfl)))
   |some r=>refine kQ (gX (gL rfl rfl rfl)) (gX (gL rfl rfl ?_));show iA false (fr p) (fr r)=_;rw[MB,aB];intro z;have:=X p r el eh;rw[z]at this;exact absurd this (by grind)
 refine iI rfl (gM (iS t0 rfl) (gM (ou (ts:=[]) rfl rfl) (gM (gU (t:=J8 lo hi) (iY rfl rfl w0) rfl) (gM (ρ':=yf b a fs I J K) e (gM (gU (t:=fr (wb b a,1)) (pZ (by show gG 3 _=.ok (.int (wb b a));rw[<-wi];rfl) rfl) rfl) (gM (UF (ts:=fs.map T.int) rfl (jT (its:=fs.reverse.map T.int) (by rw[List.map_reverse];rfl) eb)) (ig rfl)))))))
def zm N M row other a (v:a<row.length) (H:other.length=row.length) (hs:row.length<1000) (E:N+M+1<=8000) (j:∀x∈row,Bn N x) (m:∀x∈other,Bn M x) (F:vc other a≠0) :
  ∃r,jt c [tI row,tI other,.int (a:Int)]=.ok (tI r)/\r.length=row.length/\(∀x∈r,Bn (N+M+1) x)/\vc r a=0/\∃g s b:Int,0<g/\0<s/\(∀i,g*vc r i=s*vc row i+b*vc other i)/\(vc row a≠0->s=((vc other a).natAbs:Int)/\b = -vc row a*lK (vc other a)):=by
 have sz:1000<sizeLine:=by decide
 have u:ja (tI row) (.int (a:Int))=.ok (.int (vc row a)):=k9 row a v;have D:ja (tI other) (.int (a:Int))=.ok (.int (vc other a)):=k9 other a (by lia);have C:Bn N (vc row a):=j _ (getD_mem row a v);have X:Bn M (vc other a):=m _ (getD_mem other a (by lia));by_cases k:vc row a=0
 .exact⟨row,iI rfl (lS (jf (gX (gL (gL rfl rfl u) rfl (by rw[jK,k];rfl))) (ig rfl)) rfl),rfl,λx I=>(j x I).mono (by lia),k,1,1,0,by decide,by decide,λi=>by lia,λz=>absurd k z⟩
 .generalize U:vc other a=o at *;generalize J:vc row a=x0 at *;have S:wR [.int o]=.ok (.int (o.natAbs:Int)):=by simp[Pz]
  let w:Int:=-x0*lK o;have Z:=xr o;have A:Bn N w:=by
   refine cg ?_ C;show (-x0*lK o).natAbs<=_;rw[aY,dB];have:(lK o).natAbs<=1:=by lia
   exact aN (fv _ this) (by lia)
  have B:Bn M (o.natAbs:Int):=cg (by lia) X;let d:LI:=(row.zip other).map λp=>(o.natAbs:Int)*p.1+w*p.2;have Y:d.length=row.length:=by simp[d,H]
  have q:∀y∈d,Bn (N+M+1) y:=λy R=>by obtain⟨p,h,rfl⟩:=aD.mp R;exact ((B.mul (j _ (aW h).1)).add (A.mul (m _ (aW h).2))).mono (by lia)
  have e:∀i,vc d i=(o.natAbs:Int)*vc row i+w*vc other i:=λi=>by
   by_cases P:i<row.length
   .rw[jS d i (by lia),jS row i P,jS other i (by lia)];simp[d]
   .rw[pP d i (by lia),pP row i (by lia),pP other i (by lia),dN,dN];rfl
  obtain⟨g,r,K,L,Q,f,l⟩:=tX (c:=c) (N+M+1) E d (by lia) q;refine⟨r,iI rfl (gM (iS (gX (gL (gL rfl rfl u) rfl (by rw[jK];simp[k]))) rfl) (gM (gU (t:=.int (o.natAbs:Int)) (n8 (gL rfl rfl D) S) rfl) (gM (gU (t:=.int w) ?_ rfl) (ig (pX (x:=tI d) ?_ L))))),by lia,l,?_,g,(o.natAbs:Int),w,K,by lia,λi=>by rw[<-f i,e i],λ_=>⟨rfl,rfl⟩⟩
  .refine gL (x:=.int (-x0)) (y:=.int (lK o)) ?_ (pX (gL rfl rfl D) (uQ o)) (iE ((C.neg).ok (n:=2) ?_ (by lia) (by decide)))
   .exact pS (gL rfl rfl u)
   .unfold Bn;show _<4;lia
  .refine n8 (t:=.lst (d.map T.int)) (iC (jC (row.zip other) (λp=>T.tup [.int p.1,.int p.2]) (λp=>T.int ((o.natAbs:Int)*p.1+w*p.2)) (nC rfl rfl rfl rfl) (by simp;lia) (λp h=>⟨_,rfl,rfl,?_⟩) (by rw[aI];rfl))) rfl;exact gL (gL rfl rfl (iE (B.ok (j _ (aW h).1) (by lia) (by lia)))) (gL rfl rfl (iE (A.ok (m _ (aW h).2) (by lia) (by lia)))) (jH _ _)
  .refine Co (g:=g) (by lia) ?_;rw[<-f a,e a,U,J];show _ + -x0*lK o*o=_;rw[cU,Hf,Int.neg_mul,cV x0];lia
noncomputable def wr(us:LL)(k:Nat):LI:=us.getD k []++(List.replicate us.length (0:Int)).set k 1
def zM us d k (a:k<us.length) (f:∀u∈us,u.length=d+1) i:vc (wr us k) i=if i<d+1 then vc (us.getD k []) i else if i-(d+1)=k then 1 else 0:=by
 have b:us.getD k []∈us:=by rw[af,ag a];exact aV a
 have e:=f _ b;unfold wr;generalize us.getD k []=u at *;unfold vc;rw[af,List.getElem?_append,e];split
 .rw[af]
 .rw[List.getElem?_set];split
  .rename_i h;rw[aQ h.symm];rw[bS];rw[aQ (by lia)];rfl
  .rename_i h;rw[aR (λz=>h z.symm),List.getElem?_replicate];split<;>rfl
def wJ us d k (a:k<us.length) (b:∀u∈us,u.length=d+1):(wr us k).length=d+1+us.length:=by
 have f:us.getD k []∈us:=by rw[af,ag a];exact aV a
 have e:=b _ f;unfold wr;generalize us.getD k []=u at *;simp[e]
def Q7(e:1<=B) us k (a:k<us.length) (d:∀u∈us,∀x∈u,Bn B x):∀x∈wr us k,Bn B x:=λx f=>by
 have b:us.getD k []∈us:=by rw[af,ag a];exact aV a
 rcases ai.mp f with h|h
 .exact d _ b x h
 .rcases fw h with h|h
  .rw[bg h];exact qq
  .rw[h];have:Bn 1 1:=by unfold Bn;decide
   exact this.mono e
def VF us d k (b:k<us.length) (a:∀u∈us,u.length=d+1):∀i,i≠k->vc (wr us k) (d+1+i)=0:=λi e=>by rw[zM us d k b a,aR (by lia),aR (by lia)]
structure Jn(a:Nat)(x y r:LI):Prop where
 len:r.length=x.length
 at0:vc r a=0
 ex:∃g:Int,0<g/\∀i,g*vc r i = -vc y a*vc x i+vc x a*vc y i
def IJ N x y a (d:a<x.length) (f:y.length=x.length) (h:x.length<1000) (E:2*N+1<=8000) (j:∀i∈x,Bn N i) (p:∀i∈y,Bn N i) (F:0<vc x a) (k:vc y a<0) :
  ∃r,jt c [tI x,tI y,.int (a:Int)]=.ok (tI r)/\Jn a x y r/\∀i∈r,Bn (2*N+1) i:=by
 obtain⟨r,e,l,b,z,g,s,w,m,C,v,q⟩:=zm N N x y a d f h (by lia) j p (by lia);obtain⟨D,n⟩:=q (by lia);have u:lK (vc y a) = -1:=by unfold lK;rw[aR (by lia),aQ k]
 refine⟨r,e,⟨l,z,g,m,λi=>?_⟩,λi o=>(b i o).mono (by lia)⟩;have A:s = -vc y a:=by lia
 have B:w=vc x a:=by rw[n,u];lia
 rw[v i,A,B]
noncomputable def Jt(d:Nat)(r:LI):Nat:=((r.drop (d+1)).filter λw=>w != 0).length
def DA kvs k t:(rY kvs k t).map Prod.fst=if (kvs.map Prod.fst).contains k then kvs.map Prod.fst else kvs.map Prod.fst++[k]:=by
 have h:(kvs.any λa=>decide (a.1=k))=(kvs.map Prod.fst).contains k:=by grind
 unfold rY;rw[h];split
 .rw[aI];refine fz λa _=>?_;show (if a.1=k then (a.1,t) else a).1=a.1;split<;>rfl
 .simp
def Hv:r∈(rY kvs k t).map Prod.fst↔r∈kvs.map Prod.fst\/r=k:=by
 rw[DA];split
 .simp_all
 .simp
def C5 kvs k t:(rY kvs k t).length<=kvs.length+1:=by have:=congrArg List.length (DA kvs k t);rw[aw]at this;rw[this];split<;>simp
def uU r (d:Nat) (h:f ρ=.ok (tI r)) (b:fd ρ=.ok (.int (d:Int))):ka f (ju (gR jI fd ab)) (λ_=>.ok none) ρ=.ok (tI (r.drop (d+1))):=by
 have a:ju (gR jI fd ab) ρ=.ok (some ((d+1:Nat):Int)):=by simp_all
 simp only[ka,h,a,M.bind_ok,tI];rw[wy,dh]
def HP(h:f ρ=.ok (tI r)):iU f ρ=.ok (r.map T.int):=by unfold iU;rw[h];rfl
structure Sh(d a:Nat)(iB:LL)(most N:Nat)(ks:LL):Prop where
 from_:∀r∈ks,(r∈iB/\vc r a=0)\/∃x∈iB,∃y∈iB,0<vc x a/\vc y a<0/\Jn a x y r
 bn:∀r∈ks,∀i∈r,Bn (2*N+1) i
def Dk(e:ρ[i]? = some (some (.d kvs)))(h:fk (vw ρ)=.ok (tI k))(b:f (vw ρ)=.ok t)(g:lf t=true)(j:kvs.length<sizeLine):xy i (oV fk) (oV f) ρ=.nx (ρ.set i (some (.d (rY kvs k t)))):=by
 unfold xy wd oV;rw[e,h,b];have a:=Hk k;simp only[M.bind_ok,g,a,if_true,O.of_ok];show (match jY (k.map T.int) with
  |some ns=>if kvs.length<sizeLine then O.nx (ρ.set i (some (.d (rY kvs ns t)))) else .bad
  |none=>.bad)=_
 rw[tQ];simp only[j,if_true]
theorem JC(d a l N:Nat)(L:Nat)(hL:L<1000)(hd:d<L)(ha:a<L)(hN:2*N+1<=8000)(iB:LL)(hrl:iB.length<=2000)(hr:∀r∈iB,r.length=L/\∀i∈r,Bn N i) :
  ∃ks:LL,sS c [.lst (iB.map tI),.int (d:Int),.int (a:Int),.int (l:Int)]=.ok (ks.map tI)/\Sh d a iB l N ks/\(∀m,4<=m->iB.length<=m->4*ks.length<=m*m)/\(∀r∈iB,vc r a=0->r∈ks)/\∀x∈iB,∀y∈iB,0<vc x a->vc y a<0->∃r,Jn a x y r/\(Jt d r<=l->r∈ks):=by
 have sz:10000000<sizeLine:=by decide
 have I:∀r∈iB,ja (tI r) (.int (a:Int))=.ok (.int (vc r a)):=λr v=>k9 r a (by rw[(hr r v).1];exact ha);let A (f:List (LI×T)) (u x6 x7 x8:Option W):En:=[some (.p (.lst (iB.map tI))),some (.p (.int (d:Int))),some (.p (.int (a:Int))),some (.p (.int (l:Int))),some (.d f),u,x6,x7,x8];obtain⟨ρ1,e1,D,u,rfl,h1,h1l⟩:=jE (m:=j6 5) (g:=BL c) tI
  (λk R=>∃(f:List (LI×T)) (u:Option W),R=A f u none none none/\(∀r,r∈f.map Prod.fst↔r∈iB.take k/\vc r a=0)/\f.length<=((iB.take k).filter λr=>decide (vc r a=0)).length)
  iB 0 (A [] none none none none) ⟨[],none,rfl,λr=>by simp,by simp⟩ (by
   rintro k r R E ⟨f,u,rfl,h,hk⟩;rw[aG]at h hk ⊢;have Z:=au E;have hkr:=(aa.mp E).1;have U:=jP iB k r E;have tl:((iB.take k).filter λr=>decide (vc r a=0)).length<=k:=aN (fC _ _) (by simp;lia);by_cases Y:vc r a=0
   .refine⟨_,_,rfl,.inl (jf (gX (gL (gL rfl rfl (I r Z)) rfl (by rw[jK,Y];rfl))) (Dk (k:=r) (t:=.bl true) rfl rfl rfl rfl (by lia))),rY f r (.bl true),some (.p (tI r)),rfl,λr'=>?_,aN (C5 _ _ _) (by rw[U,fE,aT];simp[Y];exact hk)⟩;rw[Hv,h,U];constructor
    .rintro (⟨j,o⟩|rfl)
     .exact⟨ax _ j,o⟩
     .exact⟨by simp,Y⟩
    .rintro⟨j,o⟩;rcases ai.mp j with q|q
     .exact .inl ⟨q,o⟩
     .exact .inr (aj.mp q)
   .refine⟨_,_,rfl,.inl (iS (gX (gL (gL rfl rfl (I r Z)) rfl (by rw[jK];simp[Y]))) rfl),f,some (.p (tI r)),rfl,λr'=>?_,aN hk (by rw[U,fE,aT];lia)⟩;rw[h,U];constructor
    .rintro⟨j,o⟩;exact⟨ax _ j,o⟩
    .rintro⟨j,o⟩;rcases ai.mp j with q|q
     .exact⟨q,o⟩
     .rw[aj.mp q]at o;exact absurd o Y)
 rw[aG,dP]at h1 h1l;have zl:(iB.filter λr=>decide (vc r a=0)).length<=iB.length:=fC _ _;let B:=iB.filter λr=>decide (0<vc r a);let s:=iB.filter λr=>decide (vc r a<0);have mp:∀x,x∈B↔x∈iB/\0<vc x a:=λx=>by show x∈List.filter _ _↔_;simp
 have mn:∀x,x∈s↔x∈iB/\vc x a<0:=λx=>by show x∈List.filter _ _↔_;simp
 have pl:B.length<=iB.length:=fC _ _;have nl:s.length<=iB.length:=fC _ _;obtain⟨J,hJ⟩:∃J:LI×LI->LI,∀p∈(B.flatMap λx=>s.map λy=>(x,y)),jt c [tI p.1,tI p.2,.int (a:Int)]=.ok (tI (J p))/\Jn a p.1 p.2 (J p)/\∀i∈J p,Bn (2*N+1) i:=t8 (P:=λ(p:LI×LI) (r:LI)=>jt c [tI p.1,tI p.2,.int (a:Int)]=.ok (tI r)/\Jn a p.1 p.2 r/\∀i∈r,Bn (2*N+1) i) _ λp hp=>by obtain⟨x,S,hp⟩:=fF.mp hp;obtain⟨y,hy,rfl⟩:=aD.mp hp;obtain⟨x1,x2⟩:=(mp x).mp S;obtain⟨y1,y2⟩:=(mn y).mp hy;exact IJ (c:=c) N x y a (by rw[(hr x x1).1];exact ha) (by rw[(hr x x1).1,(hr y y1).1]) (by rw[(hr x x1).1];exact hL) hN (hr x x1).2 (hr y y1).2 x2 y2
 have K:∀x∈B,∀y∈s,jt c [tI x,tI y,.int (a:Int)]=.ok (tI (J (x,y)))/\Jn a x y (J (x,y))/\∀i∈J (x,y),Bn (2*N+1) i:=λx S y hy=>hJ (x,y) (fF.mpr ⟨x,S,aD.mpr ⟨y,hy,rfl⟩⟩);have ePs:∀R:En,R[0]? = some (some (.p (.lst (iB.map tI))))->R[2]? = some (some (.p (.int (a:Int))))->True:=λ_ _ _=>trivial;have H:∀(x:LI),x∈B->∀(f:List (LI×T)) (u x7 x8:Option W),f.length+s.length<=9000000->∃(b:List (LI×T)) (F C:Option W),j3 (j6 7) (v9 c) (s.map tI) (A f u (some (.p (tI x))) x7 x8)=.nx (A b u (some (.p (tI x))) F C)/\
   (∀r,r∈b.map Prod.fst↔r∈f.map Prod.fst\/∃y∈s,r=J (x,y)/\Jt d (J (x,y))<=l)/\b.length<=f.length+s.length:=by
  intro x S f u x7 x8 hsz;obtain⟨ρ2,e2,b,F,C,rfl,h2,h2l⟩:=jE (m:=j6 7) (g:=v9 c) tI
   (λk R=>∃(b:List (LI×T)) (F C:Option W),R=A b u (some (.p (tI x))) F C/\(∀r,r∈b.map Prod.fst↔r∈f.map Prod.fst\/∃y∈s.take k,r=J (x,y)/\Jt d (J (x,y))<=l)/\b.length<=f.length+k)
   s 0 (A f u (some (.p (tI x))) x7 x8) ⟨f,x7,x8,rfl,λr=>by simp,aK _⟩ (by
    rintro k y R E ⟨b,F,C,rfl,h,hk⟩;rw[aG]at h hk ⊢;have Z:=au E;have hkr:k<s.length:=(aa.mp E).1;have U:s.take (k+1)=s.take k++[y]:=jP s k y E;obtain⟨f1,f2,f3⟩:=K x S y Z;have sl:ka (gG 8) dn (λ_=>.ok none) (vw (A b u (some (.p (tI x))) (some (.p (tI y))) (some (.p (tI (J (x,y)))))))=.ok (tI ((J (x,y)).drop (d+1))):=uU (J (x,y)) d rfl rfl;have lenJ:(J (x,y)).length=L:=by rw[f2.len,(hr x ((mp x).mp S).1).1]
    have lc:j5 [none] (iU (ka (gG 8) dn (λ_=>.ok none))) bv fm (wA c) (vw (A b u (some (.p (tI x))) (some (.p (tI y))) (some (.p (tI (J (x,y)))))))=.ok ((((J (x,y)).drop (d+1)).filter λw=>w != 0).map T.int):=og ((J (x,y)).drop (d+1)) T.int T.int (λw=>w != 0) (HP sl) (by simp;lia) (λw hw=>⟨_,rfl,gX (gL rfl rfl (by rw[nO];rfl)),λ_=>rfl⟩) rfl
    have X:iR (gR M8 (kG mC (gF (jw (j5 [none] (iU (ka (gG 8) dn (λ_=>.ok none))) bv fm (wA c))) gJ)) be) (vw (A b u (some (.p (tI x))) (some (.p (tI y))) (some (.p (tI (J (x,y)))))))=.ok (decide (Jt d (J (x,y))<=l)):=by
     refine gX (gL (x:=.int (Jt d (J (x,y)):Int)) (y:=.int (l:Int)) (n8 (iC lc) (by simp[Jt])) rfl ?_);rw[CB];by_cases q:Jt d (J (x,y))<=l
     .rw[aC q,aC (by lia)]
     .rw[aB q,aB (by lia)]
    have st1:setO 8 (jr (gS (gF em (gF (gG 7) ba)) (jt c))) (A b u (some (.p (tI x))) (some (.p (tI y))) C)=.nx (A b u (some (.p (tI x))) (some (.p (tI y))) (some (.p (tI (J (x,y)))))):=gU (kW rfl rfl rfl f1) rfl;by_cases q:Jt d (J (x,y))<=l
    .refine⟨_,_,rfl,.inl (gM st1 (jf (by rw[X,aC q]) (Dk (k:=J (x,y)) (t:=.bl true) rfl rfl rfl rfl (by lia)))),rY b (J (x,y)) (.bl true),some (.p (tI y)),some (.p (tI (J (x,y)))),rfl,λr=>?_,aN (C5 _ _ _) (by lia)⟩;rw[Hv,h,U];constructor
     .rintro ((j|⟨y',j,o⟩)|rfl)
      .exact .inl j
      .exact .inr ⟨y',ax _ j,o⟩
      .exact .inr ⟨y,by simp,rfl,q⟩
     .rintro (j|⟨y',j,o⟩)
      .exact .inl (.inl j)
      .rcases ai.mp j with Q|Q
       .exact .inl (.inr ⟨y',Q,o⟩)
       .rw[aj.mp Q]at o;exact .inr o.1
    .refine⟨_,_,rfl,.inl (gM st1 (iS (by rw[X,aB q]) rfl)),b,some (.p (tI y)),some (.p (tI (J (x,y)))),rfl,λr=>?_,by lia⟩;rw[h,U];constructor
     .rintro (j|⟨y',j,o⟩)
      .exact .inl j
      .exact .inr ⟨y',ax _ j,o⟩
     .rintro (j|⟨y',j,o⟩)
      .exact .inl j
      .rcases ai.mp j with Q|Q
       .exact .inr ⟨y',Q,o⟩
       .rw[aj.mp Q]at o;exact absurd o.2 q)
  rw[aG,dP]at h2;rw[aG]at h2l;exact⟨b,F,C,e2,h2,h2l⟩
 have sq:iB.length*iB.length<=2000*2000:=fG hrl hrl;obtain⟨ρ3,e3,kvs3,y6,F,C,rfl,h3,h3l⟩:=jE (m:=j6 6) (g:=Be c) tI
  (λk R=>∃(f:List (LI×T)) (y6 F C:Option W),R=A f u y6 F C/\(∀r,r∈f.map Prod.fst↔(r∈iB/\vc r a=0)\/∃x∈B.take k,∃y∈s,r=J (x,y)/\Jt d (J (x,y))<=l)/\f.length<=(iB.filter λr=>decide (vc r a=0)).length+k*s.length)
  B 0 (A D u none none none) ⟨D,none,none,none,rfl,λr=>by rw[h1];simp,by rw[Nat.zero_mul];exact h1l⟩ (by
   rintro k x R E ⟨f,y6,F,C,rfl,h,hk⟩;rw[aG]at h hk ⊢;have Z:=au E;have hkr:k<B.length:=(aa.mp E).1;have U:B.take (k+1)=B.take k++[x]:=jP B k x E;have kn:(k+1)*s.length<=iB.length*iB.length:=fG (by lia) nl;have kn':(k+1)*s.length=k*s.length+s.length:=Nat.succ_mul _ _;obtain⟨b,z7,z8,e,h',hl'⟩:=H x Z f u F C (by lia);have it:iU (jw (j5 [none,some 2] db bv (iR (gR Dq c5 ac)) (xo c))) (mD (A f u (some (.p (tI x))) F C))=.ok (s.map tI):=by
    have:j5 [none,some 2] db bv (iR (gR Dq c5 ac)) (xo c) (mD (A f u (some (.p (tI x))) F C))=.ok (s.map tI):=og iB tI tI (λr=>decide (vc r a<0)) rfl (by lia) (λr v=>⟨_,rfl,gX (gL (gL rfl rfl (I r v)) rfl (by rw[oy])),λ_=>rfl⟩) rfl
    simp only[iU,jw,this,M.bind_ok]
   refine⟨_,_,rfl,.inl (jT it e),b,some (.p (tI x)),z7,z8,rfl,λr=>?_,by lia⟩;rw[h',h,U];constructor
   .rintro ((j|⟨x',j,o⟩)|⟨y,j,o⟩)
    .exact .inl j
    .exact .inr ⟨x',ax _ j,o⟩
    .exact .inr ⟨x,by simp,y,j,o⟩
   .rintro (j|⟨x',j,y,o,Q⟩)
    .exact .inl (.inl j)
    .rcases ai.mp j with q4|q4
     .exact .inl (.inr ⟨x',q4,y,o,Q⟩)
     .rw[aj.mp q4]at Q;exact .inr ⟨y,o,Q⟩)
 rw[aG,dP]at h3;rw[aG]at h3l;have it:iU (jw (j5 [none,some 2] db bv (iR (gR FM c5 ac)) (wD c))) (mD (A D u none none none))=.ok (B.map tI):=by
  have:j5 [none,some 2] db bv (iR (gR FM c5 ac)) (wD c) (mD (A D u none none none))=.ok (B.map tI):=og iB tI tI (λr=>decide (0<vc r a)) rfl (by lia) (λr v=>⟨_,rfl,gX (gL (gL rfl rfl (I r v)) rfl (by rw[vH])),λ_=>rfl⟩) rfl
  simp only[iU,jw,this,M.bind_ok]
 have kl:B.length*s.length<=iB.length*iB.length:=fG pl nl;refine⟨kvs3.map Prod.fst,?_,⟨λr v=>?_,λr v=>?_⟩,λm Z hrm=>?_,λr v Y=>(h3 r).mpr (.inl ⟨v,Y⟩),λx S y hy px ny=>⟨J (x,y),(K x ((mp x).mpr ⟨S,px⟩) y ((mn y).mpr ⟨hy,ny⟩)).2.1,λq=>(h3 _).mpr (.inr ⟨x,(mp x).mpr ⟨S,px⟩,y,(mn y).mpr ⟨hy,ny⟩,rfl,q⟩)⟩⟩
 .refine mx rfl (gM (ρ':=A [] none none none none) rfl (gM (jT rfl e1) (gM (jT it e3) ?_)));show O.rf _=O.rf _;rw[aI];rfl
 .rcases (h3 r).mp v with q|⟨x,qx,y,qy,rfl,_⟩
  .exact .inl q
  .exact .inr ⟨x,((mp x).mp qx).1,y,((mn y).mp qy).1,((mp x).mp qx).2,((mn y).mp qy).2,(K x qx y qy).2.1⟩
 .rcases (h3 r).mp v with q|⟨x,qx,y,qy,rfl,_⟩
  .exact λi E=>((hr r q.1).2 i E).mono (by lia)
  .exact (K x qx y qy).2.2
 .have cnt3:(iB.filter λr=>decide (vc r a=0)).length+B.length+s.length=iB.length:=by
   show (List.filter _ _).length+(List.filter _ _).length+(List.filter _ _).length=_;clear hrl hr I A e1 h1 h1l hJ K H sq e3 h3 h3l it kl mp mn pl nl zl hrm ePs;induction iB with
   |nil=>rfl
   |cons r iB ih=>
    simp only[List.filter_cons,ay];rcases fH (vc r a) 0 with q|q|q
    .have j:¬vc r a=0:=by lia
     have o:¬0<vc r a:=by lia
     simp only[q,j,o,decide_true,decide_false,if_true,if_false,ay,cj];lia
    .have j:¬vc r a<0:=by lia
     have o:¬0<vc r a:=by lia
     simp only[q,j,o,decide_true,decide_false,if_true,if_false,ay,cj];simp only[Int.lt_irrefl,decide_false,if_false,cj];lia
    .have j:¬vc r a<0:=by lia
     have o:¬vc r a=0:=by lia
     simp only[q,j,o,decide_true,decide_false,if_true,if_false,ay,cj];lia
  rw[aw];generalize (iB.filter λr=>decide (vc r a=0)).length=z at *;generalize B.length=p at *;generalize s.length=n at *;refine aN (fv 4 h3l) ?_;have a1:4*(p*n)<=(p+n)*(p+n):=by
   have h1:(4*(p*n):Int)<=((p:Int)+n)*(p+n):=by
    have:0<=((p:Int)-n)*(p-n):=by
     rcases Int.le_total (p:Int) n with q|q
     .exact Int.mul_nonneg_of_nonpos_of_nonpos (by lia) (by lia)
     .exact aP (by lia) (by lia)
    grind
   have:((4*(p*n):Nat):Int)<=(((p+n)*(p+n):Nat):Int):=by push_cast;exact h1
   exact Int.ofNat_le.mp this
  have a2:4*z+(p+n)*(p+n)<=m*m:=by
   have e:∃k,m=z+(p+n)+k:=⟨m-(z+(p+n)),by lia⟩;obtain⟨k,rfl⟩:=e;have e2:(z+(p+n)+k)*(z+(p+n)+k)=(p+n)*(p+n)+(z+k)*(z+k+2*(p+n)):=by grind
   rw[e2];have:4*z<=(z+k)*(z+k+2*(p+n)):=by
    by_cases Y:z+k+2*(p+n)<4
    .grind
    .have:=fG (cx z k) (show 4<=z+k+2*(p+n) by lia);lia
   lia
  lia
structure V5(d k j a:Nat)(G G':LL):Prop where
 from_:∀r∈G',(r∈G/\vc r a=0)\/∃x∈G,∃y∈G,0<vc x a/\vc y a<0/\Jn a x y r
 stay:∀r∈G,vc r a=0->r∈G'
 join:∀x∈G,∀y∈G,0<vc x a->vc y a<0->∃r,Jn a x y r/\(Jt d r<=j+2+k->r∈G')
inductive Ic(d k:Nat):Nat->LL->List Nat->List (LL)->Prop
 |nil {j:Nat} {G:LL}:Ic d k j G [] [G]
 |cons {j a:Nat} {G G':LL} {pls:List Nat} {ls:List (LL)}:V5 d k j a G G'->Ic d k (j+1) G' pls ls->Ic d k j G (a::pls) (G::ls)
def Ic.snoc{d k j:Nat}{i G g:LL}{f:List Nat}{e:List (LL)}{a:Nat}(h:Ic d k j i f (e++[G]))(s:V5 d k (j+f.length) a G g):Ic d k j i (f++[a]) (e++[G,g]):=by
 generalize b:e++[G]=m at h;induction h generalizing e with
 |nil=>
  rename_i j l;cases e with
  |nil=>simp at b;subst b;exact .cons s .nil
  |cons x e=>simp at b
 |cons s' h' ih=>
  cases e with
  |nil=>simp at b;obtain⟨rfl,rfl⟩:=b;cases h'
  |cons x e=>simp at b;obtain⟨rfl,b⟩:=b;refine .cons s' (ih ?_ b);rw[ay]at s;rw[Nat.add_assoc,Nat.add_comm 1];exact s
noncomputable def Nb(N:Nat):Nat->Nat
 |0=>N
 |j+1=>2*Nb N j+1
noncomputable def Mb:Nat->Nat
 |0=>8
 |j+1=>Mb j*Mb j / 4
def yq N (h:i<=j):Nb N i<=Nb N j:=by
 induction h with
 |refl=>exact aK _
 |step _ ih=>exact aN ih (by show _<=2*Nb N _+1;lia)
def P7(a:ρ[i]? = some (some (.o us)))(h:f (vw ρ)=.ok ts)(b:B4 ts=true)(d:us.length<sizeLine)(hr:ρ'=ρ.set i (some (.o (us++[.lst ts])))):Bt i (AC f) ρ=.nx ρ':=by unfold Bt AC oE;rw[a,h,hr];simp[d,b]
def CH xs x:ja (.lst (xs++[x])) (.int (-1))=.ok x:=by
 have h:uD (xs++[x]) (-1)=some x:=by
  unfold uD Av;have a:1<=(xs.length:Int)+1:=by lia
  have b:(-1+((xs.length:Int)+1)).toNat=xs.length:=by lia
  simp[a,b]
 simp[ja,h]
def Vf(h:f ρ=.ok a):lstM (gF f gJ) ρ=.ok [a]:=GZ (R6 h)
theorem zG(d L N:Nat)(hL:L<1000)(hd:d<L)(iB:LL)(J:iB.length<=8)(hr:∀r∈iB,r.length=L/\∀i∈r,Bn N i)(pv:List (Nat×LI))(hp:pv.length<=100)(b:List Nat)(hpl:b.length<=4)(U:∀a∈b,a<L)(X:Nb N b.length<=8000) :
  ∃f,oq c [.lst (iB.map tI),.int (d:Int),.lst (b.map λ(j:Nat)=>T.int (j:Int)),.lst (pv.map TF)]=.ok (f.map λg=>T.lst (g.map tI))/\Ic d pv.length 0 iB b f/\∀(i:Nat) G,f[i]? = some G->∀r∈G,r.length=L/\∀x∈r,Bn (Nb N i) x:=by
 have sz:1000<sizeLine:=by decide
 let R (f:List (LL)) (v u:Option W):En:=[some (.p (.lst (iB.map tI))),some (.p (.int (d:Int))),some (.p (.lst (b.map λ(j:Nat)=>T.int (j:Int)))),some (.p (.lst (pv.map TF))),some (.o (f.map λg=>T.lst (g.map tI))),v,u];obtain⟨C,e,f,G,v,u,rfl,z,s,K,A⟩:=jE (m:=j6 5) (g:=Aj c) (λ(j:Nat)=>T.int (j:Int))
  (λk C=>∃(f:List (LL)) (G:LL) (v u:Option W),C=R (f++[G]) v u/\Ic d pv.length 0 iB (b.take k) (f++[G])/\f.length=k/\G.length<=Mb k/\∀(i:Nat) H,(f++[G])[i]? = some H->∀r∈H,r.length=L/\∀x∈r,Bn (Nb N i) x)
  b 0 (R [iB] none none) ⟨[],iB,none,none,rfl,.nil,rfl,J,λi H l=>by
   cases i with
   |zero=>simp at l;subst l;exact hr
   |succ i=>simp at l⟩ (by
   rintro k a C l ⟨f,G,v,u,rfl,z,s,K,A⟩;rw[aG]at z s K ⊢;have hm:=au l;have hk:=(aa.mp l).1;have tk:=jP b k a l;have Q:=A k G (by rw[List.getElem?_append_right (by lia),s];simp);have Z:Mb k<=1024/\4<=Mb k:=by
    have:k=0\/k=1\/k=2\/k=3:=by lia
    rcases this with rfl|rfl|rfl|rfl<;>decide
   have F:=aN (yq N (show k+1<=b.length by lia)) X;obtain⟨I,f1,E,f3,f4,f5⟩:=JC d a (k+2+pv.length) (Nb N k) L hL hd (U a hm) F G (by lia) Q;have hlenls:(f++[G]).length=k+1:=by simp[s]
   have step:V5 d pv.length (0+(b.take k).length) a G I:=⟨E.from_,f4,λx B y S px ny=>by obtain⟨r,Y,q2⟩:=f5 x B y S px ny;refine⟨r,Y,λq=>q2 ?_⟩;rw[bR]at q;lia⟩
   have e6:gR jI (gR jI (kG mC c4) ab) (kG mC df) (vw (R (f++[G]) (some (.p (.int (a:Int)))) u))=.ok (.int ((k+2+pv.length:Nat):Int)):=by refine gL (x:=.int ((k+2:Nat):Int)) (y:=.int (pv.length:Int)) (gL (x:=.int ((k+1:Nat):Int)) (n8 (t:=.lst ((f++[G]).map λg=>T.lst (g.map tI))) rfl (by simp[s])) rfl (by rw[jH];congr 2)) (n8 (t:=.lst (pv.map TF)) rfl (by simp)) (by rw[jH];congr 2)
   have e7:ja (.lst ((f++[G]).map λg=>T.lst (g.map tI))) (.int (-1))=.ok (.lst (G.map tI)):=by rw[aZ];exact CH _ _
   refine⟨_,_,rfl,.inl (gM (ym e6 rfl rfl) (P7 (us:=(f++[G]).map λg=>T.lst (g.map tI)) rfl (ts:=I.map tI) (wu (x:=.lst (G.map tI)) (gL rfl (pS rfl) e7) rfl rfl rfl f1) (OG _) (by simp[s];lia) rfl)),f++[G],I,some (.p (.int (a:Int))),some (.p (.int ((k+2+pv.length:Nat):Int))),?_,?_,by simp[s],?_,λi H h r n=>?_⟩
   .show List.set _ _ _=_;simp[R]
   .rw[tk];have:=z.snoc step;simpa using this
   .have:=f3 (Mb k) Z.2 K;show _<=Mb k*Mb k / 4;lia
   .by_cases D:i<(f++[G]).length
    .rw[List.getElem?_append_left D]at h;exact A i H h r n
    .rw[List.getElem?_append_right (by lia)]at h;have P:i-(f++[G]).length=0:=by
      rcases c8 (i-(f++[G]).length) with q|q
      .exact q
      .rw[List.getElem?_eq_none (by simp;lia)]at h;cases h
     rw[P]at h;simp at h;subst h;have w:i=k+1:=by lia
     subst w;refine⟨?_,E.bn r n⟩;rcases E.from_ r n with q|⟨x,B,y,S,_,_,hj⟩
     .exact (Q r q.1).1
     .rw[hj.len];exact (Q x B).1)
 rw[aG,dP]at z;exact⟨f++[G],mx rfl (gM (ou (ts:=[.lst (iB.map tI)]) (Vf rfl) rfl) (gM (jT rfl e) rfl)),z,A⟩
end CL
namespace CL
def Cn.posQ{f:Vc->Rat}(j:∀x y z (s a b:Int),(∀i,s*z i=a*x i+b*y i)->(s:Rat)*f z=(a:Rat)*f x+(b:Rat)*f y)(m:∀x,P x->0<f x)(h:Cn P z):0<f z:=by
 induction h with
 |of h=>exact m _ h
 |lin _ _ hs ha hb hab e i1 i2=>
  rename_i x y z s a b _ _;have q:=j _ _ _ _ _ _ e;have l:(0:Rat)<(s:Rat):=nN hs;have:0<(a:Rat)*f x+(b:Rat)*f y:=by
   by_cases n:a=0
   .subst n;have d:(0:Rat)<(b:Rat):=nN (by lia);have:=eT d i2;simp;grind
   .have g:(0:Rat)<(a:Rat):=nN (by lia);have o:=eT g i1;by_cases k:b=0
    .subst k;simp;grind
    .have d:(0:Rat)<(b:Rat):=nN (by lia);have p:=eT d i2;grind
  rw[<-q]at this;refine fJ (c:=(s:Rat)) ?_ (eU l);simpa using this
noncomputable def Lt(m:Nat)(g:Nat->Vc)(t:Vc):Vc:=λq=>sm m λj=>t j*g j q
def Dm(h:∀i,s*z i=a*x i+b*y i) q:s*Lt m g z q=a*Lt m g x q+b*Lt m g y q:=by unfold Lt;rw[<-lL,<-uV];refine iZ m _ _ λi _=>?_;rw[<-cU,h i];grind
def Cm m g t p:jB m (λi=>g i p) t=Lt m g t p:=by unfold jB Lt;exact iZ m _ _ λi _=>cV _ _
noncomputable def rN(i:Nat):Vc:=λj=>if j=i then 1 else 0
def xZ m g i (a:i<m) q:Lt m g (rN i) q=g i q:=by unfold Lt rN;exact G3 m i (λj=>g j q) a
def Bg m:∀n u,cs m u<=n->kY m [] u->Cn (λx=>∃i,i<m/\x=rN i) u:=by
 intro n;induction n with
 |zero=>
  intro u p c;obtain⟨i,e⟩:=c.ne;have d:i<m:=by
   rcases eG i m with h|h
   .exact h
   .exact absurd (c.out i h) e
  have:=Ew (m:=m) (u:=λ_=>0) (v:=u) (λ_ _ _=>rfl) d e rfl;lia
 |succ n ih=>
  intro u p c;obtain⟨i,e⟩:=c.ne;have d:i<m:=by
   rcases eG i m with h|h
   .exact h
   .exact absurd (c.out i h) e
  have B:0<u i:=by have:=c.nn i;lia
  by_cases f:∃j,j≠i/\u j≠0
  .obtain⟨j,y,r⟩:=f;have o:kY m [] (λk=>if k=i then 0 else u k):=⟨λk=>by split;exact eD _;exact c.nn k,λk w=>by split;rfl;exact c.out k w,⟨j,by simp[y,r]⟩,λA g=>nomatch g⟩;have l:=Ew (m:=m) (u:=λk=>if k=i then 0 else u k) (v:=u) (λk _ z=>by split;rfl;exact z) d e (by simp);refine .lin (s:=1) (a:=u i) (b:=1) (.of ⟨i,d,rfl⟩) (ih _ (by lia) o) (by decide) (by lia) (by decide) (by lia) λk=>?_;unfold rN;by_cases q:k=i
   .subst q;simp
   .simp[q]
  .refine .lin (s:=1) (a:=u i) (b:=0) (.of ⟨i,d,rfl⟩) (.of ⟨i,d,rfl⟩) (by decide) (by lia) (by decide) (by lia) λk=>?_;unfold rN;by_cases q:k=i
   .subst q;simp
   .have:u k=0:=aO λz=>f ⟨k,q,z⟩;simp[q,this]
theorem yu{b:Type}[DecidableEq b]:∀{l m:List b},l.Nodup->(∀x∈l,x∈m)->l.length<=m.length
 |[],_,_,_=>bL _
 |a::l,m,nd,h=>by
  obtain⟨f,e⟩:=bO.mp nd;have c:a∈m:=h a (by simp);have:=yu (m:=m.erase a) e λx d=>by have ne:x≠a:=λz=>f (z▸d);exact (List.mem_erase_of_ne ne).mpr (h x (by simp[d]))
  rw[eJ c]at this;have:0<m.length:=List.length_pos_of_mem c;simp only[ay];lia
structure Ip(d n:Nat)(ss ix:List Nat)(sd:LL):Prop where
 len:sd.length=ss.length
 nd:ss.Nodup
 lt:∀i∈ss,i<n
 l:∀r∈sd,r.length=d+1+n
 own:∀j,j<sd.length->vc (sd.getD j []) (d+1+ss.getD j 0)≠0
 oth:∀j,j<sd.length->∀i,i∉ix->i≠ss.getD j 0->vc (sd.getD j []) (d+1+i)=0
def Qw(a:LL)(b:List Vc)(G:LL)(t:Vc):Prop:=kY a.length b t/\∃r∈G,∃s:Int,0<s/\∀q,s*vc r q=Lt a.length (λj=>vc (a.getD j [])) t q
def Tj(h:Ip d n ss ix sd)(k:r.length=d+1+n)(w:0<s)(e:∀q,s*vc r q=Lt sd.length (λj=>vc (sd.getD j [])) t q):Jt d r<=cs sd.length t+ix.length:=by
 let A:=((List.range sd.length).filter λj=>decide (t j≠0)).map λj=>ss.getD j 0;have m:A.length=cs sd.length t:=by show (List.map _ _).length=_;rw[aw];unfold cs;rw[eM]
 let I:=(List.range n).filter λi=>decide (vc r (d+1+i)≠0);have l:Jt d r=I.length:=by
  unfold Jt;have:r.drop (d+1)=(List.range n).map λi=>vc r (d+1+i):=by refine List.ext_getElem (by simp[k]) λi o x=>?_;simp at o;rw[List.getElem_drop,dR,fK,jS r (d+1+i) (by lia)]
  rw[this,List.filter_map,aw];congr 2;funext i;simp[bne];rfl
 rw[l,<-m,<-aT];refine yu (List.Pairwise.filter _ eN) λi p=>?_;have b:i<n/\vc r (d+1+i)≠0:=by have:i∈List.filter _ _:=p;simpa using this
 refine aO λa=>b.2 ?_;have u:i∉A:=λz=>a (ax _ z);have v:i∉ix:=λz=>a (bF _ z);refine Co (g:=s) (by lia) ?_;rw[e];show sm sd.length (λj=>t j*vc (sd.getD j []) (d+1+i))=0;rw[iZ sd.length _ (λ_=>0) λj f=>?_,rE];by_cases c:t j=0
 .rw[c,dU]
 .have:i≠ss.getD j 0:=λz=>u (by show i∈List.map _ _;exact aD.mpr ⟨j,aU.mpr ⟨aS.mpr f,by simpa using c⟩,z.symm⟩)
  rw[h.oth j f i v this,dN]
def Bp{d n:Nat}{ss ix:List Nat}{c:LL}(h:Ip d n ss ix c){a:Nat}{C:List Vc}{G X:LL}(Z:∀r∈G,r.length=d+1+n/\∃t,kY c.length C t/\∃s:Int,0<s/\∀q,s*vc r q=Lt c.length (λj=>vc (c.getD j [])) t q)
  (gen:∀u,kY c.length C u->Cn (Qw c C G) u) (st:V5 d ix.length C.length a G X) :
  (∀r∈X,r.length=d+1+n/\∃t,kY c.length ((λj=>vc (c.getD j []) a)::C) t/\∃s:Int,0<s/\∀q,s*vc r q=Lt c.length (λj=>vc (c.getD j [])) t q)/\
  ∀u,kY c.length ((λj=>vc (c.getD j []) a)::C) u->Cn (Qw c ((λj=>vc (c.getD j []) a)::C) X) u:=by
 let A:Vc:=λj=>vc (c.getD j []) a;have la:∀t,jB c.length A t=Lt c.length (λj=>vc (c.getD j [])) t a:=λt=>Cm c.length (λj=>vc (c.getD j [])) t a;have F:∀{x y r:LI} {t f:Vc} {s H:Int},0<s->0<H->(∀q,s*vc x q=Lt c.length (λj=>vc (c.getD j [])) t q)->(∀q,H*vc y q=Lt c.length (λj=>vc (c.getD j [])) f q)->Jn a x y r->
   ∃N:Int,0<N/\∀q,N*vc r q=Lt c.length (λj=>vc (c.getD j [])) (λi=>(-jB c.length A f)*t i+jB c.length A t*f i) q:=by
  intro x y r t f s H o p e I J;obtain⟨g,hg,v⟩:=J.ex;refine⟨s*H*g,aX (aX o p) hg,λq=>?_⟩;have l1:=Dm (m:=c.length) (g:=λj=>vc (c.getD j [])) (x:=t) (y:=f) (z:=λi=>(-jB c.length A f)*t i+jB c.length A t*f i) (s:=1) (a:=-jB c.length A f) (b:=jB c.length A t) (λi=>by grind) q;rw[dQ]at l1;rw[l1,la,la,<-e a,<-I a,<-e q,<-I q];have:=v q;calc s*H*g*vc r q=s*H*(g*vc r q):=by grind
   _=s*H*(-vc y a*vc x q+vc x a*vc y q):=by rw[this]
   _=_:=by grind
 have E:∀{t f:Vc},kY c.length C t->kY c.length C f->0<jB c.length A t->jB c.length A f<0->kY c.length (A::C) (λi=>(-jB c.length A f)*t i+jB c.length A t*f i):=by
  intro t f R U S p2;have lin:∀B,jB c.length B (λi=>(-jB c.length A f)*t i+jB c.length A t*f i)=(-jB c.length A f)*jB c.length B t+jB c.length A t*jB c.length B f:=λB=>by have:=qp (m:=c.length) (A:=B) (x:=t) (y:=f) (z:=λi=>(-jB c.length A f)*t i+jB c.length A t*f i) (s:=1) (a:=-jB c.length A f) (b:=jB c.length A t) (λi=>by grind);simpa using this
  obtain⟨j,J⟩:=R.ne;have q1:0 < -jB c.length A f:=by lia
  refine⟨λi=>?_,λi hi=>?_,⟨j,?_⟩,λB D=>?_⟩
  .have x1:=aP (aA q1) (R.nn i);have x2:=aP (aA S) (U.nn i);lia
  .rw[R.out i hi,U.out i hi];simp
  .have gj:0<t j:=by have:=R.nn j;lia
   have x1:=aX q1 gj;have x2:=aP (aA S) (U.nn j);lia
  .rw[lin B];rcases aF.mp D with rfl|D
   .grind
   .rw[R.eq B D,U.eq B D];simp
 have k:∀{r:LI} {t:Vc} {s:Int},0<s->(∀q,s*vc r q=Lt c.length (λj=>vc (c.getD j [])) t q)->(0<vc r a↔0<jB c.length A t)/\(vc r a<0↔jB c.length A t<0)/\(vc r a=0↔jB c.length A t=0):=λ{r t s} o e=>by
  rw[la,<-e a];refine⟨⟨λq=>aX o q,λq=>?_⟩,⟨λq=>eO o q,λq=>?_⟩,⟨λq=>by rw[q,dN],λq=>Co (by lia) q⟩⟩
  .exact fL (a:=s) (by simpa using q) (aA o)
  .exact fL (a:=s) (by simpa using q) (aA o)
 refine⟨λr hr=>?_,λu hu=>?_⟩
 .rcases st.from_ r hr with⟨h1,Q⟩|⟨x,L,y,hy,px,ny,J⟩
  .obtain⟨l,t,w,s,o,e⟩:=Z r h1;exact⟨l,t,⟨w.nn,w.out,w.ne,λB D=>by
    rcases aF.mp D with rfl|D
    .exact (k o e).2.2.mp Q
    .exact w.eq B D⟩,s,o,e⟩
  .obtain⟨l,t,w,s,o,e⟩:=Z x L;obtain⟨_,f,K,H,p,I⟩:=Z y hy;obtain⟨N,Q,Y⟩:=F o p e I J;exact⟨by rw[J.len,l],_,E w K ((k o e).1.mp px) ((k p I).2.1.mp ny),N,Q,Y⟩
 .refine Sw (A:=A) (P:=Qw c C G) (P':=Qw c (A::C) X) (λx L=>L.1) gen (λt ⟨w,r,hr,s,o,e⟩ h0=>?_) (λt f ⟨w,x,L,s,o,e⟩ ⟨K,y,hy,H,p,I⟩ S p2 hcs=>?_) (cs c.length u) u (aK _) hu
  .exact⟨⟨w.nn,w.out,w.ne,λB D=>by
    rcases aF.mp D with rfl|D
    .exact h0
    .exact w.eq B D⟩,r,st.stay r hr ((k o e).2.2.mpr h0),s,o,e⟩
  .obtain⟨r,J,hk⟩:=st.join x L y hy ((k o e).1.mpr S) ((k p I).2.1.mpr p2);obtain⟨N,Q,Y⟩:=F o p e I J;have rl:r.length=d+1+n:=by rw[J.len,(Z x L).1]
   have cl:=Tj h rl Q Y;exact⟨E w K S p2,r,hk (by lia),N,Q,Y⟩
end CL
namespace CL
open PySem L2 L3
variable {c:Cs}
noncomputable def qo:Nat->(Nat->Rat)->Rat
 |0,_=>0
 |n+1,f=>f 0+qo n λi=>f (i+1)
theorem kj:∀n f g,(∀i,i<n->f i=g i)->qo n f=qo n g
 |0,_,_,_=>rfl
 |n+1,f,g,h=>by unfold qo;rw[h 0 (by lia),kj n _ _ λi a=>h (i+1) (by lia)]
theorem rL a b:∀n f g,qo n (λi=>a*f i+b*g i)=a*qo n f+b*qo n g
 |0,_,_=>by unfold qo;grind
 |n+1,f,g=>by unfold qo;rw[rL a b n (λi=>f (i+1)) λi=>g (i+1)];grind
theorem y0:∀n:Nat,qo n (λ_=>0)=0
 |0=>rfl
 |n+1=>by unfold qo;rw[y0 n];grind
def P6(x X:Nat->Rat) v:∀n a,a<n->qo n (λi=>x i*(if i=a then v else X i))=qo n (λi=>x i*X i)+x a*(v-X a):=by
 intro n;induction n generalizing x X with
 |zero=>intro a h;cases h
 |succ n ih=>
  intro a b;unfold qo;cases a with
  |zero=>
   have:qo n (λi=>x (i+1)*(if i+1=0 then v else X (i+1)))=qo n (λi=>x (i+1)*X (i+1)):=kj n _ _ λi _=>by simp
   rw[this];simp;grind
  |succ a=>
   have:=ih (λi=>x (i+1)) (λi=>X (i+1)) a (by lia);have e:qo n (λi=>x (i+1)*(if i+1=a+1 then v else X (i+1)))=qo n (λi=>x (i+1)*(if i=a then v else X (i+1))):=kj n _ _ λi _=>by simp
   rw[e,this];simp;grind
noncomputable def kg(d:Nat)(X:Nat->Rat)(x:Vc):Rat:=qo d (λp=>(x p:Rat)*X p)-(x d:Rat)
def tV(x y z:Vc) s a b (h:∀i,s*z i=a*x i+b*y i):(s:Rat)*kg d X z=(a:Rat)*kg d X x+(b:Rat)*kg d X y:=by
 have f:∀i,s*(z i)=a*(x i)+b*(y i:Rat):=λi=>by
  have:=h i;have e:((s*z i:Int):Rat)=((a*x i+b*y i:Int):Rat):=by rw[this]
  simpa using e
 unfold kg;have k:(s:Rat)*qo d (λp=>(z p:Rat)*X p)=(a:Rat)*qo d (λp=>(x p:Rat)*X p)+(b:Rat)*qo d (λp=>(y p:Rat)*X p):=by
  have:=rL (s:Rat) 0 d (λp=>(z p:Rat)*X p) (λ_=>0);have g:=rL (a:Rat) (b:Rat) d (λp=>(x p:Rat)*X p) (λp=>(y p:Rat)*X p);have j:qo d (λi=>(s:Rat)*((z i:Rat)*X i)+0*0)=qo d (λi=>(a:Rat)*((x i:Rat)*X i)+(b:Rat)*((y i:Rat)*X i)):=kj d _ _ λi _=>by have:=f i;grind
  rw[j,g]at this;grind
 have:=f d;grind
def HN(b:a<d) X v x:kg d (λq=>if q=a then v else X q) x=kg d X x+(x a:Rat)*(v-X a):=by unfold kg;have:=P6 (λi=>(x i)) X v d a b;rw[this];grind
def tm(h:∀p,p<d->x p=0):kg d X x = -(x d:Rat):=by
 unfold kg;have e:qo d (λp=>(x p)*X p)=0:=by rw[kj d _ (λ_=>0) λp a=>by rw[h p a];simp];exact y0 d
 rw[e];grind
noncomputable def Xs(s:List (Int×Int)):Nat->Rat:=λq=>qv (s.getD q (0,1))
def Mg s a f (b:a<s.length):Xs (s.set a f)=λq=>if q=a then qv f else Xs s q:=by
 funext q;unfold Xs;rw[af,List.getElem?_set];by_cases h:q=a
 .subst h;simp[b]
 .rw[aR (λz=>h z.symm),aR h,af]
def WU:qv (0,1)=0:=by unfold qv;simp;grind
def EZ d:∀s row,s.length=d->d<=row.length->J0 row s=qo d (λp=>(vc row p:Rat)*Xs s p):=by
 induction d with
 |zero=>intro s row a _;have:=List.length_eq_zero_iff.mp a;subst this;simp[J0,qo]
 |succ d ih=>
  intro s row a b;cases s with
  |nil=>cases a
  |cons p s=>
   cases row with
   |nil=>simp at b
   |cons x row=>have:=ih s row (by simpa using a) (by simpa using b);unfold J0 at this ⊢;rw[fM,bI,eV,this];rfl
def sU(d:Nat)(X:Nat->Rat)(a:Nat)(r:LI):Rat:=-(kg d X (vc r)) / (vc r a:Rat)
structure Rp(d:Nat)(X:Nat->Rat)(a E:Nat)(G:LL)(lo hi:Option (Int×Int)):Prop where
 l:Oe E lo
 h:Oe E hi
 lo1:∀r∈G,0<vc r a->∃p,lo=some p/\sU d X a r<=qv p
 lo2:∀p,lo=some p->∃r∈G,0<vc r a/\qv p=sU d X a r/\Cu.G p.1 p.2=1
 hi1:∀r∈G,vc r a<0->∃p,hi=some p/\qv p<=sU d X a r
 hi2:∀p,hi=some p->∃r∈G,vc r a<0/\qv p=sU d X a r/\Cu.G p.1 p.2=1
def DJ(h:fc ρ=.ok false)(a:fd ρ=.ok b):L3.wc fc fd ρ=.ok b:=by simp only[L3.wc,h,a,M.bind_ok];rfl
def KQ(h:fc ρ=.ok true):L3.wc fc fd ρ=.ok true:=by simp only[L3.wc,h,M.bind_ok];rfl
def Ih(a:0<p.2/\Bn E p.1/\Bn E p.2)(hr:0<r.2/\Bn E r.1/\Bn E r.2)(b:E<=8000):lM c [fr p,fr r]=.ok (.bl (decide (qv p<qv r))):=yY a.1 hr.1 (a.2.1.ok hr.2.2 (by lia) (by lia)) (hr.2.1.ok a.2.2 (by lia) (by lia))
theorem G9(d a N L:Nat)(hL:d<L)(had:a<d)(hd:d<=10)(h1:1<=N)(s:List (Int×Int))(Z:s.length=d)(hq:∀p∈s,Fq p)(hE:N+nY s+20<=8000)(G:LL)(hG:∀r∈G,r.length=L/\∀x∈r,Bn N x) :
  ∃u n,pH c [.lst (G.map tI),.int (a:Int),.lst (s.map fr)]=.ok (.tup [oT u,oT n])/\Rp d (Xs s) a (N+nY s+20) G u n:=by
 let R (u n:Option (Int×Int)) (K D:Option W):En:=[some (.p (.lst (G.map tI))),some (.p (.int (a:Int))),some (.p (.lst (s.map fr))),some (.p (oT u)),some (.p (oT n)),K,D];obtain⟨U,e,u,n,K,D,rfl,hI⟩:=jE (m:=j6 5) (g:=Ac c) tI
  (λk U=>∃(u n:Option (Int×Int)) (K D:Option W),U=R u n K D/\Rp d (Xs s) a (N+nY s+20) (G.take k) u n)
  G 0 (R none none none none) ⟨none,none,none,none,rfl,⟨(λ_ z=>nomatch z),(λ_ z=>nomatch z),λr hr=>by simp at hr,(λ_ z=>nomatch z),λr hr=>by simp at hr,(λ_ z=>nomatch z)⟩⟩ (by
   rintro k r U w ⟨u,n,K,D,rfl,I⟩;rw[aG]at I ⊢;have hm:=au w;have tk:=jP G k r w;obtain⟨rl,rb⟩:=hG r hm;have F:ja (tI r) (.int (a:Int))=.ok (.int (vc r a)):=k9 r a (by lia);by_cases Y:vc r a=0
   .refine⟨_,_,rfl,.inl (iS (gX (gL (gL rfl rfl F) rfl (by rw[nO,Y];rfl))) rfl),u,n,some (.p (tI r)),D,rfl,?_⟩;rw[tk];refine⟨I.l,I.h,λb i j=>?_,λp e=>?_,λb i j=>?_,λp e=>?_⟩
    .rcases ai.mp i with q|q
     .exact I.lo1 b q j
     .rw[aj.mp q]at j;lia
    .obtain⟨b,A,B⟩:=I.lo2 p e;exact⟨b,ax _ A,B⟩
    .rcases ai.mp i with q|q
     .exact I.hi1 b q j
     .rw[aj.mp q]at j;lia
    .obtain⟨b,A,B⟩:=I.hi2 p e;exact⟨b,ax _ A,B⟩
   .obtain⟨left,el,gl,ql⟩:=Em (c:=c) N (by lia) h1 r s (by lia) (by lia) rb hq (by lia);have ra:=rb _ (getD_mem r a (by lia));obtain⟨en,ee,P,qe⟩:=Jf (c:=c) Y ra gl (by lia) (by lia);have J:qv en=sU d (Xs s) a r:=by rw[qe,ql,Z,EZ d s r Z (by lia)];unfold sU kg;congr 1;grind
    have S:0<en.2/\Bn (N+nY s+20) en.1/\Bn (N+nY s+20) en.2:=⟨P.pos,P.b1,P.b2.mono (by lia)⟩;have s1:∀D,setO 6 (jr (gS (gF (gS (gF bi ba) (lX c)) (gF (jM (gF ga da)) gJ)) (sW c))) (R u n (some (.p (tI r))) D)=.nx (R u n (some (.p (tI r))) (some (.p (fr en)))):=λD=>gU (iY (x:=fr left) (y:=fr (vc r a,1)) (iY rfl rfl el) (pZ (gL rfl rfl F) rfl) ee) rfl;obtain⟨v,s2,M1,M2,M3⟩:∃v:Option (Int×Int),mh (L3.mZ (iR (gR FM ga ac)) (L3.wc (iR gg) (iR (gS (gF be (gF em gJ)) (lM c))))) (setO 3 (jr em)) iT (R u n (some (.p (tI r))) (some (.p (fr en))))=.nx (R v n (some (.p (tI r))) (some (.p (fr en))))/\
      Oe (N+nY s+20) v/\(∀b∈G.take k++[r],0<vc b a->∃p,v=some p/\sU d (Xs s) a b<=qv p)/\(∀p,v=some p->∃b∈G.take k++[r],0<vc b a/\qv p=sU d (Xs s) a b/\Cu.G p.1 p.2=1):=by
     by_cases E:0<vc r a
     .have H:iR (gR FM ga ac) (vw (R u n (some (.p (tI r))) (some (.p (fr en)))))=.ok true:=gX (gL (gL rfl rfl F) rfl (by rw[vH];simp[E]));have new:∀(_:∀p,u=some p->qv p<qv en),Oe (N+nY s+20) (some en)/\(∀b∈G.take k++[r],0<vc b a->∃p,some en=some p/\sU d (Xs s) a b<=qv p)/\(∀p,some en=some p->∃b∈G.take k++[r],0<vc b a/\qv p=sU d (Xs s) a b/\Cu.G p.1 p.2=1):=λo=>by
       refine⟨λp z=>by cases z;exact S,λb i j=>⟨en,rfl,?_⟩,λp z=>by cases z;exact⟨r,by simp,E,J,P.one⟩⟩;rcases ai.mp i with q|q
       .obtain⟨p,X,e2⟩:=I.lo1 b q j;have:=o p X;grind
       .rw[aj.mp q,J];grind
      cases f:u with
      |none=>refine⟨some en,?_,new λp z=>by rw[f]at z;cases z⟩;rw[<-f];refine jf (kQ H (KQ (gX (gL rfl rfl ?_)))) (gU (t:=fr en) rfl rfl);show kR false (oT u) .non=_;rw[rW,f];rfl
      |some p=>
       have C:kR false (oT u) .non=.ok (.bl false):=by rw[rW,f];rfl
       have Q:lM c [oT u,fr en]=.ok (.bl (decide (qv p<qv en))):=by rw[f];exact Ih (I.l p f) S hE
       by_cases o:qv p<qv en
       .refine⟨some en,?_,new λj z=>by rw[f]at z;cases z;exact o⟩;rw[<-f];exact jf (kQ H (DJ (gX (gL rfl rfl C)) (gX (iY rfl rfl (by rw[Q,aC o]))))) (gU (t:=fr en) rfl rfl)
       .refine⟨u,?_,I.l,λb i j=>?_,λj z=>?_⟩
        .rw[<-f];exact iS (kQ H (DJ (gX (gL rfl rfl C)) (gX (iY rfl rfl (by rw[Q,aB o]))))) rfl
        .rcases ai.mp i with q|q
         .exact I.lo1 b q j
         .rw[aj.mp q,<-J];exact⟨p,f,by grind⟩
        .obtain⟨b,A,B⟩:=I.lo2 j z;exact⟨b,ax _ A,B⟩
     .refine⟨u,iS (tJ (gX (gL (gL rfl rfl F) rfl (by rw[vH];simp[E])))) rfl,I.l,λb i j=>?_,λj z=>?_⟩
      .rcases ai.mp i with q|q
       .exact I.lo1 b q j
       .rw[aj.mp q]at j;exact absurd j E
      .obtain⟨b,A,B⟩:=I.lo2 j z;exact⟨b,ax _ A,B⟩
    obtain⟨w,s3,H1,H2,H3⟩:∃w:Option (Int×Int),mh (L3.mZ (iR (gR Dq ga ac)) (L3.wc (iR (gR (kR false) bu bw)) (iR (gS (gF em c4) (lM c))))) (setO 4 (jr em)) iT (R v n (some (.p (tI r))) (some (.p (fr en))))=.nx (R v w (some (.p (tI r))) (some (.p (fr en))))/\
      Oe (N+nY s+20) w/\(∀b∈G.take k++[r],vc b a<0->∃p,w=some p/\qv p<=sU d (Xs s) a b)/\(∀p,w=some p->∃b∈G.take k++[r],vc b a<0/\qv p=sU d (Xs s) a b/\Cu.G p.1 p.2=1):=by
     by_cases E:vc r a<0
     .have H:iR (gR Dq ga ac) (vw (R v n (some (.p (tI r))) (some (.p (fr en)))))=.ok true:=gX (gL (gL rfl rfl F) rfl (by rw[oy];simp[E]));have new:∀(_:∀p,n=some p->qv en<qv p),Oe (N+nY s+20) (some en)/\(∀b∈G.take k++[r],vc b a<0->∃p,some en=some p/\qv p<=sU d (Xs s) a b)/\(∀p,some en=some p->∃b∈G.take k++[r],vc b a<0/\qv p=sU d (Xs s) a b/\Cu.G p.1 p.2=1):=λo=>by
       refine⟨λp z=>by cases z;exact S,λb i j=>⟨en,rfl,?_⟩,λp z=>by cases z;exact⟨r,by simp,E,J,P.one⟩⟩;rcases ai.mp i with q|q
       .obtain⟨p,X,e2⟩:=I.hi1 b q j;have:=o p X;grind
       .rw[aj.mp q,J];grind
      cases f:n with
      |none=>refine⟨some en,?_,new λp z=>by rw[f]at z;cases z⟩;rw[<-f];refine jf (kQ H (KQ (gX (gL rfl rfl ?_)))) (gU (t:=fr en) rfl rfl);show kR false (oT n) .non=_;rw[rW,f];rfl
      |some p=>
       have C:kR false (oT n) .non=.ok (.bl false):=by rw[rW,f];rfl
       have Q:lM c [fr en,oT n]=.ok (.bl (decide (qv en<qv p))):=by rw[f];exact Ih S (I.h p f) hE
       by_cases o:qv en<qv p
       .refine⟨some en,?_,new λj z=>by rw[f]at z;cases z;exact o⟩;rw[<-f];exact jf (kQ H (DJ (gX (gL rfl rfl C)) (gX (iY rfl rfl (by rw[Q,aC o]))))) (gU (t:=fr en) rfl rfl)
       .refine⟨n,?_,I.h,λb i j=>?_,λj z=>?_⟩
        .rw[<-f];exact iS (kQ H (DJ (gX (gL rfl rfl C)) (gX (iY rfl rfl (by rw[Q,aB o]))))) rfl
        .rcases ai.mp i with q|q
         .exact I.hi1 b q j
         .rw[aj.mp q,<-J];exact⟨p,f,by grind⟩
        .obtain⟨b,A,B⟩:=I.hi2 j z;exact⟨b,ax _ A,B⟩
     .refine⟨n,iS (tJ (gX (gL (gL rfl rfl F) rfl (by rw[oy];simp[E])))) rfl,I.h,λb i j=>?_,λj z=>?_⟩
      .rcases ai.mp i with q|q
       .exact I.hi1 b q j
       .rw[aj.mp q]at j;exact absurd j E
      .obtain⟨b,A,B⟩:=I.hi2 j z;exact⟨b,ax _ A,B⟩
    refine⟨_,_,rfl,.inl (jf (gX (gL (gL rfl rfl F) rfl (by rw[nO];simp[Y]))) (gM (s1 D) (gM s2 s3))),v,w,some (.p (tI r)),some (.p (fr en)),rfl,?_⟩;rw[tk];exact⟨M1,H1,M2,M3,H2,H3⟩)
 rw[aG,dP]at hI;exact⟨u,n,iI rfl (gM (gU (t:=.non) rfl rfl) (gM (gU (t:=.non) rfl rfl) (gM (jT rfl e) (ig (pZ rfl rfl))))),hI⟩
def t9{s:Int}(e:∀q,s*r q=y q):(s:Rat)*kg d X r=kg d X y:=by have:=tV (d:=d) (X:=X) y y r s 1 0 (λi=>by rw[e i];lia);have a:((1:Int):Rat)=1:=rfl;have b:((0:Int):Rat)=0:=rfl;rw[a,b]at this;grind
def P0(st:Bool)(x:Rat):Prop:=if st=true then 0<x else 0<=x
def P0.pos{st x}(h:0<x):P0 st x:=by unfold P0;split<;>grind
def P0.nn{st x}(h:P0 st x):0<=x:=by unfold P0 at h;split at h<;>grind
def P0.add{st x y}(h:P0 st x)(a:0<=y):P0 st (x+y):=by unfold P0 at *;split<;>simp_all<;>grind
def P0.mul{st x s}(a:0<s)(h:P0 st x):P0 st (s*x):=by
 unfold P0 at *;split
 .rw[aQ (by assumption)]at h;exact eT a h
 .rw[aR (by assumption)]at h;exact fN (eU a) h
def P0.of_mul{st x s}(a:0<s)(h:P0 st (s*x)):P0 st x:=by
 have:=P0.mul (s:=s⁻¹) (Rat.inv_pos.mpr a) h;have e:s⁻¹*(s*x)=x:=by grind
 rwa [e]at this
def Cn.p0{st}{f:Vc->Rat}(d:∀x y z (s a b:Int),(∀i,s*z i=a*x i+b*y i)->(s:Rat)*f z=(a:Rat)*f x+(b:Rat)*f y)(g:∀x,P x->P0 st (f x))(h:Cn P z):P0 st (f z):=by
 cases st with
 |true=>exact (Cn.posQ d (λx k=>g x k) h:0<f z)
 |false=>
  show 0<=f z;induction h with
  |of h=>exact g _ h
  |lin _ _ hs ha hb hab e i1 i2=>rename_i x y z s a b _ _;have q:=d _ _ _ _ _ _ e;have j:(0:Rat)<(s:Rat):=nN hs;have m:=fN (show (0:Rat)<=(a:Rat) by exact_mod_cast ha) i1;have l:=fN (show (0:Rat)<=(b:Rat) by exact_mod_cast hb) i2;refine Rat.le_of_mul_le_mul_left (c:=(s:Rat)) ?_ j;rw[q];grind
theorem Fm{sb:Bool}{d n:Nat}{ss ix:List Nat}{f:LL}(h:Ip d n ss ix f){j:Nat}{G:LL}{w:List Nat}{E:List (LL)}(N:Ic d ix.length j G w E) :
  ∀(F:List Vc),F.length=j->(∀r∈G,r.length=d+1+n/\∃t,kY f.length F t/\∃s:Int,0<s/\∀q,s*vc r q=Lt f.length (λj=>vc (f.getD j [])) t q)->(∀u,kY f.length F u->Cn (Qw f F G) u)->∀(Z:Nat->Prop),(∀r∈G,∀p,Z p->vc r p=0)->
  (∀(i a:Nat),w[i]? = some a->∃J C,E[i]? = some J/\E[i+1]? = some C/\(∀r∈J,vc r a=0->r∈C)/\∀X:Nat->Rat,(∀r∈C,P0 sb (kg d X (vc r)))->∀x∈J,∀y∈J,0<vc x a->vc y a<0->P0 sb (-(vc y a:Rat)*kg d X (vc x)+(vc x a:Rat)*kg d X (vc y)))/\
  ∃Gl,E[w.length]? = some Gl/\E.getLast? = some Gl/\(∀r∈Gl,∀p,(Z p\/p∈w)->vc r p=0)/\∀r∈Gl,r.length=d+1+n/\∃t,kY f.length [] t/\∃s:Int,0<s/\∀q,s*vc r q=Lt f.length (λj=>vc (f.getD j [])) t q:=by
 induction N with
 |nil=>
  rename_i j G;intro F S K Q Z hz;refine⟨λi a q=>by simp at q,G,rfl,rfl,λr hr p o=>?_,λr hr=>?_⟩
  .simp_all
  .obtain⟨l,t,I,q⟩:=K r hr;exact⟨l,t,Ik I λA S=>(nomatch S),q⟩
 |cons st N ih=>
  rename_i j a G G' w E;intro F S K Q Z hz;subst S;obtain⟨hG',H⟩:=Bp h K Q st;obtain⟨i1,Gl,i2,i3,i4,i5⟩:=ih ((λj=>vc (f.getD j []) a)::F) (by simp) hG' H (λp=>Z p\/p=a) (λr hr p o=>by
   rcases st.from_ r hr with⟨L,q2⟩|⟨x,hx,y,N,px,ny,hj⟩
   .grind
   .rcases o with o|rfl
    .obtain⟨g,hg,v⟩:=hj.ex;refine Co (g:=g) (by lia) ?_;rw[v p,hz x hx p o,hz y N p o];simp
    .exact hj.at0)
  have l0:E[0]? = some G':=by cases N<;>rfl
  have lne:E≠[]:=λz=>by rw[z]at l0;cases l0
  refine⟨λi b q=>?_,Gl,?_,?_,λr hr p o=>i4 r hr p ?_,i5⟩
  .cases i with
   |zero=>
    simp at q;subst q;refine⟨G,G',rfl,by simpa using l0,st.stay,λX hX x hx y hy' px ny=>?_⟩;obtain⟨_,t,I,s,hs,e⟩:=K x hx;obtain⟨_,k,D,s',P,e'⟩:=K y hy';let A:Vc:=λj=>vc (f.getD j []) a;have R:∀t,jB f.length A t=Lt f.length (λj=>vc (f.getD j [])) t a:=λt=>Cm f.length (λj=>vc (f.getD j [])) t a;have p1:0<jB f.length A t:=by rw[R,<-e a];exact aX hs px
    have p2:jB f.length A k<0:=by rw[R,<-e' a];exact eO P ny
    have cz:kY f.length (A::F) (λi=>(-jB f.length A k)*t i+jB f.length A t*k i):=by
     have lin:∀B,jB f.length B (λi=>(-jB f.length A k)*t i+jB f.length A t*k i)=(-jB f.length A k)*jB f.length B t+jB f.length A t*jB f.length B k:=λB=>by have:=qp (m:=f.length) (A:=B) (x:=t) (y:=k) (z:=λi=>(-jB f.length A k)*t i+jB f.length A t*k i) (s:=1) (a:=-jB f.length A k) (b:=jB f.length A t) (λi=>by grind);simpa using this
     obtain⟨j,hj⟩:=I.ne;have L:0 < -jB f.length A k:=by lia
     refine⟨λi=>?_,λi hi=>?_,⟨j,?_⟩,λB U=>?_⟩
     .have x1:=aP (aA L) (I.nn i);have x2:=aP (aA p1) (D.nn i);lia
     .rw[I.out i hi,D.out i hi];simp
     .have gj:0<t j:=by have:=I.nn j;lia
      have x1:=aX L gj;have x2:=aP (aA p1) (D.nn j);lia
     .rw[lin B];rcases aF.mp U with rfl|U
      .grind
      .rw[I.eq B U,D.eq B U];simp
    have hf:∀x y z (s a b:Int),(∀i,s*z i=a*x i+b*y i)->(s:Rat)*kg d X (Lt f.length (λj=>vc (f.getD j [])) z)=(a:Rat)*kg d X (Lt f.length (λj=>vc (f.getD j [])) x)+(b:Rat)*kg d X (Lt f.length (λj=>vc (f.getD j [])) y):=λx y z s a b hh=>tV _ _ _ s a b λi=>Dm hh i;have pos:=Cn.p0 (st:=sb) hf (λu ⟨_,r,hr,s2,hs2,e2⟩=>by rw[<-t9 (λq=>e2 q)];exact P0.mul (nN hs2) (hX r hr)) (H _ cz)
    have lz:=hf t k (λi=>(-jB f.length A k)*t i+jB f.length A t*k i) 1 (-jB f.length A k) (jB f.length A t) (λi=>by grind);have e1:=t9 (d:=d) (X:=X) (λq=>e q);have e2:=t9 (d:=d) (X:=X) (λq=>e' q);have a1:(jB f.length A t:Rat)=(s:Rat)*(vc x a:Rat):=by rw[R,<-e a];simp
    have a2:(jB f.length A k:Rat)=(s':Rat)*(vc y a:Rat):=by rw[R,<-e' a];simp
    have Y:=eT (nN hs) (nN P);refine P0.of_mul Y ?_;have ev:kg d X (Lt f.length (λj=>vc (f.getD j [])) (λi=>(-jB f.length A k)*t i+jB f.length A t*k i))=(s:Rat)*(s':Rat)*(-(vc y a:Rat)*kg d X (vc x)+(vc x a:Rat)*kg d X (vc y)):=by grind
    rw[<-ev];exact pos
   |succ i=>obtain⟨J,C,L,q2,q3⟩:=i1 i b (by simpa using q);exact⟨J,C,by simpa using L,by simpa using q2,q3⟩
  .simpa using i2
  .rw[List.getLast?_cons_of_ne_nil lne];exact i3
  .rcases o with o|o
   .exact .inl (.inl o)
   .rcases aF.mp o with o|o
    .exact .inl (.inr o)
    .exact .inr o
noncomputable def Sb(N d m:Nat):Nat->Nat
 |0=>d
 |i+1=>2*Sb N d m i+Nb N (m-1-i)+22
def P5 s a f:nY (s.set a f)<=nY s+wt f:=by
 induction s generalizing a with
 |nil=>simp[nY]
 |cons p s ih=>
  cases a with
  |zero=>simp[nY];lia
  |succ a=>
   have:=ih a;have d:nY ((p::s).set (a+1) f)=wt p+nY (s.set a f):=by rw[List.set_cons_succ];simp[nY]
   have b:nY (p::s)=wt p+nY s:=by simp[nY]
   lia
def yH n k (h:k<n):Av n (k:Int)=some k:=by unfold Av;rw[aQ (by lia),aQ (by lia)];simp
def Q4 l (k:Nat) t (h:l[k]? = some t):ja (.lst l) (.int (k:Int))=.ok t:=by
 have a:=(aa.mp h).1;have:uD l k=some t:=by unfold uD;rw[yH _ _ a];exact h
 simp[this]
def Nk{l:List Nat}(h:l.Nodup){i j a:Nat}(k:l[i]? = some a)(m:l[j]? = some a):i=j:=by
 obtain⟨f,e⟩:=aa.mp k;obtain⟨g,d⟩:=aa.mp m;have b:=cK.mp h;rcases cI i j with q|q|q
 .exact absurd (e.trans d.symm) (b i j f g q)
 .exact q
 .exact absurd (d.trans e.symm) (b j i g f q)
def BV(V:Nat)(p:Int×Int):Prop:=Bn V p.2/\Bn (V+30) p.1
def LV{p:Int×Int}(h:Fq p):Cu.U7 p.1 p.2 p.1 p.2:=⟨h.pos,h.one,rfl⟩
def PM{p r:Int×Int}(d:Fq p)(hr:Fq r)(e:qv p=qv r):p=r:=by
 have h:=nN d.pos;have i:=nN hr.pos;have f:(p.1:Rat)*(r.2:Rat)=(r.1:Rat)*(p.2:Rat):=by unfold qv at e;grind
 have g:p.1*r.2=r.1*p.2:=by exact_mod_cast f
 obtain⟨a,b⟩:=Cu.Ka (by have:=d.pos;lia) (by have:=hr.pos;lia) (LV d) (LV hr) g;exact Prod.ext a b
def Ay{st:Bool} E (m:E<=7000) lo hi (k:Oe E lo) (o:Oe E hi) (j:∀p,lo=some p->Fq p) (l:∀p,hi=some p->Fq p) (i:∀p r,lo=some p->hi=some r->P0 st (qv r-qv p)) :
  ∃x,kz c [oT lo,oT hi]=.ok (fr x)/\Fq x/\(∀p,lo=some p->P0 st (qv x-qv p))/\(∀r,hi=some r->P0 st (qv r-qv x))/\Bn (E+2) x.1/\Bn (E+1) x.2:=by
 by_cases h:∀p r,lo=some p->hi=some r->qv p<qv r
 .obtain⟨x,n,b,f,g⟩:=yT (c:=c) E m lo hi k o h;exact⟨x,n,⟨b.pos,b.one⟩,λp e=>P0.pos (by have:=b.lo p e;grind),λr e=>P0.pos (by have:=b.hi r e;grind),f,g⟩
 .simp only[Classical.not_forall]at h;obtain⟨p,r,a,d,s⟩:=h;have q:=i p r a d;have u:=q.nn;have e:qv p=qv r:=by grind
  obtain rfl:=PM (j p a) (l r d) e;have z:P0 st (qv p-qv p):=q;obtain⟨-,f,g⟩:=k p a;subst a d;refine⟨p,iI rfl (lS (t:=fr p) (jf (kQ rfl (gX (gL rfl rfl (by rw[show oT (some p)=fr p from rfl,MB,aC rfl])))) (ig rfl)) rfl),j p rfl,λ_ e=>by cases e;exact z,λ_ e=>by cases e;exact z,f.mono (by lia),g.mono (by lia)⟩
theorem tH{st:Bool}{d n:Nat}{ss ix:List Nat}{f:LL}(h:Ip d n ss ix f)(N:Nat)(h1N:1<=N)(hd:d<=10){b:List Nat}{F:List (LL)}(hy:Ic d ix.length 0 f b F)(hpm:b.length<=10)(hpd:∀a∈b,a<d)(hnd:b.Nodup)(hb:∀(i:Nat) G,F[i]? = some G->∀r∈G,r.length=d+1+n/\∀x∈r,Bn (Nb N i) x)
  (Z:Nat->Prop) (hZ:∀r∈f,∀p,Z p->vc r p=0) (C:List (Int×Int)) (h0w:nY C<=d) (h0l:C.length=d) (h0z:∀a∈b,C.getD a (0,1)=(0,1)) (Au:∀Gl,F.getLast? = some Gl->(∀r∈Gl,∀p,(Z p\/p∈b)->vc r p=0)->∀r∈Gl,P0 st (kg d (Xs C) (vc r))) (hE:∀i,i<b.length->Nb N (b.length-1-i)+Sb N d b.length i+20<=7000) (V:Nat) (h1V:1<=V) (hV:∀i,i<b.length->Nb N (b.length-1-i)+Sb N d b.length i+21<=V) (h0q:∀p∈C,Fq p/\BV V p) :
  ∃s:List (Int×Int),jW c [.lst (F.map λg=>T.lst (g.map tI)),.lst (b.map λ(j:Nat)=>T.int (j:Int)),.lst (C.map fr)]=.ok (s.map fr)/\s.length=d/\(∀p∈s,Fq p/\BV V p)/\nY s<=Sb N d b.length b.length/\(∀p,p<d->p∉b->s.getD p (0,1)=C.getD p (0,1))/\∀r∈f,P0 st (kg d (Xs s) (vc r)):=by
 have sz:1000<sizeLine:=by decide
 have g0:∀r∈f,r.length=d+1+n/\∃t,kY f.length [] t/\∃s:Int,0<s/\∀q,s*vc r q=Lt f.length (λj=>vc (f.getD j [])) t q:=λr hr=>by
  obtain⟨j,hj⟩:=dG.mp hr;have jl:=(aa.mp hj).1;have ej:f.getD j []=r:=by rw[af,hj];rfl
  refine⟨h.l r hr,rN j,⟨λi=>by unfold rN;split<;>lia,λi B=>by unfold rN;rw[aR (by lia)],⟨j,by simp[rN]⟩,λA hA=>(nomatch hA)⟩,1,by decide,λq=>?_⟩;rw[xZ f.length _ j jl q,ej,dQ]
 have gen0:∀u,kY f.length [] u->Cn (Qw f [] f) u:=λu hu=>(Bg f.length (cs f.length u) u (aK _) hu).mono λx ⟨i,B,Y⟩=>by
  subst Y;have hm:f.getD i []∈f:=by rw[af,ag B];exact aV B
  refine⟨⟨λk=>by unfold rN;split<;>lia,λk hk=>by unfold rN;rw[aR (by lia)],⟨i,by simp[rN]⟩,λA hA=>(nomatch hA)⟩,f.getD i [],hm,1,by decide,λq=>?_⟩;rw[xZ f.length _ i B q,dQ]
 obtain⟨at_,Gl,la1,la2,la3,la4⟩:=Fm (sb:=st) h hy [] rfl g0 gen0 Z hZ;let m:=b.length;let R (s:List (Int×Int)) (U x5 S:Option W):En:=[some (.p (.lst (F.map λg=>T.lst (g.map tI)))),some (.p (.lst (b.map λ(j:Nat)=>T.int (j:Int)))),some (.p (.lst (C.map fr))),some (.o (s.map fr)),U,x5,S];obtain⟨ρ,e,s,U,x5,S,rfl,k1,k2,X,K,G,I,k6⟩:=jE (m:=mj 2 (i8 (j6 4) (i8 (j6 5) ml))) (g:=rS c) (λ(p:Nat×Nat)=>T.tup [.int (p.2:Int),.int (p.1:Int)])
  (λi ρ=>∃(s:List (Int×Int)) (U x5 S:Option W),ρ=R s U x5 S/\s.length=d/\(∀p∈s,Fq p/\BV V p)/\nY s<=Sb N d m i/\(∀p,p<d->p∉b.drop (m-i)->s.getD p (0,1)=C.getD p (0,1))/\∃G,F[m-i]? = some G/\∀r∈G,P0 st (kg d (Xs s) (vc r)))
  b.zipIdx.reverse 0 (R C none none none) ⟨C,none,none,none,rfl,h0l,h0q,h0w,λ_ _ _=>rfl,Gl,by simpa[m] using la1,Au Gl la2 la3⟩ (by
   rintro i ⟨a,jn⟩ ρ B ⟨s,U,x5,S,rfl,k1,k2,X,K,G',I,k6⟩;rw[aG]at X K I ⊢;have il:i<m:=by have:=(aa.mp B).1;simpa[m] using this
   rw[List.getElem?_reverse (by simpa[m] using il)]at B;have hz:b.zipIdx.length-1-i=m-1-i:=by simp[m]
   rw[hz,List.getElem?_zipIdx]at B;have hpl:b[m-1-i]? = some a/\jn=m-1-i:=by
    cases q:b[m-1-i]? with
    |none=>rw[q]at B;cases B
    |some a'=>rw[q]at B;simp at B;exact⟨by rw[B.1],B.2.symm⟩
   obtain⟨D,hjn⟩:=hpl;subst hjn;have am:=au D;have ad:=hpd a am;obtain⟨G,G2,q1,q2,q3,q4⟩:=at_ (m-1-i) a D;have e2:m-1-i+1=m-i:=by lia
   rw[e2,I]at q2;cases q2;have hGb:=hb (m-1-i) G q1;have hEi:=hE i il;have k3':=X;have hE2:Nb N (m-1-i)+nY s+20<=7000:=by show Nb N (m-1-i)+nY s+20<=7000;lia
   have n1:1<=Nb N (m-1-i):=aN h1N (yq N (bL _));obtain⟨H,w,ee,E⟩:=G9 (c:=c) d a (Nb N (m-1-i)) (d+1+n) (by lia) ad hd n1 s k1 (λp L=>(k2 p L).1) (by lia) G hGb;have sa:s.getD a (0,1)=(0,1):=Eq.trans (K a ad λhm=>by obtain⟨q,hq⟩:=dG.mp hm;rw[List.getElem?_drop]at hq;have:=Nk hnd D hq;lia) (h0z a am)
   have Xa:Xs s a=0:=by unfold Xs;rw[sa,WU]
   have lt:∀p r,H=some p->w=some r->P0 st (qv r-qv p):=λp r ep er=>by
    obtain⟨x,hx,px,Y,-⟩:=E.lo2 p ep;obtain⟨y,hy',ny,ey,-⟩:=E.hi2 r er;have key:=q4 (Xs s) k6 x hx y hy' px ny;rw[Y,ey];unfold sU;have a1:(0:Rat)<(vc x a:Rat):=nN px;have a2:(0:Rat) < -(vc y a:Rat):=by have:=nN (show 0 < -vc y a by lia);simpa using this
    generalize kg d (Xs s) (vc x)=e1 at *;generalize kg d (Xs s) (vc y)=e2 at *;generalize (vc x a:Rat)=u at *;generalize (vc y a:Rat)=v at *;refine P0.of_mul (eT a1 a2) ?_;have u0:u≠0:=by grind
    have v0:v≠0:=by grind
    have P:u * -v*(-e2 / v - -e1 / u) = -v*e1+u*e2:=by grind
    rw[P];exact key
   obtain⟨x,Y,gd,glo,ghi,bx1,bx2⟩:=Ay (c:=c) (st:=st) (Nb N (m-1-i)+nY s+20) hE2 H w E.l E.h (λp e=>⟨(E.l p e).1,let ⟨_,_,_,_,h⟩:=E.lo2 p e;h⟩) (λp e=>⟨(E.h p e).1,let ⟨_,_,_,_,h⟩:=E.hi2 p e;h⟩) lt;have wx:wt x<=(Nb N (m-1-i)+nY s+20)+2:=Nat.max_le.mpr ⟨HA bx1 (by lia),HA (bx2.mono (by lia)) (by lia)⟩;have ixl:ja (.lst (F.map λg=>T.lst (g.map tI))) (.int ((m-1-i:Nat):Int))=.ok (.lst (G.map tI)):=by
    have q:(F.map λg=>T.lst (g.map tI))[m-1-i]? = some (T.lst (G.map tI)):=by rw[av,q1];rfl
    exact Q4 _ _ _ q
   have s1:setO 6 (oV (gS (gF (gR ja ah bu) (gF bi df)) (pH c))) (R s (some (.p (.int ((m-1-i:Nat):Int)))) (some (.p (.int (a:Int)))) S)=.nx (R s (some (.p (.int ((m-1-i:Nat):Int)))) (some (.p (.int (a:Int)))) (some (.p (.tup [oT H,oT w])))):=by refine ym (kW (x:=.lst (G.map tI)) (gL rfl rfl ixl) rfl rfl ee) ?_ rfl;cases H<;>cases w<;>rfl
   have s2:xS 3 (oV bi) (oV (gS (gF (gR ja em ac) (gF (gR ja em ab) gJ)) (kz c))) (R s (some (.p (.int ((m-1-i:Nat):Int)))) (some (.p (.int (a:Int)))) (some (.p (.tup [oT H,oT w]))))=.nx (R (s.set a x) (some (.p (.int ((m-1-i:Nat):Int)))) (some (.p (.int (a:Int)))) (some (.p (.tup [oT H,oT w])))):=by
    refine BO (us:=s.map fr) rfl (iY (x:=oT H) (y:=oT w) (gL rfl rfl rfl) (gL rfl rfl rfl) Y) rfl (j:=(a:Int)) (m:=a) rfl ?_ ?_
    .rw[aw];exact yH _ _ (by lia)
    .show _=List.set _ _ _;simp[R,dH]
   refine⟨_,_,rfl,.inl (gM s1 s2),s.set a x,some (.p (.int ((m-1-i:Nat):Int))),some (.p (.int (a:Int))),some (.p (.tup [oT H,oT w])),rfl,by rw[bV,k1],λp L=>?_,?_,λp L Q=>?_,G,by rw[show m-(i+1)=m-1-i by lia];exact q1,λr hr=>?_⟩
   .rcases fw L with q|q
    .exact k2 p q
    .rw[q];exact⟨gd,bx2.mono (by have:Nb N (m-1-i)+Sb N d m i+21<=V:=hV i il;lia),bx1.mono (by have:Nb N (m-1-i)+Sb N d m i+21<=V:=hV i il;lia)⟩
   .have:=P5 s a x;show _<=2*Sb N d m i+Nb N (m-1-i)+22;lia
   .rw[show m-(i+1)=m-1-i by lia]at Q;have dr:b.drop (m-1-i)=a::b.drop (m-i):=by have hlt:=(aa.mp D).1;rw[dc hlt,e2];congr 1;exact (aa.mp D).2
    rw[dr]at Q;have pa:p≠a:=λz=>Q (by simp[z]);rw[af,aq (λz=>pa z.symm),<-af];exact K p L λz=>Q (by simp[z])
   .rw[Mg s a x (by lia),HN ad,Xa];have nx:P0 st (kg d (Xs s) (vc r)+(vc r a:Rat)*(qv x-0)):=by
     rcases fH (vc r a) 0 with q|q|q
     .obtain⟨p,ep,le⟩:=E.hi1 r hr q;have J:=ghi p ep;unfold sU at le;have a2:(0:Rat) < -(vc r a:Rat):=by have:=nN (show 0 < -vc r a by lia);simpa using this
      generalize kg d (Xs s) (vc r)=e1 at *;generalize (vc r a:Rat)=v at *;have v0:v≠0:=by grind
      have t:=P0.mul a2 (J.add (y:=-e1 / v-qv p) (by grind));have P:-v*(qv p-qv x+(-e1 / v-qv p))=e1+v*(qv x-0):=by grind
      rwa [P]at t
     .have t:=k6 r (q3 r hr q);rw[q];have P:kg d (Xs s) (vc r)+((0:Int):Rat)*(qv x-0)=kg d (Xs s) (vc r):=by simp;grind
      rwa [P]
     .obtain⟨p,ep,le⟩:=E.lo1 r hr q;have J:=glo p ep;unfold sU at le;have a2:(0:Rat)<(vc r a:Rat):=nN q;generalize kg d (Xs s) (vc r)=e1 at *;generalize (vc r a:Rat)=v at *;have v0:v≠0:=by grind
      have t:=P0.mul a2 (J.add (y:=qv p - -e1 / v) (by grind));have P:v*(qv x-qv p+(qv p - -e1 / v))=e1+v*(qv x-0):=by grind
      rwa [P]at t
    exact nx)
 have fl:(b.zipIdx.reverse).length=m:=by simp[m]
 rw[aG,fl]at X K I;rw[fO]at K I;have G0:F[0]? = some f:=by cases hy<;>rfl
 rw[G0]at I;cases I;have ito:J5 (gF (jw (UB bc)) gJ) (mD (R C none none none))=.ok (b.zipIdx.reverse.map λ(p:Nat×Nat)=>T.tup [.int (p.2:Int),.int (p.1:Int)]):=by have le:UB bc (mD (R C none none none))=.ok (oU (b.map λ(j:Nat)=>T.int (j:Int))):=rfl;simp only[J5,gF,gJ,jw,le,M.bind_ok];rw[tY,List.map_reverse]
 refine⟨s,mx rfl (gM (ou (ts:=C.map fr) rfl rfl) (gM (jT ito e) rfl)),k1,k2,X,λp L Q=>K p L (by simpa using Q),k6⟩
def xO{d n:Nat}{D ix:List Nat}{k:LL}(h:Ip d n D ix k)(N:Nat)(u:1<=N)(Q:d<=10){b:List Nat}{l:List (LL)}(P:Ic d ix.length 0 k b l)(m:b.length<=10)(y:∀a∈b,a<d)(o:b.Nodup)(H:∀(i:Nat) G,l[i]? = some G->∀r∈G,r.length=d+1+n/\∀x∈r,Bn (Nb N i) x)
  (Z:Nat->Prop) (U:∀r∈k,∀p,Z p->vc r p=0) (L:∀p,p<d->Z p\/p∈b) (K:∀Gl,l.getLast? = some Gl->∀r∈Gl,vc r d<0) (E:∀i,i<b.length->Nb N (b.length-1-i)+Sb N d b.length i+20<=7000) (V:Nat) (v:1<=V) (A:∀i,i<b.length->Nb N (b.length-1-i)+Sb N d b.length i+21<=V) :
  ∃s:List (Int×Int),jW c [.lst (l.map λg=>T.lst (g.map tI)),.lst (b.map λ(j:Nat)=>T.int (j:Int)),.lst ((List.replicate d ((0,1):Int×Int)).map fr)]=.ok (s.map fr)/\s.length=d/\(∀p∈s,Fq p/\BV V p)/\nY s<=Sb N d b.length b.length/\(∀p,p<d->p∉b->s.getD p (0,1)=(0,1))/\∀r∈k,0<kg d (Xs s) (vc r):=by
 have w:Fq (0,1):=⟨by decide,by decide⟩;have g0:∀p,(List.replicate d ((0,1):Int×Int)).getD p (0,1)=(0,1):=λp=>by rw[af,List.getElem?_replicate];split<;>rfl
 obtain⟨s,e,S,J,z,X,B⟩:=tH (c:=c) (st:=true) h N u Q P m y o H Z U (List.replicate d (0,1)) (by
   have F:wt (0,1)=1:=by decide
   simp[nY,F]) (by simp) (λa _=>g0 a) (λGl C R r hr=>by
   rw[tm λp f=>R r hr p (L p f)];have:=K Gl C r hr;have q:=nN (show 0 < -vc r d by lia);exact P0.pos (by simpa using q)) E V v A λp f=>by rw[bg f];exact⟨w,(zb (n:=0)).mono (by lia),qq⟩
 exact⟨s,e,S,J,z,λp f I=>(X p f I).trans (g0 p),B⟩
def Bu row s (b:s.natAbs<=1) (a:row.length<=1000):nK c [tI row,.int s]=.ok (tI (row.map λx=>s*x)):=by
 have sz:1000<sizeLine:=by decide
 refine iI rfl (ig (n8 (iC (jC row T.int (λx=>T.int (s*x)) rfl (by lia) (λx d=>⟨_,rfl,rfl,gL rfl rfl (iE (qX (by lia)))⟩) (by rw[aI];rfl))) rfl))
def vE row s i:vc (row.map λx=>s*x) i=s*vc row i:=by unfold vc;rw[af,af,av];cases row[i]?<;>simp
def HV(a:s.natAbs<=1)(h:Bn N x):Bn N (s*x):=by unfold Bn at *;rw[aY];refine cg ?_ h;exact aN (fP _ a) (by lia)
def Qi(h:f ρ=.ok (tI ys)):jw (Ba mw (gF f gJ)) ρ=.ok (tL ys):=by simp only[jw,Ba,gF,gJ,h,M.bind_ok];rfl
def HB us:(us.zipIdx.map λp=>p.1++(List.replicate us.length (0:Int)).set p.2 1)=(List.range us.length).map (wr us):=by
 apply List.ext_getElem
 .simp
 .intro i a b;simp only[aw,fQ]at a;simp[wr,List.getElem_zipIdx,a]
structure WS(n:Nat)(sg:LI):Prop where
 len:sg.length=n
 one:∀x∈sg,x.natAbs<=1
def JY(h:∀i,i<=d->x i=y i):kg d X x=kg d X y:=by unfold kg;rw[kj d _ (λp=>(y p)*X p) λp a=>by rw[h p (by lia)],h d (aK _)]
def Pk r k i:vc (r.drop k) i=vc r (k+i):=by unfold vc;rw[af,af,List.getElem?_drop]
def HI m j0 (b:j0<m) f (h:∀j,j<m->j≠j0->f j=0):sm m f=f j0:=by
 rw[<-G3 m j0 f b];refine iZ m _ _ λj a=>?_;by_cases q:j=j0
 .rw[aQ q];lia
 .rw[aR q,h j a q];rfl
def Ri(n:Nat)(b:n<=1000)(h:f ρ=.ok (.int (n:Int))):jw (xm (jw fI) f) ρ=.ok (.lst ((List.replicate n ((0,1):Int×Int)).map fr)):=by
 have sz:1000<sizeLine:=by decide
 have hr:Fu n=true:=pL (by lia);have g:2<=sizeLine:=by decide
 have a:n<=sizeLine:=by lia
 have e:(List.replicate n [T.tup [T.int 0,T.int 1]]).flatten=(List.replicate n ((0,1):Int×Int)).map fr:=by
  clear h hr a b;induction n with
  |zero=>rfl
  |succ n ih=>rw[bY,bZ,ih,bY];rfl
 have d:jw fI ρ=.ok (.lst [T.tup [T.int 0,T.int 1]]):=R6 (pZ rfl rfl);refine iC ?_;unfold xm;rw[d,h];simp[hr,a];exact .inr rfl
def Ip.g0(h:Ip d n ss ix sd):∀r∈sd,r.length=d+1+n/\∃t,kY sd.length [] t/\∃s:Int,0<s/\∀q,s*vc r q=Lt sd.length (λj=>vc (sd.getD j [])) t q:=λr hr=>by
 obtain⟨j,a⟩:=dG.mp hr;have f:=(aa.mp a).1;have e:sd.getD j []=r:=by rw[af,a];rfl
 refine⟨h.l r hr,rN j,⟨λi=>by unfold rN;split<;>lia,λi g=>by unfold rN;rw[aR (by lia)],⟨j,by simp[rN]⟩,λA b=>(nomatch b)⟩,1,by decide,λq=>?_⟩;rw[xZ sd.length _ j f q,e,dQ]
def Ip.gen0(_:Ip d n ss ix sd):∀u,kY sd.length [] u->Cn (Qw sd [] sd) u:=λu e=>(Bg sd.length (cs sd.length u) u (aK _) e).mono λx ⟨i,hi,ex⟩=>by
 subst ex;have b:sd.getD i []∈sd:=by rw[af,ag hi];exact aV hi
 refine⟨⟨λk=>by unfold rN;split<;>lia,λk f=>by unfold rN;rw[aR (by lia)],⟨i,by simp[rN]⟩,λA a=>(nomatch a)⟩,sd.getD i [],b,1,by decide,λq=>?_⟩;rw[xZ sd.length _ i hi q,dQ]
def CU(b:ns.length=d)(e:∀x∈ns,Bn 84 x)(hv:Bn 84 v)(hr:∃p,p<d/\vc ns p≠0):GC d 84 (ns++[v]):=by
 refine⟨⟨by simp[b],λx f=>?_⟩,?_⟩
 .rcases ai.mp f with q|q
  .exact e x q
  .rw[aj.mp q];exact hv
 .obtain⟨p,a,h⟩:=hr;refine⟨p,a,?_⟩;unfold vc at *;rw[af,List.getElem?_append_left (by lia),<-af];exact h
def OZ(g:ns.length=d)(h:ns≠List.replicate d 0):∃p,p<d/\vc ns p≠0:=by
 refine aO λk=>h (List.eq_replicate_iff.mpr ⟨g,λb j=>?_⟩);obtain⟨i,f⟩:=List.getElem?_of_mem j;have e:i<d:=by have:=(aa.mp f).1;lia
 refine aO λa=>k ⟨i,e,?_⟩;unfold vc;rw[af,f];exact a
def SL(b:LI)(g:∀x∈b,x.natAbs<=3):(((b.zip [1,2,(-1:Int)]).map λ(p:Int×Int)=>p.1*p.2).sum).natAbs<=1000:=by
 have e:∀b d:LI,(∀x∈b,x.natAbs<=3)->(((b.zip d).map λ(p:Int×Int)=>p.1*p.2).sum).natAbs<=3*(d.map Int.natAbs).sum:=λb=>by
  induction b with
  |nil=>intro _ _;exact bL _
  |cons a l ih=>
   intro d h;cases d with
   |nil=>exact bL _
   |cons k d=>rw[fM,bI,eV,bI,eV,Nat.mul_add];refine aN (dA _ _) (Nat.add_le_add ?_ (ih d λx f=>h x (bz _ f)));rw[aY];exact fP _ (h a bx)
 exact aN (e b _ g) (by decide)
def FB cell d (fs:LL) (hd:1<=d/\d<=3) (hf:∀f∈fs,GC d 84 f) (hfl:fs.length<=10) :
  ∃u,pE c [.int cell,.int d,.lst (fs.map tI)]=.ok (tI u)/\GC d 84 u:=by
 have sz:1000<sizeLine:=by decide
 let l:LI:=(List.range d).map λ(j:Nat)=>dr c cell j 7-3;have l0:l.length=d:=by simp[l]
 have b0:∀x∈l,x.natAbs<=3:=λx E=>by obtain⟨j,hj,rfl⟩:=aD.mp E;have hj':=aS.mp hj;obtain⟨_,a1,a2⟩:=lQ (c:=c) cell j 7 (by lia) (by lia) (by lia) (by lia);lia
 obtain⟨d6,d6a,d6b⟩:=lQ (c:=c) cell 6 9 (by decide) (by decide) (by lia) (by lia);obtain⟨d7,d7a,d7b⟩:=lQ (c:=c) cell 7 7 (by decide) (by decide) (by lia) (by lia);generalize dr c cell 6 9=c0 at d6 d6a d6b;generalize dr c cell 7 7=way at d7 d7a d7b;let St:LI->Option W->Option W->Option W->En:=λu r s F=>[some (.p (.int cell)),some (.p (.int d)),some (.p (.lst (fs.map tI))),some (.o (u.map T.int)),r,s,F];have e0:j5 [none,some 0] (mM bc) bv (λ_=>.ok true) (Af c) (mD [some (.p (.int cell)),some (.p (.int d)),some (.p (.lst (fs.map tI))),none,none,none,none])=.ok (l.map T.int):=by refine jC (List.range d) (λ(j:Nat)=>T.int (j:Int)) (λ(j:Nat)=>T.int (dr c cell j 7-3)) (n5 d (by lia) rfl) (by simp;lia) (λj hj=>⟨_,rfl,rfl,?_⟩) (by rw[aI];rfl);have hj':=aS.mp hj;obtain⟨e,_,_⟩:=lQ (c:=c) cell j 7 (by lia) (by lia) (by lia) (by lia);exact gL (kW rfl rfl rfl e) rfl (nr _ _)
 obtain⟨g,e1,l1,b1,r1⟩:∃g,(mh (iR dL) (xS 3 (oV (gS (gF ah (gF (cM (.int 4)) bc)) (iM c))) (oV (gR jI ab (gS (gF ah (gF (cM (.int 5)) (gF d2 gJ))) (iM c))))) iT) (St l none none none)=.nx (St g none none none)/\g.length=d/\(∀x∈g,x.natAbs<=3)/\∃p,p<d/\vc g p≠0:=by
  have ec:iR dL (vw (St l none none none))=.ok (decide (l=List.replicate d 0)):=gX (gL (x:=.lst (l.map T.int)) (y:=.lst ((List.replicate d (0:Int)).map T.int)) rfl (Ra d (by lia) rfl) (by rw[Ke];rfl))
  by_cases hz:l=List.replicate d 0
  .obtain⟨d4,d4a,d4b⟩:=lQ (c:=c) cell 4 d (by lia) (by lia) (by lia) (by lia);obtain⟨d5,d5a,d5b⟩:=lQ (c:=c) cell 5 3 (by lia) (by lia) (by lia) (by lia);obtain⟨p,K⟩:∃p:Nat,dr c cell 4 d=(p:Int):=⟨(dr c cell 4 d).toNat,by lia⟩;rw[K]at d4 d4b;refine⟨l.set p (1+dr c cell 5 3),jf (by rw[ec,aC hz]) (BO (us:=l.map T.int) (t:=.int (1+dr c cell 5 3)) (j:=(p:Int)) (m:=p) rfl (gL rfl (kW rfl rfl rfl d5) (jH _ _)) rfl (kW rfl rfl rfl d4) (QD _ _ (by rw[aw];lia)) ?_),by rw[bV];exact l0,λx E=>?_,p,by lia,?_⟩
   .simp only[St,dH];rfl
   .rcases fw E with q|q
    .exact b0 x q
    .rw[q];lia
   .rw[TC _ _ _ _ (by lia),aQ rfl];lia
  .exact⟨l,iS (by rw[ec,aB hz]) rfl,l0,b0,OZ l0 hz⟩
 have C:∀x:Int,x.natAbs<=1000->Bn 84 x:=λx E=>Bn.mono (m:=10) (by unfold Bn;lia) (by decide);have hfe:∀neg,iA neg (.lst (fs.map tI)) (.lst [])=.ok (.bl (if neg then !fs.isEmpty else fs.isEmpty)):=λneg=>by rw[ye neg (fs.map tI) (by simp) (aN (zk fs) (by decide))];simp
 let r:Int->Option W:=λv=>some (.p (.int v));let s:Option W:=some (.p (.int way));have NL:∀{o:O},(gW (mh (mZ (iR io) (iR ir)) (pB 3 (qt (Ba mw (gF (ka (gR ja bd (gS fy (iM c))) (λ_=>.ok none) (ju al)) gJ)))) iT) _) (St g (r (c0-4)) s none)=o->BI c (i9 7 [.int cell,.int d,.lst (fs.map tI)])=o:=λ{o} h=>gM (ρ':=St l none none none) (ou e0 rfl) (gM (ρ':=St g none none none) e1 (gM (ρ':=St g (r (c0-4)) none none) (gU (gL (kW rfl rfl rfl d6) rfl (nr _ _)) rfl) (gM (ρ':=St g (r (c0-4)) s none) (gU (kW rfl rfl rfl d7) rfl) h)))
 have q1:iR io (vw (St g (r (c0-4)) s none))=.ok (way==1):=gX (gL (x:=.int way) rfl rfl (jK _ _));have q2:iR ir (vw (St g (r (c0-4)) s none))=.ok (!fs.isEmpty):=gX (gL (x:=.lst (fs.map tI)) (y:=.lst []) rfl (by simp) (by rw[hfe];rfl));have R:∀(u:LI) (v k:Int) F,iR (gR (iA false) bi (cM (.int k))) (vw (St u (r v) s F))=.ok (way==k):=λu v k F=>gX (gL (x:=.int way) rfl rfl (jK _ _));have B:∀(u:LI) (v:Int) F,u.length=d->iW (kG j7 (gF (jw (JE be (jw (lstM c4)))) gJ)) (St u (r v) s F)=.rt (tI (u++[v])):=λu v F hl=>ig (n8 (t:=.lst (u.map T.int++[.int v])) (iC (QH (a:=u.map T.int) (b:=[.int v]) rfl (R6 rfl) (by simp;lia))) (by simp[tI]))
 have D:∀(u:LI) (v:Int) F,(L3.wc (iR (gR (iA false) bi jd)) (iR (gR (iA false) bi d2))) (vw (St u (r v) s F))=.ok (way==2||way==3):=λu v F=>by simp only[L3.wc,R,M.bind_ok];cases way==2<;>rfl
 have L:¬(way=1/\fs≠[])->(L3.mZ (iR io) (iR ir)) (vw (St g (r (c0-4)) s none))=.ok false:=λhc=>by
  simp only[L3.mZ,q1,q2,M.bind_ok];by_cases J:way=1
  .have hn:fs=[]:=by
    by_cases hn:fs=[]
    .exact hn
    .exact absurd ⟨J,hn⟩ hc
   rw[J,hn];rfl
  .have:(way==1)=false:=by simpa using J
   rw[this];rfl
 by_cases hA:way=1/\fs≠[]
 .obtain⟨J,Y⟩:=hA;have hlp:=List.length_pos_iff.mpr Y;obtain⟨d3,d3a,d3b⟩:=lQ (c:=c) cell 8 fs.length (by lia) (by lia) (by lia) (by lia);obtain⟨f,ef,hfm⟩:=Gy fs (dr c cell 8 fs.length) d3a d3b;have gf:=hf f hfm;have tl:(f.take d).length=d:=by rw[bR,gf.gl.1];lia
  have nd:∀k:Int,k≠1->(way==k)=false:=λk hk=>by simp[J];lia
  refine⟨f.take d++[c0-4],iI rfl (NL (gM (ρ':=St (f.take d) (r (c0-4)) s none) (jf ?_ (ou (ts:=(f.take d).map T.int) ?_ rfl)) (gM (iS (by rw[D,nd 2 (by decide),nd 3 (by decide)];rfl) rfl) (gM (iS (by rw[R,nd 4 (by decide)]) rfl) (B _ _ _ tl))))),CU tl (λx E=>gf.gl.2 x (eg E)) (C _ (by lia)) ?_⟩
  .simp only[L3.mZ,q1,q2,M.bind_ok];rw[J];simp[Y]
  .have:=qL (fe:=gR ja bd (gS fy (iM c))) (fd:=gG 1) (d:=d) (ts:=f.map T.int) (ρ:=mD (St g (r (c0-4)) s none)) (gL (x:=.lst (fs.map tI)) (y:=.int (dr c cell 8 fs.length)) rfl (kW (z:=.int (fs.length:Int)) rfl rfl (n8 rfl (by simp)) d3) (by simp[t7,ef,tI])) rfl (by rw[aw,gf.gl.1];lia);simp only[Ba,gF,gJ,this,M.bind_ok];rw[dg];rfl
  .obtain⟨p,K,h⟩:=gf.re;refine⟨p,K,?_⟩;unfold vc at *;rw[af,List.getElem?_take,aQ K,<-af];exact h
 .have N:∀x∈g,Bn 84 x:=λx E=>C x (by have:=b1 x E;lia);by_cases H:way=2\/way=3
  .have t23:(way==2||way==3)=true:=by rcases H with h|h<;>rw[h]<;>rfl
   have n4:(way==4)=false:=by rcases H with h|h<;>rw[h]<;>rfl
   let v:Int:=((g.zip [1,2,-1]).map λp=>p.1*p.2).sum;have ez:j5 [none,none] (nq (gF be (gF (jw (lstM (gF ab (gF jd (gF (qw (λi=>.int (-i)) ab) gJ))))) gJ))) ap (λ_=>.ok true) (yL c) (vw (St g (r (c0-4)) s none))=.ok (((g.zip [1,2,-1]).map λp=>p.1*p.2).map T.int):=jC (g.zip [1,2,-1]) (λp=>T.tup [.int p.1,.int p.2]) (λp=>T.int (p.1*p.2)) (nC (x:=.lst (g.map T.int)) (y:=.lst ([1,2,-1].map T.int)) rfl rfl (iC rfl) rfl) (by rw[dZ];lia) (λp K=>⟨_,rfl,rfl,gL rfl rfl (md (by have:=b1 _ (aW K).1;lia))⟩) (by rw[aI];rfl)
   have vb:=SL g b1;exact⟨g++[v],iI rfl (NL (gM (iS (L hA) rfl) (gM (ρ':=St g (r v) s none) (jf (by rw[D,t23]) (ym (oC ez (zY _)) rfl rfl)) (gM (iS (by rw[R,n4]) rfl) (B _ _ _ l1))))),CU l1 N (C _ vb) r1⟩
  .have Q:(way==2||way==3)=false:=by have h2:¬way=2:=λz=>H (.inl z);have h3:¬way=3:=λz=>H (.inr z);simp[h2,h3]
   by_cases h4:way=4
   .obtain⟨d9,d9a,d9b⟩:=lQ (c:=c) cell 9 1000000 (by decide) (by decide) (by lia) (by lia);obtain⟨d11,U,X⟩:=lQ (c:=c) cell 11 3 (by decide) (by decide) (by lia) (by lia);obtain⟨Z,S,P⟩:=lQ (c:=c) cell 10 7 (by decide) (by decide) (by lia) (by lia);obtain⟨w,ew,hw⟩:=Pc [1,1,1000000000000000000] (dr c cell 11 3) U (by simpa using X);have e18:wF (.int 10) (.int 18)=.ok (.int 1000000000000000000):=by simp[wF,my]
    have e6:wF (.int 10) (.int 6)=.ok (.int 1000000):=by simp[wF,my]
    generalize dr c cell 9 1000000=f0 at d9 d9a d9b;generalize dr c cell 10 7=g0 at Z S P;let n:Int:=(1+f0)*w;have hw':1<=w/\w<=1000000000000000000:=by simp only[aF,de,or_false]at hw;lia
    have I:n.natAbs<=1000000*1000000000000000000:=by show ((1+f0)*w).natAbs<=_;rw[aY];exact fG (by lia) (by lia)
    have hfar1:1<=n:=by have:0<(1+f0)*w:=aX (by lia) (by lia);show 1<=(1+f0)*w;lia
    have hl3:jw (lstM (gF ab (gF ab (gF gn gJ)))) (mD (St g (r (c0-4)) s none))=.ok (.lst ([1,1,1000000000000000000].map T.int)):=by
     have o:gR wF (cM (.int 10)) (cM (.int 18)) (mD (St g (r (c0-4)) s none))=.ok (.int 1000000000000000000):=gL rfl rfl e18;have h3:3<=sizeLine:=by decide
     simp only[jw,lstM,gF,gJ,cM,o,M.bind_ok];rfl
    let A:LI:=g.map λx=>x*n;have es:j5 [none,some 6] (iU be) bv (λ_=>.ok true) (zF c) (vw (St g (r (c0-4)) s (some (.p (.int n)))))=.ok (A.map T.int):=jC g T.int (λx=>T.int (x*n)) rfl (by lia) (λx E=>⟨_,rfl,rfl,gL rfl rfl (md (by have:=b1 x E;lia))⟩) (by rw[aI];rfl)
    refine⟨A++[(c0-4)*n+g0],iI rfl (NL (gM (iS (L hA) rfl) (gM (iS (by rw[D,Q]) rfl) (gM (ρ':=St A (r ((c0-4)*n+g0)) s (some (.p (.int n)))) (jf (by rw[R,h4];rfl) (gM (ρ':=St g (r (c0-4)) s (some (.p (.int n)))) (gU (gL (gL rfl (kW (z:=.int 1000000) rfl rfl (gL rfl rfl e6) d9) (jH _ _)) (gL (x:=.lst ([1,1,1000000000000000000].map T.int)) (y:=.int (dr c cell 11 3)) hl3 (kW rfl rfl rfl d11) ew) (md (by lia))) rfl) (gM (ρ':=St A (r (c0-4)) s (some (.p (.int n)))) (PF es (Lg _) rfl) (gU (gL (gL rfl rfl (md (by lia))) (kW rfl rfl rfl Z) (jH _ _)) rfl)))) (B _ _ _ (by simp[A,l1])))))),CU (by simp[A,l1]) (λx E=>?_) ?_ ?_⟩
    .obtain⟨y,hy,rfl⟩:=aD.mp E;have:=b1 y hy;unfold Bn;rw[aY];refine cg (fG this I) (by decide)
    .unfold Bn;have J:((c0-4)*n).natAbs<=5*(1000000*1000000000000000000):=by rw[aY];exact fG (by lia) I
     have h2:=dA ((c0-4)*n) g0;refine cg (aN h2 (Nat.add_le_add J (show g0.natAbs<=7 by lia))) (by decide)
    .obtain⟨p,K,h⟩:=r1;refine⟨p,K,?_⟩;have:vc A p=vc g p*n:=by unfold vc;rw[af,af,av];cases g[p]?<;>simp
     rw[this];exact cZ h (by lia)
   .exact⟨g++[c0-4],iI rfl (NL (gM (iS (L hA) rfl) (gM (iS (by rw[D,Q]) rfl) (gM (iS (by rw[R];simp[h4]) rfl) (B _ _ _ l1))))),CU l1 N (C _ (by lia)) r1⟩
def GW(h:a.length=b.length):nE a b=nE b a:=by
 unfold nE;rw[h];congr 1;funext k;congr 1;funext j;rw[cV (vc a k),cV (vc a j)];by_cases q:vc b j*vc a k=vc b k*vc a j
 .rw[beq_iff_eq.mpr q,beq_iff_eq.mpr q.symm]
 .rw[beq_eq_false_iff_ne.mpr q,beq_eq_false_iff_ne.mpr λz=>q z.symm]
def xD ns (s d h:Nat) (Q:1<=d/\d<=3) (U:h<=7):∃cs:LL,mV c [.scr ns,.int s,.int d,.int h]=.ok (cs.map tI)/\yc d 84 cs/\cs.length<=h:=by
 have sz:1000<sizeLine:=by decide
 obtain⟨D,e,cs,C,w,rfl,u,r,A⟩:=jE (m:=j6 5) (g:=xx c) (λ(i:Nat)=>T.int (i:Int))
  (λk D=>∃(cs:LL) (C w:Option W),D=[some (.p (.scr ns)),some (.p (.int s)),some (.p (.int d)),some (.p (.int h)),some (.o (cs.map tI)),C,w]/\cs.length<=k/\(∀f∈cs,GC d 84 f)/\cs.Pairwise λa b=>nE a b=false)
  (List.range h) 0 _ ⟨[],none,none,rfl,aK _,(λf n=>nomatch n),List.Pairwise.nil⟩ (by
   rintro i k D H ⟨cs,C,w,rfl,u,r,A⟩;rw[aG]at u ⊢;have B:i<h:=by simpa using (aa.mp H).1
   have I:k=i:=by rw[List.getElem?_range B]at H;cases H;rfl
   subst I;obtain⟨v,P,-⟩:=uE ns (s+k);obtain⟨j,en,z⟩:=FB v d cs Q r (by lia);let R:En:=[some (.p (.scr ns)),some (.p (.int s)),some (.p (.int d)),some (.p (.int h)),some (.o (cs.map tI)),some (.p (.int (k:Int))),some (.p (tI j))];have S:j5 [none,some 6] (iU bu) bv (iR (gS (gF al bf) (mX c))) (sJ c) (vw R)=.ok ((cs.filter λf=>nE j f).map tI):=og cs tI tI (λf=>nE j f) rfl (by lia) (λf n=>⟨_,rfl,gX (iY rfl rfl (DK (d+1) 84 j f z.gl.1 (r f n).gl.1 (by lia) (by lia) z.gl.2 (r f n).gl.2)),λ_=>rfl⟩) rfl
   have K:iR (gR (iA false) (jw (j5 [none,some 6] (iU bu) bv (iR (gS (gF al bf) (mX c))) (sJ c))) cb) (vw R)=.ok (cs.filter λf=>nE j f).isEmpty:=by refine gX (gL (y:=.lst []) (iC S) (by simp) ?_);rw[ye false _ (by simp) (aN (zk _) (by decide))];simp
   have J:setO 6 (oV (gS (gF (gS (gF ah (gF (gR jI al bi) gJ)) (jk c)) (gF bd c4)) (pE c))) [some (.p (.scr ns)),some (.p (.int s)),some (.p (.int d)),some (.p (.int h)),some (.o (cs.map tI)),some (.p (.int (k:Int))),w]=.nx R:=ym (t:=tI j) (kW (iY (x:=.scr ns) (y:=.int ((s+k:Nat):Int)) rfl (gL rfl rfl (by rw[jH];simp)) P) rfl rfl en) (Hk j) rfl
   by_cases E:(cs.filter λf=>nE j f)=[]
   .refine⟨_,_,rfl,.inl (gM J (jf (K.trans (by rw[E];rfl)) (wO (us:=cs.map tI) (t:=tI j) rfl rfl (by simp;lia) rfl))),cs++[j],_,_,by rw[aZ];rfl,by simp;lia,λf n=>?_,eA.mpr ⟨A,fR _ _,λf n g F=>?_⟩⟩
    .rcases ai.mp n with q|q
     .exact r f q
     .rw[aj.mp q];exact z
    .rw[aj.mp F,GW (by rw[(r f n).gl.1,z.gl.1])];cases N:nE j f with
     |false=>rfl
     |true=>have:=aU.mpr ⟨n,N⟩;rw[E]at this;exact nomatch this
   .refine⟨_,_,rfl,.inl (gM J (iS (K.trans (by
     cases L:(cs.filter λf=>nE j f) with
     |nil=>exact absurd L E
     |cons a l=>rfl)) rfl)),cs,_,_,rfl,by lia,r,A⟩)
 rw[aG,fS]at u;exact⟨cs,mx rfl (gM (ou (ts:=[]) (by simp) rfl) (gM (nG (n5 h (by lia) rfl) e) rfl)),⟨r,by lia,A⟩,u⟩
def PD d us (b:f ρ=.ok (lN c d us)):sV c.Cutting "many" f gJ (kM c) ρ=.ok (.int us.length):=by
 have e:wX c.Cutting "many" (lN c d us)=.ok ():=by unfold wX lN;exact aQ ⟨rfl,rfl⟩
 have a:kM c [lN c d us]=.ok (.int us.length):=iI rfl (ig (n8 (FQ rfl rfl) (by simp)));simp only[sV,b,M.bind_ok,e,gJ,a,M.noEr_ok]
def tF(d:Nat)(us:LL)(e:us.length<=7)(sg:LI)(a:WS us.length sg):kC c [lN c d us,tI sg]=.ok .non:=Rq rfl (iS (wj (gX (iY (PD d us rfl) rfl (DG us.length sg a.len (by lia) λx b=>by have:=a.one x b;lia))) rfl) rfl)
def NU(us:LL)(a:LI)(k:Nat):Int:=((a.zip us).map λp=>p.1*vc p.2 k).sum
def PU(h:N<=20000) a b (i:a.length<=100) (e:∀x∈a,Bn N x) (g:∀x∈b,Bn N x):rX c [tL a,tL b]=.ok (.int (((a.zip b).map λp=>p.1*p.2).sum)):=by
 have sz:1000<sizeLine:=by decide
 have f:j5 [none,none] (nq bP) ap (λ_=>.ok true) (G7 c) (vw (i9 2 [tL a,tL b]))=.ok (((a.zip b).map λp=>p.1*p.2).map T.int):=jC (a.zip b) (λp=>T.tup [.int p.1,.int p.2]) (λp=>T.int (p.1*p.2)) (nC rfl rfl rfl rfl) (by rw[dZ];lia) (λp d=>⟨_,rfl,rfl,gL rfl rfl (iE ((e _ (aW d).1).ok (g _ (aW d).2) (by lia) (by lia)))⟩) (by rw[aI];rfl)
 exact iI rfl (ig (oC f (zY _)))
def Sm w (h:f ρ=.ok (.int w)):gR uS (kG Ap (gF (gR FM f ac) gJ)) (kG Ap (gF (gR Dq f ac) gJ)) ρ=.ok (.int (lK w)):=by
 unfold lK;by_cases b:0<w
 .have a:¬w<0:=by lia
  simp[h,b,a]
 .by_cases a:w<0
  .simp[h,b,a]
  .simp[h,b,a]
def Kd(d:a ρ=.rf ts)(hr:.rf ts=r):gW a b ρ=r:=by unfold gW;rw[d];exact hr
def Uy a b (d:(PyData.str a).canLay0=true) (e:(PyData.str b).canLay0=true):iA false (.str a) (.str b)=.ok (.bl (a==b)):=by simp[iA,qG,pk,d,e]
def Mx:(PyData.str "spot").canLay0=true:=by rw[PyData.canLay0];decide +kernel
def R9:iA false (.str "spot") (.str "spot")=.ok (.bl true):=by rw[Uy _ _ Mx Mx];congr 2
theorem BN:∀n g t,(∀i,i<n->0<=(t i:Rat)*kg d X (g i))->0<=kg d X (Lt n g t)/\((∃i,i<n/\0<(t i:Rat)*kg d X (g i))->0<kg d X (Lt n g t))
 |0,g,t,_=>by
  have e:kg d X (Lt 0 g t)=0:=by have z:Lt 0 g t=λ_=>0:=rfl;rw[z,tm λ_ _=>rfl];simp
  rw[e];exact⟨Rat.le_refl,λ⟨i,a,_⟩=>absurd a (dq i)⟩
 |n+1,g,t,h=>by
  obtain⟨k,f⟩:=BN n (λj=>g (j+1)) (λj=>t (j+1)) λi a=>h (i+1) (by lia);have l:=tV (d:=d) (X:=X) (g 0) (Lt n (λj=>g (j+1)) (λj=>t (j+1))) (Lt (n+1) g t) 1 (t 0) 1 (λi=>by show 1*(t 0*g 0 i+sm n λj=>t (j+1)*g (j+1) i)=t 0*g 0 i+1*(sm n λj=>t (j+1)*g (j+1) i);lia)
  have b:((1:Int):Rat)=1:=rfl;rw[b]at l;refine⟨by grind,λ⟨i,a,hp⟩=>?_⟩;cases i with
  |zero=>grind
  |succ i=>have:=f ⟨i,by lia,hp⟩;grind
def OD(us:LL)(d:Nat)(sg:LI)(X:Nat->Rat):Prop:=∀(i:Nat) (v:Int),sg[i]? = some v->(v=0->kg d X (vc (us.getD i []))=0)/\(v≠0->0<(v:Rat)*kg d X (vc (us.getD i [])))
theorem BB x0 x1 N (u:N<=1000):∀(f:List (Int×(Int×Int))) (iP a:Int) (A B:Nat) (v:Rat) (i h:Option W),(∀p∈f,Bn N p.1/\Fq p.2)->f.length<=10->A+B+2*f.length+2*nY (f.map Prod.snd)<=500000->N+B<=A->Bn A iP->Bn B a->0<a->(iP:Rat)=(a:Rat)*v->
  ∃d b m r,j3 ca (kD c) (f.map Ju) [x0,x1,some (.p (.int iP)),some (.p (.int a)),i,h]=.nx [x0,x1,some (.p (.int d)),some (.p (.int b)),m,r]/\0<b/\(d:Rat)=(b:Rat)*(v+(f.map λp=>(p.1:Rat)*qv p.2).sum)
 |[],iP,a,A,B,v,i,h,_,_,_,_,_,_,hb,e=>⟨iP,a,i,h,rfl,hb,by rw[e];simp;grind⟩
 | (n,p)::f,iP,a,A,B,v,i,h,hp,hl,hA,hAB,b1,b2,hb,e=>by
  obtain⟨j,g⟩:=hp (n,p) (by simp);simp only at j g;have hw:nY (((n,p)::f).map Prod.snd)=wt p+nY (f.map Prod.snd):=by simp[nY]
  rw[hw]at hA;rw[ay]at hA hl;have s:Bn (wt p) p.1:=(HW _).mono (dw _ _);have k:Bn (wt p) p.2:=(HW _).mono (dy _ _);have J:=iE (b1.ok k (by lia) (by lia));have D:=iE (j.ok s (by lia) (by lia));have F:=iE ((j.mul s).ok b2 (by lia) (by lia));have K:=iE (b2.ok k (by lia) (by lia));have bt:Bn (A+wt p+1) (iP*p.2+n*p.1*a):=((b1.mul k).add ((j.mul s).mul b2)).mono (by lia);have L:Bn (B+wt p) (a*p.2):=b2.mul k;have I:=g.pos;have p0:(p.2:Rat)≠0:=by
   intro z;have:p.2=0:=by exact_mod_cast z
   lia
  have C:((iP*p.2+n*p.1*a:Int):Rat)=((a*p.2:Int):Rat)*(v+(n:Rat)*qv p):=by
   have y:((iP*p.2+n*p.1*a:Int):Rat)=(iP:Rat)*(p.2:Rat)+(n:Rat)*(p.1:Rat)*(a:Rat):=by simp
   have E:((a*p.2:Int):Rat)=(a:Rat)*(p.2:Rat):=by simp
   rw[y,E,e];unfold qv;grind
  obtain⟨d,b,m,r,x,l,H⟩:=BB x0 x1 N u f (iP*p.2+n*p.1*a) (a*p.2) (A+wt p+1) (B+wt p) (v+(n:Rat)*qv p) (some (.p (.int n))) (some (.p (fr p))) (λq g=>hp q (by simp[g])) (by lia) (by lia) (by lia) bt L (aX hb I) C;refine⟨d,b,m,r,?_,l,?_⟩
  .rw[bI,j3];have w:kD c [x0,x1,some (.p (.int iP)),some (.p (.int a)),some (.p (.int n)),some (.p (fr p))]=.nx [x0,x1,some (.p (.int (iP*p.2+n*p.1*a))),some (.p (.int (a*p.2))),some (.p (.int n)),some (.p (fr p))]:=
    gM (gU (gL (gL rfl (gL rfl rfl (nB p)) J) (gL (gL rfl (gL rfl rfl (oY p)) D) rfl F) (jH _ _)) rfl) (gU (gL rfl (gL rfl rfl (nB p)) K) rfl)
   show (match kD c [x0,x1,some (.p (.int iP)),some (.p (.int a)),some (.p (.int n)),some (.p (fr p))] with|.nx ρ2=>j3 ca (kD c) (f.map Ju) ρ2|.ct ρ2=>j3 ca (kD c) (f.map Ju) ρ2|.bk ρ2=>.nx ρ2|o=>o)=_;rw[w];exact x
  .rw[H,bI,eV];grind
def K5 a:0<=lK a*a/\(a≠0->0<lK a*a/\lK a*lK a=1/\lK a≠0):=by
 unfold lK;split
 .exact⟨by lia,λ_=>⟨by lia,rfl,by decide⟩⟩
 .split
  .exact⟨by lia,λ_=>⟨by lia,rfl,by decide⟩⟩
  .exact⟨by lia,λh=>by lia⟩
theorem Ro:∀n f,(∀i,i<n->0<=f i)->0<=sm n f
 |0,_,_=>eD _
 |n+1,f,h=>by have b:=h 0 (by lia);have a:=Ro n (λi=>f (i+1)) λi d=>h (i+1) (by lia);rw[sm];lia
def Fi(x:Rat):Int:=if 0<x then 1 else if x<0 then -1 else 0
def KM{iP a:Int}(g:0<a)(e:(iP:Rat)=(a:Rat)*v):lK iP=Fi v:=by
 have d:=nN g;unfold lK Fi;rcases fH iP 0 with h|h|h
 .have f:(iP:Rat)<0:=by exact_mod_cast h
  have b:v<0:=by refine fJ ?_ (eU d);grind
  rw[aR (by lia),aQ h,aR (by grind),aQ b]
 .have f:(iP:Rat)=0:=by rw[h];rfl
  have b:v=0:=by grind
  rw[aR (by lia),aR (by lia),aR (by grind),aR (by grind)]
 .have f:=nN h;have b:0<v:=by refine fJ ?_ (eU d);grind
  rw[aQ h,aQ b]
def Jh(C:B<=900) d u (i:GL d B u) (A:d<=3) s (n:s.length=d) (m:∀p∈s,Fq p) (hw:nY s<=200000):ja (tI u) (.int (-1))=.ok (.int (vc u d))/\∃iP a f g,j3 ca (kD c) ((u.zip s).map Ju) [some (.p (tI u)),some (.p (tS s)),some (.p (.int (-(vc u d)))),some (.p (.int 1)),none,none]=.nx [some (.p (tI u)),some (.p (tS s)),some (.p (.int iP)),some (.p (.int a)),f,g]/\lK iP=Fi (kg d (Xs s) (vc u)):=by
 have j:=i.1;have v:ja (tI u) (.int (-1))=.ok (.int (vc u d)):=by
  have b:u≠[]:=λz=>by rw[z]at j;simp at j
  have:uD (u.map T.int) (-1)=some (.int (vc u d)):=by
   rw[Nq _ (by simpa using b),List.getLast?_map,List.getLast?_eq_getElem?];have e:u.length-1=d:=by lia
   rw[e,ag (by lia)];unfold vc;rw[af,ag (by lia)];rfl
  simp[tI,this]
 have y:Bn B (vc u d):=by refine i.2 _ ?_;unfold vc;rw[af,ag (by lia)];exact aV _
 have x:(u.zip s).map Prod.snd=s:=by rw[List.map_snd_zip];lia
 obtain⟨iP,a,f,g,e,q,k⟩:=BB (some (.p (tI u))) (some (.p (tS s))) B (by lia) (u.zip s) (-(vc u d)) 1 (B+1) 1 (-(vc u d)) none none (λp l=>⟨i.2 _ (aW l).1,m _ (aW l).2⟩) (by rw[dZ];lia) (by rw[x,dZ];lia) (by lia) (y.neg.mono (by lia)) zb (by decide) (by
  have o:((-(vc u d):Int):Rat) = -(vc u d):=by simp
  have r:((1:Int):Rat)=1:=rfl;rw[o,r];grind)
 have h:-(vc u d)+((u.zip s).map λp=>p.1*qv p.2).sum=kg d (Xs s) (vc u):=by have:=EZ d s u n (by lia);unfold J0 at this;rw[this];unfold kg;grind
 rw[h]at k;have w:=KM q k;exact⟨v,iP,a,f,g,e,w⟩
def KO(h:B<=900) d u (i:GL d B u) (k:d<=3) s (j:s.length=d) (g:∀p∈s,Fq p) (hw:nY s<=200000):nv c [tI u,tS s]=.ok (.int (Fi (kg d (Xs s) (vc u)))):=by obtain⟨f,iP,b,m,l,e,a⟩:=Jh h d u i k s j g hw;rw[<-a];exact iI rfl (gM (gU (pS (gL rfl rfl f)) rfl) (gM (gU rfl rfl) (gM (jT (nC rfl rfl rfl rfl) e) (ig (Sm iP rfl)))))
def zX(n:Nat) ws (b:ws.length=n) (f:n<=8):lE c [tL ws,.int n]=.ok (.bl true):=by
 have sz:1000<sizeLine:=by decide
 have w:∀i:Int,jo c [.int i]=.ok (.bl true):=λi=>rfl;have a:j5 [none] db bv (λ_=>.ok true) (tE c) (vw (i9 2 [tL ws,.int n]))=.ok ((ws.map λ_=>true).map T.bl):=jC ws T.int (λ_=>T.bl true) rfl (by lia) (λp e=>⟨_,rfl,rfl,pX rfl (w p)⟩) (by simp)
 have d:(L3.wc (L3.oj (iR (ua "list" ah))) (iR (gR (iA true) (kG mC bf) al))) (vw (i9 2 [tL ws,.int n]))=.ok false:=by simp[tL,b]
 exact iI rfl (gM (iS d rfl) (ig (oC a (by rw[vy];simp))))
theorem GH k:∀a us,a.length=us.length->NU us a k=sm us.length (λi=>vc a i*vc (us.getD i []) k)
 |[],[],_=>rfl
 |w::a,u::us,h=>by have:=GH k a us (by simpa using h);show w*vc u k+NU us a k=vc (w::a) 0*vc ((u::us).getD 0 []) k+sm us.length (λi=>vc (w::a) (i+1)*vc ((u::us).getD (i+1) []) k);rw[this];rfl
def Te(h:∀p∈s,wt p<=n):nY s<=s.length*n:=by
 induction s with
 |nil=>simp[nY]
 |cons q s ih=>
  have e:nY (q::s)=wt q+nY s:=by simp[nY]
  have:=ih λp a=>h p (by simp[a]);have:=h q (by simp);rw[ay,Nat.add_mul];lia
def Ts u (k:Int):kg d X (vc (u.map λx=>k*x))=(k:Rat)*kg d X (vc u):=by have:=tV (d:=d) (X:=X) (vc u) (vc u) (vc (u.map λx=>k*x)) 1 k 0 (λi=>by rw[vE];lia);have a:((1:Int):Rat)=1:=rfl;have b:((0:Int):Rat)=0:=rfl;rw[a,b]at this;grind
def yc.mono(h:yc d B us)(a:B<=B'):yc d B' us:=⟨λf b=>(h.gc f b).mono a,h.few,h.pw⟩
structure rZ(n:Nat)(sg:LI):Prop where
 len:sg.length=n
 pm:∀x∈sg,x=1\/x = -1
def rZ.sgs{n:Nat}{sg:LI}(h:rZ n sg):WS n sg:=⟨h.len,λx a=>by rcases h.pm x a with r|r<;>rw[r]<;>decide⟩
def rZ.at_{n:Nat}{sg:LI}(h:rZ n sg){i:Nat}(a:i<n):vc sg i=1\/vc sg i = -1:=by rw[jS sg i (by rw[h.len];exact a)];exact h.pm _ (aV _)
def SC{n:Nat}{sg:LI}(d:sg.length=n){i:Nat}{s:Int}(h:sg[i]? = some s):i<n/\vc sg i=s:=by obtain⟨b,a⟩:=aa.mp h;exact⟨by lia,by rw[jS sg i b,a]⟩
def Ry i ns:AM false (.int i) (tI ns)=.ok (.bl (ns.any (i == ·))):=by
 have d:(ns.map T.int).all lO=true:=cE.mpr λx e=>by obtain⟨y,-,rfl⟩:=aD.mp e;rfl
 have b:xM (.int i) (ns.map T.int)=ns.any (i == ·):=by unfold xM;rw[cC];congr 1;funext a;show Ey (T.int a) (T.int i)=(i==a);rw[NX];exact BEq.comm
 show (if lO (T.int i)&&(ns.map T.int).all lO then _ else _)=_;rw[d,b];rfl
def Sv:iA true (.str "spot") (.str "spot")=.ok (.bl false):=by
 have:=R9;unfold iA at this ⊢;split at this
 .rename_i h;rw[aQ h];simp at this;simp[this]
 .cases this
def Qn(h:a+b≠0) u:(a+b)*kg d (λj=>(b*X j+a*Z j) / (a+b)) u=b*kg d X u+a*kg d Z u:=by
 unfold kg;have e:qo d (λp=>(u p)*((b*X p+a*Z p) / (a+b)))=(b / (a+b))*qo d (λp=>(u p)*X p)+(a / (a+b))*qo d (λp=>(u p)*Z p):=by rw[<-rL];exact kj _ _ _ λi _=>by grind
 rw[e];grind
def Fx M (X:4*M+1<=8000) (Z:1<=M) (s:List (Int×Int)) (Q:s.length<=3) (v:∀p∈s,0<p.2/\Bn M p.1/\Bn M p.2):∃u g S,oN c [.lst (s.map fr)]=.ok (tI u)/\u.length=s.length/\(∀x∈u,Bn (4*M+1) x)/\0<g/\0<S/\∀k p,s[k]? = some p->g*vc u k*p.2=S*p.1:=by
 have sz:1000<sizeLine:=by decide
 obtain⟨A,e,S,y,rfl,D,o,l⟩:=jE (m:=j6 2) (g:=vd c) fr
  (λk A=>∃(S:Int) (y:Option W),A=[some (.p (.lst (s.map fr))),some (.p (.int S)),y]/\0<S/\S.natAbs<=2 ^ (M*k)/\∀p∈s.take k,p.2 ∣ S)
  s 0 _ ⟨1,none,rfl,by decide,by simp,λp d=>by simp at d⟩ (by
   rintro i ⟨a,b⟩ A E ⟨S,y,rfl,D,o,l⟩;rw[aG]at o l ⊢;have r:=v _ (au E);have il:=(aa.mp E).1;have f:=r.1;have j:=r.2.2;dsimp only at f j;have C:Bn (3*M+1) S:=by unfold Bn;have:M*i<=M*3:=fv _ (by omega);exact cg o (fT (by decide) (by omega))
   have m1:=iE (C.ok j (by omega) (by omega));have hGp:=Cu.Ez S b (by omega);have N:=Cu.Pn S b (by omega);have f1:n0 (.int (S*b)) (.int (Cu.G S b))=.ok (.int ((S*b).fdiv (Cu.G S b))):=lC (by omega) (by refine Bn.noPy (n:=M) ?_ (by omega);unfold Bn at *;omega)
   obtain⟨P,q2,q3,Y⟩:=MX S b D f;refine⟨_,_,rfl,.inl (gU (t:=.int ((S*b).fdiv (Cu.G S b))) (gL (gL rfl (gL rfl rfl (QA a b)) m1) (iY rfl (gL rfl rfl (QA a b)) (nV S b)) f1) rfl),_,_,rfl,P,?_,λp d=>?_⟩
   .refine aN Y ?_;rw[aY,Nat.mul_add,Nat.pow_add,Nat.mul_one];exact fG o (bh j)
   .rw[jP _ i _ E]at d;rcases ai.mp d with q|q
    .exact dO (l p q) q2
    .rw[aj.mp q];exact q3)
 rw[aG,dP]at l;rw[aG]at o;have C:Bn (3*M+1) S:=by unfold Bn;have:M*s.length<=M*3:=fv _ Q;exact cg o (fT (by decide) (by omega))
 let h:LI:=s.map λ(p:Int×Int)=>p.1*S.fdiv p.2;have J:∀p∈s,Bn (3*M+1) (S.fdiv p.2):=λp d=>cg (rD (l p d) (by have:=(v p d).1;omega)) C;have B:∀x∈h,Bn (4*M+1) x:=λx U=>by obtain⟨p,d,rfl⟩:=aD.mp U;exact ((v p d).2.1.mul (J p d)).mono (by omega)
 have hwl:h.length=s.length:=by simp[h]
 obtain⟨g,u,z,eu,R,H,F⟩:=tX (c:=c) (4*M+1) X h (by omega) B;have e1:j5 [none,some 1] db bv (λ_=>.ok true) (vS c) (vw [some (.p (.lst (s.map fr))),some (.p (.int S)),y])=.ok (h.map T.int):=jC s fr (λp=>T.int (p.1*S.fdiv p.2)) rfl (by omega) (λp d=>⟨_,rfl,rfl,by obtain⟨a,b⟩:=p;have r:=v _ d;have f:=r.1;have j:=r.2.2;have I:=r.2.1;have w:=J _ d;dsimp only at f j I w;exact gL (gL rfl rfl (Wx a b)) (gL rfl (gL rfl rfl (QA a b)) (lC (by omega) (j.noPy (by omega)))) (iE (I.ok w (by omega) (by omega)))⟩) (by rw[aI];rfl)
 refine⟨u,g,S,iI rfl (gM (gU (t:=.int 1) rfl rfl) (gM (jT rfl e) (ig (pX (x:=tI h) (n8 (t:=.lst (h.map T.int)) (iC e1) rfl) eu)))),by omega,F,z,D,λk p L=>?_⟩;have K:=au L;have wk:=TX s (λ(p:Int×Int)=>p.1*S.fdiv p.2) k _ L;rw[<-H k,wk,cU,Lw (l _ K) (by have:=(v _ K).1;omega),cV]
def EV{a:Type}(l:List a) v w (h:k≠j):(l.set k v).getD j w=l.getD j w:=by rw[af,aq h,<-af]
end CL
namespace CL
open PySem L2 L3
variable {c:Cs}
def HJ{a:Type}[Inhabited a](l:List a) f k w (h:k<l.length):ja (.lst (l.map f)) (.int (k:Int))=.ok (f (l.getD k w)):=by have e:=G6 (l.map f) k (by rw[aw];exact h);rw[dR]at e;show (match uD (l.map f) k with|some t=>M.ok t|none=>.bad)=_;rw[e,af,ag h];rfl
def yK m A u:jB m A u=jB m u A:=by unfold jB;exact iZ _ _ _ λi _=>cV _ _
theorem K1:∀st u,st.length<=u.length->((u.zip st).map λp=>p.1*p.2).sum=sm st.length λi=>vc u i*vc st i
 |[],u,_=>by simp[sm]
 |s::st,x::u,h=>by have:=K1 st u (by simpa using h);show x*s+((u.zip st).map λp=>p.1*p.2).sum=vc (x::u) 0*vc (s::st) 0+sm st.length λi=>vc (x::u) (i+1)*vc (s::st) (i+1);rw[this];rfl
 |s::st,[],h=>by simp at h
theorem vh:∀n f,((sm n f:Int):Rat)=qo n λi=>(f i:Rat)
 |0,_=>rfl
 |n+1,f=>by unfold sm qo;rw[<-vh n λi=>f (i+1)];simp
def oP(h:∀x∈u,Bn B x) k:Bn B (vc u k):=by
 by_cases a:k<u.length
 .rw[jS u k a];exact h _ (aV _)
 .rw[pP u k (by omega)];exact qq
noncomputable def hv(d:Nat)(u P:Vc):Int:=sm d (λi=>u i*P i)-u d*P d
def XP(d:Nat)(P:Vc):Nat->Rat:=λi=>(P i:Rat) / (P d:Rat)
def ND(h:0<P d):(hv d u P:Rat)=(P d:Rat)*kg d (XP d P) u:=by
 have b:(P d:Rat)≠0:=λz=>by have:=nN h;grind
 have e:(P d)*qo d (λi=>(u i)*XP d P i)=qo d λi=>(u i)*(P i):=by have:=rL (P d) 0 d (λi=>(u i)*XP d P i) (λ_=>0);rw[kj d _ (λi=>(u i)*(P i)) λi _=>by unfold XP;grind]at this;grind
 unfold hv kg;have a:((sm d (λi=>u i*P i)-u d*P d:Int):Rat)=qo d (λi=>(u i)*(P i))-(u d)*(P d):=by rw[eS,vh,eQ];rw[kj d _ (λi=>(u i)*(P i)) λi _=>eQ _ _]
 rw[a];grind
def SH(h:0<P d):lK (hv d u P)=Fi (kg d (XP d P) u):=KM h (ND h)
def Su(h:∀i,g*z i=a*x i+b*y i):g*hv d z P=a*hv d x P+b*hv d y P:=by
 unfold hv;rw[fU,fU,fU,<-lL,<-lL,<-lL];have e:sm d (λi=>g*(z i*P i))=sm d (λi=>a*(x i*P i))+sm d (λi=>b*(y i*P i)):=by rw[lL a,lL b,<-uV];exact iZ d _ _ λi _=>by have:=h i;grind
 rw[e];grind
def Pd(h:∀i,g*R i=a*P i+b*Q i):g*hv d u R=a*hv d u P+b*hv d u Q:=by
 unfold hv;rw[fU,fU,fU,<-lL,<-lL,<-lL];have e:sm d (λi=>g*(u i*R i))=sm d (λi=>a*(u i*P i))+sm d (λi=>b*(u i*Q i)):=by rw[lL a,lL b,<-uV];exact iZ d _ _ λi _=>by have:=h i;grind
 rw[e];grind
noncomputable def sk(p i:Nat):Nat:=if i<p then i else i+1
def Ol p i:sk (p+1) (i+1)=sk p i+1:=by unfold sk;split<;>split<;>lia
theorem Gg:∀d p f,p<=d->qo (d+1) f=qo d (λi=>f (sk p i))+f p
 |0,0,f,_=>by unfold qo qo;grind
 |d+1,0,f,_=>by
  rw[qo];have:(λi=>f (sk 0 i))=λi=>f (i+1):=funext λi=>by simp[sk]
  rw[this];grind
 |d+1,p+1,f,h=>by
  rw[qo,Gg d p (λi=>f (i+1)) (by lia)];have:qo (d+1) (λi=>f (sk (p+1) i))=f 0+qo d (λi=>f (sk p i+1)):=by rw[qo];congr 1;exact kj d _ _ λi _=>by rw[Ol]
  rw[this];grind
def VP d p f (h:p<=d):sm (d+1) f=sm d (λi=>f (sk p i))+f p:=by have:=Gg d p (λi=>(f i)) h;rw[<-vh,<-vh]at this;exact_mod_cast this
def T8(h:p<=d):sk p d=d+1:=by unfold sk;rw[aR (by lia)]
def Km(h:p<=d) X u:kg (d+1) X u=kg d (λi=>X (sk p i)) (λi=>u (sk p i))+(u p:Rat)*X p:=by unfold kg;rw[Gg d p _ h];dsimp only;rw[T8 h];grind
def QZ(h:p<=d) u P:hv (d+1) u P=hv d (λi=>u (sk p i)) (λi=>P (sk p i))+u p*P p:=by unfold hv;rw[VP d p _ h];dsimp only;rw[T8 h];lia
def On(d:Nat)(us:LL)(s:LI)(X:Nat->Rat):Prop:=∀i,i<us.length->0<(vc s i:Rat)*kg d X (vc (us.getD i []))
def Rz(d:Nat)(us:LL)(s:LI):Prop:=∃X,On d us s X
def Rx(d:Nat)(us:LL)(u s:LI):Prop:=∃X,kg d X (vc u)=0/\On d us s X
def Q9(h:On d us s X)(l:On d us s Y)(a:0<=kg d X (vc u))(b:kg d Y (vc u)<=0):Rx d us u s:=by
 by_cases D:kg d X (vc u)=0
 .exact⟨X,D,h⟩
 by_cases m:kg d Y (vc u)=0
 .exact⟨Y,m,l⟩
 have r:0<kg d X (vc u):=by grind
 have n:0 < -kg d Y (vc u):=by grind
 generalize E:kg d X (vc u)=A at *;generalize I:-kg d Y (vc u)=B at *;have f:A+B≠0:=by grind
 have C:0<A+B:=by grind
 have g:=λw=>Qn (d:=d) (X:=X) (Z:=Y) f w;refine⟨λj=>(B*X j+A*Y j) / (A+B),?_,λi k=>?_⟩
 .have:=g (vc u);have e:(A+B)*kg d (λj=>(B*X j+A*Y j) / (A+B)) (vc u)=0:=by grind
  rcases Rat.mul_eq_zero.mp e with z|z
  .exact absurd z f
  .exact z
 .have o:=h i k;have q:=l i k;have:=g (vc (us.getD i []));generalize kg d (λj=>(B*X j+A*Y j) / (A+B)) (vc (us.getD i []))=Z at *;generalize kg d X (vc (us.getD i []))=x at *;generalize kg d Y (vc (us.getD i []))=y at *;have H:=eT n o;have F:=eT r q;generalize (vc s i)=v at *;have e:(A+B)*(v*Z)=B*(v*x)+A*(v*y):=by rw[show (A+B)*(v*Z)=v*((A+B)*Z) by grind,this];grind
  have p:0<(A+B)*(v*Z):=by rw[e];grind
  refine fJ (c:=A+B) ?_ (by grind);rw[Rat.mul_zero];exact p
theorem Ml:∀d f,(∀i,i<d->Bn N (f i))->Bn (N+d) (sm d f)
 |0,_,_=>qq
 |d+1,f,h=>by rw[sm];exact ((h 0 (by lia)).add (Ml d (λi=>f (i+1)) λi a=>h (i+1) (by lia))).mono (by lia)
def Rc{B M d:Nat}(b:∀x∈u,Bn B x)(a:∀x∈P,Bn M x):Bn (B+M+d+1) (hv d (vc u) (vc P)):=((Ml d _ λi _=>(oP b i).mul (oP a i)).sub ((oP b d).mul (oP a d))).mono (by lia)
def QC(h:N<=20000) a b (i:a.length<=100) (e:∀x∈a,Bn N x) (g:∀x∈b,Bn N x):rX c [tI a,tI b]=.ok (.int (Tu a b)):=by
 have sz:1000<sizeLine:=by decide
 have f:j5 [none,none] (nq bP) ap (λ_=>.ok true) (G7 c) (vw (i9 2 [tI a,tI b]))=.ok (((a.zip b).map λp=>p.1*p.2).map T.int):=jC (a.zip b) (λp=>T.tup [.int p.1,.int p.2]) (λp=>T.int (p.1*p.2)) (nC rfl rfl rfl rfl) (by rw[dZ];lia) (λp d=>⟨_,rfl,rfl,gL rfl rfl (iE ((e _ (aW d).1).ok (g _ (aW d).2) (by lia) (by lia)))⟩) (by rw[aI];rfl)
 exact iI rfl (ig (oC f (zY _)))
theorem Ho:∀d a b,a.length=d->b.length=d->Tu a b=sm d λi=>vc a i*vc b i
 |0,[],[],_,_=>rfl
 |d+1,x::a,y::b,ha,hb=>by show x*y+Tu a b=_;rw[Ho d a b (by simpa using ha) (by simpa using hb)];rfl
def BK(h:u.length=d+1)(a:i<d):vc u.dropLast i=vc u i:=by rw[jS _ i (by simp;lia),jS _ i (by lia),List.getElem_dropLast]
def FI(h:u.length=d+1):ja (tI u) (.int (-1))=.ok (.int (vc u d)):=by
 have a:u≠[]:=λz=>by rw[z]at h;simp at h
 have e:u.getLast? = some (vc u d):=by rw[List.getLast?_eq_some_getLast a,jS u d (by lia),List.getLast_eq_getElem];simp[h]
 simp[tI,t7,Nq,a,e]
def Ex(h:u.length=d+1)(a:f ρ=.ok (tI u)):ka f (λ_=>.ok none) (ju (qw (λi=>.int (-i)) ab)) ρ=.ok (tI u.dropLast):=by
 have:=Kb a λz=>by have:=congrArg List.length z;simp at this;rw[this]at h;simp at h
 rw[<-List.map_dropLast]at this;exact this
def Lp(p:B<=20000)(q:B'<=20000)(r:d<=50)(h:u.length=d+1)(b:P.length=d+1)(o:∀x∈u,Bn B x)(n:∀x∈P,Bn B' x)(l:f ρ=.ok (tI u))(m:g ρ=.ok (tI P)) :
  gS (gF (ka f (λ_=>.ok none) (ju (qw (λi=>.int (-i)) ab))) (gF (ka g (λ_=>.ok none) (ju (qw (λi=>.int (-i)) ab))) gJ)) (rX c) ρ=.ok (.int (sm d λi=>vc u i*vc P i)):=by
 have j:u.dropLast.length=d:=by simp[h]
 have e:P.dropLast.length=d:=by simp[b]
 refine iY (Ex h l) (Ex b m) ((QC (N:=max B B') (by lia) _ _ (by lia) (λx a=>(o x (fV _ a)).mono (by lia)) λx a=>(n x (fV _ a)).mono (by lia)).trans ?_);rw[Ho d _ _ j e];congr 2;exact iZ d _ _ λi k=>by rw[BK h k,BK b k]
def uG{d B M:Nat}(g:B<=20000)(h:M<=20000)(i:d<=50)(b:u.length=d+1)(a:P.length=d+1)(f:∀x∈u,Bn B x)(e:∀x∈P,Bn M x):kL c [tI u,tI P]=.ok (.int (hv d (vc u) (vc P))):=iI rfl (ig (gL (Lp g h i b a f e rfl rfl) (gL (gL rfl (pS rfl) (FI b)) (gL rfl (pS rfl) (FI a)) (iE ((oP f d).ok (oP e d) (by lia) (by lia)))) (nr _ _)))
def wo(row:LI)(p:Nat):LI:=row.take p++row.drop (p+1)
def MD(h:p<row.length):(wo row p).length+1=row.length:=by unfold wo;simp;lia
def Mt(h:p<row.length) i:vc (wo row p) i=vc row (sk p i):=by
 unfold wo sk;rw[sP,bR,dD (by lia)];by_cases a:i<p
 .rw[aQ a,aQ a,jS _ i (by simp;lia),jS _ i (by lia),fW]
 .rw[aR a,aR a,DS];congr 1;lia
def Mu(h:x∈wo row p):x∈row:=(ai.mp h).elim eg fX
def q9 row (p:Nat) (hp:p<row.length) (hl:row.length<=100):jQ c [tI row,.int (p:Int)]=.ok (tI (wo row p)):=by have e1:=qL (fe:=gG 0) (fd:=gG 1) (ρ:=vw (i9 2 [tI row,.int (p:Int)])) rfl rfl (by rw[aw];lia);have e2:=MQ (fe:=gG 0) (fd:=gR jI al ab) (d:=p+1) (ts:=row.map T.int) (ρ:=vw (i9 2 [tI row,.int (p:Int)])) rfl (gL rfl rfl (by rw[jH];simp)) (by lia) (by intro z;have:=congrArg List.length z;simp at this;subst this;simp at hp);rw[<-dg]at e1;rw[<-dh]at e2;exact iI rfl (ig (gL (x:=tI (row.take p)) (y:=tI (row.drop (p+1))) e1 e2 (qD _ _ (by simp;lia))))
structure Gp(d M:Nat)(P:LI):Prop where
 len:P.length=d+1
 bn:∀x∈P,Bn M x
 pos:0<vc P d
def zx i:wR [.int i]=.ok (.int (i.natAbs:Int)):=by show M.ok (T.int (if i<0 then -i else i))=_;congr 2;split<;>lia
def Fk(h:Bn N x):Bn N (x.natAbs:Int):=by unfold Bn at *;simpa using h
def DN{d B M:Nat}(hB:B<=2000)(hM:M<=5000)(Z:d<=50)(hu:u.length=d+2)(D:∀x∈u,Bn B x)(hp:p<=d)(f:Gp d M P) :
  ∃Q g,mW c [tI u,.int (p:Int),tI P]=.ok (tI Q)/\Q.length=d+2/\(∀x∈Q,Bn (B+M+d+1) x)/\0<g/\(∀i,g*vc Q (sk p i)=((vc u p).natAbs:Int)*vc P i)/\g*vc Q p = -lK (vc u p)*hv d (λi=>vc u (sk p i)) (vc P):=by
 have sz:1000<sizeLine:=by decide
 have v:=k9 u p (by lia);have o:=oP D p;have wl:=MD (row:=u) (p:=p) (by lia);have l:∀x∈wo u p,Bn B x:=λx j=>D x (Mu j);have F:vc (wo u p)=λi=>vc u (sk p i):=funext λi=>Mt (by lia) i;have n:=uG (c:=c) (d:=d) (B:=B) (M:=M) (by lia) (by lia) Z (by lia) f.len l f.bn;have k:=Rc (d:=d) l f.bn;rw[F]at n k;generalize hH:hv d (λi=>vc u (sk p i)) (vc P)=h at *;have sg:=xr (vc u p);have bs:Bn 1 (-lK (vc u p)):=by unfold Bn;lia
 have e:Bn (B+M+d+1) (-lK (vc u p)*h):=by
  have:=sg;unfold Bn at k ⊢;rw[aY];have b:(-lK (vc u p)).natAbs<=1:=by lia
  exact cg (aN (fP _ b) (by lia)) k
 let a:LI:=P.map λx=>((vc u p).natAbs:Int)*x;have X:a.length=d+1:=by simp[a,f.len]
 have q:∀x∈a,Bn (B+M+d+1) x:=λx j=>by obtain⟨y,U,rfl⟩:=aD.mp j;exact ((Fk o).mul (f.bn y U)).mono (by lia)
 have A:∀i,vc a i=((vc u p).natAbs:Int)*vc P i:=vE P _;let row:LI:=(a.take p++[-lK (vc u p)*h])++a.drop p;have rl:row.length=d+2:=by simp[row,X];lia
 have L:∀x∈row,Bn (B+M+d+1) x:=λx j=>by
  rcases ai.mp j with z|z
  .rcases ai.mp z with z|z
   .exact q x (eg z)
   .rw[aj.mp z];exact e
  .exact q x (fX z)
 obtain⟨g,N,R,E,yl,r,yb⟩:=tX (c:=c) (B+M+d+1) (by lia) row (by lia) L;have w:∀i,vc row i=if i<p then vc a i else if i=p then -lK (vc u p)*h else vc a (i-1):=λi=>by
  show vc ((a.take p++[-lK (vc u p)*h])++a.drop p) i=_;have C:(a.take p).length=p:=by rw[bR];lia
  rw[sP,sP,aT,C,b5];by_cases b:i<p
  .rw[aQ (by lia),aQ b,aQ b,jS _ i (by rw[C];exact b),jS _ i (by lia),fW]
  .by_cases s:i=p
   .subst s;rw[aQ (by lia),aR b,aR b,aQ rfl,fO];rfl
   .rw[aR (by lia),aR b,aR s,DS];congr 1;lia
 refine⟨N,g,?_,by lia,yb,R,λi=>?_,?_⟩
 .let S (I J H:Option W):En:=[some (.p (tI u)),some (.p (.int (p:Int))),some (.p (tI P)),I,J,H];have K:j5 [none,some 3] (iU bd) bv (λ_=>.ok true) (xv c) (mD (S (some (.p (.int ((vc u p).natAbs:Int)))) (some (.p (.int (-lK (vc u p)*h)))) none))=.ok (a.map T.int):=
   jC P T.int (λx=>T.int (((vc u p).natAbs:Int)*x)) rfl (by have:=f.len;lia) (λx j=>⟨_,rfl,rfl,gL rfl rfl (iE ((Fk o).ok (f.bn x j) (by lia) (by lia)))⟩) (by simp[a])
  have m:=qL (fe:=gG 5) (fd:=gG 1) (d:=p) (ts:=a.map T.int) (ρ:=vw (S (some (.p (.int ((vc u p).natAbs:Int)))) (some (.p (.int (-lK (vc u p)*h)))) (some (.p (tI a))))) rfl rfl (by rw[aw];lia);have Y:ka bi (ju al) (λ_=>.ok none) (vw (S (some (.p (.int ((vc u p).natAbs:Int)))) (some (.p (.int (-lK (vc u p)*h)))) (some (.p (tI a)))))=.ok (tI (a.drop p)):=by have:ka bi (ju al) (λ_=>.ok none) (vw (S (some (.p (.int ((vc u p).natAbs:Int)))) (some (.p (.int (-lK (vc u p)*h)))) (some (.p (tI a)))))=.ok (.tup (qW (a.map T.int) (some (p:Int)) none)):=rfl;rw[this,wy,<-dh];rfl
  rw[<-dg]at m;exact iI rfl (gM (ρ':=S (some (.p (.int ((vc u p).natAbs:Int)))) none none) (gU (n8 (gL rfl rfl v) (zx _)) rfl) (gM (ρ':=S (some (.p (.int ((vc u p).natAbs:Int)))) (some (.p (.int (-lK (vc u p)*h)))) none) (gU (gL (pS (pX (gL rfl rfl v) (uQ _))) (iY (iY rfl rfl (q9 u p (by lia) (by lia))) rfl n) (iE (bs.ok k (by lia) (by lia)))) rfl) (gM (ρ':=S (some (.p (.int ((vc u p).natAbs:Int)))) (some (.p (.int (-lK (vc u p)*h)))) (some (.p (tI a)))) (gU (oC K (by simp;rfl)) rfl) (ig (pX (gL (x:=tI (a.take p++[-lK (vc u p)*h])) (y:=tI (a.drop p)) (gL (x:=tI (a.take p)) (y:=tI [-lK (vc u p)*h]) m (GA rfl) (qD _ _ (by simp;lia))) Y (qD _ _ (by simp;lia))) E)))))
 .rw[<-r,w];unfold sk;by_cases b:i<p
  .rw[aQ b,aQ b];exact A i
  .rw[aR b,aR (by lia),aR (by lia)];exact A i
 .rw[<-r,w,aR (by lia),aQ rfl]
def K8 i j:Bi [.int i,.int j]=.ok (.int (max i j)):=by simp;split<;>lia
def Ot{a m:Int}(b:0<=a)(d:0<m):a<(a.fdiv m+1)*m/\0<=a.fdiv m/\a.fdiv m<=a:=by rw[Int.fdiv_eq_ediv_of_nonneg _ (by lia)];exact⟨Int.lt_ediv_add_one_mul_self a d,Int.ediv_nonneg b (by lia),Int.ediv_le_self _ b⟩
def Ct(hB:B<=2000)(hM:N<=5000)(J:2*B+N+d+3<=8000)(X:d<=50){us:LL}(E:∀w∈us,w.length=d+1/\∀x∈w,Bn B x)(hn:us.length<=100)(v:u.length=d+1)(D:∀x∈u,Bn B x)(b:Gp d N P)(F:∀w∈us,hv d (vc w) (vc P)≠0)(hs:s = -1\/s=1) :
  ∃Q g o,kU c [.lst (us.map tI),tI u,tI P,.int s]=.ok (tI Q)/\Q.length=d+1/\(∀x∈Q,Bn (2*B+N+d+3) x)/\0<g/\1<=o/\(∀i,i<d->g*vc Q i=o*vc P i+s*vc u i)/\g*vc Q d=o*vc P d/\
   ∀w∈us,((sm d λi=>vc w i*vc u i).natAbs:Int)<o*((hv d (vc w) (vc P)).natAbs:Int):=by
 have sz:1000<sizeLine:=by decide
 let S (o:Int) (j f x7:Option W):En:=[some (.p (.lst (us.map tI))),some (.p (tI u)),some (.p (tI P)),some (.p (.int s)),some (.p (.int o)),j,f,x7];obtain⟨ρ',e',o,j,f,rfl,o1,r,n⟩:=jE (m:=j6 5) (g:=vv c) tI
  (λk K=>∃o j f,K=S o j f none/\1<=o/\Bn (2*B+d+1) o/\∀w∈us.take k,((sm d λi=>vc w i*vc u i).natAbs:Int)<o*((hv d (vc w) (vc P)).natAbs:Int)) us 0 (S 1 none none none)
  ⟨1,none,none,rfl,by decide,(by unfold Bn;exact aE (by decide:(1:Int).natAbs<2 ^ 1) (du (by decide) (by lia))),λw hw=>by simp at hw⟩ (by
   rintro k w K Y ⟨o,j,f,rfl,o1,r,n⟩;rw[aG]at n ⊢;have hw:=au Y;obtain⟨L,wb⟩:=E w hw;have dt:gS (gF (ka bi (λ_=>.ok none) (ju (qw (λi=>.int (-i)) ab))) (gF (ka al (λ_=>.ok none) (ju (qw (λi=>.int (-i)) ab))) gJ)) (rX c) (mD (S o (some (.p (tI w))) f none))=.ok (.int (sm d λi=>vc w i*vc u i)):=Lp (B:=B) (B':=B) (by lia) (by lia) X L v wb D rfl rfl;have la:=uG (c:=c) (d:=d) (B:=B) (M:=N) (by lia) (by lia) X L b.len wb b.bn;have hb:=Rc (d:=d) wb b.bn;have h0:=F w hw;have sb:Bn (2*B+d) (sm d λi=>vc w i*vc u i):=(Ml d _ λi _=>(oP wb i).mul (oP D i)).mono (by lia);generalize hh:hv d (vc w) (vc P)=h at *;generalize I:(sm d λi=>vc w i*vc u i)=st at *;obtain⟨f1,f2,f3⟩:=Ot (a:=(st.natAbs:Int)) (m:=(h.natAbs:Int)) (by lia) (by lia);generalize l:(st.natAbs:Int).fdiv (h.natAbs:Int)=q at *;refine⟨_,S (max o (q+1)) (some (.p (tI w))) (some (.p (.int (st.natAbs:Int)))) none,rfl,.inl (gM (ρ':=S o (some (.p (tI w))) (some (.p (.int (st.natAbs:Int)))) none) (gU (n8 dt (zx _)) rfl) (gU ?_ rfl)),max o (q+1),_,_,rfl,by lia,?_,?_⟩
   .have e1:gR jI (gR n0 em (kG wR (gF (gS (gF bi ba) (kL c)) gJ))) ab (mD (S o (some (.p (tI w))) (some (.p (.int (st.natAbs:Int)))) none))=.ok (.int (q+1)):=gL (gL rfl (n8 (iY rfl rfl la) (zx _)) ((lC (by lia) ((Fk hb).noPy (by lia))).trans (by rw[l]))) rfl (jH _ _);simp only[kG,gF,gJ,e1,M.bind_ok];exact K8 o (q+1)
   .have:Bn (2*B+d+1) (q+1):=by unfold Bn at sb ⊢;rw[dz];lia
    unfold Bn at *;lia
   .intro z Z;rw[jP us k w Y]at Z;rcases ai.mp Z with y|y
    .have:=n z y;refine fY this (aJ (by lia) (by lia))
    .rw[aj.mp y,I,hh];have hm:(q+1)*(h.natAbs:Int)<=max o (q+1)*(h.natAbs:Int):=aJ (by lia) (by lia);exact fY f1 hm)
 rw[aG,dP]at n;let e:LI:=(P.dropLast.zip u.dropLast).map λq=>o*q.1+s*q.2;have l1:P.dropLast.length=d:=by simp[b.len]
 have l2:u.dropLast.length=d:=by simp[v]
 have A:e.length=d:=by simp[e,b.len,v]
 have R:Bn 1 s:=by rcases hs with rfl|rfl<;>(unfold Bn;decide)
 have pv:∀i,i<d->vc e i=o*vc P i+s*vc u i:=λi C=>by rw[<-BK b.len C,<-BK v C,jS _ i (by lia),jS _ i (by lia),jS _ i (by lia)];simp[e]
 have pb:∀x∈e,Bn (2*B+N+d+3) x:=λx H=>by obtain⟨q,l,rfl⟩:=aD.mp H;obtain⟨q1,q2⟩:=aW l;exact ((r.mul (b.bn _ (fV _ q1))).add (R.mul (D _ (fV _ q2)))).mono (by lia)
 have lb:Bn (2*B+N+d+3) (o*vc P d):=(r.mul (oP b.bn d)).mono (by lia);obtain⟨g,ys,hg,el,yl,U,yb⟩:=tX (c:=c) (2*B+N+d+3) J (e++[o*vc P d]) (by simp[A];lia) λx H=>(ai.mp H).elim (pb x) λz=>by rw[aj.mp z];exact lb
 have e7:j5 [none,none,some 4,some 3] (nq (gF (ka bd (λ_=>.ok none) (ju (qw (λi=>.int (-i)) ab))) (gF (ka al (λ_=>.ok none) (ju (qw (λi=>.int (-i)) ab))) gJ))) ap (λ_=>.ok true) (uX c) (mD (S o j f none))=.ok (e.map T.int):=jC (P.dropLast.zip u.dropLast) (λq=>T.tup [.int q.1,.int q.2]) (λq=>T.int (o*q.1+s*q.2)) (nC (Ex b.len rfl) rfl (Ex v rfl) rfl) (by rw[dZ];lia) (λq l=>⟨_,rfl,rfl,gL (gL rfl rfl (iE (r.ok (b.bn _ (fV _ (aW l).1)) (by lia) (by lia)))) (gL rfl rfl (iE (R.ok (D _ (fV _ (aW l).2)) (by lia) (by lia)))) (jH _ _)⟩) (by simp only[e,aI];rfl)
 refine⟨ys,g,o,iI rfl (gM (ρ':=S 1 none none none) (gU rfl rfl) (gM (jT rfl e') (gM (ρ':=S o j f (some (.p (.lst (e.map T.int))))) (gU (iC e7) rfl) (ig (pX (gL (x:=tI e) (y:=tI [o*vc P d]) (n8 (t:=.lst (e.map T.int)) rfl (by simp;rfl)) (GA (gL rfl (gL rfl (pS rfl) (FI b.len)) (iE (r.ok (oP b.bn d) (by lia) (by lia))))) (qD _ _ (by simp[A];lia))) el))))),by rw[yl];simp[A],yb,hg,o1,λi C=>?_,?_,n⟩
 .rw[<-U,sP,aQ (by lia),pv i C]
 .rw[<-U,sP,aR (by lia),A,fO];rfl
def yh(g:0<a)(i:0<b)(e:a*x=b*y):lK x=lK y:=by
 have d:∀{p q z w:Int},0<p->0<q->p*z=q*w->0<w->0<z:=λ{p q z w} hp hq e hw=>by
  have f:0<p*z:=by rw[e];exact aX hq hw
  exact fZ f hp |> λh=>h
 have k:a * -x=b * -y:=by rw[cX,cX,e]
 unfold lK;by_cases f:0<x
 .rw[aQ f,aQ (d i g e.symm f)]
 .rw[aR f,aR λz=>f (d g i e z)];by_cases j:x<0
  .rw[aQ j,aQ (by have:=d i g k.symm (by lia);lia)]
  .rw[aR j,aR λz=>j (by have:=d g i k (by lia);lia)]
noncomputable def iB:Nat->LL
 |0=>[[]]
 |n+1=>(iB n).flatMap λs=>[s++[-1],s++[1]]
theorem pU:∀{n} {s},s∈iB n->s.length=n/\∀x∈s,x = -1\/x=1
 |0,s,h=>by rw[aj.mp h];exact⟨rfl,λ_ z=>nomatch z⟩
 |n+1,s,h=>by
  obtain⟨r,hr,a⟩:=fF.mp h;obtain⟨d,b⟩:=pU hr;have go:∀v:Int,(v = -1\/v=1)->(r++[v]).length=n+1/\∀x∈r++[v],x = -1\/x=1:=λv hv=>⟨by simp[d],λx e=>(ai.mp e).elim (b x) λz=>by rw[aj.mp z];exact hv⟩;simp only[aF,de,or_false]at a;rcases a with rfl|rfl
  .exact go _ (.inl rfl)
  .exact go _ (.inr rfl)
theorem E6:∀n:Nat,(iB n).length=2 ^ n
 |0=>rfl
 |n+1=>by rw[iB,List.length_flatMap];have:(iB n).map (λs=>([s++[-1],s++[1]]:LL).length)=(iB n).map λ_=>2:=fz λ_ _=>rfl;rw[this,List.map_const',List.sum_replicate_nat,E6 n,dz]
def BZ(h:s∈iB n)(d:i<n):vc s i=1\/vc s i = -1:=by obtain⟨b,a⟩:=pU h;rw[jS s i (by lia)];exact (a _ (aV _)).symm
def rj(p:LI×LI):T:=.tup [tI p.1,tI p.2]
structure Gu(d B:Nat)(u:LI):Prop where
 len:u.length=d+1
 bn:∀x∈u,Bn B x
 ne:∃i,vc u i≠0
def AX(p:Prop):Bool:=@decide p (Classical.propDecidable p)
@[simp] theorem Im:AX p=true↔p:=@decide_eq_true_iff p (Classical.propDecidable p)
def Cv(h:p):AX p=true:=Im.mpr h
def GP(h:¬p):AX p=false:=by
 cases e:AX p with
 |false=>rfl
 |true=>exact absurd (Im.mp e) h
def flt(n:Nat)(p:LI->Prop):LL:=(iB n).filter λs=>AX (p s)
def JP(h:∀s∈iB n,p s↔q s):flt n p=flt n q:=f9 λs a=>by rw[show p s=q s from propext (h s a)]
def yi:s∈flt n p↔s∈iB n/\p s:=by simp[flt]
def Ee(h:∀s,¬p s):flt n p=[]:=gh.mpr λs _=>by simp[h s]
def yg n p:(flt n p).length<=2 ^ n:=by rw[<-E6];exact fC _ _
structure N7(d N:Nat)(us:LL)(L:List (LI×LI)):Prop where
 fst:L.map Prod.fst=flt us.length (Rz d us)
 gp:∀p∈L,Gp d N p.2
 sg:∀p∈L,∀i,i<us.length->lK (hv d (vc (us.getD i [])) (vc p.2))=vc p.1 i
def L7(f:0<vc P d)(h:∀i,i<us.length->lK (hv d (vc (us.getD i [])) (vc P))=vc s i)(b:∀i,i<us.length->vc s i=1\/vc s i = -1):On d us s (XP d (vc P)):=λi a=>by
 have e:=h i a;rw[SH f]at e;generalize kg d (XP d (vc P)) (vc (us.getD i []))=v at *;unfold Fi at e;rcases b i a with q|q<;>rw[q]at e ⊢
 .have o:((1:Int):Rat)=1:=rfl;rw[o];split at e
  .grind
  .split at e<;>cases e
 .have o:((-1:Int):Rat) = -1:=rfl;rw[o];split at e
  .cases e
  .split at e
   .grind
   .cases e
def vN{us:LL}(b:us.length=n)(f:LI->LI)(a:i<n):(us.map f).getD i []=f (us.getD i []):=by rw[af,av,ag (by lia),af,ag (by lia)];rfl
def rG{us:LL}(a:i<us.length):us.getD i []∈us:=by rw[af,ag a];exact aV _
def QY{a b:Int}(d:0<a)(i:0<b)(e:(a:Rat)*x=(b:Rat)*y)(h:0<v*y):0<v*x:=by
 have k:=nN d;have g:=nN i;have f:a*(v*x)=b*(v*y):=by grind
 have j:0<a*(v*x):=by rw[f];exact eT g h
 refine fJ (c:=a) ?_ (by grind);rw[Rat.mul_zero];exact j
def IQ(A:p<=d)(D:vc u p≠0)(f:LI->LI)(m:∀w∈us,vc (f w) p=0/\p<(f w).length/\∃g s b:Int,0<g/\0<s/\∀i,g*vc (f w) i=s*vc w i+b*vc u i) s:Rz d (us.map λw=>wo (f w) p) s↔Rx (d+1) us u s:=by
 have y:∀X:Nat->Rat,∀w∈us,kg (d+1) X (vc (f w))=kg d (λi=>X (sk p i)) (vc (wo (f w) p)):=λX w hw=>by obtain⟨B,C,-⟩:=m w hw;rw[Km A,B,show vc (wo (f w) p)=λi=>vc (f w) (sk p i) from funext λi=>Mt C i];grind
 constructor
 .rintro⟨X,r⟩;let Y:Nat->Rat:=λj=>if j=p then -kg d X (λi=>vc u (sk p i)) / (vc u p:Rat) else X (if j<p then j else j-1)
  have x:(λi=>Y (sk p i))=X:=funext λi=>by
   show (if sk p i=p then _ else X (if sk p i<p then sk p i else sk p i-1))=X i;unfold sk;by_cases q:i<p
   .rw[aQ q,aR (by lia),aQ q]
   .rw[aR q,aR (by lia),aR (by lia)];congr 1
  have E:(vc u p:Rat)≠0:=λz=>D (by exact_mod_cast z);have k:kg (d+1) Y (vc u)=0:=by
   rw[Km A,x];have:Y p = -kg d X (λi=>vc u (sk p i)) / (vc u p:Rat):=by show (if p=p then _ else _)=_;rw[aQ rfl]
   rw[this];grind
  refine⟨Y,k,λi h=>?_⟩;have hw:=rG h;obtain⟨-,-,g,a,b,v,n,e⟩:=m _ hw;have o:=r i (by simpa using h);rw[vN rfl _ h]at o;have t:=y Y _ hw;rw[x]at t;rw[<-t]at o;have l:=tV (d:=d+1) (X:=Y) _ _ _ g a b e;rw[k]at l;exact QY n v (by grind) o
 .rintro⟨X,k,r⟩;refine⟨λi=>X (sk p i),λi h=>?_⟩;rw[aw]at h;have hw:=rG h;obtain⟨-,-,g,a,b,v,n,e⟩:=m _ hw;rw[vN rfl _ h,<-y X _ hw];have l:=tV (d:=d+1) (X:=X) _ _ _ g a b e;rw[k]at l;exact QY v n (by grind) (r i h)
def zv(n:p<=d)(C:vc u p≠0)(k:0<g0)(v:∀i,g0*vc Q (sk p i)=((vc u p).natAbs:Int)*vc P i)(m:g0*vc Q p = -lK (vc u p)*hv d (λi=>vc u (sk p i)) (vc P)) :
  hv (d+1) (vc u) (vc Q)=0/\(vc r p=0->p<r.length->(∃g s b:Int,0<g/\0<s/\∀i,g*vc r i=s*vc w i+b*vc u i)->lK (hv (d+1) (vc w) (vc Q))=lK (hv d (vc (wo r p)) (vc P))):=by
 have o:0<((vc u p).natAbs:Int):=by lia
 have f:∀x:Vc,g0*hv d x (λi=>vc Q (sk p i))=((vc u p).natAbs:Int)*hv d x (vc P):=λx=>by
  have:=Pd (d:=d) (u:=x) (P:=vc P) (Q:=vc P) (R:=λi=>vc Q (sk p i)) (g:=g0) (a:=((vc u p).natAbs:Int)) (b:=0) λi=>by rw[v i];lia
  lia
 have z:hv (d+1) (vc u) (vc Q)=0:=by
  have e:=QZ n (vc u) (vc Q);have j:=f λi=>vc u (sk p i);have y:=Hf (vc u p);generalize hv d (λi=>vc u (sk p i)) (vc P)=h at *;have:g0*hv (d+1) (vc u) (vc Q)=0:=by rw[e,dW,j,show g0*(vc u p*vc Q p)=vc u p*(g0*vc Q p) by grind,m,<-y];grind
  rcases dS.mp this with q|q
  .lia
  .exact q
 refine⟨z,λr0 rl ⟨g,a,b,hg,ha,e⟩=>?_⟩;have l:=Su (d:=d+1) (P:=vc Q) e;rw[z]at l;have B:=QZ n (vc r) (vc Q);rw[r0]at B;have A:=funext λi=>Mt rl i;rw[A];have j:=f λi=>vc r (sk p i);rw[<-yh k o j];refine yh ha hg ?_;rw[show hv d (λi=>vc r (sk p i)) (λi=>vc Q (sk p i))=hv (d+1) (vc r) (vc Q) by lia];lia
abbrev nI(k:Nat):T:=.int (k:Int)
def ID(h:f ρ=.ok (.tup ts)):tz (gF f gJ) ρ=.ok (oU ts):=by simp only[tz,gF,gJ,h,M.bind_ok];rfl
def JF(h:f ρ=.ok (.lst ts)):tz (gF f gJ) ρ=.ok (oU ts):=by simp only[tz,gF,gJ,h,M.bind_ok];rfl
def S2 ns:xN [tI ns]=.ok (.bl (ns.any λx=>x != 0)):=by simp only[tI,xN,vJ,Gc];rw[cC];rfl
def QG(h:f ρ=.ok (.bl b)):Ds f ρ=.ok (.bl (!b)):=by simp only[Ds,iR,h,M.bind_ok]
theorem Do(hB:B<=2000)(hN:N<=5000)(hd:d<=50)(I:∀w∈us,Gu d B w)(hn:us.length<=8)(hu:Gu d B u) FR
  (hFR:∀d',d=d'+1->∀vs:LL,vs.length=us.length->(∀w∈vs,Gu d' (2*B+1) w)->∃L:List (LI×LI),FR [.lst (vs.map tI),.int (d':Int)]=.ok (.lst (L.map rj))/\N7 d' N vs L) :
  ∃C:List (LI×LI),lU c FR [.lst (us.map tI),tI u]=.ok (C.map rj)/\C.map Prod.fst=flt us.length (Rx d us u)/\∀q∈C,Gp d (B+N+d+1) q.2/\hv d (vc u) (vc q.2)=0/\(∀i,i<us.length->lK (hv d (vc (us.getD i [])) (vc q.2))=vc q.1 i)/\∃i,i<d/\vc u i≠0:=by
 have sz:1000<sizeLine:=by decide
 have ul:=hu.len;let S (x2 x3 x4:Option W):En:=[some (.p (.lst (us.map tI))),some (.p (tI u)),x2,x3,x4];let Z:List (Int×Nat):=u.dropLast.zipIdx.filter λq=>q.1 != 0;have hZ:∀q∈Z,q.2<d/\vc u q.2=q.1/\q.1≠0:=λq o=>by
  obtain⟨H,A⟩:=aU.mp o;obtain⟨x,k⟩:=q;have n:=gq.mp H;have hk:k<d:=by have:=(aa.mp n).1;simp at this;lia
  refine⟨hk,?_,by simpa using A⟩;rw[<-BK ul hk,jS _ k (by simp;lia)];have:=aa.mp n;exact this.2
 have e2:j5 [none,none] (tz (gF (ka al (λ_=>.ok none) (ju (qw (λi=>.int (-i)) ab))) gJ)) ap eH (vF c FR) (mD (S none none none))=.ok (Z.map λq=>nI q.2):=by refine og u.dropLast.zipIdx (λq=>T.tup [.int (q.2:Int),.int q.1]) (λq=>nI q.2) (λq=>q.1 != 0) ((ID (Ex ul rfl)).trans (by rw[tY])) (by simp;lia) (λq o=>⟨_,rfl,gX (gL rfl rfl (by rw[nO];rfl)),λ_=>rfl⟩) rfl
 have c2:iR (gR (iA false) bd cb) (vw (S (some (.p (.lst (Z.map λq=>nI q.2)))) none none))=.ok Z.isEmpty:=by refine gX (gL (x:=.lst (Z.map λq=>nI q.2)) (y:=.lst []) rfl (by simp) ((ye false _ (sA _ _ λ_ _=>rfl) (aN (se _ 0 _ λ_ _=>aK _) (by decide))).trans ?_));cases Z<;>rfl
 have st:∀{g:En->O} {ts:List T},_=O.rf ts->lU c FR [.lst (us.map tI),tI u]=.ok ts:=λ{g ts} h=>mx rfl (gM (ρ':=S (some (.p (.lst (Z.map λq=>nI q.2)))) none none) (gU (iC e2) rfl) h);cases m:Z with
 |nil=>
  have z0:∀i,i<d->vc u i=0:=λi l=>aO λne=>by have:(vc u i,i)∈Z:=aU.mpr ⟨gq.mpr (by rw[ag (by simp;lia),<-BK ul l,jS _ i (by simp;lia)]),by simpa using ne⟩;rw[m]at this;exact nomatch this
  have hd0:vc u d≠0:=by
   obtain⟨i,l⟩:=hu.ne;rcases cI i d with h|h|h
   .exact absurd (z0 i h) l
   .rw[<-h];exact l
   .exact absurd (pP u i (by lia)) l
  refine⟨[],st (g:=iT) (Kd (jf (c2.trans (by rw[m];rfl)) (mP (by simp))) rfl),(Ee λs ⟨X,hX,_⟩=>?_).symm,λ_ h=>nomatch h⟩;rw[tm z0]at hX;have z:(vc u d:Rat)=0:=by grind
  exact hd0 (by exact_mod_cast z)
 |cons z0 Zr=>
  obtain⟨x,p⟩:=z0;obtain⟨hpd,hpx,Y⟩:=hZ (x,p) (by rw[m];simp);dsimp only at hpd hpx Y;obtain⟨d',rfl⟩:∃d',d=d'+1:=⟨d-1,by lia⟩;have h0:vc u p≠0:=by rw[hpx];exact Y
  obtain⟨f,D⟩:=t8 (P:=λ(w r:LI)=>jt c [tI w,tI u,.int (p:Int)]=.ok (tI r)/\r.length=w.length/\(∀x∈r,Bn (2*B+1) x)/\vc r p=0/\∃g s b:Int,0<g/\0<s/\∀i,g*vc r i=s*vc w i+b*vc u i) us λw hw=>by have wl:=(I w hw).len;obtain⟨r,H,A,n,v,g,s,b,E,U,h7,-⟩:=zm (c:=c) B B w u p (by lia) (by lia) (by lia) (by lia) (I w hw).bn hu.bn h0;exact⟨r,H,A,λx J=>(n x J).mono (by lia),v,g,s,b,E,U,h7⟩
  have K:∀w∈us,(f w).length=d'+2:=λw hw=>by rw[(D w hw).2.1,(I w hw).len]
  let a:LL:=us.map λw=>wo (f w) p;have ti:=IQ (d:=d') (p:=p) (by lia) (us:=us) h0 f λw hw=>⟨(D w hw).2.2.2.1,by have:=K w hw;lia,(D w hw).2.2.2.2⟩;have e4:j5 [none,some 3,some 1] db bv (λ_=>.ok true) (uZ c FR) (mD (S (some (.p (.lst (Z.map λq=>nI q.2)))) (some (.p (nI p))) none))=.ok (a.map tI):=jC us tI (λw=>tI (wo (f w) p)) rfl (by lia) (λw hw=>⟨_,rfl,rfl,iY (kW rfl rfl rfl (D w hw).1) rfl (q9 _ p (by have:=K w hw;lia) (by have:=K w hw;lia))⟩) (by simp[a])
  let S4:En:=S (some (.p (.lst (Z.map λq=>nI q.2)))) (some (.p (nI p))) (some (.p (.lst (a.map tI))));have e5:iR (kG xN (gF (jw (j5 [none] (iU bu) bv (λ_=>.ok true) (vf c FR))) gJ)) (vw S4)=.ok ((a.map λt=>!(t.any λx=>x != 0)).any id):=by refine gX (oC (ts:=(a.map λt=>!(t.any λx=>x != 0)).map T.bl) ?_ (BR _));exact jC a tI (λt=>T.bl (!(t.any λx=>x != 0))) rfl (by simp[a];lia) (λt ht=>⟨_,rfl,rfl,QG (n8 (t:=tI t) rfl (S2 t))⟩) (by simp)
  have st4:∀{ts:List T},_=O.rf ts->lU c FR [.lst (us.map tI),tI u]=.ok ts:=λ{ts} h=>st (g:=iT) (gM (iS (c2.trans (by rw[m];rfl)) rfl) (gM (ρ':=S (some (.p (.lst (Z.map λq=>nI q.2)))) (some (.p (nI p))) none) (gU (t:=nI p) (gL (x:=.lst (Z.map λq=>nI q.2)) (y:=.int 0) rfl rfl (by rw[m];exact Q0 _ _)) rfl) (gM (ρ':=S4) (gU (iC e4) rfl) h)));cases hA:(a.map λt=>!(t.any λx=>x != 0)).any id with
  |true=>
   obtain⟨b,hb,hb2⟩:=d8.mp hA;obtain⟨t,ht,rfl⟩:=aD.mp hb;obtain⟨w,hw,rfl⟩:=aD.mp ht;obtain⟨i,l,hiw⟩:=gw hw;have az:∀j,vc (wo (f w) p) j=0:=λj=>aO λne=>by
    have:((wo (f w) p).any λx=>x != 0)=true:=by
     by_cases hj:j<(wo (f w) p).length
     .exact d8.mpr ⟨vc (wo (f w) p) j,by rw[jS _ j hj];exact aV _,by simpa using ne⟩
     .exact absurd (pP _ j (by lia)) ne
    rw[this]at hb2;cases hb2
   refine⟨[],st4 (Kd (jf (e5.trans (by rw[hA])) (mP (by simp))) rfl),(Ee λs hs=>?_).symm,λ_ h=>nomatch h⟩;obtain⟨X,hX⟩:=(ti s).mpr hs;have:=hX i (by simpa using l);rw[vN rfl _ l,af,ag l,gx,hiw,tm λj _=>az j,az]at this;simp at this
  |false=>
   have gtr:∀t∈a,Gu d' (2*B+1) t:=λt ht=>by
    obtain⟨w,hw,rfl⟩:=aD.mp ht;have wl:=MD (row:=f w) (p:=p) (by have:=K w hw;lia);have:=bH.mp hA _ (aD.mpr ⟨_,ht,rfl⟩);refine⟨by have:=K w hw;lia,λx J=>(D w hw).2.2.1 x (Mu J),?_⟩;have t1:((wo (f w) p).any λx=>x != 0)=true:=by simpa using this
    obtain⟨x,J,hx2⟩:=d8.mp t1;obtain⟨j,hj,e⟩:=gw J;exact⟨j,by rw[jS _ j hj,e];simpa using hx2⟩
   obtain⟨L,eL,hL⟩:=hFR d' rfl a (by simp[a]) gtr;obtain⟨Q,hQ⟩:=t8 (P:=λ(q:LI×LI) (r:LI×Int)=>mW c [tI u,.int (p:Int),tI q.2]=.ok (tI r.1)/\r.1.length=d'+2/\(∀x∈r.1,Bn (B+N+(d'+1)+1) x)/\0<r.2/\(∀i,r.2*vc r.1 (sk p i)=((vc u p).natAbs:Int)*vc q.2 i)/\r.2*vc r.1 p = -lK (vc u p)*hv d' (λi=>vc u (sk p i)) (vc q.2)) L λq o=>by obtain⟨R,g,H,A,n,v,E,U⟩:=DN (c:=c) (d:=d') (B:=B) (M:=N) hB hN (by lia) (by lia) hu.bn (p:=p) (by lia) (hL.gp q o);exact⟨(R,g),H,A,λx J=>(n x J).mono (by lia),v,E,U⟩
   have Ll:L.length<=256:=by
    have H:=congrArg List.length hL.fst;have A:=yg a.length (Rz d' a);have n:a.length<=8:=by simpa[a] using hn
    have v:2 ^ a.length<=2 ^ 8:=du (by decide) n;rw[aw]at H;lia
   refine⟨L.map λq=>(q.1,(Q q).1),st4 (gM (iS (e5.trans (by rw[hA])) rfl) (mP (jC L rj (λq=>rj (q.1,(Q q).1)) (lY (iY (x:=.lst (a.map tI)) (y:=.int (d':Int)) rfl (gL (x:=.int ((d'+2:Nat):Int)) (y:=.int 2) (n8 (t:=tI u) rfl (by simp[tI,ul];lia)) rfl (by rw[nr];congr 2;lia)) eL)) (by lia) (λq o=>⟨_,rfl,rfl,pZ rfl (kW rfl rfl rfl (hQ q o).1)⟩) (by rw[aI];rfl)))),?_,λq o=>?_⟩
   .rw[aI];show L.map Prod.fst=_;rw[hL.fst,show a.length=us.length by simp[a]];exact JP λs _=>ti s
   .obtain⟨q0,F,rfl⟩:=aD.mp o;obtain⟨-,A,n,v,E,U⟩:=hQ q0 F;have gp0:=hL.gp q0 F;dsimp only;refine⟨⟨A,n,?_⟩,(zv (w:=u) (r:=u) (by lia) h0 v E U).1,λi l=>?_,p,by lia,h0⟩
    .have:=E d';rw[T8 (by lia)]at this;have h7:0<((vc u p).natAbs:Int)*vc q0.2 d':=aX (by lia) gp0.pos;rw[<-this]at h7;exact fZ h7 v
    .have hw:=rG l;rw[(zv (w:=us.getD i []) (r:=f (us.getD i [])) (by lia) h0 v E U).2 (D _ hw).2.2.2.1 (by have:=K _ hw;lia) (D _ hw).2.2.2.2];have:=hL.sg q0 F i (by simpa[a] using l);rwa [vN rfl _ l]at this
def zK kvs k j v:nH (rY kvs k v) j=if j=k then some v else nH kvs j:=by
 have get:∀l:List (LI×T),(l.find? λd=>decide (d.1=j)).map (·.2)=nH l j:=λ_=>rfl;unfold rY;by_cases h:(kvs.any λd=>decide (d.1=k))=true
 .rw[aQ h];induction kvs with
  |nil=>simp at h
  |cons a l ih=>
   unfold nH at ih ⊢;rw[bI,List.find?_cons,List.find?_cons];by_cases e:a.1=k
   .rw[aQ e];by_cases b:j=k
    .rw[aQ b];simp[e,b]
    .rw[aR b];have i:¬a.1=j:=λz=>b (z▸e);simp only[i,decide_false];by_cases f:(l.any λd=>decide (d.1=k))=true
     .rw[ih f,aR b]
     .have:l.map (λd=>if d.1=k then (d.1,v) else d)=l:=by
       conv=>rhs;rw[<-List.map_id l]
       refine fz λq g=>aR λz=>f (d8.mpr ⟨q,g,by simpa using z⟩)
      rw[this]
   .rw[aR e];have f:(l.any λd=>decide (d.1=k))=true:=by simpa[e] using h
    by_cases b:a.1=j
    .have:¬j=k:=λz=>e (b.trans z);simp[b,this]
    .simp only[b,decide_false];exact ih f
 .rw[aR h];unfold nH;rw[List.find?_append];by_cases b:j=k
  .subst b;have:=List.find?_eq_none.mpr λq g z=>h (d8.mpr ⟨q,g,z⟩);rw[this];simp
  .rw[aR b];have:¬k=j:=λz=>b z.symm;simp[this]
theorem BC:∀b kvs j,(nH (vI kvs b) j=nH kvs j/\j∉b.map Prod.fst)\/∃t,nH (vI kvs b) j=some t/\(j,t)∈b
 |[],_,_=>.inl ⟨rfl,λh=>nomatch h⟩
 | (k,v)::b,kvs,j=>by
  rcases BC b (rY kvs k v) j with⟨a,e⟩|⟨t,a,e⟩
  .rw[zK]at a;by_cases d:j=k
   .rw[aQ d]at a;exact .inr ⟨v,a,by rw[d];simp⟩
   .rw[aR d]at a;exact .inl ⟨a,by simp[d];simpa using e⟩
  .exact .inr ⟨t,a,by simp[e]⟩
theorem Bd:∀C:List (LI×LI),yP (C.map rj)=some (C.map λq=>(q.1,tI q.2))
 |[]=>rfl
 |q::C=>by rw[bI];show (jY (q.1.map T.int)).bind _=_;rw[tQ,Option.bind_some,Bd C];rfl
def RP(C:List (LI×LI)) s:(nH (vI [] (C.map λq=>(q.1,tI q.2))) s=none/\s∉C.map Prod.fst)\/∃q∈C,q.1=s/\nH (vI [] (C.map λq=>(q.1,tI q.2))) s=some (tI q.2):=by
 rcases BC (C.map λq=>(q.1,tI q.2)) [] s with⟨b,a⟩|⟨t,b,a⟩
 .exact .inl ⟨b,by rw[aI]at a;exact a⟩
 .obtain⟨q,d,e⟩:=aD.mp a;cases e;exact .inr ⟨q,d,rfl,b⟩
def Ls n p:flt (n+1) p=(iB n).flatMap λs=>[s++[-1],s++[1]].filter λs=>AX (p s):=by unfold flt;rw[iB,List.filter_flatMap]
def Kp(h:∀s∈iB n,¬p s->∀v,¬q (s++[v])):flt (n+1) q=(flt n p).flatMap λs=>[s++[-1],s++[1]].filter λs=>AX (q s):=by
 rw[Ls];unfold flt;generalize iB n=l at *;induction l with
 |nil=>rfl
 |cons a l ih=>
  rw[gy,ih λs d=>h s (by simp[d])];by_cases b:p a
  .have e:(a::l).filter (λs=>AX (p s))=a::l.filter λs=>AX (p s):=gz (by simpa using b);rw[e,gy]
  .have e:(a::l).filter (λs=>AX (p s))=l.filter λs=>AX (p s):=gA (by simpa using b);rw[e];simp[h a (by simp) b]
section
variable {d:Nat}{us:LL}{u s:LI}
def tN i:(us++[u]).getD i []=if i<us.length then us.getD i [] else if i=us.length then u else []:=by
 rw[af,af];by_cases h:i<us.length
 .rw[aQ h,List.getElem?_append_left h]
 .rw[aR h,List.getElem?_append_right (by lia)];by_cases a:i=us.length
  .rw[aQ a,a,fO];rfl
  .rw[aR a,List.getElem?_eq_none (by simp;lia)];rfl
def vA(b:s.length=n) v i:vc (s++[v]) i=if i<n then vc s i else if i=n then v else 0:=by
 rw[sP,b];by_cases h:i<n
 .rw[aQ h,aQ h]
 .rw[aR h,aR h];by_cases a:i=n
  .rw[aQ a,a,fO];rfl
  .rw[aR a];exact pP _ _ (by simp;lia)
def Cr(b:s.length=us.length)(v:Int) X:On d (us++[u]) (s++[v]) X↔On d us s X/\0<(v:Rat)*kg d X (vc u):=by
 constructor
 .intro h;refine⟨λi a=>?_,?_⟩
  .have:=h i (by simp;lia);rwa [tN,aQ a,vA b,aQ a]at this
  .have:=h us.length (by simp);rwa [tN,aR (by lia),aQ rfl,vA b,aR (by lia),aQ rfl]at this
 .rintro⟨f,e⟩ i a;rw[tN,vA b];by_cases q:i<us.length
  .rw[aQ q,aQ q];exact f i q
  .have:i=us.length:=by simp at a;lia
   rw[aR q,aR q,aQ this,aQ this];exact e
def Hl(e:s.length=us.length)(h:∀i,i<us.length->lK (hv d (vc (us.getD i [])) (vc P))=vc s i)(a:lK (hv d (vc u) (vc P))=v):∀i,i<(us++[u]).length->lK (hv d (vc ((us++[u]).getD i [])) (vc P))=vc (s++[v]) i:=λi b=>by
 rw[tN,vA e];by_cases q:i<us.length
 .rw[aQ q,aQ q];exact h i q
 .have:i=us.length:=by simp at b;lia
  rw[aR q,aR q,aQ this,aQ this];exact a
end
def OW(h:0<g)(j:1<=o)(k:s = -1\/s=1)(b:∀i,i<d->g*vc Q i=o*vc P i+s*vc u i)(a:g*vc Q d=o*vc P d) :
  g*hv d (vc w) (vc Q)=o*hv d (vc w) (vc P)+s*sm d λi=>vc w i*vc u i:=by
 unfold hv;have e:g*sm d (λi=>vc w i*vc Q i)=o*sm d (λi=>vc w i*vc P i)+s*sm d (λi=>vc w i*vc u i):=by rw[<-lL,<-uV];exact iZ d _ _ λi f=>by have:=b i f;grind
 rw[fU,e,show g*(vc w d*vc Q d)=vc w d*(g*vc Q d) by grind,a];grind
theorem Rf:∀(d:Nat) (f:Nat->Int),0<=sm d (λi=>f i*f i)/\((∃i,i<d/\f i≠0)->0<sm d λi=>f i*f i)
 |0,_=>⟨eD _,λ⟨_,h,_⟩=>nomatch h⟩
 |d+1,f=>by
  obtain⟨e,a⟩:=Rf d λi=>f (i+1);have b:∀x:Int,0<=x*x/\(x≠0->0<x*x):=λx=>by
   rcases fH x 0 with h|h|h
   .have:=Int.mul_pos_of_neg_of_neg h h;exact⟨by lia,λ_=>this⟩
   .subst h;exact⟨by decide,λz=>absurd rfl z⟩
   .have:=aX h h;exact⟨by lia,λ_=>this⟩
  rw[sm];have q:=b (f 0);refine⟨by lia,λ⟨i,hi,hf⟩=>?_⟩;cases i with
  |zero=>have:=q.2 hf;lia
  |succ i=>have:=a ⟨i,by lia,hf⟩;lia
def KW(e:1<=o)(h:(b.natAbs:Int)<o*(a.natAbs:Int))(d:s = -1\/s=1):lK (o*a+s*b)=lK a:=by
 unfold lK;rcases fH a 0 with q|q|q
 .have:o*a.natAbs = -(o*a):=by rw[show a.natAbs = -a by lia,cX]
  rw[aR (by lia),aQ (by lia),aR (by lia),aQ q]
 .subst q;simp at h;lia
 .have:o*a.natAbs=o*a:=by rw[show a.natAbs=a by lia]
  rw[aQ (by lia),aQ q]
def Oc(hB:B<=2000)(hN:N<=5000)(hd:d<=50)(h2:3*B+N+2*d+4<=N2)(hN2:N2<=5000)(Z:∀w∈us,Gu d B w)(hn:us.length<=8)(hu:Gu d B u) FR
  (hFR:∀d',d=d'+1->∀vs:LL,vs.length=us.length->(∀w∈vs,Gu d' (2*B+1) w)->∃L:List (LI×LI),FR [.lst (vs.map tI),.int (d':Int)]=.ok (.lst (L.map rj))/\N7 d' N vs L) (hL:N7 d N2 us L) :
  ∃L':List (LI×LI),lD c FR [.lst (L.map rj),.lst (us.map tI),tI u]=.ok (L'.map rj)/\N7 d N2 (us++[u]) L'/\L'.length=L.length+(flt us.length (Rx d us u)).length:=by
 have sz:1000<sizeLine:=by decide
 obtain⟨C,eC,hC,hCp⟩:=Do (c:=c) hB hN hd Z hn hu FR hFR;have Ll:L.length<=256:=by have h1:=congrArg List.length hL.fst;have h2:=yg us.length (Rz d us);have h4:2 ^ us.length<=2 ^ 8:=du (by decide) hn;rw[aw]at h1;lia
 have rw_:∀q∈L,q.1∈iB us.length/\Rz d us q.1:=λq I=>yi.mp (by rw[<-hL.fst];exact aD.mpr ⟨q,I,rfl⟩);let K:List (LI×T):=vI [] (C.map λq=>(q.1,tI q.2));let D:T:=.dic K;let S (G:List (LI×LI)) (E n a:Option W):En:=[some (.p (.lst (L.map rj))),some (.p (.lst (us.map tI))),some (.p (tI u)),some (.p D),some (.o (G.map rj)),E,n,a];let Ok (q:LI×LI):Prop:=Gp d N2 q.2/\∀i,i<(us++[u]).length->lK (hv d (vc ((us++[u]).getD i [])) (vc q.2))=vc q.1 i;let A:LI->Bool:=λs=>AX (Rx d us u s);let two:LI->LL:=λs=>[s++[-1],s++[1]].filter λs=>AX (Rz d (us++[u]) s);have hin:∀(s:LI) (b:Bool) (G:List (LI×LI)) (n a:Option W),(nH K s).isSome=b->iR (gR (Gj false) bi be) (vw (S G (some (.p (tI s))) n a))=.ok b:=λs b G n a h=>gX (gL (x:=tI s) (y:=D) rfl rfl (by show (match jY (s.map T.int) with|some ns=>M.ok (T.bl (if false then !(nH K ns).isSome else (nH K ns).isSome))|none=>M.bad)=_;rw[tQ];simp[h]))
 have app:∀(G:List (LI×LI)) (q:LI×LI) (E n a:Option W) {f:Pe->M T},G.length<=600->f (mD (S G E n a))=.ok (rj q)->qV 4 (jr f) (S G E n a)=.nx (S (G++[q]) E n a):=λG q E n a {f} hG h=>wO (us:=G.map rj) rfl h (by rw[aw];lia) (by simp[S]);obtain⟨ρ',e',G,E,n,a,rfl,g1,g2,g3⟩:=jE (m:=mj 2 (i8 (j6 5) (i8 (j6 6) ml))) (g:=qT c FR) rj
  (λk ρ=>∃(G:List (LI×LI)) (E n a:Option W),ρ=S G E n a/\G.map Prod.fst=((L.take k).map Prod.fst).flatMap two/\(∀q∈G,Ok q)/\G.length=k+(((L.take k).map Prod.fst).filter A).length) L 0 (S [] none none none) ⟨[],none,none,none,rfl,rfl,(λ_ h=>nomatch h),rfl⟩ (by
   rintro k ⟨s,P⟩ ρ hk ⟨G,E,n,a,rfl,g1,g2,g3⟩;rw[aG]at g1 g3 ⊢;have hm:=au hk;have hkl:=(aa.mp hk).1;have g4:G.length<=2*k:=by have:=fC A ((L.take k).map Prod.fst);simp only[aw,bR]at this;lia
   have ck:(((L.take (k+1)).map Prod.fst).filter A).length=(((L.take k).map Prod.fst).filter A).length+if A s then 1 else 0:=by rw[jP L k _ hk,aZ,fE,aT];cases h:A s<;>simp[h]
   obtain⟨r1,X0,hX0⟩:=rw_ _ hm;have R:=hL.gp _ hm;have sg:=hL.sg _ hm;dsimp only at r1 R sg hX0;have sl:=(pU r1).1;have H:=L7 R.pos sg λi j=>BZ r1 j;have rx:s∈C.map Prod.fst↔Rx d us u s:=by rw[hC,yi];exact⟨λz=>z.2,λz=>⟨r1,z⟩⟩
   have tk:((L.take (k+1)).map Prod.fst).flatMap two=((L.take k).map Prod.fst).flatMap two++two s:=by rw[jP L k _ hk];simp
   refine⟨S G (some (.p (tI s))) (some (.p (tI P))) a,?_⟩;rcases RP C s with⟨v0,v1⟩|⟨q,I,rfl,v1⟩
   .have F:¬Rx d us u s:=λz=>v1 (rx.mpr z);have h0:hv d (vc u) (vc P)≠0:=λz=>F ⟨XP d (vc P),by
     have e:=ND (u:=vc u) R.pos;rw[z]at e;have:=nN R.pos;rcases Rat.mul_eq_zero.mp e.symm with q|q
     .grind
     .exact q,H⟩
    have la:=uG (c:=c) (d:=d) (B:=B) (M:=N2) (by lia) (by lia) hd hu.len R.len hu.bn R.bn;have hs:=K5 (hv d (vc u) (vc P));generalize hh:hv d (vc u) (vc P)=h at *;have one:lK h = -1\/lK h=1:=by have:=xr h;have:=(hs.2 h0).2.2;lia
    have r:0<((lK h:Int):Rat)*kg d (XP d (vc P)) (vc u):=by
     have z:∀i,i < [u].length->i=0:=λi j=>by simpa using j
     have:=L7 (us:=[u]) (s:=[lK h]) R.pos (λi j=>by rw[z i j];show lK (hv d (vc u) (vc P))=_;rw[hh];rfl) λi j=>by rw[z i j];exact one.symm
     exact this 0 (by simp)
    have rz1:Rz d (us++[u]) (s++[lK h]):=⟨_,(Cr sl _ _).mpr ⟨H,r⟩⟩;have rz2:∀v:Int,(v = -1\/v=1)->v≠lK h->¬Rz d (us++[u]) (s++[v]):=λv l hne ⟨Y,hY⟩=>by
     obtain⟨y1,y2⟩:=(Cr sl _ _).mp hY;have:v = -lK h:=by rcases one with q|q<;>rw[q]at hne ⊢<;>lia
     rw[this]at y2;have c1:((-lK h:Int):Rat) = -((lK h:Int):Rat):=by simp
     rw[c1]at y2;rcases one with q|q
     .rw[q]at r y2;have o:((-1:Int):Rat) = -1:=rfl;rw[o]at r y2;exact F (Q9 y1 H (by grind) (by grind))
     .rw[q]at r y2;have o:((1:Int):Rat)=1:=rfl;rw[o]at r y2;exact F (Q9 H y1 (by grind) (by grind))
    have tw:two s=[s++[lK h]]:=by
     show List.filter _ [s++[-1],s++[1]]=_;rcases one with q|q<;>rw[q]at rz1 rz2 ⊢
     .rw[gz (by simpa using rz1),gA (by simpa using rz2 1 (.inr rfl) (by decide))];rfl
     .rw[gA (by simpa using rz2 (-1) (.inl rfl) (by decide)),gz (by simpa using rz1)];rfl
    refine⟨S (G++[(s++[lK h],P)]) (some (.p (tI s))) (some (.p (tI P))) a,rfl,.inl (iS (hin s false G _ _ (by rw[show nH K s=none from v0];rfl)) (app G (s++[lK h],P) _ _ _ (by lia) (pZ (gL (x:=tI s) (y:=tI [lK h]) rfl (GA (pX (iY rfl rfl la) (uQ h))) (qD _ _ (by simp;lia))) rfl))),_,_,_,_,rfl,?_,?_,by rw[ck,show A s=false from GP F,aT,g3];simp;lia⟩
    .rw[aZ,g1,tk,tw];rfl
    .intro z hz;rcases ai.mp hz with y|y
     .exact g2 z y
     .rw[aj.mp y];exact⟨R,Hl sl sg (by rw[hh])⟩
   .obtain⟨cp,cz,cs,ci⟩:=hCp q I;have hne:∀w∈us,hv d (vc w) (vc q.2)≠0:=λw hw z=>by obtain⟨i,j,e⟩:=gw hw;have:=cs i j;rw[af,ag j,gx,e,z]at this;rcases BZ r1 j with y|y<;>rw[y]at this<;>cases this
    have U:∀v:Int,(v = -1\/v=1)->∃Q:LI,kU c [.lst (us.map tI),tI u,tI q.2,.int v]=.ok (tI Q)/\Ok (q.1++[v],Q):=λv l=>by
     obtain⟨Q,g,o,f1,f2,f3,f4,f5,f6,f7,f8⟩:=Ct (c:=c) (d:=d) (B:=B) (N:=B+N+d+1) hB (by lia) (by lia) hd (λw hw=>⟨(Z w hw).len,(Z w hw).bn⟩) (by lia) hu.len hu.bn cp hne l;have pos:0<vc Q d:=by have h7:0<o*vc q.2 d:=aX (by lia) cp.pos;rw[<-f7]at h7;exact fZ h7 f4
     have of:=λw=>OW (w:=w) f4 f5 l f6 f7;refine⟨Q,f1,⟨f2,λx hx=>(f3 x hx).mono (by lia),pos⟩,Hl sl (λi j=>?_) ?_⟩
     .have hw:=rG j;rw[<-cs i j,yh f4 (by decide:(0:Int)<1) ((of _).trans (dQ _).symm)];exact KW f5 (f8 _ hw) l
     .rw[yh f4 (by decide:(0:Int)<1) ((of _).trans (dQ _).symm),cz];have:=(Rf d (vc u)).2 ci;generalize sm d (λi=>vc u i*vc u i)=m at this;unfold lK;rcases l with rfl|rfl
      .rw[aR (by lia),aQ (by lia)]
      .rw[aQ (by lia)]
    obtain⟨Q1,f1,o1⟩:=U (-1) (.inl rfl);obtain⟨Q2,f2,o2⟩:=U 1 (.inr rfl);have rzo:∀(v:Int) (Q:LI),(v = -1\/v=1)->Ok (q.1++[v],Q)->Rz d (us++[u]) (q.1++[v]):=λv Q l o=>⟨_,L7 o.1.pos o.2 λi j=>by
     rw[vA sl];by_cases y:i<us.length
     .rw[aQ y];exact BZ r1 y
     .have:i=us.length:=by simp at j;lia
      rw[aR y,aQ this];exact l.symm⟩
    have tw:two q.1=[q.1++[-1],q.1++[1]]:=by show List.filter _ [q.1++[-1],q.1++[1]]=_;rw[gz (by simpa using rzo _ _ (.inl rfl) o1),gz (by simpa using rzo _ _ (.inr rfl) o2)];rfl
    have gt:Gf D (tI q.1)=.ok (tI q.2):=by show (match jY (q.1.map T.int) with|some ns=>(match nH K ns with|some t=>M.ok t|none=>M.bad)|none=>M.bad)=_;rw[tQ];dsimp only;rw[show nH K q.1=some (tI q.2) from v1]
    have J:∀(G:List (LI×LI)) (v:Int) (Q:LI),G.length<=600->kU c [.lst (us.map tI),tI u,tI q.2,.int v]=.ok (tI Q)->n9 c FR (S G (some (.p (tI q.1))) (some (.p (tI P))) (some (.p (.int v))))=.nx (S (G++[(q.1++[v],Q)]) (some (.p (tI q.1))) (some (.p (tI P))) (some (.p (.int v)))):=λG v Q hG hf=>app G (q.1++[v],Q) _ _ _ hG (pZ (gL (x:=tI q.1) (y:=tI [v]) rfl (GA rfl) (qD _ _ (by simp;lia))) (zf rfl rfl (gL (x:=D) (y:=tI q.1) rfl rfl gt) rfl hf))
    have lp:j3 (j6 7) (n9 c FR) [T.int (-1),T.int 1] (S G (some (.p (tI q.1))) (some (.p (tI P))) a)=.nx (S ((G++[(q.1++[-1],Q1)])++[(q.1++[1],Q2)]) (some (.p (tI q.1))) (some (.p (tI P))) (some (.p (.int 1)))):=by have s1:j6 7 (T.int (-1)) (S G (some (.p (tI q.1))) (some (.p (tI P))) a)=some (S G (some (.p (tI q.1))) (some (.p (tI P))) (some (.p (.int (-1))))):=rfl;have s2:j6 7 (T.int 1) (S (G++[(q.1++[-1],Q1)]) (some (.p (tI q.1))) (some (.p (tI P))) (some (.p (.int (-1)))))=some (S (G++[(q.1++[-1],Q1)]) (some (.p (tI q.1))) (some (.p (tI P))) (some (.p (.int 1)))):=rfl;rw[j3,s1];dsimp only;rw[J G (-1) Q1 (by lia) f1];dsimp only;rw[j3,s2];dsimp only;rw[J _ 1 Q2 (by simp;lia) f2];rfl
    refine⟨_,rfl,.inl (jf (hin q.1 true G _ _ (by rw[show nH K q.1=some (tI q.2) from v1];rfl)) (jT (Du (pZ (pS rfl) rfl)) lp)),_,_,_,_,rfl,?_,?_,by rw[ck,show A q.1=true from Cv (rx.mp (aD.mpr ⟨q,I,rfl⟩)),aT,aT,g3];simp;lia⟩
    .rw[aZ,aZ,g1,tk,tw,b4];rfl
    .intro z hz;rcases ai.mp hz with y|y
     .rcases ai.mp y with y|y
      .exact g2 z y
      .rw[aj.mp y];exact o1
     .rw[aj.mp y];exact o2)
 rw[aG,dP]at g1 g3;refine⟨G,mx rfl (gM (ρ':=[some (.p (.lst (L.map rj))),some (.p (.lst (us.map tI))),some (.p (tI u)),some (.p D),none,none,none,none]) (gU (n8 (iC (wU rfl rfl eC)) (by show (match yP (C.map rj) with|some ps=>M.ok (T.dic (vI [] ps))|none=>M.bad)=_;rw[Bd])) rfl) (gM (ρ':=S [] none none none) (ou (ts:=[]) (by simp) rfl) (gM (jT (lY rfl) e') rfl))),⟨?_,λq I=>(g2 q I).1,λq I=>(g2 q I).2⟩,?_⟩
 .rw[g1,hL.fst,aT,b5];exact (Kp λs hs np v ⟨X,hX⟩=>np ⟨X,((Cr (pU hs).1 _ _).mp hX).1⟩).symm
 .rw[g3,hL.fst];congr 2;unfold flt;rw[List.filter_filter];refine f9 λs _=>?_;by_cases h:Rx d us u s
  .have h2:Rz d us s:=let ⟨X,_,z⟩:=h;⟨X,z⟩;simp[A,h,h2]
  .simp[A,h]
noncomputable def Pw:Nat->Nat->Nat
 |0,B=>3*B+4
 |d+1,B=>3*B+Pw d (2*B+1)+2*(d+1)+4
theorem QV:∀d B,d<=8->Pw d B+3*(B+1)<=6*((B+1)*2 ^ d)+20*d+4
 |0,B,_=>by unfold Pw;simp;lia
 |d+1,B,h=>by
  have a:=QV d (2*B+1) (by lia);have e:(2*B+1+1)*2 ^ d=(B+1)*2 ^ (d+1):=by rw[dz,show 2*B+1+1=(B+1)*2 by lia,Nat.mul_assoc,b7 2]
  rw[e]at a;generalize (B+1)*2 ^ (d+1)=q at *;unfold Pw;lia
def zy(a:d<=4)(h:(B+1)*2 ^ d<=800):Pw d B<=5000/\B<=2000:=by have:=QV d B (by lia);have:(B+1)*1<=(B+1)*2 ^ d:=fv _ (dJ d);lia
def N9(h:f ρ=.ok x):lstM (gF f gJ) ρ=.ok [x]:=by
 have:1<=sizeLine:=by decide
 simp[h,this]
theorem Ei:∀n d B us,d<n->d<=4->(B+1)*2 ^ d<=800->us.length<=8->(∀u∈us,Gu d B u)->
  ∃L:List (LI×LI),mO c n [.lst (us.map tI),.int (d:Int)]=.ok (.lst (L.map rj))/\N7 d (Pw d B) us L
 |0,d,B,us,h,_,_,_,_=>absurd h (dq _)
 |n+1,d,B,us,hdn,hd,hB,hn,hus=>by
  have sz:1000<sizeLine:=by decide
  obtain⟨p1,Z⟩:=zy hd hB;obtain⟨N,n1,n2,n3⟩:∃N,3*B+N+2*d+4<=Pw d B/\N<=5000/\∀o,d=o+1->∀b:LL,b.length<=8->(∀w∈b,Gu o (2*B+1) w)->∃L:List (LI×LI),mO c n [.lst (b.map tI),.int (o:Int)]=.ok (.lst (L.map rj))/\N7 o N b L:=by
   cases d with
   |zero=>exact⟨0,by unfold Pw;lia,by decide,λo h=>nomatch h⟩
   |succ d=>
    have e:(2*B+1+1)*2 ^ d=(B+1)*2 ^ (d+1):=by rw[dz,show 2*B+1+1=(B+1)*2 by lia,Nat.mul_assoc,b7 2]
    have q:=zy (d:=d) (by lia) (by rw[e];exact hB);refine⟨Pw d (2*B+1),bJ (by rw[Pw]),q.1,λo h b E D=>?_⟩;cases h;exact Ei n d (2*B+1) b (by lia) (by lia) (by rw[e];exact hB) E D
  let S (L:List (LI×LI)) (v A:Option W):En:=[some (.p (.lst (us.map tI))),some (.p (.int (d:Int))),some (.p (.lst (L.map rj))),v,A];let P0:LI:=List.replicate d 0++[1];have v0:vc P0 d=1:=by show vc (List.replicate d 0++[1]) d=1;rw[sP,bS,aR (by lia),fO];rfl
  have P:N7 d (Pw d B) [] [([],P0)]:=by
   refine⟨?_,λq I=>?_,λq I i F=>nomatch F⟩
   .have:([]:LI)∈flt 0 (Rz d []):=yi.mpr ⟨by simp[iB],λ_=>0,λi F=>nomatch F⟩;have l:=yg 0 (Rz d []);show [[]]=flt 0 (Rz d []);revert this l;generalize flt 0 (Rz d [])=f;intro this l;match f,this,l with
    |[a],h,_=>rw[aj.mp h]
    |_::_::_,_,l=>simp at l
   .rw[aj.mp I];refine⟨by simp[P0],λx C=>?_,by rw[v0];decide⟩;have b1:Bn 1 x:=by
     rcases ai.mp C with z|z
     .rw[bg z];unfold Bn;decide
     .rw[aj.mp z];unfold Bn;decide
    exact b1.mono (by lia)
  obtain⟨ρ',R,L,v,A,rfl,s⟩:=jE (m:=mj 2 cu) (g:=Ea c (mO c n)) (λp:LI×Nat=>T.tup [.int (p.2:Int),tI p.1])
   (λk J=>∃(L:List (LI×LI)) (v A:Option W),J=S L v A/\N7 d (Pw d B) (us.take k) L) us.zipIdx 0 (S [([],P0)] none none) ⟨_,none,none,rfl,P⟩ (by
    rintro k ⟨u,j⟩ J r ⟨L,v,A,rfl,s⟩;rw[aG]at s ⊢;obtain⟨hku,rfl⟩:us[k]? = some u/\k=j:=by
     rw[List.getElem?_zipIdx]at r;cases C:us[k]? with
     |none=>rw[C]at r;cases r
     |some z=>rw[C]at r;simp at r;exact⟨by rw[r.1],r.2⟩
    have U:=(aa.mp hku).1;obtain⟨K,Q,H,-⟩:=Oc (c:=c) Z n2 (by lia) n1 p1 (us:=us.take k) (λw hw=>hus w (eg hw)) (by simp;lia) (hus u (au hku)) (mO c n) (λo h b X Y=>n3 o h b (by rw[X];simp;lia) Y) s;refine⟨_,S K (some (.p (.int (k:Int)))) (some (.p (tI u))),rfl,.inl (gU (iC (wM rfl (JX (d:=k) (ts:=us.map tI) rfl rfl) rfl (by rw[<-dg];exact Q))) rfl),K,_,_,rfl,by rw[jP us k u hku];exact H⟩)
  rw[aG,fQ,dP]at s;refine⟨L,iI rfl (gM (ρ':=S [([],P0)] none none) (gU (iC (N9 (pZ (by simp;rfl) (gL (x:=tI (List.replicate d 0)) (y:=tI [1]) (UT d (by lia) rfl) (GA rfl) (qD _ _ (by simp;lia)))))) rfl) (gM (jT ((JF rfl).trans (by rw[tY])) R) (ig rfl))),s⟩
def L1 a b:Ey (tI a) (tI b)=true↔a=b:=by unfold tI;rw[pk,tT,decide_eq_true_eq]
def Ib neg (xs:LL):iA neg (.lst (xs.map tI)) (.lst (xs.map tI))=.ok (.bl neg.not):=by have h:=zk xs;have e:=(yW tI L1 xs xs).mpr rfl;unfold iA;rw[aQ (by simp[qG];lia),yt,e];cases neg<;>rfl
def UU(h:GC d B u):Gu d B u:=⟨h.gl.1,h.gl.2,let ⟨p,_,q⟩:=h.re;⟨p,q⟩⟩
abbrev Qq(d:Nat)(cs:LL):LL:=flt cs.length (Rz d cs)
def CK{cs:LL}(h:cs.length<=8):(Qq d cs).length<=256:=aN (yg _ _) (du (by decide) h)
def Jp{cs:LL}(k:1<=d/\d<=3)(g:∀u∈cs,GC d 90 u)(f:cs.length<=8):∃L:List (LI×LI),mO c 5 [.lst (cs.map tI),.int (d:Int)]=.ok (.lst (L.map rj))/\N7 d 5000 cs L/\L.length<=256:=by
 have a:(90+1)*2 ^ d<=800:=by have:2 ^ d<=2 ^ 3:=du (by decide) k.2;lia
 obtain⟨L,e,h⟩:=Ei 5 d 90 cs (by lia) (by lia) a f λu i=>UU (g u i);have:=(zy (by lia) a).1;refine⟨L,e,⟨h.fst,λp a=>⟨(h.gp p a).len,λx j=>((h.gp p a).bn x j).mono this,(h.gp p a).pos⟩,h.sg⟩,?_⟩;have b:=congrArg List.length h.fst;rw[aw]at b;rw[b];exact CK f
def yQ{cs:LL}(f:1<=d/\d<=3)(a:∀u∈cs,GC d 90 u)(b:cs.length<=8):rF c [lN c d cs]=.ok ((Qq d cs).map tI):=by
 have sz:1000<sizeLine:=by decide
 obtain⟨L,e,h,g⟩:=Jp f a b;rw[show Qq d cs=L.map Prod.fst from h.fst.symm];exact mx rfl (mP (jC L rj (λq=>tI q.1) (lY (iY (iC (Cw d cs rfl)) (yp d cs rfl) e)) (by lia) (λq i=>⟨_,rfl,rfl,rfl⟩) (by rw[aI];rfl)))
def K0(g:us.length=n)(h:s∈iB n):On d us s X↔OD us d s X:=by
 have b:=(pU h).1;constructor
 .intro a i v hv;obtain⟨f,e⟩:=SC b hv;have:=a i (by lia);rw[e]at this;exact⟨λz=>by rw[z]at this;simp at this,λ_=>this⟩
 .intro a i j;have:=a i (vc s i) (by rw[jS s i (by lia)];exact ag _);exact this.2 (by rcases BZ h (i:=i) (by lia) with q|q<;>rw[q]<;>decide)
def Mj ns (a b:Nat) (u:b<=7):∃(d:Nat) (cs:LL),mJ c [.scr ns,.int (a:Int),.int b]=.ok (.tup [.int d,.lst (cs.map tI)])/\(1<=d/\d<=3)/\yc d 84 cs/\cs.length<=b:=by
 obtain⟨v,n,-⟩:=uE ns a;obtain⟨i,r,j⟩:=lQ (c:=c) v 0 3 (by decide) (by decide) (by decide) (by decide);obtain⟨h,o,g⟩:=lQ (c:=c) v 1 (b+1) (by lia) (by lia) (by decide) (by decide);obtain⟨d,hd⟩:∃d:Nat,1+dr c v 0 3=(d:Int):=⟨(1+dr c v 0 3).toNat,by lia⟩;obtain⟨m,hmm⟩:∃d:Nat,dr c v 1 (b+1)=(d:Int):=⟨(dr c v 1 (b+1)).toNat,by lia⟩;have e:1<=d/\d<=3:=by lia
 rw[hmm]at h g;let R (m:Nat):En:=[some (.p (.scr ns)),some (.p (.int (a:Int))),some (.p (.int b)),some (.p (.int v)),some (.p (.int d)),some (.p (.int m))];obtain⟨f,hm',e5⟩:∃f:Nat,f<=b/\(mh (iR (gR (iA false) bu d2)) (setO 5 (jr (kG vD (gF bi (gF (cM (.int 5)) gJ))))) iT) (R m)=.nx (R f):=by
  by_cases l:d=3
  .refine⟨min m 5,by lia,jf (gX (gL rfl rfl (by rw[jK,l];rfl))) (gU ?_ rfl)⟩;show kG vD _ _=_;have:vD [.int (m:Int),.int 5]=.ok (.int ((min m 5:Nat):Int)):=by simp[vD];lia
   simpa[kG,gF,gJ,R] using this
  .exact⟨m,by lia,iS (gX (gL rfl rfl (by rw[jK];simp;lia))) rfl⟩
 obtain⟨cs,q,k,s⟩:=xD ns (a+1) d f e (by lia);refine⟨d,cs,iI rfl (gM (gU (iY rfl rfl n) rfl) (gM (gU (gL rfl (kW rfl rfl rfl i) (by rw[jH,hd])) rfl) (gM (gU (kW rfl rfl (gL rfl rfl (jH _ _)) h) rfl) (gM e5 (ig (pZ rfl (iC (wu rfl (gL rfl rfl (by rw[jH];simp)) rfl rfl q)))))))),e,k,by lia⟩
section
variable {d:Nat}{cs:LL}{th:T}
def Hq:s∈Qq d cs↔s∈iB cs.length/\∃X,OD cs d s X:=by rw[yi];exact⟨λ⟨a,X,hX⟩=>⟨a,X,(K0 rfl a).mp hX⟩,λ⟨a,X,hX⟩=>⟨a,X,(K0 rfl a).mpr hX⟩⟩
def Fe(h:s∈iB n):rZ n s:=⟨(pU h).1,λx a=>((pU h).2 x a).symm⟩
end
def nj(us:LL)(p:Nat×Int):LI:=(wr us p.1).map λx=>p.2*x
def Pp(us:LL)(d:Nat)(p:Nat×Int):LI:=(nj us p).take d++0::(nj us p).drop (d+1)
def LR(us:LL)(d:Nat)(sg:LI):LL:=((List.range us.length).zip sg).map (Pp us d)
section
variable {us:LL}{d:Nat}{sg:LI}
def B0 p i:vc (nj us p) i=p.2*vc (wr us p.1) i:=vE _ _ _
def Ae(g:∀u∈us,u.length=d+1){p:Nat×Int}(f:p.1<us.length) i:vc (Pp us d p) i=if i=d then 0 else p.2*vc (wr us p.1) i:=by
 have h:(nj us p).length=d+1+us.length:=by unfold nj;rw[aw,wJ us d p.1 f g]
 unfold Pp;rw[sP,bR,show min d (nj us p).length=d by lia];by_cases a:i<d
 .rw[aQ a,aR (by lia),<-B0];unfold vc;rw[af,af,List.getElem?_take,aQ a]
 .rw[aR a];by_cases b:i=d
  .subst b;rw[aQ rfl,fO];rfl
  .rw[aR b,<-B0];have e:i-d=(i-d-1)+1:=by lia
   rw[e];show vc ((nj us p).drop (d+1)) (i-d-1)=_;rw[Pk,show d+1+(i-d-1)=i by lia]
def Ci(a:∀u∈us,u.length=d+1){p:Nat×Int}(b:p.1<us.length):(Pp us d p).length=d+1+us.length:=by
 have e:(nj us p).length=d+1+us.length:=by unfold nj;rw[aw,wJ us d p.1 b a]
 unfold Pp;simp[e];lia
def KH(g:1<=B)(f:∀u∈us,∀x∈u,Bn B x){p:Nat×Int}(b:p.1<us.length)(h:p.2.natAbs<=1):∀x∈Pp us d p,Bn B x:=λx i=>by
 have a:∀y∈nj us p,Bn B y:=λy e=>by obtain⟨z,j,rfl⟩:=aD.mp e;exact HV h (Q7 g us p.1 b f z j)
 rcases ai.mp i with q|q
 .exact a x (eg q)
 .rcases aF.mp q with q|q
  .rw[q];exact qq
  .exact a x (fX q)
def lJ(a:rZ us.length sg){p:Nat×Int}(b:p∈(List.range us.length).zip sg):p.1<us.length/\(p.2=1\/p.2 = -1):=by have h:=aW (show (p.1,p.2)∈(List.range us.length).zip sg from b);exact⟨aS.mp h.1,a.pm _ h.2⟩
def NS{s:Int}(h:s=1\/s = -1):s.natAbs<=1:=by lia
def B1(i:us.length<=7)(j:d<=3)(e:∀u∈us,u.length=d+1)(a:rZ us.length sg):oI c [lN c d us,tI sg]=.ok (((List.range us.length).zip sg).map λp=>tI (nj us p)):=by
 have sz:1000<sizeLine:=by decide
 have h:=a.len;refine mx rfl (mP (jC ((List.range us.length).zip sg) (λp=>.tup [tI (wr us p.1),.int p.2]) _ (nC (l:=List.range us.length) (m:=sg) (f:=λk=>tI (wr us k)) (g:=T.int) (iC (xh (iC (Cw d us rfl)) (xG us (by lia) λr hr=>by have:=e r hr;lia))) ?_ rfl rfl) (by rw[dZ,fS];lia) (λp b=>⟨_,rfl,rfl,iY rfl rfl (Bu _ _ (NS (lJ a b).2) (by rw[wJ us d _ (lJ a b).1 e];lia))⟩) rfl));rw[HB,aI];rfl
def LW(j:us.length<=7)(k:d<=3)(e:∀u∈us,u.length=d+1)(a:rZ us.length sg):nU c [lN c d us,tI sg]=.ok ((LR us d sg).map tI):=by
 have sz:1000<sizeLine:=by decide
 have m:=a.len;refine mx rfl (gM (gU (yp d us rfl) rfl) (mP (jC ((List.range us.length).zip sg) (λp=>tI (nj us p)) (λp=>tI (Pp us d p)) (lY (iC (wU rfl rfl (B1 j k e a)))) (by rw[dZ,fS];lia) (λp h=>⟨_,rfl,rfl,?_⟩) (by unfold LR;rw[aI];rfl))));have l:(nj us p).length=d+1+us.length:=by unfold nj;rw[aw,wJ us d p.1 (lJ a h).1 e]
 have b:=qL (fe:=gG 0) (fd:=gG 1) (ts:=(nj us p).map T.int) (d:=d) (ρ:=[some (tI (nj us p)),some (.int (d:Int))]) rfl rfl (by rw[aw];lia);have g:=uU (nj us p) d (f:=gG 0) (fd:=gG 1) (ρ:=[some (tI (nj us p)),some (.int (d:Int))]) rfl rfl;rw[<-dg]at b;have i:Pp us d p=((nj us p).take d++[0])++(nj us p).drop (d+1):=by unfold Pp;simp
 rw[i];exact gL (x:=tI ((nj us p).take d++[0])) (gL (x:=tI ((nj us p).take d)) (y:=tI [0]) b (GA rfl) (qD _ _ (by simp;lia))) g (qD _ _ (by simp;lia))
def xT(d a:Nat):List Nat:=(List.range d).filter λk=>!(k==a)
def nQ{k a:Nat}:k∈xT d a↔k<d/\k≠a:=by unfold xT;simp
def Bc(b:d<=3)(a:Nat):ke c [.int (d:Int),.int (a:Int)]=.ok ((xT d a).map λ(k:Nat)=>T.int (k:Int)):=by
 have sz:1000<sizeLine:=by decide
 refine mx rfl (mP (og (List.range d) (λ(k:Nat)=>T.int (k:Int)) (λ(k:Nat)=>T.int (k:Int)) (λk=>!(k==a)) (n5 d (by lia) rfl) (by rw[fS];lia) (λk _=>⟨_,rfl,gX (gL rfl rfl (by rw[nO,show ((k:Int)==(a:Int))=(k==a) by rw[Bool.eq_iff_iff];simp;lia])),λ_=>rfl⟩) rfl))
def EW(a:rZ us.length sg)(f:Nat×Int->LI){j:Nat}(g:j<us.length):(((List.range us.length).zip sg).map f).getD j []=f (j,vc sg j):=by
 have e:=a.len;have b:j<((List.range us.length).zip sg).length:=by rw[dZ,fS];lia
 rw[af,av,ag b,List.getElem_zip,fK,jS sg j (by lia)];rfl
def KB(l:∀u∈us,u.length=d+1)(e:rZ us.length sg){f:Nat×Int->LI}(h:∀p,p.1<us.length->(f p).length=d+1+us.length/\∀i,i≠d->vc (f p) i=p.2*vc (wr us p.1) i):Ip d us.length (List.range us.length) [] (((List.range us.length).zip sg).map f):=by
 have n:=e.len;have b:(((List.range us.length).zip sg).map f).length=us.length:=by rw[aw,dZ,fS];lia
 have k:∀j,j<us.length->(List.range us.length).getD j 0=j:=λj a=>by rw[af,List.getElem?_range a];rfl
 refine⟨by rw[b,fS],eN,λi g=>aS.mp g,λr hr=>?_,λj a=>?_,λj a i _ g=>?_⟩
 .obtain⟨p,m,rfl⟩:=aD.mp hr;exact (h p (lJ e m).1).1
 .rw[b]at a;rw[EW e f a,k j a,(h (j,vc sg j) a).2 _ (by lia),zM us d j a l,aR (by lia),aQ (by lia)];have:=e.pm (vc sg j) (by rw[jS sg j (by lia)];exact aV _);simp only;lia
 .rw[b]at a;rw[k j a]at g;rw[EW e f a,(h (j,vc sg j) a).2 _ (by lia),VF us d j a l i g];simp
def sQ(a:∀u∈us,u.length=d+1)(f:rZ us.length sg):Ip d us.length (List.range us.length) [] (LR us d sg):=KB a f λp b=>⟨Ci a b,λi e=>by rw[Ae a b,aR e]⟩
def Ed(a:∀u∈us,u.length=d+1){p:Nat×Int}(b:p.1<us.length):(nj us p).length=d+1+us.length:=by unfold nj;rw[aw,wJ us d p.1 b a]
def RI(a:∀u∈us,u.length=d+1)(e:rZ us.length sg):Ip d us.length (List.range us.length) [] (((List.range us.length).zip sg).map (nj us)):=KB a e λp b=>⟨Ed a b,λi _=>B0 p i⟩
def UJ(f:yc d 90 us)(e:rZ us.length sg):∀r∈((List.range us.length).zip sg).map (nj us),r.length=d+1+us.length/\∀i∈r,Bn 90 i:=λr hr=>by obtain⟨p,a,rfl⟩:=aD.mp hr;refine⟨Ed (λu b=>(f.gc u b).gl.1) (lJ e a).1,λx h=>?_⟩;obtain⟨y,g,rfl⟩:=aD.mp h;exact HV (NS (lJ e a).2) (Q7 (by decide) us p.1 (lJ e a).1 (λu b=>(f.gc u b).gl.2) y g)
structure VN(us:LL)(d:Nat)(sg:LI)(a:Nat)(ls:List (LL))(Gl:LL):Prop where
 ly:Ic d 0 0 (LR us d sg) (xT d a) ls
 bn:∀(i:Nat) G,ls[i]? = some G->∀r∈G,r.length=d+1+us.length/\∀x∈r,Bn (Nb 90 i) x
 last:ls.getLast? = some Gl
 gl:∀r∈Gl,(r.length=d+1+us.length/\∀x∈r,Bn 363 x)/\∀p,p<=d->p≠a->vc r p=0
def E5(a:Nat)(e:a<d):(xT d a).length<=d-1:=by
 have h:((xT d a)++[a]).Nodup:=by rw[List.nodup_append];exact⟨eN.sublist gB,by simp,λx b y f=>by rw[aj.mp f];exact (nQ.mp b).2⟩
 have:=yu h (m:=List.range d) λx b=>by
  rcases ai.mp b with q|q
  .exact aS.mpr (nQ.mp q).1
  .rw[aj.mp q];exact aS.mpr e
 simp at this;lia
def IR(E:1<=d/\d<=3)(v:yc d 90 us)(b:rZ us.length sg)(a:Nat)(B:a<d):∃l Gl,kP c [.lst ((LR us d sg).map tI),.int (d:Int),.int (a:Int)]=.ok (.lst (l.map λg=>T.lst (g.map tI)))/\VN us d sg a l Gl:=by
 have H:=v.few;have j:∀u∈us,u.length=d+1:=λu y=>(v.gc u y).gl.1;have I:=E5 (d:=d) a B;have hr:∀r∈LR us d sg,r.length=d+1+us.length/\∀i∈r,Bn 90 i:=λr hr=>by obtain⟨p,f,rfl⟩:=aD.mp hr;exact⟨Ci j (lJ b f).1,KH (by decide) (λu y=>(v.gc u y).gl.2) (lJ b f).1 (NS (lJ b f).2)⟩
 obtain⟨l,e,A,z⟩:=zG (c:=c) d (d+1+us.length) 90 (by lia) (by lia) (LR us d sg) (by unfold LR;rw[aw,dZ,fS];lia) hr [] (by decide) (xT d a) (by lia) (λx n=>by have:=(nQ.mp n).1;lia) (aN (yq 90 (show (xT d a).length<=2 by lia)) (by decide));obtain⟨-,Gl,s,m,w,-⟩:=Fm (sb:=true) (sQ j b) A [] rfl (sQ j b).g0 (sQ j b).gen0 (λp=>p=d) (λr hr p f=>by obtain⟨q,C,rfl⟩:=aD.mp hr;rw[Ae j (lJ b C).1,aQ f])
 refine⟨l,Gl,iI rfl (ig (iC (wu rfl rfl (iC (wU rfl rfl (Bc E.2 a))) (iC (ts:=[]) rfl) e))),A,z,m,λr k=>⟨?_,λp f o=>w r k p ?_⟩⟩
 .obtain⟨D,F⟩:=z _ _ s r k;exact⟨D,λx n=>(F x n).mono (aN (yq 90 (show (xT d a).length<=2 by lia)) (by decide))⟩
 .by_cases h:p=d
  .exact .inl h
  .exact .inr (nQ.mpr ⟨by lia,o⟩)
structure WO(us:LL)(d a:Nat)(s:Int)(r:LI):Prop where
 len:r.length=d+1+us.length
 bn:∀x∈r,Bn 363 x
 at_:vc r a*s<0
def P8{a:Nat}{f:List (LL)}{Gl:LL}(h:VN us d sg a f Gl)(J:a<d)(s:Int)(D:s=1\/s = -1):(∃r,pK c [.lst (f.map λg=>T.lst (g.map tI)),.int (a:Int),.int s]=.ok (tI r)/\WO us d a s r/\r∈Gl)\/pK c [.lst (f.map λg=>T.lst (g.map tI)),.int (a:Int),.int s]=.ok .non/\∀r∈Gl,0<=vc r a*s:=by
 let R (x:Option W):En:=[some (.p (.lst (f.map λg=>T.lst (g.map tI)))),some (.p (.int (a:Int))),some (.p (.int s)),x];have b:iU (gR ja ah (qw (λi=>.int (-i)) ab)) (mD (R none))=.ok (Gl.map tI):=by
  have H:f.map (λg=>T.lst (g.map tI))=(f.dropLast.map λg=>T.lst (g.map tI))++[T.lst (Gl.map tI)]:=by
   have j:f≠[]:=λz=>by have:=h.last;rw[z]at this;cases this
   have l:=dI j;have F:f.getLast j=Gl:=by have:=h.last;rw[List.getLast?_eq_getLast j]at this;exact Option.some.inj this
   rw[F]at l;conv=>lhs;rw[<-l]
   rw[aZ];rfl
  exact lY (gL (x:=.lst (f.map λg=>T.lst (g.map tI))) (y:=.int (-1)) rfl rfl (by rw[H];exact CH _ _))
 have main:=sX (m:=j6 3) (g:=zj c) tI (λk o=>∃x,o=R x/\∀r∈Gl.take k,0<=vc r a*s) (λt=>∃r,t=tI r/\WO us d a s r/\r∈Gl) Gl 0 (R none) ⟨none,rfl,λr h=>by simp at h⟩ (by
  rintro i r o B ⟨x,rfl,v⟩;rw[aG]at v ⊢;have w:=au B;obtain⟨⟨E,rb⟩,-⟩:=h.gl r w;have A:ja (tI r) (.int (a:Int))=.ok (.int (vc r a)):=k9 r a (by lia);have C:jF (.int (vc r a)) (.int s)=.ok (.int (vc r a*s)):=iE (zJ (cg (NS D) (by decide)));refine⟨R (some (.p (tI r))),rfl,?_⟩;by_cases u:vc r a*s<0
  .exact .inr ⟨_,jf (gX (gL (gL (gL rfl rfl A) rfl C) rfl (by rw[oy,aC u]))) (ig rfl),r,rfl,⟨E,rb,u⟩,w⟩
  .refine .inl ⟨_,iS (gX (gL (gL (gL rfl rfl A) rfl C) rfl (by rw[oy,aB u]))) rfl,_,rfl,λI n=>?_⟩;rw[jP _ i r B]at n;rcases ai.mp n with q|q
   .exact v I q
   .rw[aj.mp q];lia)
 rcases main with⟨o,e,x,rfl,l⟩|⟨t,e,r,rfl,l⟩
 .rw[aG,dP]at l;exact .inr ⟨iI rfl (gM (jT b e) (ig rfl)),l⟩
 .exact .inl ⟨r,iI rfl (lS (t:=tI r) (jT b e) rfl),l⟩
end
def UN{f:Vc->Int}(d:∀x y z s a b,(∀i,s*z i=a*x i+b*y i)->s*f z=a*f x+b*f y)(g:∀x,P x->f x<=0)(h:Cn P z):f z<=0:=by
 induction h with
 |of h=>exact g _ h
 |lin _ _ hs ha hb _ e i1 i2=>have q:=d _ _ _ _ _ _ e;have k:=aP ha (gC i1);have j:=aP hb (gC i2);refine aO λz=>?_;have l:=aX hs (show 0<_ by exact eE.mp z);grind
theorem Iv{d n:Nat}{B ix:List Nat}{f:LL}(h:Ip d n B ix f){j:Nat}{G:LL}{k:List Nat}{v:List (LL)}(z:Ic d ix.length j G k v) :
  ∀(i:List Vc),i.length=j->(∀r∈G,r.length=d+1+n/\∃t,kY f.length i t/\∃s:Int,0<s/\∀q,s*vc r q=Lt f.length (λj=>vc (f.getD j [])) t q)->(∀u,kY f.length i u->Cn (Qw f i G) u)->
  ∃Gl b,v.getLast? = some Gl/\(∀A∈b,A∈i\/∃p∈k,A=λj=>vc (f.getD j []) p)/\(∀p∈k,(λj=>vc (f.getD j []) p)∈b)/\(∀A∈i,A∈b)/\(∀r∈Gl,∃t,kY f.length b t/\∃s:Int,0<s/\∀q,s*vc r q=Lt f.length (λj=>vc (f.getD j [])) t q)/\∀u,kY f.length b u->Cn (Qw f b Gl) u:=by
 induction z with
 |nil=>exact λi _ x m=>⟨_,i,rfl,λA g=>.inl g,λp l=>(nomatch l),λA g=>g,λr hr=>(x r hr).2,m⟩
 |cons st z ih=>
  rename_i j a G I k v;intro i g x m;subst g;obtain⟨w,o⟩:=Bp h x m st;obtain⟨Gl,b,F,H,C,y,D,E⟩:=ih _ (by simp) w o;refine⟨Gl,b,?_,λA g=>?_,λp l=>?_,λA g=>y A (bz _ g),D,E⟩
  .rw[List.getLast?_cons,F];rfl
  .rcases H A g with q|⟨p,l,e⟩
   .rcases aF.mp q with q|q
    .exact .inr ⟨a,bx ..,q⟩
    .exact .inl q
   .exact .inr ⟨p,bz _ l,e⟩
  .rcases aF.mp l with rfl|l
   .exact y _ (bx ..)
   .exact C p l
section
variable {us:LL}{d:Nat}{sg:LI}
def Ut(us:LL)(sg:LI)(t:Vc)(p:Nat):Int:=sm us.length λj=>t j*(vc sg j*vc (us.getD j []) p)
def Vh(us:LL)(d:Nat)(sg:LI)(a:Nat)(v:Int):Prop:=∃t:Vc,(∀j,0<=t j)/\(∀p,p<d->p≠a->Ut us sg t p=0)/\0<v*Ut us sg t a
def BD(us:LL)(d:Nat)(sg:LI):Prop:=∀a,a<d->∀v:Int,v=1\/v = -1->Vh us d sg a v
def Pa{h:LL}{D:List (LL)}(k:Ip d us.length (List.range us.length) [] h)(hv:∀j,j<us.length->∀p,p<d->vc (h.getD j []) p=vc sg j*vc (us.getD j []) p)(L:Ic d 0 0 h (xT d a) D)(B:a<d) :
  ∃Gl,D.getLast? = some Gl/\∀v,(∃r∈Gl,0<v*vc r a)↔Vh us d sg a v:=by
 have K:h.length=us.length:=by rw[k.len,fS]
 have lt:∀t p,p<d->Lt h.length (λj=>vc (h.getD j [])) t p=Ut us sg t p:=λt p i=>by unfold Lt Ut;rw[K];exact iZ _ _ _ λj l=>by show t j*vc (h.getD j []) p=_;rw[hv j l p i]
 obtain⟨Gl,H,I,S,N,-,R,J⟩:=Iv (ix:=[]) k L [] rfl k.g0 k.gen0;refine⟨Gl,I,λv=>⟨λ⟨r,hr,i⟩=>?_,λ⟨t,t1,t2,t3⟩=>?_⟩⟩
 .obtain⟨t,C,s,o,e⟩:=R r hr;refine⟨t,C.nn,λp i w=>?_,?_⟩
  .have:=C.eq _ (N p (nQ.mpr ⟨i,w⟩));rw[Cm,lt t p i]at this;exact this
  .rw[<-lt t a B,<-e a,show v*(s*vc r a)=s*(v*vc r a) by grind];exact aX o i
 .refine aO λQ=>?_;let u:Vc:=λj=>if j<us.length then t j else 0
  have n:∀p,Ut us sg u p=Ut us sg t p:=λp=>iZ _ _ _ λj l=>by simp only[u,aQ l]
  have P:kY h.length H u:=by
   refine⟨λj=>by show 0<=ite _ _ _;split;exact t1 j;exact eD _,λj l=>aR (by lia),aO λz=>?_,λA F=>?_⟩
   .have:Ut us sg u a=0:=by unfold Ut;rw[iZ _ _ (λ_=>0) λj _=>by rw[show u j=0 from aO λq=>z ⟨j,q⟩,dU],rE]
    rw[<-n a,this,dN]at t3;exact Int.lt_irrefl _ t3
   .rcases S A F with q|⟨p,i,rfl⟩
    .exact nomatch q
    .obtain⟨E,U⟩:=nQ.mp i;rw[Cm,lt u p E,n];exact t2 p E U
  have:=UN (f:=λt=>v*Lt h.length (λj=>vc (h.getD j [])) t a) (λx y z s X b e=>by
   have:=Dm (m:=h.length) (g:=λj=>vc (h.getD j [])) e a;grind) (λx ⟨_,r,hr,s,o,e⟩=>by
   rw[<-e a,show v*(s*vc r a)=s*(v*vc r a) by grind];have:v*vc r a<=0:=eX.mp λz=>Q ⟨r,hr,z⟩;have:=aP (aA o) (gC this);grind) (J u P)
  rw[lt u a B,n]at this;lia
theorem Re n (w:Nat->Int):∀(m:Nat) (x:Nat->Int) (V:Nat->Nat->Int),sm n (λi=>w i*sm m (λk=>x k*V i k))=sm m λk=>x k*sm n λi=>w i*V i k
 |0,x,V=>by show sm n (λi=>w i*0)=0;rw[iZ n _ (λ_=>0) λi _=>dN _,rE]
 |m+1,x,V=>by show sm n (λi=>w i*(x 0*V i 0+sm m λk=>x (k+1)*V i (k+1)))=x 0*sm n (λi=>w i*V i 0)+sm m λk=>x (k+1)*sm n λi=>w i*V i (k+1);rw[<-Re n w m (λk=>x (k+1)) λi k=>V i (k+1),<-dQ (sm n λi=>w i*sm m _),<-uV];exact iZ _ _ _ λi _=>by grind
def Qp(h:BD us d sg){v:Vc}(hv:∀j,j<us.length->0<=vc sg j*jB d (vc (us.getD j [])) v):∀a,a<d->v a=0:=λa i=>aO λf=>by
 obtain⟨b,hσ,hs⟩:∃b:Int,(b=1\/b = -1)/\b*v a<0:=by
  rcases cP f with q|q
  .exact⟨1,.inl rfl,by lia⟩
  .exact⟨-1,.inr rfl,by lia⟩
 obtain⟨t,s,m,o⟩:=h a i b hσ;have e:sm us.length (λj=>t j*(vc sg j*jB d (vc (us.getD j [])) v))=v a*Ut us sg t a:=by have l:=Re us.length t d v λj k=>vc sg j*vc (us.getD j []) k;rw[HI d a i _ λp n g=>by show v p*Ut us sg t p=0;rw[m p n g,dN]]at l;refine Eq.trans (iZ _ _ _ λj _=>?_) l;unfold jB;rw[<-lL];congr 1;exact iZ _ _ _ λk _=>by grind
 have p:=Ro us.length _ λj r=>aP (s j) (hv j r);rw[e]at p;have q:=aX (show 0 < -(b*v a) by lia) o;have:-(b*v a)*(b*Ut us sg t a) = -(v a*Ut us sg t a):=by rcases hσ with rfl|rfl<;>grind
 lia
end
section
variable {us:LL}{d:Nat}{sg:LI}
def SX{a:List (LL)}(h:a.getLast? = some G):ja (.lst (a.map λg=>T.lst (g.map tI))) (.int (-1))=.ok (.lst (G.map tI)):=by obtain⟨l,rfl⟩:=List.getLast?_eq_some_iff.mp h;rw[aZ];exact CH _ _
def MK(hd:1<=d/\d<=3)(hg:yc d 90 us)(v:rZ us.length sg)(hX:∃X,OD us d sg X):∃s,wN c [lN c d us,tI sg]=.ok (.tup [.str "spot",tS s]):=by
 have sz:1000<sizeLine:=by decide
 have hn:=hg.few;have sl:=v.len;have K:∀u∈us,u.length=d+1:=λu hu=>(hg.gc u hu).gl.1;obtain⟨X,hX⟩:=hX;generalize D:((List.range us.length).zip sg).map (nj us)=G;have F:=RI K v;rw[D]at F;have gl:G.length=us.length:=by rw[<-D,aw,dZ,fS];lia
 have n3:∀d,d<4->Nb 90 d<=8000:=by decide
 obtain⟨ls,e9,hy,hbl⟩:=zG (c:=c) d (d+1+us.length) 90 (by lia) (by lia) G (by lia) (by rw[<-D];exact UJ hg v) [] (by decide) (List.range d) (by simp;lia) (λa Z=>by have:=aS.mp Z;lia) (by rw[fS];exact n3 d (by lia));obtain⟨-,Gl,la1,E,la3,I⟩:=Fm (sb:=true) F hy [] rfl F.g0 F.gen0 (λ_=>False) (λ_ _ _ z=>z.elim);have pos:∀j,j<us.length->0<kg d X (vc (G.getD j [])):=λj B=>by obtain⟨hv,n⟩:sg[j]? = some (vc sg j)/\vc sg j≠0:=⟨by rw[jS sg j (by lia)];exact ag _,by have:=v.at_ B;lia⟩;rw[<-D,EW v _ B];unfold nj;rw[Ts];have:=(hX j _ hv).2 n;rwa [JY (y:=vc (us.getD j [])) λk hk=>by rw[zM us d j B K,aQ (by lia)]]
 have neg:∀r∈Gl,vc r d<0:=λr hr=>by
  obtain⟨-,t,Y,s,hs',e⟩:=I r hr;have q:=(BN (d:=d) (X:=X) G.length (λj=>vc (G.getD j [])) t λj B=>fN (by exact_mod_cast Y.nn j) (eU (pos j (by lia)))).2 (by obtain⟨j,B⟩:=Y.ne;have jl:j<G.length:=Nat.lt_of_not_le λz=>B (Y.out j z);exact⟨j,jl,eT (nN (by have:=Y.nn j;lia)) (pos j (by lia))⟩)
  have l:=t9 (d:=d) (X:=X) e;rw[<-l,tm λp n=>la3 r hr p (.inr (aS.mpr n))]at q;refine eE.mp λz=>?_;have z':(0:Rat)<=(vc r d:Rat):=by exact_mod_cast z
  have s0:(0:Rat)<(s:Rat):=nN hs';have:=fN (eU s0) z';grind
 have ew:=xG (c:=c) us (by lia) (λr hr=>by have:=K r hr;lia);rw[HB]at ew;let vs:T:=.lst (((List.range us.length).map (wr us)).map tI);let R (N Q S J U L b:Option W):En:=[some (.p (.lst (us.map tI))),some (.p (.int (d:Int))),some (.p (tI sg)),some (.p vs),N,Q,S,J,U,L,b];have zo:∀N Q S J U L b,nq (gF be ba) (mD (R N Q S J U L b))=.ok (((List.range us.length).zip sg).map λp=>T.tup [tI (wr us p.1),.int p.2]):=λN Q S J U L b=>nC (x:=vs) (y:=tI sg) (l:=List.range us.length) (m:=sg) (f:=λk=>tI (wr us k)) (g:=T.int) rfl (by show M.ok _=_;rw[aI];rfl) rfl rfl
 have zl:((List.range us.length).zip sg).length<sizeLine:=by rw[dZ,fS];lia
 have nz:∀p∈(List.range us.length).zip sg,p.2≠0:=λp n=>by have:=(lJ v n).2;lia
 have lc1:j5 [none,none] (nq (gF be ba)) ap gi (oX c) (mD (R none none none none none none none))=.ok []:=og _ _ (λp=>tI (wr us p.1)) (λp=>p.2==0) (zo _ _ _ _ _ _ _) zl (λp n=>⟨_,rfl,gX (gL rfl rfl (jK _ _)),λ_=>rfl⟩) (by rw[gh.mpr λp n=>by simpa using nz p n];rfl)
 let o:Option W:=some (.p (.tup [.lst [],.lst []]));let w:Option W:=some (.p .non);let A:Option W:=some (.p (.lst []));let P:Option W:=some (.p (.lst (G.map tI)));let xq:Option W:=some (.p (.lst ((List.range d).map λ(j:Nat)=>T.int (j:Int))));let xl:Option W:=some (.p (.lst (ls.map λg=>T.lst (g.map tI))));have lc2:j5 [none,none,some 6] (nq (gF be ba)) ap eH (ph c) (mD (R o w A none none none none))=.ok (G.map tI):=og _ _ (λp=>tI (nj us p)) (λp=>p.2 != 0) (zo _ _ _ _ _ _ _) zl (λp n=>⟨_,rfl,gX (gL rfl rfl (nO _ _)),λ_=>iY (x:=tI (nj us p)) (y:=.lst []) (iY rfl rfl (Bu _ _ (NS (lJ v n).2) (by rw[wJ us d p.1 (lJ v n).1 K];lia))) rfl rfl⟩) (by rw[List.filter_eq_self.mpr λp n=>by simpa using nz p n,<-D,aI];rfl)
 have e8:mF c [.lst [],.int (d:Int)]=.ok ((List.range d).map λ(j:Nat)=>T.int (j:Int)):=by
  have h3:d=1\/d=2\/d=3:=by lia
  rcases h3 with rfl|rfl|rfl<;>rfl
 obtain⟨ρ,e,b,rfl⟩:=qH (m:=j6 10) (g:=oW c) tI (λρ=>∃b:Option W,ρ=R o w A P xq xl b) Gl _ ⟨none,rfl⟩ (by rintro r hr ρ ⟨b,rfl⟩;have hix:ja (tI r) (.int (d:Int))=.ok (.int (vc r d)):=k9 r d (by have:=(I r hr).1;lia);have:=neg r hr;exact⟨_,_,rfl,.inl (iS (gX (gL (gL rfl rfl hix) rfl (by rw[yw,aB (by lia)]))) rfl),_,rfl⟩)
 have H:∀d,d<4->∀i,i<d->Nb 90 (d-1-i)+Sb 90 d d i+21<=3900:=by decide
 have lr:(List.range d).length=d:=fS;obtain⟨s,p1,-⟩:=xO (c:=c) F 90 (by decide) (by lia) hy (by lia) (λa Z=>aS.mp Z) eN hbl (λ_=>False) (λ_ _ _ z=>z.elim) (λp n=>.inr (aS.mpr n)) (λG' h r hr=>by rw[E]at h;cases h;exact neg r hr) (λi C=>by rw[lr]at C ⊢;have:=H d (by lia) i C;lia) 3900 (by decide) (λi C=>by rw[lr]at C ⊢;exact H d (by lia) i C);refine⟨s,iI rfl (gM (C8 (iY rfl rfl (tF d us hn sg v.sgs))) (ig (kW (iC (Cw d us rfl)) (yp d us rfl) rfl ?_)))⟩;refine iI rfl (gM (ρ':=R none none none none none none none) (gU (iC (xh rfl ew)) rfl) (gM (ρ':=R o none none none none none none) (gU (iY (iC lc1) rfl rfl) rfl) (gM (ρ':=R o w none none none none none) (gU (iY (gL rfl rfl rfl) rfl rfl) rfl) (gM (ρ':=R o w none none none none none) (iS (gX (gL rfl rfl rfl)) rfl) (gM (ρ':=R o w A none none none none) (gU (gL rfl rfl rfl) rfl) (gM (ρ':=R o w A P none none none) (gU (iC lc2) rfl) (gM (ρ':=R o w A P xq none none) (gU (iC (wU rfl rfl e8)) rfl) (gM (ρ':=R o w A P xq xl none) (gU (iC (wu rfl rfl rfl rfl e9)) rfl) (gM (jT (lY (gL rfl rfl (SX E))) e) (ig (pZ rfl (iY (x:=.lst []) rfl (iC (wM rfl rfl (Ri d (by lia) rfl) p1)) rfl))))))))))))
def Jk(j:1<=d/\d<=3)(b:yc d 90 us)(a:rZ us.length sg)(h:∃X,OD us d sg X):nP c [lN c d us,tI sg]=.ok .non:=by
 obtain⟨s,e⟩:=MK (c:=c) j b a h;have f:iR (gR (AM false) ac al) (vw (i9 2 [lN c d us,tI sg]))=.ok false:=gX (gL rfl rfl (by rw[Ry];congr 2;exact bH.mpr λx i=>by rcases a.pm x i with r|r<;>rw[r]<;>decide))
 have g:iR (gR (iA true) (gR ja (gS bP (wN c)) ac) (cM (.str "spot"))) (vw (i9 2 [lN c d us,tI sg]))=.ok false:=gX (gL (gL (iY rfl rfl e) rfl rfl) rfl Sv);refine Rq rfl (gM (C8 (iY rfl rfl (tF d us b.few sg a.sgs))) (iS ?_ rfl));simp only[L3.wc,f,g,M.bind_ok];rfl
end
def NB{a:Type}(n:Nat)(f:Nat->a)(k:Nat)(w:a)(h:k<n):((List.range n).map f).getD k w=f k:=by rw[af,av,List.getElem?_range h];rfl
structure Rk(d:Nat)(iB:LL)(os:List (Nat×LI)):Prop where
 lt:∀p∈os,p.1<d/\vc p.2 p.1≠0
 pw:os.Pairwise λp q=>p.1<q.1/\vc q.2 p.1=0
 to:∀v:Vc,(∀r∈iB,jB d (vc r) v=0)->∀p∈os,jB d (vc p.2) v=0
 fro:∀v:Vc,(∀p∈os,jB d (vc p.2) v=0)->∀r∈iB,jB d (vc r) v=0
def C9(d k:Nat)(a row:LI):LI:=(List.range d).map λj=>vc a k*vc row j-vc row k*vc a j
def Hw(d k:Nat)(a row:LI)(j:Nat)(b:j<d):vc (C9 d k a row) j=vc a k*vc row j-vc row k*vc a j:=by unfold vc C9;rw[NB _ _ _ _ b];rfl
def E8(d k:Nat)(f row:LI)(v:Vc):jB d (vc (C9 d k f row)) v=vc f k*jB d (vc row) v-vc row k*jB d (vc f) v:=by
 have h:=qp (m:=d) (A:=v) (x:=vc row) (y:=vc f) (z:=λj=>vc f k*vc row j-vc row k*vc f j) (s:=1) (a:=vc f k) (b:=-vc row k) (λi=>by grind);have e:jB d (vc (C9 d k f row)) v=jB d v (λj=>vc f k*vc row j-vc row k*vc f j):=by rw[yK];exact iZ _ _ _ λj g=>by rw[Hw d k f row j g]
 rw[e,yK d (vc row),yK d (vc f)];grind
def Br:Nat->Nat->Nat
 |B,0=>B
 |B,k+1=>2*Br B k+1
def PY(B k:Nat):Br B k<=Br B (k+1):=by show _<=2*Br B k+1;omega
def UH(B k:Nat)(a:k<=3):Br B k<=8*B+7:=by
 have:k=0\/k=1\/k=2\/k=3:=by omega
 rcases this with rfl|rfl|rfl|rfl<;>simp[Br]<;>omega
def CY(d B:Nat)(hd:d<=3)(hB:B<=8000)(iB:LL)(hn:iB.length<=10)(hl:∀r∈iB,r.length=d/\∀x∈r,Bn B x):∃w,l4 c [.lst (iB.map tI),.int (d:Int)]=.ok (.int (w.length:Int))/\Rk d iB w:=by
 have sz:1000<sizeLine:=by decide
 let R (s:LL) (n:Nat) (x3 S I D:Option W):En:=[some (.p (.lst (s.map tL))),some (.p (.int (d:Int))),some (.p (.int (n:Int))),x3,S,I,D];obtain⟨ρ,e,s,w,x3,S,I,D,rfl,E,Q,k3,k4,L,k6,k7⟩:=jE (m:=j6 3) (g:=xF c) (λ(k:Nat)=>T.int (k:Int))
  (λk ρ=>∃(s:LL) (w:List (Nat×LI)) (x3 S I D:Option W),ρ=R s w.length x3 S I D/\(s.length<=10/\∀r∈s,r.length=d/\∀x∈r,Bn (Br B k) x)/\(∀p∈w,p.1<k)/\(∀p∈w,p.1<d/\vc p.2 p.1≠0)/\w.Pairwise (λp q=>p.1<q.1/\vc q.2 p.1=0)/\(∀r∈s,∀i,i<k->vc r i=0)/\
   (∀v:Vc,(∀r∈iB,jB d (vc r) v=0)->(∀p∈w,jB d (vc p.2) v=0)/\∀r∈s,jB d (vc r) v=0)/\∀v:Vc,(∀p∈w,jB d (vc p.2) v=0)->(∀r∈s,jB d (vc r) v=0)->∀r∈iB,jB d (vc r) v=0)
  (List.range d) 0 (R iB 0 none none none none) ⟨iB,[],none,none,none,none,rfl,⟨hn,hl⟩,(λp C=>nomatch C),(λp C=>nomatch C),List.Pairwise.nil,(λr hr i Z=>absurd Z (dq _)),(λv h=>⟨(λp C=>nomatch C),h⟩),λv _ h=>h⟩ (by
   rintro k k' ρ hk ⟨s,w,x3,S,I,D,rfl,⟨k0,E⟩,Q,k3,k4,L,k6,k7⟩;rw[aG]at E Q L ⊢;obtain⟨il,ik⟩:=aa.mp hk;rw[fK]at ik;subst ik;rw[fS]at il;let F:Option W:=some (.p (.int (k:Int)));let sm:=s.filter λr=>!(vc r k==0);have J:∀r∈s,∀j,j<d->ja (tL r) (.int (j:Int))=.ok (.int (vc r j)):=λr hr j N=>Cd r j (by rw[(E r hr).1];exact N);have s4:j5 [none,some 3] db bv (iR (gR (iA true) c5 ac)) (xw c) (mD (R s w.length F S I D))=.ok (sm.map tL):=og s tL tL (λr=>!(vc r k==0)) rfl (by omega) (λr hr=>⟨_,rfl,gX (gL (gL rfl rfl (J r hr k il)) rfl (nO _ _)),λ_=>rfl⟩) rfl
   let H:Option W:=some (.p (.lst (sm.map tL)));have bm:=PY B k;have K:iA true (.lst (sm.map tL)) (.lst [])=.ok (.bl (!decide (sm=[]))):=by
    have lay1:uf (sm.map tL)=true:=sA _ _ λa _=>wz a;have dep1:ug (sm.map tL)<=1:=se _ _ _ λa _=>by show ug (a.map T.int)+1<=1;have:=pI a;omega
    unfold iA;have h1:qG (.lst (sm.map tL))=true:=lay1;have h2:qG (.lst [])=true:=rfl;have h3:Fh (.lst (sm.map tL))<=100:=by show ug _+1<=100;omega
    rw[h1,h2,aC h3];simp only[Bool.and_self,if_true];cases Y:sm with
    |nil=>rfl
    |cons a l=>rfl
   by_cases hs:sm=[]
   .refine⟨_,_,rfl,.inl (gM (ρ':=R s w.length F H I D) (gU (iC s4) rfl) (iS (gX (gL (x:=.lst (sm.map tL)) (y:=.lst []) rfl rfl (by rw[K,hs];rfl))) rfl)),s,w,F,H,I,D,rfl,⟨k0,λr hr=>⟨(E r hr).1,λx hx=>((E r hr).2 x hx).mono bm⟩⟩,λp C=>cv (Q p C),k3,k4,λr hr i Z=>?_,k6,k7⟩;by_cases q:i<k
    .exact L r hr i q
    .have e:i=k:=by omega
     subst e;refine aO λz=>?_;have:r∈sm:=aU.mpr ⟨hr,by simp[z]⟩;rw[hs]at this;cases this
   .obtain⟨o,l,hol⟩:∃o l,sm=o::l:=by
     cases Y:sm with
     |nil=>exact absurd Y hs
     |cons a l=>exact⟨a,l,rfl⟩
    have A:o∈s/\vc o k≠0:=by
     have:o∈sm:=by rw[hol];simp
     have:=aU.mp this;exact⟨this.1,by simpa using this.2⟩
    let X:=s.filter λr=>!decide (r=o);let nw:=X.map (C9 d k o);let U:Option W:=some (.p (tL o));let y6:Option W:=some (.p (.lst (X.map tL)));have s6:j5 [none,some 5] db bv (iR (gR (iA true) ah al)) (xE c) (mD (R s (w.length+1) F H U D))=.ok (X.map tL):=og s tL tL (λr=>!decide (r=o)) rfl (by omega) (λr hr=>⟨_,rfl,gX (gL (x:=tL r) (y:=tL o) rfl rfl (by unfold tL;rw[Ke];rfl)),λ_=>rfl⟩) rfl
    have rel:X.length<=10:=aN (fC _ _) k0;have ino:∀j,j<d->ja (tL o) (.int (j:Int))=.ok (.int (vc o j)):=J o A.1;have b8:Br B k<=80000:=by have:=UH B k (by omega);omega
    have s0:j5 [none,some 1,some 5,some 3] (iU em) bv (λ_=>.ok true) (xB c) (mD (R s (w.length+1) F H U y6))=.ok (nw.map tL):=by refine jC X tL (λr=>tL (C9 d k o r)) rfl (by omega) (λr hr=>⟨_,rfl,rfl,?_⟩) (by rw[aI];rfl);have u:=(aU.mp hr).1;refine iC (jC (List.range d) (λ(j:Nat)=>T.int (j:Int)) (λj=>T.int (vc o k*vc r j-vc r k*vc o j)) (n5 d (by omega) rfl) (by rw[fS];omega) (λj N=>⟨_,rfl,rfl,?_⟩) (by unfold C9;rw[aI];rfl));have N:=aS.mp N;have bo:=λi=>oP (E o A.1).2 i;have br:=λi=>oP (E r u).2 i;exact gL (gL (gL rfl rfl (ino k il)) (gL rfl rfl (J r u j N)) (iE ((bo k).ok (br j) (by omega) (by omega)))) (gL (gL rfl rfl (J r u k il)) (gL rfl rfl (ino j N)) (iE ((br k).ok (bo j) (by omega) (by omega)))) (nr _ _)
    refine⟨_,_,rfl,.inl (gM (ρ':=R s w.length F H I D) (gU (iC s4) rfl) (jf (gX (gL (x:=.lst (sm.map tL)) (y:=.lst []) rfl rfl (by rw[K];simp[hs]))) (gM (ρ':=R s w.length F H U D) (gU (gL (x:=.lst (sm.map tL)) rfl rfl (by rw[hol,bI];exact Q0 _ _)) rfl) (gM (ρ':=R s (w.length+1) F H U D) (gU (gL rfl rfl (jH _ _)) rfl) (gM (ρ':=R s (w.length+1) F H U y6) (gU (iC s6) rfl) (gU (iC s0) ?_)))))),nw,w++[(k,o)],F,H,U,y6,rfl,⟨by rw[aw];exact rel,λr hr=>?_⟩,λp C=>?_,λp C=>?_,?_,λr hr i Z=>?_,λv hv=>?_,λv hv hr r u=>?_⟩
    .simp[R]
    .obtain⟨P,u,rfl⟩:=aD.mp hr;have hm:=(aU.mp u).1;refine⟨by unfold C9;simp,λx hx=>?_⟩;obtain⟨j,N,rfl⟩:=aD.mp hx;exact (((oP (E o A.1).2 k).mul (oP (E P hm).2 j)).sub ((oP (E P hm).2 k).mul (oP (E o A.1).2 j))).mono (by show _<=2*Br B k+1;omega)
    .rcases ai.mp C with q|q
     .exact cv (Q p q)
     .rw[aj.mp q];exact bK _
    .rcases ai.mp C with q|q
     .exact k3 p q
     .rw[aj.mp q];exact⟨il,A.2⟩
    .rw[eA];refine⟨k4,fR _ _,λp C q hq=>?_⟩;rw[aj.mp hq];exact⟨Q p C,L o A.1 p.1 (Q p C)⟩
    .obtain⟨P,u,rfl⟩:=aD.mp hr;have hm:=(aU.mp u).1;rw[Hw d k o P i (by omega)];by_cases q:i<k
     .rw[L P hm i q,L o A.1 i q];simp
     .have e:i=k:=by omega
      subst e;rw[cV];omega
    .obtain⟨a,b⟩:=k6 v hv;refine⟨λp C=>?_,λr hr=>?_⟩
     .rcases ai.mp C with q|q
      .exact a p q
      .rw[aj.mp q];exact b o A.1
     .obtain⟨P,u,rfl⟩:=aD.mp hr;rw[E8,b P (aU.mp u).1,b o A.1];simp
    .have vo:jB d (vc o) v=0:=hv (k,o) (by simp);refine k7 v (λp C=>hv p (by simp[C])) (λr2 hr2=>?_) r u;by_cases q:r2=o
     .rw[q];exact vo
     .have:=hr _ (List.mem_map_of_mem (f:=C9 d k o) (aU.mpr ⟨hr2,by simp[q]⟩:r2∈X));rw[E8,vo,dN,Int.sub_zero]at this;exact Co A.2 this)
 rw[aG,fS]at L;have l1:j5 [none] db bv (λ_=>.ok true) (s9 c) (mD (i9 7 [.lst (iB.map tI),.int (d:Int)]))=.ok (iB.map tL):=jC iB tI tL rfl (by omega) (λr hr=>⟨_,rfl,rfl,Qi rfl⟩) rfl
 refine⟨w,iI rfl (gM (ρ':=[some (.p (.lst (iB.map tL))),some (.p (.int (d:Int))),none,none,none,none,none]) (gU (iC l1) rfl) (gM (ρ':=R iB 0 none none none none) (gU rfl rfl) (gM (nG (n5 d (by omega) rfl) e) (ig rfl)))),k3,k4,λv hv=>(k6 v hv).1,λv hv=>k7 v hv λr hr=>?_⟩;show sm d (λi=>vc r i*v i)=0;rw[iZ d _ (λ_=>0) λi Z=>by rw[L r hr i Z];exact dU _,rE]
section
variable {us:LL}{d:Nat}{sg:LI}
def KL(h:∀q,X q=0)(a:x d=0):kg d X x=0:=by unfold kg;rw[kj d _ (λ_=>0) λi _=>by rw[h i];grind,y0,a];grind
def Hc{g S:Int}{X:Nat->Rat}{x u:Vc}(h:∀k,k<d->(S:Rat)*X k=(g:Rat)*(u k:Rat)):(S:Rat)*kg d X x=(g:Rat)*(jB d x u:Rat)-(S:Rat)*(x d:Rat):=by
 have b:=rL (S:Rat) 0 d (λp=>(x p:Rat)*X p) λ_=>0;have e:=rL (g:Rat) 0 d (λp=>((x p*u p:Int):Rat)) λ_=>0;unfold kg jB;rw[vh];have f:=kj d (λp=>(S:Rat)*((x p:Rat)*X p)+0*0) (λp=>(g:Rat)*((x p*u p:Int):Rat)+0*0) λk a=>by have:=h k a;rw[eQ];grind
 grind
def EI(e:∀u∈us,u.length=d+1)(b:rZ us.length sg){j:Nat}(a:j<us.length) q:vc ((LR us d sg).getD j []) q=if q=d then 0 else vc sg j*vc (wr us j) q:=by unfold LR;rw[EW b _ a,Ae e a]
def GB(a:rZ us.length sg):(LR us d sg).length=us.length:=by have:=a.len;unfold LR;rw[aw,dZ,fS];lia
def LT(us:LL)(d:Nat)(sg:LI):Vc->Vc:=Lt us.length λj=>vc ((LR us d sg).getD j [])
def Uh(a:∀u∈us,u.length=d+1)(e:rZ us.length sg) t p (f:p<d):LT us d sg t p=Ut us sg t p:=iZ _ _ _ λj b=>by dsimp only;rw[EI a e b,aR (by lia),zM us d j b a,aQ (by lia)]
def Tq(a:∀u∈us,u.length=d+1)(g:rZ us.length sg) t j (e:j<us.length):LT us d sg t (d+1+j)=t j*vc sg j:=by unfold LT Lt;rw[HI us.length j e _ λi f b=>by dsimp only;rw[EI a g f,aR (by lia),VF us d i f a j (Ne.symm b)];simp];dsimp only;rw[EI a g e,aR (by lia),zM us d j e a,aR (by lia),aQ (by lia),bD]
def Lh{a:Nat}{i:List (LL)}{Gl:LL}(f:∀u∈us,u.length=d+1)(b:rZ us.length sg)(h:VN us d sg a i Gl):∀r∈Gl,∃t:Vc,(∀j,0<=t j)/\∃m:Int,0<m/\∀q,m*vc r q=LT us d sg t q:=λr hr=>by obtain⟨l,n,e,-,-,-,q,-⟩:=Iv (ix:=[]) (sQ f b) h.ly [] rfl (sQ f b).g0 (sQ f b).gen0;rw[h.last]at e;cases e;obtain⟨t,g,m,k,e⟩:=q r hr;rw[GB b]at e;exact⟨t,g.nn,m,k,e⟩
structure Wg(us:LL)(d:Nat)(sg u:LI):Prop where
 len:u.length=d
 bn:∀x∈u,Bn 5000 x
 in_:∀j,j<us.length->0<=vc sg j*jB d (vc (us.getD j [])) (vc u)
 ne:∃a,a<d/\vc u a≠0
structure WD(us:LL)(d:Nat)(sg ws:LI):Prop where
 len:ws.length=us.length
 bn:∀x∈ws,Bn 2000 x/\1<=x
 z:∀p,p<d->Ut us sg (vc ws) p=0
theorem CW{a:Nat}{U:List (LL)}{Gl:LL}(hd:1<=d/\d<=3)(hg:yc d 90 us)(B:rZ us.length sg)(h:VN us d sg a U Gl)(F:a<d)(s:Int)(I:s=1\/s = -1)(hz:∀r∈Gl,0<=vc r a*s) :
  ∃u,kc c [.lst (U.map λg=>T.lst (g.map tI)),.int (d:Int),.int (a:Int),.int s]=.ok (tI u)/\Wg us d sg u:=by
 have A:∀u∈us,u.length=d+1:=λu hu=>(hg.gc u hu).gl.1;have ol:=E5 (d:=d) a F;let f:List (Int×Int):=List.replicate d (0,1);let w:=f.set a (s,1);have P:Fq (0,1):=⟨by decide,by decide⟩;have L:Fq (s,1):=⟨by show (0:Int)<1;decide,by rcases I with rfl|rfl<;>decide⟩;have w0:wt (0,1)=1:=by decide
 have ws:wt (s,1)=1:=by rcases I with rfl|rfl<;>decide
 have v:∀p∈w,p=(0,1)\/p=(s,1):=λp b=>by
  rcases fw b with q|q
  .exact .inl (bg q)
  .exact .inr q
 have g0:∀q,f.getD q (0,1)=(0,1):=λq=>by show (List.replicate d ((0,1):Int×Int)).getD q (0,1)=(0,1);rw[af,List.getElem?_replicate];split<;>rfl
 have E:∀m<3,∀dd<4,∀i<2,i<m->Nb 90 (m-1-i)+Sb 90 dd m i+21<=600:=by decide
 obtain⟨o,e,sl,J,-,so,si⟩:=tH (c:=c) (st:=false) (sQ A B) 90 (by decide) (by lia) h.ly (by lia) (λx C=>(nQ.mp C).1) (eN.sublist gB) h.bn (λp=>p=d) (λr hr p b=>by
   obtain⟨q,H,rfl⟩:=aD.mp hr;rw[Ae A (lJ B H).1,aQ b]) w (by
   have:∀l:List (Int×Int),(∀p∈l,wt p=1)->nY l=l.length:=λl=>by
    induction l with
    |nil=>intro _;rfl
    |cons p l ih=>
     intro b;have e1:nY (p::l)=wt p+nY l:=by simp[nY]
     rw[e1,ih λq H=>b q (by simp[H]),b p (by simp),ay];lia
   rw[this w λp b=>by rcases v p b with q|q<;>rw[q]<;>assumption];simp[w,f]) (by simp[w,f]) (λx C=>by
   show (f.set a (s,1)).getD x (0,1)=(0,1);rw[EV _ _ _ (Ne.symm (nQ.mp C).2)];exact g0 x) (λG' D h0 r hr=>by
   rw[h.last]at D;cases D;show (0:Rat)<=kg d (Xs (f.set a (s,1))) (vc r);have R:∀q,Xs f q=0:=λq=>by unfold Xs;rw[g0 q,WU]
   rw[Mg f a (s,1) (by simp[f];lia),HN F,KL R ((h.gl r hr).2 d (aK _) (by lia)),R,HK];have:=hz r hr;have q:(0:Rat)<=(vc r a:Rat)*(s:Rat):=by exact_mod_cast this
   grind) (λi Q=>by have:=E (xT d a).length (by lia) d (by lia) i (by lia) Q;lia) 600 (by decide) (λi Q=>E (xT d a).length (by lia) d (by lia) i (by lia) Q) λp b=>by
   rcases v p b with q|q<;>rw[q]
   .exact⟨P,(zb (n:=0)).mono (by lia),qq⟩
   .exact⟨L,(zb (n:=0)).mono (by lia),by rcases I with rfl|rfl<;>exact Bn.mono (m:=1) (show _<_ by decide) (by lia)⟩
 obtain⟨u,g,S,eu,ul,Z,g1,S1,y⟩:=Fx (c:=c) 1230 (by decide) (by decide) o (by lia) λp b=>⟨(J p b).1.pos,(J p b).2.2.mono (by decide),(J p b).2.1.mono (by decide)⟩;have N:∀k,k<d->(S:Rat)*Xs o k=(g:Rat)*(vc u k:Rat):=λk hk=>by
  have b:=y k _ (ag (by lia));have p0:=(J _ (aV (show k<o.length by lia))).1.pos;unfold Xs qv;rw[af,ag (show k<o.length by lia)];show (S:Rat)*((o[k].1:Rat) / (o[k].2:Rat))=_;have H:(g:Rat)*(vc u k:Rat)*(o[k].2:Rat)=(S:Rat)*(o[k].1:Rat):=by exact_mod_cast b
  have:=nN p0;grind
 refine⟨u,iI rfl (gM (ou (ts:=f.map fr) (GZ (Ri d (by lia) rfl)) rfl) (gM (BO (us:=f.map fr) (j:=(a:Int)) (m:=a) (t:=fr (s,1)) rfl rfl rfl rfl (by rw[aw];exact yH _ _ (by simp[f];lia)) rfl) (ig (pX (iC (wM (z:=.lst (w.map fr)) rfl (iC (wU rfl rfl (Bc hd.2 a))) ?_ e)) eu)))),by lia,λx C=>(Z x C).mono (by decide),λj K=>?_,a,F,?_⟩
 .simp[w,dH]
 .have lj:j<(LR us d sg).length:=by rw[GB B];exact K
  have q:(0:Rat)<=kg d (Xs o) (vc ((LR us d sg).getD j [])):=si _ (rG lj);have X:=Hc (x:=vc ((LR us d sg).getD j [])) N;rw[show vc ((LR us d sg).getD j []) d=0 by rw[EI A B K,aQ rfl]]at X;have e3:jB d (vc ((LR us d sg).getD j [])) (vc u)=vc sg j*jB d (vc (us.getD j [])) (vc u):=by unfold jB;rw[<-lL];exact iZ _ _ _ λk hk=>by rw[EI A B K,aR (by lia),zM us d j K A,aQ (by lia)];grind
  rw[e3]at X;refine eX.mp λz=>?_;have z':((vc sg j*jB d (vc (us.getD j [])) (vc u):Int):Rat)<0:=by exact_mod_cast z
  have:=fN (eU (nN S1)) q;have:=eT (nN g1) (show 0 < -((vc sg j*jB d (vc (us.getD j [])) (vc u):Int):Rat) by grind);grind
 .have:=y a (s,1) (by
   have Y:=so a F λz=>(nQ.mp z).2 rfl;have h3:(f.set a (s,1)).getD a (0,1)=(s,1):=by rw[af,List.getElem?_set_self (by simp[f];lia)];rfl
   rw[ag (by lia)];rw[h3,af,ag (by lia)]at Y;exact congrArg some Y)
  intro z;rw[z]at this;rcases I with rfl|rfl<;>simp at this<;>lia
end
def Wj{fc:Pe->M Bool}{f g:Pe->M T}{ρ:Pe}{t:T}(h:fc ρ=.ok true)(a:f ρ=.ok t):NT fc f g ρ=.ok t:=by simp only[NT,h,a,M.bind_ok,if_true]
def Wi{fc:Pe->M Bool}{f g:Pe->M T}{ρ:Pe}{t:T}(h:fc ρ=.ok false)(a:g ρ=.ok t):NT fc f g ρ=.ok t:=by simp only[NT,h,a,M.bind_ok];rfl
theorem NF:∀(l:LI),(∀x∈l,Bn N x)->Bn (N+l.length) l.sum
 |[],_=>qq
 |x::l,h=>by rw[eV,ay];have:=(h x (by simp)).add (NF l λy a=>h y (by simp[a]));exact this.mono (by lia)
def SR(us:LL)(w N:Nat)(e:w<=100)(f:N<=9000)(d:∀u∈us,w<=u.length)(i:∀u∈us,∀x∈u,Bn N x)(n:us.length<=8) ws (hw:ws.length=us.length) (b:∀x∈ws,Bn 9000 x):lI c [.lst (us.map tI),tL ws,.int (w:Int)]=.ok (((List.range w).map (NU us ws)).map T.int):=by
 have sz:1000<sizeLine:=by decide
 refine mx rfl (mP (jC (List.range w) (λk=>T.int k) (λk=>T.int (NU us ws k)) (n5 w (by lia) rfl) (by simp;lia) (λk m=>⟨_,rfl,rfl,?_⟩) (by rw[aI];rfl)));have l:=aS.mp m;have j:j5 [none,some 0] (iU bd) bv (λ_=>.ok true) (sC c) [some (.int k),some (tL ws),some (.lst (us.map tI))]=.ok ((us.map λu=>vc u k).map T.int):=jC us tI (λu=>T.int (vc u k)) rfl (by lia) (λu a=>⟨_,rfl,rfl,gL rfl rfl (k9 u k (by have:=d u a;lia))⟩) (by rw[aI];rfl)
 have:=PU (c:=c) (by lia) ws (us.map λu=>vc u k) (by lia) b λx h=>by obtain⟨u,a,rfl⟩:=aD.mp h;exact (i u a _ (getD_mem u k (by have:=d u a;lia))).mono f
 have g:((ws.zip (us.map λu=>vc u k)).map λp=>p.1*p.2).sum=NU us ws k:=by unfold NU;rw[List.zip_map_right,aI];rfl
 rw[g]at this;exact iY rfl (iC j) this
section
variable {us:LL}{d:Nat}{sg:LI}
structure WN(us:LL)(d:Nat)(sg:LI)(a:Nat)(s:Int)(r:LI):Prop where
 st:WO us d a s r
 z:∀p,p<d->p≠a->vc r p=0
 co:∃t:Vc,(∀j,0<=t j)/\∃m:Int,0<m/\∀q,m*vc r q=LT us d sg t q
def Qk{a b:Int}(h:0<a)(e:1<=b):1<=a*b:=aX h e
def DO(hd:1<=d/\d<=3)(hg:yc d 90 us)(w:rZ us.length sg)(o:0<us.length)(kvs:List (LI×T))(hk:∀p,p<d->∀s:Int,s=1\/s = -1->∃r,nH kvs [(p:Int),s]=some (tI r)/\WN us d sg p s r) :
  ∃v:LI,kf c [.lst ((LR us d sg).map tI),.dic kvs,tI sg,.int (d:Int)]=.ok (v.map T.int)/\WD us d sg v:=by
 have sz:1000<sizeLine:=by decide
 have hn:=hg.few;have sl:=w.len;have hl:∀u∈us,u.length=d+1:=λu H=>(hg.gc u H).gl.1;have hr:∀r∈LR us d sg,r.length=d+1+us.length/\∀i∈r,Bn 90 i:=λr hr=>by obtain⟨p,o,rfl⟩:=aD.mp hr;exact⟨Ci hl (lJ w o).1,KH (by decide) (λu H=>(hg.gc u H).gl.2) (lJ w o).1 (NS (lJ w o).2)⟩
 have Z:=GB (d:=d) w;let L:=d+1+us.length;let one:LI:=List.replicate us.length 1;let l:LI:=(List.range L).map (NU (LR us d sg) one);have e1:=SR (c:=c) (LR us d sg) L 90 (by lia) (by decide) (λu H=>by rw[(hr u H).1];exact aK _) (λu H=>(hr u H).2) (by lia) one (by simp[one,Z]) λx B=>by rw[bg B];exact (zb (n:=0)).mono (by decide)
 have b0:∀x∈l,Bn 100 x:=λx B=>by obtain⟨k,hk,rfl⟩:=aD.mp B;have hk':=aS.mp hk;unfold NU;refine Bn.mono (NF (N:=91) _ λy hy=>?_) (by rw[aw,dZ];simp[one];lia);obtain⟨p,o,rfl⟩:=aD.mp hy;have I:=aW (show (p.1,p.2)∈_ from o);have p1:p.1=1:=bg I.1;rw[p1,dQ];exact ((hr _ I.2).2 _ (getD_mem _ _ (by rw[(hr _ I.2).1];exact hk'))).mono (by decide)
 let R (h:LI) (J C:Option W):En:=[some (.p (.lst ((LR us d sg).map tI))),some (.p (.dic kvs)),some (.p (tI sg)),some (.p (.int (d:Int))),some (.p (tI h)),J,C];have v0:∀q,1*vc l q=LT us d sg (λ_=>1) q:=λq=>by
  rw[dQ];by_cases hq:q<L
  .rw[show vc l q=NU (LR us d sg) one q by unfold vc;rw[af];simp[l,hq],GH q one _ (by simp[one,Z]),Z];exact iZ _ _ _ λj A=>by rw[show vc one j=1 by unfold vc;rw[af];simp[one,A]]
  .rw[pP l q (by simp[l];lia)];show 0=sm _ _;rw[iZ _ _ (λ_=>0) λj A=>by dsimp only;rw[pP ((LR us d sg).getD j []) q (by rw[(hr _ (rG (by lia))).1];lia),dN],rE]
 obtain⟨ρ,e,h,J,C,rfl,X,rb,K,S,t,Y,ht,U⟩:=jE (m:=j6 5) (g:=oZ c) (λ(k:Nat)=>T.int (k:Int)) (λk ρ=>∃(h:LI) (J C:Option W),ρ=R h J C/\h.length=L/\(∀x∈h,Bn (100+364*k) x)/\(∀p,p<k->vc h p=0)/\∃(S:Int) (t:Vc),0<S/\(∀j,1<=t j)/\∀q,S*vc h q=LT us d sg t q) (List.range d) 0 (R l none none) ⟨l,none,none,rfl,by simp[l],b0,λp o=>absurd o (dq _),1,λ_=>1,by decide,λ_=>eD _,v0⟩ (by
  rintro i k ρ hi ⟨h,J,C,rfl,X,rb,K,S,t,Y,ht,U⟩;rw[aG]at rb K ⊢;obtain⟨il,ik⟩:=aa.mp hi;rw[fK]at ik;subst ik;rw[fS]at il;have ix:ja (tI h) (.int (i:Int))=.ok (.int (vc h i)):=k9 h i (by lia);obtain⟨s,h1,es⟩:∃s:Int,(s=1/\0<vc h i\/s = -1/\vc h i<=0)/\NT (iR (gR FM (gR ja bu bi) ac)) ab (qw (λi=>.int (-i)) ab) (mD (R h (some (.p (.int (i:Int)))) C))=.ok (.int s):=by
   by_cases F:0<vc h i
   .exact⟨1,.inl ⟨rfl,F⟩,Wj (gX (gL (gL rfl rfl ix) rfl (by rw[vH,aC F]))) rfl⟩
   .exact⟨-1,.inr ⟨rfl,eX.mp F⟩,Wi (gX (gL (gL rfl rfl ix) rfl (by rw[vH,aB F]))) rfl⟩
  obtain⟨r,ev,⟨E,rz',t',ht',m,hm,rt'⟩⟩:=hk i il s (by lia);have P:=E.at_;have ne:vc r i≠0:=λz=>by rw[z]at P;simp at P
  obtain⟨q,eq,ql,qb,q0,g,s',b,hg',hs',D,key⟩:=zm (c:=c) (100+364*i) 363 h r i (by lia) (by rw[E.len,X]) (by lia) (by lia) rb E.bn ne;have hb:0<=b:=by
   by_cases F:vc h i=0
   .have:=D i;rw[q0,F,dN,dN,dY]at this;rcases dS.mp this.symm with z|z
    .rw[z];exact eD _
    .exact absurd z ne
   .obtain⟨-,eb⟩:=key F;rw[eb];unfold lK;rcases h1 with⟨rfl,q⟩|⟨rfl,q⟩<;>grind
  have gd:Gf (.dic kvs) (.tup [.int (i:Int),.int s])=.ok (tI r):=by show (match nH kvs [(i:Int),s] with|some t=>M.ok t|none=>.bad)=_;rw[ev]
  refine⟨_,_,rfl,.inl (gM (ρ':=R h (some (.p (.int (i:Int)))) (some (.p (.int s)))) (gU es rfl) (gU (kW rfl (gL rfl rfl gd) rfl eq) rfl)),q,_,_,rfl,by rw[ql,X],λx B=>(qb x B).mono (by lia),λp o=>?_,S*m*g,λj=>m*s'*t j+S*b*t' j,aX (aX Y hm) hg',λj=>?_,λp=>?_⟩
  .by_cases h2:p=i
   .rw[h2,q0]
   .have:=D p;rw[K p (by lia),rz' p (by lia) h2,dN,dN,dX]at this;rcases dS.mp this with z|z
    .lia
    .exact z
  .have q1:=Qk (aX hm hs') (ht j);have q2:=aP (aP (aA Y) hb) (ht' j);lia
  .have:=Dm (m:=us.length) (g:=λj=>vc ((LR us d sg).getD j [])) (s:=1) (a:=m*s') (b:=S*b) (x:=t) (y:=t') (z:=λj=>m*s'*t j+S*b*t' j) (λj=>by rw[dQ]) p;have e1:=U p;have e2:=rt' p;have e3:=D p;show _=Lt us.length (λj=>vc ((LR us d sg).getD j [])) _ p;unfold LT at e1 e2;grind)
 rw[aG,fS]at rb K;let v:=(sg.zip (h.drop (d+1))).map λp=>p.1*p.2;have e2:j5 [none,none] (nq (gF bd (gF (ka bu (ju (gR jI be ab)) (λ_=>.ok none)) gJ))) ap (λ_=>.ok true) (oS c) (vw (R h J C))=.ok (v.map T.int):=jC (sg.zip (h.drop (d+1))) (λp=>.tup [.int p.1,.int p.2]) (λp=>T.int (p.1*p.2)) (nC (f:=T.int) (g:=T.int) rfl rfl (uU h d rfl rfl) rfl) (by rw[dZ];lia) (λp o=>⟨_,rfl,rfl,gL rfl rfl (iE (qX (cg (NS (w.pm _ (aW (show (p.1,p.2)∈_ from o)).1)) (by decide))))⟩) (by rw[aI];rfl)
 have e3:kG j7 (gF (jw (js (gF ah (gF (jw (xm (jw (lstM da)) (kG mC bf))) (gF (kG mC (gF dk gJ)) gJ))) (lI c))) gJ) (mD (i9 7 [.lst ((LR us d sg).map tI),.dic kvs,tI sg,.int (d:Int)]))=.ok (tI l):=by
  have r0:(LR us d sg)[0]? = some ((LR us d sg)[0]'(by lia)):=ag _;have Wx:ja (.lst ((LR us d sg).map tI)) (.int 0)=.ok (tI ((LR us d sg)[0]'(by lia))):=Q4 _ 0 _ (by rw[av,r0];rfl);refine oC (ts:=l.map T.int) (wM (y:=tL one) (z:=.int (L:Int)) rfl ?_ (n8 (gL rfl rfl Wx) ?_) e1) rfl
  .rw[RK us.length (by lia) (.int 1) (n8 (t:=.lst ((LR us d sg).map tI)) rfl (by simp[Z]))];simp[tL,one]
  .have:=(hr _ (aV (show 0<(LR us d sg).length by lia))).1;simp[tI,this,L]
 have wl:v.length=us.length:=by simp[v,X,L];lia
 have Q:∀j,j<us.length->S*vc v j=t j:=λj A=>by
  have q:=U (d+1+j);rw[Tq hl w t j A]at q;have e4:vc v j=vc sg j*vc h (d+1+j):=by rw[jS v j (by lia),jS sg j (by lia),jS h (d+1+j) (by lia)];simp[v]
  have:=w.at_ A;rw[e4];rcases this with z|z<;>rw[z]at q ⊢<;>grind
 refine⟨v,mx rfl (gM (gU e3 rfl) (gM (nG (n5 d (by lia) rfl) e) (mP e2))),wl,λx B=>⟨?_,?_⟩,λp o=>?_⟩
 .obtain⟨p,o,rfl⟩:=aD.mp B;have I:=aW (show (p.1,p.2)∈_ from o);exact (HV (NS (w.pm _ I.1)) (rb _ (fX I.2))).mono (by lia)
 .obtain⟨j,A,rfl⟩:=gD.mp B;have:=Q j (by lia);rw[jS v j A]at this;have:=ht j;refine eX.mp λz=>?_;have:=aP (aA Y) (show 0<=-v[j] by lia);grind
 .have q:=U p;rw[K p o,dN,Uh hl w t p o]at q;have q2:S*Ut us sg (vc v) p=Ut us sg t p:=by unfold Ut;rw[<-lL];exact iZ _ _ _ λj A=>by rw[<-Q j A];grind
  rw[<-q]at q2;rcases dS.mp q2 with z|z
  .lia
  .exact z
def Wt(us:LL)(d:Nat)(sg:LI)(t:T):Prop:=(¬BD us d sg/\∃x,t=.tup [.str "far",tI x]/\Wg us d sg x)\/(BD us d sg/\∃x,t=.tup [.str "bounded",tL x]/\WD us d sg x)
def HY{a:Nat}{k:List (LL)}{Gl:LL}(b:∀u∈us,u.length=d+1)(g:rZ us.length sg)(h:VN us d sg a k Gl)(i:a<d) v:(∃r∈Gl,0<v*vc r a)↔Vh us d sg a v:=by obtain⟨G,e,q⟩:=Pa (sg:=sg) (sQ b g) (λj f p l=>by unfold LR;rw[EW g _ f,Ae b f,aR (by lia),zM us d j f b,aQ (by lia)]) h.ly i;rw[h.last]at e;cases e;exact q v
def Ef(I:1<=d/\d<=3)(E:yc d 90 us)(x:rZ us.length sg)(hX:∃X,OD us d sg X):∃t,pD c [lN c d us,tI sg]=.ok t/\Wt us d sg t:=by
 have sz:1000<sizeLine:=by decide
 have hn:=E.few;have S:∀u∈us,u.length=d+1:=λu hu=>(E.gc u hu).gl.1;have e0:=LW (c:=c) hn I.2 S x;let R (b:List (LI×T)) (L H l f:Option W):En:=[some (.p (lN c d us)),some (.p (tI sg)),some (.p (.int (d:Int))),some (.p (.lst ((LR us d sg).map tI))),some (.d b),L,H,l,f];have main:=sX (m:=j6 5) (g:=yS c) (λ(k:Nat)=>T.int (k:Int)) (λk J=>∃b L H l f,J=R b L H l f/\b.length<=2*k/\∀p,p<k->∀s:Int,s=1\/s = -1->(∃r,nH b [(p:Int),s]=some (tI r)/\WN us d sg p s r)/\Vh us d sg p (-s)) (λt=>Wt us d sg t) (List.range d) 0 (R [] none none none none) ⟨[],none,none,none,none,rfl,aK _,λp h=>by simp at h⟩ (by
  rintro i k J hi ⟨b,L,H,l,f,rfl,kl,K⟩;rw[aG]at kl K ⊢;obtain⟨D,ik⟩:=aa.mp hi;rw[fK]at ik;subst ik;rw[fS]at D;obtain⟨ls,Gl,el,qG⟩:=IR (c:=c) I E x i D;let C:Option W:=some (.p (.lst (ls.map λg=>T.lst (g.map tI))));refine⟨R b (some (.p (.int (i:Int)))) H l f,rfl,?_⟩;have A:=sX (m:=j6 7) (g:=Dy c) T.int (λj J=>∃n l f,J=R n (some (.p (.int (i:Int)))) C l f/\n.length<=b.length+j/\(∀q,q≠[(i:Int),1]->q≠[(i:Int),-1]->nH n q=nH b q)/\∀s∈[(1:Int),-1].take j,(∃r,nH n [(i:Int),s]=some (tI r)/\WN us d sg i s r)/\Vh us d sg i (-s)) (λt=>Wt us d sg t) [1,-1] 0 (R b (some (.p (.int (i:Int)))) C l f) ⟨b,l,f,rfl,aK _,λ_ _ _=>rfl,λs h=>by simp at h⟩ (by
   rintro j s J hj ⟨n,l,f,rfl,B,y,w⟩;rw[aG]at B w ⊢;have sm:=au hj;have F:s=1\/s = -1:=by simpa using sm
   refine⟨R n (some (.p (.int (i:Int)))) C (some (.p (.int s))) f,rfl,?_⟩;rcases P8 (c:=c) qG D s F with⟨r,er,hr,Y⟩|⟨er,hz⟩
   .left;refine⟨_,gM (ρ':=R n (some (.p (.int (i:Int)))) C (some (.p (.int s))) (some (.p (tI r)))) (gU (kW rfl rfl rfl er) rfl) (gM (iS (gX (gL rfl rfl rfl)) rfl) (Dk (k:=[(i:Int),s]) (t:=tI r) rfl rfl rfl (Hk r) (by have:=(aa.mp hj).1;simp at this;lia))),rY n [(i:Int),s] (tI r),_,_,rfl,aN (C5 _ _ _) (by lia),λq q1 q2=>?_,λs' Q=>?_⟩
    .rw[zK,aR (by rcases F with rfl|rfl<;>assumption)];exact y q q1 q2
    .rw[jP _ j s hj]at Q;rw[zK];by_cases N:s'=s
     .subst N;exact⟨⟨r,by rw[aQ rfl],hr,λp h3 h4=>(qG.gl r Y).2 p (by lia) h4,Lh S x qG r Y⟩,(HY S x qG D _).mp ⟨r,Y,by have:=hr.at_;grind⟩⟩
     .rcases ai.mp Q with q|q
      .obtain⟨⟨r',e1,P⟩,e3⟩:=w s' q;exact⟨⟨r',by rw[aR (by simp[N])];exact e1,P⟩,e3⟩
      .exact absurd (aj.mp q) N
   .right;obtain⟨u,eu,far⟩:=CW (c:=c) I E x qG D s F hz;exact⟨_,gM (ρ':=R n (some (.p (.int (i:Int)))) C (some (.p (.int s))) (some (.p .non))) (gU (kW rfl rfl rfl er) rfl) (lS (t:=.tup [.str "far",tI u]) (jf (gX (gL rfl rfl rfl)) (ig (pZ rfl (zf rfl rfl rfl rfl eu)))) rfl),.inl ⟨λz=>by obtain⟨r,hr,q⟩:=(HY S x qG D (-s)).mpr (z i D (-s) (by lia));have:=hz r hr;grind,_,rfl,far⟩⟩)
  rcases A with⟨ρ2,P,n,z7,z8,rfl,B,y,w⟩|⟨t,P,Z⟩
  .left;refine⟨_,gM (ρ':=R b (some (.p (.int (i:Int)))) C l f) (gU (kW rfl rfl rfl el) rfl) (jT rfl P),n,_,_,_,_,rfl,by simp at B;lia,λp U s F=>?_⟩;by_cases N:p=i
   .subst N;exact w s (by rcases F with rfl|rfl<;>simp)
   .rw[y _ (by simp;lia) (by simp;lia)];exact K p (by lia) s F
  .right;exact⟨t,gM (ρ':=R b (some (.p (.int (i:Int)))) C l f) (gU (kW rfl rfl rfl el) rfl) (jT rfl P),Z⟩)
 have go:∀{o:O},(gW (qU (mM ba) (j6 5) (yS c)) _) (R [] none none none none)=o->Hi c (i9 9 [lN c d us,tI sg])=o:=λ{o} h=>gM (ρ':=i9 9 [lN c d us,tI sg]) (C8 (iY rfl rfl (Jk I E x hX))) (gM (ρ':=[some (.p (lN c d us)),some (.p (tI sg)),some (.p (.int (d:Int))),none,none,none,none,none,none]) (gU (yp d us rfl) rfl) (gM (ρ':=[some (.p (lN c d us)),some (.p (tI sg)),some (.p (.int (d:Int))),some (.p (.lst ((LR us d sg).map tI))),none,none,none,none,none]) (gU (iC (wU rfl rfl e0)) rfl) (gM (ρ':=R [] none none none none) rfl h)))
 rcases main with⟨J,e,b,L,H,l,f,rfl,-,K⟩|⟨t,e,Z⟩
 .rw[aG,fS]at K;have hb:BD us d sg:=λa ha v hv=>by have:=(K a ha (-v) (by lia)).2;rwa [Int.neg_neg]at this
  have U:0<us.length:=Nat.pos_of_ne_zero λz=>by obtain⟨t,-,-,q⟩:=hb 0 I.1 1 (.inl rfl);unfold Ut at q;rw[z]at q;exact absurd q (by show ¬(0:Int)<1*0;decide)
  obtain⟨ws,ew,wg⟩:=DO (c:=c) I E x U b λp U s h=>(K p U s h).1;exact⟨.tup [.str "bounded",tL ws],iI rfl (go (gM (nG (n5 d (by lia) rfl) e) (SW rfl (ig (pZ rfl (iC (wu rfl rfl rfl rfl ew))))))),.inr ⟨hb,_,rfl,wg⟩⟩
 .exact⟨t,iI rfl (go (lS (t:=t) (nG (n5 d (by lia) rfl) e) rfl)),Z⟩
end
def Fd(d:Nat)(p:LI×Int):LI:=(p.1.take d).map λx=>p.2*x
section
variable {us:LL}{d:Nat}{sg:LI}
def VX(a:rZ us.length sg){p:LI×Int}(b:p∈us.zip sg):p.1∈us/\(p.2=1\/p.2 = -1):=
 have h:=aW (show (p.1,p.2)∈us.zip sg from b)
 ⟨h.1,a.pm _ h.2⟩
def Nh(f:rZ us.length sg){j:Nat}(b:j<us.length){k:Nat}(a:k<d):vc (((us.zip sg).map (Fd d)).getD j []) k=vc sg j*vc (us.getD j []) k:=by
 have h:=f.len;have g:j<(us.zip sg).length:=by rw[dZ];lia
 have e:((us.zip sg).map (Fd d)).getD j []=((us.getD j []).take d).map λx=>vc sg j*x:=by rw[af,av,ag g,List.getElem_zip,jS sg j (by lia),af,ag b];rfl
 rw[e,vE];generalize us.getD j []=u;congr 1;unfold vc;rw[af,af,List.getElem?_take,aQ a]
def L8(e:rZ us.length sg){j:Nat}(b:j<us.length)(v:Vc):jB d (vc (((us.zip sg).map (Fd d)).getD j [])) v=vc sg j*jB d (vc (us.getD j [])) v:=by unfold jB;rw[<-lL];exact iZ _ _ _ λk a=>by rw[Nh e b a,cU]
def Hn(k:d<=3)(b:yc d 90 us)(a:rZ us.length sg):mR c [.lst (us.map tI),tI sg,.int (d:Int)]=.ok (((us.zip sg).map (Fd d)).map tL):=by
 have sz:1000<sizeLine:=by decide
 have j:=b.few;have i:=a.len;refine mx rfl (mP (jC (us.zip sg) (λp=>.tup [tI p.1,.int p.2]) (λp=>tL (Fd d p)) (nC (f:=tI) (g:=T.int) rfl rfl rfl rfl) (by rw[dZ];lia) (λp h=>⟨_,rfl,rfl,iC (jC (p.1.take d) T.int (λx=>T.int (p.2*x)) (HP (r:=p.1.take d) ?_) (by rw[bR];lia) (λx _=>⟨_,rfl,rfl,gL rfl rfl (iE (qX (cg (NS (VX a h).2) (by decide))))⟩) (by unfold Fd;rw[aI];rfl))⟩) (by rw[aI];rfl)));have e:=qL (fe:=gG 0) (fd:=gG 2) (ts:=p.1.map T.int) (d:=d) (ρ:=[some (tI p.1),some (.int p.2),some (.int (d:Int))]) rfl rfl (by rw[aw,(b.gc _ (VX a h).1).gl.1];lia);rw[<-dg]at e;exact e
def FZ(f:yc d 90 us)(e:rZ us.length sg):∀r∈(us.zip sg).map (Fd d),r.length=d/\∀x∈r,Bn 90 x:=λr hr=>by obtain⟨p,b,rfl⟩:=aD.mp hr;have a:=(f.gc _ (VX e b).1).gl;refine⟨by unfold Fd;rw[aw,bR,a.1];lia,λx h=>?_⟩;obtain⟨y,g,rfl⟩:=aD.mp h;exact HV (NS (VX e b).2) (a.2 y (eg g))
def Oi(iB:LL)(g:iB.length<=10):l4 c [.lst (iB.map tL),.int (d:Int)]=l4 c [.lst (iB.map tI),.int (d:Int)]:=by
 have sz:1000<sizeLine:=by decide
 have go:∀(a:LI->T) (_:∀r,mw [a r]=.ok (r.map T.int)),setO 0 (jr (jw (j5 [none] db bv (λ_=>.ok true) (s9 c)))) (i9 7 [.lst (iB.map a),.int (d:Int)])=.nx [some (.p (.lst (iB.map tL))),some (.p (.int (d:Int))),none,none,none,none,none]:=λa e=>gU (iC (jC iB a tL rfl (by lia) (λr _=>⟨_,rfl,rfl,iC (ts:=r.map T.int) (by show Ba mw bf [some (a r)]=_;simp only[Ba,gF,gJ,gG,M.bind_ok];exact e r)⟩) rfl)) rfl
 have f:=go tL λr=>rfl;have b:=go tI λr=>rfl;unfold l4 lG yR;simp only[ay,cF,if_true];unfold gW;rw[f,b]
def IG(h:BD us d sg)(f:rZ us.length sg){a:List (Nat×LI)}(hr:Rk d ((us.zip sg).map (Fd d)) a):a.length=d:=by
 have s:=f.len;refine Nat.le_antisymm ?_ (cf λo=>?_)
 .have nd:(a.map Prod.fst).Nodup:=List.pairwise_map.mpr (hr.pw.imp λq=>aM q.1);have:=yu nd (m:=List.range d) λx k=>by obtain⟨p,e,rfl⟩:=aD.mp k;exact aS.mpr (hr.lt p e).1
  simpa using this
 .obtain⟨v,⟨i,g⟩,b,n⟩:=vT d (a.map λp=>vc p.2) (List.range d) eN (λt l=>aS.mp l) (by simp;lia);have z:=hr.fro v λp e=>n _ (aD.mpr ⟨p,e,rfl⟩);have id:i<d:=Nat.lt_of_not_le λq=>g (b i λz=>by have:=aS.mp z;lia);refine g (Qp h (λj r=>?_) i id);have:=z _ (rG (us:=(us.zip sg).map (Fd d)) (i:=j) (by rw[aw,dZ];lia));rw[L8 f r]at this;rw[this];exact eD _
def DT(s:1<=d/\d<=3)(n:yc d 90 us)(b:rZ us.length sg)(D:BD us d sg){a:LI}(hw:WD us d sg a):mE c [.lst (us.map tI),tI sg,.int (d:Int),tL a]=.ok (.bl true):=by
 have sz:1000<sizeLine:=by decide
 have N:=n.few;have Q:=b.len;have K:=hw.len;have H:((us.zip sg).map (Fd d)).length=us.length:=by rw[aw,dZ];lia
 let L (C A:Option W):En:=[some (.p (.lst (us.map tI))),some (.p (tI sg)),some (.p (.int (d:Int))),some (.p (tL a)),C,A];have E:j5 [none] (iU be) bv (iR (gR Dq ah ab)) (sY c) (vw (L none none))=.ok []:=og a T.int T.int (λw=>decide (w<1)) rfl (by lia) (λw _=>⟨_,rfl,gX (gL rfl rfl (oy _ _)),λ_=>rfl⟩) (by rw[gh.mpr λw h=>by have:=(hw.bn w h).2;simp;lia];rfl)
 obtain⟨P,u,B⟩:=CY (c:=c) d 90 s.2 (by decide) ((us.zip sg).map (Fd d)) (by lia) (FZ n b);rw[<-Oi _ (by lia),IG D b B]at u;let l:Option W:=some (.p (.lst (((us.zip sg).map (Fd d)).map tL)));obtain⟨o,e,x,rfl⟩:=qH (m:=j6 5) (g:=sZ c) (λ(k:Nat)=>T.int (k:Int)) (λo=>∃x,o=L l x) (List.range d) (L l none) ⟨_,rfl⟩ (by
  rintro k J o ⟨x,rfl⟩;have i:=aS.mp J;have q:j5 [none,none,some 5] (nq (gF be c4)) ap (λ_=>.ok true) (sh c) (vw (L l (some (.p (.int (k:Int))))))=.ok (((a.zip ((us.zip sg).map (Fd d))).map λp=>p.1*vc p.2 k).map T.int):=jC (a.zip ((us.zip sg).map (Fd d))) (λp=>.tup [.int p.1,tL p.2]) (λp=>T.int (p.1*vc p.2 k)) (nC (f:=T.int) (g:=tL) rfl rfl rfl rfl) (by rw[dZ];lia) (λp F=>by have v:=aW (show (p.1,p.2)∈_ from F);have r:=FZ n b p.2 v.2;exact⟨_,rfl,rfl,gL rfl (gL (x:=tL p.2) rfl rfl (HJ p.2 T.int k 0 (by lia))) (iE ((hw.bn _ v.1).1.ok (r.2 _ (getD_mem _ _ (by lia))) (by decide) (by decide)))⟩) (by rw[aI];rfl)
  have y:((a.zip ((us.zip sg).map (Fd d))).map λp=>p.1*vc p.2 k).sum=0:=by show NU _ a k=0;rw[GH k a _ (by lia),H,<-hw.z k i];exact iZ _ _ _ λj I=>by rw[Nh b I i]
  exact⟨_,_,rfl,.inl (iS (gX (gL (oC q (by rw[zY,y])) rfl rfl)) rfl),_,rfl⟩)
 exact iI rfl (gM (ρ':=L none none) (iS (gX (gL (iC E) (iC (ts:=[]) rfl) rfl)) rfl) (gM (ρ':=L l none) (gU (iC (wM rfl rfl rfl (Hn s.2 n b))) rfl) (gM (nG (n5 d (by lia) rfl) e) (ig (gL (iY rfl rfl u) rfl (by rw[jK];simp))))))
def OH(A:1<=d/\d<=3)(k:yc d 90 us)(b:rZ us.length sg){w:LI}(hw:Wg us d sg w):q8 c [.lst (us.map tI),tI sg,.int (d:Int),tI w]=.ok (.bl true):=by
 have sz:1000<sizeLine:=by decide
 have E:=k.few;have F:=b.len;have u:=hw.len;let R (v:Option W):En:=[some (.p (.lst (us.map tI))),some (.p (tI sg)),some (.p (.int (d:Int))),some (.p (tI w)),v];obtain⟨i,e,x,rfl⟩:=qH (m:=j6 4) (g:=Ao c) tL (λi=>∃x,i=R x) ((us.zip sg).map (Fd d)) (R none) ⟨_,rfl⟩ (by
  rintro r hr i ⟨x,rfl⟩;have l:=FZ k b r hr;have s:j5 [none,none] (nq (gF bu df)) ap (λ_=>.ok true) (zO c) (vw (R (some (.p (tL r)))))=.ok (((r.zip w).map λp=>p.1*p.2).map T.int):=jC (r.zip w) (λp=>.tup [.int p.1,.int p.2]) (λp=>T.int (p.1*p.2)) (nC (f:=T.int) (g:=T.int) rfl rfl rfl rfl) (by rw[dZ];lia) (λp B=>by have o:=aW (show (p.1,p.2)∈_ from B);exact⟨_,rfl,rfl,gL rfl rfl (iE ((l.2 _ o.1).ok (hw.bn _ o.2) (by decide) (by decide)))⟩) (by rw[aI];rfl)
  have z:((r.zip w).map λp=>p.1*p.2).sum=jB d (vc r) (vc w):=by rw[K1 w r (by lia),u];rfl
  obtain⟨j,C,rfl⟩:=gD.mp hr;rw[aw,dZ]at C;have q:=hw.in_ j (by lia);rw[<-L8 b (by lia),af,ag (by rw[aw,dZ];lia),gx]at q;exact⟨_,_,rfl,.inl (iS (gX (gL (oC s (by rw[zY,z])) rfl (by rw[oy,aB (eX.mpr q)]))) rfl),_,rfl⟩)
 have n:j5 [none] (iU be) bv fm (yJ c) (vw (R x))=.ok ((w.filter λx=>x != 0).map T.int):=og w T.int T.int (λx=>x != 0) rfl (by lia) (λy _=>⟨_,rfl,gX (gL rfl rfl (nO _ _)),λ_=>rfl⟩) rfl
 refine iI rfl (gM (jT (lY (iC (wM rfl rfl rfl (Hn A.2 k b)))) e) (ig (gL (iC n) (iC (ts:=[]) rfl) ?_)));rw[ye true _ (wz _) (aN (pI _) (by decide)),aQ rfl,List.isEmpty_map];obtain⟨a,D,h⟩:=hw.ne;rw[List.isEmpty_eq_false_iff.mpr (List.ne_nil_of_mem (aU.mpr ⟨show vc w a∈w by rw[jS w a (by lia)];exact aV _,by simpa using h⟩))];rfl
end
section
variable {us:LL}{d:Nat}{sg:LI}
def Rw{f:Pe->M T}{o:List T->M a0}{ρ:Pe}{r:M a0}(h:f ρ=.ok t)(hr:o [t]=r):Ba o (gF f gJ) ρ=r:=by simp only[Ba,gF,gJ,h,M.bind_ok];exact hr
def FJ:(PyData.str "bounded").canLay0=true:=by rw[PyData.canLay0];decide +kernel
def Ni:(PyData.str "far").canLay0=true:=by rw[PyData.canLay0];decide +kernel
def Uk x:iA false (.tup [.str "far",tI x]) (.tup [.str "far",tI x])=.ok (.bl true):=by
 have:=K4 x;have a:Fh (.tup [.str "far",tI x])<=100:=by simp;lia
 have b:Ey (tI x) (tI x)=true:=(L1 x x).mpr rfl;simp only[iA,qG,uf,Ni,LP,aC a,pk,rh,HU,b];rfl
def S8 x:iA false (.tup [.str "bounded",tL x]) (.tup [.str "bounded",tL x])=.ok (.bl true):=by
 have e:qG (tL x)=true:=wz x;have f:ug (x.map T.int)<=0:=pI x;have a:Fh (.tup [.str "bounded",tL x])<=100:=by simp[tL];lia
 have b:Ey (tL x) (tL x)=true:=by unfold tL;rw[yt,tT];simp
 simp only[iA,qG,uf,FJ,e,aC a,pk,rh,HU,b];rfl
def Am(i:1<=d/\d<=3)(f:yc d 90 us)(h:rZ us.length sg)(k:∃X,OD us d sg X):kx c [lN c d us,.lst (us.map tI),.int (d:Int),tI sg]=.ok (.bl (AX (BD us d sg))):=by
 have sz:1000<sizeLine:=by decide
 have l:=f.few;obtain⟨t,e,q⟩:=Ef (c:=c) i f h k;have j:B4 [lN c d us,tI sg]=true:=by simp[lN,B4,lf,Ti]
 rcases q with⟨nb,x,rfl,a⟩|⟨nb,x,rfl,g⟩
 .rw[GP nb];exact iI rfl (PH (xs:=[lN c d us,tI sg]) rfl ⟨j,by decide,gE rfl,gE rfl⟩ e rfl (tJ (gX (gL (x:=.str "far") (gL rfl rfl rfl) rfl (by rw[Uy _ _ Ni FJ];congr 2)))) (lS (t:=.bl false) (jf (kQ (gX (gL (x:=.str "far") (gL rfl rfl rfl) rfl (by rw[Uy _ _ Ni Ni];congr 2))) (kQ (fc:=iR (ua "tuple" _)) (b:=true) rfl (gX (iY (x:=tL x) (iC (Rw (gL (x:=.tup [.str "far",tI x]) rfl rfl rfl) rfl)) rfl (zX d x a.len (by lia)))))) (jf (kQ (gX (zf rfl rfl rfl (gL (x:=.tup [.str "far",tI x]) rfl rfl rfl) (OH i f h a))) (gX (gL (iY rfl rfl e) rfl (Uk x)))) (ig rfl))) rfl))
 .rw[Cv nb];exact iI rfl (Pq (xs:=[lN c d us,tI sg]) x rfl ⟨j,by decide,gE rfl,gE rfl⟩ e rfl (kQ (gX (gL (x:=.str "bounded") (gL rfl rfl rfl) rfl (by rw[Uy _ _ FJ FJ];congr 2))) (gX (iY (x:=tL x) (gL (x:=.tup [.str "bounded",tL x]) rfl rfl rfl) (n8 (t:=.lst (us.map tI)) rfl (by simp)) (zX us.length x g.len (by lia))))) (aC (by rw[aw,g.len];lia)) (Rw (gL (x:=.tup [.str "bounded",tL x]) rfl rfl rfl) rfl) (xu x) (kQ (gX (zf rfl rfl rfl rfl (DT i f h nb g))) (gX (gL (iY rfl rfl e) (pZ rfl rfl) (S8 x)))))
def QW(d:Nat)(us:LL):LL:=(Qq d us).filter λs=>AX (BD us d s)
def Lz(b:1<=d/\d<=3)(a:yc d 90 us):ko c [lN c d us]=.ok ((QW d us).map tI):=by
 have sz:1000<sizeLine:=by decide
 have h:=a.few;refine mx rfl (mP (og (Qq d us) tI tI (λs=>AX (BD us d s)) (lY (iC (xh rfl (yQ b a.gc (by lia))))) (by have:=CK (d:=d) (show us.length<=8 by lia);lia) (λs f=>?_) rfl));obtain⟨hr,g⟩:=Hq.mp f;obtain⟨t,e,q⟩:=Ef (c:=c) b a (Fe hr) g;rcases q with⟨nb,x,rfl,-⟩|⟨nb,x,rfl,-⟩
 .exact⟨_,rfl,gX (gL (x:=.str "far") (gL (iY rfl rfl e) rfl rfl) rfl (by rw[Uy _ _ Ni FJ,GP nb];congr 2)),λ_=>rfl⟩
 .exact⟨_,rfl,gX (gL (x:=.str "bounded") (gL (iY rfl rfl e) rfl rfl) rfl (by rw[Uy _ _ FJ FJ,Cv nb];congr 2)),λ_=>rfl⟩
def Jv(h:1<=d/\d<=3)(u:yc d 84 us):mL c [.int (d:Int),.lst (us.map tI)]=.ok (.bl true):=by
 have sz:1000<sizeLine:=by decide
 have E:=u.few;have n:yc d 90 us:=u.mono (by decide);have v:=CK (d:=d) (show us.length<=8 by lia);let R (S:LL) (f a A:Option W):En:=[some (.p (.int (d:Int))),some (.p (.lst (us.map tI))),some (.p (lN c d us)),some (.o (S.map tI)),f,a,A];obtain⟨r,e,f,a,rfl⟩:=jE (m:=j6 4) (g:=tG c) tI (λk r=>∃f a,r=R (((Qq d us).take k).filter λs=>AX (BD us d s)) f a none) (Qq d us) 0 (R [] none none none) ⟨none,none,rfl⟩ (by
  rintro i s r w ⟨f,a,rfl⟩;rw[aG,jP _ i s w,fE];obtain⟨hr,B⟩:=Hq.mp (au w);have q:=Am (c:=c) h n (Fe hr) B;generalize z:((Qq d us).take i).filter (λs=>AX (BD us d s))=S;have D:S.length<=256:=by rw[<-z];exact aN (fC _ _) (aN (by rw[bR];exact Nat.min_le_right _ _) v)
  cases j:AX (BD us d s) with
  |false=>rw[j]at q;exact⟨_,_,rfl,.inl (gM (ρ':=R S (some (.p (tI s))) (some (.p (.bl false))) none) (gU (zf rfl rfl rfl rfl q) rfl) (gM (iS (gX (gL rfl rfl rfl)) rfl) (iS (gX rfl) rfl))),_,_,by rw[gA (by simp[j]),List.filter_nil,bM]⟩
  |true=>rw[j]at q;refine⟨_,_,rfl,.inl (gM (ρ':=R S (some (.p (tI s))) (some (.p (.bl true))) none) (gU (zf rfl rfl rfl rfl q) rfl) (gM (iS (gX (gL rfl rfl rfl)) rfl) (jf (gX rfl) (wO (us:=S.map tI) (t:=tI s) rfl rfl (by rw[aw];lia) rfl)))),some (.p (tI s)),some (.p (.bl true)),?_⟩;have C:[s].filter (λs=>AX (BD us d s))=[s]:=gz j;simp only[C,R,aZ];rfl)
 rw[aG,dP]at e;let F (l:List T):Option W:=some (.o l);have H:(QW d us).length<=256:=aN (fC _ _) v;let Q (l:List T):En:=[some (.p (.int (d:Int))),some (.p (.lst (us.map tI))),some (.p (lN c d us)),some (.o ((QW d us).map tI)),f,a,some (.o l)];exact iI rfl (gM (ρ':=[some (.p (.int (d:Int))),some (.p (.lst (us.map tI))),some (.p (lN c d us)),none,none,none,none]) (gU (iY rfl rfl (Iu d 84 us h (by decide) u)) rfl) (gM (ρ':=R [] none none none) (ou (ts:=[]) rfl rfl) (gM (jT (lY (iC (xh rfl (yQ h n.gc (by lia))))) e) (gM (ρ':=Q ((QW d us).map tI)) (ou (xh rfl (Lz h n)) rfl) (gM (iS (DJ (wj (b:=true) rfl rfl) (gX (gL (x:=.lst ((QW d us).map tI)) (y:=.lst ((QW d us).map tI)) rfl rfl (Ib true _)))) rfl) (gM (ρ':=Q ((QW d us).map tI++[.tup []])) (wO (us:=(QW d us).map tI) (t:=.tup []) rfl rfl (by rw[aw];lia) rfl) (ig (gL (iC (xh rfl (Lz h n))) rfl (Ib false _)))))))))
end
def Vs{a b e g x y z w:Int}(d:x≠y)(f:x≠z)(i:y≠z)(l:x≠w)(m:y≠w)(n:z≠w)(h:∀t,t=x\/t=y\/t=z\/t=w->a+b*t+e*(t*t)+g*(t*t*t)=0):b=0/\e=0/\g=0:=by
 have r:∀t,t=x\/t=y\/t=z->t≠w->(b+e*w+g*(w*w))+(e+g*w)*t+g*(t*t)=0:=λt p o=>by have q:=h t (by grind);have s:=h w (by simp);exact Co (show t-w≠0 by lia) (by grind)
 obtain⟨k,j,rfl⟩:=FA d f i (r x (by simp) l) (r y (by simp) m) (r z (by simp) n);simp only[dU,dX]at k j;subst j;exact⟨by lia,rfl,rfl⟩
theorem Ng(m:Nat)(q:LI->Nat->Bool):∀(cs:LL) (l:List Nat),l.Nodup->(∀f∈cs,∀r:List Nat,r.Nodup->(∀x∈r,q f x=true)->r.length<=m)->m*cs.length<l.length->∃k∈l,∀f∈cs,q f k=false
 |[],l,_,_,h=>by
  cases l with
  |nil=>simp at h
  |cons k r=>exact⟨k,bx ..,λf j=>nomatch j⟩
 |f::cs,l,hl,hq,h=>by
  have p:=hq f (bx ..) (l.filter (q f)) (hl.filter _) λx n=>(aU.mp n).2;have e:=List.length_eq_countP_add_countP (q f) (l:=l);rw[eM,eM]at e;obtain⟨k,o,i⟩:=Ng m q cs (l.filter λx=>!q f x) (hl.filter _) (λg b=>hq g (bz _ b)) (by
   have s:(l.filter λx=>!q f x).length=(l.filter λa=>decide ¬(q f a=true)).length:=by congr 2;funext a;cases q f a<;>rfl
   rw[ay,Nat.mul_succ]at h;lia)
  have d:=aU.mp o;refine⟨k,d.1,λg b=>?_⟩;rcases aF.mp b with rfl|b
  .simpa using d.2
  .exact i g b
def NN(t:Int):LI:=[t,t*t,t*t*t]
def Rm(d:Nat)(t:Int)(f:LI):Int:=jB d (vc f) (vc (NN t))-1000*vc f d
section
variable {us:LL}{d:Nat}
def Oq(s:1<=d/\d<=3)(n:yc d 84 us)(t:Int){f:LI}(l:f∈us)(r:List Nat)(hr:r.Nodup)(h:∀x∈r,Rm d (t+x) f=0):r.length<=3:=by
 match r with
 |[]=>exact bL _
 |[_]=>simp
 |[_,_]=>simp
 |[_,_,_]=>simp
 |x::y::z::w::r=>
  exfalso;simp only[bO,aF,not_or]at hr;obtain⟨p,v,i⟩:=(n.gc f l).re;have e:∀t,Rm d t f = -1000*vc f d+vc f 0*t+(if 2<=d then vc f 1 else 0)*(t*t)+(if 3<=d then vc f 2 else 0)*(t*t*t):=λt=>by
   have o:d=1\/d=2\/d=3:=by lia
   unfold Rm jB;rcases o with rfl|rfl|rfl<;>simp[sm,NN,vc]<;>grind
  obtain⟨m,k,j⟩:=Vs (x:=t+x) (y:=t+y) (z:=t+z) (w:=t+w) (a:=-1000*vc f d) (b:=vc f 0) (e:=if 2<=d then vc f 1 else 0) (g:=if 3<=d then vc f 2 else 0) (by lia) (by lia) (by lia) (by lia) (by lia) (by lia) (by intro u q;rw[<-e];rcases q with rfl|rfl|rfl|rfl<;>exact h _ (by simp))
  have:p=0\/p=1\/p=2:=by lia
  rcases this with rfl|rfl|rfl
  .exact i m
  .rw[aQ (by lia)]at k;exact i k
  .rw[aQ (by lia)]at j;exact i j
def Si t b (j:0<b) (i:Bn 8000 b):∃p,l8 c [.int t,.int b]=.ok (fr p)/\Fq p/\p.1.natAbs<=t.natAbs/\p.2.natAbs<=b.natAbs/\p.1*b=t*p.2:=by
 have a:b≠0:=by lia
 have k:=Cu.Ez t b a;have h:=Cu.Pn t b a;have g:Cu.G t b≠0:=by lia
 have e:∀x:Int,Builtin.divisionGoesByPylong x (Cu.G t b)=false:=λx=>by refine Bn.noPy (n:=8000) ?_ (by decide);unfold Bn at *;refine cg ?_ i;lia
 have f:=Cu.EG t b a;rw[aR (by lia)]at f;exact⟨(t.fdiv (Cu.G t b),b.fdiv (Cu.G t b)),iI rfl (gM (gU (iY rfl rfl (AL t b)) rfl) (ig (pZ (gL rfl rfl (lC g (e t))) (gL rfl rfl (lC g (e b)))))),⟨f.pos,f.one⟩,rD (Cu.mY t b) g,rD (Cu.l7 t b) g,f.is⟩
def QE(x:Rat):(Fi x=0->x=0)/\(Fi x≠0->0<(Fi x:Rat)*x):=by
 unfold Fi;by_cases h:0<x
 .rw[aQ h];exact⟨λz=>absurd z (by decide),λ_=>by simpa using h⟩
 .rw[aR h];by_cases a:x<0
  .rw[aQ a];exact⟨λz=>absurd z (by decide),λ_=>by rw[show ((-1:Int):Rat) = -1 from rfl];grind⟩
  .rw[aR a];exact⟨λ_=>by grind,λz=>absurd rfl z⟩
def DW ns:∃(d:Nat) (us:LL) (sg:LI),lZ c [.scr ns]=.ok (.tup [.int (d:Int),.lst (us.map tI),tI sg])/\(1<=d/\d<=3)/\yc d 84 us/\rZ us.length sg/\∃X,OD us d sg X:=by
 have sz:1000<sizeLine:=by decide
 obtain⟨m,F,-⟩:=uE (c:=c) ns 16;obtain⟨ed,d0,d1⟩:=lQ (c:=c) m 0 3 (by decide) (by decide) (by decide) (by decide);obtain⟨et,t0,t1⟩:=lQ (c:=c) m 1 (10 ^ 4) (by decide) (by decide) (by decide) (by decide);obtain⟨d,hd⟩:∃d:Nat,1+dr c m 0 3=(d:Int):=⟨(1+dr c m 0 3).toNat,by lia⟩;have J:1<=d/\d<=3:=by lia
 obtain⟨us,eu,N,h7⟩:=xD (c:=c) ns 17 d 7 J (by decide);generalize ht:1+dr c m 1 (10 ^ 4)=t at *;refine⟨d,us,?_⟩;obtain⟨k0,R,hq⟩:=Ng 3 (λf k=>Rm d (t+k) f==0) us ((List.range 22).map (· + 1)) (by decide) (λf A r hr h=>Oq J N t A r hr λx I=>by simpa using h x I) (by simp;lia);obtain⟨D,Q,rfl⟩:=aD.mp R;have hk1':=aS.mp Q;let S (j:Int) (sg:LI) (o:Option W):En:=[some (.p (.scr ns)),some (.p (.int (d:Int))),some (.p (.lst (us.map tI))),some (.p (.int j)),some (.p (tI sg)),o];obtain⟨b,e,j,sg,o,rfl,gd⟩:=oo (c:=iR (gR (AM false) ac bu)) (g:=rP c)
  (λb=>∃(i:Nat) (sg:LI) (o:Option W),b=S (t+i) sg o/\i<=D+1/\(i=D+1->0∉sg)/\(0∉sg->rZ us.length sg/\∃X,OD us d sg X)) (λb=>match b with|_::_::_::some (.p (.int j))::_=>(t+(D+1:Nat)-j).toNat|_=>0)
  (λb=>∃j sg o,b=S j sg o/\rZ us.length sg/\∃X,OD us d sg X) (by
   rintro b ⟨i,sg,o,rfl,hi,h1,h2⟩;have H:iR (gR (AM false) ac bu) (vw (S (t+i) sg o))=.ok (sg.any λx=>0==x):=gX (gL rfl rfl (Ry 0 sg));by_cases K:0∈sg
   .have lt:i≠D+1:=λz=>h1 z K;have C:Bn 20 (t+((i+1:Nat):Int)):=show _<1048576 by lia
    generalize U:t+((i+1:Nat):Int)=y at C;have Y:=C.mul C;have b3:=Y.mul C;obtain⟨E,B⟩:=t8 (P:=λ(k:Nat) (p:Int×Int)=>l8 c [.int (vc (NN y) k),.int 1000]=.ok (fr p)/\Fq p/\p.1.natAbs<=(vc (NN y) k).natAbs/\p.2.natAbs<=(1000:Int).natAbs/\p.1*1000=vc (NN y) k*p.2) (List.range d) λk _=>Si _ 1000 (by decide) (show _<_ by decide +kernel);let a:=(List.range d).map E;have l3:∀{b:Pe},b[1]? = some (some (.int y))->jw (lstM (gF al (gF (gR jF al al) (gF (gR jF (gR jF al al) al) gJ)))) b=.ok (.lst ((NN y).map .int)):=λ{b} h=>by
     have v:gG 1 b=.ok (.int y):=by simp[gG,h]
     have v2:gR jF al al b=.ok (.int (y*y)):=gL v v (iE (C.ok C (by decide) (by decide)));have v3:gR jF (gR jF al al) al b=.ok (.int (y*y*y)):=gL v2 v (iE (Y.ok C (by decide) (by decide)));have hz:3<=sizeLine:=by lia
     simp only[jw,lstM,gF,gJ,v,v2,v3,M.bind_ok,Cg,ay,cF,hz,if_true];rfl
    have e1:j5 [none,some 3] (mM bc) bv (λ_=>.ok true) (rT c) (mD (S y sg o))=.ok (a.map fr):=jC (List.range d) (λ(k:Nat)=>T.int (k:Int)) (λk=>fr (E k)) (n5 d (by lia) rfl) (by simp;lia) (λk s=>⟨_,rfl,rfl,iY (gL (l3 rfl) rfl (HJ (NN y) T.int k 0 (by have:=aS.mp s;show k<3;lia))) rfl (B k s).1⟩) (by simp[a])
    have w:nY a<=200000:=aN (Te (n:=60) λp Z=>by
     obtain⟨k,s,rfl⟩:=aD.mp Z;obtain⟨-,-,q1,q2,-⟩:=B k s;have k3:k=0\/k=1\/k=2:=by have:=aS.mp s;lia
     have bb:Bn 60 (vc (NN y) k):=by
      rcases k3 with rfl|rfl|rfl
      .exact C.mono (by decide)
      .exact Y.mono (by decide)
      .exact b3
     exact Nat.max_le.mpr ⟨HA (cg q1 bb) (by decide),HA (cg q2 (by decide)) (by decide)⟩) (by simp[a];lia)
    let l:=us.map λf=>Fi (kg d (Xs a) (vc f));have e2:j5 [none,some 5] (iU bd) bv (λ_=>.ok true) (rV c) (mD (S y sg (some (.p (tS a)))))=.ok (l.map T.int):=jC us tI (λf=>T.int (Fi (kg d (Xs a) (vc f)))) (lY rfl) (by lia) (λf A=>⟨_,rfl,rfl,iY rfl rfl (KO (by decide) d f (N.gc f A).gl J.2 a (by simp[a]) (λp Z=>by obtain⟨k,s,rfl⟩:=aD.mp Z;exact (B k s).2.1) w)⟩) (by simp[l])
    have val:∀f,(1000:Rat)*kg d (Xs a) (vc f)=(Rm d y f:Rat):=λf=>by
     have:=Hc (d:=d) (g:=1) (S:=1000) (X:=Xs a) (x:=vc f) (u:=vc (NN y)) λk s=>by
      obtain⟨-,fq,-,-,q⟩:=B k (aS.mpr s);have p0:=nN fq.pos;have q':((E k).1:Rat)*1000=(vc (NN y) k:Rat)*((E k).2:Rat):=by exact_mod_cast q
      unfold Xs qv;rw[af,av,List.getElem?_range s];show ((1000:Int):Rat)*(((E k).1:Rat) / ((E k).2:Rat))=((1:Int):Rat)*_;grind
     unfold Rm;rw[eS,eQ];grind
    refine .inr ⟨H.trans (by rw[d8.mpr ⟨0,K,by decide⟩]),S y l (some (.p (tS a))),.inl (gM (ρ':=S y sg o) (gU (gL rfl rfl (by rw[jH,<-U];congr 2;lia)) rfl) (gM (ρ':=S y sg (some (.p (tS a)))) (gU (oC e1 rfl) rfl) (gU (oC e2 rfl) rfl))),⟨i+1,l,_,by rw[U],by lia,λz L=>?_,λL=>⟨⟨by simp[l],λx I=>?_⟩,Xs a,λi v hv=>?_⟩⟩,?_⟩
    .obtain⟨f,A,q⟩:=aD.mp L;have:=hq f A;rw[<-z,U]at this;have v:=val f;unfold Fi at q;have z0:kg d (Xs a) (vc f)=0:=by grind
     rw[z0]at v;have:Rm d y f=0:=by exact_mod_cast (show ((Rm d y f:Int):Rat)=((0:Int):Rat) by grind)
     simp_all
    .obtain⟨f,A,rfl⟩:=aD.mp I;have:Fi (kg d (Xs a) (vc f))≠0:=λz=>L (aD.mpr ⟨f,A,z⟩);unfold Fi at this ⊢;grind
    .obtain⟨f,A,rfl⟩:∃f,us[i]? = some f/\Fi (kg d (Xs a) (vc f))=v:=by simpa[l] using hv
     rw[af,A];exact QE _
    .show (t+(D+1:Nat)-y).toNat<(t+(D+1:Nat)-(t+(i:Int))).toNat;lia
   .exact .inl ⟨H.trans (by rw[bH.mpr λx I=>by simpa using λz:0=x=>K (z▸I)]),_,sg,o,rfl,h2 K⟩)
  400 (S t [0] none) ⟨0,[0],none,by simp[S],bL _,λz=>by lia,λz=>absurd (by simp) z⟩ (by show (t+(D+1:Nat)-t).toNat<400;lia)
 exact⟨sg,iI rfl (gM (ρ':=[some (.p (.scr ns)),some (.p (.int (d:Int))),none,none,none,none]) (gU (gL rfl (kW (iY rfl rfl F) rfl rfl ed) (by rw[jH,hd])) rfl) (gM (ρ':=[some (.p (.scr ns)),some (.p (.int (d:Int))),some (.p (.lst (us.map tI))),none,none,none]) (gU (iC (wu rfl rfl rfl rfl eu)) rfl) (gM (ρ':=[some (.p (.scr ns)),some (.p (.int (d:Int))),some (.p (.lst (us.map tI))),some (.p (.int t)),none,none]) (gU (gL rfl (kW (iY rfl rfl F) rfl rfl et) (by rw[jH,ht])) rfl) (gM (ρ':=S t [0] none) (gU (GA rfl) rfl) (gM e (ig (Wf rfl rfl rfl))))))),J,N,gd⟩
end
def Jq ns:vU c [.scr ns]=.ok (.bl true):=by
 let R (b h f:Option W):En:=[some (.p (.scr ns)),b,h,f,none];obtain⟨n,e,b,h,f,rfl⟩:=qH (m:=j6 1) (g:=BA c) (λ(k:Nat)=>T.int (k:Int)) (λn=>∃b h f,n=R b h f) [0,8,0] (R none none none) ⟨_,_,_,rfl⟩ (by rintro a _ n ⟨b,h,f,rfl⟩;obtain⟨d,l,s,j,i,-⟩:=Mj (c:=c) ns a 6 (by decide);exact⟨_,_,rfl,.inl (gM (ρ':=R (some (.p (.int (a:Int)))) (some (.p (.int (d:Int)))) (some (.p (.lst (l.map tI))))) (KI (kW rfl rfl rfl s) rfl) (iS (wj (gX (iY rfl rfl (Jv j i))) rfl) rfl)),_,_,_,rfl⟩)
 obtain⟨d,l,r,eo,j,i,o,q⟩:=DW (c:=c) ns;exact iI rfl (gM (jT (lY (iC rfl)) e) (gM (ρ':=[some (.p (.scr ns)),b,some (.p (.int (d:Int))),some (.p (.lst (l.map tI))),some (.p (tI r))]) (KI (pX rfl eo) rfl) (ig (gL (zf (iY rfl rfl (Iu d 84 l j (by decide) i)) rfl rfl rfl (Am j (i.mono (by decide)) o q)) rfl rfl))))
end CL
namespace K31
open PySem L2 L3 CL
def iP(i:Nat):Stmt:=PySem.Challenge.pw_cutlands_k31_bounded_or_far.main.body.getD i (.Pass ⟨0,0,0,0⟩)
structure Er(c:Cs)(K:W.Frag)(mg:Str->Option Value):Prop where
 here:True
 cl_Cutting:Bm K c.Cutting
 na_Cutting_own_cuts:nR K c.Cutting "own_cuts"
 na_Cutting_own_dims:nR K c.Cutting "own_dims"
 mk_Cutting:W.makesIn K c.Cutting=true
 kp_Cutting:W.keepIn K (.ref c.Cutting)=true
 mg_Cutting:mg "Cutting" = some (.ref c.Cutting)
 k_MOST_CUTS:∃t,mg "MOST_CUTS" = some (.int 7 t)
 k_MOST_DIMS:∃t,mg "MOST_DIMS" = some (.int 3 t)
def UQ{K:W.Frag}{h:Heap}{a:Str->Option Value}{aCutting:Addr}{tMOST_CUTS tMOST_DIMS:_}(X:K.In h)(G:h.Ns mainGlobals a)(e:W.nsIn K mainGlobals "Cutting" = some (some (.ref aCutting)))(b:W.plainGet K aCutting Str.empty=true)(i:W.hasDictIn K aCutting=true)(d:W.plainOver K aCutting=true)(f:W.findIn K (.ref aCutting) "__setattr__" = some (some (.builtin "object.__setattr__")))(own_cuts:W.findIn K (.ref aCutting) "own_cuts" = some none)(own_dims:W.findIn K (.ref aCutting) "own_dims" = some none)(g:W.makesIn K aCutting=true)(c:W.keepIn K (.ref aCutting)=true)(uMOST_CUTS:W.nsIn K mainGlobals "MOST_CUTS" = some (some (.int 7 tMOST_CUTS)))(uMOST_DIMS:W.nsIn K mainGlobals "MOST_DIMS" = some (some (.int 3 tMOST_DIMS))):Er ⟨aCutting,0,0,0,0,0,0,0,0,0,0,0,0⟩ K a:=⟨trivial,⟨b,i,d,f⟩,own_cuts,own_dims,g,c,W.mg_of X G e,⟨_,W.mg_of X G uMOST_CUTS⟩,⟨_,W.mg_of X G uMOST_DIMS⟩⟩
def Vx{K:W.Frag}{a g:Addr}{m q:Str}{st:Stmt}{o kV d j b i:Value}{n f:Option Addr}{c:Array (Option Value)}(gf:W.findIn K (.ref a) m=some (some (.ref g)))(k:W.isFn K (.ref g)=true)(l:K.lookup g=some ⟨o,n,.func (W.fnOf m q (kH st) (jx st) (gZ st) .none kV d j f b i),c⟩)(h:W.codeIn K b q=true)(e:W.keepIn K (.ref g)=true):mv K a m q st:=⟨_,_,FN l h e,gf,k,e⟩
set_option hygiene false in
local macro_rules|`('x')=>`(by repeat' first|(refine' gH ?_ ?_)|(refine' gN ?_)|(exact iw)|(refine' iK _ nd ?_)|(refine' iV ?_ ?_ ?_)|(refine' jg ?_)|(refine' zR _ nd ?_)|(refine' kK ?_)|(refine' Nl ?_)|(exact yn)|(refine' sr _ nd ?_)|(exact gO _)|(exact iH)|(refine' gP ?_ ?_)|(exact ie)|(refine' Iq ?_ ?_)|(refine' jL (by assumption) hr ?_)|(refine' qE ?_ ?_)|(refine' qm ?_)|(refine' uF hr ?_ ?_)|(refine' NJ hr ?_ ?_)|(refine' pq ?_)|(refine' qN ?_)|(refine' pT ?_ ?_)|(refine' nT ?_)|(refine' nu ?_ ?_)|(refine' mH ?_)|(refine' iy (jA (K:=K)) lg (by rfl) B.len lx ?_)|(refine' iL tf sD ?_ ?_)|(refine' iL An yB ?_ ?_)|(refine' iL DZ El ?_ ?_)|(refine' iL zP zh ?_ ?_)|(refine' iL p7 p6 ?_ ?_)|(refine' iL xj wC ?_ ?_)|(exact Lr)|(exact mm)|(exact Mn)|(refine' qu ?_)|(refine' NK ?_ ?_)|(refine' Fy ?_ ?_)|(refine' G8 ?_)|(refine' Tx ?_ ?_)|(refine' Hg ?_ ?_)|(refine' DH ?_ ?_ ?_)|(exact Nd)|(refine' MM ?_)|(refine' mQ "tuple" (by decide) B.isinstance B.tuple jJ ?_)|(refine' mQ "list" (by decide) B.isinstance B.list lu ?_)|(refine' mQ "int" (by decide) B.isinstance B.int wa ?_)|(refine' mQ "bool" (by decide) B.isinstance B.bool CS ?_)|(refine' jy (jv (K:=K)) jU (by rfl) B.tuple jJ ?_)|(refine' jy xi Cj (by rfl) B.int wa ?_)|(refine' iy oJ sN (by rfl) B.abs sv ?_)|(refine' iy (qJ (K:=K) rfl) zC (by rfl) B.all zu ?_)|(refine' jq ?_)|(refine' vX (by assumption) hr ?_)|(refine' lH (ku (K:=K)) mG (by rfl) B.list lu ?_)|(refine' wH ?_)|(refine' Nr ?_ ?_)|(refine' FY ?_ ?_)|(refine' yN ?_ ?_)|(refine' zc ?_)|(refine' Ab ?_))
section
variable {P:Program}{w:World}{K:W.Frag}{mg:Str->Option Value}{base:Heap}{c:Cs}(Z:Zx P w K mg base)(B:Bs mg)(ER:Er c K mg)
include Z B ER
theorem o0(D:gQ K mg "is_whole" (iP 10)):CP Z "is_whole" 1 (jo c):=jO Z 0 (jo c) ["thing"] ["thing"] rfl D λnd hX hr=>⟨_,(gN (jg (yN (mQ "int" (by decide) B.isinstance B.int wa (gO 0)) (zc (Ab (mQ "bool" (by decide) B.isinstance B.bool CS (gO 0)))))))⟩
theorem o1(D:gQ K mg "sign_of" (iP 12)):CP Z "sign_of" 1 (ki c):=jO Z 0 (ki c) ["number"] ["number"] rfl D λnd hX hr=>⟨_,(gH (iV (iL An yB (gO 0) iH) 'x' iw) (gH (iV (iL tf sD (gO 0) iH) 'x' iw) 'x'))⟩
theorem o2(D:gQ K mg "common_divisor" (iP 13)):CP Z "common_divisor" 1 (ji c):=jO Z 0 (ji c) ["one","other","rest"] ["one","other"] rfl D λnd hX hr=>⟨_,(gH (yC (λρ=>match ρ with|_::some (.p (.int j))::_=>j.natAbs+1|_=>0) PassesOwn.never 'x' 'x') (gN (jg (iy oJ sN (by rfl) B.abs sv 'x'))))⟩
theorem o3(D:gQ K mg "dot" (iP 14)):CP Z "dot" 1 (rX c):=jO Z 0 (rX c) ["numbers","others"] ["numbers","others"] rfl D λnd hX hr=>⟨_,(gN (jg (iy (tR (K:=K) rfl) BY (by rfl) B.sum Cq (gP (jq (jb ["one","other"] [none,none] hX (lP B.zip 'x') (λnd hX=>⟨(lW 2 rfl (iz (iN 0 nd) (iz (iN 1 nd) jX))),iF, 'x'⟩))) ie))))⟩
theorem o4(D:gQ K mg "less" (iP 23)):CP Z "less" 1 (lM c):=jO Z 0 (lM c) ["one","other"] ["one","other"] rfl D λnd hX hr=>⟨_,(gN (jg (wK tf sD 'x' 'x')))⟩
theorem o5(D:gQ K mg "floor_of" (iP 24)):CP Z "floor_of" 1 (l5 c):=jO Z 0 (l5 c) ["one"] ["one"] rfl D λnd hX hr=>⟨_, 'x'⟩
theorem o6(D:gQ K mg "ceiling_of" (iP 25)):CP Z "ceiling_of" 1 (lq c):=jO Z 0 (lq c) ["one"] ["one"] rfl D λnd hX hr=>⟨_, 'x'⟩
theorem o7(D:gQ K mg "weighted" (iP 27)):CF Z "weighted" 1 (m9 c):=oO Z 0 (m9 c) ["cuts","rows","k","cut","weights"] ["cuts"] rfl D λnd hX hr=>⟨_,(gH 'x' (gH (jz PassesOwn.never rfl (BU B.enumerate 'x') (qA 2 rfl (jh (iQ 2 nd) (jh (iQ 3 nd) mK))) (gH (sr 4 nd (FY 'x' (iy (jA (K:=K)) lg (by rfl) B.len lx 'x'))) (gH (vm 4 (pv 4) (gO 2) iH) (gN (Na 1 (pv 1) (qE (gO 3) (jy (jv (K:=K)) jU (by rfl) B.tuple jJ 'x'))))))) (gN (sG 1 (pv 1)))))⟩
theorem o8(D:gQ K mg "free_places" (iP 31)):CF Z "free_places" 1 (mF c):=oO Z 0 (mF c) ["pivots","dims","taken"] ["pivots","dims"] rfl D λnd hX hr=>⟨_,(gH (iK 2 nd (jq (jb ["place","pivot"] [none,none] hX (iq (gO 0)) (λnd hX=>⟨(lW 2 rfl (iz (iN 0 nd) (iz (iN 1 nd) jX))),iF,(gO 0)⟩)))) (gN (kK (jb ["place","taken"] [none,some 2] hX (zH.pim (lB B.range 'x')) (λnd hX=>⟨(iN 0 nd),(kb (iL (Jy (K:=K)) (KA true) (gO 0) (gO 1) (by rfl))),(gO 0)⟩)))))⟩
theorem o9(D:gQ K mg "turned" (iP 39)):CP Z "turned" 1 (nK c):=jO Z 0 (nK c) ["row","sign"] ["row","sign"] rfl D λnd hX hr=>⟨_,(gN (jg (jy (jv (K:=K)) jU (by rfl) B.tuple jJ (gP (jq (jb ["number","sign"] [none,some 1] hX (iq (gO 0)) (λnd hX=>⟨(iN 0 nd),iF, 'x'⟩))) ie))))⟩
theorem Xd(D:gQ K mg "without_place" (iP 52)):CP Z "without_place" 1 (jQ c):=jO Z 0 (jQ c) ["row","place"] ["row","place"] rfl D λnd a hr=>⟨_, 'x'⟩
theorem Xn(D:gQ K mg "other_places" (iP 62)):CF Z "other_places" 1 (ke c):=oO Z 0 (ke c) ["dims","place"] ["dims","place"] rfl D λnd a hr=>⟨_,(gN (kK (jb ["other","place"] [none,some 1] a (zH.pim (lB B.range 'x')) (λnd a=>⟨(iN 0 nd),(kb 'x'),(gO 0)⟩))))⟩
theorem XO(D:gQ K mg "stop_of" (iP 64)):CP Z "stop_of" 1 (pK c):=jO Z 0 (pK c) ["layers","place","sign","row"] ["layers","place","sign"] rfl D λnd a hr=>⟨_,(gH (jz PassesOwn.never rfl (iq 'x') (iQ 3 nd) (gN (iV (iL tf sD 'x' iH) 'x' iw))) 'x')⟩
theorem XX(D:gQ K mg "first_place" (iP 75)):CP Z "first_place" 1 (mB c):=jO Z 0 (mB c) ["cut","place"] ["cut"] rfl D λnd b hr=>⟨_,(gH (iK 1 nd iH) (gH (yC (λa=>match a with|some (.p (.tup ts))::_=>ts.length+1|_=>0) PassesOwn.never 'x' 'x') 'x'))⟩
theorem XB(D:mv K c.Cutting "dims" "Cutting.dims" (p9 (iP 80) 1)):lA P w K mg base c.Cutting "dims" 1 (uT K (je c)):=Ru Z 0 (je c) ["self"] ["self"] rfl ER.cl_Cutting D λnd a hr=>⟨_,(gN (jg (Ga rfl ER.cl_Cutting ER.na_Cutting_own_dims (gO 0))))⟩
theorem X3(D:mv K c.Cutting "cuts" "Cutting.cuts" (p9 (iP 80) 2)):lA P w K mg base c.Cutting "cuts" 1 (DB K (jG c)):=Ud Z 0 (jG c) ["self"] ["self"] rfl ER.cl_Cutting D λnd a hr=>⟨_,(gN (kK (lH (ku (K:=K)) mG (by rfl) B.list lu (gP (Ga rfl ER.cl_Cutting ER.na_Cutting_own_cuts (gO 0)) ie))))⟩
theorem Xv(D:mv K c.Cutting "many" "Cutting.many" (p9 (iP 80) 3)):lA P w K mg base c.Cutting "many" 1 (uT K (kM c)):=Ru Z 0 (kM c) ["self"] ["self"] rfl ER.cl_Cutting D λnd a hr=>⟨_,(gN (jg (iy (jA (K:=K)) lg (by rfl) B.len lx (gP (Ga rfl ER.cl_Cutting ER.na_Cutting_own_cuts (gO 0)) ie))))⟩
theorem Yh(D:gQ K mg "_law_cell_at" (iP 82)):CP Z "_law_cell_at" 1 (jk c):=jO Z 0 (jk c) ["_law_script","_law_k"] ["_law_script","_law_k"] rfl D λnd a hr=>⟨_,(gH (iV (iL tf sD (gO 1) (iy (jA (K:=K)) lg (by rfl) B.len lx 'x')) 'x' iw) 'x')⟩
theorem Xl(D:gQ K mg "_law_draw" (iP 83)):CP Z "_law_draw" 1 (iM c):=jO Z 0 (iM c) ["_law_cell","_law_k","_law_bound","_law_left","_law_j","_law_stir"] ["_law_cell","_law_k","_law_bound"] rfl D λnd a hr=>⟨_,(gH (iV (iL DZ El (gO 0) (C3 iH iH)) (gH 'x' (gH (oG PassesOwn.never rfl (lB B.range 'x') (iQ 4 nd) 'x') 'x')) iw) 'x')⟩
theorem X8(D:gQ K mg "_law_common" (iP 84)):CP Z "_law_common" 1 (nJ c):=jO Z 0 (nJ c) ["_law_one","_law_other"] ["_law_one","_law_other"] rfl D λnd b hr=>⟨_,(gH (iK 0 nd (iy oJ sN (by rfl) B.abs sv 'x')) (gH (iK 1 nd (iy oJ sN (by rfl) B.abs sv 'x')) (gH (yC (λa=>match a with|_::some (.p (.int j))::_=>j.natAbs+1|_=>0) PassesOwn.never (iL An yB (gO 1) iH) (gN (PZ (i:=0) (j:=1) rfl nd rfl rfl (by decide) rfl rfl 'x' (by rfl)))) 'x')))⟩
theorem XA(D:gQ K mg "_law_side" (iP 86)):CP Z "_law_side" 1 (nv c):=jO Z 0 (nv c) ["_law_cut_here","_law_spot","_law_top","_law_bottom","_law_number","_law_part"] ["_law_cut_here","_law_spot"] rfl D λnd a hr=>⟨_,(gH 'x' (gH (iK 3 nd iH) (gH (jz PassesOwn.never rfl (lP B.zip 'x') (qA 2 rfl (jh (iQ 4 nd) (jh (iQ 5 nd) mK))) 'x') (gN (jg (Fy (jy xi Cj (by rfl) B.int wa (gP (wK An yB (gO 2) iH) ie)) (jy xi Cj (by rfl) B.int wa (gP (wK tf sD (gO 2) iH) ie))))))))⟩
theorem W8(D:gQ K mg "_law_whole" (iP 87)):CP Z "_law_whole" 1 (jo c):=jO Z 0 (jo c) ["_law_found"] ["_law_found"] rfl D λnd a hr=>⟨_,(gN (jg (yN (mQ "int" (by decide) B.isinstance B.int wa (gO 0)) (zc (Ab (mQ "bool" (by decide) B.isinstance B.bool CS (gO 0)))))))⟩
theorem Xb(D:gQ K mg "_law_same" (iP 88)):CP Z "_law_same" 1 (mX c):=jO Z 0 (mX c) ["_law_one","_law_other","_law_k","_law_j"] ["_law_one","_law_other"] rfl D λnd a hr=>⟨_,(gH (oG PassesOwn.never rfl (lB B.range (gP (iy (jA (K:=K)) lg (by rfl) B.len lx 'x') ie)) (iQ 2 nd) (gN (oG PassesOwn.never rfl (lB B.range 'x') (iQ 3 nd) 'x'))) 'x')⟩
theorem Yc(D:gQ K mg "_law_rank" (iP 92)):CP Z "_law_rank" 1 (l4 c):=jO Z 0 (l4 c) ["_law_rows","_law_dims","_law_found","_law_k","_law_some","_law_own","_law_rest"] ["_law_rows","_law_dims"] rfl D λnd a hr=>⟨_,(gH (pW ["_law_row"] [none] 0 nd a (iq (gO 0)) (λnd a=>⟨(iN 0 nd),iF,(jq (lH (ku (K:=K)) mG (by rfl) B.list lu 'x'))⟩) nS) (gH (iK 2 nd iH) (gH (oG PassesOwn.never rfl (lB B.range 'x') (iQ 3 nd) (gH (pW ["_law_row","_law_k"] [none,some 3] 4 nd a (iq (gO 0)) (λnd a=>⟨(iN 0 nd),(kb 'x'),(gO 0)⟩) nS) (gN (iV 'x' (gH 'x' (gH 'x' (gH (pW ["_law_row","_law_own"] [none,some 5] 6 nd a (iq (gO 0)) (λnd a=>⟨(iN 0 nd),(kb 'x'),(gO 0)⟩) nS) (gN (pW ["_law_row","_law_dims","_law_own","_law_k"] [none,some 1,some 5,some 3] 0 nd a (iq (gO 6)) (λnd a=>⟨(iN 0 nd),iF,(jq (jb ["_law_j","_law_own","_law_k","_law_row"] [none,some 2,some 3,some 0] a (zH.pim (lB B.range 'x')) (λnd a=>⟨(iN 0 nd),iF, 'x'⟩)))⟩) nS))))) iw)))) 'x')))⟩
theorem Yd(D:gQ K mg "_law_push" (iP 94)):CF Z "_law_push" 1 (mR c):=oO Z 0 (mR c) ["_law_cuts_here","_law_signs","_law_dims"] ["_law_cuts_here","_law_signs","_law_dims"] rfl D λnd a hr=>⟨_,(gN (kK (jb ["_law_cut_here","_law_sign","_law_dims"] [none,none,some 2] a (lP B.zip 'x') (λnd a=>⟨(lW 2 rfl (iz (iN 0 nd) (iz (iN 1 nd) jX))),iF,(jq (jb ["_law_number","_law_sign"] [none,some 1] a (iq 'x') (λnd a=>⟨(iN 0 nd),iF, 'x'⟩)))⟩))))⟩
theorem Xt(D:gQ K mg "lowest" (iP 15))(b:CP Z "common_divisor" 1 (ji c)):CP Z "lowest" 2 (lV c):=jO Z 1 (lV c) ["row","divisor","number"] ["row"] rfl D λnd a hr=>⟨_,(gH (iK 1 nd iH) (gH (jz PassesOwn.never rfl (iq (gO 0)) (iQ 2 nd) 'x') (gH 'x' (gN (jg (jy (jv (K:=K)) jU (by rfl) B.tuple jJ (gP (jq (jb ["number","divisor"] [none,some 1] a (iq (gO 0)) (λnd a=>⟨(iN 0 nd),iF, 'x'⟩))) ie)))))))⟩
theorem Xc(D:gQ K mg "made" (iP 18))(a:CP Z "common_divisor" 1 (ji c)):CP Z "made" 2 (rM c):=jO Z 1 (rM c) ["top","bottom","divisor"] ["top","bottom"] rfl D λnd b hr=>⟨_,(gH 'x' (gH 'x' (gH (iV (iL tf sD (gO 1) iH) 'x' iw) 'x')))⟩
theorem Xe(D:gQ K mg "is_signs" (iP 36))(b:CP Z "is_whole" 1 (jo c)):CP Z "is_signs" 2 (pQ c):=jO Z 1 (pQ c) ["many","thing"] ["many","thing"] rfl D λnd a hr=>⟨_,(gH (iV (qN (pT (pq (qm (mQ "tuple" (by decide) B.isinstance B.tuple jJ (gO 1)))) (nT (uF hr (iy (jA (K:=K)) lg (by rfl) B.len lx 'x') (gO 0))))) 'x' iw) (gN (jg (iy (qJ (K:=K) rfl) zC (by rfl) B.all zu (gP (jq (jb ["sign"] [none] a (iq (gO 1)) (λnd a=>⟨(iN 0 nd),iF,(yN 'x' (zc (EN zP zh zP zh (G8 iH) (gO 0) iH)))⟩))) ie)))))⟩
theorem Xh(D:gQ K mg "taken_often" (iP 38))(b:CP Z "dot" 1 (rX c)):CF Z "taken_often" 2 (lI c):=oO Z 1 (lI c) ["rows","weights","width"] ["rows","weights","width"] rfl D λnd a hr=>⟨_,(gN (kK (jb ["place","weights","rows"] [none,some 1,some 0] a (zH.pim (lB B.range 'x')) (λnd a=>⟨(iN 0 nd),iF,(jL b hr (gP (gO 1) (gP (jq (jb ["row","place"] [none,some 0] a (iq (gO 2)) (λnd a=>⟨(iN 0 nd),iF, 'x'⟩))) ie)))⟩))))⟩
theorem Yg(D:gQ K mg "whole_between" (iP 43))(e:CP Z "floor_of" 1 (l5 c))(b:CP Z "less" 1 (lM c))(a:CP Z "ceiling_of" 1 (lq c)):CP Z "whole_between" 2 (kq c):=jO Z 1 (kq c) ["low","high","whole"] ["low","high"] rfl D λnd d hr=>⟨_,(gH (iK 2 nd iH) (gH (iV (qN (nu (iL p7 p6 (gO 0) mm) (mH (iL DZ El 'x' iH)))) 'x' (gN (iV (qN (nu (iL p7 p6 (gO 1) mm) (mH (iL zP zh 'x' iH)))) 'x' iw))) (gH (iV (qN (nu (iL p7 p6 (gO 0) mm) (mH 'x'))) 'x' iw) (gH (iV (qN (nu (iL p7 p6 (gO 1) mm) (mH 'x'))) 'x' iw) 'x'))))⟩
theorem WY(D:gQ K mg "paper_of_noughts" (iP 46))(d:CP Z "turned" 1 (nK c))(b:CP Z "sign_of" 1 (ki c)):CP Z "paper_of_noughts" 2 (kZ c):=jO Z 1 (kZ c) ["rests","dims","rest"] ["rests","dims"] rfl D λnd a hr=>⟨_,(gH (jz PassesOwn.never rfl (iq (gO 0)) (iQ 2 nd) (gN (iV 'x' (gN (jg (jq (lH (ku (K:=K)) mG (by rfl) B.list lu 'x')))) iw))) 'x')⟩
theorem XJ(D:gQ K mg "left_at" (iP 50))(a:CP Z "dot" 1 (rX c)):CP Z "left_at" 2 (kL c):=jO Z 1 (kL c) ["cut","point"] ["cut","point"] rfl D λnd b hr=>⟨_, 'x'⟩
theorem Yf(D:gQ K mg "land_rows" (iP 60))(e:CP Z "turned" 1 (nK c))(d:CF Z "weighted" 1 (m9 c))(a:lA P w K mg base c.Cutting "cuts" 1 (DB K (jG c))):CF Z "land_rows" 2 (oI c):=oO Z 1 (oI c) ["cutting","signs"] ["cutting","signs"] rfl D λnd b hr=>⟨_,(gN (kK (jb ["row","sign"] [none,none] b (lP B.zip (gP (jq (vX d hr (gP (jq (FH a hr (gO 0))) ie))) 'x')) (λnd b=>⟨(lW 2 rfl (iz (iN 0 nd) (iz (iN 1 nd) jX))),iF, 'x'⟩))))⟩
theorem X5(D:gQ K mg "is_dims" (iP 72))(b:CP Z "is_whole" 1 (jo c)):CP Z "is_dims" 2 (pJ c):=jO Z 1 (pJ c) ["thing"] ["thing"] rfl D λnd a hr=>⟨_,(gN (jg (yN 'x' (zc (EN zP zh zP zh iH (gO 0) (E7 3 ER.k_MOST_DIMS))))))⟩
theorem W9(D:gQ K mg "is_cut" (iP 74))(b:CP Z "is_whole" 1 (jo c)):CP Z "is_cut" 2 (qQ c):=jO Z 1 (qQ c) ["dims","thing"] ["dims","thing"] rfl D λnd a hr=>⟨_,(gH (iV (qN (pT (pq (qm (mQ "tuple" (by decide) B.isinstance B.tuple jJ (gO 1)))) (nT (uF hr (iy (jA (K:=K)) lg (by rfl) B.len lx 'x') 'x')))) 'x' iw) (gH (iV (pq (qm (iy (qJ (K:=K) rfl) zC (by rfl) B.all zu (gP (jq (jb ["number"] [none] a (iq (gO 1)) (λnd a=>⟨(iN 0 nd),iF, 'x'⟩))) ie)))) 'x' iw) (gN (jg (iy (tU (K:=K) rfl) Ce (by rfl) B.any B9 (gP (jq (jb ["number"] [none] a (iq 'x') (λnd a=>⟨(iN 0 nd),iF,(Rl hr (gO 0) iH)⟩))) ie))))))⟩
theorem Yb(D:gQ K mg "same_spots" (iP 76))(b:CP Z "first_place" 1 (mB c)):CP Z "same_spots" 2 (nL c):=jO Z 1 (nL c) ["one","other","place"] ["one","other"] rfl D λnd a hr=>⟨_,(gH 'x' (gN (jg (iy (qJ (K:=K) rfl) zC (by rfl) B.all zu (gP (jq (jb ["mine","theirs","other","place","one"] [none,none,some 1,some 2,some 0] a (lP B.zip 'x') (λnd a=>⟨(lW 2 rfl (iz (iN 0 nd) (iz (iN 1 nd) jX))),iF,(Lx hr 'x' 'x')⟩))) ie)))))⟩
theorem XU(D:gQ K mg "_law_lowest" (iP 85))(a:CP Z "_law_common" 1 (nJ c)):CP Z "_law_lowest" 2 (l8 c):=jO Z 1 (l8 c) ["_law_top","_law_bottom","_law_share"] ["_law_top","_law_bottom"] rfl D λnd b hr=>⟨_, 'x'⟩
theorem W3(D:gQ K mg "_law_cut" (iP 89))(b:CP Z "_law_draw" 1 (iM c)):CP Z "_law_cut" 2 (pE c):=jO Z 1 (pE c) ["_law_cell","_law_dims","_law_ahead","_law_numbers_here","_law_c","_law_way","_law_far_here"] ["_law_cell","_law_dims","_law_ahead"] rfl D λnd a hr=>⟨_,(gH (pW ["_law_j","_law_cell"] [none,some 0] 3 nd a (zH.pim (lB B.range 'x')) (λnd a=>⟨(iN 0 nd),iF, 'x'⟩) Iy) (gH (iV 'x' (gN (vm 3 (pv 3) 'x' 'x')) iw) (gH 'x' (gH 'x' (gH (iV 'x' (gN (sr 3 nd (lH (ku (K:=K)) mG (by rfl) B.list lu (gP (DH (Iq (gO 2) (jL b hr (gP (gO 0) (gP iH (gP (iy (jA (K:=K)) lg (by rfl) B.len lx 'x') ie))))) Nd (MM (gO 1))) ie)))) iw) (gH (iV 'x' (gN (zR 4 nd (iy (tR (K:=K) rfl) BY (by rfl) B.sum Cq (gP (jq (jb ["_law_number","_law_part"] [none,none] a (lP B.zip 'x') (λnd a=>⟨(lW 2 rfl (iz (iN 0 nd) (iz (iN 1 nd) jX))),iF, 'x'⟩))) ie)))) iw) (gH (iV 'x' (gH (iK 6 nd (NK (qE iH (jL b hr (gP (gO 0) (gP iH (gP (C3 iH iH) ie))))) (Iq (jq (wH (gP iH (gP iH (gP (C3 iH iH) ie))))) 'x'))) (gH (pW ["_law_number","_law_far_here"] [none,some 6] 3 nd a (iq (gO 3)) (λnd a=>⟨(iN 0 nd),iF, 'x'⟩) Qo) 'x')) iw) (gN (jg (jy (jv (K:=K)) jU (by rfl) B.tuple jJ 'x'))))))))))⟩
theorem W5(D:gQ K mg "_law_numbers" (iP 91))(b:CP Z "_law_whole" 1 (jo c)):CP Z "_law_numbers" 2 (lE c):=jO Z 1 (lE c) ["_law_found","_law_many"] ["_law_found","_law_many"] rfl D λnd a hr=>⟨_,(gH (iV (qN (pT (pq (qm (mQ "list" (by decide) B.isinstance B.list lu (gO 0)))) (nT (uF hr (iy (jA (K:=K)) lg (by rfl) B.len lx 'x') (gO 1))))) 'x' iw) (gN (jg (iy (qJ (K:=K) rfl) zC (by rfl) B.all zu (gP (jq (jb ["_law_one"] [none] a (iq (gO 0)) (λnd a=>⟨(iN 0 nd),iF, 'x'⟩))) ie)))))⟩
theorem XN(D:gQ K mg "_law_bounded" (iP 95))(b:CF Z "_law_push" 1 (mR c))(d:CP Z "_law_rank" 1 (l4 c)):CP Z "_law_bounded" 2 (mE c):=jO Z 1 (mE c) ["_law_cuts_here","_law_signs","_law_dims","_law_weights","_law_rows","_law_k"] ["_law_cuts_here","_law_signs","_law_dims","_law_weights"] rfl D λnd a hr=>⟨_,(gH (iV (uF hr (jq (jb ["_law_weight"] [none] a (iq (gO 3)) (λnd a=>⟨(iN 0 nd),(kb (iL tf sD (gO 0) iH)),(gO 0)⟩))) (jq (wH ie))) 'x' iw) (gH 'x' (gH (oG PassesOwn.never rfl (lB B.range 'x') (iQ 5 nd) (gN (iV (uF hr (iy (tR (K:=K) rfl) BY (by rfl) B.sum Cq (gP (jq (jb ["_law_weight","_law_row","_law_k"] [none,none,some 5] a (lP B.zip 'x') (λnd a=>⟨(lW 2 rfl (iz (iN 0 nd) (iz (iN 1 nd) jX))),iF, 'x'⟩))) ie)) iH) 'x' iw))) (gN (jg (Lx hr 'x' (gO 2)))))))⟩
theorem XD(D:gQ K mg "_law_far" (iP 96))(b:CF Z "_law_push" 1 (mR c)):CP Z "_law_far" 2 (q8 c):=jO Z 1 (q8 c) ["_law_cuts_here","_law_signs","_law_dims","_law_way","_law_row"] ["_law_cuts_here","_law_signs","_law_dims","_law_way"] rfl D λnd a hr=>⟨_,(gH (jz PassesOwn.never rfl (iq 'x') (iQ 4 nd) (gN (iV (iL tf sD (iy (tR (K:=K) rfl) BY (by rfl) B.sum Cq (gP (jq (jb ["_law_number","_law_step"] [none,none] a (lP B.zip 'x') (λnd a=>⟨(lW 2 rfl (iz (iN 0 nd) (iz (iN 1 nd) jX))),iF, 'x'⟩))) ie)) iH) 'x' iw))) (gN (jg (Rl hr (jq (jb ["_law_step"] [none] a (iq (gO 3)) (λnd a=>⟨(iN 0 nd),(kb 'x'),(gO 0)⟩))) (jq (wH ie))))))⟩
theorem XE(D:gQ K mg "cleared" (iP 16))(a:CP Z "lowest" 2 (lV c))(d:CP Z "sign_of" 1 (ki c)):CP Z "cleared" 3 (jt c):=jO Z 2 (jt c) ["row","other","place","often","other_often"] ["row","other","place"] rfl D λnd b hr=>⟨_,(gH 'x' (gH (iK 3 nd (iy oJ sN (by rfl) B.abs sv 'x')) (gH 'x' (gN (jg (jL a hr (gP (jy (jv (K:=K)) jU (by rfl) B.tuple jJ (gP (jq (jb ["mine","theirs","often","other_often"] [none,none,some 3,some 4] b (lP B.zip 'x') (λnd b=>⟨(lW 2 rfl (iz (iN 0 nd) (iz (iN 1 nd) jX))),iF, 'x'⟩))) ie)) ie)))))))⟩
theorem Ye(D:gQ K mg "minus" (iP 20))(a:CP Z "made" 2 (rM c)):CP Z "minus" 3 (vK c):=jO Z 2 (vK c) ["one","other"] ["one","other"] rfl D λnd b hr=>⟨_, 'x'⟩
theorem XH(D:gQ K mg "times" (iP 21))(a:CP Z "made" 2 (rM c)):CP Z "times" 3 (vZ c):=jO Z 2 (vZ c) ["one","other"] ["one","other"] rfl D λnd b hr=>⟨_, 'x'⟩
theorem Xf(D:gQ K mg "over" (iP 22))(a:CP Z "made" 2 (rM c)):CP Z "over" 3 (sW c):=jO Z 2 (sW c) ["one","other"] ["one","other"] rfl D λnd b hr=>⟨_, 'x'⟩
theorem W4(D:gQ K mg "whole_way" (iP 34))(a:CP Z "lowest" 2 (lV c))(d:CP Z "common_divisor" 1 (ji c)):CP Z "whole_way" 3 (oN c):=jO Z 2 (oN c) ["parts","bottoms","part"] ["parts"] rfl D λnd b hr=>⟨_,(gH (iK 1 nd iH) (gH (jz PassesOwn.never rfl (iq (gO 0)) (iQ 2 nd) 'x') (gN (jg (jL a hr (gP (jy (jv (K:=K)) jU (by rfl) B.tuple jJ (gP (jq (jb ["part","bottoms"] [none,some 1] b (iq (gO 0)) (λnd b=>⟨(iN 0 nd),iF, 'x'⟩))) ie)) ie))))))⟩
theorem Xj(D:gQ K mg "check_signs" (iP 37))(b:CP Z "is_signs" 2 (pQ c))(a:lA P w K mg base c.Cutting "many" 1 (uT K (kM c))):CP Z "check_signs" 3 (kC c):=jO Z 2 (kC c) ["cutting","thing"] ["cutting","thing"] rfl D λnd d hr=>⟨_,(gN (iV (pq (qm (jL b hr (gP (yO a hr (gO 0)) 'x')))) (gN yn) iw))⟩
theorem Xm(D:gQ K mg "one_between" (iP 44))(e:CP Z "whole_between" 2 (kq c))(g:CP Z "floor_of" 1 (l5 c)):CP Z "one_between" 3 (kz c):=jO Z 2 (kz c) ["low","high","floors","whole","floor","rest","over_rest","found"] ["low","high"] rfl D λnd f hr=>⟨_,(gH (iV (qN (nu (iL p7 p6 (gO 0) mm) (mH 'x'))) 'x' iw) (gH 'x' (gH 'x' (gH (yC (λd=>match d with|some (.p (.tup [_,.int a]))::some (.p (.tup [_,.int b]))::_=>a.natAbs+b.natAbs+2|_=>1) PassesOwn.never (iL xj wC (gO 3) mm) (gH 'x' (gH (oB 2 (pv 2) (gO 4)) (gH 'x' (gH (iK 6 nd (QT 'x' mm 'x')) 'x'))))) (gH 'x' (gH (SM 2 (jz PassesOwn.never rfl (Hz B.reversed 'x') (iQ 4 nd) 'x')) 'x'))))))⟩
theorem Xq(D:gQ K mg "point_off" (iP 51))(a:CP Z "lowest" 2 (lV c))(e:CP Z "dot" 1 (rX c))(d:CP Z "left_at" 2 (kL c)):CP Z "point_off" 3 (kU c):=jO Z 2 (kU c) ["ahead","cut","point","sign","often","other","step","parts"] ["ahead","cut","point","sign"] rfl D λnd b hr=>⟨_,(gH (iK 4 nd iH) (gH (jz PassesOwn.never rfl (iq (gO 0)) (iQ 5 nd) (gH (iK 6 nd (iy oJ sN (by rfl) B.abs sv 'x')) (gN (iK 4 nd (iy (JS rfl) Qe (by rfl) B.max S3 (gP (gO 4) (gP (qE (Hg (gO 6) (iy oJ sN (by rfl) B.abs sv 'x')) iH) ie))))))) (gH (pW ["part","number","often","sign"] [none,none,some 4,some 3] 7 nd b (lP B.zip 'x') (λnd b=>⟨(lW 2 rfl (iz (iN 0 nd) (iz (iN 1 nd) jX))),iF, 'x'⟩) nS) (gN (jg (jL a hr (gP (qE (jy (jv (K:=K)) jU (by rfl) B.tuple jJ 'x') 'x') ie)))))))⟩
theorem W1(D:gQ K mg "point_on" (iP 53))(b:CP Z "lowest" 2 (lV c))(e:CP Z "left_at" 2 (kL c))(f:CP Z "sign_of" 1 (ki c))(d:CP Z "without_place" 1 (jQ c)):CP Z "point_on" 3 (mW c):=jO Z 2 (mW c) ["cut","place","point","often","part","others"] ["cut","place","point"] rfl D λnd a hr=>⟨_,(gH (iK 3 nd (iy oJ sN (by rfl) B.abs sv 'x')) (gH 'x' (gH (iK 5 nd (jy (jv (K:=K)) jU (by rfl) B.tuple jJ (gP (jq (jb ["number","often"] [none,some 3] a (iq (gO 2)) (λnd a=>⟨(iN 0 nd),iF, 'x'⟩))) ie))) 'x')))⟩
theorem Yj(D:gQ K mg "level_rows" (iP 61))(a:lA P w K mg base c.Cutting "dims" 1 (uT K (je c)))(d:CF Z "land_rows" 2 (oI c)):CF Z "level_rows" 3 (nU c):=oO Z 2 (nU c) ["cutting","signs","dims"] ["cutting","signs"] rfl D λnd b hr=>⟨_,(gH (iK 2 nd (yO a hr (gO 0))) (gN (kK (jb ["row","dims"] [none,some 2] b (iq 'x') (λnd b=>⟨(iN 0 nd),iF, 'x'⟩)))))⟩
theorem W6(D:gQ K mg "can_stand" (iP 78))(d:CP Z "is_cut" 2 (qQ c))(b:CP Z "same_spots" 2 (nL c)):CP Z "can_stand" 3 (ng c):=jO Z 2 (ng c) ["dims","ahead","thing"] ["dims","ahead","thing"] rfl D λnd a hr=>⟨_,(gH (iV (qN (pT (iL DZ El (iy (jA (K:=K)) lg (by rfl) B.len lx 'x') (E7 7 ER.k_MOST_CUTS)) (nT 'x'))) 'x' iw) (gN (jg (Ab (iy (tU (K:=K) rfl) Ce (by rfl) B.any B9 (gP (jq (jb ["cut","thing"] [none,some 2] a (iq (gO 1)) (λnd a=>⟨(iN 0 nd),iF, 'x'⟩))) ie))))))⟩
theorem Xo(D:gQ K mg "_law_cuts" (iP 90))(b:CP Z "_law_cut" 2 (pE c))(e:CP Z "_law_cell_at" 1 (jk c))(d:CP Z "_law_same" 1 (mX c)):CF Z "_law_cuts" 3 (mV c):=oO Z 2 (mV c) ["_law_script","_law_at","_law_dims","_law_many","_law_found","_law_k","_law_cut_here"] ["_law_script","_law_at","_law_dims","_law_many"] rfl D λnd a hr=>⟨_,(gH 'x' (gH (oG PassesOwn.never rfl (lB B.range 'x') (iQ 5 nd) (gH 'x' (gN (iV (NJ hr (jq (jb ["_law_other","_law_cut_here"] [none,some 6] a (iq (gO 4)) (λnd a=>⟨(iN 0 nd),(kb 'x'),(gO 0)⟩))) (jq (wH ie))) (gN (oB 4 (pv 4) (gO 6))) iw)))) (gN (sG 4 (pv 4)))))⟩
theorem XT(D:gQ K mg "settled" (iP 28))(a:CP Z "cleared" 3 (jt c)):CP Z "settled" 4 (pF c):=jO Z 3 (pF c) ["row","pivots","place","pivot"] ["row","pivots"] rfl D λnd b hr=>⟨_,(gH (jz PassesOwn.never rfl (iq (gO 1)) (qA 2 rfl (jh (iQ 2 nd) (jh (iQ 3 nd) mK))) 'x') 'x')⟩
theorem Yi(D:gQ K mg "with_pivot" (iP 29))(b:CP Z "cleared" 3 (jt c)):CF Z "with_pivot" 4 (pC c):=oO Z 3 (pC c) ["pivots","row","place"] ["pivots","row","place"] rfl D λnd a hr=>⟨_,(gN (kK (Nr (jq (jb ["other_place","pivot","row","place"] [none,none,some 1,some 2] a (iq (gO 0)) (λnd a=>⟨(lW 2 rfl (iz (iN 0 nd) (iz (iN 1 nd) jX))),iF, 'x'⟩))) 'x')))⟩
theorem XR(D:gQ K mg "left_for" (iP 32))(a:CP Z "minus" 3 (vK c))(b:CP Z "times" 3 (vZ c)):CP Z "left_for" 4 (lX c):=jO Z 3 (lX c) ["row","parts","left","number","part"] ["row","parts"] rfl D λnd d hr=>⟨_,(gH (iK 2 nd (qu (gP (Iq (gO 0) (iy (jA (K:=K)) lg (by rfl) B.len lx 'x')) 'x'))) (gH (jz PassesOwn.never rfl (lP B.zip 'x') (qA 2 rfl (jh (iQ 3 nd) (jh (iQ 4 nd) mK))) 'x') 'x'))⟩
theorem XW(D:gQ K mg "shadow" (iP 40))(b:CP Z "cleared" 3 (jt c)):CF Z "shadow" 4 (sS c):=oO Z 3 (sS c) ["rows","dims","place","most","told","row","one","other","joined"] ["rows","dims","place","most"] rfl D λnd a hr=>⟨_,(gH (ES 4 nd) (gH (jz PassesOwn.never rfl (iq (gO 0)) (iQ 5 nd) (gN (iV 'x' (gN (zq 4 hr (pv 4) (gO 5) Lr)) iw))) (gH (jz PassesOwn.never rfl (iq (jq (jb ["row","place"] [none,some 2] a (iq (gO 0)) (λnd a=>⟨(iN 0 nd),(kb (iL An yB 'x' iH)),(gO 0)⟩)))) (iQ 6 nd) (gN (jz PassesOwn.never rfl (iq (jq (jb ["row","place"] [none,some 2] a (iq (gO 0)) (λnd a=>⟨(iN 0 nd),(kb (iL tf sD 'x' iH)),(gO 0)⟩)))) (iQ 7 nd) (gH 'x' (gN (iV (iL zP zh (iy (jA (K:=K)) lg (by rfl) B.len lx (gP (jq (jb ["weight"] [none] a (iq 'x') (λnd a=>⟨(iN 0 nd),(kb 'x'),(gO 0)⟩))) ie)) (gO 3)) (gN (zq 4 hr (pv 4) (gO 8) Lr)) iw)))))) (gN (Nc 4 rfl B.list (pv 4))))))⟩
theorem Xg(D:gQ K mg "bounding_weights" (iP 66))(b:CF Z "taken_often" 2 (lI c))(a:CP Z "cleared" 3 (jt c)):CF Z "bounding_weights" 4 (kf c):=oO Z 3 (kf c) ["rows","stops","signs","dims","row","place","sign"] ["rows","stops","signs","dims"] rfl D λnd d hr=>⟨_,(gH (iK 4 nd (jy (jv (K:=K)) jU (by rfl) B.tuple jJ (gP (jq (vX b hr (gP (gO 0) (gP (jq (FY 'x' (iy (jA (K:=K)) lg (by rfl) B.len lx 'x'))) (gP (iy (jA (K:=K)) lg (by rfl) B.len lx 'x') ie))))) ie))) (gH (oG PassesOwn.never rfl (lB B.range 'x') (iQ 5 nd) (gH (iK 6 nd (QT (iL An yB 'x' iH) iH (G8 iH))) (gN (iK 4 nd (jL a hr (gP (gO 4) (gP (Mc hr (gO 1) 'x') 'x'))))))) (gN (kK (jb ["turn","weight"] [none,none] d (lP B.zip 'x') (λnd d=>⟨(lW 2 rfl (iz (iN 0 nd) (iz (iN 1 nd) jX))),iF, 'x'⟩))))))⟩
theorem W2(D:gQ K mg "checked_cuts" (iP 79))(b:CP Z "is_dims" 2 (pJ c))(a:CP Z "can_stand" 3 (ng c)):CP Z "checked_cuts" 4 (kJ c):=jO Z 3 (kJ c) ["dims","things","ahead","thing"] ["dims","things"] rfl D λnd d hr=>⟨_,(gH (iV (qN (pT 'x' (nT (pq (qm (mQ "list" (by decide) B.isinstance B.list lu (gO 1))))))) (gN yn) iw) (gH 'x' (gH (jz PassesOwn.never rfl (iq (gO 1)) (iQ 3 nd) (gH 'x' (gN (oB 2 (pv 2) (jy (jv (K:=K)) jU (by rfl) B.tuple jJ 'x'))))) (gN (jg (jy (jv (K:=K)) jU (by rfl) B.tuple jJ 'x'))))))⟩
theorem XZ(D:gQ K mg "_law_drawn" (iP 93))(b:CP Z "_law_cell_at" 1 (jk c))(d:CP Z "_law_draw" 1 (iM c))(a:CF Z "_law_cuts" 3 (mV c)):CP Z "_law_drawn" 4 (mJ c):=jO Z 3 (mJ c) ["_law_script","_law_at","_law_most","_law_cell","_law_dims","_law_many"] ["_law_script","_law_at","_law_most"] rfl D λnd e hr=>⟨_,(gH 'x' (gH 'x' (gH 'x' (gH (iV 'x' (gN (iK 5 nd (iy (JZ rfl) NW (by rfl) B.min T2 'x'))) iw) 'x'))))⟩
theorem Xu(D:gQ K mg "_law_one_land" (iP 99))(d:CF Z "_law_cuts" 3 (mV c))(b:CP Z "_law_draw" 1 (iM c))(e:CP Z "_law_cell_at" 1 (jk c))(g:CP Z "_law_lowest" 2 (l8 c))(f:CP Z "_law_side" 1 (nv c)):CP Z "_law_one_land" 4 (lZ c):=jO Z 3 (lZ c) ["_law_script","_law_dims","_law_cuts_here","_law_top","_law_signs","_law_place"] ["_law_script"] rfl D λnd a hr=>⟨_,(gH 'x' (gH 'x' (gH (iK 3 nd (qE iH (jL b hr (gP 'x' (gP iH (gP (C3 iH iH) ie)))))) (gH 'x' (gH (yC (λ_=>400) PassesOwn.never (iL (Kk (K:=K)) (KA false) iH (gO 4) (by rfl)) (gH 'x' (gH (iK 5 nd (jy (jv (K:=K)) jU (by rfl) B.tuple jJ (gP (jq (jb ["_law_j","_law_top"] [none,some 3] a (zH.pim (lB B.range 'x')) (λnd a=>⟨(iN 0 nd),iF, 'x'⟩))) ie))) (gN (iK 4 nd (jy (jv (K:=K)) jU (by rfl) B.tuple jJ (gP (jq (jb ["_law_cut_here","_law_place"] [none,some 5] a (iq (gO 2)) (λnd a=>⟨(iN 0 nd),iF, 'x'⟩))) ie))))))) 'x')))))⟩
theorem X9(D:gQ K mg "pivots_and_rests" (iP 30))(b:CP Z "settled" 4 (pF c))(d:CF Z "with_pivot" 4 (pC c)):CP Z "pivots_and_rests" 5 (kX c):=jO Z 4 (kX c) ["rows","dims","pivots","rests","row","left","places"] ["rows","dims"] rfl D λnd a hr=>⟨_,(gH 'x' (gH 'x' (gH (jz PassesOwn.never rfl (iq (gO 0)) (iQ 4 nd) (gH 'x' (gH (pW ["place","left"] [none,some 5] 6 nd a (zH.pim (lB B.range 'x')) (λnd a=>⟨(iN 0 nd),(kb 'x'),(gO 0)⟩) nS) (gN (iV 'x' (gN (oB 3 (pv 3) (gO 5))) 'x'))))) 'x')))⟩
theorem XM(D:gQ K mg "filled" (iP 33))(a:CP Z "over" 3 (sW c))(b:CP Z "left_for" 4 (lX c)):CP Z "filled" 5 (vq c):=jO Z 4 (vq c) ["pivots","parts","spot","place","pivot"] ["pivots","parts"] rfl D λnd d hr=>⟨_,(gH (sr 2 nd (lH (ku (K:=K)) mG (by rfl) B.list lu 'x')) (gH (jz PassesOwn.never rfl (iq (gO 0)) (qA 2 rfl (jh (iQ 3 nd) (jh (iQ 4 nd) mK))) (gN (vm 2 (pv 2) (gO 3) 'x'))) (gN (jg (jy (jv (K:=K)) jU (by rfl) B.tuple jJ 'x')))))⟩
theorem X2(D:gQ K mg "shadows" (iP 41))(a:CF Z "shadow" 4 (sS c)):CF Z "shadows" 5 (oq c):=oO Z 4 (oq c) ["rows","dims","places","pivots","layers","place","most"] ["rows","dims","places","pivots"] rfl D λnd b hr=>⟨_,(gH 'x' (gH (jz PassesOwn.never rfl (iq (gO 2)) (iQ 5 nd) (gH (zR 6 nd (qE (qE (iy (jA (K:=K)) lg (by rfl) B.len lx 'x') iH) (iy (jA (K:=K)) lg (by rfl) B.len lx 'x'))) (gN (IP 4 (pv 4) 'x')))) (gN (sG 4 (pv 4)))))⟩
theorem Xr(D:gQ K mg "ends_at" (iP 42))(a:CP Z "over" 3 (sW c))(b:CP Z "left_for" 4 (lX c))(d:CP Z "less" 1 (lM c)):CP Z "ends_at" 5 (pH c):=jO Z 4 (pH c) ["rows","place","parts","low","high","row","end"] ["rows","place","parts"] rfl D λnd e hr=>⟨_,(gH (iK 3 nd mm) (gH (iK 4 nd mm) (gH (jz PassesOwn.never rfl (iq (gO 0)) (iQ 5 nd) (gN (iV 'x' (gH 'x' (gH (iV (qN (nu (iL An yB 'x' iH) (mH (qN (pT (iL xj wC (gO 3) mm) (nT 'x')))))) 'x' iw) (gN (iV (qN (nu (iL tf sD 'x' iH) (mH (qN (pT (iL xj wC (gO 4) mm) (nT 'x')))))) 'x' iw)))) iw))) 'x')))⟩
theorem Xy(D:mv K c.Cutting "__init__" "Cutting.__init__" (p9 (iP 80) 0))(a:CP Z "checked_cuts" 4 (kJ c)):FV P w K mg base "Cutting" c.Cutting 5 (EY K c.Cutting (jV c)):=Wm Z 4 (jV c) ["self","dims","cuts"] rfl ER.cl_Cutting ER.na_Cutting_own_cuts ER.na_Cutting_own_dims ER.mk_Cutting ER.kp_Cutting ER.mg_Cutting D λhr=>Wz rfl (pv 0) (jL a hr (gP (gO 1) (gP (gO 2) ie))) (pv 0) (gO 1)
theorem Xz(D:gQ K mg "parts_within" (iP 45))(a:CP Z "ends_at" 5 (pH c))(b:CP Z "one_between" 3 (kz c)):CF Z "parts_within" 6 (jW c):=oO Z 5 (jW c) ["layers","places","parts","chosen","number","place","ends"] ["layers","places","parts"] rfl D λnd d hr=>⟨_,(gH (sr 3 nd (lH (ku (K:=K)) mG (by rfl) B.list lu 'x')) (gH (jz PassesOwn.never rfl (Hz B.reversed (gP (jq (UD rfl B.list B.enumerate 'x')) ie)) (qA 2 rfl (jh (iQ 4 nd) (jh (iQ 5 nd) mK))) (gH 'x' (gN (vm 3 (pv 3) (gO 5) 'x')))) (gN (sG 3 (pv 3)))))⟩
theorem XS(D:gQ K mg "layers_down_to" (iP 63))(a:CF Z "shadows" 5 (oq c))(b:CF Z "other_places" 1 (ke c)):CP Z "layers_down_to" 6 (kP c):=jO Z 5 (kP c) ["rows","dims","place"] ["rows","dims","place"] rfl D λnd d hr=>⟨_, 'x'⟩
theorem XF(D:gQ K mg "parts_or_weights" (iP 47))(i:CF Z "weighted" 1 (m9 c))(b:CP Z "pivots_and_rests" 5 (kX c))(d:CP Z "paper_of_noughts" 2 (kZ c))(j:CF Z "free_places" 1 (mF c))(e:CF Z "shadows" 5 (oq c))(g:CP Z "settled" 4 (pF c))(h:CP Z "filled" 5 (vq c))(k:CP Z "turned" 1 (nK c))(f:CF Z "parts_within" 6 (jW c)):CP Z "parts_or_weights" 7 (lh c):=jO Z 6 (lh c) ["cuts","dims","signs","rows","found","paper","pivots","sided","places","layers","row"] ["cuts","dims","signs"] rfl D λnd a hr=>⟨_,(gH 'x' (gH (iK 4 nd (jL b hr (gP (jq (jb ["row","sign"] [none,none] a (lP B.zip 'x') (λnd a=>⟨(lW 2 rfl (iz (iN 0 nd) (iz (iN 1 nd) jX))),(kb 'x'),(gO 0)⟩))) 'x'))) (gH 'x' (gH (iV (iL p7 p6 (gO 5) mm) 'x' iw) (gH 'x' (gH (pW ["row","sign","pivots"] [none,none,some 6] 7 nd a (lP B.zip 'x') (λnd a=>⟨(lW 2 rfl (iz (iN 0 nd) (iz (iN 1 nd) jX))),(kb 'x'), 'x'⟩) nS) (gH 'x' (gH 'x' (gH (jz PassesOwn.never rfl (iq 'x') (iQ 10 nd) (gN (iV (iL DZ El 'x' iH) (gN (jg (qu (gP Mn (gP (jq (lH (ku (K:=K)) mG (by rfl) B.list lu 'x')) ie))))) iw))) 'x')))))))))⟩
theorem X1(D:gQ K mg "direction_within" (iP 65))(d:CP Z "whole_way" 3 (oN c))(b:CF Z "parts_within" 6 (jW c))(a:CF Z "other_places" 1 (ke c)):CP Z "direction_within" 7 (kc c):=jO Z 6 (kc c) ["layers","dims","place","sign","parts"] ["layers","dims","place","sign"] rfl D λnd e hr=>⟨_,(gH 'x' (gH (vm 4 (pv 4) (gO 2) 'x') 'x'))⟩
theorem Ya(D:gQ K mg "held" (iP 48))(e:CP Z "check_signs" 3 (kC c))(b:CP Z "parts_or_weights" 7 (lh c))(d:lA P w K mg base c.Cutting "cuts" 1 (DB K (jG c)))(a:lA P w K mg base c.Cutting "dims" 1 (uT K (je c))):CP Z "held" 8 (wN c):=jO Z 7 (wN c) ["cutting","signs"] ["cutting","signs"] rfl D λnd f hr=>⟨_,(gH 'x' (gN (jg (jL b hr (gP (jq (FH d hr (gO 0))) (gP (yO a hr (gO 0)) 'x'))))))⟩
theorem W7(D:gQ K mg "check_land" (iP 58))(b:CP Z "check_signs" 3 (kC c))(a:CP Z "held" 8 (wN c)):CP Z "check_land" 9 (nP c):=jO Z 8 (nP c) ["cutting","signs"] ["cutting","signs"] rfl D λnd d hr=>⟨_,(gH 'x' (gN (iV (qN (pT (iL (Kk (K:=K)) (KA false) iH (gO 1) (by rfl)) (nT 'x'))) (gN yn) iw)))⟩
theorem X6(D:gQ K mg "reach" (iP 67))(e:CP Z "check_land" 9 (nP c))(a:lA P w K mg base c.Cutting "dims" 1 (uT K (je c)))(g:CF Z "level_rows" 3 (nU c))(f:CP Z "layers_down_to" 6 (kP c))(d:CF Z "bounding_weights" 4 (kf c))(b:CP Z "stop_of" 1 (pK c))(h:CP Z "direction_within" 7 (kc c)):CP Z "reach" 10 (pD c):=jO Z 9 (pD c) ["cutting","signs","dims","rows","stops","place","layers","sign","stop"] ["cutting","signs"] rfl D λnd i hr=>⟨_,(gH 'x' (gH (iK 2 nd (yO a hr (gO 0))) (gH 'x' (gH (ES 4 nd) (gH (oG PassesOwn.never rfl (lB B.range 'x') (iQ 5 nd) (gH 'x' (gN (jz PassesOwn.never rfl (iq 'x') (iQ 7 nd) (gH 'x' (gH (iV (iL xj wC (gO 8) mm) 'x' iw) (gN (zq 4 hr (pv 4) 'x' (gO 8))))))))) (gN (P9 4 'x')))))))⟩
theorem X4(D:gQ K mg "_law_reached" (iP 97))(b:CP Z "reach" 10 (pD c))(a:CP Z "_law_numbers" 2 (lE c))(f:CP Z "_law_bounded" 2 (mE c))(g:CP Z "_law_far" 2 (q8 c)):CP Z "_law_reached" 11 (kx c):=jO Z 10 (kx c) ["_law_cutting","_law_cuts_here","_law_dims","_law_signs","_law_found","_law_kept"] ["_law_cutting","_law_cuts_here","_law_dims","_law_signs"] rfl D λnd h hr=>⟨_,(MW 4 5 'x' (λd=>He 4 nd (Kf b hr d)) (qN (pT (pq (qm (mQ "tuple" (by decide) B.isinstance B.tuple jJ (gO 4)))) (nT (uF hr (iy (jA (K:=K)) lg (by rfl) B.len lx 'x') iH)))) 'x' (qN (nu 'x' (mH (qm (jL a hr (gP 'x' (gP (iy (jA (K:=K)) lg (by rfl) B.len lx 'x') ie))))))) (lH (ku (K:=K)) mG (by rfl) B.list lu 'x') (λe=>He 5 nd e) (QM (pv 4)) 'x' (Ak Q3) (gH (iV (qN (nu 'x' (nu (qm (mQ "tuple" (by decide) B.isinstance B.tuple jJ 'x')) (mH (qm (jL a hr (gP (jq (lH (ku (K:=K)) mG (by rfl) B.list lu 'x')) 'x'))))))) 'x' iw) 'x'))⟩
theorem WZ{k:Nat}{d:List T->M T}(D:gQ K mg "crossings" (iP 54))(g:CP Z "without_place" k (jQ c))(e:CP Z "cleared" k (jt c))(f:CP Z "point_on" k (mW c))(b:CP Z "cells" k d):CF Z "crossings" (k+1) (lU c d):=oO Z k (lU c d) ["ahead","cut","places","place","traces"] ["ahead","cut"] rfl D λnd a hr=>⟨_,(gH (pW ["place","number"] [none,none] 2 nd a (BU B.enumerate 'x') (λnd a=>⟨(lW 2 rfl (iz (iN 0 nd) (iz (iN 1 nd) jX))),(kb 'x'),(gO 0)⟩) nS) (gH 'x' (gH 'x' (gH (pW ["other","place","cut"] [none,some 3,some 1] 4 nd a (iq (gO 0)) (λnd a=>⟨(iN 0 nd),iF,(jL g hr (gP (jL e hr 'x' (aK _)) 'x') (aK _))⟩) nS) (gH (iV (qm (iy (tU (K:=K) rfl) Ce (by rfl) B.any B9 (gP (jq (jb ["trace"] [none] a (iq (gO 4)) (λnd a=>⟨(iN 0 nd),iF,(Ab (iy (tU (K:=K) rfl) Ce (by rfl) B.any B9 'x'))⟩))) ie))) 'x' iw) (gN (kK (jb ["signs","point","cut","place"] [none,none,some 1,some 3] a (iq (jL b hr (gP (gO 4) (gP (Fy (iy (jA (K:=K)) lg (by rfl) B.len lx 'x') iH) ie)) (aK _))) (λnd a=>⟨(lW 2 rfl (iz (iN 0 nd) (iz (iN 1 nd) jX))),iF,(qu (gP (gO 0) (gP (jL f hr 'x' (aK _)) ie)))⟩)))))))))⟩
theorem Yk{k:Nat}{a:List T->M T}(D:gQ K mg "with_one_more" (iP 55))(b:CF Z "crossings" k (lU c a))(e:CP Z "point_off" k (kU c))(f:CP Z "sign_of" k (ki c))(d:CP Z "left_at" k (kL c)):CF Z "with_one_more" (k+1) (lD c a):=oO Z k (lD c a) ["found","ahead","cut","crossed","grown","signs","point","sign"] ["found","ahead","cut"] rfl D λnd g hr=>⟨_,(gH (iK 3 nd (jy (Fo rfl (XY hr)) QB (by rfl) B.dict Od (gP (jq (vX b hr 'x' (aK _))) ie))) (gH 'x' (gH (jz PassesOwn.never rfl (iq (gO 0)) (qA 2 rfl (jh (iQ 5 nd) (jh (iQ 6 nd) mK))) (gN (iV (QL hr (gO 5) (gO 3)) (gN (jz PassesOwn.never rfl (iq 'x') (iQ 7 nd) (gN (oB 4 (pv 4) (qu (gP 'x' (gP (jL e hr (gP (gO 1) (gP (gO 2) (gP (Mc hr (gO 3) (gO 5)) 'x'))) (aK _)) ie))))))) (gN (oB 4 (pv 4) (qu (gP (qE (gO 5) (qu (gP (jL f hr (gP (jL d hr 'x' (aK _)) ie) (aK _)) ie))) 'x'))))))) (gN (sG 4 (pv 4))))))⟩
theorem XC{k m:Nat}(D:gQ K mg "cells" (iP 56))(a:CF Z "with_one_more" k (lD c (mO c m))):CP Z "cells" (k+1) (mO c (m+1)):=jO Z k (mO c (m+1)) ["cuts","dims","found","k","cut"] ["cuts","dims"] rfl D λnd b hr=>⟨_,(gH (iK 2 nd (jq (wH (gP (qu (gP (qu ie) (gP (qE (Pj 'x' (gO 1)) 'x') ie))) ie)))) (gH (jz PassesOwn.never rfl (BU B.enumerate 'x') (qA 2 rfl (jh (iQ 3 nd) (jh (iQ 4 nd) mK))) (gN (iK 2 nd (jq (vX a hr 'x' (aK _)))))) 'x'))⟩
theorem oR(D_crossings:gQ K mg "crossings" (iP 54))(D_with_one_more:gQ K mg "with_one_more" (iP 55))(D_cells:gQ K mg "cells" (iP 56))(O10:CP Z "without_place" 3 (jQ c))(O41:CP Z "cleared" 3 (jt c))(O49:CP Z "point_on" 3 (mW c))(O48:CP Z "point_off" 3 (kU c))(O1:CP Z "sign_of" 3 (ki c))(O31:CP Z "left_at" 3 (kL c)):∀m:Nat,CP Z "cells" (3+3*m) (mO c m)
 |0=>Vj (k:=2) ["cuts","dims","found","k","cut"] ["cuts","dims"] rfl D_cells
 |m+1=>by have IH:=oR D_crossings D_with_one_more D_cells O10 O41 O49 O48 O1 O31 m;exact XC Z B ER (k:=3+3*m+2) D_cells (Yk Z B ER (k:=3+3*m+1) D_with_one_more (WZ Z B ER (k:=3+3*m) D_crossings (O10.mono (by omega)) (O41.mono (by omega)) (O49.mono (by omega)) IH) (O48.mono (by omega)) (O1.mono (by omega)) (O31.mono (by omega)))
theorem XQ(D:gQ K mg "lands" (iP 57))(a:CP Z "cells" 18 (mO c 5))(d:lA P w K mg base c.Cutting "cuts" 1 (DB K (jG c)))(b:lA P w K mg base c.Cutting "dims" 1 (uT K (je c))):CF Z "lands" 19 (rF c):=oO Z 18 (rF c) ["cutting"] ["cutting"] rfl D λnd e hr=>⟨_,(gN (kK (jb ["signs","point"] [none,none] e (iq (jL a hr (gP (jq (FH d hr (gO 0))) (gP (yO b hr (gO 0)) ie)))) (λnd e=>⟨(lW 2 rfl (iz (iN 0 nd) (iz (iN 1 nd) jX))),iF,(gO 0)⟩))))⟩
theorem Xw(D:gQ K mg "bounded_lands" (iP 68))(d:CF Z "lands" 19 (rF c))(b:CP Z "reach" 10 (pD c)):CF Z "bounded_lands" 20 (ko c):=oO Z 19 (ko c) ["cutting"] ["cutting"] rfl D λnd a hr=>⟨_,(gN (kK (jb ["signs","cutting"] [none,some 0] a (iq 'x') (λnd a=>⟨(iN 0 nd),(kb 'x'),(gO 0)⟩))))⟩
theorem XG(D:gQ K mg "_law_right" (iP 98))(a:FV P w K mg base "Cutting" c.Cutting 5 (EY K c.Cutting (jV c)))(e:CF Z "lands" 19 (rF c))(b:CF Z "bounded_lands" 20 (ko c))(d:CP Z "_law_reached" 11 (kx c)):CP Z "_law_right" 21 (mL c):=jO Z 20 (mL c) ["_law_dims","_law_cuts_here","_law_cutting","_law_due","_law_signs","_law_told","_law_found"] ["_law_dims","_law_cuts_here"] rfl D λnd f hr=>⟨_,(gH (iK 2 nd (RA a hr 'x')) (gH 'x' (gH (jz PassesOwn.never rfl (iq 'x') (iQ 4 nd) (gH 'x' (gH (iV (iL xj wC (gO 5) mm) 'x' iw) (gN (iV (qm (gO 5)) (gN (oB 3 (pv 3) (gO 4))) iw))))) (gH 'x' (gH (iV (qN (pT (pq (qm (mQ "list" (by decide) B.isinstance B.list lu (gO 6)))) (nT 'x'))) 'x' iw) (gH (oB 6 (pv 6) (qu ie)) (gN (jg (Lx hr 'x' (gO 3))))))))))⟩
theorem oL{d:Addr}{fd:FuncData}(D:NR K "law" "law" (iP 100) d fd)(f:CP Z "_law_one_land" 4 (lZ c))(g:CP Z "_law_drawn" 4 (mJ c))(b:CP Z "_law_reached" 11 (kx c))(e:CP Z "_law_right" 21 (mL c))(a:FV P w K mg base "Cutting" c.Cutting 5 (EY K c.Cutting (jV c))):pR P w K mg base Aw 22 d fd ["_law_script"] (uT K (vU c)):=UP Z 21 (vU c) ["_law_script","_law_at","_law_dims","_law_cuts_here","_law_signs"] ["_law_script"] rfl D λnd h hr=>⟨_,(gH (jz PassesOwn.never rfl (iq 'x') (iQ 1 nd) (gH (Hx 'x' (qA 2 rfl (jh (iQ 2 nd) (jh (iQ 3 nd) mK)))) 'x')) (gH (Hx 'x' (qA 3 rfl (jh (iQ 2 nd) (jh (iQ 3 nd) (jh (iQ 4 nd) mK))))) (gN (jg (wK p7 p6 (jL b hr (gP (RA a hr 'x') 'x')) mm)))))⟩
end
def Uj{l:W.OpenLaw}{w:World}{K:W.Frag}{h:Heap}{b:Str->Option Value}{c:Cs}{fa f:Addr}{oc kV E pm p ct:Value}{od an:Option Addr}{osl:Array (Option Value)}(X:K.In h)(G:h.Ns mainGlobals b)(hfa:b "law" = some (.ref fa))
  (a:W.nsIn K mainGlobals "law" = some (some (.ref f))) (lk:K.lookup f=some ⟨oc,od,.func (W.fnOf "law" "law" (kH (iP 100)) (jx (iP 100)) (gZ (iP 100)) .none kV E pm an p ct),osl⟩) (cc:W.codeIn K p "law" = true) (kk:W.keepIn K (.ref f)=true)
  (B:Bs b) (ER:Er c K b) (LF:∀ns:LI,(vU c) [.scr ns]=.ok (.bl true)) (D0:gQ K b "is_whole" (iP 10)) (D1:gQ K b "sign_of" (iP 12)) (D2:gQ K b "common_divisor" (iP 13)) (D3:gQ K b "dot" (iP 14)) (D4:gQ K b "less" (iP 23)) (D5:gQ K b "floor_of" (iP 24)) (D6:gQ K b "ceiling_of" (iP 25)) (D7:gQ K b "weighted" (iP 27)) (D8:gQ K b "free_places" (iP 31)) (D9:gQ K b "turned" (iP 39)) (D10:gQ K b "without_place" (iP 52)) (D11:gQ K b "other_places" (iP 62)) (D12:gQ K b "stop_of" (iP 64)) (D13:gQ K b "first_place" (iP 75)) (D14:gQ K b "_law_cell_at" (iP 82)) (D15:gQ K b "_law_draw" (iP 83)) (D16:gQ K b "_law_common" (iP 84)) (D17:gQ K b "_law_side" (iP 86)) (D18:gQ K b "_law_whole" (iP 87)) (D19:gQ K b "_law_same" (iP 88)) (D20:gQ K b "_law_rank" (iP 92)) (D21:gQ K b "_law_push" (iP 94)) (D22:gQ K b "lowest" (iP 15)) (D23:gQ K b "made" (iP 18)) (D24:gQ K b "is_signs" (iP 36)) (D25:gQ K b "taken_often" (iP 38)) (D26:gQ K b "whole_between" (iP 43)) (D27:gQ K b "paper_of_noughts" (iP 46)) (D28:gQ K b "left_at" (iP 50)) (D29:gQ K b "land_rows" (iP 60)) (D30:gQ K b "is_dims" (iP 72)) (D31:gQ K b "is_cut" (iP 74)) (D32:gQ K b "same_spots" (iP 76)) (D33:gQ K b "_law_lowest" (iP 85)) (D34:gQ K b "_law_cut" (iP 89)) (D35:gQ K b "_law_numbers" (iP 91)) (D36:gQ K b "_law_bounded" (iP 95)) (Y:gQ K b "_law_far" (iP 96)) (D38:gQ K b "cleared" (iP 16)) (S:gQ K b "minus" (iP 20)) (D40:gQ K b "times" (iP 21)) (D41:gQ K b "over" (iP 22)) (D42:gQ K b "whole_way" (iP 34)) (D43:gQ K b "check_signs" (iP 37)) (D44:gQ K b "one_between" (iP 44)) (D45:gQ K b "point_off" (iP 51)) (D46:gQ K b "point_on" (iP 53)) (D47:gQ K b "level_rows" (iP 61)) (D48:gQ K b "can_stand" (iP 78)) (D49:gQ K b "_law_cuts" (iP 90)) (D50:gQ K b "settled" (iP 28)) (D51:gQ K b "with_pivot" (iP 29)) (D52:gQ K b "left_for" (iP 32)) (D53:gQ K b "shadow" (iP 40)) (D54:gQ K b "bounding_weights" (iP 66)) (D55:gQ K b "checked_cuts" (iP 79)) (D56:gQ K b "_law_drawn" (iP 93)) (D57:gQ K b "_law_one_land" (iP 99)) (D58:gQ K b "pivots_and_rests" (iP 30)) (D59:gQ K b "filled" (iP 33)) (D60:gQ K b "shadows" (iP 41)) (D61:gQ K b "ends_at" (iP 42)) (D62:gQ K b "parts_within" (iP 45)) (D63:gQ K b "layers_down_to" (iP 63)) (D64:gQ K b "parts_or_weights" (iP 47)) (D65:gQ K b "direction_within" (iP 65)) (D66:gQ K b "held" (iP 48)) (D67:gQ K b "check_land" (iP 58)) (D68:gQ K b "reach" (iP 67)) (D69:gQ K b "_law_reached" (iP 97)) (D70:gQ K b "cells" (iP 56)) (D71:gQ K b "crossings" (iP 54)) (D72:gQ K b "lands" (iP 57)) (D73:gQ K b "with_one_more" (iP 55)) (Q:gQ K b "bounded_lands" (iP 68)) (D75:gQ K b "_law_right" (iP 98)) (M0:mv K c.Cutting "dims" "Cutting.dims" (p9 (iP 80) 1)) (M1:mv K c.Cutting "cuts" "Cutting.cuts" (p9 (iP 80) 2)) (M2:mv K c.Cutting "many" "Cutting.many" (p9 (iP 80) 3)) (M3:mv K c.Cutting "__init__" "Cutting.__init__" (p9 (iP 80) 0)) :
  ∃fd:FuncData,(∀(s:Shared) (v:Value),BindsTo s fd ⟨[v],[]⟩ [("_law_script",v)])/\∀d:Heap,K.In d->d.Ns mainGlobals b->pR l.prog w K b d Aw 22 fa fd ["_law_script"] (Kt K):=by
 have e:=hfa.symm.trans (W.mg_of X G a);cases e;refine⟨W.fnOf "law" "law" (kH (iP 100)) (jx (iP 100)) (gZ (iP 100)) .none kV E pm an p ct,?bnd,λd _ _=>?main⟩
 case main=>have Z:Zx l.prog w K b d:=⟨trivial⟩;have O0:=o0 Z B ER D0;have P:=o1 Z B ER D1;have O2:=o2 Z B ER D2;have O3:=o3 Z B ER D3;have O4:=o4 Z B ER D4;have O5:=o5 Z B ER D5;have O6:=o6 Z B ER D6;have O7:=o7 Z B ER D7;have O8:=o8 Z B ER D8;have O9:=o9 Z B ER D9;have z:=Xd Z B ER D10;have A:=Xn Z B ER D11;have O12:=XO Z B ER D12;have O13:=XX Z B ER D13;have i:=XB Z B ER M0;have q:=X3 Z B ER M1;have O16:=Xv Z B ER M2;have o:=Yh Z B ER D14;have m:=Xl Z B ER D15;have O19:=X8 Z B ER D16;have O20:=XA Z B ER D17;have O21:=W8 Z B ER D18;have O22:=Xb Z B ER D19;have O23:=Yc Z B ER D20;have J:=Yd Z B ER D21;have j:=Xt Z B ER D22 O2;have k:=Xc Z B ER D23 O2;have O27:=Xe Z B ER D24 O0;have O28:=Xh Z B ER D25 O3;have O29:=Yg Z B ER D26 O5 O4 O6;have O30:=WY Z B ER D27 O9 P;have n:=XJ Z B ER D28 O3;have O32:=Yf Z B ER D29 O9 O7 q;have O33:=X5 Z B ER D30 O0;have O34:=W9 Z B ER D31 O0;have O35:=Yb Z B ER D32 O13;have O36:=XU Z B ER D33 O19;have O37:=W3 Z B ER D34 m;have O38:=W5 Z B ER D35 O21;have O39:=XN Z B ER D36 J O23;have O40:=XD Z B ER Y J;have g:=XE Z B ER D38 j P;have O42:=Ye Z B ER S k;have O43:=XH Z B ER D40 k;have x:=Xf Z B ER D41 k;have O45:=W4 Z B ER D42 j O2;have C:=Xj Z B ER D43 O27 O16;have O47:=Xm Z B ER D44 O29 O5;have U:=Xq Z B ER D45 j O3 n;have O49:=W1 Z B ER D46 j n P z;have O50:=Yj Z B ER D47 i O32;have O51:=W6 Z B ER D48 O34 O35;have r:=Xo Z B ER D49 O37 o O22;have I:=XT Z B ER D50 g;have O54:=Yi Z B ER D51 g;have H:=XR Z B ER D52 O42 O43;have O56:=XW Z B ER D53 g;have R:=Xg Z B ER D54 O28 g;have O58:=W2 Z B ER D55 O33 O51;have O59:=XZ Z B ER D56 o m r;have O60:=Xu Z B ER D57 r m o O36 O20;have O61:=X9 Z B ER D58 I O54;have O62:=XM Z B ER D59 x H;have N:=X2 Z B ER D60 O56;have O64:=Xr Z B ER D61 x H O4;have u:=Xy Z B ER M3 O58;have L:=Xz Z B ER D62 O64 O47;have O67:=XS Z B ER D63 N A;have O68:=XF Z B ER D64 O7 O61 O30 O8 N I O62 O9 L;have O69:=X1 Z B ER D65 O45 L A;have O70:=Ya Z B ER D66 C O68 q i;have O71:=W7 Z B ER D67 C O70;have F:=X6 Z B ER D68 O71 i O50 O67 R O12 O69;have y:=X4 Z B ER D69 F O38 O39 O40;have O74:=oR Z B ER D71 D73 D70 (z.mono (by decide)) (g.mono (by decide)) (O49.mono (by decide)) (U.mono (by decide)) (P.mono (by decide)) (n.mono (by decide)) 5;have D:=XQ Z B ER D72 O74 q i;have O78:=Xw Z B ER Q D F;have O79:=XG Z B ER D75 u D O78 y;exact (oL Z B ER (FN (st:=iP 100) lk cc kk) O60 O59 y O79 u).imp (Kv λns _ _=>LF ns)
 case bnd=>exact λs v=>.of_eq rfl
end K31
namespace PySem.Challenge.cw_cutlands_k31_bounded_or_far_holds
def tw7028787466570462429:0=0:=rfl
def tw11272716388625305050:0=0:=rfl
def tw14916681909333922551:0=0:=rfl
def tw5860270464790575089:0=0:=rfl
def tw10819278530135744121:0=0:=rfl
def tw14695369574536869863:0=0:=rfl
def tw1840013157426207903:0=0:=rfl
def tw11796198443267137570:0=0:=rfl
def tw6840362404209975523:0=0:=rfl
def tw8350519719362920753:0=0:=rfl
def tw1344921212850520998:0=0:=rfl
def tw14790657473235898851:0=0:=rfl
def tw15103338302435219044:0=0:=rfl
def tw11983899230111365507:0=0:=rfl
def tw10160896413550956964:0=0:=rfl
def tw5600107487850175229:0=0:=rfl
def tw14434311205632307153:0=0:=rfl
def tw12573237534276967656:0=0:=rfl
def tw15815764963279705234:0=0:=rfl
def tw13607250187606925255:0=0:=rfl
def tw10756420237970200369:0=0:=rfl
def tw2623967413870122469:0=0:=rfl
def tw16785981645659710874:0=0:=rfl
def tw326829452147262017:0=0:=rfl
def tw11985548791839717187:0=0:=rfl
def tw12517156619746632228:0=0:=rfl
def tw14705038253907036117:0=0:=rfl
def tw8070628053558720667:0=0:=rfl
def tw2547272603403261529:0=0:=rfl
def tw16284315313834910794:0=0:=rfl
def tw13908054942501137110:0=0:=rfl
def tw14634654201728428370:0=0:=rfl
def tw6324754432102839361:0=0:=rfl
def tw16977820088240906444:0=0:=rfl
def tw15531637494145168145:0=0:=rfl
def tw3302354523813076206:0=0:=rfl
def tw10534754912519848917:0=0:=rfl
def tw18412952144418056892:0=0:=rfl
def tw2389269376989154487:0=0:=rfl
def tw11166033551630520801:0=0:=rfl
def tw10660694875303499516:0=0:=rfl
def tw1942473263768532023:0=0:=rfl
def tw2370418596416283705:0=0:=rfl
def tw16447075014874737351:0=0:=rfl
def tw785723410506562747:0=0:=rfl
def tw6680243716011279524:0=0:=rfl
def tw3733288665890623632:0=0:=rfl
def tw4071277921418806180:0=0:=rfl
def tw13318257377370097635:0=0:=rfl
def tw3033823830889516485:0=0:=rfl
def tw8590205881338373567:0=0:=rfl
def tw14847080485861955683:0=0:=rfl
def tw15804934222680190643:0=0:=rfl
def tw13535139720904378979:0=0:=rfl
def tw8041901606491655764:0=0:=rfl
def tw18290042509739279223:0=0:=rfl
def tw8228321820669224640:0=0:=rfl
def tw3671804980861359386:0=0:=rfl
def tw7099637940663359626:0=0:=rfl
def tw14942058481170479145:0=0:=rfl
def tw2176341575366319928:0=0:=rfl
def tw5993221804513579766:0=0:=rfl
def tw16096949952288674107:0=0:=rfl
def tw852164942406250674:0=0:=rfl
def tw4495626346080651733:0=0:=rfl
def tw15129789265107935955:0=0:=rfl
def tw17609019460780916490:0=0:=rfl
def tw15134058593960932662:0=0:=rfl
def tw1503654614349057493:0=0:=rfl
def tw11743894900598645587:0=0:=rfl
def tw16258163048602955023:0=0:=rfl
def tw15460968380473622059:0=0:=rfl
def tw7314572996444255438:0=0:=rfl
def tw6536643115545874933:0=0:=rfl
def tw2139950465779948477:0=0:=rfl
def tw17260320535233469225:0=0:=rfl
def tw13551783225358111227:0=0:=rfl
def tw17678888921956284184:0=0:=rfl
def tw6529826746884401557:0=0:=rfl
def tw8295218319570871514:0=0:=rfl
def tw1939274366604040566:0=0:=rfl
def tw223388544205522698:0=0:=rfl
def tw8585497109273818152:0=0:=rfl
def tw16732359800525577878:0=0:=rfl
def tw18267258782231334210:0=0:=rfl
def tw8252368863699906325:0=0:=rfl
def tw15845879375015317937:0=0:=rfl
def tw13405713082093335291:0=0:=rfl
def tw9102852464318741961:0=0:=rfl
def tw5115085572531242557:0=0:=rfl
def tw14867360217513117348:0=0:=rfl
def tw14720222413653078734:0=0:=rfl
def tw12510214567202123854:0=0:=rfl
def tw3795800418406590671:0=0:=rfl
def tw6898508333348930551:0=0:=rfl
def tw14771512446521727814:0=0:=rfl
def tw9258145758528260242:0=0:=rfl
def tw4304154528557842392:0=0:=rfl
def tw10253532787026253214:0=0:=rfl
def tw12503805855381483442:0=0:=rfl
def tw12982999857637126473:0=0:=rfl
def tw12903180716950500008:0=0:=rfl
def tw12542460857936480613:0=0:=rfl
def tw8715767700819990183:0=0:=rfl
def tw10911040140368332670:0=0:=rfl
def tw13506943888742519404:0=0:=rfl
def tw12963545169832799657:0=0:=rfl
def tw13479610477903965055:0=0:=rfl
def tw1040237532995859135:0=0:=rfl
def tw18144119922546228267:0=0:=rfl
def tw16310835978645505421:0=0:=rfl
def tw13553978711010220589:0=0:=rfl
def tw1265563971557301909:0=0:=rfl
def tw17047535225307883528:0=0:=rfl
def tw17093213503970065327:0=0:=rfl
def tw12383037941291719602:0=0:=rfl
def tw1097148301182563727:0=0:=rfl
def tw2088468265203055347:0=0:=rfl
def tw2628073832244492335:0=0:=rfl
def tw14399676335643101633:0=0:=rfl
def tw15741722052110224605:0=0:=rfl
def tw6046205752769210084:0=0:=rfl
def tw16736075535335824934:0=0:=rfl
def tw9452214431616515491:0=0:=rfl
def tw8410332056077666441:0=0:=rfl
def tw3874327726433691465:0=0:=rfl
def tw412484841597934740:0=0:=rfl
def tw13730486922872991880:0=0:=rfl
def tw6206237884610381751:0=0:=rfl
def tw5366137610063869682:0=0:=rfl
def tw911328369068280663:0=0:=rfl
def tw3664564107566149866:0=0:=rfl
def tw4539069731345425111:0=0:=rfl
def tw2942017604482186671:0=0:=rfl
def tw508199124334517808:0=0:=rfl
def tw9107146960144339401:0=0:=rfl
def tw5023171316033930285:0=0:=rfl
def tw16110170575150896034:0=0:=rfl
def tw4795211214232034897:0=0:=rfl
def tw17412463761051998328:0=0:=rfl
def tw7683205418491368091:0=0:=rfl
def tw14240327292737019167:0=0:=rfl
def tw14825149058702909566:0=0:=rfl
def tw14731056025867391179:0=0:=rfl
def tw12224382891085049166:0=0:=rfl
def tw7389108498956381808:0=0:=rfl
def tw4743828818715994706:0=0:=rfl
def tw9446795602371345711:0=0:=rfl
def tw4333133313827123163:0=0:=rfl
def tw1308467309312972811:0=0:=rfl
def tw6605326830575841958:0=0:=rfl
def tw12419998771260448537:0=0:=rfl
def tw4099259703982738629:0=0:=rfl
def tw13062335914800473712:0=0:=rfl
def tw6782783344497283978:0=0:=rfl
def tw11311127236135064535:0=0:=rfl
def tw12791792619139489268:0=0:=rfl
def tw14661121454562808685:0=0:=rfl
def tw1050885237913612252:0=0:=rfl
def tw3830127352089223787:0=0:=rfl
def tw3716153210875478320:0=0:=rfl
def tw13792906375263934966:0=0:=rfl
def tw7938593005839706777:0=0:=rfl
def tw152669236390901761:0=0:=rfl
def tw11681341201549653646:0=0:=rfl
def tw7758176479653060140:0=0:=rfl
def tw13467652387464127328:0=0:=rfl
def tw11128222960598958661:0=0:=rfl
def tw5036127941057752451:0=0:=rfl
def tw4021101465027675992:0=0:=rfl
def tw8777723744463317185:0=0:=rfl
def tw16770094447739224014:0=0:=rfl
def tw7453683289502040502:0=0:=rfl
def tw17655701853064241198:0=0:=rfl
def tw10639564018043833927:0=0:=rfl
def tw15087241249718633580:0=0:=rfl
def tw16940893570350604100:0=0:=rfl
def tw14130179882028005128:0=0:=rfl
def tw13924420580344006367:0=0:=rfl
def tw2087199346960210182:0=0:=rfl
def tw2771481144242000629:0=0:=rfl
def tw5668678312063428276:0=0:=rfl
def tw16741014524402516890:0=0:=rfl
def tw322101727631023256:0=0:=rfl
def tw4968461461841023861:0=0:=rfl
def tw2311963800099901571:0=0:=rfl
def tw6419826679061223756:0=0:=rfl
def tw10356476932088781253:0=0:=rfl
def tw11786799632860425666:0=0:=rfl
def tw5067989297212103958:0=0:=rfl
def tw7101358048293748362:0=0:=rfl
def tw7244758378363202597:0=0:=rfl
def tw17793170032608014659:0=0:=rfl
def tw16573610715270726623:0=0:=rfl
def tw9987508625192093721:0=0:=rfl
def tw8820922384051465661:0=0:=rfl
def tw11179782438671166052:0=0:=rfl
def tw3896753327482912584:0=0:=rfl
def tw13645811417185371810:0=0:=rfl
def tw3152139236054436311:0=0:=rfl
def tw404135676082682826:0=0:=rfl
def tw17881745774918087677:0=0:=rfl
def tw2888199610542712932:0=0:=rfl
def tw7203069928989110184:0=0:=rfl
def tw9972138545464955765:0=0:=rfl
def tw3266747839111013694:0=0:=rfl
def tw10311968351560055862:0=0:=rfl
def tw14436717076711069572:0=0:=rfl
def tw4763652048936364167:0=0:=rfl
def tw4859264571838188731:0=0:=rfl
def tw3461271321021252289:0=0:=rfl
def tw6902306815578710332:0=0:=rfl
def tw4388029600945697103:0=0:=rfl
def tw13918860273005530019:0=0:=rfl
def tw6220992056667208980:0=0:=rfl
def tw4403119280507948520:0=0:=rfl
def tw6081079517030919597:0=0:=rfl
def tw18259679887335993181:0=0:=rfl
def tw1407891882651476620:0=0:=rfl
end PySem.Challenge.cw_cutlands_k31_bounded_or_far_holds
open PySem PySem.W PyProof.Rows
set_option Elab.async true
theorem PySem.Challenge.cw_cutlands_k31_bounded_or_far_holds : PySem.Challenge.rw_cutlands_k31_bounded_or_far.Holds := by
 w_on;o_law;k_head;(case hw=>w_witness2);k_fill;refine L3.US (l:=PySem.Challenge.rw_cutlands_k31_bounded_or_far) (k:=22) (x:= "_law_script") rfl ⟨rfl,by decide,by decide⟩ rfl (λw h Y=>PySem.W.kIn_of Y) ?F
 case F=>intro w mg fa h KX G hmg;refine' K31.Uj KX G hmg ?a ?l ?c ?k ?B ?E (λns=>CL.Jq ns) ?_ ?_ ?_ ?_ ?_ ?_ ?_ ?_ ?_ ?_ ?_ ?_ ?_ ?_ ?_ ?_ ?_ ?_ ?_ ?_ ?_ ?_ ?_ ?_ ?_ ?_ ?_ ?_ ?_ ?_ ?_ ?_ ?_ ?_ ?_ ?_ ?_ ?_ ?_ ?_ ?_ ?_ ?_ ?_ ?_ ?_ ?_ ?_ ?_ ?_ ?_ ?_ ?_ ?_ ?_ ?_ ?_ ?_ ?_ ?_ ?_ ?_ ?_ ?_ ?_ ?_ ?_ ?_ ?_ ?_ ?_ ?_ ?_ ?_ ?_ ?_ ?_ ?_ ?_ ?_;(case a=>k_is);(case l=>k_is);(case c=>k_is);(case k=>k_is);(case B=>constructor<;>(apply mg_none_of KX G;k_is));(case E=>apply K31.UQ KX G<;>first | k_is | k_exc | decide);all_goals first | (apply L2.RC KX G<;>k_is) | (apply K31.Vx<;>first | k_is | k_exc | decide)
