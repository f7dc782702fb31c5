import PyProof.Rows.All
import Wide.All
import OpenK.AllK
import Wide.FinOn
import Lean
import PyProof.EqAt
import PyProof.EqKinds
import PyProof.TupleCall
import PyProof.P3Eq
import PyProof.NeData
import PyProof.ReprRoads
import PyProof.ReprLen
import PyProof.Rows.ReprOcc
import PyProof.ConsumeWalk
import PyProof.Rows.SumAny
import PyProof.ZipIter
import PyProof.Rows.ZipGen
import PyProof.Rows.SeqMore
import PyProof.FactsAll.tuple
import PyProof.WalksMore
import PyProof.EnumMake
import PyProof.EnumFor
import PyProof.Rows.MinMaxN
import KE.KDictList
import KE.KRevIter
import KE.KItemsList
import PyProof.Rows.SortWalk
import PyProof.Rows.SetFrom
import PyProof.SetRoads
import PyProof.StrLoop
import PyProof.StrWalks
import PyProof.StrCalls2
import PyProof.StrLawsTight
import PyProof.StrLawsReplace
import PyProof.SliceStr2
import PyProof.StrOps
import PyProof.Rows.DictRows
import KE.KIntText
import PyProof.AttrMissHeap
import KE.KDictOf
import PyProof.ExcInit
import PyProof.ExcClass3
import PyProof.InstStoreFacts
import PyProof.Rows.ChunkEnd
import KE.KSortTup
import PyProof.SetKind
import PyProof.SetScanFacts
import PyProof.TupleKey
import PyProof.IsRules
import KE.KDictSum
import KE.KLam
import PyProof.Rows.SortRunsK
import PySem.Challenge.RW_cutlands_k33_boxes
set_option bootstrap.genMatcherCode false
set_option maxRecDepth 100000
set_option maxHeartbeats 0
set_option linter.all false
noncomputable section
set_option compiler.extract_closed false
set_option hygiene false
abbrev LI:=List Int
abbrev LL:=List LI
section
open PySem
def aa:=@List.getElem?_eq_some_iff
def ae:=@Heap.get?_push_of_some
def af:=@List.getD_eq_getElem?_getD
def ag:=@List.getElem?_eq_getElem
def ai:=@List.mem_append
def aj:=@List.mem_singleton
def ak:=@wpAny_pure
def ao:=@wpAny_bind
def aq:=@List.getElem?_set_ne
def ar:=@Heap.get?_push_size
def au:=@List.mem_of_getElem?
def av:=@List.getElem?_map
def aw:=@List.length_map
def ax:=@List.mem_append_left
def ay:=@List.length_cons
def aA:=@Int.le_of_lt
def aB:=@decide_eq_false
def aC:=@decide_eq_true
def aD:=@List.mem_map
def aE:=@Nat.lt_of_lt_of_le
def aF:=@List.mem_cons
def aG:=@Nat.zero_add
def aH:=@Bool.false_ne_true
def aI:=@List.map_map
def aJ:=@Int.mul_le_mul_of_nonneg_right
def aK:=@Nat.le_refl
def aL:=@Heap.lt_size
def aM:=@Nat.ne_of_lt
def aN:=@Nat.le_trans
def aO:=@Classical.byContradiction
def aP:=@Int.mul_nonneg
def aQ:=@if_pos
def aR:=@if_neg
def aS:=@List.mem_range
def aT:=@List.length_append
def aU:=@List.mem_filter
def aV:=@List.getElem_mem
def aW:=@List.of_mem_zip
def aX:=@Int.mul_pos
def aY:=@Int.natAbs_mul
def aZ:=@List.map_append
def a9:=@Nat.lt_irrefl
def bg:=@List.eq_of_mem_replicate
def bh:=@Nat.le_of_lt
def bj:=@List.filterMap_cons
def bx:=@List.mem_cons_self
def bz:=@List.mem_cons_of_mem
def bA:=@Array.append_assoc
def bB:=@Array.length_toList
def bC:=@Nat.ne_of_gt
def bD:=@Int.mul_one
def bE:=@List.mem_filterMap
def bF:=@List.mem_append_right
def bG:=@List.size_toArray
def bH:=@List.any_eq_false
def bI:=@List.map_cons
def bJ:=@Nat.le_of_eq
def bK:=@Nat.lt_succ_self
def bL:=@Nat.zero_le
def bM:=@List.append_nil
def bN:=@Nat.le_succ
def bO:=@List.nodup_cons
def bQ:=@Option.isSome_iff_exists
def bR:=@List.length_take
def bS:=@List.length_replicate
def bT:=@Int.toNat_natCast
def bU:=@List.length_drop
def bV:=@Bool.and_eq_true
def bW:=@List.length_set
def bX:=@List.all_cons
def bY:=@List.any_cons
def bZ:=@List.replicate_succ
def b4:=@List.flatten_cons
def b5:=@List.append_assoc
def b6:=@List.length_singleton
def b7:=@Nat.succ_mul
def b8:=@List.nil_append
def b9:=@Nat.mul_comm
def cf:=@List.map_nil
def cg:=@Nat.lt_of_le_of_lt
def cj:=@Bool.false_eq_true
def cm:=@List.lookup_cons
def cq:=@Nat.le_of_succ_le
def cu:=@Nat.lt_succ_of_lt
def cv:=@Option.isSome_some
def cw:=@Nat.le_add_right
def cx:=@Nat.le_succ_of_le
def cy:=@List.range_succ_eq_map
def cA:=@List.all_map
def cB:=@List.any_map
def cC:=@List.take_of_length_le
def cD:=@List.all_eq_true
def cE:=@List.length_nil
def cF:=@Option.isSome_map
def cG:=@Int.toNat_of_nonneg
def cH:=@Nat.lt_trichotomy
def cI:=@Nat.sub_zero
def cJ:=@List.pairwise_iff_getElem
def cK:=@Int.gcd_dvd_left
def cL:=@Int.gcd_dvd_right
def cN:=@Int.dvd_mul_of_dvd_left
def cO:=@Int.fmod_nonneg_of_pos
def cP:=@Int.fmod_lt_of_pos
def cQ:=@Int.natAbs_natCast
def cR:=@Int.gcd_pos_of_ne_zero_right
def cS:=@Int.mul_assoc
def cT:=@Int.mul_comm
def cU:=@Int.mul_fdiv_cancel_left
def cV:=@Int.mul_neg
def cW:=@Int.eq_of_mul_eq_mul_right
def cX:=@Int.mul_ne_zero
def cY:=@Int.gcd_comm
def cZ:=@Int.dvd_gcd_mul_iff_dvd_mul
def c6:=@Nat.eq_zero_or_pos
def c7:=@List.lookup_cons_self
def c8:=@List.drop_eq_getElem_cons
def c9:=@List.mem_nil_iff
def dc:=@List.map_take
def de:=@List.map_drop
def dg:=@Nat.not_lt_zero
def dh:=@Nat.pow_le_pow_right
def du:=@Nat.le_max_left
def dw:=@Nat.le_max_right
def dy:=@Nat.pow_succ
def dz:=@Int.natAbs_add_le
def dA:=@Int.natAbs_neg
def dB:=@List.drop_zero
def dC:=@Nat.min_eq_left
def dD:=@List.drop_of_length_le
def dE:=@List.length_reverse
def dF:=@List.mem_iff_getElem?
def dG:=@List.dropLast_concat_getLast
def dH:=@Bool.true_and
def dI:=@Nat.two_pow_pos
def dJ:=@Int.one_mul
def dM:=@List.take_length
def dN:=@List.getElem_map
def dO:=@Int.mul_zero
def dP:=@Int.mul_eq_zero
def dQ:=@Int.neg_mul
def dR:=@Int.zero_mul
def dS:=@Int.mul_add
def dU:=@Int.add_zero
def dW:=@List.length_erase_of_mem
def dX:=@List.map_set
def dY:=@List.length_zip
def dZ:=@List.any_eq_true
def d8:=@List.mem_of_mem_take
def eg:=@List.pairwise_append
def eA:=@List.countP_mono_left
def eD:=@Int.le_refl
def eE:=@Int.le_trans
def eF:=@Nat.lt_or_ge
def eG:=@Int.mul_nonpos_of_nonneg_of_nonpos
def eI:=@List.mem_of_mem_erase
def eJ:=@List.countP_eq_length_filter
def eK:=@List.nodup_range
def eM:=@Int.mul_neg_of_pos_of_neg
def eN:=@Rat.intCast_lt_intCast
def eO:=@Rat.intCast_mul
def eP:=@Rat.intCast_sub
def eQ:=@Rat.mul_pos
def eR:=@Rat.le_of_lt
def eS:=@Nat.max_le
def eT:=@List.sum_cons
def eU:=@Int.fdiv_nonneg
def eV:=@Int.mul_le_mul_of_nonneg_left
def eW:=@Int.not_lt
def eX:=@Int.lt_of_mul_lt_mul_right
def eY:=@Int.pow_pos
def eZ:=@Int.mul_le_mul
def fg:=@Int.pow_succ
def fj:=@Nat.mul_le_mul_left
def fv:=@List.mem_or_eq_of_mem_set
def fw:=@List.pairwise_map
def fz:=@List.pairwise_singleton
def fC:=@List.map_congr_left
def fE:=@List.length_filter_le
def fF:=@List.filter_append
def fG:=@List.mem_flatMap
def fH:=@Nat.mul_le_mul
def fJ:=@Int.lt_trichotomy
def fK:=@Rat.lt_of_mul_lt_mul_left
def fL:=@List.length_pos_of_mem
def fM:=@List.ext_getElem
def fN:=@List.getElem_range
def fO:=@Int.lt_of_mul_lt_mul_left
def fP:=@List.length_eq_zero_iff
def fQ:=@List.zip_cons_cons
def fR:=@Rat.mul_nonneg
def fS:=@Nat.sub_self
def fT:=@Nat.mul_le_mul_right
def fU:=@List.length_zipIdx
def fV:=@List.filter_sublist
def fW:=@List.nodup_append
def fX:=@List.length_range
def fY:=@List.mem_of_mem_drop
def fZ:=@List.eq_replicate_iff
def f9:=@List.filter_eq_nil_iff
def gh:=@Rat.le_refl
def gq:=@Int.mul_sub
def gw:=@Rat.mul_zero
def gx:=@List.dropLast_subset
def gy:=@List.getElem_take
def gz:=@Int.lt_of_lt_of_le
def gA:=@Int.pos_of_mul_pos_right
def gB:=@List.filter_congr
def gC:=@List.mem_zipIdx_iff_getElem?
def gD:=@List.getElem_of_mem
def gE:=@List.flatMap_cons
def gF:=@List.filter_cons_of_pos
def gG:=@List.filter_cons_of_neg
def gH:=@Bool.eq_false_iff
end
set_option Elab.async false
namespace L2
open PySem PySem.Spec PyProof.Rows
abbrev qP:=Sum Int Str
noncomputable def Bv:qP->Value->Bool
 |.inl k,v=>Value.isInt k v
 |.inr x,v=>Value.isStrOf x v
def V2(w:World):qP->Int
 |.inl k=>hashInt k
 |.inr x=>hashStr w x
theorem kL:∀{k} {v},Bv k v=true->(∃i t,k=Sum.inl i/\v=Value.int i t)\/(∃x t,k=Sum.inr x/\v=Value.str x t)
 |.inl i,v,h=>by obtain⟨t,e⟩:=Value.isInt_shape h;exact .inl ⟨i,t,rfl,e⟩
 |.inr x,v,h=>by obtain⟨t,e⟩:=Value.isStrOf_shape h;exact .inr ⟨x,t,rfl,e⟩
def IF i t:Bv (.inl i) (.int i t)=true:=by simp[Bv,Value.isInt]
def JD x t:Bv (.inr x) (.str x t)=true:=by simp[Bv,Value.isStrOf]
def Rj a b:decide ((Sum.inl a:qP)=Sum.inl b)=(a==b):=by
 by_cases e:a=b
 .subst e;simp
 .have h:¬(Sum.inl a:qP)=Sum.inl b:=λq=>e (Sum.inl.inj q);rw[aB h];exact (beq_eq_false_iff_ne.mpr e).symm
def SD a b:decide ((Sum.inr a:qP)=Sum.inr b)=decide (a=b):=by
 by_cases e:a=b
 .subst e;simp
 .have h:¬(Sum.inr a:qP)=Sum.inr b:=λq=>e (Sum.inr.inj q);rw[aB h,aB e]
def Ro a b:decide ((Sum.inl a:qP)=Sum.inr b)=false:=aB (λq=>nomatch q)
def TJ a b:decide ((Sum.inr a:qP)=Sum.inl b)=false:=aB (λq=>nomatch q)
noncomputable def mv(prog:Program)(w:World):PySem.KeyKind prog w qP where
 is:=Bv
 hash:=V2 w
 inj:=λv a b g d=>by
  rcases kL g with⟨i,t,rfl,rfl⟩|⟨x,t,rfl,rfl⟩
  .rcases kL d with⟨j,u,rfl,e⟩|⟨y,u,rfl,e⟩
   .injection e with c _;rw[c]
   .exact nomatch e
  .rcases kL d with⟨j,u,rfl,e⟩|⟨y,u,rfl,e⟩
   .exact nomatch e
   .injection e with c _;rw[c]
 byValue:=λk v h=>by rcases kL h with⟨i,t,rfl,rfl⟩|⟨x,t,rfl,rfl⟩<;>rfl
 pyHash:=λhv h=>by
  rcases kL hv with⟨i,t,rfl,rfl⟩|⟨x,t,rfl,rfl⟩
  .exact wpAny_pyHash_int h
  .exact wpAny_pyHash_str h
 eqBool:=λf hv h=>by
  rcases kL f with⟨i,t,rfl,rfl⟩|⟨x,t,rfl,rfl⟩
  .rcases kL hv with⟨j,u,rfl,rfl⟩|⟨y,u,rfl,rfl⟩
   .rw[Rj]at h;exact wpAny_eqBool_int h
   .rw[Ro]at h;exact SeqAt.EqAt.int_str i t y u _ _ _ _ h
  .rcases kL hv with⟨j,u,rfl,rfl⟩|⟨y,u,rfl,rfl⟩
   .rw[TJ]at h;exact SeqAt.EqAt.str_int x t j u _ _ _ _ h
   .rw[SD]at h;exact wpAny_eqBool_str h
 «strs»:=λk x t v h=>by
  rcases kL h with⟨i,u,rfl,e⟩|⟨y,u,rfl,e⟩
  .exact nomatch e
  .injection e with c _;subst c;cases v<;>rfl
def Em prog w i t:(mv prog w).is (.inl i) (.int i t)=true:=IF i t
def DA prog w x t:(mv prog w).is (.inr x) (.str x t)=true:=JD x t
end L2
namespace L2
open PySem PySem.Spec PyProof.Rows
inductive V where
 |non|bl (b:Bool)|int (i:Int)|str (x:Str)|byt (b:Array UInt8)|flt (b:UInt64)|ref (a:Addr)|ty (n:String)
 deriving DecidableEq
def jB:V->Value->Prop
 |.non,u=>u=Value.none
 |.bl b,u=>u=Value.bool b
 |.int i,u=>∃t,u=Value.int i t
 |.str x,u=>∃t,u=Value.str x t
 |.byt b,u=>∃t,u=Value.bytes b t
 |.flt b,u=>∃t,u=Value.float b t
 |.ref a,u=>u=Value.ref a
 |.ty n,u=>u=Value.type n
abbrev ji:List V->List Value->Prop:=Paired jB
def ji.length(r:ji xs us):xs.length=us.length:=Paired.length r
theorem ji.get:∀{a:List V} {us:List Value} {i:Nat} {x:V},ji a us->a[i]? = some x->∃u,us[i]? = some u/\jB x u
 |_,_,_,_,.nil,e=>by simp at e
 |_,_,0,_,.cons r _,e=>by simp at e;subst e;exact⟨_,rfl,r⟩
 |_,_,i+1,x,.cons _ t,e=>by obtain⟨u,c,b⟩:=ji.get t (by simpa using e);exact⟨u,by simpa using c,b⟩
theorem ji.set(r:jB x u):∀{xs} {us} i,ji xs us->ji (xs.set i x) (us.set i u)
 |_,_,_,.nil=>.nil
 |_,_,0,.cons _ t=>.cons r t
 |_,_,i+1,.cons q t=>.cons q (ji.set r i t)
theorem ji.append:∀{xs ys} {us ws},ji xs us->ji ys ws->ji (xs++ys) (us++ws)
 |_,_,_,_,.nil,s=>s
 |_,_,_,_,.cons r t,s=>.cons r (ji.append t s)
theorem ji.take:∀{xs} {us} n,ji xs us->ji (xs.take n) (us.take n)
 |_,_,0,_=>.nil
 |_,_,_+1,.nil=>.nil
 |_,_,n+1,.cons r t=>.cons r (ji.take n t)
theorem ji.drop:∀{xs} {us} n,ji xs us->ji (xs.drop n) (us.drop n)
 |_,_,0,r=>r
 |_,_,_+1,.nil=>.nil
 |_,_,n+1,.cons _ t=>ji.drop n t
def uS:Option V->Option Value->Prop
 |some v,some u=>jB v u
 |none,none=>True
 |_,_=>False
def KV{a:Type}:List (a×V)->List (a×Value)->Prop:=Paired λ(p:a×V) (q:a×Value)=>p.1=q.1/\jB p.2 q.2
def kV:qP->V
 |.inl i=>.int i
 |.inr x=>.str x
inductive HO where
 |lst (xs:List V)
 |tup (xs:List V)
 |dK (kvs:List (qP×V))|dT (kvs:List (List qP×V))
 |set (S:Int->Bool) (n:Nat)
 |ins (C dx:Addr) (fs:List (Str×V))
 |own (x:Addr)
 |xd (fs:List (Str×V))
 |met (f x:Addr)
 |rng (lo hi:Int)
 |frz (o:Obj) (u:HO)
 |tbl (q:Str) (ps:Array Value)
 |ext (φ:Heap->Prop)
abbrev Hp:=Addr->Option HO
noncomputable def jY(H:Hp)(a:Addr)(o:HO):Hp:=λb=>if b=a then some o else H b
def ig:jY H a o a=some o:=by unfold jY;rw[aQ rfl]
def ie(h:b≠a):jY H a o b=H b:=by unfold jY;rw[aR h]
def QI{H:Hp}(h:H a=some o)(c:H b=some u)(d:o≠u):a≠b:=by intro e;subst e;rw[h]at c;exact d (Option.some.inj c)
def i7{H:Hp}(h:H a=some o)(c:H b=none):a≠b:=by intro e;subst e;rw[h]at c;cases c
section
variable (P:Program)(w:World)
def yS(h:Heap)(a:Addr)(items:Array Value):Prop:=∃o,h.get? a=some o/\o.cls=.type "tuple" /\∃n,o.data=.seq items n/\o.dict=none
def yS.tup(x:yS h a items):IsTup h a items:=let ⟨o,e,c,n,d,_⟩:=x;⟨o,e,c,n,d⟩
def yS.new(h:Heap) items:yS (h.push {cls:=.type "tuple",data:=.seq items}) h.objs.size items:=⟨_,ar _ rfl,rfl,_,rfl,rfl⟩
def HL:List Value->List Value
 |_::_::c::r=>c::HL r
 |_=>[]
def l6(H:Hp)(h:Heap)(a:Addr):HO->Prop
 |.lst c=>c.length<=sizeLine/\∃(its:List Value) (n:Nat),ji c its/\h.get? a=some {cls:=.type "list",data:=.seq its.toArray n}
 |.tup c=>c.length<=sizeLine/\∃its:List Value,ji c its/\yS h a its.toArray
 |.dK kvs=>kvs.length<=sizeLine/\(a==sysModules)=false/\∃vs,KV kvs vs/\h.DictOf (mv P w) a vs
 |.dT kvs=>kvs.length<=sizeLine/\(a==sysModules)=false/\∃c:List (List qP×Addr×Value),
   Paired (λ(p:List qP×V) (q:List qP×Addr×Value)=>p.1=q.1/\H q.2.1=some (.tup (p.1.map kV))/\jB p.2 q.2.2) kvs c/\
   ∃o e j,h.get? a=some o/\o.ExactDict/\o.data=.dict e j/\e.toList=c.map (entryOfKey (tupleKind (mv P w)))/\(c.map (·.1)).Nodup
 |.set S n=>h.SetOf (intKind P w) a S n
 |.ins C dx fs=>H dx=some (.own a)/\fs.length<=1000/\dx≠a/\h.get? a=some (W.instObj C dx)/\
   ∃d,h.Ns1 dx d/\(∀f,uS (fs.lookup f) (d f))/\PySem.Within d (fs.map (·.1))
 |.own _=>∃o,h.get? a=some o
 |.xd fs=>∃d,h.Ns1 a d/\∀f,uS (fs.lookup f) (d f)
 |.rng lo hi=>∃t u v,h.get? a=some {cls:=.type "range",data:=.fields #[.int lo t,.int hi u,.int 1 v]}
 |.frz o u=>h.get? a=some o/\l6 H h a u
 |.tbl q ps=>h.get? a=some {cls:=.none,data:=.fields ps}/\TriplesOk ps.toList/\∀v∈HL ps.toList,∃b,v=.ref b/\H b=some (.own a)/\h.CodeRec (.ref b) q
 |.met f x=>h.get? a=some (W.methodObj (.ref f) (.ref x))
 |.ext φ=>φ h/\(∃o,h.get? a=some o)/\∀i g:Heap,φ i->(∀o,i.get? a=some o->g.get? a=some o)->φ g
def uw(H:Hp)(h:Heap):Prop:=∀a o,H a=some o->l6 P w H h a o
end
section
variable {P:Program}{w:World}{H H':Hp}{h h':Heap}{a:Addr}{o:HO}
def l6.lt(x:l6 P w H h a o):a<h.objs.size:=by
 cases o with
 |lst xs=>obtain⟨_,_,_,_,e⟩:=x;exact aL e
 |tup xs=>obtain⟨_,_,_,p⟩:=x;exact (yS.tup p).lt
 |dK kvs=>obtain⟨_,_,_,_,o,_,_,e,_⟩:=x;exact aL e
 |dT kvs=>obtain⟨_,_,_,_,o,_,_,e,_⟩:=x;exact aL e
 |set S n=>obtain⟨o,_,_,_,e,_⟩:=x;exact aL e
 |ins C dx fs=>obtain⟨_,_,_,e,_⟩:=x;exact aL e
 |own y=>obtain⟨_,e⟩:=x;exact aL e
 |xd fs=>obtain⟨_,⟨_,_,_,e,_⟩,_⟩:=x;exact aL e
 |rng lo hi=>obtain⟨_,_,_,e⟩:=x;exact aL e
 |frz ob u=>obtain⟨e,_⟩:=x;exact aL e
 |tbl q ps=>exact aL x.1
 |met f y=>exact aL (x)
 |ext φ=>obtain⟨_,⟨_,e⟩,_⟩:=x;exact aL e
theorem Paired.mapP{F G:α->β->Prop}:∀{l₁} {l₂},Paired F l₁ l₂->(∀a b,F a b->G a b)->Paired G l₁ l₂
 |_,_,.nil,_=>.nil
 |_,_,.cons r t,f=>.cons (f _ _ r) (Paired.mapP t f)
def Paired.imp'{F G:α->β->Prop}(f:∀a b,F a b->G a b){d:List α}{c:List β}(r:Paired F d c):Paired G d c:=Paired.mapP r f
theorem l6.stay(x:l6 P w H h a o)(k:∀b u,(b=a\/H b=some (.own a))->h.get? b=some u->h'.get? b=some u)
  (E:∀b,H b=some (.own a)->H' b=some (.own a)) (J:∀b m,H b=some (.tup m)->H' b=some (.tup m)):l6 P w H' h' a o:=by
 induction o with
 |lst m=>obtain⟨z,l,n,r,e⟩:=x;exact⟨z,l,n,r,k _ _ (.inl rfl) e⟩
 |tup m=>obtain⟨z,l,r,g,e,c⟩:=x;exact⟨z,l,r,g,k _ _ (.inl rfl) e,c⟩
 |dK kvs=>obtain⟨z,y,B,r,g,j,i,e,c⟩:=x;exact⟨z,y,B,r,g,j,i,k _ _ (.inl rfl) e,c⟩
 |dT kvs=>obtain⟨z,y,m,r,g,j,i,e,c⟩:=x;exact⟨z,y,m,Paired.mapP r λp q z=>⟨z.1,J _ _ z.2.1,z.2.2⟩,g,j,i,k _ _ (.inl rfl) e,c⟩
 |set S n=>obtain⟨g,j,i,t,e,c⟩:=x;exact⟨g,j,i,t,k _ _ (.inl rfl) e,c⟩
 |ins C dx fs=>obtain⟨d,z,ne,e,D,⟨s,j,i,A,c⟩,r⟩:=x;exact⟨E _ d,z,ne,k _ _ (.inl rfl) e,D,⟨s,j,i,k _ _ (.inr d) A,c⟩,r⟩
 |own y=>obtain⟨g,e⟩:=x;exact⟨g,k _ _ (.inl rfl) e⟩
 |xd fs=>obtain⟨D,⟨s,j,i,e,c⟩,r⟩:=x;exact⟨D,⟨s,j,i,k _ _ (.inl rfl) e,c⟩,r⟩
 |rng lo hi=>obtain⟨t,u,v,e⟩:=x;exact⟨t,u,v,k _ _ (.inl rfl) e⟩
 |frz g u ih=>obtain⟨e,q⟩:=x;exact⟨k _ _ (.inl rfl) e,ih q⟩
 |tbl q ps=>obtain⟨e,t,cs⟩:=x;refine⟨k a _ (.inl rfl) e,t,λv hv=>?_⟩;obtain⟨b,L,I,c,o,B,Q,N,A,K⟩:=cs v hv;cases N;exact⟨_,L,E _ I,_,o,B,Q,rfl,k _ _ (.inr I) A,K⟩
 |met f y=>have e:=x;exact k a _ (.inl rfl) e
 |ext φ=>obtain⟨p,⟨o,e⟩,F⟩:=x;exact⟨F _ _ p λo q=>k _ _ (.inl rfl) q,⟨o,k _ _ (.inl rfl) e⟩,F⟩
def uw.lt(x:uw P w H h)(e:H a=some o):a<h.objs.size:=(x a o e).lt
def uw.fresh(x:uw P w H h)(e:h.objs.size<=a):H a=none:=by
 cases q:H a with
 |none=>rfl
 |some u=>exact absurd (aE (x.lt q) e) (a9 _)
def uw.kept(x:uw P w H h)(k:∀b u,h.get? b=some u->h'.get? b=some u):uw P w H h':=λa o e=>(x a o e).stay (λb u _ q=>k b u q) (λ_ q=>q) λ_ _ q=>q
def uw.laid(x:uw P w H h)(k:∀b u,h.get? b=some u->h'.get? b=some u)(g:h.objs.size<=a)(new:l6 P w (jY H a o) h' a o):uw P w (jY H a o) h':=λb u e=>by
 have d:=x.fresh g;by_cases f:b=a
 .subst f;rw[ig]at e;cases e;exact new
 .rw[ie f]at e;exact (x b u e).stay (λc v _ q=>k c v q) (λc q=>by rw[ie (i7 q d)];exact q) λc i q=>by rw[ie (i7 q d)];exact q
end
def Rd(H:Hp)(a:Addr)(u:HO):Prop:=H a=some u\/∃o,H a=some (.frz o u)
def Rd.ok(r:Rd H a u)(x:uw P w H h):l6 P w H h a u:=by
 rcases r with r|⟨o,r⟩
 .exact x a u r
 .obtain⟨_,q⟩:=x a _ r;exact q
def Vq:Option HO->Prop
 |some (.lst _)=>True
 |some (.dK _)=>True
 |some (.dT _)=>True
 |some (.set _ _)=>True
 |some (.ins _ _ _)=>True
 |some (.ext _)=>True
 |_=>False
section
variable {P:Program}{w:World}{H:Hp}{h h':Heap}{x e:Addr}{o':HO}
def uw.write(ok:uw P w H h)(g:Vq (H x))(n:e=x\/H e=some (.own x))(k:∀b u,b≠e->h.get? b=some u->h'.get? b=some u)(m:∃u,h'.get? e=some u)
  (new:l6 P w (jY H x o') h' x o'):uw P w (jY H x o') h':=λb u q=>by
 have d:∀c y,H c=some (.own y)->c≠x:=λc y r z=>by subst z;rw[r]at g;exact g
 have f:∀c i,H c=some (.tup i)->c≠x:=λc i r z=>by subst z;rw[r]at g;exact g
 by_cases j:b=x
 .subst j;rw[ig]at q;cases q;exact new
 .rw[ie j]at q;by_cases a:b=e
  .have o:H b=some (.own x):=by
    rcases n with z|z
    .exact absurd (a.trans z) j
    .rw[a];exact z
   rw[q]at o;cases o;obtain⟨v,hv⟩:=m;exact⟨v,by rw[a];exact hv⟩
  .refine (ok b u q).stay (λc v l r=>k c v ?_ r) (λc r=>by rw[ie (d c b r)];exact r) λc i r=>by rw[ie (f c i r)];exact r
   rcases l with rfl|l
   .exact a
   .rintro rfl;rcases n with z|z
    .exact d c b l z
    .rw[l]at z;cases z;exact j rfl
end
structure Un(fs ex:List Addr)(H H':Hp)(h h':Heap):Prop where
 keep:∀b o,h.get? b=some o->H b=none->b∉fs->b∉ex->h'.get? b=some o
 slot:∀b o,h.get? b=some o->H b=none->b∈fs->b∉ex->∃sl,h'.get? b=some {o with slots:=sl}
 free:∀b o,h.get? b=some o->H b=none->b∉ex->H' b=none
 there:∀b o,h.get? b=some o->b∉ex->∃o',h'.get? b=some o'
 tups:∀b xs,H b=some (.tup xs)->H' b=some (.tup xs)
 frzs:∀b o u,H b=some (.frz o u)->H' b=some (.frz o u)
 tbls:∀b q ps,H b=some (.tbl q ps)->∃more,H' b=some (.tbl q (ps++more))
section
variable {fs fs' ex ex':List Addr}{H H1 H2:Hp}{h h1 h2 h':Heap}{a x e:Addr}{o:HO}
def Un.any(u:Un fs ex H H1 h h1)(q:h.get? b=some ob)(n:H b=none)(c:b∉ex):∃f,h1.get? b=some {ob with slots:=f}:=by
 by_cases d:b∈fs
 .exact u.slot b ob q n d c
 .exact⟨ob.slots,u.keep b ob q n d c⟩
def Un.kept(k:∀b u,h.get? b=some u->h'.get? b=some u):Un fs ex H H h h':=⟨λb c q _ _ _=>k b c q,λb c q _ _ _=>⟨c.slots,k b c q⟩,λ_ _ _ n _=>n,λb c q _=>⟨c,k b c q⟩,λ_ _ q=>q,λ_ _ _ q=>q,λ_ _ d q=>⟨#[],by rw[q];simp⟩⟩
def Un.refl:Un fs ex H H h h:=Un.kept λ_ _ q=>q
def Un.laid(k:∀b u,h.get? b=some u->h'.get? b=some u)(d:h.objs.size<=a)(c:H a=none):Un fs ex H (jY H a o) h h' where
 keep:=λb u q _ _ _=>k b u q
 slot:=λb u q _ _ _=>⟨u.slots,k b u q⟩
 free:=λb u q n _=>by rw[ie (aM (aE (aL q) d))];exact n
 there:=λb u q _=>⟨u,k b u q⟩
 tups:=λb f q=>by rw[ie (i7 q c)];exact q
 frzs:=λb u f q=>by rw[ie (i7 q c)];exact q
 tbls:=λb _ g q=>⟨#[],by rw[ie (i7 q c),q];simp⟩
def Un.write(d:Vq (H x))(p:e=x\/H e=some (.own x))(k:∀b u,b≠e->h.get? b=some u->h'.get? b=some u)(g:∃u,h'.get? e=some u):Un fs ex H (jY H x o) h h':=by
 have i:∀b,H b=none->b≠x:=λb n z=>by subst z;rw[n]at d;exact d
 have j:∀b,H b=none->b≠e:=λb n z=>by
  subst z;rcases p with r|r
  .exact i b n r
  .rw[n]at r;cases r
 have f:∀b u,H b=some u->¬Vq (some u)->b≠x:=λb u q l z=>by subst z;rw[q]at d;exact l d
 refine⟨λb u q n _ _=>k b u (j b n) q,λb u q n _ _=>⟨u.slots,k b u (j b n) q⟩,λb u q n _=>by rw[ie (i b n)];exact n,λb u q _=>?_,
  λb m q=>by rw[ie (f b _ q λz=>z)];exact q,λb u m q=>by rw[ie (f b _ q λz=>z)];exact q,λb _ s q=>⟨#[],by rw[ie (f b _ q λz=>z),q];simp⟩⟩
 by_cases c:b=e
 .subst c;exact g
 .exact⟨u,k b u c q⟩
end
noncomputable def VA(h:Heap)(H:Hp):List Addr:=(List.range h.objs.size).filter λa=>(H a).isSome
def KH(h:Heap)(H:Hp):Heap:=W.hideAll h (VA h H)
def JI h H:(KH h H).objs.size=h.objs.size:=W.hideAll_size _ _
def Lc(e:h.get? b=some o)(n:H b=none):(KH h H).get? b=some o:=W.hideAll_get _ e λa=>by have q:=(aU.mp a).2;rw[n]at q;simp at q
def Qz(e:(KH h H).get? b=some o):h.get? b=some o/\H b=none:=by
 have a:=W.of_hideAll (VA h H) e;refine⟨a,?_⟩;cases q:H b with
 |none=>rfl
 |some x=>have c:b∈VA h H:=aU.mpr ⟨aS.mpr (aL a),by simp[q]⟩;have z:(KH h H).get? b=none:=W.hideAll_none (VA h H) c;rw[z]at e;cases e
end L2
namespace L2
open PySem PySem.Spec PyProof.Rows
structure Mod(K:W.Frag)(mg:Str->Option Value)(base:Heap):Prop where
 kin:K.In base
 glob:base.Ns mainGlobals mg
 blt:∃mb,base.Ns builtinsNs mb/\∀x:Str,x≠ "__name__" ->mb x=bootBuiltins x
 nolimit:base.NoLimit
def Ny(a:Heap)(H:Hp):Prop:=∀c P b,(c,P)∈a.life.ids->a.CodeRec (.ref c) b->∃d,H P=some (.tbl (b++ ".<locals>.<lambda>") d)
structure Cx where
 prog:Program
 w:World
 K:W.Frag
 mg:Str->Option Value
 base:Heap
 A:Around
 N:List Str
 s₀:Shared
 H₀:Hp
 env:Env
 outer:List Env
 stack:List Env
 ex:List Addr
 fn:Str->Bool
 calm:Bool
 pn:List (Addr×Obj)
 xe:Value->Shared->Prop
noncomputable def Iy(l:List Env):List Addr:=l.filterMap (·.frame)
abbrev Cx.fs(X:Cx):List Addr:=Iy X.outer
def U3(a:Scope)(x:Str):Prop:=a.names.lookup x=some .local\/a.names.lookup x=some .cell\/a.names.lookup x=some .free
def IQ(a:Scope)(x:Str):Prop:=a.names.lookup x=some .local\/a.names.lookup x=some .cell
def Wp(a:Env)(h:Heap)(m:Str->Option Value)(x:Str)(u:Value):Prop:=(a.kindOf x=some .local/\m x=some u)\/((a.kindOf x=some .cell\/a.kindOf x=some .free)/\∃c,a.cells.lookup x=some c/\h.IsCell c (some u))
structure Cx.Ok(X:Cx):Prop where
 mod:Mod X.K X.mg X.base
 kind:X.env.scope.kind=.function
 glob:X.env.globals=mainGlobals
 blt:X.env.builtins=builtinsNs
 above:X.s₀.heap.objs.size<=X.env.locals
 inj:∀x y c,X.env.cells.lookup x=some c->X.env.cells.lookup y=some c->x=y
 has:∀x,(X.env.kindOf x=some .cell\/X.env.kindOf x=some .free)->∃c,X.env.cells.lookup x=some c
 cab:∀x c,X.fn x=true->X.env.cells.lookup x=some c->X.s₀.heap.objs.size<=c
 hd:X.calm=true->X.A.handled=none
 frames:X.A.frames=some X.stack
 stk:X.stack=X.outer\/(X.stack=X.env::X.outer/\X.env.frame=some X.env.locals)
 exf:∀b∈X.ex,b≠X.env.locals/\∀x c,X.env.cells.lookup x=some c->c≠b
 bs:∀b o,X.base.get? b=some o->X.s₀.heap.get? b=some o/\X.H₀ b=none
 bsz:X.base.objs.size<=X.s₀.heap.objs.size
 noex:∀b o,X.base.get? b=some o->b∉X.ex
 exfs:∀b∈X.ex,b∉X.fs
 funs:X.s₀.heap.FunFrames X.base X.outer
 frf:∀b∈X.fs,X.H₀ b=none
 tab:Ny X.base X.H₀
structure iE(X:Cx)(gO:List (Addr×Obj))(σ:List (Option V))(H:Hp)(s:Shared):Prop where
 ok:X.Ok
 os:s.os=X.s₀.os
 bare:AllBare s.gens
 base:Un X.fs X.ex X.H₀ H X.s₀.heap s.heap
 loc:∃m,s.heap.Ns X.env.locals m/\∀(i:Nat) (x:Str) (v:V),X.N[i]? = some x->σ[i]? = some (some v)->U3 X.env.scope x->∃u,jB v u/\Wp X.env s.heap m x u
 cell:∀x c,X.env.cells.lookup x=some c->∃v,s.heap.IsCell c v
 free:H X.env.locals=none
 freeC:∀x c,X.env.cells.lookup x=some c->H c=none
 pin:∀p∈X.pn++gO,s.heap.get? p.1=some p.2/\H p.1=none/\p.1≠X.env.locals/\p.1∉X.fs/\∀v,p.2.data≠.cell v
 hok:uw X.prog X.w H s.heap
 len:σ.length=X.N.length
section
variable {X:Cx}{gO:List (Addr×Obj)}{σ:List (Option V)}{H H':Hp}{s:Shared}{h':Heap}
def Cx.Ok.nofr(ok:X.Ok)(e:X.base.get? b=some o):b∉X.fs:=λa=>by have:=(ok.funs.mem a).1;rw[e]at this;cases this
def iE.bs(I:iE X gO σ H s):∀b o,X.base.get? b=some o->s.heap.get? b=some o/\H b=none:=λb o e=>⟨I.base.keep b o (I.ok.bs b o e).1 (I.ok.bs b o e).2 (I.ok.nofr e) (I.ok.noex b o e),I.base.free b o (I.ok.bs b o e).1 (I.ok.bs b o e).2 (I.ok.noex b o e)⟩
def iE.tab(I:iE X gO σ H s):Ny X.base H:=λc P d a b=>let ⟨ps,e⟩:=I.ok.tab c P d a b;let ⟨more,q⟩:=I.base.tbls _ _ ps e;⟨ps++more,q⟩
def iE.bk(I:iE X gO σ H s):∀b o,X.base.get? b=some o->s.heap.get? b=some o:=λb o e=>(I.bs b o e).1
def iE.mod(I:iE X gO σ H s):Mod X.K X.mg X.base:=I.ok.mod
def iE.kIn(I:iE X gO σ H s):X.K.In s.heap:=I.ok.mod.kin.keeps I.bk
def iE.lt(I:iE X gO σ H s):X.env.locals<s.heap.objs.size:=let ⟨_,hn,_⟩:=I.loc;hn.lt
def iE.sz(I:iE X gO σ H s):X.s₀.heap.objs.size<=s.heap.objs.size:=aN I.ok.above (bh I.lt)
def iE.nofs(I:iE X gO σ H s)(h:s.heap.objs.size<=a):a∉X.fs:=λc=>by obtain⟨_,o,b,_⟩:=I.ok.funs.mem c;exact absurd (aE (aL b) (aN I.sz h)) (a9 _)
def iE.cne(I:iE X gO σ H s):∀x c,X.env.cells.lookup x=some c->c≠X.env.locals:=λx c e z=>by obtain⟨v,o,f,d⟩:=I.cell x c e;obtain⟨m,⟨h,i,g,b,a,_⟩,_⟩:=I.loc;rw[z,b]at f;cases f;rw[a]at d;cases d
def iE.funs(I:iE X gO σ H s):s.heap.FunFrames X.base X.outer:=by
 have all:∀(l:List Env),(∀b∈Iy l,b∈X.fs)->X.s₀.heap.FunFrames X.base l->s.heap.FunFrames X.base l:=by
  intro l;induction l with
  |nil=>intro _ _;trivial
  |cons env r ih=>intro f j;obtain⟨k,⟨L,o,a,h,g,i⟩,hr⟩:=j;have d:=f L (by unfold Iy;rw[bj,a];exact bx);obtain⟨m,e⟩:=I.base.slot L o g (I.ok.frf L d) d λz=>I.ok.exfs L z d;exact⟨k,⟨L,_,a,h,e,i⟩,ih (λb c=>f b (by unfold Iy;rw[bj,a];exact bz _ c)) hr⟩
 exact all X.outer (λ_ c=>c) I.ok.funs
def iE.stack(I:iE X gO σ H s):s.heap.FunFrames X.base X.stack:=by
 rcases I.ok.stk with e|⟨e,a⟩
 .rw[e];exact I.funs
 .rw[e];obtain⟨m,b,_⟩:=I.loc;refine .cons (by rw[I.ok.kind];decide) a b ?_ I.funs;exact Heap.get?_none_of_le (aN I.ok.bsz I.ok.above)
def iE.stkSub(I:iE X gO σ H s):∀b∈Iy X.stack,b∈X.env.locals::X.fs:=λb a=>by
 rcases I.ok.stk with e|⟨e,c⟩
 .rw[e]at a;exact bz _ a
 .rw[e]at a;unfold Iy at a;rw[bj,c]at a;exact a
def iE.stkFree(I:iE X gO σ H s):∀b∈Iy X.stack,H b=none:=λb a=>by
 rcases aF.mp (I.stkSub b a) with e|a
 .rw[e];exact I.free
 .obtain⟨_,o,c,_⟩:=I.ok.funs.mem a;exact I.base.free b o c (I.ok.frf b a) λz=>I.ok.exfs b z a
def iE.step{ch:List Addr}(I:iE X gO σ H s)
  (h:∀b∈ch,(b∈X.ex\/X.s₀.heap.objs.size<=b)/\b≠X.env.locals/\(∀x c,X.env.cells.lookup x=some c->c≠b)/\∀p∈X.pn++gO,p.1≠b)
  (keep:∀b o,b≠X.env.locals->b∉X.fs->b∉ch->s.heap.get? b=some o->H b=none->h'.get? b=some o)
  (C:∀b o,b≠X.env.locals->b∈X.fs->b∉ch->s.heap.get? b=some o->H b=none->∃sl,h'.get? b=some {o with slots:=sl}) (f:∀b o,b∉ch->s.heap.get? b=some o->H b=none->H' b=none)
  (E:∀b o,b∉ch->s.heap.get? b=some o->∃R,h'.get? b=some R)
  (P:∀b B,H b=some (.tup B)->H' b=some (.tup B)) (L:∀b o u,H b=some (.frz o u)->H' b=some (.frz o u)) (N:∀b q S,H b=some (.tbl q S)->∃Q,H' b=some (.tbl q (S++Q)))
  (ns:∀m,s.heap.Ns X.env.locals m->h'.Ns X.env.locals m) (U:uw X.prog X.w H' h') (hg:AllBare g') :
  iE X gO σ H' {s with heap:=h',gens:=g',drawn:=d',toks:=t'}:=by
 have J:∀b o,X.s₀.heap.get? b=some o->b≠X.env.locals:=λb o e=>aM (aE (aL e) I.ok.above);have y:∀b o,X.s₀.heap.get? b=some o->b∉X.ex->b∉ch:=λb o e a D=>by
  rcases (h b D).1 with z|z
  .exact a z
  .exact absurd (aE (aL e) z) (a9 _)
 have j:∀x c,X.env.cells.lookup x=some c->∀v,s.heap.IsCell c v->h'.IsCell c v:=λx c e v ⟨o,F,Y⟩=>by
  have g:c∉ch:=λz=>(h c z).2.2.1 x c e rfl;by_cases hc:c∈X.fs
  .obtain⟨sl,q⟩:=C c o (I.cne x c e) hc g F (I.freeC x c e);exact⟨_,q,Y⟩
  .exact⟨o,keep c o (I.cne x c e) hc g F (I.freeC x c e),Y⟩
 refine⟨I.ok,I.os,hg,⟨λb o e n D a=>?_,λb o e n D a=>?_,λb o e n a=>?_,λb o e a=>?_,λb B e=>P b B (I.base.tups b B e),λb o B e=>L b o B (I.base.frzs b o B e),λb _ S e=>?_⟩,?_,λx c e=>?_,?_,λx c e=>?_,λp hp=>?_,U,I.len⟩
 .exact keep b o (J b o e) D (y b o e a) (I.base.keep b o e n D a) (I.base.free b o e n a)
 .obtain⟨sl,A⟩:=I.base.slot b o e n D a;obtain⟨Z,K⟩:=C b _ (J b o e) D (y b o e a) A (I.base.free b o e n a);exact⟨Z,K⟩
 .obtain⟨R,A⟩:=I.base.there b o e a;exact f b R (y b o e a) A (I.base.free b o e n a)
 .obtain⟨R,A⟩:=I.base.there b o e a;exact E b R (y b o e a) A
 .obtain⟨m1,A⟩:=I.base.tbls b _ S e;obtain⟨m2,K⟩:=N b _ _ A;exact⟨m1++m2,by rw[K,bA]⟩
 .obtain⟨m,hn,hl⟩:=I.loc;refine⟨m,ns m hn,λi x v A K e3=>?_⟩;obtain⟨u,r,l⟩:=hl i x v A K e3;refine⟨u,r,?_⟩;rcases l with l|⟨k,c,e,z⟩
  .exact .inl l
  .exact .inr ⟨k,c,e,j x c e _ z⟩
 .obtain⟨v,z⟩:=I.cell x c e;exact⟨v,j x c e v z⟩
 .obtain⟨m,⟨o,_,_,F,_⟩,_⟩:=I.loc;exact f _ o (λz=>(h _ z).2.1 rfl) F I.free
 .obtain⟨v,o,F,Y⟩:=I.cell x c e;exact f c o (λz=>(h c z).2.2.1 x c e rfl) F (I.freeC x c e)
 .obtain⟨e,n,ne,nf,d⟩:=I.pin p hp;have g:p.1∉ch:=λz=>(h p.1 z).2.2.2 p hp rfl;exact⟨keep p.1 p.2 ne nf g e n,f p.1 p.2 g e n,ne,nf,d⟩
def iE.un(I:iE X gO σ H s)(u:Un X.fs [] H H' s.heap h')(c:uw X.prog X.w H' h'):iE X gO σ H' {s with heap:=h',toks:=t'}:=by obtain⟨m,⟨o,v,p,h,r⟩,_⟩:=id I.loc;obtain⟨x,k⟩:=u.any h I.free (by simp);exact I.step (ch:=[]) (λ_ z=>nomatch z) (λb o _ g _ e n=>u.keep b o e n g (by simp)) (λb o _ g _ e n=>u.slot b o e n g (by simp)) (λb o _ e n=>u.free b o e n (by simp)) (λb o _ e=>u.there b o e (by simp)) u.tups u.frzs u.tbls (λl i=>by obtain⟨q,d,f,a,j⟩:=i;rw[h]at a;cases a;exact⟨_,d,f,k,j⟩) c I.bare
def iE.call(I:iE X gO σ H s)(u:Un (Iy X.stack) ch H H' s.heap h')(g:uw X.prog X.w H' h')(v:AllBare g')
  (d:∀b∈ch,(b∈X.ex\/X.s₀.heap.objs.size<=b)/\b≠X.env.locals/\(∀x c,X.env.cells.lookup x=some c->c≠b)/\∀p∈X.pn++gO,p.1≠b) :
  iE X gO σ H' {s with heap:=h',gens:=g',drawn:=d',toks:=t'}:=by
 obtain⟨m,⟨o,D,B,k,r⟩,_⟩:=id I.loc;obtain⟨E,j⟩:=u.any k I.free λz=>(d _ z).2.1 rfl;exact I.step d (λb o j q a e n=>u.keep b o e n (λz=>(aF.mp (I.stkSub b z)).elim j q) a) (λb o _ _ a e n=>u.any e n a) (λb o a e n=>u.free b o e n a) (λb o a e=>u.there b o e a) u.tups u.frzs u.tbls (λA l=>by obtain⟨C,h,i,f,y⟩:=l;rw[k]at f;cases f;exact⟨_,h,i,j,y⟩) g v
def iE.turned(I:iE X gO σ H s)(k:∀b o,b≠it->s.heap.get? b=some o->h'.get? b=some o)(h:H it=none)(f:it≠X.env.locals)
  (B:it∈X.ex\/X.s₀.heap.objs.size<=it) (w:∀x c,X.env.cells.lookup x=some c->c≠it) (i:∀p∈X.pn++gO,p.1≠it):iE X gO σ H {s with heap:=h',toks:=t'}:=by
 have d:∀b u,H b=some u->b≠it:=λb u e z=>by rw[z,h]at e;cases e
 refine I.step (ch:=[it]) (λb y=>?_) (λb o _ _ a e _=>k b o (λz=>a (by simp[z])) e) (λb o _ _ a e _=>⟨o.slots,k b o (λz=>a (by simp[z])) e⟩) (λ_ _ _ _ n=>n)
  (λb o a e=>⟨o,k b o (λz=>a (by simp[z])) e⟩) (λ_ _ e=>e) (λ_ _ _ e=>e) (λb _ C e=>⟨#[],by rw[e];simp⟩) (λm j=>?_) (λb u e=>?_) I.bare
 .have e:b=it:=by simpa using y
  subst e;exact⟨B,f,w,i⟩
 .obtain⟨o,A,l,g,r⟩:=j;exact⟨o,A,l,k _ o (Ne.symm f) g,r⟩
 .refine (I.hok b u e).stay (λc v a q=>k c v ?_ q) (λ_ q=>q) λ_ _ q=>q;rcases a with z|z
  .rw[z];exact d b u e
  .exact d c _ z
def iE.tok(I:iE X gO σ H s) t:iE X gO σ H {s with toks:=t}:=I.un Un.refl I.hok
def iE.kept(I:iE X gO σ H s)(k:∀b u,s.heap.get? b=some u->h'.get? b=some u):iE X gO σ H {s with heap:=h',toks:=t'}:=I.un (Un.kept k) (I.hok.kept k)
def iE.laid(I:iE X gO σ H s)(k:∀b u,s.heap.get? b=some u->h'.get? b=some u)(c:s.heap.objs.size<=a)(new:l6 X.prog X.w (jY H a o) h' a o) :
  iE X gO σ (jY H a o) {s with heap:=h',toks:=t'}:=I.un (Un.laid k c (I.hok.fresh c)) (I.hok.laid k c new)
def iE.write(I:iE X gO σ H s)(c:Vq (H x))(d:e=x\/H e=some (.own x))(k:∀b u,b≠e->s.heap.get? b=some u->h'.get? b=some u)(a:∃u,h'.get? e=some u)
  (new:l6 X.prog X.w (jY H x o) h' x o):iE X gO σ (jY H x o) {s with heap:=h',toks:=t'}:=I.un (Un.write c d k a) (I.hok.write c d k a new)
def iE.weak(I:iE X gO σ H s)(b:σ'.length=σ.length)(w:∀(i:Nat) v,σ'[i]? = some (some v)->σ[i]? = some (some v)):iE X gO σ' H s:=⟨I.ok,I.os,I.bare,I.base,let ⟨m,hn,hl'⟩:=I.loc;⟨m,hn,λi x v a d c=>hl' i x v a (w i v d) c⟩,I.cell,I.free,I.freeC,I.pin,I.hok,b.trans I.len⟩
def iE.pins_of(I:iE X gO σ H s)(h:∀p∈pins',s.heap.get? p.1=some p.2/\H p.1=none/\p.1≠X.env.locals/\p.1∉X.fs/\∀v,p.2.data≠.cell v):iE X pins' σ H s:=⟨I.ok,I.os,I.bare,I.base,I.loc,I.cell,I.free,I.freeC,λp a=>(ai.mp a).elim (λz=>I.pin p (ax _ z)) (h p),I.hok,I.len⟩
def Eo{N:List Str}(d:N.Nodup){i j:Nat}(a:N[i]? = some x)(b:N[j]? = some x):i=j:=by obtain⟨g,c⟩:=aa.mp a;obtain⟨f,e⟩:=aa.mp b;exact (List.getElem_inj d).mp (c.trans e.symm)
def Bi{M:Model}{A:Around}{E:Value->Shared->Prop}{i:Nat}{x:Str}{v:V}{u:Value}{Q:Unit->Shared->Prop}(I:iE X gO σ H s)(hN:X.N.Nodup)(U:X.N[i]? = some x)(B:IQ X.env.scope x)(r:jB v u)
  (h:∀s',iE X gO (σ.set i (some v)) H s'->(∃a,Heap.SameBut a s.heap s'.heap/\(a=X.env.locals\/X.env.cells.lookup x=some a))->Q () s') (hf:X.fn x=true\/X.env.scope.names.lookup x=some .local:=by first|exact .inl rfl|exact .inr rfl|assumption):wpAny M A (storeName X.env x u) Q E s:=by
 obtain⟨m,hn,hl⟩:=id I.loc;have hcls:(X.env.scope.kind==.class||(X.env.scope.kind==.module&&X.env.locals != X.env.globals))=false:=by rw[I.ok.kind];rfl
 have F:i<σ.length:=by rw[I.len];exact (aa.mp U).1
 have cne:=I.cne;have tracked:∀{a:Addr} {h':Heap},(∃o,s.heap.get? a=some o/\H a=none)->Heap.SameBut a s.heap h'->uw X.prog X.w H h':=λ{a h'} ha f b ob e=>by
  obtain⟨_,_,C⟩:=ha;refine (I.hok b ob e).stay (λc w' l q=>(f.2 c ?_).trans q) (λ_ q=>q) λ_ _ q=>q;rintro rfl;rcases l with rfl|l
  .rw[C]at e;cases e
  .rw[C]at l;cases l
 rcases B with J|J
 .refine wpAny_storeName_local J hn (λh' hn' f=>?_) hcls;obtain⟨oL,_,_,hoL,_⟩:=id hn;refine h _ ⟨I.ok,I.os,I.bare,⟨λb o e n L B=>?_,λb o e n L B=>?_,I.base.free,λb o e B=>?_,I.base.tups,I.base.frzs,I.base.tbls⟩,⟨_,hn',λj y v' g D e3=>?_⟩,λy c e=>?_,I.free,I.freeC,λp hp=>?_,tracked ⟨oL,hoL,I.free⟩ f,by simpa using I.len⟩ ⟨_,f,.inl rfl⟩
  .exact (f.2 b (aM (aE (aL e) I.ok.above))).trans (I.base.keep b o e n L B)
  .obtain⟨sl,g⟩:=I.base.slot b o e n L B;exact⟨sl,(f.2 b (aM (aE (aL e) I.ok.above))).trans g⟩
  .obtain⟨o',g⟩:=I.base.there b o e B;exact⟨o',(f.2 b (aM (aE (aL e) I.ok.above))).trans g⟩
  .by_cases P:j=i
   .subst P;rw[U]at g;cases g;rw[List.getElem?_set_self F]at D;cases D;exact⟨u,r,.inl ⟨J,by simp⟩⟩
   .rw[aq (Ne.symm P)]at D;obtain⟨u',r',q⟩:=hl j y v' g D e3;refine⟨u',r',?_⟩;rcases q with⟨k,e⟩|⟨k,c,e,z⟩
    .refine .inl ⟨k,?_⟩;have:y≠x:=λe=>P (Eo hN g (e▸U));simp[this,e]
    .exact .inr ⟨k,c,e,z.sameBut f (cne y c e)⟩
  .obtain⟨w',z⟩:=I.cell y c e;exact⟨w',z.sameBut f (cne y c e)⟩
  .obtain⟨e,n,ne,nf,d⟩:=I.pin p hp;exact⟨(f.2 p.1 ne).trans e,n,ne,nf,d⟩
 .have K:X.fn x=true:=by
   rcases hf with z|z
   .exact z
   .rw[z]at J;cases J
  obtain⟨c,l⟩:=I.ok.has x (.inl J);obtain⟨w',z⟩:=I.cell x c l;refine wpAny_storeName_cell I.ok.kind J l z (λh' S f=>?_);obtain⟨oc,Y,R⟩:=id z;refine h {s with heap:=h'} ⟨I.ok,I.os,I.bare,⟨λb o e n L B=>?_,λb o e n L B=>?_,I.base.free,λb o e B=>?_,I.base.tups,I.base.frzs,I.base.tbls⟩,⟨m,hn.sameBut f (Ne.symm (cne x c l)),λj y v' g D e3=>?_⟩,λy c' e=>?_,I.free,I.freeC,λp hp=>?_,tracked ⟨oc,Y,I.freeC x c l⟩ f,by simpa using I.len⟩ ⟨c,f,.inr l⟩
  .exact (f.2 b (aM (aE (aL e) (I.ok.cab x c K l)))).trans (I.base.keep b o e n L B)
  .obtain⟨sl,g⟩:=I.base.slot b o e n L B;exact⟨sl,(f.2 b (aM (aE (aL e) (I.ok.cab x c K l)))).trans g⟩
  .obtain⟨o',g⟩:=I.base.there b o e B;exact⟨o',(f.2 b (aM (aE (aL e) (I.ok.cab x c K l)))).trans g⟩
  .by_cases P:j=i
   .subst P;rw[U]at g;cases g;rw[List.getElem?_set_self F]at D;cases D;exact⟨u,r,.inr ⟨.inl J,c,l,S⟩⟩
   .rw[aq (Ne.symm P)]at D;obtain⟨u',r',q⟩:=hl j y v' g D e3;refine⟨u',r',?_⟩;rcases q with q|⟨k,c',e,z'⟩
    .exact .inl q
    .refine .inr ⟨k,c',e,z'.sameBut f ?_⟩;rintro rfl;exact P (Eo hN g (I.ok.inj _ _ _ e l▸U))
  .by_cases Z:c'=c
   .subst Z;exact⟨_,S⟩
   .obtain⟨w2,z2⟩:=I.cell y c' e;exact⟨w2,z2.sameBut f Z⟩
  .obtain⟨e,n,ne,nf,d⟩:=I.pin p hp;refine⟨(f.2 p.1 ?_).trans e,n,ne,nf,d⟩;intro q;rw[q,Y]at e;have q':=Option.some.inj e;exact d w' (by rw[<-q'];exact R)
def vM{M:Model}{A:Around}{E:Value->Shared->Prop}{i:Nat}{x:Str}{v:V}{u:Value}{Q:Unit->Shared->Prop}(I:iE X gO σ H s)(d:X.N.Nodup)(e:X.N[i]? = some x)(f:IQ X.env.scope x)(r:jB v u)
  (h:∀a,iE X gO (σ.set i (some v)) H a->Q () a) (c:X.fn x=true\/X.env.scope.names.lookup x=some .local:=by first|exact .inl rfl|exact .inr rfl|assumption):wpAny M A (storeName X.env x u) Q E s:=
 Bi I d e f r (λa b _=>h a b) c
def iE.call'(I:iE X gO σ H s)(f:s'.os=s.os)(u:Un (Iy X.stack) ch H H' s.heap s'.heap)(a:uw X.prog X.w H' s'.heap)(g:AllBare s'.gens)
  (d:∀b∈ch,(b∈X.ex\/X.s₀.heap.objs.size<=b)/\b≠X.env.locals/\(∀x c,X.env.cells.lookup x=some c->c≠b)/\∀p∈X.pn++gO,p.1≠b):iE X gO σ H' s':=by
 obtain⟨h',j,k,h,i⟩:=s';have e:=f;subst e;exact I.call u a g d
end
abbrev XK:=Value->Option Addr->Hp->Prop
abbrev St:=List (Option V)
abbrev VK:=V->Hp->Prop
abbrev TE:=St->Hp->VK->Prop
abbrev TT:=St->Hp->(Bool->Hp->Prop)->Prop
abbrev TA:=St->Hp->(List V->Hp->Prop)->Prop
structure wI where
 nx:St->Hp->Prop
 rt:VK
 bk:St->Hp->Prop:=λ_ _=>False
 ct:St->Hp->Prop:=λ_ _=>False
abbrev TS:=wI->St->Hp->Prop
def EP(X:Cx)(b:List (Addr×Obj))(c:St)(Q:VK)(u:Value)(d:Shared):Prop:=∃v a,iE X b c a d/\jB v u/\Q v a
def TP(X:Cx)(c:List (Addr×Obj))(d:St)(Q:Bool->Hp->Prop)(b:Bool)(e:Shared):Prop:=∃a,iE X c d a e/\Q b a
def AP(X:Cx)(c:List (Addr×Obj))(d:St)(Q:List V->Hp->Prop)(us:List Value)(e:Shared):Prop:=∃a b,iE X c d b e/\ji a us/\Q a b
def SP(X:Cx)(c:List (Addr×Obj))(D:wI)(f:Flow)(d:Shared):Prop:=
 match f with
 |.next=>∃a b,iE X c a b d/\D.nx a b
 |.brk=>∃a b,iE X c a b d/\D.bk a b
 |.cont=>∃a b,iE X c a b d/\D.ct a b
 |.ret u=>∃v a b,iE X c a b d/\jB v u/\D.rt v b
def PE(X:Cx)(e:Expr)(t:TE):Prop:=∀(b:List (Addr×Obj)) (s:Shared) (a:St) (H:Hp) (Q:VK),iE X b a H s->t a H Q->wpAny (model X.prog X.w) X.A (eval e X.env) (EP X b a Q) X.xe s
def PT(X:Cx)(e:Expr)(t:TT):Prop:=∀(b:List (Addr×Obj)) (s:Shared) (a:St) (H:Hp) (Q:Bool->Hp->Prop),iE X b a H s->t a H Q->wpAny (model X.prog X.w) X.A (isTrue e X.env (eval e X.env)) (TP X b a Q) X.xe s
def PW(X:Cx)(e:Expr)(t:TT):Prop:=∀(a:Sem Value) (c:List (Addr×Obj)) (s:Shared) (b:St) (H:Hp) (Q:Bool->Hp->Prop),iE X c b H s->t b H Q->wpAny (model X.prog X.w) X.A (isTrue e X.env a) (TP X c b Q) X.xe s
def PW.pt(h:PW X e t):PT X e t:=h _
def PA(X:Cx)(c:List Expr)(t:TA):Prop:=∀(pos:Pos) (b:List (Addr×Obj)) (s:Shared) (a:St) (H:Hp) (Q:List V->Hp->Prop),iE X b a H s->t a H Q->wpAny (model X.prog X.w) X.A (spliced (backTo pos (starEach c X.env))) (AP X b a Q) X.xe s
def PS(X:Cx)(st:Stmt)(t:TS):Prop:=∀(a:List (Addr×Obj)) (s:Shared) (b:St) (H:Hp) (D:wI),iE X a b H s->t D b H->wpAny (model X.prog X.w) X.A (exec st X.env) (SP X a D) X.xe s
def ES(X:Cx)(st:List Stmt)(t:TS):Prop:=∀(a:List (Addr×Obj)) (s:Shared) (b:St) (H:Hp) (D:wI),iE X a b H s->t D b H->wpAny (model X.prog X.w) X.A (execs st X.env) (SP X a D) X.xe s
def lC{c:Type}{t:Sem c}{Q b:c->Shared->Prop}{M:Model}{A:Around}{E:Value->Shared->Prop}{s:Shared}(h:wpAny M A t Q E s)(d:∀a s,Q a s->b a s):wpAny M A t b E s:=wpAny_mono h d λ_ _ x=>x
end L2
namespace L2
open PySem PySem.Spec PyProof.Rows
section
variable {X:Cx}
def oQ(i:Nat):TE:=λa H Q=>∃v,a[i]? = some (some v)/\Q v H
def tC(v:V):TE:=λ_ H Q=>Q v H
def RU(w:X.N[i]? = some x)(hv:U3 X.env.scope x)(f:(x==("__debug__" : Str))=false:=by decide)(g:(x==("__classdict__" : Str))=false:=by decide):PE X (.Name x pos) (oQ i):=by
 intro p s k H Q I h;obtain⟨v,e,h⟩:=h;obtain⟨m,n,q⟩:=I.loc;obtain⟨u,r,l⟩:=q i x v w e hv;have b:EP X p k Q u s:=⟨v,H,I,r,h⟩;rcases l with⟨d,o⟩|⟨d,c,j,a⟩
 .exact wpAny_Name (wpAny_loadName_local I.ok.kind d n o b) f
 .rcases d with d|d
  .exact wpAny_Name (wpAny_loadName_cell I.ok.kind d j a b) f
  .exact wpAny_Name (wpAny_loadName_free I.ok.kind d j a b g) f
def S9{i j pos}:PE X (.Constant (.int i) j pos) (tC (.int i)):=λ_ _ _ H _ I h=>wpAny_Constant_int ⟨.int i,H,I.tok _,⟨_,rfl⟩,h⟩
def Vv{b j pos}:PE X (.Constant (.bool b) j pos) (tC (.bl b)):=λ_ _ _ H _ I h=>Constant_bool ⟨.bl b,H,I,rfl,h⟩
def TV{j pos}:PE X (.Constant .none j pos) (tC .non):=λ_ _ _ H _ I h=>Constant_none ⟨.non,H,I,rfl,h⟩
def RY{x j pos}:PE X (.Constant (.str x) j pos) (tC (.str x)):=λ_ _ _ H _ I h=>Calls.Constant_str ⟨.str x,H,I.tok _,⟨_,rfl⟩,h⟩
def Gl(X:Cx)(x:Str):Prop:=X.env.kindOf x=some .globalImplicit
def Cy(I:iE X gO σ H s)(c:Gl X x)(a:X.mg x=some u)(h:Q u s)
  (b:(x==("__debug__" : Str))=false:=by decide):wpAny (model X.prog X.w) X.A (eval (.Name x pos) X.env) Q E s:=
 Calls.Name_function_global I.ok.kind c (Calls.loadGlobal_global (by rw[I.ok.glob];exact I.mod.glob.keeps I.bk) a h) b
def rC(I:iE X gO σ H s)(c:Gl X x)(a:X.mg x=none)(hv:bootBuiltins x=some u)(h:Q u s)
  (d:x≠ "__name__" :=by decide) (b:(x==("__debug__" : Str))=false:=by decide):wpAny (model X.prog X.w) X.A (eval (.Name x pos) X.env) Q E s:=by
 obtain⟨g,f,e⟩:=I.mod.blt;exact Calls.Name_function_global I.ok.kind c (Calls.loadGlobal_builtin (by rw[I.ok.glob];exact I.mod.glob.keeps I.bk) a (by rw[I.ok.blt];exact f.keeps I.bk) ((e x d).trans hv) h) b
def N5(c:Gl X x)(a:X.mg x=some u)(r:jB v u)(b:(x==("__debug__" : Str))=false:=by decide):PE X (.Name x pos) (tC v):=λ_ _ _ H _ I h=>Cy I c a ⟨v,H,I,r,h⟩ b
def Pd(c:Gl X x)(a:X.mg x=none)(hv:bootBuiltins x=some u)(r:jB v u)(d:x≠ "__name__" :=by decide)(b:(x==("__debug__" : Str))=false:=by decide):PE X (.Name x pos) (tC v):=λ_ _ _ H _ I h=>rC I c a hv ⟨v,H,I,r,h⟩ d b
variable {a b:Expr}{ta tb:TE}{pos:Pos}
def tB(t:TE):TT:=λd H Q=>t d H λx e=>∃c,x=.bl c/\Q c e
def Sa(h:PE X e t)(i:∀c,isTrue e X.env c=(do let v <-c;standAt e.pos;holding [v] (truthy v)):=by intro _;rfl):PT X e (tB t):=by intro f s g H Q I hw;refine isTrue_plain (lC (h f s g H _ I hw) λv s1 ⟨x,H1,I1,r1,q1⟩=>?_) (i _);obtain⟨d,rfl,q⟩:=q1;cases r1;exact wpAny_truthy_bool ⟨H1,I1,q⟩
variable {tA tB':TT}{oW:List Expr}
def Sz(t u:TT):TT:=λd H Q=>t d H λc e=>if c=true then u d e Q else Q false e
def Wt(t u:TT):TT:=λd H Q=>t d H λc e=>if c=true then Q true e else u d e Q
def SH(t:TT):TT:=λd H Q=>t d H λc e=>Q (!c) e
def NQ(g:PT X a tA):PW X (.BoolOp .And [a] pos) tA:=by
 intro j d s f H Q I h;refine isTrue_and (lC (g d s f H Q I h) λc i e=>?_);cases c with
 |true=>exact isTrue_and_nil e
 |false=>exact e
def Sx(g:PT X a tA):PW X (.BoolOp .Or [a] pos) tA:=by
 intro j d s f H Q I h;refine isTrue_or (lC (g d s f H Q I h) λc i e=>?_);cases c with
 |false=>exact isTrue_or_nil e
 |true=>exact e
def Tp(f:PT X a tA)(hb:PW X (.BoolOp .And (b::oW) pos) tB'):PW X (.BoolOp .And (a::b::oW) pos) (Sz tA tB'):=by
 intro g d s e H Q I h;refine isTrue_and (lC (f d s e H _ I h) λc s1 ⟨H1,I1,q1⟩=>?_);cases c with
 |true=>exact hb g d s1 e H1 Q I1 q1
 |false=>exact⟨H1,I1,q1⟩
def Vj(f:PT X a tA)(hb:PW X (.BoolOp .Or (b::oW) pos) tB'):PW X (.BoolOp .Or (a::b::oW) pos) (Wt tA tB'):=by
 intro g d s e H Q I h;refine isTrue_or (lC (f d s e H _ I h) λc s1 ⟨H1,I1,q1⟩=>?_);cases c with
 |true=>exact⟨H1,I1,q1⟩
 |false=>exact hb g d s1 e H1 Q I1 q1
def Sk(g:PT X a tA):PT X (.UnaryOp .Not a pos) (SH tA):=by intro d s e H Q I h;exact isTrue_not (g d s e H (λc f=>Q (!c) f) I h)
def Mi(ta tb:TE):TE:=λd H Q=>ta d H λx e=>∃c,x=.bl c/\if c=true then tb d e Q else Q (.bl false) e
def TN(ta tb:TE):TE:=λd H Q=>ta d H λx e=>∃c,x=.bl c/\if c=true then Q (.bl true) e else tb d e Q
def K2(ta:TE):TE:=λd H Q=>ta d H λx e=>∃c,x=.bl c/\Q (.bl (!c)) e
def RF{op}(h:PE X a t):PE X (.BoolOp op [a] pos) t:=λc s d H Q I hw=>BoolOp_one (h c s d H Q I hw)
def SF(g:PE X a ta)(hb:PE X (.BoolOp .And (b::oW) pos) tb):PE X (.BoolOp .And (a::b::oW) pos) (Mi ta tb):=by
 intro e s f H Q I h;refine BoolOp_and (lC (g e s f H _ I h) λv s1 ⟨x,H1,I1,r1,d⟩=>?_);obtain⟨c,rfl,d⟩:=d;cases r1;refine wpAny_truthy_bool ?_;cases c with
 |true=>exact hb e s1 f H1 Q I1 d
 |false=>exact⟨.bl false,H1,I1,rfl,d⟩
def UD(g:PE X a ta)(hb:PE X (.BoolOp .Or (b::oW) pos) tb):PE X (.BoolOp .Or (a::b::oW) pos) (TN ta tb):=by
 intro e s f H Q I h;refine BoolOp_or (lC (g e s f H _ I h) λv s1 ⟨x,H1,I1,r1,d⟩=>?_);obtain⟨c,rfl,d⟩:=d;cases r1;refine wpAny_truthy_bool ?_;cases c with
 |false=>exact hb e s1 f H1 Q I1 d
 |true=>exact⟨.bl true,H1,I1,rfl,d⟩
def RP(g:PE X a ta):PE X (.UnaryOp .Not a pos) (K2 ta):=by intro e s f H Q I h;refine UnaryOp_ (lC (g e s f H _ I h) λv s1 ⟨x,H1,I1,r1,d⟩=>?_);obtain⟨c,rfl,d⟩:=d;cases r1;exact not_of (wpAny_truthy_bool ⟨.bl (!c),H1,I1,rfl,d⟩)
def Wd(t:TT)(ta tb:TE):TE:=λd H Q=>t d H λc e=>if c=true then ta d e Q else tb d e Q
def Nt(i:PT X c tA)(g:PE X a ta)(hb:PE X b tb):PE X (.IfExp c a b pos) (Wd tA ta tb):=by
 intro e s f H Q I h;refine wpAny_IfExp (lC (i e s f H _ I h) λd s1 ⟨H1,I1,q1⟩=>?_);cases d with
 |true=>exact g e s1 f H1 Q I1 q1
 |false=>exact hb e s1 f H1 Q I1 q1
end
end L2
namespace L2
open PySem PySem.Spec PyProof.Rows
def mN(K:W.Frag)(H:Hp)(a:Addr)(c:List V):Prop:=
 Rd H a (.lst c)\/
  ∃(o:Obj) (b:Array Value) (n:Nat),K.lookup a=some o/\o.cls=.type "list" /\o.dict=none/\o.data=.seq b n/\b.size<=sizeLine/\ji c b.toList
def oH(K:W.Frag)(H:Hp)(a:Addr)(c:List V):Prop:=
 Rd H a (.tup c)\/
  ∃(o:Obj) (b:Array Value) (n:Nat),K.lookup a=some o/\o.cls=.type "tuple" /\o.data=.seq b n/\b.size<=sizeLine/\ji c b.toList
def Wr:Value->Option V
 |.none=>some .non
 |.bool b=>some (.bl b)
 |.int i _=>some (.int i)
 |.str x _=>some (.str x)
 |.bytes b _=>some (.byt b)
 |.float b _=>some (.flt b)
 |.ref a=>some (.ref a)
 |.type n=>some (.ty n)
 |_=>none
def jB.abs(r:jB x u):Wr u=some x:=by
 cases x with
 |non=>cases r;rfl
 |bl _=>cases r;rfl
 |int _=>obtain⟨t,rfl⟩:=r;rfl
 |str _=>obtain⟨t,rfl⟩:=r;rfl
 |byt _=>obtain⟨t,rfl⟩:=r;rfl
 |flt _=>obtain⟨t,rfl⟩:=r;rfl
 |ref _=>cases r;rfl
 |ty _=>cases r;rfl
def jB.inj(r:jB x u)(q:jB y u):x=y:=Option.some.inj (r.abs.symm.trans q.abs)
theorem ji.inj:∀{xs ys} {us},ji xs us->ji ys us->xs=ys
 |_,_,_,.nil,.nil=>rfl
 |_,_,_,.cons r t,.cons r' t'=>by rw[r.inj r',ji.inj t t']
section
variable {X:Cx}{gO:List (Addr×Obj)}{σ:St}{H:Hp}{s:Shared}{a:Addr}{xs ys:List V}
def mN.of{K:W.Frag}(h:H a=some (.lst xs)):mN K H a xs:=.inl (.inl h)
def oH.of{K:W.Frag}(h:H a=some (.tup xs)):oH K H a xs:=.inl (.inl h)
def iE.list(I:iE X gO σ H s)(h:mN X.K H a xs):∃its:List Value,ji xs its/\PlainL s.heap a its.toArray/\xs.length<=sizeLine:=by
 rcases h with h|⟨o,its,n,f,d,b,c,g,r⟩
 .obtain⟨z,its,n,r,e⟩:=h.ok I.hok;exact⟨its,r,⟨_,n,e,rfl,rfl,rfl⟩,z⟩
 .refine⟨its.toList,r,⟨o,n,I.kIn a o f,d,b,by simpa using c⟩,?_⟩;have e:=r.length;simp only[bB]at e;omega
def iE.tuple(I:iE X gO σ H s)(h:oH X.K H a xs):∃its:List Value,ji xs its/\IsTup s.heap a its.toArray/\xs.length<=sizeLine:=by
 rcases h with h|⟨o,its,n,d,c,b,f,r⟩
 .obtain⟨z,its,r,p⟩:=h.ok I.hok;exact⟨its,r,p.tup,z⟩
 .refine⟨its.toList,r,⟨o,I.kIn a o d,c,n,by simpa using b⟩,?_⟩;have e:=r.length;simp only[bB]at e;omega
def iE.list_inj(I:iE X gO σ H s)(h:mN X.K H a xs)(k:mN X.K H a ys):xs=ys:=by
 obtain⟨c,r,⟨o,n,e,_,_,d⟩,_⟩:=I.list h;obtain⟨b,i,⟨l,m,f,_,_,g⟩,_⟩:=I.list k;rw[e]at f;cases f;rw[d]at g;injection g with j _;have:c=b:=by simpa using congrArg Array.toList j
 subst this;exact r.inj i
def iE.tuple_inj(I:iE X gO σ H s)(h:oH X.K H a xs)(k:oH X.K H a ys):xs=ys:=by
 obtain⟨c,r,⟨o,e,_,n,d⟩,_⟩:=I.tuple h;obtain⟨b,i,⟨l,f,_,m,g⟩,_⟩:=I.tuple k;rw[e]at f;cases f;rw[d]at g;injection g with j _;have:c=b:=by simpa using congrArg Array.toList j
 subst this;exact r.inj i
end
noncomputable abbrev Cx.wish(X:Cx)(E:Value->Shared->Prop):Cx:={X with xe:=E}
abbrev Cx.nox(X:Cx):Cx:=X.wish λ_ _=>False
def Cx.Ok.wish{X:Cx}(ok:X.Ok) E:(X.wish E).Ok:=⟨ok.mod,ok.kind,ok.glob,ok.blt,ok.above,ok.inj,ok.has,ok.cab,ok.hd,ok.frames,ok.stk,ok.exf,ok.bs,ok.bsz,ok.noex,ok.exfs,ok.funs,ok.frf,ok.tab⟩
def Cx.Ok.unwish{X:Cx}(ok:(X.wish E).Ok):X.Ok:=⟨ok.mod,ok.kind,ok.glob,ok.blt,ok.above,ok.inj,ok.has,ok.cab,ok.hd,ok.frames,ok.stk,ok.exf,ok.bs,ok.bsz,ok.noex,ok.exfs,ok.funs,ok.frf,ok.tab⟩
section
variable {X:Cx}{gO:List (Addr×Obj)}{σ:St}{H:Hp}{s:Shared}{E:Value->Shared->Prop}
def iE.wish(I:iE X gO σ H s) E:iE (X.wish E) gO σ H s:=⟨I.ok.wish E,I.os,I.bare,I.base,I.loc,I.cell,I.free,I.freeC,I.pin,I.hok,I.len⟩
def iE.unwish(I:iE (X.wish E) gO σ H s):iE X gO σ H s:=⟨I.ok.unwish,I.os,I.bare,I.base,I.loc,I.cell,I.free,I.freeC,I.pin,I.hok,I.len⟩
def SP.unwish(h:SP (X.wish E) gO D f s'):SP X gO D f s':=by
 cases f with
 |next=>obtain⟨a,b,I,q⟩:=h;exact⟨a,b,I.unwish,q⟩
 |brk=>obtain⟨a,b,I,q⟩:=h;exact⟨a,b,I.unwish,q⟩
 |cont=>obtain⟨a,b,I,q⟩:=h;exact⟨a,b,I.unwish,q⟩
 |ret u=>obtain⟨v,a,b,I,r,q⟩:=h;exact⟨v,a,b,I.unwish,r,q⟩
def ES.nox{st:List Stmt}(h:ES X.nox st t):ES X st t:=λgO s σ H D I hw=>wpAny_mono (h gO s σ H D (I.wish _) hw) (λ_ _ q=>q.unwish) λ_ _ z=>False.elim z
end
section
variable {X:Cx}{st:Stmt}{oW:List Stmt}{t u:TS}{e:Expr}{te:TE}{pos:Pos}
def NA:TS:=λD a H=>D.nx a H
def Of(t u:TS):TS:=λD a H=>t {D with nx:=u D} a H
def OH:ES X [] NA:=λ_ _ a H _ I h=>wpAny_execs_nil ⟨a,H,I,h⟩
def EJ(k:PS X st t)(j:ES X oW u):ES X (st::oW) (Of t u):=by
 intro b s d H D I h;refine wpAny_execs_cons (lC (k b s d H {D with nx:=u D} I h) λf g q=>?_);cases f with
 |next=>obtain⟨a,i,c,q⟩:=q;exact j b g a i D c q
 |ret v=>exact q
 |brk=>exact q
 |cont=>exact q
def G8(c:PS X st t):ES X [st] t:=by
 intro a s b H D I h;refine wpAny_execs_cons (lC (c a s b H D I h) λf d q=>?_);cases f with
 |next=>exact wpAny_execs_nil q
 |ret v=>exact q
 |brk=>exact q
 |cont=>exact q
def iE.quiet(I:iE X gO σ H s):interactive X.env=false:=by simp[interactive,I.ok.kind]
def vR(te:TE):TS:=λD a H=>te a H λ_ b=>D.nx a b
def yF(d:PE X e te)(b:swapsWith e none pos.line X.env=pure false:=by rfl):PS X (.Expr e pos) (vR te):=by intro c s a H D I h;exact wpAny_Expr_any (lC (d c s a H _ I h) λv s1 ⟨x,H1,I1,r1,q1⟩=>⟨a,H1,I1,q1⟩) I.quiet b
def CC(te:TE):TS:=λD a H=>te a H D.rt
def CK(c:PE X e te):PS X (.Return (some e) pos) (CC te):=by intro b s a H D I h;exact wpAny_Return_some (lC (c b s a H _ I h) λv s1 ⟨x,H1,I1,r1,q1⟩=>⟨x,a,H1,I1,r1,q1⟩)
def SM(c:TT)(t u:TS):TS:=λD a H=>c a H λb d=>if b=true then t D a d else u D a d
def UR(j:PT X c tc)(i:ES X a t)(hb:ES X b u):PS X (.If c a b pos) (SM tc t u):=by
 intro f s g H D I h;refine wpAny_If (lC (j f s g H _ I h) λd s1 ⟨H1,I1,q1⟩=>?_);cases d with
 |true=>exact i f s1 g H1 D I1 q1
 |false=>exact hb f s1 g H1 D I1 q1
def Fu:TS:=λ_ _ _=>False
def K3:PS X st Fu:=λ_ _ _ _ _ _ h=>h.elim
end
abbrev TG:=V->St->Hp->(St->Hp->Prop)->Prop
abbrev NJ:=List V->St->Hp->(St->Hp->Prop)->Prop
def PG(X:Cx)(target:Expr)(t:TG):Prop:=
 ∀(b:List (Addr×Obj)) (s:Shared) (c:St) (H:Hp) (v:V) (u:Value) (Q:St->Hp->Prop),iE X b c H s->jB v u->t v c H Q->
  wpAny (model X.prog X.w) X.A (assign target X.env u) (λ_ e=>∃a d,iE X b a d e/\Q a d) X.xe s
def Ud(X:Cx)(ts:List Expr)(t:NJ):Prop:=
 ∀(c:List (Addr×Obj)) (s:Shared) (d:St) (H:Hp) (b:List V) (e:List Value) (Q:St->Hp->Prop),iE X c d H s->ji b e->t b d H Q->
  wpAny (model X.prog X.w) X.A (assignInOrder ((assignEach ts X.env).map (·.2)) e) (λ_ g=>∃a f,iE X c a f g/\Q a f) X.xe s
abbrev Vd:=V->V->V->Hp->(Hp->Prop)->Prop
def Uv(X:Cx)(t:Vd):Prop:=
 ∀(a:List (Addr×Obj)) (s:Shared) (b:St) (H:Hp) (o i v:V) (e d u:Value) (Q:Hp->Prop),iE X a b H s->jB o e->jB i d->jB v u->t o i v H Q->
  wpAny (model X.prog X.w) X.A (setItem e d u) (λ_ f=>∃c,iE X a b c f/\Q c) X.xe s
section
variable {X:Cx}{pos:Pos}
def lN(i:Nat):TG:=λv a H Q=>Q (a.set i (some v)) H
def HD(d:X.N.Nodup)(e:X.N[i]? = some x)(c:IQ X.env.scope x)(b:X.fn x=true\/X.env.scope.names.lookup x=some .local:=by first|exact .inl rfl|exact .inr rfl|assumption):PG X (.Name x pos) (lN i):=by intro f s g H v u Q I r h;exact wpAny_assign_Name (vM I d e c r (λj a=>⟨_,H,a,h⟩) b)
def Im:NJ:=λb a H Q=>b=[]/\Q a H
def zL(t:TG)(u:NJ):NJ:=λb c H Q=>∃v r,b=v::r/\t v c H λa d=>u r a d Q
def Hf:Ud X [] Im:=by intro c s a H b d Q I r h;obtain⟨e,h⟩:=h;subst e;cases r;exact assignInOrder_nil ⟨a,H,I,h⟩
theorem DE(g:PG X e t)(f:Ud X es u)
  (b:(assignEach (e::es) X.env).map (·.2)=assign e X.env::(assignEach es X.env).map (·.2):=by rfl):Ud X (e::es) (zL t u):=by
 intro a s d H i j Q I r h;obtain⟨v,k,c,h⟩:=h;subst c;cases r with
 |cons r rr=>rw[b];refine assignInOrder_cons (lC (g a s d H _ _ _ I r h) λ_ s1 ⟨σ1,H1,I1,q1⟩=>?_);exact f a s1 σ1 H1 _ _ Q I1 rr q1
def IY(K:W.Frag)(n:Nat)(t:NJ):TG:=λv c H Q=>∃a b,v=.ref a/\oH K H a b/\b.length=n/\t b c H Q
def JT(z:X.calm=true)(h:Ud X es t)
  (i:(assignEach es X.env).length=n:=by rfl) (c:(assignEach es X.env).findIdx? (·.1)=none:=by rfl):PG X (.Tuple es k pos) (IY X.K n t):=by
 intro j s g H v u Q I r hw;obtain⟨a,l,p,m,q,hw⟩:=hw;subst p;cases r;obtain⟨w,d,f,B⟩:=I.tuple m;refine assign_Tuple_tuple (I.ok.hd z) f (by simp[i,<-q,d.length]) c λA y=>?_;have x:=I.kept (t':=s.toks) λb o e=>y b o (aM (aL e)) e;exact h j _ g H l _ Q x (by simpa using d) hw
def S8(to d:TE)(t:Vd):TG:=λv a H Q=>to a H λo c=>d a c λi b=>t o i v b λe=>Q a e
def Sq(d:PE X o to)(e:PE X i ti)(c:Uv X t)
  (f:∀v,assign (.Subscript o i pos) X.env v=(do
   let ov <-holding [v] (eval o X.env)
   let iv <-holding [v,ov] (eval i X.env)
   standAt pos
   holding [v,ov,iv] (setItem ov iv v)
   release [v,ov,iv] []):=by intro _;rfl):PG X (.Subscript o i pos) (S8 to ti t):=by
 intro b s a H v u Q I r h;rw[f];refine ao (wpAny_holding (lC (d b s a H _ I h) λov s1 ⟨x,H1,I1,r1,q1⟩=>?_));refine ao (wpAny_holding (lC (e b s1 a H1 _ I1 q1) λiv s2 ⟨y,H2,I2,r2,q2⟩=>?_));refine ao (wpAny_standAt (ao (wpAny_holding (lC (c b s2 a H2 x y v ov iv u _ I2 r1 r2 r q2) λ_ s3 ⟨H3,I3,q3⟩=>?_))));exact wpAny_release ⟨a,H3,I3,q3⟩
def qA(b:TE)(g:TG):TS:=λD a H=>b a H λx c=>g x a c D.nx
def JZ(i:PE X e te)(f:PG X tg g)(c:swapsWithSole [tg] e pos.line X.env=pure false:=by rfl)(hw:swappedStores [tg] e X.env=pure none:=by rfl)
  (d:(assignEach [tg] X.env).map (·.2)=[assign tg X.env]:=by rfl):PS X (.Assign [tg] e pos) (qA te g):=by
 intro a s b H D I h;refine wpAny_Assign_stores (lC (i a s b H _ I h) λv s1 ⟨x,H1,I1,r1,q1⟩=>?_) c hw;rw[d];exact lC (f a s1 b H1 x v _ I1 r1 q1) λ_ j q=>q
def BX(j:X.N.Nodup)(k:X.N[i]? = some x)(f:IQ X.env.scope x)(l:PE X e te)(a:swapsWith e (some (.Name x pos')) pos.line X.env=pure false:=by rfl)(b:X.fn x=true\/X.env.scope.names.lookup x=some .local:=by first|exact .inl rfl|exact .inr rfl|assumption) :
  PS X (.Assign [.Name x pos'] e pos) (qA te (lN i)):=by
 intro c s g H D I h;refine wpAny_Assign_Name (lC (l c s g H _ I h) λv s1 ⟨y,H1,I1,r1,q1⟩=>?_) a;exact vM I1 j k f r1 (λm d=>⟨_,H1,d,q1⟩) b
def Ry(i j:Nat)(b:TA):TS:=λD a H=>b a H λc d=>∃v w,c=[v,w]/\D.nx ((a.set i (some v)).set j (some w)) d
theorem Tr{kt k2 pt2}(Q:X.calm=true)(u:X.N.Nodup)(J:X.N[i]? = some x)(P:X.N[j]? = some y)(g:i≠j)
  (r:X.env.scope.names.lookup x=some .local) (z:X.env.scope.names.lookup y=some .local) (K:PA X [a,b] ta)
  (hw:swappedStores [.Tuple [.Name x px,.Name y py] kt pt] (.Tuple [a,b] k2 pt2) X.env=pure (some [x,y]))
  (L:swapsWithSole [.Tuple [.Name x px,.Name y py] kt pt] (.Tuple [a,b] k2 pt2) pos.line X.env=pure false:=by rfl) :
  PS X (.Assign [.Tuple [.Name x px,.Name y py] kt pt] (.Tuple [a,b] k2 pt2) pos) (Ry i j ta):=by
 intro n s m H D I h;rw[exec_Assign_arm];refine ao (wpAny_standAt ?_);rw[L];refine ao (ak ?_);rw[aR (by decide)];refine ao (Tuple_ (lC (K _ n s m H _ I h) λus s1 ⟨vs,H1,I1,r1,k⟩=>?_));obtain⟨v,w,E,k⟩:=k;subst E;obtain⟨d,c,rfl,rv,rw'⟩:∃d c,us=[d,c]/\jB v d/\jB w c:=by
  cases r1 with
  |cons p q=>
   cases q with
   |cons p' q'=>cases q';exact⟨_,_,rfl,p,p'⟩
 refine wpAny_newObj_type ?_ (by show 2<=sizeLine;decide);have F:iE X n m H1 {s1 with heap:=s1.heap.push {cls:=.type "tuple",data:=.seq [d,c].toArray}}:=I1.kept λb o e=>ae _ e;rw[hw];refine ao (ak ?_);show wpAny (model X.prog X.w) X.A (do rule "assign.swapped-stores";let items <-unpackItems (.ref s1.heap.objs.size) 2 none;assignInOrder [λv=>bindName X.env y v,λv=>bindName X.env x v] items.reverse;pure Flow.next) _ _ _;refine ao (wpAny_rule (ao (unpackItems_tuple (items:=#[d,c]) (I.ok.hd Q) (IsTup.new s1.heap _) λS f=>?_)));have C:=F.kept (t':=s1.toks) λb o e=>f b o (aM (aL e)) e;refine ao (assignInOrder_cons (wpAny_bindName (vM C u P (.inl z) rw' (λR B=>?_) (.inr z))));refine assignInOrder_cons (wpAny_bindName (vM B u J (.inl r) rv (λU l=>assignInOrder_nil (ak ?_)) (.inr r)));rw[List.set_comm _ _ (Ne.symm g)]at l;exact⟨_,H1,l,k⟩
end
section
variable {X:Cx}{pos:Pos}
def EZ(c:TT)(h:TS):TS:=λD a H=>∃W:Nat->St->Hp->Prop,(∃m,W m a H)/\∀m a H,W m a H->
 c a H λb e=>if b=true then ∃N:St->Hp->Prop,(∀d f,N d f->∃g,g<m/\W g d f)/\h {D with nx:=N,ct:=N,bk:=D.nx} a e else D.nx a e
def Kg(u:PassesOwn (model X.prog X.w) X.A X.env X.xe)(P:PT X c tc)(hb:ES X body tb):PS X (.While c body [] pos) (EZ tc tb):=by
 intro o s B H D I h;obtain⟨W,⟨J,C⟩,g⟩:=h;refine wpAny_While (codeAny_whileLoop (λn F=>∃i y,iE X o i y F/\W n i y) ?_ J ⟨B,H,I,C⟩);rintro n E ⟨d,z,L,K⟩;refine wpAny_passesOwn u (lC (P o E d z _ L (g n d z K)) λb s2 ⟨H2,I2,j⟩=>?_);cases b with
 |true=>
  obtain⟨N,x,j⟩:=j;rw[aQ rfl];refine wpAny_passesOwn u (lC (hb o s2 d H2 _ I2 j) λf Q k=>?_);cases f with
  |next=>obtain⟨a,e,r,p⟩:=k;obtain⟨q,l,m⟩:=x a e p;exact⟨q,l,a,e,r,m⟩
  |cont=>obtain⟨a,e,r,p⟩:=k;obtain⟨q,l,m⟩:=x a e p;exact⟨q,l,a,e,r,m⟩
  |brk=>exact k
  |ret v=>exact k
 |false=>rw[aR aH];exact wpAny_execs_nil ⟨d,H2,I2,j⟩
end
structure It where
 go:Nat->Hp->Prop
 yld:Nat->Hp->V->Hp->Prop
 stop:Nat->Hp->Prop
def uO(X:Cx)(a:List (Addr×Obj))(H:Hp)(b:Addr):Prop:=H b=none/\b≠X.env.locals/\b∉X.fs/\(b∈X.ex\/X.s₀.heap.objs.size<=b)/\(∀x c,X.env.cells.lookup x=some c->c≠b)/\∀p∈X.pn++a,p.1≠b
def iE.fpOk(I:iE X gO σ H s)(hb:s.heap.objs.size<=b)(d:H' b=none):uO X gO H' b:=by
 refine⟨d,bC (aE I.lt hb),I.nofs hb,.inr (aN I.sz hb),λx c e z=>?_,λp a z=>?_⟩
 .obtain⟨v,q⟩:=I.cell x c e;exact absurd (aE q.lt (by rw[z];exact hb)) (a9 _)
 .exact absurd (aE (aL (I.pin p a).1) (by rw[z];exact hb)) (a9 _)
structure Et(P:Program)(w:World)(K:W.Frag)(tg:Expr)(J:It)(fp:List Addr)(it:Addr)(tn:Nat->Heap->Prop):Prop where
 mem:it∈fp
 obj:∀i h,tn i h->∀b∈fp,∃o,h.get? b=some o/\∀v,o.data≠.cell v
 keep:∀i h h',tn i h->(∀b∈fp,∀o,h.get? b=some o->h'.get? b=some o)->tn i h'
 item:∀(X:Cx),X.prog=P->X.w=w->X.K=K->X.calm=true->∀(i:Nat) (gO:List (Addr×Obj)) (s:Shared) (σ:St) (H:Hp) (E:Value->Shared->Prop),iE X gO σ H s->(∀b∈fp,uO X gO H b)->tn i s.heap->J.go i H->
  wpAny (model P w) X.A (pyNext (.ref it)) (λr s1=>∃u,r=some u/\
   wpAny (model P w) X.A (letOwnedTupleGo tg (.ref it) u) (λ_ s2=>∃x H',iE X gO σ H' s2/\jB x u/\J.yld i H x H'/\tn (i+1) s2.heap/\∀b∈fp,H' b=none) E s1) E s
 done:∀(X:Cx),X.prog=P->X.w=w->X.K=K->X.calm=true->∀(i:Nat) (gO:List (Addr×Obj)) (s:Shared) (σ:St) (H:Hp) (E:Value->Shared->Prop),iE X gO σ H s->(∀b∈fp,uO X gO H b)->tn i s.heap->J.stop i H->
  wpAny (model P w) X.A (pyNext (.ref it)) (λr s1=>r=none/\iE X gO σ H s1) E s
 self:∀(A:Around) (i:Nat) (s:Shared) (Q:Value->Shared->Prop) (E:Value->Shared->Prop),tn i s.heap->Q (.ref it) s->wpAny (model P w) A (pyIter (.ref it)) Q E s
abbrev TI:=St->Hp->(It->Hp->Prop)->Prop
def WB(X:Cx)(d:List (Addr×Obj))(h:St)(i:Expr)(R:It->Hp->Prop)(a:Value)(e:Shared):Prop:=∃(it:Addr) (g:List Addr) (f:Nat->Heap->Prop) (J:It) (c:Hp),a=.ref it/\iE X d h c e/\Et X.prog X.w X.K i J g it f/\f 0 e.heap/\(∀b∈g,uO X d c b)/\R J c
def PI(X:Cx)(e a:Expr)(f:TI):Prop:=
 ∀(c:List (Addr×Obj)) (s:Shared) (b:St) (H:Hp) (R:It->Hp->Prop),iE X c b H s->f b H R->
  wpAny (model X.prog X.w) X.A (eval a X.env) (λv d=>wpAny (model X.prog X.w) X.A (pyIter v) (WB X c b e R) X.xe d) X.xe s
theorem HG{M:Model}{A:Around}{E:Value->Shared->Prop}{s:Shared}{b:Expr}{it:Addr}{u:Value}{o:Obj}{n:String}{vs:Array Value}{Q:Unit->Shared->Prop}(d:s.heap.get? it=some o)(f:o.cls=.type n)(c:o.data=.fields vs)
    (e:["enumerate", "zip", "dict_itemiterator", "dict_reverseitemiterator", "odict_iterator", "itertools.zip_longest", "itertools.pairwise"].contains n=false) (a:Q () s):wpAny M A (letOwnedTupleGo b (.ref it) u) Q E s:=by
  unfold letOwnedTupleGo;cases b<;>first
    |exact ak a
    | (cases u<;>first
        |exact ak a
        | (refine ao (wpAny_load d ?_)
           rw[f,c]
           show wpAny M A (if (["enumerate", "zip", "dict_itemiterator", "dict_reverseitemiterator", "odict_iterator", "itertools.zip_longest", "itertools.pairwise"].contains n&&vs[0]? == some (rawInt _))=true then _ else _) Q E s
           rw[aR (by intro h;rw[e,Bool.false_and]at h;cases h)]
           exact ak a))
noncomputable def Wj(K:W.Frag)(a:Addr):It:=⟨λi H=>∃b x,mN K H a b/\b[i]? = some x,λi H x c=>c=H/\∀b,mN K H a b->b[i]? = some x,λi H=>∃b,mN K H a b/\b.length<=i⟩
noncomputable def Wq(K:W.Frag)(a:Addr):It:=⟨λi H=>∃b x,oH K H a b/\b[i]? = some x,λi H x c=>c=H/\∀b,oH K H a b->b[i]? = some x,λi H=>∃b,oH K H a b/\b.length<=i⟩
noncomputable def UL(a:Int)(n:Nat):It:=⟨λi _=>i<n,λi H x b=>b=H/\x=.int (a+i),λi _=>n<=i⟩
def Ji{K:W.Frag} a it:Et P w K tg (Wj K a) [it] it (λi h=>h.IsListIter it a i) where
 mem:=by simp
 obj:=λi h f b g=>by
  have e:b=it:=by simpa using g
  subst e;obtain⟨o,e,c,d⟩:=f;exact⟨o,e,λv z=>by rw[d]at z;cases z⟩
 keep:=λi h N f k=>f.at λo e=>k it (by simp) o e
 item:=by intro X n hw y Q i U s R H E I m f F;subst n hw y;obtain⟨xs,x,l,J⟩:=F;obtain⟨D,A,p,hz⟩:=I.list l;obtain⟨u,Y,ru⟩:=A.get J;obtain⟨r,C,Z,L,q,B⟩:=m it (by simp);refine wpAny_pyNext_list_item f p.isList (by simpa using Y) λN j sb=>?_;have I1:=I.turned (t':=s.toks) (λb o g e=>(sb.2 b g).trans e) r C L q B;obtain⟨o,e,c,d⟩:=id j;exact⟨u,rfl,HG e c d (by decide) ⟨x,H,I1,ru,⟨rfl,λys hy=>by rw[I.list_inj hy l];exact J⟩,j,λb g=>(m b g).1⟩⟩
 done:=by intro X n hw y Q i U s R H E I m f F;subst n hw y;obtain⟨xs,l,J⟩:=F;obtain⟨D,A,p,hz⟩:=I.list l;obtain⟨r,C,Z,L,q,B⟩:=m it (by simp);have hl:=A.length;exact wpAny_pyNext_list_end (I.ok.hd Q) f p.isList (by simp;omega) λN S=>⟨rfl,I.turned (λb o g e=>S b o g e) r C L q B⟩
 self:=λ_ _ _ _ _ f h=>wpAny_pyIter_listiter f h
def Gz{K:W.Frag} a it:Et P w K tg (Wq K a) [it] it (λi h=>h.IsTupleIter it a i) where
 mem:=by simp
 obj:=λi h f b g=>by
  have e:b=it:=by simpa using g
  subst e;obtain⟨o,e,c,d⟩:=f;exact⟨o,e,λv z=>by rw[d]at z;cases z⟩
 keep:=λi h N f k=>f.at λo e=>k it (by simp) o e
 item:=by intro X n hw y Q i U s R H E I m f F;subst n hw y;obtain⟨xs,x,l,J⟩:=F;obtain⟨D,A,p,hz⟩:=I.tuple l;obtain⟨u,Y,ru⟩:=A.get J;obtain⟨r,C,Z,L,q,B⟩:=m it (by simp);refine wpAny_pyNext_tuple_item f (p) (by simpa using Y) λN j sb=>?_;have I1:=I.turned (t':=s.toks) (λb o g e=>(sb.2 b g).trans e) r C L q B;obtain⟨o,e,c,d⟩:=id j;exact⟨u,rfl,HG e c d (by decide) ⟨x,H,I1,ru,⟨rfl,λys hy=>by rw[I.tuple_inj hy l];exact J⟩,j,λb g=>(m b g).1⟩⟩
 done:=by intro X n hw y Q i U s R H E I m f F;subst n hw y;obtain⟨xs,l,J⟩:=F;obtain⟨D,A,p,hz⟩:=I.tuple l;obtain⟨r,C,Z,L,q,B⟩:=m it (by simp);have hl:=A.length;exact wpAny_pyNext_tuple_end (I.ok.hd Q) f (p) (by simp;omega) λN S=>⟨rfl,I.turned (λb o g e=>S b o g e) r C L q B⟩
 self:=λ_ _ _ _ _ f h=>wpAny_pyIter_tupleiter f h
def F8{K:W.Frag} it lo n:Et P w K tg (UL lo n) [it] it (λi h=>IsRangeIter h it (lo+(i:Nat)*1) ((n:Int)-(i:Nat)) 1) where
 mem:=by simp
 obj:=λi h a b c=>by
  have e:b=it:=by simpa using c
  subst e;exact⟨_,a,λv z=>by have D:=z;cases D⟩
 keep:=λi h m a k=>k it (by simp) _ a
 item:=by intro X g hw p y i B s A H E I f a u;subst g hw p;obtain⟨l,r,L,x,j,q⟩:=f it (by simp);have W:=Walks.range (prog:=X.prog) (w:=X.w) (I.ok.hd y) it lo 1 n;refine W.item i s _ _ u a λv m C hv d J=>?_;obtain⟨t,rfl⟩:=hv;have N:iE X B A H {s with heap:=m,toks:=C}:=I.turned (λb o c e=>J b o (by simpa using c) e) l r x j q;refine⟨_,rfl,HG d rfl rfl (by decide) ⟨.int (lo+i),H,N,⟨t,?_⟩,⟨rfl,rfl⟩,d,λb c=>(f b c).1⟩⟩;rw[bD]
 done:=by intro X g hw p y i B s A H E I f a u;subst g hw p;obtain⟨l,r,L,x,j,q⟩:=f it (by simp);exact wpAny_pyNext_range_end (I.ok.hd y) a (by have:n<=i:=u;omega) λm F=>⟨rfl,I.turned (λb o c e=>F b o c e) l r x j q⟩
 self:=λ_ _ _ _ _ a h=>wpAny_pyIter_rangeiter a h
end L2
namespace L2
open PySem PySem.Spec PyProof.Rows
section
variable {X:Cx}{tg:Expr}
def K0(K:W.Frag)(c:TE):TI:=λd H R=>c d H λx b=>∃a,x=.ref a/\(∃e,mN K b a e)/\R (Wj K a) b
def TB(K:W.Frag)(c:TE):TI:=λd H R=>c d H λx b=>∃a,x=.ref a/\(∃e,oH K b a e)/\R (Wq K a) b
def Qa(g:PE X l tl):PI X tg l (K0 X.K tl):=by
 intro d s c H R I h;refine lC (g d s c H _ I h) λv s1 ⟨x,H1,I1,r1,q1⟩=>?_;obtain⟨a,e,⟨k,f⟩,q⟩:=q1;subst e;cases r1;obtain⟨i,m,p,n⟩:=I1.list f;refine wpAny_pyIter_list p.isList ?_;refine⟨s1.heap.objs.size,[s1.heap.objs.size],_,_,H1,rfl,I1.kept λb o e=>ae _ e,Ji a _,⟨_,ar _ rfl,rfl,rfl⟩,λb j=>?_,q⟩;have e:b=s1.heap.objs.size:=by simpa using j
 subst e;exact I1.fpOk (aK _) (I1.hok.fresh (aK _))
def RB(g:PE X l tl):PI X tg l (TB X.K tl):=by
 intro d s c H R I h;refine lC (g d s c H _ I h) λv s1 ⟨x,H1,I1,r1,q1⟩=>?_;obtain⟨a,e,⟨k,f⟩,q⟩:=q1;subst e;cases r1;obtain⟨i,m,p,n⟩:=I1.tuple f;refine wpAny_pyIter_tuple (p) ?_;refine⟨s1.heap.objs.size,[s1.heap.objs.size],_,_,H1,rfl,I1.kept λb o e=>ae _ e,Gz a _,⟨_,ar _ rfl,rfl,rfl⟩,λb j=>?_,q⟩;have e:b=s1.heap.objs.size:=by simpa using j
 subst e;exact I1.fpOk (aK _) (I1.hok.fresh (aK _))
def Nz{a c:Int}(I:iE X gO σ H s)(l:-(2 ^ 62)<=a)(k:a<2 ^ 62)(j:-(2 ^ 62)<=c)(f:c<2 ^ 62)
  (q:R (UL a (c-a).toNat) H):wpAny (model X.prog X.w) X.A (pyIter (.ref s.heap.objs.size)) (WB X gO σ tg R) E {s with heap:=s.heap.push {cls:=.type "range",data:=.fields #[.int a t,.int c u,.int 1 v]},toks:=tk}:=by
 refine wpAny_pyIter_range (IsRange.new ..) (small_one l k j f) ?_;have d:iE X gO σ H {s with heap:=s.heap.push {cls:=.type "range",data:=.fields #[.int a t,.int c u,.int 1 v]},toks:=tk}:=I.kept λb o e=>ae _ e;refine⟨(s.heap.push {cls:=.type "range",data:=.fields #[.int a t,.int c u,.int 1 v]}).objs.size,[(s.heap.push {cls:=.type "range",data:=.fields #[.int a t,.int c u,.int 1 v]}).objs.size],_,_,H,rfl,
  d.kept λb o e=>ae _ e,F8 _ a (c-a).toNat,?_,λb h=>?_,q⟩
 .have g:a+((0:Nat):Int)*1=a:=by simp
  have i:(((c-a).toNat:Nat):Int)-((0:Nat):Int)=Builtin.Range.rangeSize a c 1:=by rw[rangeSize_one];split<;>omega
  rw[g,i];exact ar _ rfl
 .have e:b=(s.heap.push {cls:=.type "range",data:=.fields #[.int a t,.int c u,.int 1 v]}).objs.size:=by simpa using h
  subst e;exact d.fpOk (aK _) (d.hok.fresh (aK _))
def K8(a:TA):TI:=λc H R=>a c H λb d=>∃j:Int,b=[.int j]/\-(2 ^ 62)<=j/\j<2 ^ 62/\R (UL 0 j.toNat) d
def IK(f:Gl X "range")(c:X.mg "range" = none)(l:PA X [a] ta)(d:starEach [a] X.env=[(false,eval a X.env)]:=by rfl):PI X tg (.Call (.Name "range" p) [a] [] pos) (K8 ta):=by
 intro g s i H R I h;refine Call_ (rC I f c boot_range (PyProof.Rows.callWith_type1 (lC (l pos g s i H _ I h) λus s1 ⟨vs,H1,I1,r1,b⟩=>?_) d rfl));obtain⟨j,e,b,k,q⟩:=b;subst e;cases r1 with
 |cons r rr=>cases rr;obtain⟨t,rfl⟩:=r;exact call_range_1 (Nz I1 (by omega) (by omega) b k (by simpa using q))
def Kr(h:TI)(g:TG)(j:TS):TS:=λD a H=>h a H λJ k=>∃W:Nat->Nat->St->Hp->Prop,(∃m,W 0 m a k)/\∀i m a H,W i m a H->
 (J.stop i H/\D.nx a H)\/(J.go i H/\∃N:St->Hp->Prop,(∀b c,N b c->∃e,e<m/\W (i+1) e b c)/\∀x c,J.yld i H x c->g x a c λd f=>j {D with nx:=N,ct:=N,bk:=D.nx} d f)
noncomputable def zy(a:List Addr)(h:Heap):List (Addr×Obj):=a.filterMap λb=>(h.get? b).map λo=>(b,o)
def rM(hb:b∈fp)(e:h.get? b=some o):(b,o)∈zy fp h:=bE.mpr ⟨b,hb,by rw[e];rfl⟩
def Ja(a:p∈zy fp h):p.1∈fp/\h.get? p.1=some p.2:=by
 obtain⟨b,d,e⟩:=bE.mp a;cases q:h.get? b with
 |none=>rw[q]at e;cases e
 |some o=>rw[q]at e;have c:=Option.some.inj e;subst c;exact⟨d,q⟩
def iE.pinned(I:iE X gO σ H s)(h:∀b∈fp,uO X gO H b)(f:∀b∈fp,∃o,s.heap.get? b=some o/\∀v,o.data≠.cell v):iE X (gO++zy fp s.heap) σ H s:=I.pins_of λp g=>(ai.mp g).elim (λz=>I.pin p (bF _ z)) λz=>by obtain⟨c,e⟩:=Ja z;obtain⟨j,k,i,_⟩:=h p.1 c;obtain⟨o,a,d⟩:=f p.1 c;rw[e]at a;cases a;exact⟨e,j,k,i,d⟩
def iE.unpinned(I:iE X (gO++pl) σ H s):iE X gO σ H s:=I.pins_of λp a=>I.pin p (bF _ (ax _ a))
theorem Ng(Q:PassesOwn (model X.prog X.w) X.A X.env X.xe)(hc:X.calm=true)(hi:PI X tg iter wi)(hg:PG X tg g)(hb:ES X body tb)
  (hs:∀x,foldedSetIterable iter X.env x=pure x:=by intro _;rfl):PS X (.For tg iter body [] pos) (Kr wi g tb):=by
 intro B s Z H D I h;refine wpAny_For (lC (hi B s Z H _ I h) λv s1 h1=>lC h1 λitv s2 h2=>?_) hs;obtain⟨it,C,tn,J,H2,e,I2,T,U,f2,W,⟨m0,w0⟩,P⟩:=h2;subst e;have c:∀{y:Hp},(∀b∈C,y b=none)->∀b∈C,uO X B y b:=λhn b hb=>⟨hn b hb,(f2 b hb).2⟩;refine codeAny_forLoop_any (λn s'=>∃i q y,iE X B q y s'/\tn i s'.heap/\(∀b∈C,y b=none)/\W i n q y) ?_ m0 ⟨0,Z,H2,I2,U,λb hb=>(f2 b hb).1,w0⟩;rintro n s3 ⟨i,l,R,I3,E,K,w3⟩;rcases P i n l R w3 with⟨F,qn⟩|⟨go,N,hN,step⟩
 .refine wpAny_passesOwn Q (lC (T.done X rfl rfl rfl hc i B s3 l R X.xe I3 (c K) E F) λr s4 ⟨hr,I4⟩=>?_);subst hr;exact wpAny_execs_nil ⟨l,R,I4,qn⟩
 .refine wpAny_passesOwn Q (lC (T.item X rfl rfl rfl hc i B s3 l R X.xe I3 (c K) E go) λr s4 ⟨u,hr,h4⟩=>?_);subst hr;refine wpAny_passesOwn Q (lC h4 λ_ s5 ⟨x,H5,I5,r5,y5,st5,fr5⟩=>?_);have Y:=I5.pinned (c fr5) (T.obj _ _ st5);refine wpAny_passesOwn Q (lC (hg _ s5 l H5 x u _ Y r5 (step x H5 y5)) λ_ s6 ⟨σ6,H6,I6,q6⟩=>?_);refine wpAny_passesOwn Q (lC (hb _ s6 σ6 H6 _ I6 q6) λf S z=>?_);have k:∀{a:St} {p:Hp},iE X (B++zy C s5.heap) a p S->N a p->∃m,m<n/\∃i q y,iE X B q y S/\tn i S.heap/\(∀b∈C,y b=none)/\W i m q y:=λ{a p} j L=>by obtain⟨m',hm,w7⟩:=hN a p L;refine⟨m',hm,i+1,a,p,j.unpinned,T.keep _ _ _ st5 λb hb o e=>(j.pin (b,o) (bF _ (bF _ (rM hb e)))).1,λb hb=>?_,w7⟩;obtain⟨o,e,d⟩:=T.obj _ _ st5 b hb;exact (j.pin (b,o) (bF _ (bF _ (rM hb e)))).2.1
  cases f with
  |next=>obtain⟨a,p,j,L⟩:=z;exact k j L
  |cont=>obtain⟨a,p,j,L⟩:=z;exact k j L
  |brk=>obtain⟨a,p,j,z⟩:=z;exact⟨a,p,j.unpinned,z⟩
  |ret v=>obtain⟨x7,a,p,j,r7,z⟩:=z;exact⟨x7,a,p,j.unpinned,r7,z⟩
end
end L2
namespace L2
open PySem PySem.Spec PyProof.Rows
abbrev R2:=V->V->Hp->VK->Prop
def rz(X:Cx)(f:Value->Value->Sem Value)(r:R2):Prop:=
 ∀(a:List (Addr×Obj)) (s:Shared) (b:St) (H:Hp) (x y:V) (v u:Value) (Q:VK),iE X a b H s->jB x v->jB y u->r x y H Q->
  wpAny (model X.prog X.w) X.A (f v u) (EP X a b Q) X.xe s
def V0(X:Cx)(f:Value->Sem Value)(r:V->Hp->VK->Prop):Prop:=
 ∀(a:List (Addr×Obj)) (s:Shared) (b:St) (H:Hp) (x:V) (v:Value) (Q:VK),iE X a b H s->jB x v->r x H Q->
  wpAny (model X.prog X.w) X.A (f v) (EP X a b Q) X.xe s
def lX(X:Cx)(f:Value)(r:List V->Hp->VK->Prop):Prop:=
 ∀(a:List (Addr×Obj)) (s:Shared) (b:St) (H:Hp) (d:List V) (c:List Value) (Q:VK),iE X a b H s->ji d c->r d H Q->
  wpAny (model X.prog X.w) X.A (call f c) (EP X a b Q) X.xe s
def zv(r:R2)(b c:TE):TE:=λa H Q=>b a H λx d=>c a d λy e=>r x y e Q
def Wo(r:V->Hp->VK->Prop)(a:TE):TE:=λb H Q=>a b H λx c=>r x c Q
def rI(C:Int->Int->Prop)(g:Int->Int->V):R2:=λx y H Q=>∃i j,x=.int i/\y=.int j/\C i j/\Q (g i j) H
def Fj(g:Int->Int->V):R2:=λx y H Q=>∃i j,x=.int i/\y=.int j/\Q (g i j) H
def rU(g:Int->V):V->Hp->VK->Prop:=λx H Q=>∃i,x=.int i/\Q (g i) H
section
variable {X:Cx}{a b c:Expr}{ta tb tc:TE}{pos:Pos}
def SJ(l:PE X a ta)(hb:PE X b tb){R:V->V->Hp->Prop}(I:iE X gO σ H s)
  (h:ta σ H λx j=>tb σ j λy d=>R x y d) {f:Value->Value->Sem Value}
  (k:∀v u i x y d,iE X gO σ d i->jB x v->jB y u->R x y d->wpAny (model X.prog X.w) X.A (f v u) Q X.xe i) :
  wpAny (model X.prog X.w) X.A (eval a X.env) (λv g=>wpAny (model X.prog X.w) X.A (eval b X.env) (λu e=>wpAny (model X.prog X.w) X.A (f v u) Q X.xe e) X.xe g) X.xe s:=by
 refine lC (l gO s σ H _ I h) λv s1 ⟨x,j,I1,r1,q1⟩=>?_;refine lC (hb gO s1 σ j _ I1 q1) λu i ⟨y,d,I2,r2,q2⟩=>?_;exact k v u i x y d I2 r1 r2 q2
def Lp(d:rz X (binaryOp op) r)(k:PE X a ta)(hb:PE X b tb):PE X (.BinOp a op b pos) (zv r ta tb):=by intro g s e H Q I h;exact wpAny_BinOp (SJ k hb I h λv u f x y i j m l q=>d g f e i x y v u Q j m l q)
def UB(f:V0 X (unaryOp op) r)(g:PE X a ta):PE X (.UnaryOp op a pos) (Wo r ta):=by intro d s e H Q I h;exact UnaryOp_ (lC (g d s e H _ I h) λv s1 ⟨x,H1,I1,r1,q1⟩=>f d s1 e H1 x v Q I1 r1 q1)
def VT{g:Int->Int->Int}
  (d:∀i j t u s Q E,C i j->Q (.int (g i j) s.toks) {s with toks:=s.toks+1}->wpAny (model X.prog X.w) X.A (f (.int i t) (.int j u)) Q E s) :
  rz X f (rI C λi j=>.int (g i j)):=by
 intro o s n H x y v u Q I l k h;obtain⟨i,j,rfl,rfl,m,q⟩:=h;obtain⟨t,rfl⟩:=l;obtain⟨e,rfl⟩:=k;exact d i j t e s _ _ m ⟨.int (g i j),H,I.tok _,⟨_,rfl⟩,q⟩
def Vp{g:Int->Int->Int}
  (d:∀i j t u s Q E,Q (.int (g i j) s.toks) {s with toks:=s.toks+1}->wpAny (model X.prog X.w) X.A (f (.int i t) (.int j u)) Q E s) :
  rz X f (Fj λi j=>.int (g i j)):=by
 intro n s m H x y v u Q I l k h;obtain⟨i,j,rfl,rfl,q⟩:=h;obtain⟨t,rfl⟩:=l;obtain⟨e,rfl⟩:=k;exact d i j t e s _ _ ⟨.int (g i j),H,I.tok _,⟨_,rfl⟩,q⟩
def Qd{g:Int->Int->Bool}
  (d:∀(i j:Int) (t u:Tok) (s:Shared) (Q:Value->Shared->Prop) (E:Value->Shared->Prop),Q (.bool (g i j)) s->wpAny (model X.prog X.w) X.A (f (.int i t) (.int j u)) Q E s) :
  rz X f (Fj λi j=>.bl (g i j)):=by
 intro n s m H x y v u Q I l k h;obtain⟨i,j,rfl,rfl,q⟩:=h;obtain⟨t,rfl⟩:=l;obtain⟨e,rfl⟩:=k;exact d i j t e s _ _ ⟨.bl (g i j),H,I,rfl,q⟩
def Um(i j:Int):Prop:=0<=j/\j<=1000000/\i.natAbs<2 ^ 64
def TC:rz X (binaryOp .Add) (Fj λi j=>.int (i+j)):=Vp λ_ _ _ _ _ _ _ q=>add_int q
def Tn:rz X (binaryOp .Sub) (Fj λi j=>.int (i-j)):=Vp λ_ _ _ _ _ _ _ q=>sub_int q
def Pg:rz X (binaryOp .Mod) (rI (λ_ j=>j≠0) λi j=>.int (i.fmod j)):=VT λ_ _ _ _ _ _ _ d q=>mod_int' d q
def Th:rz X (binaryOp .Pow) (rI Um λi j=>.int (i ^ j.toNat)):=VT λ_ _ _ _ _ _ _ d q=>pow_int_small d.1 d.2.1 d.2.2 q
def XA{g:Int->Int}
  (d:∀i t s Q E,Q (.int (g i) s.toks) {s with toks:=s.toks+1}->wpAny (model X.prog X.w) X.A (f (.int i t)) Q E s) :
  V0 X f (rU λi=>.int (g i)):=by
 intro j s k H x v Q I e h;obtain⟨i,rfl,q⟩:=h;obtain⟨t,rfl⟩:=e;exact d i t s _ _ ⟨.int (g i),H,I.tok _,⟨_,rfl⟩,q⟩
def Re:V0 X (unaryOp .USub) (rU λi=>.int (-i)):=XA λ_ _ _ _ _ q=>neg_int q
end
section
variable {X:Cx}{a b c:Expr}{ta tb tc:TE}{pos:Pos}
def M9(I:iE X gO σ H s)(q:Q (.bl k) H)(e:k=k'):EP X gO σ Q (.bool k') s:=by subst e;exact⟨.bl k,H,I,rfl,q⟩
def vh:rz X (compareOp .Lt) (Fj λi j=>.bl (decide (i<j))):=Qd λ_ _ _ _ _ _ _ q=>lt_int q
def zm:rz X (compareOp .LtE) (Fj λi j=>.bl (decide (i<=j))):=Qd λ_ _ _ _ _ _ _ q=>le_int q
def wu:rz X (compareOp .Gt) (Fj λi j=>.bl (decide (j<i))):=Qd λ_ _ _ _ _ _ _ q=>gt_int q
def Du:rz X (compareOp .GtE) (Fj λi j=>.bl (decide (j<=i))):=Qd λ_ _ _ _ _ _ _ q=>ge_int q
def Ao:rz X (compareOp .Is) (λx y H Q=>y=.non/\Q (.bl (decide (x=.non))) H):=by
 intro f s g H x y v u Q I d e h;obtain⟨rfl,q⟩:=h;cases e;refine is_none_gen (M9 I q ?_);cases x<;>first
  | (cases d;rfl)
  | (obtain⟨t,rfl⟩:=d;rfl)
def rN:rz X (compareOp .IsNot) (λx y H Q=>y=.non/\Q (.bl (!decide (x=.non))) H):=by
 intro f s g H x y v u Q I d e h;obtain⟨rfl,q⟩:=h;cases e;refine isnot_none_gen (M9 I q ?_);cases x<;>first
  | (cases d;rfl)
  | (obtain⟨t,rfl⟩:=d;rfl)
def xg b (h:op≠.In:=by decide) (d:op≠.NotIn:=by decide):behindInMarks op b=false:=by
 have e:(op==CmpOp.In)=false:=by cases op<;>first|rfl|exact absurd rfl h
 have f:(op==CmpOp.NotIn)=false:=by cases op<;>first|rfl|exact absurd rfl d
 cases b<;>simp[behindInMarks,e,f]
def PX(d:rz X (compareOp op) r)(l:PE X a ta)(hb:PE X b tb)(g:behindInMarks op b=false):PE X (.Compare a [op] [b] pos) (zv r ta tb):=by intro i s e H Q I h;exact wpAny_Compare1 (SJ l hb I h λv u f x y j k n m q=>d i f e j x y v u Q k n m q) g
def Bh(t:TE):TT:=λd H Q=>t d H λx e=>∃k,x=.bl k/\Q k e
def OY(i:rz X (compareOp op) r)(j:PE X a ta)(hb:PE X b tb)(g:behindInMarks op b=false):PT X (.Compare a [op] [b] pos) (Bh (zv r ta tb)):=by
 intro d s f H Q I h;refine wpAny_isTrue_Compare1 (lC (j d s f H _ I h) λv s1 ⟨x,H1,I1,r1,q1⟩=>lC (hb d s1 f H1 _ I1 q1) λu s2 ⟨y,H2,I2,r2,q2⟩=>lC (i d s2 f H2 x y v u _ I2 r1 r2 q2) λc s3 ⟨z,H3,I3,r3,k,e,q3⟩=>?_) g
 subst e;cases r3;exact wpAny_truthy_bool ⟨H3,I3,q3⟩
def Fo(r f:R2)(ta tb tc:TE):TE:=λd H Q=>ta d H λx g=>tb d g λy h=>r x y h λz e=>∃k,z=.bl k/\
 (if k=true then tc d e λj i=>f y j i Q else Q (.bl false) e)
theorem Ko(l:rz X (compareOp op) r)(i:rz X (compareOp op') r')(m:PE X a ta)(hb:PE X b tb)(n:PE X c tc)
  (j:lastMarks [op,op'] [b,c]=false:=by with_unfolding_all rfl):PE X (.Compare a [op,op'] [b,c] pos) (Fo r r' ta tb tc):=by
 intro f s g H Q I h;refine Compare_chain (lC (m f s g H _ I h) λv s1 ⟨x,H1,I1,r1,q1⟩=>chain_link (lC (hb f s1 g H1 _ I1 q1) λu s2 ⟨y,H2,I2,r2,q2⟩=>lC (l f s2 g H2 x y v u _ I2 r1 r2 q2) λd s3 ⟨z,H3,I3,r3,k,e,q3⟩=>?_)) j
 subst e;cases r3;refine wpAny_truthy_bool ?_;cases k with
 |false=>exact ite_ff ⟨.bl false,H3,I3,rfl,q3⟩
 |true=>exact ite_tt (chain_last (lC (n f s3 g H3 _ I3 q3) λw' s4 ⟨z',H4,I4,r4,q4⟩=>i f s4 g H4 y z' u w' Q I4 r2 r4 q4))
def CU:(sizeLine:Nat)<2 ^ 63:=by rw[sizeLine_eq];decide
def Gq:rz X (binaryOp .Add) (λx y H Q=>∃i j,x=.str i/\y=.str j/\i.length+j.length<=sizeLine/\Q (.str (i++j)) H):=by intro m s l H x y v u Q I f e h;obtain⟨i,j,rfl,rfl,g,q⟩:=h;obtain⟨t,rfl⟩:=f;obtain⟨d,rfl⟩:=e;exact add_str (λd k=>⟨.str (i++j),H,I.tok _,⟨_,rfl⟩,q⟩) g
def qc(r:ji [x] us):∃u,us=[u]/\jB x u:=by
 cases r with
 |cons r1 r2=>cases r2;exact⟨_,rfl,r1⟩
def Hg(r:ji [x,y] us):∃u d,us=[u,d]/\jB x u/\jB y d:=by
 cases r with
 |cons r1 r2=>
  cases r2 with
  |cons r3 r4=>cases r4;exact⟨_,_,rfl,r1,r3⟩
def oz:lX X (.builtin "abs") (λd H Q=>∃i,d=[.int i]/\Q (.int (if i<0 then -i else i)) H):=by intro f s g H d j Q I r h;obtain⟨i,rfl,q⟩:=h;obtain⟨u,rfl,t,rfl⟩:=qc r;exact call_abs_int λu e=>⟨.int (if i<0 then -i else i),H,I.tok _,⟨_,rfl⟩,q⟩
def Jf(f:X.calm=true):lX X (.builtin "max") (λe H Q=>∃i j,e=[.int i,.int j]/\Q (.int (if j>i then j else i)) H):=by
 intro n s l H e o Q I r h;obtain⟨i,j,rfl,q⟩:=h;obtain⟨u,m,rfl,⟨t,rfl⟩,⟨p,rfl⟩⟩:=Hg r;refine max_two_ints (I.ok.hd f) λv g k=>⟨_,H,I.kept k,?_,q⟩;by_cases d:j>i
 .rw[aQ d,aQ d];exact⟨_,rfl⟩
 .rw[aR d,aR d];exact⟨_,rfl⟩
def Jy(f:X.calm=true):lX X (.builtin "min") (λe H Q=>∃i j,e=[.int i,.int j]/\Q (.int (if j<i then j else i)) H):=by
 intro n s l H e o Q I r h;obtain⟨i,j,rfl,q⟩:=h;obtain⟨u,m,rfl,⟨t,rfl⟩,⟨p,rfl⟩⟩:=Hg r;refine min_two_ints (I.ok.hd f) λv g k=>⟨_,H,I.kept k,?_,q⟩;by_cases d:j<i
 .rw[aQ d,aQ d];exact⟨_,rfl⟩
 .rw[aR d,aR d];exact⟨_,rfl⟩
def ue:lX X (.type "int") (λd H Q=>(∃i,d=[.int i]/\Q (.int i) H)\/∃k,d=[.bl k]/\Q (.int (if k then 1 else 0)) H):=by
 intro f s g H d j Q I r h;rcases h with⟨i,rfl,q⟩|⟨k,rfl,q⟩
 .obtain⟨u,rfl,t,rfl⟩:=qc r;exact call_int_int ⟨.int i,H,I,⟨_,rfl⟩,q⟩
 .obtain⟨u,rfl,e⟩:=qc r;cases e;exact call_int_bool ⟨.int (if k then 1 else 0),H,I.tok _,⟨_,rfl⟩,q⟩
def Rr(K:W.Frag)(x:V)(H:Hp)(n:Nat):Prop:=
 match x with
 |.str y=>y.length<=sizeLine/\n=y.length
 |.byt y=>y.size<=sizeLine/\n=y.size
 |.ref p=>(∃d,mN K H p d/\n=d.length)\/∃d,oH K H p d/\n=d.length
 |_=>False
def Mh:lX X (.builtin "len") (λf H Q=>∃x n,f=[x]/\Rr X.K x H n/\Q (.int n) H):=by
 intro w s v H f z Q I r h;obtain⟨x,n,rfl,e,q⟩:=h;obtain⟨u,rfl,k⟩:=qc r;have A:=sizeLine_eq;cases x with
 |str y=>obtain⟨t,rfl⟩:=k;obtain⟨hy,d⟩:y.length<=sizeLine/\n=y.length:=e;subst d;exact len_str (by omega) ⟨.int _,H,I.tok _,⟨_,rfl⟩,q⟩
 |byt y=>obtain⟨t,rfl⟩:=k;obtain⟨hy,d⟩:y.size<=sizeLine/\n=y.size:=e;subst d;exact W.len_bytes (by omega) ⟨.int _,H,I.tok _,⟨_,rfl⟩,q⟩
 |ref p=>
  cases k;have d:=e;rcases d with⟨f,m,d⟩|⟨f,m,d⟩
  .subst d;obtain⟨j,l,g,o⟩:=I.list m;have i:=l.length;exact Calls.call_len_list g.isList (by simp only[bG];omega) ⟨.int f.length,H,I.tok _,⟨_,by simp only[bG];rw[i]⟩,q⟩
  .subst d;obtain⟨j,l,g,o⟩:=I.tuple m;have i:=l.length;exact len_tuple g (by simp only[bG];omega) ⟨.int f.length,H,I.tok _,⟨_,by simp only[bG];rw[i]⟩,q⟩
 |_=>exact (e).elim
end
end L2
namespace L2
open PySem PySem.Spec PyProof.Rows
structure Gb(h:Heap)(x dx C:Addr)(mA:Str->Option Value):Prop where
 obj:h.get? x=some (W.instObj C dx)
 ns:h.Ns1 dx mA
 ne:dx≠x
def Ic{h:Heap}(n:h.Ns1 dx mA):∃c,h.get? dx=some c/\∀name,W.lookIn name c=some (mA name):=by
 obtain⟨o,d,m,f,i,l,_,g⟩:=n;refine⟨o,f,λname=>?_⟩;have e:=g name;unfold nsFind findBy at e;rw[<-Array.find?_toList]at e;unfold W.lookIn;rw[i];dsimp only;split
 .rename_i y q;rw[q]at e;exact congrArg some e
 .rename_i q;rw[q]at e;have a:d.toList.any (·.refKey)=false:=by rw[bH];intro y k;obtain⟨z,t,b⟩:=l y (Array.mem_toList_iff.mp k);simp[DictEntry.refKey,b]
  have j:¬d.toList.any (·.refKey)=true:=by rw[a];exact aH
  rw[aR j];exact congrArg some e
def Gb.look(I:Gb h x dx C mA):∃a,W.InstAt h x (W.instObj C dx) C (some a)/\∀name,W.lookIn name a=some (mA name):=
 let ⟨a,ho,hl⟩:=Ic I.ns
 ⟨a,⟨I.obj,rfl,rfl,ho⟩,hl⟩
section
variable {prog:Program}{w:World}{A:Around}{E:Value->Shared->Prop}{s:Shared}{K:W.Frag}{x dx C f:Addr}{mA:Str->Option Value}{name:Str}{v:Value}
def NS(X:K.In s.heap)(I:Gb s.heap x dx C mA)(c:W.plainGet K C name=true)(b:W.hasDictIn K C=true)
  (e:W.findIn K (.ref C) name=some none) (hv:mA name=some v) (a:W.handedIn v=true) (h:Q v {s with toks:=s.toks+1}) :
  wpAny (model prog w) A (getAttr (.ref x) name expr) Q E s:=by
 obtain⟨g,J,d⟩:=I.look;exact W.get_value X J (W.plainGet_of c).1 (W.findObj_own b e rfl (by rw[d,hv])) a h
def LD(X:K.In s.heap)(I:Gb s.heap x dx C mA)(a:W.plainGet K C name=true)
  (b:W.findIn K (.ref C) name=some (some (.ref f))) (c:W.isFn K (.ref f)=true) (hv:mA name=none) (h:Q (.ref f,[.ref x]) s) :
  wpAny (model prog w) A (getMethod (.ref x) name pl) Q E s:=by
 obtain⟨e,J,d⟩:=I.look;exact W.method_fn X J (W.plainGet_of a).1 (W.plainGet_of a).2 b (beq_iff_eq.mp c) (by show (W.lookIn name e).map (·.isSome)=some false;rw[d,hv];rfl) h
def PU(X:K.In s.heap)(I:Gb s.heap x dx C mA)
  (n:W.findIn K (.ref C) "__setattr__" = some (some (.builtin "object.__setattr__"))) (o:W.plainOver K C=true) (l:W.takerIn K C name=some none) (k:W.hasDictIn K C=true)
  (hw:PySem.Within mA ns) (hsz:ns.length<=sizeLine)
  (h:∀d,Gb d x dx C (λy=>if y=name then some v else mA y)->Heap.SameBut dx s.heap d->Q () {s with heap:=d,toks:=s.toks+2}) :
  wpAny (model prog w) A (setAttr (.ref x) name v) Q E s:=by
 obtain⟨D,J,u⟩:=I.look;refine W.set_plain X J n (W.osa_open X J o l λb=>?_);obtain⟨z,r,i⟩:=W.any_some k;have q:=I.obj;refine ao (ak (ao (ao (wpAny_loadPart q (ao (W.Looks.here (W.looks_clsIn X r) ?_))))));rw[i];refine ak (ao (ak (ao ?_)));refine wpAny_nsSet1 I.ns λd c a=>?_;obtain⟨B,m,p,e,j,g⟩:=c.count (PySem.Within.cons name v hw);refine ao (wpAny_lookBehind e (by rw[j];exact pastItsLine_dict (aN g (by rw[ay];omega))) ?_);exact ak (h _ ⟨(a.2 _ (Ne.symm I.ne)).trans I.obj,c,I.ne⟩ a)
def Lh(X:K.In s.heap)(b:W.makesIn K C=true)
  (e:W.findIn K (.ref C) "__init__" = some (some (.ref f))) (c:W.typeIn K (.ref f)=some (.type "function"))
  (h:codeAny (model prog w) (A.under (.builtin "type.__call__" ⟨.ref C::vs,kw⟩)) (.call (.ref f) ⟨.ref (s.heap.objs.size+1)::vs,kw⟩) (W.InitBack (s.heap.objs.size+1) R)
   {s with heap:=(s.heap.push W.emptyDict).push (W.instObj C s.heap.objs.size)}) :
  codeAny (model prog w) A (.call (.ref C) ⟨vs,kw⟩) R s:=by
 obtain⟨i,g,d,t,j⟩:=s;exact W.make_core (W.makes_of X b) (W.looks_findIn X e) (λa=>W.bind_fn X a c) (.inl rfl) h
end
def sA(f:Str)(v:V):List (Str×V)->List (Str×V)
 |[]=>[(f,v)]
 | (g,x)::r=>if g=f then (g,v)::r else (g,x)::sA f v r
theorem xJ f g v:∀fs:List (Str×V),(sA f v fs).lookup g=if g=f then some v else fs.lookup g
 |[]=>by
  show List.lookup g [(f,v)]=_;by_cases h:g=f
  .have hb:=beq_iff_eq.mpr h;simp only[List.lookup,hb,aQ h]
  .have hb:=beq_eq_false_iff_ne.mpr h;simp only[List.lookup,hb,aR h]
 | (k,x)::r=>by
  have b:=xJ f g v r;rw[show sA f v ((k,x)::r)=(if k=f then (k,v)::r else (k,x)::sA f v r) from rfl];by_cases a:k=f
  .rw[aQ a];by_cases h:g=k
   .have hb:=beq_iff_eq.mpr h;simp only[List.lookup,hb,aQ (h.trans a)]
   .have hb:=beq_eq_false_iff_ne.mpr h;simp only[List.lookup,hb,aR (λe:g=f=>h (e.trans a.symm))]
  .rw[aR a];by_cases h:g=k
   .have hb:=beq_iff_eq.mpr h;simp only[List.lookup,hb,aR (λe:g=f=>a (h.symm.trans e))]
   .have hb:=beq_eq_false_iff_ne.mpr h;simp only[List.lookup,hb];exact b
theorem wN f v:∀fs:List (Str×V),f∈(sA f v fs).map (·.1)/\∀g,g∈fs.map (·.1)->g∈(sA f v fs).map (·.1)
 |[]=>⟨by simp[sA],λg h=>by simp at h⟩
 | (k,x)::r=>by
  obtain⟨c,b⟩:=wN f v r;rw[show sA f v ((k,x)::r)=(if k=f then (k,v)::r else (k,x)::sA f v r) from rfl];by_cases a:k=f
  .rw[aQ a];subst a;exact⟨by simp,λg h=>by simpa using h⟩
  .rw[aR a];refine⟨?_,λg h=>?_⟩
   .rw[bI];exact bz _ c
   .rw[bI]at h ⊢;rcases aF.mp h with e|e
    .exact aF.mpr (.inl e)
    .exact bz _ (b g e)
theorem xI f v:∀fs:List (Str×V),(sA f v fs).length<=fs.length+1
 |[]=>by simp[sA]
 | (k,x)::r=>by
  have b:=xI f v r;rw[show sA f v ((k,x)::r)=(if k=f then (k,v)::r else (k,x)::sA f v r) from rfl];by_cases a:k=f
  .rw[aQ a,ay,ay];omega
  .rw[aR a,ay,ay];omega
def uS.some_of(r:uS (some v) o):∃u,o=some u/\jB v u:=by
 cases o with
 |none=>exact (r).elim
 |some u=>exact⟨u,rfl,r⟩
def uS.none_of(r:uS none o):o=none:=by
 cases o with
 |none=>rfl
 |some u=>exact (r).elim
def Jx(r:jB v u):W.handedIn u=true:=by
 cases v with
 |non=>cases (r);rfl
 |bl b=>cases (r);rfl
 |int i=>obtain⟨t,e⟩:=(r);cases e;rfl
 |str x=>obtain⟨t,e⟩:=(r);cases e;rfl
 |byt b=>obtain⟨t,e⟩:=(r);cases e;rfl
 |flt b=>obtain⟨t,e⟩:=(r);cases e;rfl
 |ref a=>cases (r);rfl
 |ty n=>cases (r);rfl
section
variable {P:Program}{w:World}{H H':Hp}{h h':Heap}{a C dx:Addr}{fs fs':List (Str×V)}
def yn(c:uw P w H h)(e:H a=some (.ins C dx fs)):∃b,Gb h a dx C b/\(∀f,uS (fs.lookup f) (b f))/\PySem.Within b (fs.map (·.1))/\fs.length<=1000/\H dx=some (.own a):=by obtain⟨d,z,ne,g,b,n,r,q⟩:=(c a _ e);exact⟨b,⟨g,n,ne⟩,r,q,z,d⟩
end
structure AQ(K:W.Frag)(C:Addr):Prop where
 pg:W.plainGet K C Str.empty=true
 hd:W.hasDictIn K C=true
 po:W.plainOver K C=true
 sa:W.findIn K (.ref C) "__setattr__" = some (some (.builtin "object.__setattr__"))
def AQ.get{K:W.Frag}(c:AQ K C) f:W.plainGet K C f=true:=c.pg
def nA(K:W.Frag)(C:Addr)(f:Str):Prop:=W.findIn K (.ref C) f=some none
def nA.taker{K:W.Frag}(n:nA K C f):W.takerIn K C f=some none:=by unfold W.takerIn;rw[show W.findIn K (.ref C) f=some none from n];rfl
structure Pi(K:W.Frag)(C:Addr)(m:Str)(f:Addr):Prop where
 at_:W.findIn K (.ref C) m=some (some (.ref f))
 fn:W.isFn K (.ref f)=true
 kp:W.keepIn K (.ref f)=true
section
variable {X:Cx}{gO:List (Addr×Obj)}{σ:St}{H:Hp}{s:Shared}{a C dx:Addr}{fs:List (Str×V)}{f:Str}{v:V}{A:Around}{E:Value->Shared->Prop}
def FM(I:iE X gO σ H s)(e:H a=some (.ins C dx fs))(c:AQ X.K C)(n:nA X.K C f)(l:fs.lookup f=some v)
  (h:∀u d,iE X gO σ H d->jB v u->Q u d):wpAny (model X.prog X.w) A (getAttr (.ref a) f b) Q E s:=by
 obtain⟨j,O,r,_,_,_⟩:=yn I.hok e;obtain⟨u,i,g⟩:=uS.some_of (by rw[<-l];exact r f);exact NS I.kIn O (c.get f) c.hd n i (Jx g) (h u _ (I.tok _) g)
def FS(I:iE X gO σ H s)(e:H a=some (.ins C dx fs))(c:AQ X.K C)(k:Pi X.K C m g)(l:fs.lookup m=none)
  (h:Q (.ref g,[.ref a]) s):wpAny (model X.prog X.w) A (getMethod (.ref a) m pl) Q E s:=by
 obtain⟨d,O,r,_,_,_⟩:=yn I.hok e;have b:=uS.none_of (by rw[<-l];exact r m);exact LD I.kIn O (c.get m) k.at_ k.fn b h
def FX(I:iE X gO σ H s)(e:H a=some (.ins C dx fs))(c:AQ X.K C)(n:nA X.K C f)(L:fs.length<1000)(B:jB y u)
  (h:∀j,iE X gO σ (jY H a (.ins C dx (sA f y fs))) j->Q () j):wpAny (model X.prog X.w) A (setAttr (.ref a) f u) Q E s:=by
 obtain⟨l,O,r,k,_,i⟩:=yn I.hok e;have J:(fs.map (·.1)).length<=sizeLine:=by rw[aw,sizeLine_eq];omega
 refine PU I.kIn O c.sa c.po n.taker c.hd k J λm d F=>h _ ?_;have p:∃o,m.get? dx=some o:=let ⟨o,_,_,e',_⟩:=d.ns;⟨o,e'⟩;refine I.write (by rw[e];exact True.intro) (.inr i) (λb q x z=>(F.2 b x).trans z) p ?_;refine⟨by rw[ie O.ne];exact i,?_,O.ne,d.obj,_,d.ns,λg=>?_,λg D=>?_⟩
 .have:=xI f y fs;omega
 .rw[xJ];by_cases q:g=f
  .rw[aQ q,aQ q];exact B
  .rw[aR q,aR q];exact r g
 .by_cases q:g=f
  .rw[q];exact (wN f y fs).1
  .refine (wN f y fs).2 g (k g λz=>D ?_);show (if g=f then some u else l g)=none;rw[aR q];exact z
def iE.made(I:iE X gO σ H s):iE X gO σ (jY (jY H s.heap.objs.size (.own (s.heap.objs.size+1))) (s.heap.objs.size+1) (.ins C s.heap.objs.size []))
  {s with heap:=(s.heap.push W.emptyDict).push (W.instObj C s.heap.objs.size)}:=by
 have c:(s.heap.push W.emptyDict).get? s.heap.objs.size=some W.emptyDict:=ar s.heap rfl;have h:((s.heap.push W.emptyDict).push (W.instObj C s.heap.objs.size)).get? (s.heap.objs.size+1)=some (W.instObj C s.heap.objs.size):=by have:=ar (s.heap.push W.emptyDict) (o:=W.instObj C s.heap.objs.size) rfl;rwa [Heap.size_push]at this
 have g:(s.heap.push W.emptyDict).Ns s.heap.objs.size (λ_=>none):=⟨W.emptyDict,#[],_,c,rfl,(λe j=>absurd j (by simp)),λ_=>rfl⟩;have d:=I.laid (o:=.own (s.heap.objs.size+1)) (t':=s.toks) (λb u q=>ae _ q) (aK _) ⟨_,c⟩;refine d.laid (λb u q=>ae _ q) (bJ (Heap.size_push _ _)) ?_;have ne:s.heap.objs.size≠s.heap.objs.size+1:=aM (bK _);refine⟨by rw[ie ne,ig],bL _,ne,h,λ_=>none,(Heap.Ns1.of_empty g).at λo q=>ae _ q,λ_=>True.intro,λy i=>absurd rfl i⟩
def Oz(hb:attributeBase e f env (eval e env)=eval e env)
  (h:wpAny (model prog w) A (eval e env) (λo b=>wpAny (model prog w) A (getAttr o f true) Q E b) E s):wpAny (model prog w) A (eval (.Attribute e f pos) env) Q E s:=
 Attribute_any_ h (by rw[arm_eval_Attribute,hb])
end
def Rv(K:W.Frag)(c:TE)(f:Str):TE:=λd H Q=>c d H λx b=>∃a C e fs v,x=.ref a/\b a=some (.ins C e fs)/\AQ K C/\nA K C f/\fs.lookup f=some v/\Q v b
def RD(K:W.Frag)(e g:TE)(f:Str):TS:=λD b H=>g b H λy h=>e b h λx c=>∃a C d fs,x=.ref a/\c a=some (.ins C d fs)/\AQ K C/\nA K C f/\fs.length<1000/\
 D.nx b (jY c a (.ins C d (sA f y fs)))
section
variable {X:Cx}{o e value:Expr}{f:Str}{pos pos' tpos:Pos}{ta tv:TE}
def SX(i:PE X e ta)(hb:attributeBase e f X.env (eval e X.env)=eval e X.env):PE X (.Attribute e f pos) (Rv X.K ta f):=by intro b s g H Q I h;refine Oz hb (lC (i b s g H _ I h) λu s1 ⟨x,H1,I1,rx,a,C,dx,fs,v,ex,ea,c,n,l,q⟩=>?_);subst ex;obtain rfl:u=Value.ref a:=rx;exact FM I1 ea c n l λk m d j=>⟨v,H1,d,j,q⟩
def MM(j:PE X o ta)(hv:PE X value tv)(i:swapsWith value (some (.Attribute o f pos')) pos.line X.env=pure false):PS X (.Assign [.Attribute o f pos'] value pos) (RD X.K ta tv f):=by intro d s b H D I h;refine plainObj_wpAny_Assign_Attribute (lC (hv d s b H _ I h) λu s1 ⟨y,H1,I1,ry,q⟩=>lC (j d s1 b H1 _ I1 q) λov s2 ⟨x,H2,I2,rx,a,C,dx,fs,ex,ea,c,n,l,q2⟩=>?_) i;subst ex;obtain rfl:ov=Value.ref a:=rx;exact FX I2 ea c n l ry λk g=>⟨b,_,g,q2⟩
end
section
variable {X:Cx}{gO:List (Addr×Obj)}{σ:St}{H:Hp}{s:Shared}{A:Around}{E:Value->Shared->Prop}{Q:Value->Shared->Prop}{c:Value}{b:Bool}
inductive tM(K:W.Frag)(H:Hp):V->Value->Prop where
 |non:tM K H .non (.type "NoneType")
 |bl (x:Bool):tM K H (.bl x) (.type "bool")
 |int (i:Int):tM K H (.int i) (.type "int")
 |str (x:Str):tM K H (.str x) (.type "str")
 |flt (x:UInt64):tM K H (.flt x) (.type "float")
 |lst {a:Addr} {xs:List V} (e:H a=some (.lst xs)):tM K H (.ref a) (.type "list")
 |frz {a:Addr} {o:Obj} {xs:List V} (e:H a=some (.frz o (.lst xs))):tM K H (.ref a) (.type "list")
 |tup {a:Addr} {xs:List V} (e:H a=some (.tup xs)):tM K H (.ref a) (.type "tuple")
 |dK {a:Addr} {kvs:List (qP×V)} (e:H a=some (.dK kvs)):tM K H (.ref a) (.type "dict")
 |dT {a:Addr} {kvs:List (List qP×V)} (e:H a=some (.dT kvs)):tM K H (.ref a) (.type "dict")
 |ins {a C dx:Addr} {fs:List (Str×V)} (e:H a=some (.ins C dx fs)) (cl:AQ K C) (ha:W.findIn K (.ref C) "__class__" = some (some (.builtin "object.__class__")))
   (hn:W.specialIn K (.builtin "object.__class__") "__get__" = some (some (.builtin "getset_descriptor.__get__"))) (htk:W.takesIn K (.builtin "object.__class__")=some true)
   (hm:W.mroIn K C (.type "object")=some true):tM K H (.ref a) (.ref C)
def Jd(I:iE X gO σ H s)(d:jB x u)(ty:tM X.K H x t)(e:W.kitOne X.K t c=some b)(h:∀k,Q (.bool b) {s with toks:=k}) :
  wpAny (model X.prog X.w) A (call (.builtin "isinstance") [u,c]) Q E s:=by
 cases ty with
 |non=>cases (d);exact W.kia_one W.kitx_none I.kIn True.intro e (λz=>nomatch z) h
 |bl y=>cases (d);exact W.kia_one W.kitx_bool I.kIn True.intro e (λz=>nomatch z) h
 |int i=>obtain⟨t,q⟩:=(d);cases q;exact W.kia_one W.kitx_int I.kIn True.intro e (λz=>nomatch z) h
 |str y=>obtain⟨t,q⟩:=(d);cases q;exact W.kia_one W.kitx_str I.kIn True.intro e (λz=>nomatch z) h
 |flt y=>obtain⟨t,q⟩:=(d);cases q;exact W.kia_one W.kitx_float I.kIn True.intro e (λz=>nomatch z) h
 |@lst a j ea=>cases (d);obtain⟨_,_,n,_,f⟩:=(I.hok a _ ea);exact W.kia_one W.kitx_list I.kIn ⟨_,f,rfl⟩ e (λz=>nomatch z) h
 |@frz a ob j ea=>cases (d);obtain⟨_,_,_,n,_,f⟩:=(I.hok a _ ea);exact W.kia_one W.kitx_list I.kIn ⟨_,f,rfl⟩ e (λz=>nomatch z) h
 |@tup a j ea=>cases (d);obtain⟨_,_,_,p⟩:=(I.hok a _ ea);obtain⟨o,f,g,_⟩:=p;exact W.kia_one W.kitx_tuple I.kIn ⟨o,f,g⟩ e (λz=>nomatch z) h
 |@dK a kvs ea=>cases (d);obtain⟨_,_,v,_,p⟩:=(I.hok a _ ea);obtain⟨o,m,l,f,g,_⟩:=p;exact W.kia_one W.kitx_dict I.kIn ⟨o,f,g.1⟩ e (λz=>nomatch z) h
 |@dT a kvs ea=>cases (d);obtain⟨_,_,j,_,o,m,l,f,g,_⟩:=(I.hok a _ ea);exact W.kia_one W.kitx_dict I.kIn ⟨o,f,g.1⟩ e (λz=>nomatch z) h
 |@ins a C dx fs ea cl ha hn htk hm=>cases (d);obtain⟨B,O,_⟩:=yn I.hok ea;obtain⟨r,J,_⟩:=O.look;exact W.kia_one (W.kitx_own (cl.get _) cl.hd ha hn htk hm) I.kIn J e (λz=>nomatch z) h
end
end L2
namespace L2
open PySem PySem.Spec PyProof.Rows
structure jZ(k:Nat)(A:Around):Prop where
 hd:A.handled=none
 dp:A.depth+3*k+5<recursionLimit
 un:A.units+16*k+200<cLine
def jZ.mono(r:jZ k A)(h:j<=k):jZ j A:=⟨r.hd,by have:=r.dp;omega,by have:=r.un;omega⟩
def jZ.deeper(r:jZ (k+1) A) env:jZ k (A.deeper env):=⟨r.hd,by have:=r.dp;show A.depth+1+3*k+5<_;omega,by have:=r.un;show A.units+3+16*k+200<_;omega⟩
def E5{A:Around}:(A.under (.builtin "type.__call__" ⟨.ref C::us,kw⟩)).depth=A.depth+1:=by first|rfl|simp[Around.under,Code.weight,Code.isCreation,Code.isGuard,Code.isCaller,Code.frames,Code.isFrame,guardIds]
def Fw{A:Around}:(A.under (.builtin "type.__call__" ⟨.ref C::us,kw⟩)).units=A.units+1:=by first|rfl|simp[Around.under,Code.cUnits,Code.frames,Code.isFrame]
def jZ.make(r:jZ (k+1) A) C us kw:jZ k (A.under (.builtin "type.__call__" ⟨.ref C::us,kw⟩)):=⟨r.hd,by have:=r.dp;rw[E5];omega,by have:=r.un;rw[Fw];omega⟩
def jZ.depth(r:jZ k A):A.depth<recursionLimit:=by have:=r.dp;omega
def jZ.units(r:jZ k A):A.units+64<cLine:=by have:=r.un;omega
def yi:TA:=λ_ H Q=>Q [] H
def ux(b:TE)(c:TA):TA:=λa H Q=>b a H λx e=>c a e λf d=>Q (x::f) d
section
variable {X:Cx}{e:Expr}{es:List Expr}{te:TE}{t:TA}{pos:Pos}
def xh:PA X [] yi:=λ_ _ _ _ H Q I h=>Calls.spliced_nil ⟨[],H,I,.nil,h⟩
def r9(d:PE X e te)(hr:PA X es t)(c:starEach (e::es) X.env=(false,eval e X.env)::starEach es X.env:=by rfl):PA X (e::es) (ux te t):=by intro pos a s b H Q I h;rw[c];refine Calls.spliced_cons (lC (d a s b H _ I h) λu s1 ⟨x,H1,I1,r1,q1⟩=>?_);exact lC (hr pos a s1 b H1 _ I1 q1) λus s2 ⟨xs,H2,I2,r2,q2⟩=>⟨x::xs,H2,I2,.cons r1 r2,q2⟩
def RL(t:TA):TE:=λc H Q=>t c H λb a=>b.length<=sizeLine/\∀p,a p=none->Q (.ref p) (jY a p (.tup b))
def R9(t:TA):TE:=λc H Q=>t c H λb a=>b.length<=sizeLine/\∀p,a p=none->Q (.ref p) (jY a p (.lst b))
def S6{x1}(h:PA X es t):PE X (.Tuple es x1 pos) (RL t):=by intro c s d H Q I f;refine wpAny_Tuple_spliced (lC (h pos c s d H _ I f) λus s1 ⟨xs,H1,I1,r,z,q⟩=>⟨by rw[<-r.length];exact z,?_⟩);have a:=I1.hok.fresh (aK _);refine⟨.ref s1.heap.objs.size,jY H1 s1.heap.objs.size (.tup xs),I1.laid (λb u e=>ae _ e) (aK _) ?_,rfl,q _ a⟩;exact⟨z,us,r,⟨_,ar _ rfl,rfl,_,rfl,rfl⟩⟩
def RQ(h:PA X es t):PE X (.List es pos) (R9 t):=by intro c s d H Q I f;refine wpAny_List_spliced (lC (h pos c s d H _ I f) λus s1 ⟨xs,H1,I1,r,z,q⟩=>⟨by rw[<-r.length];exact z,?_⟩);have a:=I1.hok.fresh (aK _);refine⟨.ref s1.heap.objs.size,jY H1 s1.heap.objs.size (.lst xs),I1.laid (λb u e=>ae _ e) (aK _) ?_,rfl,q _ a⟩;exact⟨z,us,0,r,ar _ rfl⟩
end
abbrev Sp:=List V->Hp->VK->XK->Prop
abbrev Pa:=List Env->Hp->Shared->XK->Value->Shared->Prop
structure FD(P:Program)(w:World)(K:W.Frag)(mg:Str->Option Value)(base:Heap)(A:Around)(outer:List Env)(s:Shared)(H:Hp):Prop where
 frames:A.frames=some outer
 mod:Mod K mg base
 bs:∀b o,base.get? b=some o->s.heap.get? b=some o/\H b=none
 bsz:base.objs.size<=s.heap.objs.size
 funs:s.heap.FunFrames base outer
 frf:∀b∈Iy outer,H b=none
 hok:uw P w H s.heap
 bare:AllBare s.gens
 tab:Ny base H
def CE(a:List Env)(P:Program)(w:World)(H:Hp)(s:Shared)(Q:VK)(u:Value)(b:Shared):Prop:=∃v c,b.os=s.os/\AllBare b.gens/\Un (Iy a) [] H c s.heap b.heap/\uw P w c b.heap/\jB v u/\Q v c
def CR(c:Pa)(a:List Env)(P:Program)(w:World)(H:Hp)(s:Shared)(Q:VK)(E:XK)(r:Result)(b:Shared):Prop:=
 match r with
 |.ok (.ret u)=>CE a P w H s Q u b
 |.ok _=>False
 |.error e=>c a H s E e b
structure pR(P:Program)(w:World)(K:W.Frag)(mg:Str->Option Value)(base:Heap)(CX:Pa)(k:Nat)(f:Addr)(fd:FuncData)(ps:List Str)(sp:Sp):Prop where
 len:∀vs H Q E,sp vs H Q E->vs.length=ps.length
 run:∀(A:Around) (outer:List Env) (s:Shared) (H:Hp) (args:Args) (us:List Value) (vs:List V) (Q:VK) (E:XK),jZ k A->FD P w K mg base A outer s H->BindsTo s fd args (ps.zip us)->ji vs us->sp vs H Q E->
  codeAny (model P w) A (.call (.ref f) args) (CR CX outer P w H s Q E) s
def pR.mono{K:W.Frag}(F:pR P w K mg base CX j f fd ps sp)(h:j<=k) :
  pR P w K mg base CX k f fd ps sp:=⟨F.len,λA a s H b d c Q E hr=>F.run A a s H b d c Q E (hr.mono h)⟩
def pR.imp{K:W.Frag}(F:pR P w K mg base CX k f fd ps sp)
  (h:∀vs H Q E,sp' vs H Q E->sp vs H Q E):pR P w K mg base CX k f fd ps sp':=
 ⟨λvs H Q E q=>F.len vs H Q E (h _ _ _ _ q),λA a s H b d vs Q E hr g e hv c=>F.run A a s H b d vs Q E hr g e hv (h _ _ _ _ c)⟩
def FD.make{K:W.Frag}(e:FD P w K mg base A outer s H) C us kw :
  FD P w K mg base (A.under (.builtin "type.__call__" ⟨.ref C::us,kw⟩)) outer s H:=⟨by first|exact e.frames|(simpa[Around.under,Code.envs,Code.isFrame,pushEnvs] using e.frames),e.mod,e.bs,e.bsz,e.funs,e.frf,e.hok,e.bare,e.tab⟩
section
variable {X:Cx}{gO:List (Addr×Obj)}{σ:St}{H:Hp}{s s':Shared}
def iE.env0(I:iE X gO σ H s):FD X.prog X.w X.K X.mg X.base X.A X.stack s H:=⟨I.ok.frames,I.ok.mod,I.bs,aN I.ok.bsz I.sz,I.stack,I.stkFree,I.hok,I.bare,I.tab⟩
def iE.after(I:iE X gO σ H s)(h:CE X.stack X.prog X.w H s Q u s'):EP X gO σ Q u s':=by obtain⟨v,i,f,a,un,e,r,q⟩:=h;obtain⟨j,g,d,t,c⟩:=s';obtain rfl:c=s.os:=f;exact⟨v,i,I.call un e a (λb z=>absurd z (by simp)),r,q⟩
end
def By(d:Sp)(a:List V)(E:XK)(t:TA):TE:=λc H Q=>t c H λb e=>d (b++a) e Q E
def Bb(C:Addr)(m:Str)(g:Sp)(b:List V)(E:XK)(e:TE)(t:TA):TE:=λc H Q=>e c H λx d=>∃a i fs,x=.ref a/\d a=some (.ins C i fs)/\fs.lookup m=none/\
 t c d λf h=>g (x::(f++b)) h Q E
def Hv(C:Addr)(f:Sp)(b:List V)(E:XK)(t:TA):TE:=λe H Q=>t e H λd c=>∀x a,c x=none->c a=none->a≠x->
 f (.ref x::(d++b)) (jY (jY c a (.own x)) x (.ins C a [])) (λv g=>v=.non/\Q (.ref x) g) E
def sD(K:W.Frag)(fd:FuncData)(c:List Str)(b:List Value):Prop:=∀(s:Shared) (a:List Value),K.In s.heap->(a++b).length=c.length->BindsTo s fd ⟨a,[]⟩ (c.zip (a++b))
def sD.all{K:W.Frag}(h:∀us:List Value,us.length=ps.length->bindArgs fd ⟨us,[]⟩=pure (ps.zip us)):sD K fd ps []:=λs us _ a=>by rw[bM]at a ⊢;exact .of_eq (h us a)
def wO(b:Pa)(X:Cx)(E:XK):Prop:=∀(c:List (Addr×Obj)) (d:St) (H:Hp) (s:Shared) (e:Value) (a:Shared),iE X c d H s->b X.stack H s E e a->X.xe e a
section
variable {X:Cx}{CX:Pa}{k:Nat}{f C:Addr}{fd:FuncData}{ps:List Str}{sp:Sp}{dvs:List V}{ds:List Value}{E:XK}{x m:Str}{p pos apos:Pos}{e o:Expr}{es:List Expr}{ta:TE}{t:TA}
theorem Kw(F:pR X.prog X.w X.K X.mg X.base CX k f fd ps sp)(hr:jZ k X.A)(hb:sD X.K fd ps ds)(c:ji dvs ds)(g:wO CX X E)
  (I:iE X gO σ H s) (r:ji vs us) (h:sp (vs++dvs) H Q E):wpAny (model X.prog X.w) X.A (call (.ref f) us) (EP X gO σ Q) X.xe s:=by
 have b:=r.append c;have d:(us++ds).length=ps.length:=by rw[<-b.length];exact F.len _ _ _ _ h
 refine wpAny_call (codeAny_mono (F.run X.A X.stack s H ⟨us,[]⟩ (us++ds) (vs++dvs) Q E hr I.env0 (hb s us I.kIn d) b h) λr i a=>?_);cases r with
 |error e=>exact g gO σ H s e i I a
 |ok fl=>
  cases fl with
  |ret u=>exact I.after a
  |next=>exact False.elim a
  |brk=>exact False.elim a
  |cont=>exact False.elim a
def NU(F:pR X.prog X.w X.K X.mg X.base CX k f fd ps sp)(hr:jZ k X.A)(n:Gl X x)(g:X.mg x=some (.ref f))(v:W.keepIn X.K (.ref f)=true)(hb:sD X.K fd ps ds)(j:ji dvs ds)(u:wO CX X E)
  (l:PA X (e::es) t) (a:(x==("__debug__" : Str))=false:=by decide) (d:starEach (e::es) X.env=(false,eval e X.env)::starEach es X.env:=by rfl) (b:(backTo pos (starEach es X.env)).any (·.1)=false:=by rfl) :
  PE X (.Call (.Name x p) (e::es) [] pos) (By sp dvs E t):=by
 intro i s c H Q I h;refine wpAny_Call_Name_kw (Cy I n g ?_ a);refine W.callWith_K I.ok.mod.kin v (lC (l pos i s c H _ I h) λus s1 ⟨vs,H1,I1,r,q⟩=>⟨I1.kIn,?_⟩) d b;exact Kw F hr hb j u I1 r q
def Lj(r:PE X o ta)(c:AQ X.K C)(b:Pi X.K C m f)(F:pR X.prog X.w X.K X.mg X.base CX k f fd ps sp)(hr:jZ k X.A)(hb:sD X.K fd ps ds)(d:ji dvs ds)(n:wO CX X E)
  (g:eval (.Call (.Attribute o m apos) [] [] pos) X.env=(do
   let ov <-eval o X.env
   standAt apos.atName
   let (f,first) <-holding [ov] (getMethod ov m pl)
   callWith pos f first (backTo pos (starEach [] X.env)) (backToKw pos (keywordEach [] X.env))):=by rfl) :
  PE X (.Call (.Attribute o m apos) [] [] pos) (Bb C m sp dvs E ta yi):=by
 intro i s j H Q I h;refine W.methodCall_KW (lC (r i s j H _ I h) λu s1 ⟨x,H1,I1,rx,a,dx,fs,ex,ea,l,q⟩=>?_) g;subst ex;obtain rfl:u=Value.ref a:=rx;refine FS I1 ea c b l ?_;exact W.callWith_K0 I1.kIn b.kp (Kw (vs:=[.ref a]) F hr hb d n I1 (.cons rfl .nil) q)
structure Mk(K:W.Frag)(C f:Addr):Prop where
 makes:W.makesIn K C=true
 init:W.findIn K (.ref C) "__init__" = some (some (.ref f))
 fn:W.isFn K (.ref f)=true
 kp:W.keepIn K (.ref C)=true
theorem Mj(M:Mk X.K C f)(F:pR X.prog X.w X.K X.mg X.base CX k f fd ps sp)(hr:jZ (k+1) X.A)(hb:sD X.K fd ps ds)(l:ji dvs ds)
  (B:wO CX X E) (I:iE X gO σ H s) (r:ji vs us)
  (h:∀x dx,H x=none->H dx=none->dx≠x->sp (.ref x::(vs++dvs)) (jY (jY H dx (.own x)) x (.ins C dx [])) (λv i=>v=.non/\Q (.ref x) i) E) :
  wpAny (model X.prog X.w) X.A (call (.ref C) us) (EP X gO σ Q) X.xe s:=by
 have c:=h (s.heap.objs.size+1) s.heap.objs.size (I.hok.fresh (bN _)) (I.hok.fresh (aK _)) (aM (bK _));have b:=iE.made (C:=C) I;have d:ji (V.ref (s.heap.objs.size+1)::(vs++dvs)) (Value.ref (s.heap.objs.size+1)::(us++ds)):=.cons rfl (r.append l);have q:(Value.ref (s.heap.objs.size+1)::us++ds).length=ps.length:=by have e:=d.length;rw[F.len _ _ _ _ c]at e;exact e.symm
 refine wpAny_call (Lh I.kIn M.makes M.init (beq_iff_eq.mp M.fn) (codeAny_mono (F.run _ X.stack _ _ ⟨Value.ref (s.heap.objs.size+1)::us,[]⟩ (Value.ref (s.heap.objs.size+1)::(us++ds)) _ _ E (hr.make C us [])
  (b.env0.make C us []) (hb _ (Value.ref (s.heap.objs.size+1)::us) b.kIn q) d c) λr y a=>?_))
 cases r with
 |error e=>exact B gO σ _ _ e y b a
 |ok fl=>
  cases fl with
  |ret u=>obtain⟨v,D,n,j,g,z⟩:=b.after a;subst g;exact⟨j,⟨V.ref (s.heap.objs.size+1),D,n,rfl,z⟩⟩
  |next=>exact False.elim a
  |brk=>exact False.elim a
  |cont=>exact False.elim a
def N6(M:Mk X.K C f)(F:pR X.prog X.w X.K X.mg X.base CX k f fd ps sp)(hr:jZ (k+1) X.A)(n:Gl X x)(g:X.mg x=some (.ref C))(hb:sD X.K fd ps ds)(j:ji dvs ds)(u:wO CX X E)
  (l:PA X (e::es) t) (a:(x==("__debug__" : Str))=false:=by decide) (d:starEach (e::es) X.env=(false,eval e X.env)::starEach es X.env:=by rfl) (b:(backTo pos (starEach es X.env)).any (·.1)=false:=by rfl) :
  PE X (.Call (.Name x p) (e::es) [] pos) (Hv C sp dvs E t):=by
 intro i s c H Q I h;refine wpAny_Call_Name_kw (Cy I n g ?_ a);refine W.callWith_K I.ok.mod.kin M.kp (lC (l pos i s c H _ I h) λus s1 ⟨vs,H1,I1,r,q⟩=>⟨I1.kIn,?_⟩) d b;exact Mj M F hr hb j u I1 r q
end
structure kq(N P:List Str)(sc:Scope):Prop where
 kind:sc.kind=.function
 co:sc.isCoroutine=false
 gen:sc.isGenerator=false
 nd:N.Nodup
 pre:N.take P.length=P
 par:∀x∈P,sc.names.lookup x=some .local\/sc.names.lookup x=some .cell
 nofree:∀y∈sc.names,y.2≠.free
theorem BF{kindOf:Str->Option NameKind}:∀{binds} {m},(∀v,(x,v)∉binds)->bindL kindOf binds m x=m x
 |[],_,_=>rfl
 | (n,v)::r,m,h=>by
  unfold bindL;rw[BF λw hw=>h w (bz _ hw)];split
  .have:x≠n:=by rintro rfl;exact h v bx
   simp[this]
  .rfl
theorem Bt{kindOf:Str->Option NameKind}:∀{binds} {m},(∀v,(x,v)∉binds)->bindC kindOf binds m x=m x
 |[],_,_=>rfl
 | (n,v)::r,m,h=>by
  unfold bindC;rw[Bt λw hw=>h w (bz _ hw)];split
  .rfl
  .have:x≠n:=by rintro rfl;exact h v bx
   simp[this]
theorem Bx{kindOf:Str->Option NameKind}:∀{P:List Str} {vs:List Value} {i:Nat} {m:Str->Option Value},P.Nodup->P[i]? = some x->vs[i]? = some v->kindOf x=some .local->
  bindL kindOf (P.zip vs) m x=some v
 |[],_,_,_,_,h,_,_=>by simp at h
 |_::_,[],_,_,_,_,h,_=>by simp at h
 |p::P,w::vs,0,m,nd,h1,h2,hk=>by simp at h1 h2;subst h1;subst h2;show bindL kindOf ((p,w)::P.zip vs) m p=_;unfold bindL;rw[BF λv hv=>(bO.mp nd).1 (aW hv).1,aQ hk];simp
 |p::P,w::vs,i+1,m,nd,h1,h2,hk=>by unfold bindL;exact Bx (bO.mp nd).2 (by simpa using h1) (by simpa using h2) hk
theorem BD{kindOf:Str->Option NameKind}:∀{P:List Str} {vs:List Value} {i:Nat} {m:Str->Option Value},P.Nodup->P[i]? = some x->vs[i]? = some v->kindOf x≠some .local->
  bindC kindOf (P.zip vs) m x=some v
 |[],_,_,_,_,h,_,_=>by simp at h
 |_::_,[],_,_,_,_,h,_=>by simp at h
 |p::P,w::vs,0,m,nd,h1,h2,hk=>by simp at h1 h2;subst h1;subst h2;show bindC kindOf ((p,w)::P.zip vs) m p=_;unfold bindC;rw[Bt λv hv=>(bO.mp nd).1 (aW hv).1,aR hk];simp
 |p::P,w::vs,i+1,m,nd,h1,h2,hk=>by unfold bindC;exact BD (bO.mp nd).2 (by simpa using h1) (by simpa using h2) hk
noncomputable def oy(N:List Str)(vs:List V):St:=vs.map some++List.replicate (N.length-vs.length) none
noncomputable def sQ(g:Pa)(P:Program)(w:World)(K:W.Frag)(mg:Str->Option Value)(base:Heap)(N:List Str)(b:Str)(a:Scope)(f:Addr)(d:Value)(A:Around)(outer:List Env)(s:Shared)(H:Hp)(E:XK):Cx where
 prog:=P
 w:=w
 K:=K
 mg:=mg
 base:=base
 A:=A.deeper (envOfC b a s.heap.objs.size f d)
 N:=N
 s₀:=s
 H₀:=H
 env:=envOfC b a s.heap.objs.size f d
 outer:=outer
 stack:=envOfC b a s.heap.objs.size f d::outer
 ex:=[]
 calm:=true
 fn:=λ_=>true
 pn:=[]
 xe:=λe h=>wpAny (model P w) (A.deeper (envOfC b a s.heap.objs.size f d)) (leaving (envOfC b a s.heap.objs.size f d) e) (λ_ c=>g outer H s E e c) (λi c=>g outer H s E i c) h
def pH{a:Scope}(h:a.names.lookup x=some .cell):∃c,(cellsFrom n a.names []).lookup x=some c:=by have q:=W.cellsFrom_some a.names n [] (.inl h);exact bQ.mp q
theorem Il{K:W.Frag}
  (S:kq N ps scope) (J:A.handled=none) (g:FD P w K mg base A outer s H) (U:vs.length=ps.length) (r:ji vs us)
  (x:InCallC s s.heap.objs.size (bindL (envOfC qual scope s.heap.objs.size f cd).kindOf (ps.zip us) λ_=>none) (cellsFrom (s.heap.objs.size+1) scope.names []) (bindC (envOfC qual scope s.heap.objs.size f cd).kindOf (ps.zip us) λ_=>none) s1) :
  iE (sQ CX P w K mg base N qual scope f cd A outer s H E) [] (oy N vs) H s1:=by
 have F:ps.length<=N.length:=by have:=congrArg List.length S.pre;rw[bR]at this;omega
 obtain⟨B,Q,rfl,D⟩:=x.done;have j:∀b:Addr,b∉(sQ CX P w K mg base N qual scope f cd A outer s H E).ex:=λb z=>absurd (show b∈([]) from z) (by simp);refine⟨⟨g.mod,S.kind,rfl,rfl,aK _,λy z c B d=>?_,λy l=>?_,λy c _ h=>?_,λ_=>J,Around.frames_deeper g.frames,.inr ⟨rfl,rfl⟩,λb z=>absurd z (j b),g.bs,g.bsz,λb _ _=>j b,λb z=>absurd z (j b),g.funs,g.frf,g.tab⟩,
  rfl,g.bare,Un.kept D,⟨_,x.toInCall.ns,λi y v B d R=>?_⟩,λy c h=>⟨_,x.cell y c h⟩,g.hok.fresh (aK _),λy c h=>?_,λp n=>absurd (show p∈([]) from n) (by simp),g.hok.kept D,?_⟩
 .exact name_of_addr x.apart (PySem.mem_of_lookup B) (PySem.mem_of_lookup d)
 .have l:=l;rcases l with l|l
  .exact pH l
  .exact absurd rfl (S.nofree _ (PySem.mem_of_lookup l))
 .exact bh (x.above y c (PySem.mem_of_lookup h))
 .have o:i<vs.length:=by
   unfold oy at d;by_cases o:i<vs.length
   .exact o
   .rw[List.getElem?_append_right (by simpa using o)]at d;rw[List.getElem?_replicate]at d;split at d<;>cases d
  have L:vs[i]? = some v:=by
   unfold oy at d;rw[List.getElem?_append_left (by simpa using o),av]at d;cases e:vs[i]? with
   |none=>rw[e]at d;cases d
   |some a=>rw[e]at d;cases d;rfl
  obtain⟨u,C,I⟩:=r.get L;have n:ps[i]? = some y:=by rw[<-S.pre,List.getElem?_take_of_lt (by omega)];exact B
  have m:ps.Nodup:=by rw[<-S.pre];exact S.nd.sublist (List.take_sublist _ _)
  refine⟨u,I,?_⟩;rcases S.par y (au n) with k|k
  .exact .inl ⟨k,Bx m n C k⟩
  .obtain⟨c,e⟩:=pH k;refine .inr ⟨.inl k,c,e,?_⟩;have q:=x.cell y c e;rw[BD m n C (by show scope.names.lookup y≠_;rw[k];decide)]at q;exact q
 .exact g.hok.fresh (bh (x.above y c (PySem.mem_of_lookup h)))
 .unfold oy;show _=N.length;rw[aT,aw,bS];omega
theorem Vx{K:W.Frag}{dV kV B Y c Z oc:Value}(lk:K.lookup f=some ⟨oc,od,.func (W.fnOf name qual params body scope dV kV B Y an c Z),osl⟩)(L:W.codeIn K c qual=true)(S:kq N ps scope)
  (p:∀vs H Q E,sp vs H Q E->vs.length=ps.length)
  (h:∀A a s H vs Q E,jZ k (A.deeper (envOfC qual scope s.heap.objs.size f c))->sp vs H Q E->
   ∃t,ES (sQ CX P w K mg base N qual scope f c A a s H E) body t/\t {nx:=λ_ g=>Q .non g,rt:=Q} (oy N vs) H) :
  pR P w K mg base CX (k+1) f (W.fnOf name qual params body scope dV kV B Y an c Z) ps sp:=by
 refine⟨p,λA a s H R us vs Q E hr z hb r l=>?_⟩;have hl:=p _ _ _ _ l;have X:=z.mod.kin.keeps λb o e=>(z.bs b o e).1;have F:=z.mod.nolimit.keeps λb o e=>(z.bs b o e).1;have i:∀y∈ps.zip us,scope.names.lookup y.1=some .local\/(scope.names.lookup y.1=some .cell/\((cellsFrom (s.heap.objs.size+1) scope.names []).lookup y.1).isSome=true):=λ⟨n,v⟩ hy=>by
  rcases S.par n (aW hy).1 with q|q
  .exact .inl q
  .exact .inr ⟨q,W.cellsFrom_some _ _ _ (.inl q)⟩
 refine codeAny_call_function hr.depth (X _ _ lk) rfl S.co S.gen rfl (W.codeRec_of X L) (hb _ _ _ _ ?_);refine wpAny_newFunctionEnv_cells S.kind i λenv he U x=>?_;subst he;refine⟨F.keeps x.toInCall.keep,codeAny_func ?_⟩;obtain⟨t,ht,hq⟩:=h A a s H vs Q E (hr.deeper _) l;have I:iE (sQ CX P w K mg base N qual scope f c A a s H E) [] (oy N vs) H U:=Il S hr.hd z hl r x;refine wpAny_mono (ht [] U (oy N vs) H _ I hq) (λfl D j=>?_) λe D j=>j;have m:∀{d:St} {g:Hp} {v:V} {u:Value},iE (sQ CX P w K mg base N qual scope f c A a s H E) [] d g D->jB v u->Q v g->CE a P w H s Q u D:=λ{d g v u} J C q=>⟨v,g,J.os,J.bare,J.base,J.hok,C,q⟩
 cases fl with
 |ret u=>obtain⟨v,d,g,J,C,q⟩:=j;exact m J C q
 |next=>obtain⟨d,g,J,q⟩:=j;exact m (v:=V.non) J rfl q
 |brk=>obtain⟨_,_,_,q⟩:=j;exact False.elim q
 |cont=>obtain⟨_,_,_,q⟩:=j;exact False.elim q
end L2
namespace L2
open PySem PySem.Spec PyProof.Rows
section
variable {X:Cx}{x:Str}{p pos:Pos}{e:Expr}{es:List Expr}{t:TA}{id T:String}{r:List V->Hp->VK->Prop}
def J4(r:List V->Hp->VK->Prop)(t:TA):TE:=λb H Q=>t b H λa c=>r a c Q
def DJ(k:lX X (.builtin id) r)(g:Gl X x)(f:X.mg x=none)(hv:bootBuiltins x=some (.builtin id))(j:PA X (e::es) t)(i:x≠ "__name__" :=by decide)(a:(x==("__debug__" : Str))=false:=by decide)
  (l:starEach (e::es) X.env=(false,eval e X.env)::starEach es X.env:=by rfl) (b:(backTo pos (starEach es X.env)).any (·.1)=false:=by rfl):PE X (.Call (.Name x p) (e::es) [] pos) (J4 r t):=by
 intro c s d H Q I h;refine wpAny_Call_Name_kw (rC I g f hv ?_ i a);exact PyProof.Rows.callWith_builtin1 (lC (j pos c s d H _ I h) λus s1 ⟨vs,H1,I1,r1,q1⟩=>k c s1 d H1 vs us Q I1 r1 q1) l b
def w9(k:lX X (.type T) r)(g:Gl X x)(f:X.mg x=none)(hv:bootBuiltins x=some (.type T))(j:PA X (e::es) t)(i:x≠ "__name__" :=by decide)(a:(x==("__debug__" : Str))=false:=by decide)
  (l:starEach (e::es) X.env=(false,eval e X.env)::starEach es X.env:=by rfl) (b:(backTo pos (starEach es X.env)).any (·.1)=false:=by rfl):PE X (.Call (.Name x p) (e::es) [] pos) (J4 r t):=by
 intro c s d H Q I h;refine wpAny_Call_Name_kw (rC I g f hv ?_ i a);exact PyProof.Rows.callWith_type1 (lC (j pos c s d H _ I h) λus s1 ⟨vs,H1,I1,r1,q1⟩=>k c s1 d H1 vs us Q I1 r1 q1) l b
end
end L2
namespace HT
open PySem PyProof.Rows
section
variable {prog:Program}{w:World}{A:Around}{E:Value->Shared->Prop}{s:Shared}
def cat_tup(q:IsTup s.heap t vs.toArray)(hb:IsTup s.heap b ws.toArray)(hv:vs≠[])
  (u:ws=[]->Q (.ref t) s) (r:ws≠[]->Q (.ref s.heap.objs.size) {s with heap:=s.heap.push {cls:=.type "tuple",data:=.seq (vs++ws).toArray}})
  (hsz:vs.length+ws.length<=sizeLine):wpAny (model prog w) A (binaryOp .Add (.ref t) (.ref b)) Q E s:=by
 obtain⟨⟨cls,l,data,p⟩,h,o,n,k⟩:=id q;obtain⟨⟨j,c,i,g⟩,a,d,m,f⟩:=id hb;simp only at o k d f;subst o k d f;have e:vs.toArray++ws.toArray=(vs++ws).toArray:=by simp
 by_cases hw:ws=[]
 .exact concat_meets ⟨_,h,rfl⟩ ⟨_,a,rfl⟩ noFill_tuple_add seq_tuple_add PySem.F.slot_tuple_add PySem.F.entry_tuple_add (PySem.F.args_tuple_add_2 _ _)
   (tuple_addW1 t b vs.toArray ws.toArray n m l c p g (by simpa using hv) (by simp[hw])) ⟨h,a,u hw⟩
 .refine concat_meets ⟨_,h,rfl⟩ ⟨_,a,rfl⟩ noFill_tuple_add seq_tuple_add PySem.F.slot_tuple_add PySem.F.entry_tuple_add (PySem.F.args_tuple_add_2 _ _)
   (tuple_addW2 t b vs.toArray ws.toArray n m l c p g (by simpa using hv) (by simpa using hw) (by rw[bG,bG];exact hsz)) ⟨h,a,?_⟩
  rw[e];exact r hw
noncomputable def sIx(n d:Nat):Option Int->Nat
 |none=>d
 |some v=>if v<0 then (v+(n:Int)).toNat else min v.toNat n
def sIx_none n d:sIx n d none=d:=rfl
def sIx_nat(n d k:Nat):sIx n d (some (k:Int))=min k n:=by show (if k<0 then (k+(n:Int)).toNat else min (k:Int).toNat n)=min k n;rw[aR (by omega),bT]
def Hw v (n d:Nat):(if v<0 then max (v+(n:Int)) 0 else min v (n:Int))=((sIx n d (some v):Nat):Int):=by
 show (if v<0 then max (v+n) 0 else min v n)=(((if v<0 then (v+n).toNat else min v.toNat n):Nat):Int);by_cases hv:v<0
 .simp only[aQ hv];omega
 .simp only[aR hv];omega
def FH lo a (n:Nat):Builtin.Slice.sliceAdjust lo a 1 (n:Int)=(((sIx n 0 lo:Nat):Int),((sIx n n a:Nat):Int)):=by
 have b:¬(1<0):=by omega
 unfold Builtin.Slice.sliceAdjust;simp only[b,if_false];refine Prod.ext ?_ ?_
 .cases lo with
  |none=>rfl
  |some v=>exact Hw v n 0
 .cases a with
  |none=>rfl
  |some v=>exact Hw v n n
def FB(i j:Nat):Builtin.Slice.slicePlaces (i:Int) (j:Int) 1=j-i:=by
 unfold Builtin.Slice.slicePlaces;have a:1>0:=by omega
 simp only[a,if_true,Int.ediv_one];split<;>omega
def Ac(p:IsPart v o)(h:Q o s):wpAny (model prog w) A (Builtin.Slice.slicePartIndex v) Q E s:=by
 cases p with
 |none=>exact slicePart_none h
 |int i t=>exact slicePart_int h
def qW{a c:Option Int}{n:Nat}(e:s.heap.IsSliceOf sl vl vu .none)(f:IsPart vl a)(g:IsPart vu c)
  (h:Q (((sIx n 0 a:Nat):Int),1,sIx n n c-sIx n 0 a) s):wpAny (model prog w) A (Builtin.Slice.sliceApplied (.ref sl) (pure (n:Int))) Q E s:=by
 obtain⟨j,d,i,b⟩:=id e;unfold Builtin.Slice.sliceApplied Builtin.Slice.sliceFields;refine ao (ao (wpAny_field d b rfl (ao (wpAny_field d b rfl (ao (wpAny_field d b rfl (ak ?_)))))));refine ao (slicePart_none ?_);rw[aR (by decide)];refine ao (Ac f (ao (Ac g (ao (ak ?_)))));show wpAny _ _ (match Builtin.Slice.sliceAdjust a c 1 n with|(a,c)=>pure (a,(1:Int),Builtin.Slice.slicePlaces a c 1)) _ _ s;rw[FH a c n];show wpAny _ _ (pure (((sIx n 0 a):Int),1,Builtin.Slice.slicePlaces ((sIx n 0 a):Int) ((sIx n n c):Int) 1)) _ _ s;rw[FB];exact ak h
def Nm(a:Array Value)(i k:Nat):((List.range k).filterMap λ(m:Nat)=>a[((i:Int)+(m:Int)*1).toNat]?).toArray=((a.toList.drop i).take k).toArray:=by
 have e:(λ(m:Nat)=>a[(i+(m:Int)*1).toNat]?)=λm=>a[i+m]?:=by
  funext m;have:(i+(m:Int)*1).toNat=i+m:=by omega
  rw[this]
 rw[e];have:=pick_run a i k;rw[List.filterMap_map]at this;have b:((λx=>a[x]?) ∘ λx=>i+x)=λm=>a[i+m]?:=rfl;rw[b]at this;rw[this]
theorem getItem_tuple_cut{a b:Option Int}(c:IsTup s.heap t items)(j:s.heap.IsSliceOf sl vl vu .none)(k:IsPart vl a)(n:IsPart vu b)
  (hw:¬(sIx items.size 0 a=0/\sIx items.size items.size b=items.size))
  (h:Q (.ref s.heap.objs.size) {s with heap:=s.heap.push {cls:=.type "tuple",data:=.seq ((items.toList.drop (sIx items.size 0 a)).take (sIx items.size items.size b-sIx items.size 0 a)).toArray}})
  (hsz:items.size<=sizeLine):wpAny (model prog w) A (getItem (.ref t) (.ref sl)) Q E s:=by
 have d:sizeOk (.seq ((items.toList.drop (sIx items.size 0 a)).take (sIx items.size items.size b-sIx items.size 0 a)).toArray):=by show ((items.toList.drop (sIx items.size 0 a)).take (sIx items.size items.size b-sIx items.size 0 a)).toArray.size<=sizeLine;rw[bG,bR,bU,bB];omega
 obtain⟨m,f,g,l⟩:=id j;have e:s.TypeIs (.ref sl) "slice" :=⟨m,f,g⟩;unfold getItem;try with_reducible refine wpAny_holding ?_;first|refine ao (ak ?_)|skip
 refine ao (wpAny_sequenceKey c.typeIs (by decide) ?_);refine ao (wpAny_callSpecial?_slot c.typeIs PyProof.Rows.slot_tuple_getitem
  (wpAny_call_entry PyProof.Rows.slot_tuple_getitem c.typeIs entry_tuple_getitem ?_ (args_tuple_getitem _ _)))
 show wpAny _ _ (Builtin.Tuple.tupleItemsOf (.ref t) >>= _) _ _ s;refine ao (tupleItemsOf_ c ?_);refine ao (wpAny_typeOf e ?_);rw[aQ (by decide)];refine ao (qW j k n ?_);have i:¬((((sIx items.size 0 a):Int)==0&&(1:Int)==1&&(sIx items.size items.size b-sIx items.size 0 a)==items.size)=true):=by intro q;rw[bV,bV]at q;have p:=eq_of_beq q.1.1;have o:=eq_of_beq q.2;exact hw ⟨by omega,by omega⟩
 show wpAny _ _ (if (((sIx items.size 0 a):Int)==0&&1==1&&(sIx items.size items.size b-sIx items.size 0 a)==items.size)=true then _ else _) _ _ s;rw[aR i,Nm];first
  |exact ao (wpAny_newObj_type (ak ⟨_,rfl,ak h⟩) d)
  |exact ao (wpAny_newObj_type (ao (ak (ak ⟨_,rfl,ak h⟩))) d)
  |exact ao (ao (wpAny_newObj_type (ak (ak ⟨_,rfl,ak h⟩)) d))
  |exact ao (ao (wpAny_newObj_type (ak ⟨_,rfl,ak h⟩) d))
end
end HT
namespace L2
open PySem PySem.Spec PyProof.Rows
abbrev TO:=St->Hp->(Option Int->Hp->Prop)->Prop
def PO(X:Cx)(e:Option Expr)(t:TO):Prop:=
 ∀(b:List (Addr×Obj)) (s:Shared) (a:St) (H:Hp) (Q:Option Int->Hp->Prop),iE X b a H s->t a H Q->
  wpAny (model X.prog X.w) X.A (evalPart e X.env) (λu d=>∃o c,iE X b a c d/\IsPart u o/\Q o c) X.xe s
def HB:TO:=λ_ H Q=>Q none H
def QJ(t:TE):TO:=λa H Q=>t a H λx b=>∃i,x=.int i/\Q (some i) b
section
variable {X:Cx}{e:Expr}{te:TE}{lo hi:Option Expr}{tl th:TO}{pos p2:Pos}
def OI:PO X none HB:=by intro a s b H Q I h;rw[evalPart_none];exact ak ⟨none,H,I,.none,h⟩
def Pf(h:PE X e te):PO X (some e) (QJ te):=by intro a s b H Q I hw;rw[evalPart_some];refine lC (h a s b H _ I hw) λu s1 ⟨x,H1,I1,r1,q1⟩=>?_;obtain⟨i,rfl,q⟩:=q1;obtain⟨t,rfl⟩:=r1;exact⟨some i,H1,I1,.int i t,q⟩
def Q0(X:Cx)(r:V->Option Int->Option Int->Hp->VK->Prop):Prop:=
 ∀(b:List (Addr×Obj)) (s:Shared) (c:St) (H:Hp) (x:V) (v a d:Value) (lo hi:Option Int) (f:Addr) (Q:VK),iE X b c H s->jB x v->s.heap.IsSliceOf f a d .none->IsPart a lo->IsPart d hi->r x lo hi H Q->
  ∃T id,typeLookup (.type T) "__getitem__" = pure (some (.builtin id))/\s.TypeIs v T/\wpAny (model X.prog X.w) X.A (getItem v (.ref f)) (EP X b c Q) X.xe s
def Q0.or(h:Q0 X r)(l:Q0 X r'):Q0 X (λx lo hi H Q=>r x lo hi H Q\/r' x lo hi H Q):=by
 intro c s b H x v j d lo hi k Q I g i a f q;rcases q with q|q
 .exact h c s b H x v j d lo hi k Q I g i a f q
 .exact l c s b H x v j d lo hi k Q I g i a f q
def WA(r:V->Option Int->Option Int->Hp->VK->Prop)(te:TE)(tl th:TO):TE:=λa H Q=>te a H λx c=>tl a c λl b=>th a b λu d=>r x l u d Q
def Kx(hr:Q0 X r)(g:PE X e te)(k:PO X lo tl)(j:PO X hi th):PE X (.Subscript e (.Slice lo hi none p2) pos) (WA r te tl th):=by intro c s a H Q I h;refine Subscript_ (lC (g c s a H _ I h) λv s1 ⟨x,H1,I1,r1,q1⟩=>?_);refine wpAny_Slice (lC (k c s1 a H1 _ I1 q1) λvl s2 ⟨l,H2,I2,pl,q2⟩=>lC (j c s2 a H2 _ I2 q2) λvu s3 ⟨u,H3,I3,pu,q3⟩=>?_);rw[evalPart_none];refine ak ?_;have f:iE X c a H3 {s3 with heap:=s3.heap.push {cls:=.type "slice",data:=.fields #[vl,vu,.none]}}:=I3.kept λb n q=>ae _ q;obtain⟨T,id,i,d,m⟩:=hr c {s3 with heap:=s3.heap.push {cls:=.type "slice",data:=.fields #[vl,vu,.none]}} a H3 x v vl vu l u s3.heap.objs.size Q f r1 (Heap.IsSliceOf.new ..) pl pu q3;exact tail_any d i m (by with_unfolding_all rfl)
noncomputable def KW(a:List V)(lo hi:Option Int):List V:=(a.drop (HT.sIx a.length 0 lo)).take (HT.sIx a.length a.length hi-HT.sIx a.length 0 lo)
def xF xs lo hi:(KW xs lo hi).length<=xs.length:=by unfold KW;rw[bR,bU];omega
def UX(K:W.Frag):V->Option Int->Option Int->Hp->VK->Prop:=λx lo hi H Q=>∃a b,x=.ref a/\oH K H a b/\
 ¬(HT.sIx b.length 0 lo=0/\HT.sIx b.length b.length hi=b.length)/\∀p,H p=none->Q (.ref p) (jY H p (.tup (KW b lo hi)))
def S1:Q0 X (UX X.K):=by
 intro p s o H x v y u lo hi z Q I l m j k h;obtain⟨a,c,rfl,n,hw,q⟩:=h;cases l;obtain⟨f,r,g,i⟩:=I.tuple n;have d:f.toArray.size=c.length:=by rw[bG];exact r.length.symm
 refine⟨"tuple",_,PyProof.Rows.slot_tuple_getitem.lookup,g.typeIs,?_⟩;refine HT.getItem_tuple_cut g m j k (by rw[d];exact hw) ?_ (by rw[d];exact i);rw[d];refine⟨.ref s.heap.objs.size,_,I.laid (λb w q=>ae _ q) (aK _) ?_,rfl,q _ (I.hok.fresh (aK _))⟩;exact⟨aN (xF c lo hi) i,_,(r.drop (HT.sIx c.length 0 lo)).take (HT.sIx c.length c.length hi-HT.sIx c.length 0 lo),yS.new _ _⟩
def Vm(K:W.Frag):R2:=λx y H Q=>∃a b d c,x=.ref a/\y=.ref b/\oH K H a d/\oH K H b c/\d≠[]/\d.length+c.length<=sizeLine/\
 (c=[]->Q (.ref a) H)/\(c≠[]->∀p,H p=none->Q (.ref p) (jY H p (.tup (d++c))))
def ji.nil_iff(r:ji xs us):us=[]↔xs=[]:=by
 cases r with
 |nil=>simp
 |cons _ _=>simp
def P6:rz X (binaryOp .Add) (Vm X.K):=by intro B s A H x y v u Q I m l h;obtain⟨a,b,C,E,rfl,rfl,j,n,o,g,p,i⟩:=h;cases m;cases l;obtain⟨k,d,r,_⟩:=I.tuple j;obtain⟨f,c,p2,_⟩:=I.tuple n;refine HT.cat_tup r p2 (λz=>o (d.nil_iff.mp z)) (λz=>⟨.ref a,H,I,rfl,p (c.nil_iff.mp z)⟩) (λz=>?_) (by rw[<-d.length,<-c.length];exact g);refine⟨.ref s.heap.objs.size,_,I.laid (λb D q=>ae _ q) (aK _) ?_,rfl,i (λw=>z (c.nil_iff.mpr w)) _ (I.hok.fresh (aK _))⟩;exact⟨by rw[aT];exact g,_,d.append c,yS.new _ _⟩
end
end L2
namespace L2
open PySem PySem.Spec PyProof.Rows
noncomputable def Au(n:Nat)(i:Int):Option Nat:=if 0<=i then (if i<n then some i.toNat else none) else if -(n:Int)<=i then some (i+n).toNat else none
noncomputable def uV{b:Type}(a:List b)(i:Int):Option b:=(Au a.length i).bind λj=>a[j]?
def G3(h:Au n i=some j):seqIndex? i n=some j/\j<n/\-(n:Int)<=i/\i<n:=by
 unfold Au at h;by_cases b:0<=i
 .rw[aQ b]at h;by_cases a:i<n
  .rw[aQ a]at h;have e:=Option.some.inj h;exact⟨by rw[seqIndex_of b a,e],by omega,by omega,a⟩
  .rw[aR a]at h;cases h
 .rw[aR b]at h;by_cases a:-n<=i
  .rw[aQ a]at h;have e:=Option.some.inj h;exact⟨by rw[seqIndex_neg (by omega) a,e],by omega,a,by omega⟩
  .rw[aR a]at h;cases h
def C9{a:List α}{v:α}(h:uV a i=some v):∃j,seqIndex? i a.length=some j/\a[j]? = some v/\j<a.length/\-(a.length:Int)<=i/\i<a.length:=by
 unfold uV at h;cases e:Au a.length i with
 |none=>rw[e]at h;cases h
 |some j=>rw[e]at h;obtain⟨f,d,c,b⟩:=G3 e;exact⟨j,f,h,d,c,b⟩
def LR xs (v:α):uV (xs++[v]) (-1)=some v:=by
 have a:(xs++[v]).length=xs.length+1:=by simp
 have e:Au (xs++[v]).length (-1)=some xs.length:=by unfold Au;rw[a,aR (by decide),aQ (by omega)];congr 1;omega
 unfold uV;rw[e];simp
def Hl(b:Expr):Prop:=∀o i,subscripted b false o i=operate [o,i] (getItem o i)
def Os(X:Cx)(r:R2):Prop:=
 ∀(b a:Expr) (c:List (Addr×Obj)) (s:Shared) (d:St) (H:Hp) (x y:V) (v u:Value) (Q:VK),iE X c d H s->jB x v->jB y u->r x y H Q->
  subscripted a false v u=operate [v,u] (getItem v u)->wpAny (model X.prog X.w) X.A (subscriptTail b a v u) (EP X c d Q) X.xe s
def Xz(X:Cx)(id:String)(r:V->List V->Hp->VK->Prop):Prop:=
 ∀(a:List (Addr×Obj)) (s:Shared) (b:St) (H:Hp) (x:V) (d:List V) (v:Value) (c:List Value) (Q:VK),iE X a b H s->jB x v->ji d c->r x d H Q->
  wpAny (model X.prog X.w) X.A (call (.builtin id) (v::c)) (EP X a b Q) X.xe s
section
variable {X:Cx}{a b:Expr}{ta tb:TE}{pos:Pos}
def Os.or(h:Os X r)(k:Os X r'):Os X (λx y H Q=>r x y H Q\/r' x y H Q):=by
 intro c d f s g H x y v u Q I j i q e;rcases q with q|q
 .exact h c d f s g H x y v u Q I j i q e
 .exact k c d f s g H x y v u Q I j i q e
def Ux(hr:Os X r)(i:PE X a ta)(hb:PE X b tb)(l:Hl b):PE X (.Subscript a b pos) (zv r ta tb):=by intro e s c H Q I h;exact Subscript_ (SJ i hb I h λv u d x y f g k j q=>hr a b e d c f x y v u Q g k j q (l _ _))
def Ur(K:W.Frag):R2:=λx y H Q=>∃p c i v,x=.ref p/\y=.int i/\mN K H p c/\uV c i=some v/\Q v H
def Vk(K:W.Frag):R2:=λx y H Q=>∃p c i v,x=.ref p/\y=.int i/\oH K H p c/\uV c i=some v/\Q v H
def Uk:R2:=λx y H Q=>∃z i c,x=.str z/\y=.int i/\z.length<=sizeLine/\uV z.cps.toList i=some c/\Q (.str ⟨#[c]⟩) H
def Cj:Os X (Ur X.K):=by
 intro f m E s C H x y v u Q I R P h o;obtain⟨p,Y,i,z,rfl,rfl,F,D,q⟩:=h;cases R;obtain⟨t,rfl⟩:=P;obtain⟨k,r,e,Z⟩:=I.list F;obtain⟨j,d,N,U,J,B⟩:=C9 D;obtain⟨w,n,g⟩:=r.get N;have L:=r.length;have S:=CU;have c:EP X E C Q w s:=⟨z,H,I,g,q⟩;by_cases A:0<=i
 .have l:i.toNat=j:=by rw[seqIndex_of A B]at d;exact Option.some.inj d
  exact item_listR e.isList A (by omega) (by rw[l];simpa using n) c o
 .have l:(i+k.toArray.size).toNat=j:=by rw[seqIndex_neg (by omega) J]at d;rw[bG,<-L];exact Option.some.inj d
  exact subscriptTail_builtinR e.isList.typeIs slot_list_getitem.lookup
   (wpAny_getItem_list_neg e.isList (by omega) (by rw[bG]<;>omega) (by omega) (by rw[l];simpa using n) ⟨rfl,c⟩) o
def kz:Os X (Vk X.K):=by
 intro c f m s k H x y v u Q I E D h F;obtain⟨p,R,i,z,rfl,rfl,n,l,q⟩:=h;cases E;obtain⟨t,rfl⟩:=D;obtain⟨B,r,g,U⟩:=I.tuple n;obtain⟨j,J,C,P,S,L⟩:=C9 l;obtain⟨w,o,d⟩:=r.get C;have A:=r.length;have N:=CU;have e:EP X m k Q w s:=⟨z,H,I,d,q⟩;exact subscriptTail_builtinR g.typeIs slot_tuple_getitem.lookup
  (getItem_tuple g (by omega) (by omega) (by rw[bG,<-A];exact J) (by simpa using o) ⟨rfl,e⟩) F
def TQ:Os X Uk:=by
 intro d e E s B H x y v u Q I w r h A;obtain⟨z,i,c,rfl,rfl,J,l,q⟩:=h;obtain⟨t,rfl⟩:=w;obtain⟨F,rfl⟩:=r;obtain⟨j,f,p,D,m,g⟩:=C9 l;have o:z.cps.toList.length=z.length:=by simp[Str.length]
 rw[o]at f m g;have C:=CU;exact tail_any (typeIs_str s z t) slot_str_getitem.lookup (getItem_str (by have n:decide (i < -(2 ^ 63))=false:=aB (by omega);have k:decide (i >= 2 ^ 63)=false:=aB (by omega);rw[n,k,Bool.or_false]) (by rw[f];simpa using p) ⟨.str ⟨#[c]⟩,H,I.tok _,⟨_,rfl⟩,q⟩) A
def V9(K:W.Frag):R2:=λx y H Q=>Ur K x y H Q\/Vk K x y H Q\/Uk x y H Q
def SU:Os X (V9 X.K):=Cj.or (kz.or TQ)
def Fx(its:List Value) n j u:Obj.mapSeq (·.setIfInBounds j u) {cls:=.type "list",data:=.seq its.toArray n}={cls:=.type "list",data:=.seq (its.set j u).toArray n}:=by simp[Obj.mapSeq]
def iE.lst(I:iE X gO σ H s)(h:H p=some (.lst xs)) :
  ∃its n,ji xs its/\s.heap.get? p=some {cls:=.type "list",data:=.seq its.toArray n}/\xs.length<=sizeLine:=by
 obtain⟨z,its,n,r,e⟩:=I.hok p _ h;exact⟨its,n,r,e,z⟩
def iE.lstUpd{its c:List Value}(I:iE X gO σ H s)(h:H p=some (.lst xs))
  (g:s.heap.get? p=some {cls:=.type "list",data:=.seq its.toArray n}) (d:f {cls:=.type "list",data:=.seq its.toArray n}={cls:=.type "list",data:=.seq c.toArray n'}) (r:ji ys c) (j:ys.length<=sizeLine) t :
  iE X gO σ (jY H p (.lst ys)) {s with heap:=s.heap.update p f,toks:=t}:=by
 have e:(s.heap.update p f).get? p=some {cls:=.type "list",data:=.seq c.toArray n'}:=by rw[Heap.get?_update_self f g (by rw[d]<;>rfl),d]
 refine I.write (by rw[h];trivial) (.inl rfl) (λb u i q=>(Heap.get?_update_other _ _ (Ne.symm i)).trans q) ⟨_,e⟩ ?_;exact⟨j,c,n',r,e⟩
def G6:V->V->V->Hp->(Hp->Prop)->Prop:=λo i v H Q=>∃p c k j,o=.ref p/\i=.int k/\H p=some (.lst c)/\Au c.length k=some j/\Q (jY H p (.lst (c.set j v)))
def Nk:Uv X G6:=by
 intro A s z H o i v N L u Q I E F D h;obtain⟨p,B,k,j,rfl,rfl,x,J,q⟩:=h;cases E;obtain⟨t,rfl⟩:=F;obtain⟨c,n,r,e,C⟩:=I.lst x;obtain⟨d,P,l,w⟩:=G3 J;have f:=r.length;have K:=CU;have m:iE X A z (jY H p (.lst (B.set j v))) {s with heap:=s.heap.update p (Obj.mapSeq (·.setIfInBounds j u))}:=I.lstUpd x e (Fx c n j u) (r.set D j) (by rw[bW];exact C) s.toks
 by_cases y:0<=k
 .have g:k.toNat=j:=by rw[seqIndex_of y w]at d;exact Option.some.inj d
  exact W.ki_setAt e y (by omega) (by rw[bG,<-f];exact w) (by rw[g];exact⟨_,m,q⟩)
 .have g:(k+c.toArray.size).toNat=j:=by rw[seqIndex_neg (by omega) l]at d;rw[bG,<-f];exact Option.some.inj d
  exact W.ki_setBack e (by omega) (by rw[bG,<-f];exact l) (by omega) (by rw[g];exact⟨_,m,q⟩)
def C5 lo hi n:(sliceBounds lo hi none n).1=((HT.sIx n 0 lo:Nat):Int)/\(sliceBounds lo hi none n).2.1=((HT.sIx n n hi:Nat):Int)/\(sliceBounds lo hi none n).2.2=1:=by
 refine⟨?_,?_,rfl⟩
 .cases lo with
  |none=>simp[sliceBounds,HT.sIx]
  |some i=>
   simp only[sliceBounds,HT.sIx,Option.getD_none,show 1>0 by decide,if_true];by_cases h:i<0
   .simp only[h,if_true]<;>omega
   .simp only[h,if_false]<;>omega
 .cases hi with
  |none=>simp[sliceBounds,HT.sIx]
  |some i=>
   simp only[sliceBounds,HT.sIx,Option.getD_none,show 1>0 by decide,if_true];by_cases h:i<0
   .simp only[h,if_true]<;>omega
   .simp only[h,if_false]<;>omega
def AM(its:List Value) lo hi:slicePick its.toArray lo hi none=((its.drop (HT.sIx its.length 0 lo)).take (HT.sIx its.length its.length hi-HT.sIx its.length 0 lo)).toArray:=by obtain⟨c,e,d⟩:=C5 lo hi its.toArray.size;unfold slicePick;rw[c,e,d];simp only[sliceRange_one,pick_run,bG]<;>rfl
def Vu(K:W.Frag):V->Option Int->Option Int->Hp->VK->Prop:=λx d e H Q=>∃a c,x=.ref a/\mN K H a c/\∀p,H p=none->Q (.ref p) (jY H p (.lst (KW c d e)))
def Pt:Q0 X (Vu X.K):=by intro u s p H x v z w d f A Q I l m g j h;obtain⟨a,c,rfl,n,q⟩:=h;cases l;obtain⟨k,r,e,o⟩:=I.list n;have i:=r.length;refine⟨"list",_,slot_list_getitem.lookup,e.isList.typeIs,?_⟩;refine wpAny_getItem_list_slice e.isList m g j .none (by simp) ?_ (by rw[bG]<;>omega);rw[AM,<-i];refine⟨.ref s.heap.objs.size,_,I.laid (λb y q=>ae _ q) (aK _) ?_,rfl,q _ (I.hok.fresh (aK _))⟩;exact⟨aN (xF c d f) o,_,0,(r.drop (HT.sIx c.length 0 d)).take (HT.sIx c.length c.length f-HT.sIx c.length 0 d),ar _ rfl⟩
noncomputable def uK:V->Bool
 |.non=>true
 |.bl _=>true
 |.int _=>true
 |.str _=>true
 |_=>false
noncomputable def NM:V->V->Bool
 |.non,.non=>true
 |.bl a,.bl b=>a==b
 |.bl a,.int b=>(if a then 1 else 0)==b
 |.int a,.bl b=>a==(if b then 1 else 0)
 |.int a,.int b=>a==b
 |.str a,.str b=>a==b
 |_,_=>false
def RK(e:jB y u)(c:jB x v)(g:uK y=true)(f:uK x=true):SeqAt.EqAt A s u v (NM y x):=by
 cases y with
 |non=>
  cases e;cases x with
  |non=>cases c;exact SeqAt.EqAt.same _
  |bl b=>cases c;exact SeqAt.EqAt.none_bool b
  |int b=>obtain⟨t,rfl⟩:=c;exact SeqAt.EqAt.none_int b t
  |str b=>obtain⟨t,rfl⟩:=c;exact SeqAt.EqAt.none_str b t
  |_=>exact absurd (f) aH
 |bl a=>
  cases e;cases x with
  |non=>cases c;exact SeqAt.EqAt.bool_none a
  |bl b=>cases c;exact SeqAt.EqAt.bool_bool a b
  |int b=>obtain⟨t,rfl⟩:=c;exact SeqAt.EqAt.bool_int a b t
  |str b=>obtain⟨t,rfl⟩:=c;exact SeqAt.EqAt.bool_str a b t
  |_=>exact absurd (f) aH
 |int a=>
  obtain⟨d,rfl⟩:=e;cases x with
  |non=>cases c;exact SeqAt.EqAt.int_none a d
  |bl b=>cases c;exact SeqAt.EqAt.int_bool a d b
  |int b=>obtain⟨t,rfl⟩:=c;exact SeqAt.EqAt.int_int a d b t
  |str b=>obtain⟨t,rfl⟩:=c;exact SeqAt.EqAt.int_str a d b t
  |_=>exact absurd (f) aH
 |str a=>
  obtain⟨d,rfl⟩:=e;cases x with
  |non=>cases c;exact SeqAt.EqAt.str_none a d
  |bl b=>cases c;exact SeqAt.EqAt.str_bool a d b
  |int b=>obtain⟨t,rfl⟩:=c;exact SeqAt.EqAt.str_int a d b t
  |str b=>obtain⟨t,rfl⟩:=c;exact SeqAt.EqAt.str_str a d b t
  |_=>exact absurd (f) aH
 |_=>exact absurd (g) aH
noncomputable def FL(x:V)(u:Value):Bool:=match u with
 |.none=>NM .non x
 |.bool b=>NM (.bl b) x
 |.int i _=>NM (.int i) x
 |.str z _=>NM (.str z) x
 |_=>false
def KI(r:jB y u)(f:uK y=true):FL x u=NM y x:=by
 cases y with
 |non=>cases r;rfl
 |bl b=>cases r;rfl
 |int i=>obtain⟨t,rfl⟩:=r;rfl
 |str z=>obtain⟨t,rfl⟩:=r;rfl
 |_=>exact absurd (f) aH
theorem v8:∀{xs} {us},ji xs us->xs.all uK=true->us.any (FL x)=xs.any λy=>NM y x
 |_,_,.nil,_=>rfl
 |y::xs,u::us,.cons r t,f=>by rw[bX,bV]at f;rw[bY,bY,KI r f.1,v8 t f.2]
theorem tE(e:jB x v)(d:uK x=true):∀{xs} {us},ji xs us->xs.all uK=true->∀u∈us,SeqAt.EqAt A s u v (FL x u)
 |_,_,.nil,_=>λu c=>by cases c
 |y::xs,u::us,.cons r t,f=>λg c=>by
  rw[bX,bV]at f;rcases aF.mp c with rfl|c
  .rw[KI r f.1];exact RK r e f.1 d
  .exact tE e d t f.2 g c
noncomputable def VD(x:V)(c:List V):Bool:=c.any λy=>NM y x
def Vg(K:W.Frag)(neg:Bool):R2:=λx y H Q=>∃p c,y=.ref p/\(mN K H p c\/oH K H p c)/\uK x=true/\c.all uK=true/\Q (.bl (if neg then !VD x c else VD x c)) H
def IA:rz X (compareOp .In) (Vg X.K false):=by
 intro l s k H x y v u Q I f i h;obtain⟨p,m,rfl,d,g,fs,q⟩:=h;cases i;rcases d with d|d
 .obtain⟨c,r,e,j⟩:=I.list d;refine SeqAt.in_listAt (FL x) e.isList (λw hw=>tE f g r fs w (by simpa using hw)) ⟨.bl _,H,I,rfl,?_⟩;rw[show c.toArray.any (FL x)=c.any (FL x) by simp,v8 r fs];exact q
 .obtain⟨c,r,e,j⟩:=I.tuple d;refine SeqAt.in_tupleAt (FL x) e (λw hw=>tE f g r fs w (by simpa using hw)) ⟨.bl _,H,I,rfl,?_⟩;rw[show c.toArray.any (FL x)=c.any (FL x) by simp,v8 r fs];exact q
def C8:rz X (compareOp .NotIn) (Vg X.K true):=by
 intro l s k H x y v u Q I f i h;obtain⟨p,m,rfl,d,g,fs,q⟩:=h;cases i;rcases d with d|d
 .obtain⟨c,r,e,j⟩:=I.list d;refine SeqAt.notIn_listAt (FL x) e.isList (λw hw=>tE f g r fs w (by simpa using hw)) ⟨.bl _,H,I,rfl,?_⟩;rw[show c.toArray.any (FL x)=c.any (FL x) by simp,v8 r fs];exact q
 .obtain⟨c,r,e,j⟩:=I.tuple d;refine SeqAt.notIn_tupleAt (FL x) e (λw hw=>tE f g r fs w (by simpa using hw)) ⟨.bl _,H,I,rfl,?_⟩;rw[show c.toArray.any (FL x)=c.any (FL x) by simp,v8 r fs];exact q
def Dc:lX X (.type "list") (λB H Q=>∃p g,B=[.ref p]/\(mN X.K H p g\/oH X.K H p g)/\∀l,H l=none->Q (.ref l) (jY H l (.lst g))):=by
 intro F s D H B L Q I r h;obtain⟨p,g,rfl,k,q⟩:=h;obtain⟨u,rfl,J⟩:=qc r;cases J;have m:∀(c:List Value),ji g c->g.length<=sizeLine->∀(d:Heap) (f:Nat),(∀b C,s.heap.get? b=some C->d.get? b=some C)->
   d.get? s.heap.objs.size=some {cls:=.type "list",dict:=none,data:=.seq c.toArray f,slots:=#[]}->EP X F D Q (.ref s.heap.objs.size) {s with heap:=d}:=λc i v d f j e=>
  ⟨.ref s.heap.objs.size,_,I.laid j (aK _) (show l6 X.prog X.w _ d _ (.lst g) from ⟨v,c,f,i,e⟩),rfl,q _ (I.hok.fresh (aK _))⟩
 rcases k with k|k
 .obtain⟨c,i,x,v⟩:=I.list k;have E:=i.length;obtain⟨o,y,A,n,z⟩:=x.isList;exact call_list_seq p (.inl rfl) y A z (λd f j e=>m c i v d f j e) (by simp only[bG]<;>omega)
 .obtain⟨c,i,x,v⟩:=I.tuple k;have E:=i.length;obtain⟨o,y,A,n,z⟩:=x;exact call_list_seq p (.inr rfl) y A z (λd f j e=>m c i v d f j e) (by simp only[bG]<;>omega)
def AJ:lX X (.type "tuple") (λk H Q=>∃p d,k=[.ref p]/\((mN X.K H p d/\∀l,H l=none->Q (.ref l) (jY H l (.tup d)))\/(oH X.K H p d/\Q (.ref p) H))):=by
 intro x s v H k B Q I r h;obtain⟨p,d,rfl,h⟩:=h;obtain⟨u,rfl,z⟩:=qc r;cases z;rcases h with⟨g,q⟩|⟨g,q⟩
 .obtain⟨c,j,f,n⟩:=I.list g;have A:=j.length;refine call_tuple_list f.isList (λi w=>?_) (by simp only[bG]<;>omega);have m:=I.kept (t':=s.toks) w;have y:iE X x v (jY H i.objs.size (.tup d)) {s with heap:=i.push {cls:=.type "tuple",data:=.seq c.toArray}}:=
   m.laid (λb o e=>ae _ e) (aK _) (⟨n,c,j,yS.new _ _⟩)
  exact⟨.ref i.objs.size,_,y,rfl,q _ (m.hok.fresh (aK _))⟩
 .obtain⟨c,j,f,n⟩:=I.tuple g;exact call_tuple_same f ⟨.ref p,H,I,rfl,q⟩
def T7(K:W.Frag)(T:String)(x:V)(H:Hp):Prop:=match x with
 |.str _=>T = "str"
 |.int _=>T = "int"
 |.ref p=>(T = "list" /\∃d,mN K H p d)\/(T = "tuple" /\∃o,K.lookup p=some o/\o.cls=.type "tuple" /\o.dict=none)\/
   (T = "dict" /\((∃c,H p=some (.dK c))\/∃c,H p=some (.dT c)))\/(T = "set" /\∃S n,H p=some (.set S n))
 |_=>False
theorem Rw{q:List (Addr×Obj)}{m:St}{H:Hp}{s:Shared}{T:String}{x:V}{v:Value}(I:iE X q m H s)(r:jB x v)(ty:T7 X.K T x H) :
  s.TypeIs v T/\∀a,v=.ref a->∃l,s.heap.get? a=some l/\l.dict=none:=by
 cases x with
 |str z=>obtain⟨t,rfl⟩:=r;cases (ty);exact⟨typeIs_str s z t,λ_ e=>nomatch e⟩
 |int i=>obtain⟨t,rfl⟩:=r;cases (ty);exact⟨typeIs_int s i t,λ_ e=>nomatch e⟩
 |ref p=>
  cases r;rcases ty with⟨rfl,A,u⟩|⟨rfl,o,d,y,h⟩|⟨rfl,d⟩|⟨rfl,S,n,d⟩
  .obtain⟨w,_,k,_⟩:=I.list u;refine⟨k.isList.typeIs,λa e=>?_⟩;cases e;obtain⟨o,n,e,c,h,_⟩:=k;exact⟨o,e,h⟩
  .refine⟨⟨o,I.kIn p o d,y⟩,λa e=>?_⟩;cases e;exact⟨o,I.kIn _ o d,h⟩
  .have z:∃o,s.heap.get? p=some o/\o.ExactDict:=by
    rcases d with⟨j,d⟩|⟨j,d⟩
    .obtain⟨_,_,_,_,o,_,_,e,f,_⟩:=I.hok p _ d;exact⟨o,e,f⟩
    .obtain⟨_,_,_,_,o,_,_,e,f,_⟩:=I.hok p _ d;exact⟨o,e,f⟩
   obtain⟨o,e,f⟩:=z;refine⟨⟨o,e,f.1⟩,λa g=>?_⟩;cases g;exact⟨o,e,f.2.1⟩
  .obtain⟨o,_,_,_,e,f,_⟩:=I.hok p _ d;refine⟨⟨o,e,f.1⟩,λa g=>?_⟩;cases g;exact⟨o,e,f.2.1⟩
 |_=>exact False.elim ty
def WD(K:W.Frag)(T:String)(r:V->List V->Hp->VK->Prop)(to:TE)(t:TA):TE:=λc H Q=>to c H λx d=>T7 K T x d/\t c d λf e=>r x f e Q
variable {o e:Expr}{es:List Expr}{to:TE}{t:TA}{name:Str}{apos cpos:Pos}{T id:String}{r:V->List V->Hp->VK->Prop}
def Lo(u:PlainAttrs T)(f:Slot T name id)(k:typeOf (.builtin id)=pure (.type "method_descriptor"))(n:Xz X id r)(m:PE X o to)(p:PA X (e::es) t)
  (c:attributeBase o name X.env (eval o X.env)=eval o X.env:=by rfl)
  (g:((backTo cpos (starEach (e::es) X.env)).all (λx=>!x.1)&&(backToKw cpos (keywordEach [] X.env)).all (λx=>x.1.isSome)
   && decide ((e::es).length+([]:List Keyword).length+(if ([]:List Keyword).isEmpty then 0 else 1)<30))=true:=by rfl)
  (d:(apos.endLine==cpos.line)=true:=by rfl) (w:starEach (e::es) X.env=(false,eval e X.env)::starEach es X.env:=by rfl) (hplain:(backTo cpos (starEach es X.env)).any (·.1)=false:=by rfl) :
  PE X (.Call (.Attribute o name apos) (e::es) [] cpos) (WD X.K T r to t):=by
 intro j s i H Q I h;refine wpAny_Call_method_late c g d rfl (lC (m j s i H _ I h) λv s1 ⟨x,H1,I1,r1,ty,q1⟩=>?_);obtain⟨y,q⟩:=Rw I1 r1 ty;refine⟨T,id,u,f,k,y,q,?_⟩;have l:=p cpos j s1 i H1 _ I1 q1;rw[w]at l ⊢;refine Calls.callWith_builtin (by show (false||(backTo cpos (starEach es X.env)).any (·.1))=false;rw[hplain]<;>rfl) (Calls.evalArgs_plain ?_);exact lC l λus s2 ⟨vs,H2,I2,r2,q2⟩=>n j s2 i H2 x vs v us Q I2 r1 r2 q2
end
end L2
namespace L2
open PySem PySem.Spec PyProof.Rows
def Xb(X:Cx)(id:String)(r:V->List V->Hp->VK->Prop):Prop:=
 ∀(a:List (Addr×Obj)) (s:Shared) (b:St) (H:Hp) (x:V) (d:List V) (v:Value) (c:List Value) (Q:VK),iE X a b H s->jB x v->ji d c->r x d H Q->
  wpAny (model X.prog X.w) X.A (call (.builtin id) (v::c)) (EP X a b Q) X.xe s
theorem ji.one:∀{x} {us},ji [x] us->∃u,us=[u]/\jB x u
 |_,_,.cons r .nil=>⟨_,rfl,r⟩
theorem ji.rep(h:ji xs us):∀k:Nat,ji (List.replicate k xs).flatten (List.replicate k us).flatten
 |0=>.nil
 |k+1=>by rw[bZ,bZ,b4,b4];exact ji.append h (ji.rep h k)
theorem uu(its:List Value):∀k a,
  List.foldl (λb d=>b++d) a.toArray (List.replicate k its.toArray)=(a++(List.replicate k its).flatten).toArray
 |0,a=>by simp
 |k+1,a=>by
  have e:a.toArray++its.toArray=(a++its).toArray:=by simp
  have c:(a++its)++(List.replicate k its).flatten=a++(List.replicate (k+1) its).flatten:=by rw[bZ,b4,b5]
  rw[<-c,<-uu its k (a++its),<-e,bZ,List.foldl_cons]
section
variable {X:Cx}{gO:List (Addr×Obj)}{σ:St}{H:Hp}{s:Shared}{l b:Addr}{xs ys zs:List V}
def iE.lset{its a:List Value}(I:iE X gO σ H s)(h:H l=some (.lst xs))
  (e:s.heap.get? l=some {cls:=.type "list",data:=.seq its.toArray n}) (c:f its.toArray=a.toArray) (hv:ji ys a) (i:ys.length<=sizeLine) :
  iE X gO σ (jY H l (.lst ys)) {s with heap:=s.heap.update l (Obj.mapSeq f),toks:=t'}:=by
 have q:=PySem.IsL.update e f;rw[c]at q;refine I.write (by rw[h];exact trivial) (.inl rfl) (λj u g d=>(Heap.get?_update_other s.heap (Obj.mapSeq f) (Ne.symm g)).trans d) ⟨_,q⟩ ?_;exact⟨i,a,_,hv,q⟩
def iE.lnew(I:iE X gO σ H s)(hv:ji ys its)(a:ys.length<=sizeLine) :
  iE X gO σ (jY H s.heap.objs.size (.lst ys)) {s with heap:=s.heap.push {cls:=.type "list",data:=.seq its.toArray},toks:=t'}:=
 I.laid (λ_ _ q=>ae _ q) (aK _) ⟨a,its,0,hv,ar _ rfl⟩
def iE.fresh(I:iE X gO σ H s):H s.heap.objs.size=none:=I.hok.fresh (aK _)
def iE.lstM(I:iE X gO σ H s)(a:H l=some (.lst xs)):xs.length<=sizeLine/\∃its n,ji xs its/\xs.length=its.length/\s.heap.get? l=some {cls:=.type "list",data:=.seq its.toArray n}:=by obtain⟨z,its,n,r,e⟩:=I.hok l _ a;exact⟨z,its,n,r,r.length,e⟩
def M8(h:n<=sizeLine):Builtin.List.listTooLong n=false:=by unfold Builtin.List.listTooLong;exact aB (by omega)
end
section
variable {X:Cx}
def BR:V->List V->Hp->VK->Prop:=λx b H Q=>∃l a y,x=.ref l/\b=[y]/\H l=some (.lst a)/\a.length<sizeLine/\Q .non (jY H l (.lst (a++[y])))
def wz:Xb X "list.append" BR:=by intro j s g H x i v k Q I f c h;obtain⟨l,m,y,rfl,rfl,b,p,q⟩:=h;cases f;obtain⟨u,rfl,d⟩:=c.one;obtain⟨z,a,n,r,o,e⟩:=I.lstM b;refine call_meets F.slot_list_append ⟨_,e,rfl⟩ F.entry_list_append (F.args_list_append_2 _ _) (PySem.list_append l a.toArray n u (by rw[bG];omega)) ⟨e,?_⟩;refine⟨.non,_,I.lset b e (by simp) (r.append (.cons d .nil)) ?_,rfl,q⟩;rw[aT,b6];omega
def S0:R2:=λx y H Q=>∃l b a c,x=.ref l/\y=.ref b/\H l=some (.lst a)/\H b=some (.lst c)/\a.length+c.length<=sizeLine/\∀p,H p=none->Q (.ref p) (jY H p (.lst (a++c)))
def Km:rz X (binaryOp .Add) S0:=by
 intro w s p H x y v u Q I k j h;obtain⟨l,b,A,E,rfl,rfl,i,o,F,q⟩:=h;cases k;cases j;obtain⟨z,c,n,r,B,e⟩:=I.lstM i;obtain⟨C,a,D,m,g,d⟩:=I.lstM o;refine PySem.P.add_list e d ?_ (by rw[bG,bG];omega);have f:c.toArray++a.toArray=(c++a).toArray:=by simp
 rw[f];exact⟨.ref _,_,I.lnew (r.append m) (by rw[aT];omega),rfl,q _ I.fresh⟩
def UK:R2:=λx y H Q=>∃l k a,x=.ref l/\y=.int k/\H l=some (.lst a)/\-(2 ^ 63)<=k/\k<2 ^ 63/\a.length*k.toNat<=sizeLine/\
 ∀p,H p=none->Q (.ref p) (jY H p (.lst (List.replicate k.toNat a).flatten))
def BP{b:Type}(a:List b) k:(List.replicate k a).flatten.length=k*a.length:=by
 induction k with
 |zero=>simp
 |succ k ih=>rw[bZ,b4,aT,ih,b7,Nat.add_comm]
def RM:rz X (binaryOp .Mult) UK:=by
 intro N s L H x y v u Q I J E h;obtain⟨l,k,P,rfl,rfl,D,K,C,o,q⟩:=h;cases J;obtain⟨t,rfl⟩:=E;obtain⟨z,b,n,r,A,e⟩:=I.lstM D;have p:b.toArray.size*k.toNat<=sizeLine:=by rw[bG,<-A];exact o
 have d:¬b.toArray.size*k.toNat>(2 ^ 63-1) / 8:=by
  have:sizeLine<=(2 ^ 63-1) / 8:=by decide
  omega
 have g:¬(!Builtin.List.listFitsIndex k)=true:=by rw[fitsIndex_both K C];exact aH
 have c:¬Builtin.List.listTooLong (b.toArray.size*k.toNat)=true:=by rw[M8 p];exact aH
 have f:List.foldl (λj i=>j++i) #[] (List.replicate (if b.toArray.isEmpty=true then 0 else k.toNat) b.toArray)=(List.replicate k.toNat b).flatten.toArray:=by
  have w:∀m:Nat,List.foldl (λj i=>j++i) #[] (List.replicate m b.toArray)=(List.replicate m b).flatten.toArray:=λm=>by have:=uu b m [];rw[b8]at this;exact this
  rw[w];cases b with
  |nil=>simp
  |cons a r'=>rw[aR (by simp)]
 refine wpAny_binaryOp_repeat_ref (by decide) ⟨_,e,rfl⟩ (λB=>typeIs_int B k t) noFill_list_mul F.fills_int_mul F.slot_int_rmul repeat_list F.slot_int_index.lookup
  (call_meets F.slot_int_rmul (typeIs_int s k t) F.entry_int_rmul (F.args_int_rmul_2 _ _) (int___rmul___int_list k t l b.toArray n)
   ⟨e,rfl,⟨_,e,rfl⟩,call_meets F.slot_list_mul ⟨_,e,rfl⟩ F.entry_list_mul (F.args_list_mul_2 _ _) (AutoListH.list___mul___list_int_3 l b.toArray n k t g d c) ⟨e,?_⟩⟩)
 rw[f];exact⟨.ref _,_,I.lnew (r.rep k.toNat) (by rw[BP,b9];exact o),rfl,q _ I.fresh⟩
end
end L2
namespace Att
open PySem PySem.W PySem.Calls PyProof.Rows
def yh:∀c vs,WellAll P h vs (c.map WData.int)->IntsAre vs c:=by
 intro c;induction c with
 |nil=>intro vs w;rw[cf]at w;cases w;exact .nil
 |cons n c ih=>
  intro vs w;rw[bI]at w;cases w with
  |cons a b=>cases a;exact .cons _ _ (ih _ b)
theorem script_of{l:OpenLaw}(k:l.most=some n)
  (c:l.row.toRowW.claim.pre args=true) (i:WellAll P h vals args) :
  ∃a vs b,vals=[Value.ref a]/\args=[WData.list (b.map WData.int)]/\h.get? a=some {cls:=.type "list",data:=.seq vs.toArray}/\IntsAre vs b/\b.length<=n:=by
 have g:=(pre_splitW c).1;have j:l.pre.holds [] {args:=args}=true:=(pre_splitW c).2;obtain⟨d,r,rfl,s,p⟩:=hasAllW_cons g;obtain rfl:=hasAllW_nil p;obtain⟨u,rfl,o⟩:=hasW_list s;obtain⟨b,rfl⟩:=items_int o;have m:b.length<=n:=by
  unfold OpenLaw.pre at j;have f:(WTm.not (.lt (.lit (.int n)) (.len (.arg 0)))).holds [] {args:=[.list (b.map .int)]}=true:=by have f:=(holds_andW j).1;rw[k]at f;exact f
  have e:=condW_of f (w_not (w_lt w_lit (w_len_list (w_arg rfl))));rw[aw]at e;refine Nat.le_of_not_lt λq=>?_;first
   | (rw[aC q']at e;exact absurd e (by decide))
   | (simp at e;omega)
 cases i with
 |cons w1 w2=>
  cases w2;cases w1 with
  |list ho Dh=>exact⟨_,_,b,rfl,rfl,ho,yh b _ Dh,m⟩
def post_true(l:OpenLaw) args:l.row.toRowW.claim.post args (.bool true) args=true:=
 postW_of
  (show WShape.has [] (.bool true) .bool=true by first|rfl|decide|simp[WShape.has,WShape.arms,WShape.armsAll])
  (w_eq_bool (w_res rfl) w_lit) rfl
end Att
namespace L2
open PySem PySem.Spec PyProof.Rows
theorem AX:∀{vs} {ns},IntsAre vs ns->ji (ns.map V.int) vs
 |_,_,.nil=>.nil
 |_,_,.cons n t h=>.cons ⟨t,rfl⟩ (AX h)
def Su(H:Hp):Prop:=∀b,H b=none\/∃o a,H b=some (.frz o (.lst a))
def El(h:Heap)(H:Hp)(a:List (Addr×Addr)):Heap:=⟨(KH h H).objs,{ids:=a}⟩
theorem Me{K:W.Frag}
  (KX:K.In s₁.heap) (E:s₁.heap.Ns mainGlobals mg) (hb:s₁.heap.Ns builtinsNs mb) (U:∀x:Str,x≠ "__name__" ->mb x=bootBuiltins x) (A:s₁.heap.NoLimit) (hg:s₁.gens = #[])
  (L:s₁.heap.get? a=some {cls:=.type "list",data:=.seq vs.toArray}) (hi:IntsAre vs ns) (hl:ns.length<=sizeLine) (hr:jZ k callerA)
  (F:∀g:Heap,K.In g->g.Ns mainGlobals mg->pR P w K mg g CX k fa fd [x] sp) (l:∀(s:Shared) (u:Value),BindsTo s fd ⟨[u],[]⟩ [(x,u)])
  (Q:∀H:Hp,Su H->mN K H a (ns.map V.int)->sp [.ref a] H (λv _=>v=.bl true) λ_ _ _=>False)
  (R:∀H e f,CX [] H s₁ (λ_ _ _=>False) e f->False) :
  codeAny (model P w) callerA (.call (.ref fa) ⟨[.ref a],[]⟩) (λr f=>r=.ok (.ret (.bool true))/\OldK s₁.heap f.heap/\f.os=s₁.os/\AllBare f.gens) s₁:=by
 have rv:=AX hi;have I:=hi.length;have j:∀H:Hp,Su H->mN K H a (ns.map V.int)->uw P w H s₁.heap->(∀b,H b≠none->b=a)->(H a≠none->K.lookup a=none)->
   codeAny (model P w) callerA (.call (.ref fa) ⟨[.ref a],[]⟩) (λr f=>r=.ok (.ret (.bool true))/\OldK s₁.heap f.heap/\f.os=s₁.os/\AllBare f.gens) s₁:=by
  intro H hO hS p Z hK;have base_of:∀{b:Addr} {o:Obj},s₁.heap.get? b=some o->H b=none->(El s₁.heap H []).get? b=some o:=λe n=>Lc e n;have S:∀{b:Addr} {o:Obj} {N:Array DictEntry} {J:Nat},s₁.heap.get? b=some o->o.data=.dict N J->H b=none:=λ{b o N J} e d=>by
   cases q:H b with
   |none=>rfl
   |some u=>have X:=Z b (by rw[q];simp);subst X;rw[L]at e;cases e;have d':=d;cases d'
  have i:∀{b:Addr} {m:Str->Option Value},s₁.heap.Ns b m->(El s₁.heap H []).Ns b m:=λ{b m} ⟨o,N,J,e,d,r⟩=>⟨o,N,J,base_of e (S e d),d,r⟩;have B:K.In (El s₁.heap H []):=λb o e=>base_of (KX b o e) (by
   cases q:H b with
   |none=>rfl
   |some u=>have X:=Z b (by rw[q];simp);subst X;rw[hK (by rw[q];simp)]at e;cases e)
  have hM:Mod K mg (El s₁.heap H []):=⟨B,i E,⟨mb,i hb,U⟩,let ⟨mc,h1,h2⟩:=A;⟨mc,i h1,h2⟩⟩;have e0:FD P w K mg (El s₁.heap H []) callerA [] s₁ H:=⟨rfl,hM,λb o e=>Qz e,bJ (JI _ _),trivial,λb hb=>absurd (show b∈([]) from hb) (by simp),p,.of_eq hg,λc P qn hm=>nomatch (show (c,P)∈([]:List (Addr×Addr)) from hm)⟩;refine codeAny_mono ((F _ B (i E)).run callerA [] s₁ H ⟨[.ref a],[]⟩ [.ref a] [.ref a] _ _ hr e0 (l s₁ (.ref a)) (.cons rfl .nil) (Q H hO hS)) λr f h=>?_;cases r with
  |error e=>exact (R H e f h).elim
  |ok fl=>
   cases fl with
   |next=>exact False.elim h
   |brk=>exact False.elim h
   |cont=>exact False.elim h
   |ret u=>
    obtain⟨v,H',os,C,un,D,r',q⟩:=h;have q':=q;subst q';obtain rfl:u=Value.bool true:=r';refine⟨rfl,OldK.of_keep λb o e=>?_,os,C⟩;cases q:H b with
    |none=>exact un.keep b o e q (by intro z;exact absurd (show b∈([]) from z) (by simp)) (by simp)
    |some u=>
     rcases hO b with z|⟨ob,xs,z⟩
     .rw[q]at z;cases z
     .have z2:=un.frzs b ob _ z;obtain⟨e1,_⟩:=p b _ z;obtain⟨e2,_⟩:=D b _ z2;rw[e]at e1;cases e1;exact e2
 cases Y:K.lookup a with
 |some o=>have e:=KX a o Y;rw[L]at e;cases e;refine j (λ_=>none) (λ_=>.inl rfl) (.inr ⟨_,vs.toArray,_,Y,rfl,rfl,rfl,by rw[bG,I];exact hl,by simpa using rv⟩) (λb u z=>by have y:=z;cases y) (λb z=>absurd rfl z) λz=>absurd rfl z
 |none=>
  refine j (λb=>if b=a then some (.frz {cls:=.type "list",data:=.seq vs.toArray} (.lst (ns.map V.int))) else none) (λb=>?_) (.inl (.inr ⟨{cls:=.type "list",data:=.seq vs.toArray},aQ rfl⟩)) (λb u z=>?_) (λb z=>?_) λ_=>Y
  .by_cases hb:b=a
   .exact .inr ⟨_,_,aQ hb⟩
   .exact .inl (aR hb)
  .by_cases hb:b=a
   .have y:=(aQ hb).symm.trans z;cases y;subst hb;exact⟨L,by rw[aw];exact hl,vs,_,rv,L⟩
   .have y:=(aR hb).symm.trans z;cases y
  .by_cases hb:b=a
   .exact hb
   .exact absurd (aR hb) z
end L2
namespace L2
open PySem PySem.Spec PyProof.Rows
noncomputable def qi(s:Stmt)(j:Nat):Stmt:=match s with
 |.ClassDef _ _ _ body _ _ _ _ _ _ _=>body.getD j (.Pass ⟨0,0,0,0⟩)
 |_=>.Pass ⟨0,0,0,0⟩
noncomputable def kW(s:Stmt):Arguments:=match s with
 |.FunctionDef _ a _ _ _ _ _ _ _ _=>a
 |_=>{posonlyargs:=[],args:=[],vararg:=none,kwonlyargs:=[],kw_defaults:=[],kwarg:=none,defaults:=[]}
noncomputable def jv(s:Stmt):List Stmt:=match s with
 |.FunctionDef _ _ b _ _ _ _ _ _ _=>b
 |_=>[]
noncomputable def hU(s:Stmt):Scope:=match s with
 |.FunctionDef _ _ _ _ _ _ sc _ _ _=>sc
 |_=>{kind:=.function,names:=[],isGenerator:=false,isCoroutine:=false}
abbrev Av:Pa:=λ_ _ _ _ _ _=>False
abbrev E0:XK:=λ_ _ _=>False
def Ml:wO Av X E0:=λ_ _ _ _ _ _ _ h=>h.elim
structure NN(K:W.Frag)(x qual:Str)(st:Stmt)(f:Addr)(fd:FuncData):Prop where
 ex:∃(oc:Value) (od:Option Addr) (kV doc pm:Value) (an:Option Addr) (cdv ct:Value) (osl:Array (Option Value)),
  fd=W.fnOf x qual (kW st) (jv st) (hU st) .none kV doc pm an cdv ct/\K.lookup f=some ⟨oc,od,.func fd,osl⟩/\W.codeIn K cdv qual=true
 kp:W.keepIn K (.ref f)=true
section
variable {P:Program}{w:World}{K:W.Frag}{mg:Str->Option Value}{base:Heap}
def NN.ok{st:Stmt}(F:NN K x qual st f fd)(S:kq N ps (hU st))(e:∀vs H Q E,sp vs H Q E->vs.length=ps.length)
  (c:∀b A a s H vs Q E,jZ k (A.deeper (envOfC qual (hU st) s.heap.objs.size f b))->sp vs H Q E->
   ∃t,ES (sQ Av P w K mg base N qual (hU st) f b A a s H E).nox (jv st) t/\t {nx:=λ_ m=>Q .non m,rt:=Q} (oy N vs) H):pR P w K mg base Av (k+1) f fd ps sp:=by
 obtain⟨o,u,kV,l,p,n,b,r,j,rfl,i,g⟩:=F.ex;refine Vx i g S e λA a s H vs Q E hr d=>?_;obtain⟨t,h,q⟩:=c b A a s H vs Q E hr d;exact⟨t,h.nox,q⟩
def NN.binds{st:Stmt}(F:NN K x qual st f fd)
  (h:∀(kV a c:Value) (d:Option Addr) (b e:Value) (us:List Value),us.length=ps.length->bindArgs (W.fnOf x qual (kW st) (jv st) (hU st) .none kV a c d b e) ⟨us,[]⟩=pure (ps.zip us)):sD K fd ps []:=by
 obtain⟨l,j,kV,a,c,d,b,e,g,rfl,k,i⟩:=F.ex;exact .all (h kV a c d b e)
def E4{st:Stmt}{kV b d a e:Value}(l:K.lookup f=some ⟨oc,od,.func (W.fnOf x qual (kW st) (jv st) (hU st) .none kV b d an a e),osl⟩)
  (c:W.codeIn K a qual=true) (k:W.keepIn K (.ref f)=true):NN K x qual st f (W.fnOf x qual (kW st) (jv st) (hU st) .none kV b d an a e):=⟨⟨oc,od,kV,b,d,an,a,e,osl,rfl,l,c⟩,k⟩
end
def Li(hr:jZ k A):A.units+1<cLine:=cg (Nat.add_le_add_left (by decide:1<=64) _) hr.units
section
variable {X:Cx}
def pv i (c:X.N[i]? = some x:=by rfl) (hv:U3 X.env.scope x:=by first|exact Or.inl rfl|exact Or.inr (Or.inl rfl)|exact Or.inr (Or.inr rfl)) (b:(x==("__debug__" : Str))=false:=by decide)
  (a:(x==("__classdict__" : Str))=false:=by decide):PE X (.Name x pos) (oQ i):=RU c hv b a
end
def JN(o:HO)(x:Option HO):Prop:=match o with
 |.tbl q ps=>∃a,x=some (.tbl q (ps++a))
 |o=>x=some o
def JN.of(h:x=some o):JN o x:=by
 cases o with
 |tbl q ps=>exact⟨#[],by rw[h];simp⟩
 |_=>exact h
def JN.ne(h:JN o x):x≠none:=by
 cases o with
 |tbl q ps=>obtain⟨m,e⟩:=h;rw[e];exact λz=>nomatch z
 |_=>have e:x=some _:=h;rw[e];exact λz=>nomatch z
def iS(H a:Hp):Prop:=∀b o,H b=some o->JN o (a b)
def iS.refl H:iS H H:=λ_ _ h=>.of h
def iS.trans(a:iS H H1)(b:iS H1 H2):iS H H2:=λc o h=>by
 have q:=a c o h;cases o with
 |tbl q ps=>obtain⟨m,e⟩:=q;obtain⟨f,d⟩:=b c _ e;exact⟨m++f,by rw[d,bA]⟩
 |_=>exact b c _ q
def iS.seq{K:W.Frag}(e:iS H H')(h:mN K H a xs):mN K H' a xs:=by
 rcases h with (h|⟨o,h⟩)|h
 .exact .inl (.inl (e _ _ h))
 .exact .inl (.inr ⟨o,e _ _ h⟩)
 .exact .inr h
end L2
namespace L2
open PySem PySem.Spec PyProof.Rows
section
variable {P:Program}{w:World}{H:Hp}{h:Heap}{a:Addr}{o:HO}
def uw.track(ok:uw P w H h)(d:H a=none)(new:l6 P w (jY H a o) h a o):uw P w (jY H a o) h:=λb u e=>by
 by_cases f:b=a
 .subst f;rw[ig]at e;cases e;exact new
 .rw[ie f]at e;refine (ok b u e).stay (λ_ _ _ q=>q) (λc q=>?_) λc g q=>?_
  .rw[ie (i7 q d)];exact q
  .rw[ie (i7 q d)];exact q
end
def iE.track(I:iE X gO σ H s)(d:H a=none)(j:a∈X.ex\/X.s₀.heap.objs.size<=a)
  (i:a≠X.env.locals) (h:∀x c,X.env.cells.lookup x=some c->c≠a) (g:∀p∈X.pn++gO,p.1≠a) (new:l6 X.prog X.w (jY H a o) s.heap a o):iE X gO σ (jY H a o) s:=by
 have J:=I.step (t':=s.toks) (d':=s.drawn) (ch:=[a])
  (λb f=>by
   have e:b=a:=by simpa using f
   subst e;exact⟨j,i,h,g⟩)
  (λ_ _ _ _ _ e _=>e) (λ_ u _ _ _ e _=>⟨u.slots,e⟩)
  (λb u f _ n=>by rw[ie (by simpa using f)];exact n)
  (λ_ u _ e=>⟨u,e⟩)
  (λb l q=>by rw[ie (i7 q d)];exact q)
  (λb u v q=>by rw[ie (i7 q d)];exact q)
  (λb _ k q=>⟨#[],by rw[ie (i7 q d),q];simp⟩)
  (λ_ q=>q) (I.hok.track d new) I.bare
 exact J
noncomputable def oE(a:Env):List (Str×NameKind)->List (Str×Addr)->List (Str×Addr)
 |[],acc=>acc
 | (n,k)::r,acc=>if k==NameKind.free then (match a.cells.lookup n with
  |some c=>oE a r ((n,c)::acc)
  |none=>oE a r acc) else oE a r acc
def uB(h:∀y∈scope.names,y.2=.free->∃c,env.cells.lookup y.1=some c):closureFor scope env=pure (oE env scope.names []):=by
 have all:∀(l:List (Str×NameKind)) b,(∀y∈l,y.2=.free->∃c,env.cells.lookup y.1=some c)->
   (forIn l b λx cs=>(if (x.2==NameKind.free)=true then (do
    let a <-cellOf env x.1
    pure (ForInStep.yield ((x.1,a)::cs))) else pure (ForInStep.yield cs):Sem _))=pure (oE env l b):=by
  intro l;induction l with
  |nil=>intro b _;rfl
  |cons y r ih=>
   intro b g;obtain⟨n,k⟩:=y;rw[List.forIn_cons];by_cases f:(k==NameKind.free)=true
   .obtain⟨c,m⟩:=g (n,k) bx (by simpa using f);have d:=m;have e:cellOf env n=pure c:=by unfold cellOf;rw[d]
    simp only[f,if_true,e,pure_bind];rw[ih _ λy j=>g y (bz _ j)];show pure (oE env r ((n,c)::b))=pure (if (k==NameKind.free)=true then (match env.cells.lookup n with
     |some c=>oE env r ((n,c)::b)
     |none=>oE env r b) else oE env r b)
    rw[aQ f,d]
   .have i:(k==NameKind.free)=false:=by simpa using f
    simp only[i,cj,if_false,pure_bind];rw[ih _ λy j=>g y (bz _ j)];show pure (oE env r b)=pure (if (k==NameKind.free)=true then (match env.cells.lookup n with
     |some c=>oE env r ((n,c)::b)
     |none=>oE env r b) else oE env r b)
    rw[aR f]
 have:=all scope.names [] h;unfold closureFor;simp only[pure_bind,bind_pure]at this ⊢;exact this
theorem n5:∀{l} {acc},(∀y d,acc.lookup y=some d->env.cells.lookup y=some d)->(oE env l acc).lookup x=some c->env.cells.lookup x=some c
 |[],acc,ha,h=>ha x c h
 | (n,k)::r,acc,ha,h=>by
  unfold oE at h;by_cases hk:(k==NameKind.free)=true
  .rw[aQ hk]at h;cases e:env.cells.lookup n with
   |none=>rw[e]at h;exact n5 ha h
   |some d=>
    rw[e]at h;refine n5 (λy d' hy=>?_) h;rw[cm]at hy;cases q:y==n with
    |true=>rw[q]at hy;cases hy;rw[beq_iff_eq.mp q];exact e
    |false=>rw[q]at hy;exact ha y d' hy
  .rw[aR hk]at h;exact n5 ha h
theorem ud:∀{l} {acc},(∃c,acc.lookup x=some c)->∃c,(oE env l acc).lookup x=some c
 |[],_,h=>h
 | (n,k)::r,acc,h=>by
  unfold oE;by_cases a:(k==NameKind.free)=true
  .rw[aQ a];cases e:env.cells.lookup n with
   |none=>exact ud h
   |some d=>
    refine ud ?_;rw[cm];cases q:x==n with
    |true=>exact⟨d,rfl⟩
    |false=>exact h
  .rw[aR a];exact ud h
theorem q9:∀{l} {acc},(x,NameKind.free)∈l->(∃c,env.cells.lookup x=some c)->∃c,(oE env l acc).lookup x=some c
 | (n,k)::r,acc,hm,hc=>by
  rcases aF.mp hm with e|hm
  .cases e;obtain⟨c,hc⟩:=hc;unfold oE;rw[aQ (by rfl),hc];refine ud ⟨c,?_⟩;rw[cm,beq_self_eq_true]
  .unfold oE;by_cases hk:(k==NameKind.free)=true
   .rw[aQ hk];cases env.cells.lookup n with
    |none=>exact q9 hm hc
    |some d=>exact q9 hm hc
   .rw[aR hk];exact q9 hm hc
def vv(h:(relabel scope env).names.lookup x=some .cell\/(relabel scope env).names.lookup x=some .free):(x,NameKind.free)∈scope.names\/scope.names.lookup x=some .cell:=by
 have all:∀(l:List (Str×NameKind)),∀k,(k=NameKind.cell\/k=NameKind.free)->
   (l.map λ(n,k)=>if (k==NameKind.free&&env.scope.kind==.function&&env.kindOf n==some .cell) then (n,NameKind.cell) else (n,k)).lookup x=some k->(x,NameKind.free)∈l\/l.lookup x=some .cell:=by
  intro l;induction l with
  |nil=>intro k _ h;simp at h
  |cons y r ih=>
   intro k c h;obtain⟨n,b⟩:=y;rw[bI]at h;by_cases a:(b==NameKind.free&&env.scope.kind==.function&&env.kindOf n==some .cell)=true
   .have d:b=.free:=by simp only[bV,beq_iff_eq]at a;exact a.1.1
    simp only[a,if_true]at h;rw[cm]at h;cases q:x==n with
    |true=>rw[d,beq_iff_eq.mp q];exact .inl bx
    |false=>
     rw[q]at h;rcases ih k c h with z|z
     .exact .inl (bz _ z)
     .exact .inr (by rw[cm,q];exact z)
   .simp only[a,cj,if_false]at h;rw[cm]at h;cases q:x==n with
    |true=>
     rw[q]at h;have e:b=k:=by simpa using h
     rcases c with rfl|rfl
     .exact .inr (by rw[cm,q,e])
     .rw[e,beq_iff_eq.mp q];exact .inl bx
    |false=>
     rw[q]at h;rcases ih k c h with z|z
     .exact .inl (bz _ z)
     .exact .inr (by rw[cm,q];exact z)
 rcases h with h|h
 .exact all scope.names _ (.inl rfl) h
 .exact all scope.names _ (.inr rfl) h
def Cp(h:scope.names.lookup x=some .free):(relabel scope env).names.lookup x=some .cell\/(relabel scope env).names.lookup x=some .free:=by
 have all:∀(l:List (Str×NameKind)),l.lookup x=some .free->
   (l.map λ(n,k)=>if (k==NameKind.free&&env.scope.kind==.function&&env.kindOf n==some .cell) then (n,NameKind.cell) else (n,k)).lookup x=some .cell\/
   (l.map λ(n,k)=>if (k==NameKind.free&&env.scope.kind==.function&&env.kindOf n==some .cell) then (n,NameKind.cell) else (n,k)).lookup x=some .free:=by
  intro l;induction l with
  |nil=>intro h;simp at h
  |cons y r ih=>
   intro h;obtain⟨n,k⟩:=y;rw[bI];rw[cm]at h;cases q:x==n with
   |true=>
    rw[q]at h;have b:k=.free:=by simpa using h
    by_cases a:(k==NameKind.free&&env.scope.kind==.function&&env.kindOf n==some .cell)=true
    .refine .inl ?_;simp only[a,if_true];rw[cm,q]
    .refine .inr ?_;simp only[a,cj,if_false];rw[cm,q,b]
   |false=>
    rw[q]at h;by_cases a:(k==NameKind.free&&env.scope.kind==.function&&env.kindOf n==some .cell)=true
    .simp only[a,if_true];rw[cm,q];exact ih h
    .simp only[a,cj,if_false];rw[cm,q];exact ih h
 exact all scope.names h
def ID(X:Cx)(b:List Expr)(t:TT):Prop:=
 ∀(d:List (Addr×Obj)) (s:Shared) (a:St) (H:Hp) (Q:Bool->Hp->Prop),iE X d a H s->t a H Q->
  wpAny (model X.prog X.w) X.A (forIn b true λc r=>if r=true then do let ok <-isTrue c X.env (eval c X.env);pure (ForInStep.yield ok) else pure (ForInStep.yield r)) (TP X d a Q) X.xe s
def RV:TT:=λ_ H Q=>Q true H
def NR:ID X [] RV:=λ_ _ _ H _ I h=>wpAny_tests_nil ⟨H,I,h⟩
def PD(d:PT X c t):ID X [c] t:=λa s b H Q I h=>wpAny_tests_one (d a s b H Q I h)
theorem pP:∀a k b,(cellsFrom k a b).lookup x=some c->b.lookup x=some c\/(k<=c/\(x,NameKind.cell)∈a)
 |[],_,_,h=>.inl h
 | (n,kd)::r,k,b,h=>by
  unfold cellsFrom at h;split at h
  .rename_i d;rcases pP r _ _ h with q|⟨q,m⟩
   .rw[cm]at q;cases hb:x==n with
    |true=>rw[hb]at q;cases q;refine .inr ⟨aK _,?_⟩;rw[beq_iff_eq.mp hb,beq_iff_eq.mp d];exact bx
    |false=>rw[hb]at q;exact .inl q
   .exact .inr ⟨cq q,bz _ m⟩
  .rcases pP r _ _ h with q|⟨q,m⟩
   .exact .inl q
   .exact .inr ⟨q,bz _ m⟩
theorem om:∀a k b,(x,NameKind.cell)∉a->(cellsFrom k a b).lookup x=b.lookup x
 |[],_,_,_=>rfl
 | (n,kd)::r,k,b,h=>by
  unfold cellsFrom;have hr:(x,NameKind.cell)∉r:=λz=>h (bz _ z);split
  .rename_i d;rw[om r _ _ hr,cm];cases c:x==n with
   |true=>exact absurd (by rw[beq_iff_eq.mp c,beq_iff_eq.mp d];exact bx) h
   |false=>rfl
  .exact om r _ _ hr
theorem qB:∀a k b,(x,NameKind.cell)∈a->(cellsFrom k a b).lookup x=some c->k<=c
 |[],_,_,h,_=>nomatch h
 | (n,kd)::r,k,b,h,e=>by
  unfold cellsFrom at e;by_cases hr:(x,NameKind.cell)∈r
  .split at e
   .exact cq (qB r _ _ hr e)
   .exact qB r _ _ hr e
  .rcases aF.mp h with q|q
   .cases q;rw[aQ (by rfl),om r _ _ hr,cm,beq_self_eq_true]at e;cases e;exact aK _
   .exact absurd q hr
theorem qH:∀d k a,(∀x y c,a.lookup x=some c->a.lookup y=some c->x=y)->(∀x c,a.lookup x=some c->c<k)->
  ∀x y c,(cellsFrom k d a).lookup x=some c->(cellsFrom k d a).lookup y=some c->x=y
 |[],_,_,h,_=>h
 | (n,kd)::r,k,a,h,hl=>by
  unfold cellsFrom;split
  .refine qH r (k+1) ((n,k)::a) (λx y c b e=>?_) λx c b=>?_
   .rw[cm]at b e;cases f:x==n with
    |true=>
     cases g:y==n with
     |true=>rw[beq_iff_eq.mp f,beq_iff_eq.mp g]
     |false=>rw[f]at b;rw[g]at e;cases b;exact absurd (hl _ _ e) (a9 _)
    |false=>
     rw[f]at b;cases g:y==n with
     |true=>rw[g]at e;cases e;exact absurd (hl _ _ b) (a9 _)
     |false=>rw[g]at e;exact h x y c b e
   .rw[cm]at b;cases f:x==n with
    |true=>rw[f]at b;cases b;exact bK _
    |false=>rw[f]at b;exact cu (hl x c b)
  .exact qH r k a h hl
theorem pI:∀a h b,(cellsFrom h.objs.size a b).lookup x=some c->b.lookup x=some c\/(h.objs.size<=c/\(pushCells h a).IsCell c none)
 |[],_,_,e=>.inl e
 | (n,kd)::r,h,b,e=>by
  unfold cellsFrom at e;unfold pushCells;split at e
  .rename_i d;rw[aQ d];have g:(cellsFrom (h.push {cls:=.type "cell",data:=.cell none}).objs.size r ((n,h.objs.size)::b)).lookup x=some c:=by rw[Heap.size_push];exact e
   rcases pI r _ _ g with q|⟨q,m⟩
   .rw[cm]at q;cases f:x==n with
    |true=>rw[f]at q;cases q;exact .inr ⟨aK _,_,pushCells_keeps r _ _ _ (ar _ rfl),rfl⟩
    |false=>rw[f]at q;exact .inl q
   .rw[Heap.size_push]at q;exact .inr ⟨cq q,m⟩
  .rename_i d;rw[aR d];exact pI r _ _ e
def xA{M:Model}{A:Around}{E:Value->Shared->Prop}{s:Shared}{a:Scope}{globals:Addr}{closure:List (Str×Addr)}{d:Str}{c:Option Addr}{e:Value}{b:Env}{builtins:Addr}{Q:Env->Shared->Prop}
  (j:Q (newEnv a s.heap.objs.size globals (cellsFrom (s.heap.objs.size+1) a.names closure) d c e (some b) builtins) {s with heap:=pushCells (s.heap.push {cls:=.type "dict",data:=.dict #[]}) a.names}) :
  wpAny M A (newFunctionEnv a globals closure [] d c e (some b) builtins) Q E s:=by
 simp only[newFunctionEnv,cv,if_true];refine ao (wpAny_alloc ?_);refine ao (wpAny_layCells _ (λi f h=>by cases g:f==NameKind.cell<;>simp[g]) _ _ _ _ ?_);rw[show ({s with heap:=s.heap.push {cls:=.type "dict",data:=.dict #[]}}:Shared).heap.objs.size=s.heap.objs.size+1 from Heap.size_push ..];rw[List.forIn_nil];exact ao (ak (ak j))
noncomputable def oS(X:Cx)(N:List Str)(a:Scope)(C:Addr)(b:Shared)(H:Hp)(ex:List Addr)(pn:List (Addr×Obj)):Cx:={X with N:=N,s₀:=b,H₀:=H,env:=compEnvC a (cellsFrom (C+1) a.names (oE X.env a.names [])) C X.env,outer:=X.stack,ex:=ex,fn:=λx=>a.names.lookup x==some .cell,pn:=pn,xe:=λ_ _=>False}
noncomputable def pull(b:List (Option Nat))(a:St):St:=b.map fun
 |none=>none
 |some j=>(a[j]?).getD none
def Wy(J:It)(l:List (Option Nat))(g:TG)(n:TT)(o:TE)(h:St)(p:Hp)(Q:VK):Prop:=∃W:Nat->Nat->List V->Hp->Prop,(∃m,W 0 m [] p)/\∀i m d H,W i m d H->
 (J.stop i H/\∀D,H D=none->Q (.ref D) (jY H D (.lst d)))\/
 (J.go i H/\d.length<sizeLine/\∀x f,J.yld i H x f->g x (pull l h) f λa j=>n a j λb e=>if b=true then o a e λy k=>∃c,c<m/\W (i+1) c (d++[y]) k else ∃c,c<m/\W (i+1) c d e)
def Lg(c:List (Option Nat))(f:TI)(g:TG)(b:TT)(d:TE):TE:=λa H Q=>f a H λJ e=>Wy J c g b d a e Q
end L2
namespace L2
open PySem PySem.Spec PyProof.Rows
section
variable {prog:Program}{w:World}{A:Around}{R:Result->Shared->Prop}{s:Shared}
theorem Cv{q F j:Expr}{p:List Expr}{d:Scope}{pos:Pos}{it u:Value}{a:Env}(J:Nat->Shared->Prop)
  (D:∀n s,J n s->wpAny (model prog w) A (pyNext it) (λr e=>match r with
   |none=>R (.ok .next) e
   |some v=>wpAny (model prog w) A (letOwnedTupleGo F it v) (λ_ i=>wpAny (model prog w) A (assign F a v) (λ_ k=>
     wpAny (model prog w) A (forIn p true λc r=>if r=true then do let ok <-isTrue c a (eval c a);pure (ForInStep.yield ok) else pure (ForInStep.yield r)) (λok b=>
      if ok=true then wpAny (model prog w) A (eval q a) (λx f=>wpAny (model prog w) A (call (.builtin "list.append") [u,x]) (λ_ g=>∃m,m<n/\J m g) (λ_ _=>False) f) (λ_ _=>False) b
      else ∃m,m<n/\J m b) (λ_ _=>False) k) (λ_ _=>False) i) (λ_ _=>False) e) (λ_ _=>False) s)
  (n:Nat) (h:J n s):codeAny (model prog w) A (.compLoop (.ListComp q [⟨F,j,p,0⟩] d pos) 0 it u a) R s:=by
 refine codeAny_loop rfl J (λn s H=>?_) n h;show wpAny _ A ((compTurn (.ListComp q [⟨F,j,p,0⟩] d pos) 0 it u a).onRaise (λx=>do noteFrame x a;theTreesLotGoes x)) _ _ s;refine wpAny_noted ?_;rw[compTurn_list];refine ao (wpAny_standAt (ao (wpAny_mono (D n s H) (λr e l=>?_) λ_ _ z=>z.elim)));cases r with
 |none=>exact ak l
 |some v=>
  refine ao (wpAny_mono l (λ_ i E=>?_) λ_ _ z=>z.elim);refine ao (wpAny_mono E (λ_ k y=>ao (wpAny_mono y (λok b o=>?_) λ_ _ z=>z.elim)) λ_ _ z=>z.elim);cases ok with
  |false=>exact ak ⟨rfl,o⟩
  |true=>exact ao (ao (wpAny_mono o (λx f B=>ao (wpAny_mono B (λ_ g C=>ak (ak ⟨rfl,C⟩)) λ_ _ z=>z.elim)) λ_ _ z=>z.elim))
end
def rS(c:List (Option Nat))(g:TG):Prop:=∀x a H Q,g x a H Q->g x a H λb d=>(∀i j:Nat,c[i]? = some (some j)->b[i]? = a[i]?)/\Q b d
def An(b:ix[k]? = some none):rS ix (lN k):=λx a H Q h=>by
 refine⟨λi j e=>?_,h⟩;have:k≠i:=by rintro rfl;rw[b]at e;cases e
 rw[aq this]
abbrev AC(us:List Value):Obj:={cls:=.type "list",data:=.seq us.toArray us.length}
section
variable {X:Cx}{tg elt iter:Expr}{ifs:List Expr}{scope:Scope}{pos:Pos}{N:List Str}{ix:List (Option Nat)}{wi:TI}{g:TG}{tt:TT}{te:TE}
structure DM(X:Cx)(scope:Scope)(N:List Str)(ix:List (Option Nat)):Prop where
 kind:scope.kind=.function
 sep:∀y∈scope.names,y.2=.cell->scope.names.lookup y.1=some .cell
 names:∀y∈scope.names,y.2=.local->scope.names.lookup y.1=some .local
 fre:∀y∈scope.names,y.2=.free->∃c,X.env.cells.lookup y.1=some c
 len:N.length=ix.length
 ix:∀(i j:Nat) (x:Str),N[i]? = some x->ix[i]? = some (some j)->X.N[j]? = some x/\scope.names.lookup x=some .free/\U3 X.env.scope x/\X.env.kindOf x≠some .local
def UJ(L:DM X scope N ix)(I:iE X gO σ H s)(f:∀b∈fp,uO X gO H b)(i:∀b∈fp,b<s.heap.objs.size) o :
  (oS X N scope (s.heap.objs.size+1) {s with heap:=s.heap.push o} H (s.heap.objs.size::fp) (X.pn++gO)).Ok:=by
 have r:iE X gO σ H {s with heap:=s.heap.push o}:=I.kept λb u e=>ae _ e;have sound0:∀x c,(oE X.env scope.names []).lookup x=some c->X.env.cells.lookup x=some c:=λx c e=>n5 (λy d z=>by simp at z) e;have cellLt:∀x c,X.env.cells.lookup x=some c->c<s.heap.objs.size:=λx c e=>let ⟨_,q⟩:=I.cell x c e;q.lt;have h:∀x c,(cellsFrom (s.heap.objs.size+1+1) scope.names (oE X.env scope.names [])).lookup x=some c->X.env.cells.lookup x=some c\/s.heap.objs.size+1+1<=c:=λx c e=>by
  rcases pP _ _ _ e with q|⟨q,_⟩
  .exact .inl (sound0 x c q)
  .exact .inr q
 refine⟨I.ok.mod,L.kind,I.ok.glob,I.ok.blt,?_,qH _ _ _ (λx y c j m=>I.ok.inj x y c (sound0 x c j) (sound0 y c m)) (λx c j=>cu (cu (cellLt x c (sound0 x c j)))),λx v=>?_,λx c j m=>?_,I.ok.hd,I.ok.frames,.inl rfl,λb a=>?_,λb u e=>?_,?_,λb u e a=>?_,λb a=>?_,r.stack,I.stkFree,I.tab⟩
 .show (s.heap.push o).objs.size<=s.heap.objs.size+1;rw[Heap.size_push];exact aK _
 .refine bQ.mp (W.cellsFrom_some _ _ _ ?_);rcases vv v with k|k
  .exact .inr (bQ.mpr (q9 k (L.fre _ k rfl)))
  .exact .inl k
 .have l:(scope.names.lookup x==some .cell)=true:=j;have w:scope.names.lookup x=some .cell:=by simpa using l
  show (s.heap.push o).objs.size<=c;rw[Heap.size_push];exact cq (qB _ _ _ (PySem.mem_of_lookup w) m)
 .rcases aF.mp a with rfl|a
  .refine⟨aM (bK _),λx c e z=>?_⟩;rcases h x c e with q|q
   .exact absurd (cellLt x c q) (by rw[z];exact a9 _)
   .rw[z]at q;omega
  .refine⟨aM (cu (i b a)),λx c e=>?_⟩;rcases h x c e with q|q
   .exact (f b a).2.2.2.2.1 x c q
   .intro z;rw[z]at q;exact absurd (aN (cw _ 2) q) (Nat.not_le.mpr (i b a))
 .exact⟨ae _ (I.bs b u e).1,(I.bs b u e).2⟩
 .show X.base.objs.size<=(s.heap.push o).objs.size;rw[Heap.size_push];exact cx (aN I.ok.bsz I.sz)
 .have n:=aL (I.bs b u e).1;rcases aF.mp a with rfl|a
  .exact a9 _ n
  .rcases (f b a).2.2.2.1 with z|z
   .exact I.ok.noex b u e z
   .exact absurd (aE (aL e) (aN I.ok.bsz z)) (a9 _)
 .intro z;have p:=I.stkSub b z;rcases aF.mp a with rfl|a
  .rcases aF.mp p with q|q
   .exact absurd I.lt (by rw[<-q];exact a9 _)
   .exact I.nofs (aK _) q
  .rcases aF.mp p with q|q
   .exact (f b a).2.1 q
   .exact (f b a).2.2.1 q
end
end L2
namespace L2
open PySem PySem.Spec PyProof.Rows
section
variable {X:Cx}{tg elt iter:Expr}{ifs:List Expr}{scope:Scope}{pos:Pos}{N:List Str}{ix:List (Option Nat)}{wi:TI}{g:TG}{tt:TT}{te:TE}
def Ea{i:Nat}(h:(pull ix σ)[i]? = some (some v)):∃j,ix[i]? = some (some j)/\σ[j]? = some (some v):=by
 unfold pull at h;rw[av]at h;cases e:ix[i]? with
 |none=>rw[e]at h;cases h
 |some k=>
  rw[e]at h;cases k with
  |none=>cases h
  |some j=>
   refine⟨j,rfl,?_⟩;have a:(σ[j]?).getD none=some v:=by simpa using h
   cases q:σ[j]? with
   |none=>rw[q]at a;cases a
   |some z=>rw[q]at a;simpa using a
theorem HH{RR:Value->Addr->Result->Shared->Prop}{Q:VK}{W:Nat->Nat->List V->Hp->Prop}
  (hc:X.calm=true) (L:DM X scope N ix) (hgk:rS ix g)
  (blk:∀C P H ex pn,PG (oS X N scope C P H ex pn) tg g/\ID (oS X N scope C P H ex pn) ifs tt/\PE (oS X N scope C P H ex pn) elt te)
  (l:iE X gO σ H2 s2) (T:Et X.prog X.w X.K tg J fp it tn) (st2:tn 0 s2.heap) (f2:∀b∈fp,uO X gO H2 b) (w0:W 0 m0 [] H2)
  (turn:∀i m Y H,W i m Y H->(J.stop i H/\∀D,H D=none->Q (.ref D) (jY H D (.lst Y)))\/
   (J.go i H/\Y.length<sizeLine/\∀x s,J.yld i H x s->g x (pull ix σ) s λσ2 H2=>tt σ2 H2 λb H3=>if b=true then te σ2 H3 λy H4=>∃m',m'<m/\W (i+1) m' (Y++[y]) H4 else ∃m',m'<m/\W (i+1) m' Y H3))
  (fin:∀D C m s Z,Z.heap.Ns C m->uO X gO s C->iE X gO σ s Z->Q (.ref D) s->RR (.ref D) C (.ok .next) Z) :
  wpAny (model X.prog X.w) X.A (newList []) (λacc P=>wpAny (model X.prog X.w) X.A (newFunctionEnv scope X.env.globals (oE X.env scope.names []) [] X.env.qual none .none (some X.env)) (λcenv s₄=>codeAny (model X.prog X.w) X.A (.compStart (.ListComp elt [⟨tg,iter,ifs,0⟩] scope pos) 0 (.ref it) acc {cenv with scope:=relabel scope X.env}) (RR acc cenv.locals) s₄) E P) E s2:=by
 refine wpAny_newObj_type (xA ?_);have hCs:(s2.heap.push {cls:=.type "list",dict:=none,data:=.seq ([]).toArray}).objs.size=s2.heap.objs.size+1:=Heap.size_push ..;generalize S:pushCells ((s2.heap.push {cls:=.type "list",dict:=none,data:=.seq ([]).toArray}).push {cls:=.type "dict",data:=.dict #[]}) scope.names=h₁;rw[hCs];have hns₁:h₁.Ns (s2.heap.objs.size+1) (λ_=>none):=by rw[<-S,<-hCs];exact (Heap.Ns.new _ _).keeps (pushCells_keeps _ _)
 have U:∀x c,(cellsFrom (s2.heap.objs.size+1+1) scope.names (oE X.env scope.names [])).lookup x=some c->X.env.cells.lookup x=some c\/(s2.heap.objs.size+1+1<=c/\h₁.IsCell c none):=λx c e=>by
  have hs3:((s2.heap.push {cls:=.type "list",dict:=none,data:=.seq ([]).toArray}).push {cls:=.type "dict",data:=.dict #[]}).objs.size=s2.heap.objs.size+1+1:=by rw[Heap.size_push,hCs]
  rw[<-hs3]at e;rcases pI _ _ _ e with q|⟨q,m⟩
  .exact .inl (n5 (λy d z=>by simp at z) q)
  .rw[hs3]at q;rw[S]at m;exact .inr ⟨q,m⟩
 have fpObj:=T.obj 0 _ st2;have hlt:∀b∈fp,b<s2.heap.objs.size:=λb h=>let ⟨_,e,_⟩:=fpObj b h;aL e;have ok:=UJ L l f2 hlt {cls:=.type "list",dict:=none,data:=.seq ([]).toArray};have DC:s2.heap.objs.size≠s2.heap.objs.size+1:=aM (bK _);have hold:∀b o,(s2.heap.push {cls:=.type "list",dict:=none,data:=.seq ([]).toArray}).get? b=some o->h₁.get? b=some o:=λb o e=>by rw[<-S];exact pushCells_keeps _ _ _ _ (ae _ e)
 have old:∀b o,s2.heap.get? b=some o->h₁.get? b=some o:=λb o e=>hold b o (ae _ e);have sound:∀x c,(oE X.env scope.names []).lookup x=some c->X.env.cells.lookup x=some c:=λx c e=>n5 (λy d z=>by simp at z) e;have cellLt:∀x c,X.env.cells.lookup x=some c->c<s2.heap.objs.size:=λx c e=>let ⟨_,q⟩:=l.cell x c e;q.lt;have hDn:=l.hok.fresh (aK _);have hCn:=l.hok.fresh (bN _);have F:∀p∈X.pn++gO,p.1<s2.heap.objs.size:=λp f=>aL (l.pin p f).1;have hDfs:s2.heap.objs.size∉Iy X.stack:=λz=>by
  rcases aF.mp (l.stkSub _ z) with q|q
  .exact absurd l.lt (by rw[<-q];exact a9 _)
  .exact l.nofs (aK _) q
 have I':iE (oS X N scope (s2.heap.objs.size+1) {s2 with heap:=s2.heap.push {cls:=.type "list",dict:=none,data:=.seq ([]).toArray}} H2 (s2.heap.objs.size::fp) (X.pn++gO))
   [(s2.heap.objs.size,AC [])] (pull ix σ) H2 {s2 with heap:=h₁,toks:=s2.toks}:=by
  refine⟨ok,rfl,l.bare,Un.kept hold,⟨_,hns₁,λi x v h1 h2 h3=>?_⟩,λx c e=>?_,hCn,λx c e=>?_,λp f=>?_,l.hok.kept old,?_⟩
  .obtain⟨j,ej,es⟩:=Ea h2;obtain⟨q1,q2,q3,q4⟩:=L.ix i j x h1 ej;obtain⟨m,_,hl⟩:=l.loc;obtain⟨u,r,lk⟩:=hl j x v q1 es q3;refine⟨u,r,?_⟩;rcases lk with⟨k,_⟩|⟨k,c,hcl,hv⟩
   .exact absurd k q4
   .obtain⟨c',hc'⟩:=q9 (PySem.mem_of_lookup q2) ⟨c,hcl⟩;have:=sound x c' hc';rw[hcl]at this;cases this;have hnc:(x,NameKind.cell)∉scope.names:=λz=>by have:=L.sep _ z rfl;rw[q2]at this;cases this
    refine .inr ⟨?_,c,(om _ _ _ hnc).trans hc',let ⟨ob,ho,hd⟩:=hv;⟨ob,old c ob ho,hd⟩⟩;exact Cp q2
  .rcases U x c e with q|⟨_,q⟩
   .obtain⟨v,ob,ho,hd⟩:=l.cell x c q;exact⟨v,ob,old c ob ho,hd⟩
   .exact⟨none,q⟩
  .rcases U x c e with q|⟨q,_⟩
   .exact l.freeC x c q
   .exact l.hok.fresh (aN (cw _ 2) q)
  .rcases ai.mp f with f|f
   .obtain⟨e,n,ne,nf,d⟩:=l.pin p f;refine⟨old _ _ e,n,aM (cu (F p f)),λz=>?_,d⟩;rcases aF.mp (l.stkSub _ z) with q|q
    .exact ne q
    .exact nf q
   .have e:p=(s2.heap.objs.size,AC []):=by simpa using f
    subst e;exact⟨hold _ _ (ar _ rfl),hDn,DC,hDfs,λv z=>by cases z⟩
  .unfold pull;rw[aw];exact L.len.symm
 generalize a:oS X N scope (s2.heap.objs.size+1) {s2 with heap:=s2.heap.push {cls:=.type "list",dict:=none,data:=.seq ([]).toArray}} H2 (s2.heap.objs.size::fp) (X.pn++gO)=X' at I';obtain⟨hg,hif,he⟩:=blk (s2.heap.objs.size+1) {s2 with heap:=s2.heap.push {cls:=.type "list",dict:=none,data:=.seq ([]).toArray}} H2 (s2.heap.objs.size::fp) (X.pn++gO);rw[a]at hg hif he;have stat:∀{s:Hp} {R:List Value},(∀b∈fp,s b=none)->∀b∈fp,uO X' [(s2.heap.objs.size,AC R)] s b:=λ{s R} hn b h=>by
  subst a;obtain⟨_,f1,f2',f3,f4,f5⟩:=f2 b h;refine⟨hn b h,aM (cu (hlt b h)),λz=>?_,.inl (bz _ h),λx c e=>?_,λp f=>?_⟩
  .rcases aF.mp (l.stkSub _ z) with q|q
   .exact f1 q
   .exact f2' q
  .rcases U x c e with q|⟨q,_⟩
   .exact f4 x c q
   .intro z;rw[z]at q;exact absurd (aN (cw _ 2) q) (Nat.not_le.mpr (hlt b h))
  .rcases ai.mp f with f|f
   .exact f5 p f
   .have e:p=(s2.heap.objs.size,AC R):=by simpa using f
    subst e;exact Ne.symm (aM (hlt b h))
 have loop:codeAny (model X.prog X.w) X.A (.compLoop (.ListComp elt [⟨tg,iter,ifs,0⟩] scope pos) 0 (.ref it) (.ref s2.heap.objs.size) X'.env) (RR (.ref s2.heap.objs.size) (s2.heap.objs.size+1))
   {s2 with heap:=h₁,toks:=s2.toks}:=by
  refine Cv (λn Z=>∃i Y R s,iE X' [(s2.heap.objs.size,AC R)] (pull ix σ) s Z/\ji Y R/\Y.length<=sizeLine/\tn i Z.heap/\(∀b∈fp,s b=none)/\W i n Y s) ?_ m0
   ⟨0,[],[],H2,I',.nil,bL _,T.keep _ _ _ st2 λb _ o e=>old b o e,λb h=>(f2 b h).1,w0⟩
  rintro n s3 ⟨i,Y,R,H3,I3,rv,hz,st3,fr3,w3⟩;have hcX:X'.calm=true:=by subst a;exact hc
  have hA:X'.A=X.A:=by subst a;rfl
  rcases turn i n Y H3 w3 with⟨stop,qn⟩|⟨go,mO,step⟩
  .have hd:=T.done X' (by subst a;rfl) (by subst a;rfl) (by subst a;rfl) hcX i _ s3 _ H3 (λ_ _=>False) I3 (stat fr3) st3 stop;rw[hA]at hd;refine lC hd λr s4 ⟨hr,I4⟩=>?_;subst hr;subst a;obtain⟨m,hn,_⟩:=I4.loc;have hD3:=I4.pin (s2.heap.objs.size,AC R) (bF _ bx);have u1:Un (Iy X.stack) fp H2 H3 s2.heap s4.heap:=by
    have B:=I4.base;have nD:∀b o,s2.heap.get? b=some o->b∉fp->b∉s2.heap.objs.size::fp:=λb o e h z=>by
     rcases aF.mp z with q|q
     .exact absurd (aL e) (by rw[q];exact a9 _)
     .exact h q
    exact⟨λb o e n h hx=>B.keep b o (ae _ e) n h (nD b o e hx),λb o e n h hx=>B.slot b o (ae _ e) n h (nD b o e hx),
     λb o e n hx=>B.free b o (ae _ e) n (nD b o e hx),λb o e hx=>B.there b o (ae _ e) (nD b o e hx),B.tups,B.frzs,B.tbls⟩
   have I5:=l.call' I4.os u1 I4.hok I4.bare λb h=>let ⟨_,f1,_,f3,f4,f5⟩:=f2 b h;⟨f3,f1,f4,f5⟩;have I6:iE X gO σ (jY H3 s2.heap.objs.size (.lst Y)) s4:=I5.track hD3.2.1 (.inr l.sz) (Ne.symm (aM l.lt)) (λx c e z=>absurd (cellLt x c e) (by rw[z];exact a9 _))
    (λp f=>aM (F p f)) ⟨hz,R,R.length,rv,hD3.1⟩
   refine fin _ _ m _ s4 hn ⟨?_,?_,?_,.inr (cx l.sz),λx c e z=>?_,λp f=>?_⟩ I6 (qn _ hD3.2.1)
   .rw[ie (Ne.symm DC)];exact I4.free
   .exact Ne.symm (aM (cu l.lt))
   .exact l.nofs (bN _)
   .exact absurd (cellLt x c e) (by rw[z];exact Nat.not_lt.mpr (bN _))
   .exact aM (cu (F p f))
  .have hd:=T.item X' (by subst a;rfl) (by subst a;rfl) (by subst a;rfl) hcX i _ s3 _ H3 (λ_ _=>False) I3 (stat fr3) st3 go;rw[hA]at hd;refine lC hd λr s4 ⟨u,hr,h4⟩=>?_;subst hr;refine lC h4 λ_ s5 ⟨x,H5,I5,r5,y5,st5,fr5⟩=>?_;have I5':=I5.pinned (stat fr5) (T.obj _ _ st5);have hM:model X'.prog X'.w=model X.prog X.w:=by subst a;rfl
   have hE:X'.xe=λ_ _=>False:=by subst a;rfl
   have a6:=hg _ s5 _ H5 x u _ I5' r5 (hgk x _ H5 _ (step x H5 y5));rw[hM,hA,hE]at a6;refine lC a6 λ_ s6 ⟨σ6,H6,I6,agr,q6⟩=>?_;have a7:=hif _ s6 σ6 H6 _ I6 q6;rw[hM,hA,hE]at a7;refine lC a7 λok s7 ⟨H7,I7,q7⟩=>?_;have back:∀{Z:Shared} {s:Hp} {pl:List (Addr×Obj)},iE X' pl σ6 s Z->iE X' pl (pull ix σ) s Z:=λ{Z s pl} I=>by
    refine I.weak ?_ λk v e=>?_
    .have e1:=I.len;have e2:=I3.len;rw[e1,e2]
    .obtain⟨j,ej,_⟩:=Ea e;rw[agr k j ej];exact e
   have held:∀{Z:Shared} {s:Hp},iE X' ([(s2.heap.objs.size,AC R)]++zy fp s5.heap) σ6 s Z->tn (i+1) Z.heap/\∀b∈fp,s b=none:=λ{Z s} I=>by refine⟨T.keep _ _ _ st5 λb h o e=>(I.pin (b,o) (bF _ (bF _ (rM h e)))).1,λb h=>?_⟩;obtain⟨o,e,_⟩:=T.obj _ _ st5 b h;exact (I.pin (b,o) (bF _ (bF _ (rM h e)))).2.1
   cases ok with
   |false=>rw[aR aH]at q7 ⊢;obtain⟨m',hm,w7⟩:=q7;obtain⟨k1,k2⟩:=held I7;exact⟨m',hm,i+1,Y,R,H7,(back I7).unpinned,rv,hz,k1,k2,w7⟩
   |true=>
    rw[aQ rfl]at q7 ⊢;have a8:=he _ s7 σ6 H7 _ I7 q7;rw[hM,hA,hE]at a8;refine lC a8 λy s8 ⟨yv,H8,I8,r8,m',hm,w8⟩=>?_;obtain⟨k1,k2⟩:=held I8;have hD8:=I8.pin (s2.heap.objs.size,AC R) (bF _ (ax _ bx));have hl:=rv.length;refine append_at hD8.1 λh9 sb hD9=>?_;have I9:iE X' [] (pull ix σ) H8 s8:=(back I8).pins_of λp f=>by simp at f
    have I10:=I9.turned (t':=s8.toks) (λb o h e=>sb.extBut b o h e) hD8.2.1 hD8.2.2.1 (.inl (by subst a;exact bx))
     (λx c e z=>by
      subst a;rcases U x c e with q|⟨q,_⟩
      .exact absurd (cellLt x c q) (by rw[z];exact a9 _)
      .rw[z]at q;omega) (λp f z=>by
      subst a;rcases ai.mp f with f|f
      .exact absurd (F p f) (by rw[z];exact a9 _)
      .simp at f)
    have e9:h9.get? s2.heap.objs.size=some (AC (R++[y])):=by rw[hD9];simp
    refine⟨m',hm,i+1,Y++[yv],R++[y],H8,I10.pins_of λp f=>?_,rv.append (.cons r8 .nil),by rw[aT,b6];omega,?_,k2,w8⟩
    .have e:p=(s2.heap.objs.size,AC (R++[y])):=by simpa using f
     subst e;exact⟨e9,hD8.2.1,hD8.2.2.1,hD8.2.2.2.1,λv z=>by cases z⟩
    .exact T.keep _ _ _ k1 λb h o e=>sb.extBut b o (aM (hlt b h)) e
 have loop':=loop;subst a;exact codeAny_compStart_list loop (T.self X.A 0 _ _ _ (T.keep _ _ _ st2 λb _ o e=>old b o e) loop')
def Ul(S:X.calm=true)(A:PI X tg iter wi)(L:DM X scope N ix)(i:rS ix g)
  (d:∀C a H l j,PG (oS X N scope C a H l j) tg g/\ID (oS X N scope C a H l j) ifs tt/\PE (oS X N scope C a H l j) elt te)
  (F:∀x,foldedSetIterable iter X.env x=pure x:=by intro _;rfl):PE X (.ListComp elt [⟨tg,iter,ifs,0⟩] scope pos) (Lg ix wi g tt te):=by
 intro u s n H Q I h;rw[eval_ListComp];refine wpAny_comprehension_free rfl F (uB L.fre) L.kind L.names (lC (A u s n H _ I h) λv s1 U=>lC U λK Z B=>?_);obtain⟨it,Y,tn,J,H2,e,z,T,k,w,W,⟨m0,r⟩,c⟩:=B;subst e;refine HH S L i d z T k w r c λD C m R s' p f y q=>?_;refine⟨m,p,λh' P=>⟨.ref D,R,y.turned (λb o E e=>P.extBut b o E e) f.1 f.2.1 f.2.2.2.1 f.2.2.2.2.1 f.2.2.2.2.2,rfl,q⟩⟩
end
end L2
namespace L2
open PySem PySem.Spec PyProof.Rows
structure gX(K:W.Frag)(mg:Str->Option Value)(x:Str)(st:Stmt):Prop where
 ex:∃f fd,NN K x x st f fd/\mg x=some (.ref f)
def S2{K:W.Frag}{st:Stmt}{kV d e b g:Value}(X:K.In h)(G:h.Ns mainGlobals mg)
  (a:W.nsIn K mainGlobals x=some (some (.ref f)))
  (l:K.lookup f=some ⟨oc,od,.func (W.fnOf x x (kW st) (jv st) (hU st) .none kV d e an b g),osl⟩)
  (c:W.codeIn K b x=true) (k:W.keepIn K (.ref f)=true):gX K mg x st:=⟨f,_,E4 l c k,W.mg_of X G a⟩
structure nF(P:Program)(w:World)(K:W.Frag)(mg:Str->Option Value)(base:Heap)(x:Str)(k:Nat)(sp:Sp):Prop where
 ex:∃f fd ps,pR P w K mg base Av k f fd ps sp/\mg x=some (.ref f)/\W.keepIn K (.ref f)=true/\sD K fd ps []
def nF.mono{K:W.Frag}(h:nF P w K mg base x j sp)(d:j<=k):nF P w K mg base x k sp:=
 let ⟨f,fd,ps,F,a,b,c⟩:=h.ex
 ⟨f,fd,ps,F.mono d,a,b,c⟩
def CQ{K:W.Frag}{st:Stmt}(D:gX K mg x st)(S:kq N ps (hU st))
  (hb:∀(kV e i:Value) (h:Option Addr) (a j:Value) (us:List Value),us.length=ps.length->bindArgs (W.fnOf x x (kW st) (jv st) (hU st) .none kV e i h a j) ⟨us,[]⟩=pure (ps.zip us))
  (d:∀vs H Q E,sp vs H Q E->vs.length=ps.length)
  (b:∀f a A c s H vs Q E,jZ k (A.deeper (envOfC x (hU st) s.heap.objs.size f a))->sp vs H Q E->
   ∃t,ES (sQ Av P w K mg base N x (hU st) f a A c s H E).nox (jv st) t/\t {nx:=λ_ l=>Q .non l,rt:=Q} (oy N vs) H):nF P w K mg base x (k+1) sp:=by
 obtain⟨f,g,F,m⟩:=D.ex;exact⟨f,g,ps,F.ok S d (b f),m,F.kp,F.binds hb⟩
section
variable {X:Cx}{x:Str}{k:Nat}{sp:Sp}{e:Expr}{es:List Expr}{t:TA}{p pos:Pos}
def EA(h:nF X.prog X.w X.K X.mg X.base x k sp)(hr:jZ k X.A)(j:PA X (e::es) t)(i:Gl X x:=by rfl)
  (d:(x==("__debug__" : Str))=false:=by decide) (l:starEach (e::es) X.env=(false,eval e X.env)::starEach es X.env:=by rfl) (g:(backTo pos (starEach es X.env)).any (·.1)=false:=by rfl) :
  PE X (.Call (.Name x p) (e::es) [] pos) (By sp [] E0 t):=by
 obtain⟨f,m,n,F,a,b,c⟩:=h.ex;exact NU F hr i a b c .nil Ml j d l g
end
def P7:rz X (binaryOp .Mult) (rI (λi j=>PySem.IntMulOk i j) λi j=>.int (i*j)):=VT λ_ _ _ _ _ _ _ a q=>mul_int q a
def Kk:rz X (binaryOp .FloorDiv) (rI (λi j=>j≠0/\Builtin.divisionGoesByPylong i j=false) λi j=>.int (i.fdiv j)):=VT λ_ _ _ _ _ _ _ a q=>floordiv_int a.1 q (.inl a.2)
end L2
namespace L2
open PySem PySem.Spec PyProof.Rows PySem.W
mutual
inductive DV(K:Frag)(H:Hp):V->PyData->Prop
 |non:DV K H .non .none
 |bl (b:Bool):DV K H (.bl b) (.bool b)
 |int (i:Int):DV K H (.int i) (.int i)
 |str (x:Str):DV K H (.str x) (.str x)
 |lst {a:Addr} {xs:List V} {ds:List PyData} (h:mN K H a xs) (hs:EL K H xs ds):DV K H (.ref a) (.list ds)
 |tup {a:Addr} {xs:List V} {ds:List PyData} (h:oH K H a xs) (hs:EL K H xs ds):DV K H (.ref a) (.tuple ds)
inductive EL(K:Frag)(H:Hp):List V->List PyData->Prop
 |nil:EL K H [] []
 |cons {v:V} {d:PyData} {vs:List V} {ds:List PyData} (h:DV K H v d) (hs:EL K H vs ds):EL K H (v::vs) (d::ds)
end
section
variable {X:Cx}{gO:List (Addr×Obj)}{σ:St}{H:Hp}{s:Shared}
mutual
theorem DV.reads(I:iE X gO σ H s):∀{v} {d} {u},DV X.K H v d->jB v u->∃as,Reads s.heap u d as
 |_,_,_,.non,r=>by cases r;exact⟨_,.none⟩
 |_,_,_,.bl b,r=>by cases r;exact⟨_,.bool b⟩
 |_,_,_,.int i,r=>by obtain⟨t,rfl⟩:=r;exact⟨_,.int i t⟩
 |_,_,_,.str x,r=>by obtain⟨t,rfl⟩:=r;exact⟨_,.str x t⟩
 |_,_,_,.lst h hs,r=>by cases r;obtain⟨j,a,⟨o,n,e,g,k,f⟩,_⟩:=I.list h;obtain⟨as,c⟩:=EL.reads I hs a;exact⟨_,.list e g f (by simpa using c)⟩
 |_,_,_,.tup h hs,r=>by cases r;obtain⟨j,a,⟨o,e,g,n,f⟩,_⟩:=I.tuple h;obtain⟨as,c⟩:=EL.reads I hs a;exact⟨_,.tuple e g f (by simpa using c)⟩
theorem EL.reads(I:iE X gO σ H s):∀{vs} {ds} {us},EL X.K H vs ds->ji vs us->∃as,ReadsAll s.heap us ds as
 |_,_,_,.nil,r=>by cases r;exact⟨_,.nil⟩
 |_,_,_,.cons h hs,r=>by
  cases r with
  |cons r1 r2=>obtain⟨as,a⟩:=DV.reads I h r1;obtain⟨bs,rb⟩:=EL.reads I hs r2;exact⟨_,.cons a rb⟩
end
def Fd(K:Frag)(neg:Bool):R2:=λx y H Q=>∃a b,DV K H x a/\DV K H y b/\(a.canLay0=true/\b.canLay0=true/\a.depth<=100)/\Q (.bl (if neg then !PyData.eqv a b else PyData.eqv a b)) H
def K7(m:X.A.units+200<cLine):rz X (compareOp .Eq) (Fd X.K false):=by intro l s j H x y v u Q I e d h;obtain⟨k,i,f,g,⟨c,b,n⟩,q⟩:=h;obtain⟨as,a⟩:=f.reads I e;obtain⟨bs,rb⟩:=g.reads I d;exact SeqAt.eqOverData _ _ _ _ _ _ _ _ _ _ _ _ a rb c b (by omega) ⟨.bl _,H,I,rfl,q⟩
def Ln(m:X.A.units+200<cLine):rz X (compareOp .NotEq) (Fd X.K true):=by intro l s j H x y v u Q I e d h;obtain⟨k,i,f,g,⟨c,b,n⟩,q⟩:=h;obtain⟨as,a⟩:=f.reads I e;obtain⟨bs,rb⟩:=g.reads I d;exact SeqAt.neOverData _ _ _ _ _ _ _ _ _ _ _ _ a rb c b (by omega) ⟨.bl _,H,I,rfl,q⟩
def VG(hr:jZ k A):A.units+200<cLine:=by have:=hr.un;omega
end
end L2
namespace L2
open PySem PySem.Spec PyProof.Rows
theorem Ez:∀{bs:List Bool} {us:List Value},ji (bs.map V.bl) us->us=bs.map Value.bool
 |[],_,.nil=>rfl
 |b::bs,u::us,.cons r t=>by have e:=r;rw[e,Ez t];rfl
theorem ze:∀{ns} {us},ji (ns.map V.int) us->IntsAre us ns
 |[],_,.nil=>.nil
 |n::ns,u::us,.cons r t=>by obtain⟨a,e⟩:=(r);rw[e];exact .cons n a (ze t)
def IC{bs:List Bool}:(List.range bs.length).all (λi=>bs.getD i false)=bs.all id:=by
 induction bs with
 |nil=>rfl
 |cons b bs ih=>rw[ay,cy,bX,cA,bX,<-ih];rfl
def Bm{bs:List Bool}:(List.range bs.length).any (λi=>bs.getD i false)=bs.any id:=by
 induction bs with
 |nil=>rfl
 |cons b bs ih=>rw[ay,cy,bY,cB,bY,<-ih];rfl
section
variable {X:Cx}
def Jb{bs:List Bool}:TruthOf prog w A (λi v=>(bs.map Value.bool).toArray[i]? = some v) (λi=>bs.getD i false):=λi v s Q E d a=>by
 have e:(bs.map Value.bool)[i]? = some v:=by simpa using d
 rw[av]at e;cases c:bs[i]? with
 |none=>rw[c]at e;cases e
 |some b=>
  rw[c]at e;cases e;have:bs.getD i false=b:=by rw[af,c];rfl
  dsimp only at a;rw[this]at a;exact ak a
def LZ(m:X.calm=true):lX X (.builtin "all") (λd H Q=>∃(p:Addr) (bs:List Bool),d=[.ref p]/\mN X.K H p (bs.map V.bl)/\Q (.bl (bs.all id)) H):=by
 intro x s w H d y Q I r h;obtain⟨p,bs,rfl,f,q⟩:=h;obtain⟨u,rfl,l⟩:=qc r;cases l;obtain⟨k,j,a,C⟩:=I.list f;have e:=Ez j;subst e;have c:p<s.heap.objs.size:=by obtain⟨_,e,_⟩:=a.isList;exact aL e
 refine call_all_walk (wpAny_pyIter_list a.isList ⟨s.heap.objs.size,_,_,_,_,_,λi=>bs.getD i false,rfl,Walks.list (A:=X.A.in1) (I.ok.hd m) _ p (aM c) _,⟨⟨_,ar _ rfl,rfl,rfl⟩,a.isList.push _⟩,Jb,λB v n=>?_⟩);refine⟨.bl _,H,I.kept (λb o e=>n b o ?_ (ae _ e)),rfl,?_⟩
 .intro g;have:=aL e;have z:b=s.heap.objs.size:=by simpa using g
  rw[z]at this;exact a9 _ this
 .rw[<-IC]at q;simpa using q
def MN(m:X.calm=true):lX X (.builtin "sum") (λc H Q=>∃(p:Addr) (b:LI),c=[.ref p]/\mN X.K H p (b.map V.int)/\Q (.int b.sum) H):=by intro w s v H c x Q I r h;obtain⟨p,b,rfl,i,q⟩:=h;obtain⟨u,rfl,l⟩:=qc r;cases l;obtain⟨a,k,g,z⟩:=I.list i;have f:=ze k;obtain⟨c,e⟩:=f.allInts.items;have d:=g.isList;rw[e]at d;refine sum_intListG (I.ok.hd m) d λy o j n=>⟨.int b.sum,H,I.kept n,⟨j,?_⟩,q⟩;rw[preSum_eq,cC (by simp),<-nums_intItems,<-e,show a.toArray.toList=a from rfl,f.numsOf]
def w6:bootBuiltins "all" = some (.builtin "all"):=by decide +kernel
def Cf:bootBuiltins "any" = some (.builtin "any"):=by decide +kernel
def Fg:bootBuiltins "sum" = some (.builtin "sum"):=by decide +kernel
end
end L2
namespace L2
open PySem PySem.Spec PyProof.Rows
def j5(b:Bool)(h:Heap)(l:Addr)(a:Array Value):Prop:=if b=true then h.IsTuple l a else h.IsList l a
def mH(b:Bool)(h:Heap)(it l:Addr)(k:Nat):Prop:=if b=true then h.IsTupleIter it l k else h.IsListIter it l k
noncomputable def Ai(b:Bool):String:=if b=true then "tuple_iterator" else "list_iterator"
def mH.look(x:mH b h it l k):∃o,h.get? it=some o/\o.cls=.type (Ai b)/\o.data=.fields #[.ref l,.int k 0]:=by
 cases b with
 |true=>exact (x)
 |false=>exact (x)
def mH.of{k:Nat}(x:∃o,h.get? it=some o/\o.cls=.type (Ai b)/\o.data=.fields #[.ref l,.int k 0]):mH b h it l k:=by
 cases b with
 |true=>exact x
 |false=>exact x
def mH.to(x:mH b h it l k)(e:∀o,h.get? it=some o->h'.get? it=some o):mH b h' it l k:=by obtain⟨o,a,q⟩:=x.look;exact .of ⟨o,e o a,q⟩
def j5.look(x:j5 b h l xs):∃o n,h.get? l=some o/\o.data=.seq xs n:=by
 cases b with
 |true=>obtain⟨o,c,_,n,a⟩:=(x);exact⟨o,n,c,a⟩
 |false=>obtain⟨o,c,_,n,a⟩:=(x);exact⟨o,n,c,a⟩
def j5.to(x:j5 b h l xs)(e:∀o,h.get? l=some o->h'.get? l=some o):j5 b h' l xs:=by
 cases b with
 |true=>obtain⟨o,a,q⟩:=(x);exact⟨o,e o a,q⟩
 |false=>obtain⟨o,a,q⟩:=(x);exact⟨o,e o a,q⟩
section
variable {prog:Program}{w:World}{A:Around}{E:Value->Shared->Prop}{s:Shared}
theorem OG(f:s.heap.IsTupleIter it l k)(m:s.heap.IsTuple l xs)
  (q:∀x a,xs[k]? = some x->a.IsTupleIter it l (k+1)->Heap.SameBut it s.heap a->Q x {s with heap:=a})
  (g:xs[k]? = none->A.handled=none/\∀a e,Heap.ExtBut it s.heap a->(∃o,a.get? e=some o/\o.cls=.type "StopIteration")->E (.ref e) {s with heap:=a}) :
  wpAny (model prog w) A (Builtin.SmallTypes.nextOf (.ref it)) Q E s:=by
 obtain⟨u,c,j,b⟩:=id f;obtain⟨r,i,_,n,p⟩:=m;unfold Builtin.SmallTypes.nextOf;refine ao (wpAny_callSpecial?_slot f.typeIs F.slot_tuple_iterator_next (wpAny_call_entry F.slot_tuple_iterator_next f.typeIs F.entry_tuple_iterator_next ?_ (F.args_tuple_iterator_next_1 _)));show wpAny _ _ (field (.ref it) 0 >>= _) _ _ s;refine ao (wpAny_field c b rfl ?_);have ne:(Value.ref l==Value.none)=false:=rfl;simp only[ne,cj,if_false];refine ao (wpAny_field c b rfl (ao (wpAny_seqItems i p ?_)));cases d:xs[k]? with
 |some x=>simp only[bT,d];refine ao (wpAny_setField c b (by simp) (ak ⟨x,rfl,ak (q x _ d ?_ (Heap.SameBut.update ..))⟩));refine⟨_,Heap.get?_update_self _ c (Obj.isFreed_of_fields (Obj.data_mapFields b _)),(Obj.cls_mapFields ..).trans j,?_⟩;rw[Obj.data_mapFields b];simp[rawInt]
 |none=>obtain⟨h,g⟩:=g d;simp only[bT,d];refine ao (wpAny_rule (ao (wpAny_setField c b (by simp) ?_)));show wpAny _ _ (newExc (.type "StopIteration") [] >>= _) _ _ _;simp only[newExc,newTuple];refine ao (ao (wpAny_newObj_type (ao (wpAny_of_eq (by first|rfl|(simp only[firstArgMember];rfl)) (wpAny_newObj_type ?_ (by size_fits)))) (by size_fits)));simp only[raiseNew];refine ao (wpAny_handled ?_);rw[show A.in1.handled=none from h];refine ao (ak (wpAny_throw ?_));exact g _ _ (((Heap.SameBut.update ..).extBut.push _).push _) ⟨_,ar _ rfl,rfl⟩
theorem vz(j:mH b s.heap it l k)(i:j5 b s.heap l xs)
  (m:∀x c,xs[k]? = some x->mH b c it l (k+1)->Heap.SameBut it s.heap c->Q x {s with heap:=c})
  (g:xs[k]? = none->A.handled=none/\∀c e,Heap.ExtBut it s.heap c->(∃o,c.get? e=some o/\o.cls=.type "StopIteration")->E (.ref e) {s with heap:=c}) :
  wpAny (model prog w) A (Builtin.SmallTypes.nextOf (.ref it)) Q E s:=by
 cases b with
 |true=>exact OG j i m g
 |false=>
  have d:=j;have f:=i;cases h:xs[k]? with
  |some x=>exact wpAny_nextOf_list_item d f h λc a b=>m x c h a b
  |none=>obtain⟨n,g⟩:=g h;exact wpAny_nextOf_list_end n d f h g
def Kz{z TI TO C J R S:Addr}{Q:Value->Shared->Prop}(D:ZipApart z TI TO C J R S)
  (N:IsZip s.heap z TI TO .none) (hTI:IsPair s.heap TI (.ref C) (.ref J)) (hTO:IsPair s.heap TO a b)
  (h1:mH b1 s.heap C R k) (h2:mH b2 s.heap J S k) (hl1:j5 b1 s.heap R xs) (hl2:j5 b2 s.heap S ys)
  (yes:∀x y g,xs[k]? = some x->ys[k]? = some y->IsZip g z TI TO (rawInt s.heap.objs.size)->IsPair g TO x y->mH b1 g C R (k+1)->mH b2 g J S (k+1)->IsPair g s.heap.objs.size x y->g.objs.size=s.heap.objs.size+1->
   (∀c o,c≠z->c≠TO->c≠C->c≠J->s.heap.get? c=some o->g.get? c=some o)->Q (.ref s.heap.objs.size) {s with heap:=g})
  (U:xs[k]? = none\/ys[k]? = none->A.handled=none/\∀g e,(∀c o,c≠z->c≠TO->c≠C->c≠J->s.heap.get? c=some o->g.get? c=some o)->(∃o,g.get? e=some o/\o.cls=.type "StopIteration")->E (.ref e) {s with heap:=g}) :
  wpAny (model prog w) A (Builtin.«zip.__next__» ⟨[.ref z],[]⟩) (λfin s'=>∃v,fin=.done (.ret v)/\Q v s') E s:=by
 have r:∀{h:Heap} {e:Addr} {I:Obj} {f:Value},IsZip h z TI TO f->h.get? e=some I->I.cls=.type "StopIteration" ->e≠z:=λ{h e I f} q ge ce u=>by subst u;rw[q]at ge;cases ge;simp at ce
 show wpAny _ _ (field (.ref z) 2 >>= λ_=>_) _ _ _;refine ao (wpAny_field N rfl rfl ?_);refine ao (wpAny_field N rfl rfl (ao (wpAny_seqItems hTI rfl ?_)));unfold Builtin.SmallTypes.ownedTupleIsFree;refine ao (ao (wpAny_field N rfl rfl (ak ?_)));simp only[if_true];refine ao (wpAny_rule (ao (wpAny_field N rfl rfl (ao (wpAny_setField_rec N (by simp) λg1 y1 L=>?_)))));have Z:=y1;simp only[List.zipIdx_cons,List.zipIdx_nil,List.forIn_cons,List.forIn_nil];refine ao (ao (ao (wpAny_onRaise ?_)));refine ao (vz (h1.to λo e=>L.extBut _ _ D.i1z e) (hl1.to λo e=>L.extBut _ _ D.l1z e) (λx g2 P t2 B=>ak ?_) (λP=>⟨(U (.inl P)).1,λg2 e B ⟨I,ge,ce⟩=>?_⟩))
 .have p2:=B.extBut _ _ D.TOi1 (L.extBut _ _ D.TOz hTO);refine ao (wpAny_seqItems p2 rfl (ao (wpAny_updateSeq_pair p2 λg3 q3 p=>?_)));have p3:=q3;refine ao (wpAny_letGo (ak (ao (ao (wpAny_onRaise ?_)))));have j:∀c o,c≠z->c≠C->c≠TO->s.heap.get? c=some o->g3.get? c=some o:=λc o d i m e=>p.extBut _ _ m (B.extBut _ _ i (L.extBut _ _ d e));refine ao (vz (h2.to λo e=>j _ o D.i2z D.i12.symm D.TOi2.symm e) (hl2.to λo e=>j _ o D.l2z D.l2i1 D.l2TO e) (λy g4 Y t4 F=>ak ?_) (λY=>⟨(U (.inr Y)).1,λg4 e F ⟨I,ge,ce⟩=>?_⟩))
  .have p4:=F.extBut _ _ D.TOi2 p3;refine ao (wpAny_seqItems p4 rfl (ao (wpAny_updateSeq_pair p4 λn q5 H=>?_)));have p5:IsPair n TO x y:=q5;refine ao (wpAny_letGo (ak (ak (ao (wpAny_seqItems p5 rfl (ao (wpAny_newTuple ?_)))))));have sz:n.objs.size=s.heap.objs.size:=by rw[H.1,F.1,p.1,B.1,L.1]
   have z5:=H.extBut _ _ D.TOz.symm (F.extBut _ _ D.i2z.symm (p.extBut _ _ D.TOz.symm (B.extBut _ _ D.i1z.symm Z)));have to5:∀c o,c≠z->c≠TO->c≠C->c≠J->s.heap.get? c=some o->n.get? c=some o:=λc o d i m K e=>H.extBut _ _ i (F.extBut _ _ K (j c o d m i e));unfold Builtin.SmallTypes.ownedTupleHandOut;refine ao (ao (wpAny_setField_rec (ae _ z5) (by simp) λg7 y7 k7=>?_));have z7:=y7;refine wpAny_setField_rec z7 (by simp) λX y8 k8=>?_;have z8:=y8;have up:∀c o,c≠z->(n.push {cls:=.type "tuple",data:=.seq #[x,y]}).get? c=some o->X.get? c=some o:=λc o d e=>k8.extBut _ _ d (k7.extBut _ _ d e);have l:∀c o,c≠z->n.get? c=some o->X.get? c=some o:=λc o d e=>up c o d (ae _ e);have p8:=up _ _ (bC (aL z5)) (ar _ rfl);have s8:X.objs.size=n.objs.size+1:=by rw[k8.1,k7.1,Heap.size_push]
   rw[sz]at z8 p8 s8;refine ak ⟨_,rfl,?_⟩;rw[sz];have e1:=t2.to λo e=>l _ o D.i1z (H.extBut _ _ D.TOi1.symm (F.extBut _ _ D.i12 (p.extBut _ _ D.TOi1.symm e)));have e2:=t4.to λo e=>l _ o D.i2z (H.extBut _ _ D.TOi2.symm e);exact yes x y X P Y z8 (l _ _ D.TOz p5) e1 e2 p8 s8 λc o d i m K e=>l c o d (to5 c o d i m K e)
  .have z4:=F _ _ D.i2z.symm (p.extBut _ _ D.TOz.symm (B.extBut _ _ D.i1z.symm Z));refine wpAny_setField_rec z4 (by simp) λn _ H=>(U (.inr Y)).2 n e (λc o d i m K q=>H.extBut _ _ d (F _ _ K (j c o d m i q))) ⟨I,H.extBut _ _ (r z4 ge ce) ge,ce⟩
 .have z2:=B _ _ D.i1z.symm Z;refine wpAny_setField_rec z2 (by simp) λg3 _ p=>(U (.inl P)).2 g3 e (λc o d i m K q=>p.extBut _ _ d (B _ _ m (L.extBut _ _ d q))) ⟨I,p.extBut _ _ (r z2 ge ce) ge,ce⟩
def EE{z TI TO f g i h:Addr}(D:ZipApart z TI TO f g i h)
  (u:IsZip s.heap z TI TO .none) (m:IsPair s.heap TI (.ref f) (.ref g)) (l:IsPair s.heap TO a b)
  (R:mH b1 s.heap f i k) (J:mH b2 s.heap g h k) (p:j5 b1 s.heap i xs) (n:j5 b2 s.heap h ys)
  (j:∀x y d,xs[k]? = some x->ys[k]? = some y->IsZip d z TI TO (rawInt s.heap.objs.size)->IsPair d TO x y->mH b1 d f i (k+1)->mH b2 d g h (k+1)->IsPair d s.heap.objs.size x y->d.objs.size=s.heap.objs.size+1->
   (∀c o,c≠z->c≠TO->c≠f->c≠g->s.heap.get? c=some o->d.get? c=some o)->Q (some (.ref s.heap.objs.size)) {s with heap:=d})
  (r:xs[k]? = none\/ys[k]? = none->A.handled=none/\∀d,(∀c o,c≠z->c≠TO->c≠f->c≠g->s.heap.get? c=some o->d.get? c=some o)->Q none {s with heap:=d}) :
  wpAny (model prog w) A (pyNext (.ref z)) Q E s:=by
 have ty:s.TypeIs (.ref z) "zip" :=⟨_,u,rfl⟩;unfold pyNext;refine ao (wpAny_attempt (wpAny_callSpecial?_slot ty F.slot_zip_next (wpAny_call_entry F.slot_zip_next ty F.entry_zip_next
  (Kz D u m l R J p n (λx y d N I L H B K P v C=>ak (j x y d N I L H B K P v C)) λq=>⟨(r q).1,λd e hk ⟨o,ho,hc⟩=>?_⟩) (F.args_zip_next_1 _))))
 exact ao (wpAny_isInstance ⟨o,ho,hc⟩ isSubtype_stop (ak ((r q).2 d hk)))
theorem qM(a:j5 b s.heap l xs)
  (h:Q (.ref s.heap.objs.size) {s with heap:=s.heap.push {cls:=.type (Ai b),data:=.fields #[.ref l,.int 0 0]}}):wpAny (model prog w) A (pyIter (.ref l)) Q E s:=by
 cases b with
 |true=>exact wpAny_pyIter_tuple (a) h
 |false=>exact wpAny_pyIter_list (a) h
end
noncomputable abbrev zo(b:Bool)(l:Addr):Obj:={cls:=.type (Ai b),data:=.fields #[.ref l,.int 0 0]}
abbrev zt(x y:Value):Obj:={cls:=.type "tuple",data:=.seq #[x,y]}
abbrev zz(p q:Addr):Obj:={cls:=.type "zip",data:=.fields #[.none,.bool false,.bool false,.ref p,.ref q]}
noncomputable abbrev Cm(b1 b2:Bool)(h:Heap)(l1 l2:Addr):Heap:=
 ((((h.push (zo b1 l1)).push (zo b2 l2)).push (zt (.ref h.objs.size) (.ref (h.push (zo b1 l1)).objs.size))).push (zt .none .none)).push
  (zz ((h.push (zo b1 l1)).push (zo b2 l2)).objs.size (((h.push (zo b1 l1)).push (zo b2 l2)).push (zt (.ref h.objs.size) (.ref (h.push (zo b1 l1)).objs.size))).objs.size)
section
variable {prog:Program}{w:World}{A:Around}{E:Value->Shared->Prop}{s:Shared}
def JE b1 b2 l1 l2 xs ys:Meets (Builtin.«zip.__new__» ⟨[.type "zip",.ref l1,.ref l2],[]⟩) (λ_ R s=>j5 b1 s.heap l1 xs/\j5 b2 s.heap l2 ys/\
  R (.ok (.ret (.ref ((((s.heap.push (zo b1 l1)).push (zo b2 l2)).push (zt (.ref s.heap.objs.size) (.ref (s.heap.push (zo b1 l1)).objs.size))).push (zt .none .none)).objs.size))) {s with heap:=Cm b1 b2 s.heap l1 l2}):=by
 refine .of_wp λprog w A R s h=>?_;obtain⟨k,g,d,b,f⟩:=s;obtain⟨c,i,a⟩:=h;have sz:=sub_zip;have l:=c;have j:j5 b2 (Shared.heap ⟨k.push (zo b1 l1),g,d,b,f⟩) l2 ys:=i.to λo e=>ae _ e;wp_walk using qM l,qM j;exact⟨_,rfl,a⟩
def J2(i:j5 b1 s.heap l1 xs)(l:j5 b2 s.heap l2 ys)
  (h:∀b,IsZip b (s.heap.objs.size+4) (s.heap.objs.size+2) (s.heap.objs.size+3) .none->IsPair b (s.heap.objs.size+2) (.ref s.heap.objs.size) (.ref (s.heap.objs.size+1))->IsPair b (s.heap.objs.size+3) .none .none->
   mH b1 b s.heap.objs.size l1 0->mH b2 b (s.heap.objs.size+1) l2 0->b.objs.size=s.heap.objs.size+5->(∀c o,s.heap.get? c=some o->b.get? c=some o)->Q (.ref (s.heap.objs.size+4)) {s with heap:=b}) :
  wpAny (model prog w) A (call (.type "zip") [.ref l1,.ref l2]) Q E s:=by
 refine callType_new F.called_zip (by decide) (F.typeCall_zip_2 _ _) (F.newCall_zip_2 _ _) (λk=>F.args_object_init_3 k _ _) F.entry_zip_new (JE b1 b2 l1 l2 xs ys) ⟨i,l,?_⟩;generalize f:s.heap.objs.size=n at *;have d:(s.heap.push (zo b1 l1)).objs.size=n+1:=by rw[Heap.size_push,f]
 have m:((s.heap.push (zo b1 l1)).push (zo b2 l2)).objs.size=n+2:=by rw[Heap.size_push,d]
 generalize a:(s.heap.push (zo b1 l1)).push (zo b2 l2)=g2 at *;have u:∀c o,s.heap.get? c=some o->g2.get? c=some o:=λc o e=>by rw[<-a];exact ae _ (ae _ e)
 have r:g2.get? n=some (zo b1 l1):=by rw[<-a,<-f];exact ae _ (ar _ rfl)
 have y:g2.get? (n+1)=some (zo b2 l2):=by rw[<-a,<-d];exact ar _ rfl
 have g:(g2.push (zt (.ref n) (.ref (n+1)))).objs.size=n+3:=by rw[Heap.size_push,m]
 have j:((g2.push (zt (.ref n) (.ref (n+1)))).push (zt .none .none)).objs.size=n+4:=by rw[Heap.size_push,g]
 have v:Cm b1 b2 s.heap l1 l2=((g2.push (zt (.ref n) (.ref (n+1)))).push (zt .none .none)).push (zz (n+2) (n+3)):=by unfold Cm;rw[f,d,a,m,g]
 rw[v,d,j];have q:(g2.push (zt (.ref n) (.ref (n+1)))).get? (n+2)=some (zt (.ref n) (.ref (n+1))):=by rw[<-m];exact ar _ rfl
 have x:((g2.push (zt (.ref n) (.ref (n+1)))).push (zt .none .none)).get? (n+3)=some (zt .none .none):=by rw[<-g];exact ar _ rfl
 have p:(((g2.push (zt (.ref n) (.ref (n+1)))).push (zt .none .none)).push (zz (n+2) (n+3))).get? (n+4)=some (zz (n+2) (n+3)):=by rw[<-j];exact ar _ rfl
 have up:∀c o,g2.get? c=some o->(((g2.push (zt (.ref n) (.ref (n+1)))).push (zt .none .none)).push (zz (n+2) (n+3))).get? c=some o:=λc o e=>ae _ (ae _ (ae _ e));exact⟨⟨_,p,rfl⟩,h _ p (ae _ (ae _ q)) (ae _ x) (.of ⟨_,up _ _ r,rfl,rfl⟩) (.of ⟨_,up _ _ y,rfl,rfl⟩) (by rw[Heap.size_push,j]) λc o e=>up c o (u c o e)⟩
end
end L2
namespace L2
open PySem PySem.Spec PyProof.Rows
def iE.turnedL{ch:List Addr}(I:iE X gO σ H s)(k:∀b o,b∉ch->s.heap.get? b=some o->h'.get? b=some o)(f:∀b∈ch,uO X gO H b) :
  iE X gO σ H {s with heap:=h',toks:=t'}:=by
 have d:∀b u,H b=some u->b∉ch:=λb u e z=>by rw[(f b z).1]at e;cases e
 refine I.step (λb l=>let ⟨_,f1,_,f3,f4,f5⟩:=f b l;⟨f3,f1,f4,f5⟩) (λb o _ _ a e _=>k b o a e) (λb o _ _ a e _=>⟨o.slots,k b o a e⟩) (λ_ _ _ _ n=>n)
  (λb o a e=>⟨o,k b o a e⟩) (λ_ _ e=>e) (λ_ _ _ e=>e) (λb _ p e=>⟨#[],by rw[e];simp⟩) (λm h=>?_) (λb u e=>?_) I.bare
 .obtain⟨o,j,i,g,r⟩:=h;exact⟨o,j,i,k _ o (λz=>(f _ z).2.1 rfl) g,r⟩
 .refine (I.hok b u e).stay (λc v a q=>k c v ?_ q) (λ_ q=>q) λ_ _ q=>q;rcases a with z|z
  .rw[z];exact d b u e
  .exact d c _ z
def xZ(K:W.Frag)(H:Hp)(b:Bool)(a:Addr)(c:List V):Prop:=if b=true then oH K H a c else mN K H a c
def iE.seqB(I:iE X gO σ H s)(h:xZ X.K H b a xs):∃its:List Value,ji xs its/\j5 b s.heap a its.toArray/\xs.length<=sizeLine:=by
 cases b with
 |true=>obtain⟨its,r,p,z⟩:=I.tuple (h);exact⟨its,r,p,z⟩
 |false=>obtain⟨its,r,p,z⟩:=I.list (h);exact⟨its,r,p.isList,z⟩
def iE.seqB_inj(I:iE X gO σ H s)(h:xZ X.K H b a xs)(c:xZ X.K H b a ys):xs=ys:=by
 cases b with
 |true=>exact I.tuple_inj h c
 |false=>exact I.list_inj h c
noncomputable def V6(K:W.Frag)(d e:Bool)(c f:Addr):It:=
  ⟨λi H=>∃b a x y,xZ K H d c b/\xZ K H e f a/\b[i]? = some x/\a[i]? = some y,
   λi H v g=>∃p x y,v=.ref p/\H p=none/\g=jY H p (.tup [x,y])/\(∀b,xZ K H d c b->b[i]? = some x)/\∀a,xZ K H e f a->a[i]? = some y,
   λi H=>∃b a,xZ K H d c b/\xZ K H e f a/\(b.length<=i\/a.length<=i)⟩
def Lu{K:W.Frag}{x1}{z TI TO l m l1 l2:Addr}(D:ZipApart z TI TO l m l1 l2) :
  Et P w K (.Tuple elts x1 pos) (V6 K b1 b2 l1 l2) [z,TI,TO,l,m] z (λi h=>IsZip h z TI TO .none/\IsPair h TI (.ref l) (.ref m)/\(∃a b,IsPair h TO a b)/\mH b1 h l l1 i/\mH b2 h m l2 i) where
 mem:=by simp
 obj:=λi h n b g=>by
  obtain⟨p,f,⟨a,c,j⟩,A,r⟩:=n;have mem:b=z\/b=TI\/b=TO\/b=l\/b=m:=by simpa using g
  rcases mem with rfl|rfl|rfl|rfl|rfl
  .exact⟨_,p,λv q=>by cases q⟩
  .exact⟨_,f,λv q=>by cases q⟩
  .exact⟨_,j,λv q=>by cases q⟩
  .obtain⟨o,e,_,d⟩:=A.look;exact⟨o,e,λv q=>by rw[d]at q;cases q⟩
  .obtain⟨o,e,_,d⟩:=r.look;exact⟨o,e,λv q=>by rw[d]at q;cases q⟩
 keep:=λi h Z n k=>by obtain⟨p,f,⟨a,c,j⟩,A,r⟩:=n;exact⟨k z (by simp) _ p,k TI (by simp) _ f,⟨a,c,k TO (by simp) _ j⟩,A.to λo e=>k l (by simp) o e,r.to λo e=>k m (by simp) o e⟩
 item:=by
  intro X hP hw hK hc i gO s σ H E I hf n hg;subst hP hw hK;obtain⟨p,f,⟨a,c,j⟩,A,r⟩:=n;obtain⟨xs,ys,x,y,q1,q2,e1,e2⟩:=hg;obtain⟨U,r1,p1,z1⟩:=I.seqB q1;obtain⟨J,r2,p2,z2⟩:=I.seqB q2;obtain⟨u,gu,ru⟩:=r1.get e1;obtain⟨v,gv,rv⟩:=r2.get e2;have F:=I.fpOk (aK _) (I.hok.fresh (aK _));refine EE D p f j A r p1 p2 (λY R Z B C a1 a2 a3 a4 a5 a6 N=>?_) λq=>?_
  .have eu:Y=u:=by
    have:U[i]? = some Y:=by simpa using B
    rw[gu]at this;cases this;rfl
   have ev:R=v:=by
    have:J[i]? = some R:=by simpa using C
    rw[gv]at this;cases this;rfl
   subst eu;subst ev;refine⟨_,rfl,wpAny_letOwnedTupleGo_zip a1 λL S sb=>?_⟩;have zT:=bC (aL p);have I1:=I.turnedL (t':=s.toks) (ch:=[z,TO,l,m]) (λb o g e=>sb.extBut _ _ (λq=>g (by simp[q])) (N b o (λq=>g (by simp[q])) (λq=>g (by simp[q])) (λq=>g (by simp[q])) (λq=>g (by simp[q])) e))
    (λb g=>hf b (by
     have mem:b=z\/b=TO\/b=l\/b=m:=by simpa using g
     rcases mem with rfl|rfl|rfl|rfl<;>simp))
   have gT:=sb.extBut _ _ zT a5;have I2:iE X gO σ (jY H s.heap.objs.size (.tup [x,y])) {s with heap:=L}:=I1.track F.1 F.2.2.2.1 F.2.1 F.2.2.2.2.1 F.2.2.2.2.2
    ⟨by show 2<=sizeLine;decide,[Y,R],.cons ru (.cons rv .nil),⟨_,gT,rfl,_,rfl,rfl⟩⟩
   have lt:∀{b o},s.heap.get? b=some o->jY H s.heap.objs.size (.tup [x,y]) b=H b:=λ{b o} e=>ie (aM (aL e));refine⟨.ref s.heap.objs.size,_,I2,rfl,⟨_,x,y,rfl,F.1,rfl,λxs' h=>by rw[I.seqB_inj h q1];exact e1,λys' h=>by rw[I.seqB_inj h q2];exact e2⟩,?_,λb g=>?_⟩
   .have k2:∀c o,c≠z->Z.get? c=some o->L.get? c=some o:=λc o c1 e=>sb.extBut _ _ c1 e;exact⟨S,k2 _ _ D.TIz (N _ _ D.TIz D.TITO D.TIi1 D.TIi2 f),⟨_,_,k2 _ _ D.TOz a2⟩,a3.to λo e=>k2 _ o D.i1z e,a4.to λo e=>k2 _ o D.i2z e⟩
   .have mem:b=z\/b=TI\/b=TO\/b=l\/b=m:=by simpa using g
    have Q:=(hf b g).1;obtain⟨o1,g1,_⟩:=A.look;obtain⟨o2,g2,_⟩:=r.look;rcases mem with rfl|rfl|rfl|rfl|rfl
    .rw[lt p];exact Q
    .rw[lt f];exact Q
    .rw[lt j];exact Q
    .rw[lt g1];exact Q
    .rw[lt g2];exact Q
  .exfalso;have m1:U.toArray[i]? = some u:=by simpa using gu
   have m2:J.toArray[i]? = some v:=by simpa using gv
   rcases q with q|q
   .rw[m1]at q;cases q
   .rw[m2]at q;cases q
 done:=by
  intro X hP hw hK hc i gO s σ H E I hf n hg;subst hP hw hK;obtain⟨p,f,⟨a,c,j⟩,A,r⟩:=n;obtain⟨xs,ys,q1,q2,hl⟩:=hg;obtain⟨U,r1,p1,z1⟩:=I.seqB q1;obtain⟨J,r2,p2,z2⟩:=I.seqB q2;have n1:=r1.length;have n2:=r2.length;have fpc:∀b∈[z,TO,l,m],uO X gO H b:=λb g=>hf b (by
   have mem:b=z\/b=TO\/b=l\/b=m:=by simpa using g
   rcases mem with rfl|rfl|rfl|rfl<;>simp)
  refine EE D p f j A r p1 p2 (λY R Z B C a1 a2 a3 a4 a5 a6 N=>?_) λq=>⟨I.ok.hd hc,λZ N=>⟨rfl,I.turnedL (λb o g e=>N b o (λq=>g (by simp[q])) (λq=>g (by simp[q])) (λq=>g (by simp[q])) (λq=>g (by simp[q])) e) fpc⟩⟩;exfalso;have m1:i<U.length:=by
   have:U[i]? = some Y:=by simpa using B
   exact (aa.mp this).1
  have m2:i<J.length:=by
   have:J[i]? = some R:=by simpa using C
   exact (aa.mp this).1
  omega
 self:=λ_ _ _ _ _ n h=>wpAny_pyIter_zip n.1 h
def S3:bootBuiltins "zip" = some (.type "zip"):=by decide +kernel
section
variable {X:Cx}
def Sm(K:W.Frag)(d e:Bool)(g:TA):TI:=λi H R=>g i H λh c=>∃a b,h=[.ref a,.ref b]/\(∃j,xZ K c d a j)/\(∃f,xZ K c e b f)/\R (V6 K d e a b) c
def Rm{x1}(Q:Gl X "zip")(z:X.mg "zip" = none)(J:PA X [a,b] ta)(N:starEach [a,b] X.env=[(false,eval a X.env),(false,eval b X.env)]:=by rfl)
  (c:starEach [b] X.env=[(false,eval b X.env)]:=by rfl):PI X (.Tuple elts x1 tpos) (.Call (.Name "zip" p) [a,b] [] pos) (Sm X.K b1 b2 ta):=by
 intro A s v H R I h;refine Call_ (rC I Q z S3 (PyProof.Rows.callWith_type1 (lC (J pos A s v H _ I h) λB s1 ⟨vs,H1,I1,r1,k⟩=>?_) (by rw[N,c]) (by rw[c];rfl)));obtain⟨P,x,rfl,⟨xs,k⟩,⟨ys,F⟩,q⟩:=k;obtain⟨u1,u2,rfl,D,y⟩:=Hg r1;cases D;cases y;obtain⟨B,C,r,_⟩:=I1.seqB k;obtain⟨Z,U,l,_⟩:=I1.seqB F;have j:P<s1.heap.objs.size:=by obtain⟨o,n,e,_⟩:=r.look;exact aL e
 have i:x<s1.heap.objs.size:=by obtain⟨o,n,e,_⟩:=l.look;exact aL e
 refine J2 r l λh' u f d w S E Y=>?_;refine wpAny_pyIter_zip u ?_;refine⟨_,_,_,_,H1,rfl,I1.kept Y,Lu (zipApart_new j i),⟨u,f,⟨_,_,d⟩,w,S⟩,λb L=>?_,q⟩;have g:b=s1.heap.objs.size+4\/b=s1.heap.objs.size+2\/b=s1.heap.objs.size+3\/b=s1.heap.objs.size\/b=s1.heap.objs.size+1:=by simpa using L
 have m:s1.heap.objs.size<=b:=by rcases g with rfl|rfl|rfl|rfl|rfl<;>omega
 exact I1.fpOk m (I1.hok.fresh m)
end
end L2
namespace L2
open PySem PySem.Spec PyProof.Rows
def oY(h:H p=none):iS H (jY H p o):=λb u e=>by rw[ie (i7 e h)];exact .of e
def iS.seqT{K:W.Frag}(e:iS H H')(h:oH K H a xs):oH K H' a xs:=by
 rcases h with (h|⟨o,h⟩)|h
 .exact .inl (.inl (e _ _ h))
 .exact .inl (.inr ⟨o,e _ _ h⟩)
 .exact .inr h
noncomputable def Cw(d:List Str)(b a:Scope)(N:List Str)(c:List (Option Nat)):Bool:=
 a.kind==.function&&a.names.all (λy=>!(y.2==NameKind.cell)||a.names.lookup y.1==some .cell)&&a.names.all (λy=>!(y.2==NameKind.local)||a.names.lookup y.1==some .local) &&
 a.names.all (λy=>!(y.2==NameKind.free)||b.names.lookup y.1==some .cell)&&N.length==c.length &&
 (List.range N.length).all (λi=>match c[i]?,N[i]? with
  |some (some j),some x=>d[j]? == some x&&a.names.lookup x==some .free&&b.names.lookup x==some .cell
  |_,_=>true)
def UH(n:∀x,X.env.scope.names.lookup x=some .cell->∃c,X.env.cells.lookup x=some c)(h:Cw X.N X.env.scope scope N ix=true):DM X scope N ix:=by
 unfold Cw at h;simp only[bV]at h;obtain⟨⟨⟨⟨⟨s,r⟩,m⟩,o⟩,k⟩,q⟩:=h;refine⟨by simpa using s,λy d e=>?_,λy d e=>?_,λy d e=>?_,by simpa using k,λi j x g l=>?_⟩
 .have:=cD.mp r y d;rw[e]at this;simpa using this
 .have:=cD.mp m y d;rw[e]at this;simpa using this
 .have:=cD.mp o y d;rw[e]at this;exact n _ (by simpa using this)
 .have p:=(aa.mp g).1;have:=cD.mp q i (aS.mpr p);rw[g,l]at this;simp only[bV,beq_iff_eq]at this;obtain⟨⟨a,b⟩,c⟩:=this;exact⟨a,b,.inr (.inl c),λz=>by have f:X.env.scope.names.lookup x=some .local:=z;rw[c]at f;cases f⟩
def Ki(L:DM X scope N ix):∀x,(oS X N scope C s₃ H ex pn).env.scope.names.lookup x=some .cell->∃c,(oS X N scope C s₃ H ex pn).env.cells.lookup x=some c:=λx b=>by
 refine bQ.mp (W.cellsFrom_some _ _ _ ?_);rcases vv (.inl b) with a|a
 .exact .inr (bQ.mpr (q9 a (L.fre _ a rfl)))
 .exact .inl a
def Aj{K:W.Frag}(y:ix[k]? = some none)(s:ix[l]? = some none):rS ix (IY K 2 (zL (lN k) (zL (lN l) Im))):=by
 rintro x d H Q ⟨a,n,p,o,g,v,r,h,m,w,f,b,q⟩;refine⟨a,n,p,o,g,v,r,h,m,w,f,b,λi j e=>?_,q⟩;have c:k≠i:=by rintro rfl;rw[y]at e;cases e
 have u:l≠i:=by rintro rfl;rw[s]at e;cases e
 rw[aq u,aq c]
end L2
namespace L2
open PySem PySem.Spec PyProof.Rows
structure mJ(K:W.Frag)(C:Addr)(m qual:Str)(st:Stmt):Prop where
 ex:∃f fd,NN K m qual st f fd/\Pi K C m f
structure lU(P:Program)(w:World)(K:W.Frag)(mg:Str->Option Value)(base:Heap)(C:Addr)(m:Str)(k:Nat)(sp:Sp):Prop where
 cl:AQ K C
 ex:∃f fd ps,pR P w K mg base Av k f fd ps sp/\Pi K C m f/\sD K fd ps []
def Ht{K:W.Frag}{st:Stmt}(h:AQ K C)(D:mJ K C m qual st)(S:kq N ps (hU st))
  (hb:∀(kV e j:Value) (i:Option Addr) (a l:Value) (us:List Value),us.length=ps.length->bindArgs (W.fnOf m qual (kW st) (jv st) (hU st) .none kV e j i a l) ⟨us,[]⟩=pure (ps.zip us))
  (d:∀vs H Q E,sp vs H Q E->vs.length=ps.length)
  (b:∀f a A c s H vs Q E,jZ k (A.deeper (envOfC qual (hU st) s.heap.objs.size f a))->sp vs H Q E->
   ∃t,ES (sQ Av P w K mg base N qual (hU st) f a A c s H E).nox (jv st) t/\t {nx:=λ_ n=>Q .non n,rt:=Q} (oy N vs) H):lU P w K mg base C m (k+1) sp:=by
 obtain⟨f,g,F,m⟩:=D.ex;exact⟨h,f,g,ps,F.ok S d (b f),m,F.binds hb⟩
structure DW(P:Program)(w:World)(K:W.Frag)(mg:Str->Option Value)(base:Heap)(x:Str)(C:Addr)(k:Nat)(sp:Sp):Prop where
 ex:∃f fd ps,pR P w K mg base Av k f fd ps sp/\Mk K C f/\sD K fd ps []
 mgx:mg x=some (.ref C)
section
variable {X:Cx}{x m:Str}{C:Addr}{k:Nat}{sp:Sp}{e o:Expr}{es:List Expr}{t:TA}{ta:TE}{p pos apos:Pos}
def UI(h:DW X.prog X.w X.K X.mg X.base x C k sp)(hr:jZ (k+1) X.A)(i:PA X (e::es) t)(g:Gl X x:=by rfl)
  (c:(x==("__debug__" : Str))=false:=by decide) (j:starEach (e::es) X.env=(false,eval e X.env)::starEach es X.env:=by rfl) (d:(backTo pos (starEach es X.env)).any (·.1)=false:=by rfl) :
  PE X (.Call (.Name x p) (e::es) [] pos) (Hv C sp [] E0 t):=by
 obtain⟨f,l,n,F,a,b⟩:=h.ex;exact N6 a F hr g h.mgx b .nil Ml i c j d
def Nl(h:lU X.prog X.w X.K X.mg X.base C m k sp)(hr:jZ k X.A)(c:PE X o ta)
  (d:eval (.Call (.Attribute o m apos) [] [] pos) X.env=(do
   let ov <-eval o X.env
   standAt apos.atName
   let (f,first) <-holding [ov] (getMethod ov m pl)
   callWith pos f first (backTo pos (starEach [] X.env)) (backToKw pos (keywordEach [] X.env))):=by rfl) :
  PE X (.Call (.Attribute o m apos) [] [] pos) (Bb C m sp [] E0 ta yi):=by
 obtain⟨f,g,i,F,a,b⟩:=h.ex;exact Lj c h.cl a F hr b .nil Ml d
end
end L2
namespace L2
open PySem PySem.Spec PyProof.Rows
def Kq(hN:X.N.Nodup)(hy:X.N[i]? = some y)(hx:IQ X.env.scope y)
  (hc:X.calm=true) (hi:PI X tg iter wi) (L:DM X scope N ix) (k:rS ix g)
  (j:∀C c H A p,PG (oS X N scope C c H A p) tg g/\ID (oS X N scope C c H A p) ifs tt/\PE (oS X N scope C c H A p) elt te)
  (U:X.fn y=true\/X.env.scope.names.lookup y=some .local:=by first|exact .inl rfl|exact .inr rfl)
  (l:swapsWith (.ListComp elt [⟨tg,iter,ifs,0⟩] scope pos) (some (.Name y py)) spos.line X.env=pure true:=by rfl)
  (hs:∀x,foldedSetIterable iter X.env x=pure x:=by intro _;rfl):PS X (.Assign [.Name y py] (.ListComp elt [⟨tg,iter,ifs,0⟩] scope pos) spos) (qA (Lg ix wi g tt te) (lN i)):=by
 intro K s B H D I h;rw[exec_Assign_Name_used _ _ _ _ l];refine ao (wpAny_standAt (ao ?_));rw[arm_evalThenUse_ListComp];refine ao (lC (wpAny_comprehension_free rfl hs (uB L.fre) L.kind L.names (lC (hi K s B H _ I h) λv s1 h1=>lC h1 λitv s2 h2=>?_)) λ_ Z q=>ak (ak q));obtain⟨it,fp,tn,J,H2,e,Y,T,u,P,W,⟨m0,F⟩,d⟩:=h2;subst e;refine HH (Q:=λx H1=>lN i x B H1 D.nx) hc L k j Y T u P F d λE0 C m H' Z E f S q=>?_;refine wpAny_assign_Name (Bi (v:=.ref E0) S hN hy hx rfl (λs3 R n=>?_) U);obtain⟨a,sb,ha⟩:=n;have ne:C≠a:=by
  rcases ha with z|z
  .rw[z];exact f.2.1
  .exact λw=>f.2.2.2.2.1 y a z w.symm
 exact⟨m,E.sameBut sb ne,λh' r=>⟨_,H',R.turned (λb o hb e=>r.extBut b o hb e) f.1 f.2.1 f.2.2.2.1 f.2.2.2.2.1 f.2.2.2.2.2,q⟩⟩
end L2
namespace L2
open PySem PySem.Spec PyProof.Rows
section
variable {κ:Type}[DecidableEq κ]
noncomputable def uZ(kvs:List (κ×V))(k:κ):Option V:=(kvs.find? λa=>decide (a.1=k)).map (·.2)
noncomputable def qY(kvs:List (κ×V))(k:κ)(v:V):List (κ×V):=if (kvs.any λa=>decide (a.1=k))=true then kvs.map (λa=>if a.1=k then (a.1,v) else a) else kvs++[(k,v)]
def zw{k:κ}(e:p.1=k):uZ (p::r) k=some p.2:=by simp[uZ,List.find?_cons,e]
def zk{k:κ}(e:¬p.1=k):uZ (p::r) k=uZ r k:=by simp[uZ,List.find?_cons,e]
theorem DX k:∀kvs:List (κ×V),(kvs.any λa=>decide (a.1=k))=(uZ kvs k).isSome
 |[]=>rfl
 |p::r=>by
  rw[bY];by_cases e:p.1=k
  .simp only[zw e,aC e,Bool.true_or,cv]
  .rw[zk e,aB e,Bool.false_or];exact DX k r
def p7 kvs (k:κ) v:(qY kvs k v).length<=kvs.length+1:=by
 unfold qY;split
 .rw[aw];omega
 .rw[aT,ay,cE];omega
def uS.isSome_eq(r:uS o u):o.isSome=u.isSome:=by
 cases o with
 |none=>cases u with
  |none=>rfl
  |some _=>exact (show False from r).elim
 |some _=>cases u with
  |none=>exact (show False from r).elim
  |some _=>rfl
def KV.val(r:KV kvs vs)(k:κ):uS (uZ kvs k) (valueAt vs k):=by
 unfold KV at r;induction r with
 |nil=>exact True.intro
 |@cons p q ps qs h t ih=>
  obtain⟨c,d⟩:=h;by_cases e:p.1=k
  .have a:q.1=k:=c.symm.trans e;have b:valueAt (q::qs) k=some q.2:=by simp[valueAt,List.find?_cons,a]
   rw[zw e,b];exact d
  .have a:¬q.1=k:=λz=>e (c.trans z);have b:valueAt (q::qs) k=valueAt qs k:=by simp[valueAt,List.find?_cons,a]
   rw[zk e,b];exact ih
def KV.any(r:KV kvs vs)(k:κ):(kvs.any λa=>decide (a.1=k))=vs.any λa=>decide (a.1=k):=by
 unfold KV at r;induction r with
 |nil=>rfl
 |cons h t ih=>rw[bY,bY,ih,h.1]
theorem KV.repl(r:KV kvs vs)(k:κ)(d:jB y u) :
  KV (kvs.map λa=>if a.1=k then (a.1,y) else a) (vs.map λa=>if a.1=k then (a.1,u) else a):=by
 unfold KV at r ⊢;induction r with
 |nil=>exact .nil
 |@cons p q ps qs h t ih=>
  rw[bI,bI];refine .cons ?_ ih;obtain⟨b,c⟩:=h;by_cases e:p.1=k
  .rw[aQ e,aQ (b.symm.trans e)];exact⟨b,d⟩
  .rw[aR e,aR (λz=>e (b.trans z))];exact⟨b,c⟩
def KV.put(r:KV kvs vs)(k:κ)(a:jB y u):KV (qY kvs k y) (stored vs k u):=by
 unfold qY stored;rw[r.any k];by_cases e:(vs.any λb=>decide (b.1=k))=true
 .rw[aQ e,aQ e];exact r.repl k a
 .rw[aR e,aR e];exact Paired.snoc r ⟨rfl,a⟩
def KV.length{kvs:List (κ×V)}(r:KV kvs vs):kvs.length=vs.length:=Paired.length r
end
def Hi(r:jB (kV k) u):(mv P w).is k u=true:=by
 cases k with
 |inl i=>obtain⟨t,e⟩:=(show ∃t,u=Value.int i t from r);subst e;exact Em P w i t
 |inr x=>obtain⟨t,e⟩:=(show ∃t,u=Value.str x t from r);subst e;exact DA P w x t
theorem AR:∀{ks} {us},ji (ks.map kV) us->ItemsAre (mv P w) ks us
 |[],_,r=>by rw[cf]at r;cases r;exact .nil
 |k::ks,_,r=>by
  rw[bI]at r;cases r with
  |cons h t=>exact .cons (Hi h) (AR t)
abbrev KT(H:Hp):List (List qP×V)->List (List qP×Addr×Value)->Prop:=Paired λp q=>p.1=q.1/\H q.2.1=some (.tup (p.1.map kV))/\jB p.2 q.2.2
def KT.val(r:KT H kvs xs) k:uS (uZ kvs k) ((atKey xs k).map (·.2)):=by
 induction r with
 |nil=>exact True.intro
 |@cons p q ps qs h t ih=>
  obtain⟨c,_,d⟩:=h;by_cases e:p.1=k
  .have a:q.1=k:=c.symm.trans e;have b:atKey (q::qs) k=some q.2:=by simp[atKey,List.find?_cons,a]
   rw[zw e,b];exact d
  .have a:¬q.1=k:=λz=>e (c.trans z);have b:atKey (q::qs) k=atKey qs k:=by simp[atKey,List.find?_cons,a]
   rw[zk e,b];exact ih
theorem KT.repl(r:KT H kvs xs) k (f:jB y u) :
  KT H (kvs.map λb=>if b.1=k then (b.1,y) else b) (xs.map (putAt k u)):=by
 induction r with
 |nil=>exact .nil
 |@cons p q ps qs h t ih=>
  rw[bI,bI];refine .cons ?_ ih;obtain⟨a,c,d⟩:=h;unfold putAt;by_cases e:p.1=k
  .rw[aQ e,aQ (a.symm.trans e)];exact⟨a,c,f⟩
  .rw[aR e,aR (λz=>e (a.trans z))];exact⟨a,c,d⟩
def KT.put(r:KT H kvs xs) k (hb:H b=some (.tup (k.map kV))) (a:jB y u) :
  KT H (qY kvs k y) (storedH xs k b u):=by
 have e:(kvs.any λc=>decide (c.1=k))=(atKey xs k).isSome:=by rw[DX,(r.val k).isSome_eq,cF]
 unfold qY storedH;rw[e];by_cases q:(atKey xs k).isSome=true
 .rw[aQ q,aQ q];exact r.repl k a
 .rw[aR q,aR q];exact Paired.snoc r ⟨rfl,hb,a⟩
def KT.keeps(r:KT H kvs xs)(c:∀b a,H b=some (.tup a)->H' b=some (.tup a)):KT H' kvs xs:=Paired.mapP r λ_ _ z=>⟨z.1,c _ _ z.2.1,z.2.2⟩
section
variable {P:Program}{w:World}{H:Hp}{h:Heap}{a:Addr}
def QP(ok:uw P w H h)(e:Rd H a u):l6 P w H h a u:=e.ok ok
def HE(ok:uw P w H h)(e:Rd H a (.dK kvs)):kvs.length<=sizeLine/\(a==sysModules)=false/\∃vs,KV kvs vs/\h.DictOf (mv P w) a vs:=show l6 P w H h a (.dK kvs) from QP ok e
def U0(ok:uw P w H h)(e:H a=some (.dK kvs)):kvs.length<=sizeLine/\(a==sysModules)=false/\∃vs,KV kvs vs/\h.DictOf (mv P w) a vs:=HE ok (.inl e)
def zC(ok:uw P w H h)(e:H a=some (.tup (ks.map kV))):(tupleKind (mv P w)).is h ks a:=by obtain⟨_,b,r,o,f,c,n,d,_⟩:=(show l6 P w H h a (.tup (ks.map kV)) from ok a _ e);exact⟨o,b.toArray,n,f,c,d,by simpa using AR r⟩
theorem Hc(ok:uw P w H h)(e:Rd H a (.dT kvs)):kvs.length<=sizeLine/\(a==sysModules)=false/\
  ∃c,KT H kvs c/\h.DictOfH (tupleKind (mv P w)) a c:=by
 obtain⟨z,y,c,r,o,k,g,n,j,f,i,d⟩:=(show l6 P w H h a (.dT kvs) from QP ok e);refine⟨z,y,c,r,o,k,g,n,j,f,i,λx b=>?_,d⟩;have all:∀{l:List (List qP×V)} {m:List (List qP×Addr×Value)},KT H l m->∀x∈m,(tupleKind (mv P w)).is h x.1 x.2.1:=by
  intro l m q;induction q with
  |nil=>intro x b;exact nomatch b
  |@cons p q ps qs hq t ih=>
   intro x b;rcases aF.mp b with e|b
   .subst e;exact zC ok (by rw[<-hq.1];exact hq.2.1)
   .exact ih x b
 exact all r x b
def Ra(ok:uw P w H h)(e:H a=some (.dT kvs)):kvs.length<=sizeLine/\(a==sysModules)=false/\
  ∃b,KT H kvs b/\h.DictOfH (tupleKind (mv P w)) a b:=Hc ok (.inl e)
end
def Dg(H:Hp)(a:Addr)(y:V)(r:Option V):Prop:=(∃c k,Rd H a (.dK c)/\y=kV k/\r=uZ c k)\/∃c k b,Rd H a (.dT c)/\y=.ref b/\H b=some (.tup (k.map kV))/\r=uZ c k
def MK(H:Hp)(a:Addr)(y v:V)(d:Hp):Prop:=
 (∃c k,H a=some (.dK c)/\y=kV k/\c.length<sizeLine/\d=jY H a (.dK (qY c k v)))\/
 ∃c k b,H a=some (.dT c)/\y=.ref b/\H b=some (.tup (k.map kV))/\c.length<sizeLine/\d=jY H a (.dT (qY c k v))
def Dg.t{H:Hp}{a b:Addr}{kvs:List (List qP×V)}{k:List qP}(e:H a=some (.dT kvs))(c:H b=some (.tup (k.map kV))):Dg H a (.ref b) (uZ kvs k):=.inr ⟨kvs,k,b,.inl e,rfl,c,rfl⟩
def MK.t{H:Hp}{a b:Addr}{kvs:List (List qP×V)}{k:List qP}{v:V}(e:H a=some (.dT kvs))(c:H b=some (.tup (k.map kV)))(d:kvs.length<sizeLine) :
  MK H a (.ref b) v (jY H a (.dT (qY kvs k v))):=.inr ⟨kvs,k,b,e,rfl,c,d,rfl⟩
section
variable {X:Cx}{gO:List (Addr×Obj)}{σ:St}{H:Hp}{s:Shared}{a:Addr}{y v:V}{u r:Value}{o:Option V}{A:Around}{E:Value->Shared->Prop}
def iE.big(I:iE X gO σ H s):sysModules<s.heap.objs.size:=by have h:mainGlobals<s.heap.objs.size:=(I.mod.glob.keeps I.bk).lt;exact Nat.lt_trans (by decide) h
def IS(D:A.units+1<cLine)(I:iE X gO σ H s)(g:Dg H a y (some v))(x:jB y u)(h:∀f q,iE X gO σ H q->jB v f->Q f q) :
  wpAny (model X.prog X.w) A (getItem (.ref a) u) Q E s:=by
 rcases g with⟨n,k,e,m,l⟩|⟨n,k,b,e,m,B,l⟩
 .subst m;obtain⟨z,J,C,d,j⟩:=HE I.hok e;obtain⟨f,hw,c⟩:=uS.some_of (v:=v) (o:=valueAt C k) (by rw[l];exact d.val k);exact wpAny_getItem_of (Hi x) j.mapOf hw (h f _ (I.tok _) c)
 .subst m;cases (show u=Value.ref b from x);obtain⟨z,J,F,d,j⟩:=Hc I.hok e;obtain⟨f,hw,c⟩:=uS.some_of (v:=v) (o:=(atKey F k).map (·.2)) (by rw[l];exact d.val k);obtain⟨p,K,i⟩:=Option.map_eq_some_iff.mp hw;refine wpAny_getItem_heap (tupleKind_room_in1 D) (zC I.hok B) j K ?_;rw[i];exact h f _ (I.tok _) c
def V5(x:A.units+1<cLine)(I:iE X gO σ H s)(g:Dg H a y o)(n:jB y u)(h:∀m,iE X gO σ H m->Q (.bool o.isSome) m) :
  wpAny (model X.prog X.w) A (compareOp .In u (.ref a)) Q E s:=by
 rcases g with⟨j,k,e,i,l⟩|⟨j,k,b,e,i,p,l⟩
 .subst i;obtain⟨z,d,B,c,f⟩:=HE I.hok e;refine wpAny_in_of (Hi n) d f.mapOf ?_;rw[<-(c.val k).isSome_eq,<-l];exact h _ (I.tok _)
 .subst i;cases (show u=Value.ref b from n);obtain⟨z,d,C,c,f⟩:=Hc I.hok e;refine wpAny_in_heap (tupleKind_room_in1 x) (zC I.hok p) d f ?_;have q:=(c.val k).isSome_eq;rw[cF]at q;rw[<-q,<-l];exact h _ (I.tok _)
def Df(I:iE X gO σ H s)(d:Vq (H a))(c:Heap.SameBut a s.heap h')(g:∃q,h'.get? a=some q)(new:l6 X.prog X.w (jY H a ob) h' a ob) :
  iE X gO σ (jY H a ob) {s with heap:=h',toks:=t'}:=
 I.write (x:=a) (e:=a) d (.inl rfl) (λb q f z=>(c.2 b f).trans z) g new
def Td(z:kvs.length<=sizeLine)(c:(a==sysModules)=false)(b:KV kvs vs)(d:h'.DictOf (mv P w) a vs) :
  l6 P w H' h' a (.dK kvs):=⟨z,c,vs,b,d⟩
def Jr(Z:A.units+1<cLine)(I:iE X gO σ H s)(g:MK H a y v H')(P:jB y u)(K:jB v r)(h:∀N,iE X gO σ H' N->Q () N) :
  wpAny (model X.prog X.w) A (setItem (.ref a) u r) Q E s:=by
 rcases g with⟨f,k,e,C,l,x⟩|⟨f,k,b,e,C,F,l,x⟩
 .subst C x;obtain⟨z,m,Y,d,p⟩:=U0 I.hok e;have D:Y.length<=sizeLine:=by rw[<-d.length];exact z
  have n:(qY f k v).length<=sizeLine:=by have:=p7 f k v;omega
  refine wpAny_setItem_pairs (hsz:=D) (Hi P) p λJ i B=>h _ ?_;have U:∃q,J.get? a=some q:=let ⟨q,_,_,j,_⟩:=i;⟨q,j⟩;exact Df I (by rw[e];exact True.intro) B U (Td n m (d.put k K) i)
 .subst C x;cases (show u=Value.ref b from P);obtain⟨z,m,xs,d,p⟩:=Ra I.hok e;have D:xs.length<=sizeLine:=by rw[<-Paired.length d];exact z
  have n:(qY f k v).length<=sizeLine:=by have:=p7 f k v;omega
  refine wpAny_setItem_heap (hsz:=D) (tupleKind_room_in1 Z) (zC I.hok F) p λJ i B=>h _ ?_;obtain⟨q,es,ep,j,h2,S,h4,_,R⟩:=i;refine Df I (by rw[e];exact True.intro) B ⟨q,j⟩ ⟨n,m,_,(d.put k F K).keeps λc ys L=>?_,q,es,ep,j,h2,S,h4,R⟩;rw[ie (QI L e (λz=>nomatch z))];exact L
end
def Ta(i:Expr):Prop:=∀a b,subscripted i false a b=operate [a,b] (getItem a b)
theorem Ob{T id:String}
  (l:typeLookup (.type T) "__getitem__" = pure (some (.builtin id))) (k:Ta slice)
  (h:wpAny (model prog w) A (eval value env) (λo c=>wpAny (model prog w) A (eval slice env) (λi a=>a.TypeIs o T/\wpAny (model prog w) A (getItem o i) Q E a) E c) E s) :
  wpAny (model prog w) A (eval (.Subscript value slice pos) env) Q E s:=by
 refine Subscript_ (wpAny_mono h (λo c g=>wpAny_mono g (λi a b=>?_) λ_ _ x=>x) λ_ _ x=>x);obtain⟨j,b⟩:=b;unfold subscriptTail;refine ao ?_;rw[getitemInPython_of_ne j.not_modules];refine ao (wpAny_specialOf j l ?_);have e:wpAny (model prog w) A (subscripted slice false o i) (λr d=>wpAny (model prog w) A (letTemporaryGo value o r >>= λ_=>pure r) Q E d) E a:=by rw[k o i];exact wpAny_operating (wpAny_mono b (λr d f=>ao (wpAny_letTemporaryGo (ak f))) λ_ _ x=>x)
 first
  |exact ak (ao e)
  |exact ao (ak (ao e))
  |exact ao e
def Dj(I:iE X gO σ H s)(g:Dg H a y o):s.TypeIs (.ref a) "dict" :=by
 rcases g with⟨c,k,e,_,_⟩|⟨c,k,b,e,_,_,_⟩
 .obtain⟨_,_,f,_,d⟩:=HE I.hok e;exact d.typeIs
 .obtain⟨_,_,h,_,d⟩:=Hc I.hok e;exact d.typeIs
def L8(d ty:TE):TE:=λb H Q=>d b H λx e=>ty b e λy c=>∃a v,x=.ref a/\Dg c a y (some v)/\Q v c
def MY(d ty e:TE):TS:=λD b H=>e b H λv g=>d b g λx f=>ty b f λy h=>∃a c,x=.ref a/\MK h a y v c/\D.nx b c
section
variable {X:Cx}{o i e value:Expr}{pos pos' tpos:Pos}{td ty tv:TE}
def Po(l:X.A.units+1<cLine)(k:PE X o td)(m:PE X i ty)(j:Ta i):PE X (.Subscript o i pos) (L8 td ty):=by intro c s d H Q I h;refine Ob PySem.F.slot_dict_getitem.lookup j (lC (k c s d H _ I h) λu s1 ⟨x,H1,I1,rx,q1⟩=>lC (m c s1 d H1 _ I1 q1) λiv s2 ⟨y,H2,I2,ry,a,v,ex,g,q2⟩=>?_);subst ex;obtain rfl:u=Value.ref a:=rx;exact⟨Dj I2 g,IS l I2 g ry λp n f b=>⟨v,H2,f,b,q2⟩⟩
def OW(j:X.A.units+1<cLine)(f:PE X o td)(l:PE X i ty)(hv:PE X value tv)(d:swapsWith value (some (.Subscript o i pos')) pos.line X.env=pure false) :
  PS X (.Assign [.Subscript o i pos'] value pos) (MY td ty tv):=by
 intro c s b H D I h;refine wpAny_Assign_Subscript (lC (hv c s b H _ I h) λr s1 ⟨v,H1,I1,rv,q1⟩=>lC (f c s1 b H1 _ I1 q1) λu s2 ⟨x,H2,I2,rx,q2⟩=>lC (l c s2 b H2 _ I2 q2) λiv s3 ⟨y,H3,I3,ry,a,H4,ex,g,q3⟩=>?_) d;subst ex;obtain rfl:u=Value.ref a:=rx;exact Jr j I3 g ry rv λm k=>⟨b,H4,k,q3⟩
end
def Ex(h:Heap)(hb:sysModules<h.objs.size):l6 P w H (h.push {cls:=.type "dict",data:=.dict #[]}) h.objs.size (.dT []):=⟨bL _,beq_eq_false_iff_ne.mpr (Ne.symm (aM hb)),[],.nil,_,#[],0,ar _ rfl,⟨rfl,rfl,rfl⟩,rfl,rfl,List.nodup_nil⟩
def E3:TE:=λ_ H Q=>∀p,H p=none->Q (.ref p) (jY H p (.dT []))
section
variable {X:Cx}{pos:Pos}
def J8:PE X (.Dict [] [] pos) E3:=λb s c H Q I h=>wpAny_Dict_empty ⟨.ref s.heap.objs.size,_,I.laid (a:=s.heap.objs.size) (o:=.dT []) (t':=s.toks) (λ_ _ q=>ae _ q) (aK _) (Ex s.heap I.big),rfl,h _ (I.hok.fresh (aK _))⟩
end
end L2
namespace L2
open PySem PySem.Spec PyProof.Rows Builtin
def ye:fillsNumberSlot (.type "tuple") "mul" = pure false:=PySem.fillsNumberSlot_seq F.slot_tuple_mul.lookup (by decide +kernel) F.slot_tuple_rmul.lookup (by decide +kernel)
def BL:seqRepeat? (.type "tuple")=pure (some (.builtin "tuple.__mul__")):=by unfold seqRepeat?;rw[PySem.seqSlot_of (name:= "__mul__") F.slot_tuple_mul.lookup (by decide +kernel),PySem.seqSlot_of (name:= "__rmul__") F.slot_tuple_rmul.lookup (by decide +kernel)];rfl
def yU a t l dct its n sl :
  Meets (Builtin.«int.__rmul__» ⟨[.int a t,.ref l],[]⟩) (λ_ R s=>s.heap.get? l=some ⟨.type "tuple",dct,.seq its n,sl⟩/\R (.ok (.ret Value.notImplemented)) s):=
 .of_wp λb w A R s h=>by obtain⟨e,g,d,f,c⟩:=s;obtain⟨i,h⟩:=h;wp_walk;exact⟨_,rfl,h⟩
def AL a t l dct its n sl (I:-(2 ^ 63)<=a) (E:a<2 ^ 63) (m:its.size*a.toNat<=sizeLine) :
  Meets (Builtin.«tuple.__mul__» ⟨[.ref l,.int a t],[]⟩) (λ_ R s=>s.heap.get? l=some ⟨.type "tuple",dct,.seq its n,sl⟩/\((its.isEmpty=true\/a=1)->R (.ok (.ret (.ref l))) s)/\
   (¬(its.isEmpty=true\/a=1)->a<=0->R (.ok (.ret (.ref s.heap.objs.size))) {s with heap:=s.heap.push {cls:=.type "tuple",data:=.seq #[]}})/\
   (¬(its.isEmpty=true\/a=1)->0<a->R (.ok (.ret (.ref s.heap.objs.size))) {s with heap:=s.heap.push {cls:=.type "tuple",data:=.seq ((List.replicate a.toNat its).foldl (·++·) #[])}})):=
 .of_wp λk w A R s h=>by
  obtain⟨H,g,d,y,C⟩:=s;obtain⟨D,v,q,u⟩:=h;have o:¬(decide (a < -2 ^ 63)||decide (a >= 2 ^ 63))=true:=by simp;omega
  wp_walk;rw[aR o];wp_walk;by_cases b:its.isEmpty=true\/a=1
  .rw[aQ (by rcases b with c|c<;>simp[c])];wp_walk;exact⟨_,rfl,v b⟩
  .rw[aR (by intro z;exact b (by simpa using z))];by_cases j:a<=0
   .rw[aQ (by simp[j])];wp_walk;exact⟨_,rfl,q b j⟩
   .have r:¬its.isEmpty=true:=λz=>b (.inl z);have B:its.size*a<=sizeLine:=by
     have:((its.size*a.toNat:Nat):Int)<=sizeLine:=by exact_mod_cast m
     rw[Int.natCast_mul,cG (by omega)]at this;exact this
    have F:(sizeLine:Int)=2 ^ 24:=by decide
    rw[aR (by simp[j,r]),aR (by omega)];rw[aR (by simp[Tuple.tupleTooMany];omega)];have p:(List.foldl (λi f=>i++f) #[] (List.replicate a.toNat its)).size<=sizeLine:=by
     have e:=uu its.toList a.toNat [];simp only[b8]at e;have x:List.foldl (λi f=>i++f) #[] (List.replicate a.toNat its)=(List.replicate a.toNat its.toList).flatten.toArray:=by simpa using e
     rw[x,bG,BP,b9];simpa using m
    wp_walk;exact⟨_,rfl,u b (by omega)⟩
section
variable {X:Cx}
def Mo:R2:=λx y H Q=>∃l k a,x=.ref l/\y=.int k/\H l=some (.tup a)/\-(2 ^ 63)<=k/\k<2 ^ 63/\a.length*k.toNat<=sizeLine/\((a=[]\/k=1)->Q (.ref l) H)/\
 (¬(a=[]\/k=1)->∀p,H p=none->Q (.ref p) (jY H p (.tup (List.replicate k.toNat a).flatten)))
def Qt:rz X (binaryOp .Mult) Mo:=by
 intro gO s σ H x y v u Q I P N h;obtain⟨l,k,i,rfl,rfl,R,h1,K,A,S,m⟩:=h;cases P;obtain⟨t,rfl⟩:=N;obtain⟨a,r,⟨⟨c,d,dt,p⟩,e,Z,n,D⟩,_⟩:=I.tuple (oH.of R);subst Z;subst D;have E:=r.length;have B:a.toArray.size*k.toNat<=sizeLine:=by rw[bG,<-E];exact A
 have j:a.toArray.isEmpty=true↔i=[]:=by
  cases r with
  |nil=>simp
  |cons _ _=>simp
 have f:(a.toArray.isEmpty=true\/k=1)↔(i=[]\/k=1):=by rw[j]
 have g:List.foldl (λY C=>Y++C) #[] (List.replicate k.toNat a.toArray)=(List.replicate k.toNat a).flatten.toArray:=by have:=uu a k.toNat [];rw[b8]at this;exact this
 have fr:=I.fresh;refine wpAny_binaryOp_repeat_ref (by decide) ⟨_,e,rfl⟩ (λJ=>typeIs_int J k t) ye F.fills_int_mul F.slot_int_rmul BL F.slot_int_index.lookup
  (call_meets F.slot_int_rmul (typeIs_int s k t) F.entry_int_rmul (F.args_int_rmul_2 _ _) (yU k t l d a.toArray n p)
   ⟨e,rfl,⟨_,e,rfl⟩,call_meets F.slot_tuple_mul ⟨_,e,rfl⟩ F.entry_tuple_mul (F.args_tuple_mul_2 _ _) (AL k t l d a.toArray n p h1 K B) ⟨e,λz=>?_,λz w=>?_,λz w=>?_⟩⟩)
 .exact⟨.ref l,H,I,rfl,S (f.mp z)⟩
 .have U:k.toNat=0:=by omega
  have q:=m (λy=>z (f.mpr y)) s.heap.objs.size fr;rw[U]at q;exact⟨.ref _,_,I.laid (o:=.tup []) (λb L q=>ae _ q) (aK _) ⟨bL _,[],.nil,yS.new _ _⟩,rfl,q⟩
 .rw[g];refine⟨.ref _,_,I.laid (o:=.tup (List.replicate k.toNat i).flatten) (λb L q=>ae _ q) (aK _) ⟨?_,_,r.rep k.toNat,yS.new _ _⟩,rfl,m (λy=>z (f.mpr y)) _ fr⟩;rw[BP,b9];exact A
def EC:V->Option Bool
 |.bl b=>some b
 |.int i=>some (i != 0)
 |_=>none
def oF:List V->Option (List Bool)
 |[]=>some []
 |v::vs=>(EC v).bind λb=>(oF vs).bind λr=>some (b::r)
theorem Bj:∀{vs} {bs} {us} {i} {u},oF vs=some bs->ji vs us->us[i]? = some u->∃v,jB v u/\EC v=some (bs.getD i false)
 |[],_,_,_,_,_,.nil,e=>by simp at e
 |v::vs,bs,_,i,u,h,.cons r t,e=>by
  cases hv:EC v with
  |none=>simp[oF,hv]at h
  |some b=>
   cases hr:oF vs with
   |none=>simp[oF,hv,hr]at h
   |some r'=>
    simp[oF,hv,hr]at h;subst h;cases i with
    |zero=>simp at e;subst e;exact⟨v,r,by simpa using hv⟩
    |succ i=>obtain⟨d,a,c⟩:=Bj hr t (by simpa using e);exact⟨d,a,by simpa using c⟩
theorem BE:∀{vs} {bs},oF vs=some bs->vs.length=bs.length
 |[],_,h=>by cases h;rfl
 |v::vs,bs,h=>by
  cases hv:EC v with
  |none=>simp[oF,hv]at h
  |some b=>
   cases hr:oF vs with
   |none=>simp[oF,hv,hr]at h
   |some r'=>simp[oF,hv,hr]at h;subst h;simp[BE hr]
def zc(h:oF vs=some bs)(r:ji vs us):TruthOf prog w A (λi v=>us.toArray[i]? = some v) (λi=>bs.getD i false):=λi u s Q E e a=>by
 obtain⟨v,d,c⟩:=Bj h r (by simpa using e);dsimp only at a;cases v with
 |bl b=>
  cases d;have:b=bs.getD i false:=by simpa[EC] using c
  rw[<-this]at a;exact wpAny_truthy_bool a
 |int n=>
  obtain⟨t,rfl⟩:=d;have:(n != 0)=bs.getD i false:=by simpa[EC] using c
  rw[<-this]at a;exact PyProof.Rows.truthy_int a
 |_=>simp[EC]at c
def Ia(n:X.calm=true):lX X (.builtin "any") (λm H Q=>∃p vs bs,m=[.ref p]/\(mN X.K H p vs\/oH X.K H p vs)/\oF vs=some bs/\Q (.bl (bs.any id)) H):=by
 intro E s D H m F Q I r h;obtain⟨p,vs,bs,rfl,g,d,q⟩:=h;obtain⟨u,rfl,B⟩:=qc r;cases B;have x:=BE d;rcases g with g|g
 .obtain⟨c,j,f,C⟩:=I.list g;have w:=j.length;have a:p<s.heap.objs.size:=by obtain⟨_,e,_⟩:=f.isList;exact aL e
  refine call_any_walk (wpAny_pyIter_list f.isList ⟨s.heap.objs.size,_,_,_,_,_,λi=>bs.getD i false,rfl,Walks.list (A:=X.A.in1) (I.ok.hd n) _ p (aM a) _,⟨⟨_,ar _ rfl,rfl,rfl⟩,f.isList.push _⟩,zc d j,λy v l=>?_⟩);refine⟨.bl _,H,I.kept (λb o e=>l b o (λk=>?_) (ae _ e)),rfl,?_⟩
  .have lt:=aL e;have z:b=s.heap.objs.size:=by simpa using k
   rw[z]at lt;exact a9 _ lt
  .rw[<-Bm]at q;have:c.toArray.size=bs.length:=by rw[bG];omega
   rw[this];exact q
 .obtain⟨c,j,f,C⟩:=I.tuple g;have w:=j.length;have a:p<s.heap.objs.size:=by obtain⟨_,e,_⟩:=f;exact aL e
  have pt:=f;refine call_any_walk (wpAny_pyIter_tuple pt ⟨s.heap.objs.size,_,_,_,_,_,λi=>bs.getD i false,rfl,Walks.tuple (A:=X.A.in1) (I.ok.hd n) _ p (aM a) _,⟨⟨_,ar _ rfl,rfl,rfl⟩,pt.push _⟩,zc d j,λy v l=>?_⟩);refine⟨.bl _,H,I.kept (λb o e=>l b o (λk=>?_) (ae _ e)),rfl,?_⟩
  .have lt:=aL e;have z:b=s.heap.objs.size:=by simpa using k
   rw[z]at lt;exact a9 _ lt
  .rw[<-Bm]at q;have:c.toArray.size=bs.length:=by rw[bG];omega
   rw[this];exact q
def Mg:rz X (compareOp .Is) (λx y H Q=>∃a b,x=.bl a/\y=.bl b/\Q (.bl (a==b)) H):=by intro e s f H x y v u Q I d c h;obtain⟨a,b,rfl,rfl,q⟩:=h;cases d;cases c;exact ak ⟨.bl (a==b),H,I,by cases a<;>cases b<;>rfl,q⟩
def AS:rz X (compareOp .IsNot) (λx y H Q=>∃a b,x=.bl a/\y=.bl b/\Q (.bl (!(a==b))) H):=by intro e s f H x y v u Q I d c h;obtain⟨a,b,rfl,rfl,q⟩:=h;cases d;cases c;exact ak ⟨.bl (!(a==b)),H,I,by cases a<;>cases b<;>rfl,q⟩
end
end L2
namespace L2
open PySem PySem.Spec PyProof.Rows
section
variable {prog:Program}{w:World}{A:Around}{E:Value->Shared->Prop}{s:Shared}
def Jm{i:Nat}{Q:Value->Shared->Prop}(y:IsEnum s.heap e it i old)(hi:mH b s.heap it l i)(hl:j5 b s.heap l xs)(j:e≠it)
  (z:∀x h,xs[i]? = some x->IsEnumOut h e it ((i:Int)+1) x s.heap.objs.size->mH b h it l (i+1)->h.get? s.heap.objs.size=some {cls:=.type "tuple",data:=.seq #[.int i s.toks,x]}->h.objs.size=s.heap.objs.size+1->
   (∀c o,c≠e->c≠it->s.heap.get? c=some o->h.get? c=some o)->Q (.ref s.heap.objs.size) {s with heap:=h,toks:=s.toks+1})
  (Y:xs[i]? = none->A.handled=none/\∀h x,Heap.ExtBut it s.heap h->(∃o,h.get? x=some o/\o.cls=.type "StopIteration")->E (.ref x) {s with heap:=h}) :
  wpAny (model prog w) A (Builtin.«enumerate.__next__» ⟨[.ref e],[]⟩) (λC s'=>∃v,C=.done (.ret v)/\Q v s') E s:=by
 obtain⟨N,g,d,K,os⟩:=s;show wpAny _ _ (field (.ref e) 2 >>= λ_=>_) _ _ _;refine ao (wpAny_field y rfl rfl (ao (vz hi hl (λx g1 hx t1 k1=>?_) Y)));have k:=k1;have r:=(k.2 e j).trans y;refine ao (wpAny_field r rfl rfl ?_);refine ao (wpAny_field r rfl rfl ?_);refine ao (wpAny_mkInt (ao (wpAny_setField_rec r (by simp) λg2 U D=>?_)));have z2:=U;refine ao (wpAny_setField_rec z2 (by simp) λm Z H=>?_);have z3:=Z;refine ao (wpAny_newTuple ?_);have sz:m.objs.size=N.objs.size:=by have a:=H.1;have c:=D.1;have u:=k.1;dsimp only at a c u;omega
 have F:IsEnum (m.push {cls:=.type "tuple",data:=.seq #[.int i K,x]}) e it (i+1) old:=ae _ z3;have el:=aL y;have B:∀c o,c≠e->c≠it->N.get? c=some o->m.get? c=some o:=λc o f I q=>H.extBut c o f (D.extBut c o f (k.extBut c o I q));unfold Builtin.SmallTypes.ownedTupleIsFree;refine ao (ao (wpAny_field F rfl rfl (ak ?_)));simp only[if_true];refine ao (wpAny_rule (ao (wpAny_field F rfl rfl (ao (wpAny_setField_rec F (by simp) λg5 y5 S=>?_)))));have z5:=y5;unfold Builtin.SmallTypes.ownedTupleHandOut;refine ao (ao (wpAny_setField_rec z5 (by simp) λg6 X P=>?_));have z6:=X;refine wpAny_setField_rec z6 (by simp) λp y7 R=>?_;have L:=y7;have up:∀c o,c≠e->(m.push {cls:=.type "tuple",data:=.seq #[.int i K,x]}).get? c=some o->p.get? c=some o:=λc o f q=>R.extBut c o f (P.extBut c o f (S.extBut c o f q));have n:∀c o,c≠e->m.get? c=some o->p.get? c=some o:=λc o f q=>up c o f (ae _ q);have tp:=up _ _ (by rw[sz];exact bC el) (ar _ rfl);have J:p.objs.size=m.objs.size+1:=by have a:=R.1;have c:=P.1;have u:=S.1;dsimp only at a c u;rw[Heap.size_push]at u;omega
 refine ao (wpAny_letGo (ak ⟨_,rfl,?_⟩));rw[sz]at L tp J ⊢;exact z x p hx L (t1.to λo q=>n it o (Ne.symm j) (H.extBut it o (Ne.symm j) (D.extBut it o (Ne.symm j) q))) tp J λc o f I q=>n c o f (B c o f I q)
def wL{i:Nat}(g:IsEnum s.heap e it i old)(n:mH b s.heap it l i)(m:j5 b s.heap l xs)(d:e≠it)
  (f:∀x a,xs[i]? = some x->IsEnumOut a e it ((i:Int)+1) x s.heap.objs.size->mH b a it l (i+1)->a.get? s.heap.objs.size=some {cls:=.type "tuple",data:=.seq #[.int i s.toks,x]}->a.objs.size=s.heap.objs.size+1->
   (∀c o,c≠e->c≠it->s.heap.get? c=some o->a.get? c=some o)->Q (some (.ref s.heap.objs.size)) {s with heap:=a,toks:=s.toks+1})
  (h:xs[i]? = none->A.handled=none/\∀a,Heap.ExtBut it s.heap a->Q none {s with heap:=a}):wpAny (model prog w) A (pyNext (.ref e)) Q E s:=by
 have ty:s.TypeIs (.ref e) "enumerate" :=⟨_,g,rfl⟩;unfold pyNext;refine ao (wpAny_attempt (wpAny_callSpecial?_slot ty F.slot_enumerate_next (wpAny_call_entry F.slot_enumerate_next ty F.entry_enumerate_next
  (Jm g n m d (λx a v p u k j r=>ak (f x a v p u k j r)) λq=>⟨(h q).1,λa x hk ⟨o,ho,hc⟩=>?_⟩) (F.args_enumerate_next_1 _))))
 exact ao (wpAny_isInstance ⟨o,ho,hc⟩ isSubtype_stop (ak ((h q).2 a hk)))
noncomputable abbrev eo(b:Bool)(l:Addr):Obj:={cls:=.type (Ai b),data:=.fields #[.ref l,.int 0 0]}
abbrev en(p:Addr):Obj:={cls:=.type "enumerate",data:=.fields #[.none,.bool false,.ref p,rawInt 0,.none,.none]}
def E6 b l xs:Meets (Builtin.«enumerate.__new__» ⟨[.type "enumerate",.ref l],[]⟩) (λ_ R s=>j5 b s.heap l xs/\
  R (.ok (.ret (.ref (s.heap.push (eo b l)).objs.size))) {s with heap:=(s.heap.push (eo b l)).push (en s.heap.objs.size)}):=by
 refine .of_wp λprog w A R s h=>?_;obtain⟨r,g,d,k,m⟩:=s;obtain⟨i,e⟩:=h;have f:=sub_enumerate;have a:=i;obtain⟨o,n,j,p⟩:=a.look;wp_walk using qM a;refine wpAny_stack_any λq=>ak ?_;split
 .rename_i c _ _ _ _ _;cases (c==Value.type "enumerate")
  .wp_walk using qM a;exact⟨_,rfl,e⟩
  .wp_walk using qM a;exact⟨_,rfl,e⟩
 .wp_walk using qM a;exact⟨_,rfl,e⟩
def Bc(g:j5 b s.heap l xs)
  (h:∀a,IsEnum a (s.heap.objs.size+1) s.heap.objs.size 0 .none->mH b a s.heap.objs.size l 0->a.objs.size=s.heap.objs.size+2->(∀c o,s.heap.get? c=some o->a.get? c=some o)->Q (.ref (s.heap.objs.size+1)) {s with heap:=a}) :
  wpAny (model prog w) A (call (.type "enumerate") [.ref l]) Q E s:=by
 refine callType_new F.called_enumerate (by decide) (F.typeCall_enumerate_1 _) (F.newCall_enumerate_1 _) (λd=>F.args_object_init_2 d _) F.entry_enumerate_new (E6 b l xs) ⟨g,?_⟩;have e:(s.heap.push (eo b l)).objs.size=s.heap.objs.size+1:=Heap.size_push ..;have f:=ar (s.heap.push (eo b l)) (o:=en s.heap.objs.size) rfl;rw[e]at f;rw[e];exact⟨⟨_,f,rfl⟩,h _ f (.of ⟨_,ae _ (ar _ rfl),rfl,rfl⟩) (by rw[Heap.size_push,e]) λc o q=>ae _ (ae _ q)⟩
end
noncomputable def Wn(K:W.Frag)(b:Bool)(l:Addr):It:=
  ⟨λi H=>∃a x,xZ K H b l a/\a[i]? = some x,
   λi H v c=>∃p x,v=.ref p/\H p=none/\c=jY H p (.tup [.int i,x])/\∀a,xZ K H b l a->a[i]? = some x,
   λi H=>∃a,xZ K H b l a/\a.length<=i⟩
def Iv{K:W.Frag}{x1}(p:e≠it) :
  Et P w K (.Tuple elts x1 pos) (Wn K b l) [e,it] e (λi h=>(∃a,IsEnum h e it i a)/\mH b h it l i) where
 mem:=by simp
 obj:=λi h j c J=>by
  obtain⟨⟨a,g⟩,m⟩:=j;have mem:c=e\/c=it:=by simpa using J
  rcases mem with rfl|rfl
  .exact⟨_,g,λv q=>by cases q⟩
  .obtain⟨o,q,_,d⟩:=m.look;exact⟨o,q,λv q'=>by rw[d]at q';cases q'⟩
 keep:=λi h R j k=>by obtain⟨⟨a,g⟩,m⟩:=j;exact⟨⟨a,k e (by simp) _ g⟩,m.to λo q=>k it (by simp) o q⟩
 item:=by
  intro X N hw S J i gO s σ H E I D j Y;subst N hw S;obtain⟨⟨a,g⟩,m⟩:=j;obtain⟨xs,x,F,e1⟩:=Y;obtain⟨B,U,Z,z1⟩:=I.seqB F;obtain⟨u,gu,ru⟩:=U.get e1;have y:=I.fpOk (aK _) (I.hok.fresh (aK _));refine wL g m Z p (λC R n a1 a2 a3 a4 L=>?_) λq=>?_
  .have eu:C=u:=by
    have:B[i]? = some C:=by simpa using n
    rw[gu]at this;cases this;rfl
   subst eu;refine⟨_,rfl,wpAny_letOwnedTupleGo_enum a1 λQ A sb=>?_⟩;have r:=sb;have zT:=bC (aL g);have I1:=I.turnedL (t':=s.toks+1) (λb o f q=>r.extBut _ _ (λz=>f (by simp[z])) (L b o (λz=>f (by simp[z])) (λz=>f (by simp[z])) q)) (λb f=>D b f);have gT:=r.extBut _ _ zT a3;have I2:iE X gO σ (jY H s.heap.objs.size (.tup [.int i,x])) {s with heap:=Q,toks:=s.toks+1}:=I1.track y.1 y.2.2.2.1 y.2.1 y.2.2.2.2.1 y.2.2.2.2.2
    ⟨by show 2<=sizeLine;decide,[.int i s.toks,C],.cons ⟨_,rfl⟩ (.cons ru .nil),⟨_,gT,rfl,_,rfl,rfl⟩⟩
   have lt:∀{b o},s.heap.get? b=some o->jY H s.heap.objs.size (.tup [.int i,x]) b=H b:=λ{b o} q=>ie (aM (aL q));refine⟨.ref s.heap.objs.size,_,I2,rfl,⟨_,x,rfl,y.1,rfl,λxs' h=>by rw[I.seqB_inj h F];exact e1⟩,?_,λb f=>?_⟩
   .exact⟨⟨_,A⟩,a2.to λo q=>r.extBut _ o (Ne.symm p) q⟩
   .have mem:b=e\/b=it:=by simpa using f
    have hn:=(D b f).1;obtain⟨o1,g1,_⟩:=m.look;rcases mem with rfl|rfl
    .rw[lt g];exact hn
    .rw[lt g1];exact hn
  .exfalso;have m1:B.toArray[i]? = some u:=by simpa using gu
   rw[m1]at q;cases q
 done:=by
  intro X N hw S J i gO s σ H E I D j Y;subst N hw S;obtain⟨⟨a,g⟩,m⟩:=j;obtain⟨xs,F,hl⟩:=Y;obtain⟨B,U,Z,z1⟩:=I.seqB F;have n1:=U.length;refine wL g m Z p (λC R n a1 a2 a3 a4 L=>?_) λq=>⟨I.ok.hd J,λR L=>⟨rfl,I.turnedL (ch:=[it]) (λb o f q=>L b o (λz=>f (by simp[z])) q) λb f=>D b (by
   have:b=it:=by simpa using f
   simp[this])⟩⟩
  exfalso;have m1:i<B.length:=by
   have:B[i]? = some C:=by simpa using n
   exact (aa.mp this).1
  omega
 self:=λ_ _ _ _ _ j h=>by obtain⟨⟨a,g⟩,_⟩:=j;exact wpAny_pyIter_enum g h
section
variable {X:Cx}
def Na(K:W.Frag)(b:Bool)(c:TA):TI:=λe H R=>c e H λd a=>∃l,d=[.ref l]/\(∃f,xZ K a b l f)/\R (Wn K b l) a
def J7{x1}(y:Gl X "enumerate")(i:X.mg "enumerate" = none)(r:PA X [a] ta)(x:starEach [a] X.env=[(false,eval a X.env)]:=by rfl) :
  PI X (.Tuple elts x1 tpos) (.Call (.Name "enumerate" p) [a] [] pos) (Na X.K b ta):=by
 intro j s g H R I h;refine Call_ (rC I y i boot_enumerate (PyProof.Rows.callWith_type1 (lC (r pos j s g H _ I h) λk s1 ⟨vs,H1,I1,r1,d⟩=>?_) x rfl));obtain⟨l,rfl,⟨B,d⟩,q⟩:=d;obtain⟨u,rfl,w⟩:=qc r1;cases w;obtain⟨k,m,z,_⟩:=I1.seqB d;refine Bc z λC e o n A=>?_;refine wpAny_pyIter_enum e ?_;refine⟨_,_,_,_,H1,rfl,I1.kept A,Iv (Nat.succ_ne_self _),⟨⟨_,e⟩,o⟩,λb v=>?_,q⟩;have c:b=s1.heap.objs.size+1\/b=s1.heap.objs.size:=by simpa using v
 have f:s1.heap.objs.size<=b:=by rcases c with rfl|rfl<;>omega
 exact I1.fpOk f (I1.hok.fresh f)
end
end L2
namespace HT
open PySem PySem.Spec PyProof.Rows
section
variable {prog:Program}{w:World}{A:Around}{E:Value->Shared->Prop}{s:Shared}
def getItem_tuple_all{a d:Option Int}(b:IsTup s.heap t items)(i:s.heap.IsSliceOf sl vl vu .none)(j:IsPart vl a)(m:IsPart vu d)
  (hw:sIx items.size 0 a=0/\sIx items.size items.size d=items.size) (h:Q (.ref t) s):wpAny (model prog w) A (getItem (.ref t) (.ref sl)) Q E s:=by
 obtain⟨k,f,g,l⟩:=id i;have e:s.TypeIs (.ref sl) "slice" :=⟨k,f,g⟩;unfold getItem;try with_reducible refine wpAny_holding ?_;first|refine ao (ak ?_)|skip
 refine ao (wpAny_sequenceKey b.typeIs (by decide) ?_);refine ao (wpAny_callSpecial?_slot b.typeIs PyProof.Rows.slot_tuple_getitem
  (wpAny_call_entry PyProof.Rows.slot_tuple_getitem b.typeIs entry_tuple_getitem ?_ (args_tuple_getitem _ _)))
 show wpAny _ _ (Builtin.Tuple.tupleItemsOf (.ref t) >>= _) _ _ s;refine ao (tupleItemsOf_ b ?_);refine ao (wpAny_typeOf e ?_);rw[aQ (by decide)];refine ao (qW i j m ?_);have c:(((sIx items.size 0 a):Int)==0&&(1:Int)==1&&(sIx items.size items.size d-sIx items.size 0 a)==items.size)=true:=by rw[hw.1,hw.2];simp
 show wpAny _ _ (if (((sIx items.size 0 a):Int)==0&&1==1&&(sIx items.size items.size d-sIx items.size 0 a)==items.size)=true then _ else _) _ _ s;rw[aQ c];refine ao (ao (wpAny_typeOf b.typeIs (ak ?_)));rw[aQ (by decide)];refine ao (wpAny_rule ?_);exact ak ⟨_,rfl,ak h⟩
end
end HT
namespace L2
open PySem PySem.Spec PyProof.Rows
section
variable {X:Cx}
def Vb(K:W.Frag):V->Option Int->Option Int->Hp->VK->Prop:=λx c d H Q=>∃a b,x=.ref a/\oH K H a b/\(HT.sIx b.length 0 c=0/\HT.sIx b.length b.length d=b.length)/\Q (.ref a) H
def Qu:Q0 X (Vb X.K):=by
 intro n s l H x v u o m p w Q I i j d g h;obtain⟨a,f,rfl,k,hw,q⟩:=h;cases i;obtain⟨b,r,c,y⟩:=I.tuple k;have e:b.toArray.size=f.length:=by rw[bG];exact r.length.symm
 refine⟨"tuple",_,PyProof.Rows.slot_tuple_getitem.lookup,c.typeIs,?_⟩;exact HT.getItem_tuple_all c j d g (by rw[e];exact hw) ⟨.ref a,H,I,rfl,q⟩
end
end L2
namespace L2
open PySem PySem.Spec PyProof.Rows
section
variable {prog:Program}{w:World}{A:Around}{E:Value->Shared->Prop}{s:Shared}{d it:Addr}{es:Array DictEntry}{ep i:Nat}
def wR(h:Heap)(d:Addr)(es:Array DictEntry)(ep:Nat):Prop:=∃o,h.get? d=some o/\o.ExactDict/\o.data=.dict es ep
def wR.to(x:wR h d es ep)(k:∀o,h.get? d=some o->h'.get? d=some o):wR h' d es ep:=let ⟨o,a,r⟩:=x;⟨o,k o a,r⟩
def wR.lt(x:wR h d es ep):d<h.objs.size:=let ⟨_,a,_⟩:=x;aL a
def wR.ty(x:wR s.heap d es ep):s.TypeIs (.ref d) "dict" :=let ⟨o,a,c,_⟩:=x;⟨o,a,c.1⟩
def Mn(e:(d==sysModules)=false)(x:wR s.heap d es ep)
  (q:Q (.ref s.heap.objs.size) {s with heap:=s.heap.push {cls:=.type "dict_keyiterator",data:=.fields #[.ref d,.int 0 0,.int es.size 0,.int ep 0]}}):wpAny (model prog w) A (pyIter (.ref d)) Q E s:=by
 obtain⟨o,a,c,b⟩:=id x;refine wpAny_pyIter_slot x.ty F.slot_dict_iter (wpAny_call_entry F.slot_dict_iter x.ty F.entry_dict_iter ?_ (F.args_dict_iter_1 _));unfold Builtin.«dict.__iter__»;refine ao ?_;unfold Builtin.Dict.dictSlotNone;refine ao (wpAny_notOrdered_dict x.ty ?_);show wpAny _ _ (pure (Value.ref d)) _ _ s;refine ak ?_;show wpAny _ _ (Builtin.Dict.showsAll d >>= λ_=>_) _ _ s;unfold Builtin.Dict.showsAll;rw[aR (by rw[e];exact λz=>nomatch z)];refine ao (ak (ao (wpAny_dictEntries a b (ao (wpAny_dictEpoch a b ?_)))));refine ao (wpAny_newObj_type (ak ⟨_,rfl, "dict_keyiterator",_,⟨_,ar _ rfl,rfl⟩,F.slot_dict_keyiterator_next.lookup,?_⟩));simpa[rawInt] using q
def Ts(j:s.heap.IsKeyIter it d i es.size ep)(x:wR s.heap d es ep) hi
  (q:∀f,f.IsKeyIter it d (i+1) es.size ep->Heap.SameBut it s.heap f->Q (some es[i].key) {s with heap:=f}):wpAny (model prog w) A (pyNext (.ref it)) Q E s:=by
 obtain⟨o,a,c,b⟩:=id j;obtain⟨l,g,m,k⟩:=id x;have e:Builtin.Dict_items.ownsTuple "dict_keyiterator" = false:=by decide
 unfold pyNext;refine ao (wpAny_attempt (wpAny_callSpecial?_slot j.typeIs F.slot_dict_keyiterator_next (wpAny_call_entry F.slot_dict_keyiterator_next j.typeIs F.entry_dict_keyiterator_next ?_ (F.args_dict_keyiterator_next_1 _))));refine ao (ak (ao (ao ?_)));first|refine ao (wpAny_typeNameOfWhole_keyiter j.typeIs (ak (ao (wpAny_fieldsOf a b ?_))))|refine ao (wpAny_typeNameOf_keyiter j.typeIs (ak (ao (wpAny_fieldsOf a b ?_))))
 simp only[e,cj,if_false];show wpAny _ _ (if (Value.ref d==Value.none)=true then _ else _) _ _ s;rw[aR (λz=>nomatch z)];refine ao (ak (ao (wpAny_dictEntries g k ?_)));rw[aR (by simp)];refine ao (ak (ao (wpAny_dictEpoch g k ?_)));rw[aR (by simp)];refine ak ?_;simp only[show ¬(i<0) from by omega,if_false,bT,Array.getElem?_eq_getElem hi];refine ao ?_;first|refine ao (wpAny_typeNameOfWhole_keyiter j.typeIs (ak (ao (wpAny_isOneOf_keyiter j.typeIs ?_))))|refine ao (wpAny_typeNameOf_keyiter j.typeIs (ak (ao (wpAny_isOneOf_keyiter j.typeIs ?_))))
 show wpAny _ _ (setField (.ref it) 1 (rawInt (i+1)) >>= λ_=>_) _ _ s;refine ao (wpAny_setField a b (by simp) ?_);have h:(s.heap.update it (Obj.mapFields (·.setIfInBounds 1 (rawInt (i+1))))).IsKeyIter it d (i+1) es.size ep:=⟨_,Heap.get?_update_self _ a (Obj.isFreed_of_fields (Obj.data_mapFields b _)),(Obj.cls_mapFields ..).trans c,by rw[Obj.data_mapFields b];simp[rawInt]⟩
 refine ao (wpAny_holding (ao (wpAny_isOneOf_keyiter h.typeIs ?_)));exact ak (ak ⟨_,rfl,ak (q _ h (Heap.SameBut.update ..))⟩)
def Pk(k:A.handled=none)(j:s.heap.IsKeyIter it d es.size es.size ep)(x:wR s.heap d es ep)(q:∀h,Heap.ExtBut it s.heap h->Q none {s with heap:=h}) :
  wpAny (model prog w) A (pyNext (.ref it)) Q E s:=by
 obtain⟨o,a,c,b⟩:=id j;obtain⟨l,f,m,g⟩:=id x;have e:Builtin.Dict_items.ownsTuple "dict_keyiterator" = false:=by decide
 unfold pyNext;refine ao (wpAny_attempt (wpAny_callSpecial?_slot j.typeIs F.slot_dict_keyiterator_next (wpAny_call_entry F.slot_dict_keyiterator_next j.typeIs F.entry_dict_keyiterator_next ?_ (F.args_dict_keyiterator_next_1 _))));refine ao (ak (ao (ao ?_)));first|refine ao (wpAny_typeNameOfWhole_keyiter j.typeIs (ak (ao (wpAny_fieldsOf a b ?_))))|refine ao (wpAny_typeNameOf_keyiter j.typeIs (ak (ao (wpAny_fieldsOf a b ?_))))
 simp only[e,cj,if_false];show wpAny _ _ (if (Value.ref d==Value.none)=true then _ else _) _ _ s;rw[aR (λz=>nomatch z)];refine ao (ak (ao (wpAny_dictEntries f g ?_)));rw[aR (by simp)];refine ao (ak (ao (wpAny_dictEpoch f g ?_)));rw[aR (by simp)];refine ak ?_;simp only[show ¬(es.size<0) from by omega,if_false,bT,Array.getElem?_eq_none (aK es.size)];refine ao ?_;first|refine ao (wpAny_typeNameOfWhole_keyiter j.typeIs (ak ?_))|refine ao (wpAny_typeNameOf_keyiter j.typeIs (ak ?_))
 show wpAny _ _ (setField (.ref it) 0 .none >>= λ_=>_) _ _ s;refine ao (wpAny_setField a b (by simp) ?_);refine ao ?_;simp only[newExc,newTuple];refine ao (wpAny_newObj_type ?_ (by size_fits));refine ao (wpAny_of_eq (by first|rfl|(simp only[firstArgMember];rfl)) ?_);refine wpAny_newObj_type ?_ (by size_fits);simp only[raiseNew];refine ao (wpAny_handled ?_);rw[show A.in1.handled=none from k];refine ao (ak (wpAny_throw ?_));refine ao (wpAny_isInstance ⟨_,ar _ rfl,rfl⟩ isSubtype_stop ?_);exact ak (q _ (((Heap.SameBut.update ..).extBut.push _).push _))
def JC(g:A.handled=none) I d (ne:d≠I) es ep :
  Walks prog w A I [I,d] [I] es.size (λi v=>∃e,es[i]? = some e/\v=e.key) (λi h=>h.IsKeyIter I d i es.size ep/\wR h d es ep) where
 sub:=λb a=>by simp at a;simp[a]
 frame:=λ_ _ _ x k=>⟨x.1.at λo e=>k I (by simp) o e,x.2.to λo e=>k d (by simp) o e⟩
 item:=λi s Q E f x q=>Ts x.1 x.2 f λc j k=>q _ c s.toks ⟨es[i],by simp[f],rfl⟩ ⟨j,x.2.to λo e=>k.extBut d o ne e⟩ λb o a e=>k.extBut b o (λz=>a (by simp[z])) e
 done:=λs Q E x q=>Pk g x.1 x.2 λc k=>q c s.toks λb o a e=>k b o (λz=>a (by simp[z])) e
 self:=λ_ _ _ _ x q=>wpAny_pyIter_keyiter x.1 q
def Qo(b:(d==sysModules)=false):W.KdlSrc prog w "dict" d d es.size (λi v=>∃e,es[i]? = some e/\v=e.key) (λh=>wR h d es ep) where
 type:=λ_ x=>x.ty
 there:=λ_ x=>⟨x.lt,x.lt⟩
 keep:=λ_ _ x k=>x.to λo e=>k d (.inl rfl) o e
 notList:=by decide
 notTuple:=by decide
 hint:=λ_ _ _ _ x q=>W.kdl_hint_dict x.ty q
 iter:=λ_ _ a x=>⟨_,_,(λ_ _ q=>Mn b x q),JC a _ d (aM x.lt) es ep,⟨⟨_,ar _ rfl,rfl,rfl⟩,x.to λo e=>ae _ e⟩⟩
end
theorem tG:∀{xs} {us},xs.length=us.length->(∀(i:Nat) v,us[i]? = some v->∃x,xs[i]? = some x/\jB x v)->ji xs us
 |[],[],_,_=>.nil
 |x::xs,u::us,hl,h=>by obtain⟨a,e,r⟩:=h 0 u rfl;simp at e;subst e;exact .cons r (tG (by simpa using hl) λi v hv=>by simpa using h (i+1) v (by simpa using hv))
theorem xk{F:α->β->Prop}:∀{l:List α} {m:List β} {i:Nat} {a:α},Paired F l m->l[i]? = some a->∃b,m[i]? = some b/\F a b
 |_::_,_::_,0,_,.cons h _,e=>by simp at e;subst e;exact⟨_,rfl,h⟩
 |_::_,_::_,i+1,_,.cons _ r,e=>by simpa using xk r (by simpa using e)
section
variable {X:Cx}
theorem FY(hc:X.calm=true):lX X (.type "list") (λD H Q=>∃a kvs,D=[.ref a]/\H a=some (.dT kvs)/\∀(l:Addr) (bs:List Addr),H l=none->bs.length=kvs.length->
  (∀(i:Nat) (b:Addr),bs[i]? = some b->∃k v,kvs[i]? = some (k,v)/\H b=some (.tup (k.map kV)))->Q (.ref l) (jY H l (.lst (bs.map V.ref)))):=by
 intro gO s σ H D us Q I r h;obtain⟨a,kvs,rfl,e,q⟩:=h;obtain⟨u,rfl,rx⟩:=qc r;cases rx;obtain⟨z,N,f,F,o,A,U,J,ex,P,C,nd⟩:=(I.hok a _ e);have sz:A.size=f.length:=by rw[<-bB,C,aw]
 have n:=Paired.length F;refine W.kdl_call (Qo N) (I.ok.hd hc) (⟨o,J,ex,P⟩:wR s.heap a A U) (by rw[sz,<-n];exact z) λS tk c R L Y d=>?_;have x:∀(i:Nat) v,c[i]? = some v->∃y,f[i]? = some y/\v=.ref y.2.1:=λi v hv=>by
  obtain⟨en,h1,h2⟩:=d.2 i v hv;have j:A.toList[i]? = some en:=by simpa using h1
  rw[C,av]at j;cases g:f[i]? with
  |none=>rw[g]at j;cases j
  |some y=>rw[g]at j;cases j;exact⟨y,rfl,h2⟩
 have al:c.size=f.length:=by rw[<-sz];exact d.1
 have Z:ji ((f.map λy=>y.2.1).map V.ref) c.toList:=by refine tG (by simp[al]) λi v hv=>?_;obtain⟨y,p,B⟩:=x i v (by simpa using hv);exact⟨.ref y.2.1,by simp[p],by rw[B];rfl⟩
 refine⟨.ref s.heap.objs.size,_,I.laid L (aK _) (show l6 X.prog X.w _ S _ (.lst ((f.map λy=>y.2.1).map V.ref)) from ⟨by simp[<-n];exact z,c.toList,R,Z,by simpa using Y⟩),rfl,q _ _ (I.hok.fresh (aK _)) (by simp[n]) λi b m=>?_⟩;rw[av]at m;cases g:f[i]? with
 |none=>rw[g]at m;cases m
 |some y=>
  rw[g]at m;cases m;have E:i<kvs.length:=by rw[n];exact (aa.mp g).1
  obtain⟨y',p,B,K,e4⟩:=xk F (ag E);rw[g]at p;cases p;exact⟨_,_,ag E,K⟩
end
end L2
namespace L2
open PySem PySem.Spec PyProof.Rows
noncomputable def V4(K:W.Frag)(a:Addr)(n:Nat):It:=⟨λi H=>i<n/\∃b x,mN K H a b/\b.length=n/\b[n-1-i]? = some x,λi H x c=>c=H/\∀b,mN K H a b->b[n-1-i]? = some x,λi H=>i=n/\∃b,mN K H a b⟩
def Lx{K:W.Frag} a it n:Et P w K tg (V4 K a n) [it] it (λi h=>h.IsRevIter it a ((n:Int)-1-i)) where
 mem:=by simp
 obj:=λi h f b j=>by
  obtain rfl:b=it:=by simpa using j
  obtain⟨o,e,c,d⟩:=f;exact⟨o,e,λv z=>by rw[d]at z;cases z⟩
 keep:=λi h L f k=>f.at λo e=>k it (by simp) o e
 item:=by
  intro X m hw A Q i Y s R H E I l f D;subst m hw A;obtain⟨hi,xs,x,y,hn,N⟩:=D;obtain⟨its,rv,p,hz⟩:=I.list y;obtain⟨u,Z,ru⟩:=rv.get N;obtain⟨r,C,f2,J,q,B⟩:=l it (by simp);have F:n-1-i=((n-1-i:Nat):Int):=by omega
  rw[F]at f;refine wpAny_pyNext_rev_item f p.isList (by simpa using Z) λL g sb=>?_;have I1:=I.turned (t':=s.toks) (λb o j e=>(sb.2 b j).trans e) r C J q B;have S:((n-1-i:Nat):Int)-1=n-1-((i+1):Int):=by omega
  rw[S]at g;obtain⟨o,e,c,d⟩:=id g;exact⟨u,rfl,HG e c d (by decide) ⟨x,H,I1,ru,⟨rfl,λys hy=>by rw[I.list_inj hy y];exact N⟩,g,λb j=>(l b j).1⟩⟩
 done:=by
  intro X m hw A Q i Y s R H E I l f D;subst m hw A;obtain⟨rfl,xs,y⟩:=D;obtain⟨r,C,f2,J,q,B⟩:=l it (by simp);have F:(i:Int)-1-i = -1:=by omega
  rw[F]at f;exact wpAny_pyNext_rev_end (I.ok.hd Q) f λL U=>⟨rfl,I.turned (λb o j e=>U b o j e) r C J q B⟩
 self:=λ_ _ _ _ _ f h=>wpAny_pyIter_revIter f h
section
variable {X:Cx}{tg:Expr}
def R7(K:W.Frag)(c:TA):TI:=λe H R=>c e H λd a=>∃l b,d=[.ref l]/\mN K a l b/\R (V4 K l b.length) a
def Pl(A:Gl X "reversed")(k:X.mg "reversed" = none)(w:PA X [a] ta)(z:starEach [a] X.env=[(false,eval a X.env)]:=by rfl) :
  PI X tg (.Call (.Name "reversed" p) [a] [] pos) (R7 X.K ta):=by
 intro f s d H R I h;refine Call_ (rC I A k (by decide +kernel:bootBuiltins "reversed" = some (.type "reversed")) (PyProof.Rows.callWith_type1 (lC (w pos f s d H _ I h) λus s1 ⟨vs,H1,I1,r1,q1⟩=>?_) z rfl));obtain⟨l,g,rfl,m,q⟩:=q1;obtain⟨u,rfl,y⟩:=qc r1;cases y;obtain⟨c,n,j,B⟩:=I1.list m;have r:=n.length;refine call_reversed_list j.isList ?_;have v:iE X f d H1 {s1 with heap:=s1.heap.push (revObj l (c.toArray.size-1))}:=I1.kept λb o e=>ae _ e;have i:(s1.heap.push (revObj l (c.toArray.size-1))).IsRevIter s1.heap.objs.size l (g.length-1-(0:Int)):=⟨_,ar _ rfl,rfl,by simp[revObj,r]⟩;refine wpAny_pyIter_revIter i ?_;refine⟨s1.heap.objs.size,[s1.heap.objs.size],_,_,H1,rfl,v,Lx l _ g.length,i,λb x=>?_,q⟩;obtain rfl:b=s1.heap.objs.size:=by simpa using x
 exact I1.fpOk (aK _) (I1.hok.fresh (aK _))
end
end L2
namespace L2
open PySem PySem.Spec PyProof.Rows
abbrev VU(h:Heap)(e it:Addr)(i:Int)(item:Value)(a:Addr)(f:Bool):Prop:=h.get? e=some {cls:=.type "enumerate",dict:=none,data:=.fields #[rawInt a,.bool f,.ref it,rawInt i,.none,item],slots:=#[]}
section
variable {prog:Program}{w:World}{A:Around}{E:Value->Shared->Prop}{s:Shared}
theorem GH{i:Nat}{Q:Value->Shared->Prop}(K:VU s.heap e it i old a f)(ha:s.heap.get? a=some oa)(J:a≠e)(P:a≠it)(hi:mH b s.heap it l i)(hl:j5 b s.heap l xs)(m:e≠it)
  (y:∀x h,xs[i]? = some x->VU h e it ((i:Int)+1) old a true->mH b h it l (i+1)->h.get? s.heap.objs.size=some {cls:=.type "tuple",data:=.seq #[.int i s.toks,x]}->h.objs.size=s.heap.objs.size+1->
   (∀c o,c≠e->c≠it->s.heap.get? c=some o->h.get? c=some o)->Q (.ref s.heap.objs.size) {s with heap:=h,toks:=s.toks+1})
  (no:xs[i]? = none->A.handled=none/\∀h x,Heap.ExtBut it s.heap h->(∃o,h.get? x=some o/\o.cls=.type "StopIteration")->E (.ref x) {s with heap:=h}) :
  wpAny (model prog w) A (Builtin.«enumerate.__next__» ⟨[.ref e],[]⟩) (λN s'=>∃v,N=.done (.ret v)/\Q v s') E s:=by
 obtain⟨S,g,d,j,L⟩:=s;show wpAny _ _ (field (.ref e) 2 >>= λ_=>_) _ _ _;refine ao (wpAny_field K rfl rfl (ao (vz hi hl (λx F Z Y k1=>?_) no)));have p:=k1;have I:=(p.2 e m).trans K;show wpAny _ _ (field (.ref e) 3 >>= λ_=>_) _ _ ⟨F,g,d,j,L⟩;refine ao (wpAny_field I rfl rfl ?_);show wpAny _ _ (field (.ref e) 4 >>= λ_=>_) _ _ ⟨F,g,d,j,L⟩;refine ao (wpAny_field I rfl rfl ?_);show wpAny _ _ (mkInt i >>= λ_=>_) _ _ ⟨F,g,d,j,L⟩;refine ao (wpAny_mkInt (ao (wpAny_setField_rec I (by simp) λg2 y2 R=>?_)));have z2:=y2;refine ao (wpAny_setField_rec z2 (by simp) λn y3 U=>?_);have z3:=y3;refine ao (wpAny_newTuple ?_);have sz:n.objs.size=S.objs.size:=by have a:=U.1;have c:=R.1;have u:=p.1;dsimp only at a c u;omega
 have H:VU (n.push {cls:=.type "tuple",data:=.seq #[.int i j,x]}) e it ((i:Int)+1) old a f:=ae _ z3;have el:=aL K;have C:∀c o,c≠e->c≠it->S.get? c=some o->n.get? c=some o:=λc o r D q=>U.extBut c o r (R.extBut c o r (p.extBut c o D q));have a4:(n.push {cls:=.type "tuple",data:=.seq #[.int i j,x]}).get? a=some oa:=ae _ (C a oa J P ha);have tp:(n.push {cls:=.type "tuple",data:=.seq #[.int i j,x]}).get? n.objs.size=some {cls:=.type "tuple",data:=.seq #[.int i j,x]}:=ar _ rfl;have up:∀c o,c≠e->c≠it->S.get? c=some o->(n.push {cls:=.type "tuple",data:=.seq #[.int i j,x]}).get? c=some o:=λc o r D q=>ae _ (C c o r D q);have X:∀o,F.get? it=some o->(n.push {cls:=.type "tuple",data:=.seq #[.int i j,x]}).get? it=some o:=λo q=>ae _ (U.extBut it o (Ne.symm m) (R.extBut it o (Ne.symm m) q));show wpAny _ _ (Builtin.SmallTypes.ownedTupleIsFree (.ref e) >>= λ_=>_) _ _ _;unfold Builtin.SmallTypes.ownedTupleIsFree;refine ao (ao (wpAny_field H rfl rfl ?_));show wpAny _ _ (loadIfAlive ((a:Int).toNat) >>= λ_=>_) _ _ _;rw[bT];refine ao (W.kdx_alive a4 ?_);simp only[Option.isNone_some,cj,if_false];refine ao (wpAny_field H rfl (x:=.bool f) rfl ?_);cases f with
 |true=>rw[aR (λz=>nomatch z)];refine ak ?_;simp only[cj,if_false];refine ak ⟨_,rfl,?_⟩;rw[sz]at tp ⊢;exact y x _ Z H (Y.to X) tp (by rw[Heap.size_push,sz]) up
 |false=>rw[aQ (show (Value.bool false != Value.bool true)=true from rfl)];refine ao (wpAny_setField_rec H (by simp) λg5 y5 k5=>?_);have z5:=y5;have k:=k5;refine ak ?_;simp only[cj,if_false];refine ak ⟨_,rfl,?_⟩;have B:=k.extBut _ _ (by rw[sz];exact bC el) tp;rw[sz]at B ⊢;exact y x g5 Z z5 (Y.to λo q=>k.extBut it o (Ne.symm m) (X o q)) B (by rw[k.1,Heap.size_push,sz]) λc o r D q=>k.extBut c o r (up c o r D q)
def JH(h:Heap)(e it:Addr)(i:Nat):Prop:=(i=0/\∃b,IsEnum h e it 0 b)\/∃b a f c,VU h e it i b a f/\h.get? a=some c/\a≠e/\a≠it
def JH.keep(x:JH h e it i)(v:∀o,h.get? S=some o->o.cls=.type "list")(d:∀b o,b≠S->h.get? b=some o->h'.get? b=some o)(j:∀o,h.get? S=some o->∃k,h'.get? S=some k)(g:e≠S):JH h' e it i:=by
 rcases x with⟨z,c,q⟩|⟨c,a,f,u,q,n,r,p⟩
 .exact .inl ⟨z,c,d _ _ g q⟩
 .by_cases m:a=S
  .subst m;obtain⟨k,l⟩:=j u n;exact .inr ⟨c,a,f,k,d _ _ g q,l,r,p⟩
  .exact .inr ⟨c,a,f,u,d _ _ g q,d _ _ m n,r,p⟩
def Ak(st:JH s.heap e it i)(I:mH b s.heap it l i)(H:j5 b s.heap l xs)(g:e≠it)(y:e<s.heap.objs.size)(z:it<s.heap.objs.size)
  (h:∀x d,xs[i]? = some x->JH d e it (i+1)->mH b d it l (i+1)->d.get? s.heap.objs.size=some {cls:=.type "tuple",data:=.seq #[.int i s.toks,x]}->d.objs.size=s.heap.objs.size+1->
   (∀c o,c≠e->c≠it->s.heap.get? c=some o->d.get? c=some o)->Q (some (.ref s.heap.objs.size)) {s with heap:=d,toks:=s.toks+1})
  (p:xs[i]? = none->A.handled=none/\∀d,Heap.ExtBut it s.heap d->Q none {s with heap:=d}):wpAny (model prog w) A (pyNext (.ref e)) Q E s:=by
 rcases st with⟨rfl,j,k⟩|⟨j,a,f,K,k,J,D,v⟩
 .exact wL k I H g (λx d C u B m r n=>h x d C (.inr ⟨x,_,false,_,by simpa using u,m,bC y,bC z⟩) B m r n) p
 .have ty:s.TypeIs (.ref e) "enumerate" :=⟨_,k,rfl⟩;unfold pyNext;refine ao (wpAny_attempt (wpAny_callSpecial?_slot ty F.slot_enumerate_next (wpAny_call_entry F.slot_enumerate_next ty F.entry_enumerate_next
   (GH k J D v I H g (λx d C u B m r n=>ak (h x d C (.inr ⟨j,a,true,K,by simpa using u,n a K D v J,D,v⟩) B m r n)) λq=>⟨(p q).1,λd x hk ⟨o,ho,hc⟩=>?_⟩) (F.args_enumerate_next_1 _))))
  exact ao (wpAny_isInstance ⟨o,ho,hc⟩ isSubtype_stop (ak ((p q).2 d hk)))
def JJ:typeLookup (.type "enumerate") "__len__" = pure none:=by rw[typeLookup_type,builtinLookup_eq_fast];kernel_rfl
def Ge:typeLookup (.type "enumerate") "__length_hint__" = pure none:=by rw[typeLookup_type,builtinLookup_eq_fast];kernel_rfl
def V8(us:List Value)(b:Addr)(h:Heap)(as:List Addr):Prop:=∀(j:Nat) (a:Addr),as[j]? = some a->b<a/\∃t x,us[j]? = some x/\h.get? a=some {cls:=.type "tuple",data:=.seq #[.int j t,x]}
section
variable {R:Result->Shared->Prop}{us:List Value}{b:Bool}
theorem QE{S e it l:Addr}(hh:A.handled=none)(X:e≠S)(K:it≠S)(hlS:l≠S)(hle:l≠e)(hli:l≠it)(Q:e≠it)(hn:us.length<=sizeLine)(res:Value){I:Heap}(H:e<I.objs.size/\it<I.objs.size/\S<I.objs.size)
  (hR:∀p J d c as,(∀c o,c≠S->c≠e->c≠it->I.get? c=some o->p.get? c=some o)->p.get? S=some {cls:=.type "list",dict:=none,data:=.seq d c,slots:=#[]}->as.length=us.length->(∀a∈as,I.objs.size<=a)->V8 us 0 p as->
   d.toList=as.map Value.ref->R (.ok (.ret res)) {s with heap:=p,toks:=J}) :
  ∀(k i:Nat) (h:Heap) (J c:Nat) (d:Array Value) (as:List Addr),us.length-i=k->i<=us.length->JH h e it i->mH b h it l i->j5 b h l us.toArray->(∀c o,c≠S->c≠e->c≠it->I.get? c=some o->h.get? c=some o)->I.objs.size<=h.objs.size->
   h.get? S=some {cls:=.type "list",dict:=none,data:=.seq d c,slots:=#[]}->d.toList=as.map Value.ref->as.length=i->(∀a∈as,I.objs.size<=a)->V8 us 0 h as->
   codeAny (model prog w) A (.builtin "list.extend.loop" ⟨[.ref S,.ref e,res],[]⟩) R {s with heap:=h,toks:=J}:=by
 intro k;induction k with
 |zero=>
  intro i h J c d as hk hi N L B f g hS m n r hG;refine codeAny_builtin PySem.F.entry_extend_loop ?_;rw[Around.under_plainId PySem.F.plain_extend_loop _];show wpAny _ A.in1 (pyNext (.ref e) >>= λ_=>_) _ _ _;refine ao (Ak N L B Q (aE H.1 g) (aE H.2.1 g) (λx p hx=>?_) λ_=>⟨hh,λp ex=>?_⟩)
  .have:us[i]? = none:=List.getElem?_eq_none (by omega);have P:us[i]? = some x:=by simpa using hx
   rw[this]at P;cases P
  .refine ak (hR p J d c as (λc o q1 q2 Z e=>ex c o Z (f c o q1 q2 Z e)) (ex S _ (Ne.symm K) hS) (by omega) r (λj a D=>?_) m);obtain⟨y,t,x,e1,e2⟩:=hG j a D;have C:=r a (au D);exact⟨y,t,x,e1,ex a _ (bC (aE H.2.1 C)) e2⟩
 |succ k ih=>
  intro i h J c d as hk hi N L B f g hS m n r hG;have u:d.size=i:=by rw[<-bB,m,aw,n]
  refine codeAny_builtin PySem.F.entry_extend_loop ?_;rw[Around.under_plainId PySem.F.plain_extend_loop _];show wpAny _ A.in1 (pyNext (.ref e) >>= λ_=>_) _ _ _;refine ao (Ak N L B Q (aE H.1 g) (aE H.2.1 g) (λx p hx st' it' ht hz v=>?_) λq=>?_)
  .dsimp only at ht hz v ⊢;have z:=v S _ (Ne.symm X) (Ne.symm K) hS;have up:∀c o,c≠S->p.get? c=some o->(p.update S (Obj.mapSeq (·.push (Value.ref h.objs.size)))).get? c=some o:=λc o C e=>(Heap.get?_update_other _ _ (Ne.symm C)).trans e;have U:=aE H.2.2 g;refine ao (wpAny_updateSeq z rfl (ak ⟨plainId_quiet PySem.F.plain_extend_loop _,ih (i+1) _ (J+1) _ (d.push (Value.ref h.objs.size)) (as++[h.objs.size]) (by omega) (by omega)
    (st'.keep (λo ho=>by rw[z]at ho;cases ho;rfl) up (λo ho=>⟨_,Heap.get?_update_self _ z rfl⟩) X) (it'.to λo q=>up it o K q) (B.to λo q=>up l o hlS (v l o hle hli q))
    (λc o q1 q2 Z e=>up c o q1 (v c o q2 Z (f c o q1 q2 Z e))) (by rw[Heap.size_update];show I.objs.size<=p.objs.size;omega) (Heap.get?_update_self _ z rfl) (by rw[Array.toList_push,m,aZ];rfl) (by rw[aT,n];rfl) (λa Y=>?_) (λj a D=>?_)⟩) (by rw[u];omega) (by rw[Array.size_push,u];omega))
   .rcases ai.mp Y with Y|Y
    .exact r a Y
    .rw[aj.mp Y];exact g
   .rcases cH j as.length with q|q|q
    .rw[List.getElem?_append_left q]at D;obtain⟨y,t,x',e1,e2⟩:=hG j a D;have C:=r a (au D);have n1:=bC (aE H.2.2 C);have n2:=bC (aE H.1 C);have n3:=bC (aE H.2.1 C);exact⟨y,t,x',e1,up a _ n1 (v a _ n2 n3 e2)⟩
    .subst q;have C:h.objs.size=a:=by simpa using D
     subst C;refine⟨cg (bL _) U,J,x,by rw[n];simpa using hx,?_⟩;rw[n];exact up _ _ (bC U) ht
    .have Vy:(as++[h.objs.size])[j]? = none:=List.getElem?_eq_none (by rw[aT,b6];omega);rw[Vy]at D;cases D
  .exfalso;have:i<us.length:=by omega
   simp[this]at q
def Gk(hh:A.handled=none)(L:IsEnum s.heap e it 0 .none)(hi:mH b s.heap it l 0)(hl:j5 b s.heap l us.toArray)(Z:l≠e)(Y:l≠it)(N:e≠it)(hn:us.length<=sizeLine)(H:it<s.heap.objs.size)(U:l<s.heap.objs.size)
  (q:∀m K h c as,(∀c o,c≠e->c≠it->s.heap.get? c=some o->m.get? c=some o)->m.get? s.heap.objs.size=some {cls:=.type "list",dict:=none,data:=.seq h c,slots:=#[]}->as.length=us.length->(∀a∈as,s.heap.objs.size<a)->V8 us 0 m as->
   h.toList=as.map Value.ref->Q (.ref s.heap.objs.size) {s with heap:=m,toks:=K}):wpAny (model prog w) A (call (.type "list") [.ref e]) Q E s:=by
 have D:=aL L;refine callType_codes (Q₁:=λx i=>x=.ref s.heap.objs.size/\i={s with heap:=s.heap.push {cls:=.type "list",data:=.seq #[]}}) PySem.F.called_list (PySem.F.typeCall_list_1 _) PySem.F.entry_list_init
  (code_list_new _ ⟨rfl,rfl⟩) λx i C=>?_
 obtain⟨rfl,rfl⟩:=C;generalize d:s.heap.objs.size=S at *;have I:(s.heap.push {cls:=.type "list",data:=.seq #[]}).get? S=some {cls:=.type "list",data:=.seq #[]}:=by rw[<-d];exact ar _ rfl
 have kp:∀c o,s.heap.get? c=some o->(s.heap.push {cls:=.type "list",data:=.seq #[]}).get? c=some o:=λc o z=>ae _ z;refine⟨⟨_,I,rfl⟩,PySem.F.args_list_init_2 _ _,?_⟩;show wpAny _ _ (do let old <-Builtin.List.listItems (.ref S);Builtin.List.listUpdate (.ref S) (λ_=>#[]);letGo old.toList.reverse;Builtin.List.listExtendWith (.ref S) (.ref e) .none) _ _ {s with heap:=s.heap.push {cls:=.type "list",data:=.seq #[]}};refine ao ?_;unfold Builtin.List.listItems;refine ao (wpAny_seqItems I rfl (ak ?_));refine ao (wpAny_updateSeq I rfl ?_);have n:=Heap.get?_update_self (Obj.mapSeq (λ_=>(#[]))) I rfl;have k2:∀c o,c≠S->s.heap.get? c=some o->((s.heap.push {cls:=.type "list",data:=.seq #[]}).update S (Obj.mapSeq (λ_=>(#[])))).get? c=some o:=λc o B z=>(Heap.get?_update_other _ _ (Ne.symm B)).trans (kp c o z);refine ao (wpAny_letGo ?_);have g:=aM D;have u:=aM H;have r:=aM U;have p:=k2 e _ g L;unfold Builtin.List.listExtendWith;have k:Shared.TypeIs {s with heap:=(s.heap.push {cls:=.type "list",data:=.seq #[]}).update S (Obj.mapSeq (λ_=>(#[])))} (.ref e) "enumerate" :=⟨_,p,rfl⟩;refine ao (wpAny_typeOf k ?_);have g1:Builtin.List.listSameRef (.ref S) (.ref e)=false:=by simp[Builtin.List.listSameRef,Ne.symm g]
 have g2:(Value.type "enumerate" == Value.type "list")=false:=by decide
 have g3:(Value.type "enumerate" == Value.type "tuple")=false:=by decide
 simp only[g1,g2,g3,Bool.or_false,cj,if_false];refine ao (wpAny_pyIter_enum p ?_);refine ao (wpAny_holding ?_);unfold Builtin.List.listLengthHint;refine ao (wpAny_specialOf k JJ ?_);refine ao (wpAny_specialOf k Ge ?_);refine ak ?_;refine ao (wpAny_rule (ao ?_));refine ao (wpAny_updateSeq n rfl ?_);have v:=Heap.get?_update_self (Obj.mapSeq (·.push Value.none)) n rfl;refine wpAny_updateSeq v rfl ?_;have hS4:=Heap.get?_update_self (Obj.mapSeq (·.pop)) v rfl;have J:∀c o,c≠S->s.heap.get? c=some o->((((s.heap.push {cls:=.type "list",data:=.seq #[]}).update S (Obj.mapSeq (λ_=>(#[])))).update S (Obj.mapSeq (·.push Value.none))).update S (Obj.mapSeq (·.pop))).get? c=some o:=λc o B z=>(Heap.get?_update_other _ _ (Ne.symm B)).trans ((Heap.get?_update_other _ _ (Ne.symm B)).trans (k2 c o B z))
 have f:((((s.heap.push {cls:=.type "list",data:=.seq #[]}).update S (Obj.mapSeq (λ_=>(#[])))).update S (Obj.mapSeq (·.push Value.none))).update S (Obj.mapSeq (·.pop))).objs.size=S+1:=by rw[Heap.size_update,Heap.size_update,Heap.size_update,Heap.size_push,d]
 refine ak ⟨plainId_quiet PySem.F.plain_extend_loop _,?_⟩;generalize hh4:((((s.heap.push {cls:=.type "list",data:=.seq #[]}).update S (Obj.mapSeq (λ_=>(#[])))).update S (Obj.mapSeq (·.push Value.none))).update S (Obj.mapSeq (·.pop)))=h4 at *;refine QE (A:=A.in1) hh g u r Z Y N hn .none ⟨by rw[f];exact cu D,by rw[f];exact cu H,by rw[f];exact bK _⟩ (λm K h c as kk P e1 e2 e3 e4=>⟨rfl,?_⟩)
  us.length 0 h4 _ _ #[] [] (cI _) (bL _) (.inl ⟨rfl,_,J e _ g L⟩) (hi.to λo z=>J it o u z) (hl.to λo z=>J l o r z) (λ_ _ _ _ _ z=>z) (aK _) hS4 rfl rfl (λa X=>nomatch X) (λj a hj=>by simp at hj)
 exact q m K h c as (λc o z1 z2 y=>kk c o (λzz=>by rw[zz]at y;exact absurd (aL y) (by rw[d];exact a9 _)) z1 z2 (J c o (λzz=>by rw[zz]at y;exact absurd (aL y) (by rw[d];exact a9 _)) y)) P e1 (λa X=>by have:=e2 a X;rw[f]at this;omega) e3 e4
end
end
end L2
namespace L2
open PySem PySem.Spec PyProof.Rows
section
variable {X:Cx}
theorem zI(m:ji xs us)(e:2<=sizeLine):∀(as:List Addr) (j:Nat) (H:Hp),iE X gO σ H s->(∀a∈as,uO X gO H a)->as.Nodup->
  (∀i a,as[i]? = some a->∃t x,us[j+i]? = some x/\s.heap.get? a=some {cls:=.type "tuple",data:=.seq #[.int ((j+i:Nat):Int) t,x]})->
  ∃d,iE X gO σ d s/\iS H d/\(∀a,a∉as->d a=H a)/\∀i a,as[i]? = some a->∃x,xs[j+i]? = some x/\d a=some (.tup [.int ((j+i:Nat):Int),x])
 |[],j,H,I,_,_,_=>⟨H,I,.refl _,λ_ _=>rfl,λi a h=>by simp at h⟩
 |a::as,j,H,I,hf,nd,hg=>by
  obtain⟨t,u,q,w⟩:=hg 0 a rfl;obtain⟨p,F,R,P,y,D⟩:=hf a (by simp);have N:j+0<xs.length:=by rw[m.length];exact (aa.mp q).1
  have v:=ag N;obtain⟨Q,o,K⟩:=m.get v;rw[q]at o;cases o;have L:iE X gO σ (jY H a (.tup [.int ((j+0):Int),xs[j+0]])) s:=I.track p P F y D ⟨e,[.int ((j+0):Int) t,u],.cons ⟨_,rfl⟩ (.cons K .nil),⟨_,w,rfl,_,rfl,rfl⟩⟩;obtain⟨l,k⟩:=bO.mp nd;obtain⟨d,C,r,E,J⟩:=zI m e as (j+1) _ L (λb c=>by obtain⟨g0,A⟩:=hf b (by simp[c]);have ne:b≠a:=λz=>l (z▸c);exact⟨by rw[ie ne];exact g0,A⟩) k (λi b c=>by obtain⟨B,n,g,f⟩:=hg (i+1) b (by simpa using c);rw[show j+(i+1)=j+1+i by omega]at g f;exact⟨B,n,g,f⟩)
  refine⟨d,C,(oY p).trans r,λb c=>?_,λi b c=>?_⟩
  .rw[E b (λz=>c (by simp[z])),ie (λz=>c (by simp[z]))]
  .cases i with
   |zero=>simp at c;subst c;exact⟨_,v,r _ _ ig⟩
   |succ i=>obtain⟨n,g,f⟩:=J i b (by simpa using c);rw[show j+1+i=j+(i+1) by omega]at g f;exact⟨n,g,f⟩
def V7(K:W.Frag)(f:TA):TE:=λh H Q=>f h H λg d=>∃b l e,g=[.ref l]/\xZ K d b l e/\∀(p:Addr) (as:List Addr) (c:Hp),iS d c->d p=none->c p=some (.lst (as.map V.ref))->as.length=e.length->
 (∀(i:Nat) (a:Addr),as[i]? = some a->d a=none/\a≠p/\∃x,e[i]? = some x/\c a=some (.tup [.int (i:Int),x]))->Q (.ref p) c
def LB(hc:X.calm=true)(hg:Gl X "list")(p:X.mg "list" = none)(Y:Gl X "enumerate")(F:X.mg "enumerate" = none)(f:PA X [a] ta)(hs:starEach [a] X.env=[(false,eval a X.env)]:=by rfl)
  (he:starEach [Expr.Call (.Name "enumerate" p2) [a] [] pos2] X.env=[(false,eval (.Call (.Name "enumerate" p2) [a] [] pos2) X.env)]:=by rfl) :
  PE X (.Call (.Name "list" p1) [.Call (.Name "enumerate" p2) [a] [] pos2] [] pos) (V7 X.K ta):=by
 intro L s σ H Q I h;refine wpAny_Call_Name_kw (rC I hg p (by decide +kernel:bootBuiltins "list" = some (.type "list")) ?_);refine PyProof.Rows.callWith_type1 ?_ he rfl;rw[he];refine Calls.spliced_cons (Call_ (rC I Y F boot_enumerate (PyProof.Rows.callWith_type1 (lC (f pos2 L s σ H _ I h) λus s1 ⟨vs,H1,I1,r1,q1⟩=>?_) hs rfl)));obtain⟨b,l,xs,rfl,hq,q⟩:=q1;obtain⟨u,rfl,rx⟩:=qc r1;cases rx;obtain⟨us,rv,m,hz⟩:=I1.seqB hq;refine Bc m λk J E d hk=>Calls.spliced_nil ?_;have R:l<s1.heap.objs.size:=by obtain⟨o,n,e,_⟩:=m.look;exact aL e
 have U:=rv.length;refine Gk (I1.ok.hd hc) J E (m.to λo e=>hk l o e) (aM (cu R)) (aM R) (Nat.succ_ne_self _) (by rw[<-U];exact hz) (by show _<k.objs.size;rw[d];omega) (by rw[d];exact aE R (cw _ _)) λh2 Z A c as k2 hS r y S w=>?_;have kk:∀b o,s1.heap.get? b=some o->h2.get? b=some o:=λb o e=>by have lt:=aL e;exact k2 b o (aM (cu lt)) (aM lt) (hk b o e)
 have I2:=I1.kept (t':=Z) kk;have fp:∀b,s1.heap.objs.size<=b->uO X L H1 b:=λb hb=>I1.fpOk hb (I1.hok.fresh hb);have g:∀a∈as,s1.heap.objs.size<=a:=λa f=>by have:=y a f;rw[d]at this;omega
 have nd:as.Nodup:=by refine cJ.mpr λi j D hj hij e=>?_;obtain⟨_,t1,x1,_,g1⟩:=S i _ (ag D);obtain⟨_,t2,x2,_,g2⟩:=S j _ (ag hj);rw[e,g2]at g1;simp at g1;omega
 obtain⟨H',I3,s3,o3,g3⟩:=zI rv (by decide) as 0 H1 I2 (λa f=>fp a (g a f)) nd (λi a f=>by obtain⟨_,t,x,B,C⟩:=S i a f;rw[aG];exact⟨t,x,B,C⟩)
 have N:k.objs.size∉as:=λp=>a9 _ (y _ p);have P:H1 k.objs.size=none:=I1.hok.fresh (by rw[d];omega);obtain⟨f0,f1,f2,f3,f4,f5⟩:=fp k.objs.size (by rw[d];omega);have va:ji (as.map V.ref) A.toList:=by
  rw[w];refine tG (by simp) λi v hv=>?_;rw[av]at hv ⊢;cases D:as[i]? with
  |none=>rw[D]at hv;cases hv
  |some a'=>rw[D]at hv;cases hv;exact⟨_,rfl,rfl⟩
 have I4:iE X L σ (jY H' k.objs.size (.lst (as.map V.ref))) {s1 with heap:=h2,toks:=Z}:=I3.track (by rw[o3 _ N];exact f0) f3 f1 f4 f5 ⟨by rw[aw,r,<-U];exact hz,A.toList,c,va,by simpa using hS⟩;refine⟨.ref k.objs.size,_,I4,rfl,q _ as _ (s3.trans (oY (by rw[o3 _ N];exact f0))) P ig (by rw[r,U]) λi a f=>?_⟩;have p:=au f;have ne:a≠k.objs.size:=λz=>N (z▸p);obtain⟨x,B,C⟩:=g3 i a f;rw[aG]at B C;exact⟨I1.hok.fresh (g a p),ne,x,B,by rw[ie ne];exact C⟩
end
end L2
namespace L2
open PySem PySem.Spec PyProof.Rows
def Oo:typeLookup (.type "list") "keys" = pure none:=by rw[typeLookup_type,builtinLookup_eq_fast];kernel_rfl
def A7:entryFor table "dict.update.loop" = some Builtin.«dict.update.loop»:=entryFor_of_tree (by kernel_rfl)
def ub:plainId "dict.update.loop" = true:=by decide +kernel
def Ik
  (r:s.heap.get? a=some o) (u:o.cls=.type "list") (f:o.data=.seq xs k) (q:o.dict=none) (v:A.handled=none)
  (h:∀m n,(∀b l,s.heap.get? b=some l->m.get? b=some l)->Q none {s with heap:=m,toks:=n}) :
  wpAny (model prog w) A (getAttr? (.ref a) "keys") Q E s:=by
 obtain⟨c,B,D,C⟩:=o;simp only at u f q;subst u f q;obtain⟨z,g,d,n,x⟩:=s;have p:∀i,(⟨z,g,d,i,x⟩:Shared).TypeIs (.ref a) "list" :=λ_=>⟨_,r,rfl⟩;have N:=sub_AttributeError;have P:=F.slot_list_getattribute.lookup;have I:=F.slot_list_getattribute.bind (.ref a);have L:=am_list_getattr_none;unfold getAttr? getAttrBy? getAttrBy;(repeat (any_goals (first|assumption|exact p _|((with_reducible show wpAny _ _ (call (Value.builtin "list.__getattribute__") _ _) _ _ _);refine call_meets F.slot_list_getattribute (p _) am_entry_list_getattribute (F.args_list_getattribute_2 _ _) (meets_getattribute_miss_list a xs k C "keys" _ Oo (by decide +kernel) (by size_fits)) ⟨r,v,λm i e j=>?_⟩)|wp_step)));obtain⟨J,K,H⟩:=j.there;unfold getattributeRaised;(repeat (any_goals (first|assumption|wp_step)));exact h _ _ λb l y=>j.keeps b l y
section
variable {X:Cx}{gO:List (Addr×Obj)}{σ:St}{H:Hp}{s:Shared}
abbrev Pr:=Addr×Addr×List qP×V
def Pj(H:Hp)(q:Pr):Prop:=H q.1=some (.tup [.ref q.2.1,q.2.2.2])/\H q.2.1=some (.tup (q.2.2.1.map kV))
noncomputable def xa(kvs:List (List qP×V))(a:List Pr):List (List qP×V):=a.foldl (λk q=>qY k q.2.2.1 q.2.2.2) kvs
def Ju(u:A.units<cLine)(I:iE X gO σ H s)(e:H d=some (.dT kvs))(i:H b=some (.tup (k.map kV)))(l:kvs.length<sizeLine)(y:jB v r)
  (h:∀a t',Heap.SameBut d s.heap a->iE X gO σ (jY H d (.dT (qY kvs k v))) {s with heap:=a,toks:=t'}->Q () {s with heap:=a,toks:=t'}):wpAny (model X.prog X.w) A (dictSet d (.ref b) r) Q E s:=by
 obtain⟨z,B,x,f,J⟩:=Ra I.hok e;have P:x.length<=sizeLine:=by rw[<-Paired.length f];exact z
 have F:(qY kvs k v).length<=sizeLine:=by have:=p7 kvs k v;omega
 refine wpAny_dictSet_heap u (zC I.hok i) J λa g n=>h a _ n ?_;obtain⟨q,K,C,j,L,p,D,_,o⟩:=g;refine Df I (by rw[e];exact True.intro) n ⟨q,j⟩ ⟨F,B,_,(f.put k i y).keeps λc N m=>?_,q,K,C,j,L,p,D,o⟩;rw[ie (QI m e (λz=>nomatch z))];exact m
theorem Dx(S:A.handled=none)(Z:A.units+1<cLine) :
  ∀c a H kvs s t,iE X gO σ H s->H d=some (.dT kvs)->H l=some (.lst ((a++c).map λq=>.ref q.1))->(∀q∈c,Pj H q)->kvs.length+c.length<=sizeLine->
  s.heap.IsListIter it l a.length->uO X gO H it->(∀p,iE X gO σ (jY H d (.dT (xa kvs c))) p->R (.ok (.ret .none)) p)->
  codeAny (model X.prog X.w) A (.builtin "dict.update.loop" ⟨[.ref d,.ref it,.int (a.length:Int) t,.none],[]⟩) R s
 |[],a,H,kvs,s,t,I,ed,el,_,hz,hit,hf,hR=>by
  obtain⟨its,K,E,_⟩:=I.list (mN.of el);have Y:=K.length;rw[bM,aw]at Y;obtain⟨f,B,f2,D,m,n⟩:=hf;refine codeAny_builtin A7 ?_;rw[Around.under_plainId ub _];refine ao (wpAny_pyNext_list_end S hit E.isList (by simp[Y]) λh' eb=>?_);have C:=I.turned (t':=s.toks) (λb o P e=>eb b o P e) f B D m n;refine ao (ak (ak (hR _ ?_)));have e:jY H d (.dT (xa kvs []))=H:=by
   funext b;by_cases q:b=d
   .subst q;rw[ig,ed];rfl
   .rw[ie q]
  rw[e];exact C
 |q::c,a,H,kvs,s,t,I,ed,el,hp,hz,hit,hf,hR=>by
  obtain⟨its,K,E,_⟩:=I.list (mN.of el);obtain⟨f,B,f2,D,m,n⟩:=id hf;obtain⟨h1,h2⟩:=hp q (by simp);obtain⟨u,Q,ru⟩:=K.get (i:=a.length) (x:=.ref q.1) (by simp);cases (ru);refine codeAny_builtin A7 ?_;rw[Around.under_plainId ub _];refine ao (wpAny_pyNext_list_item hit E.isList (by simpa using Q) λh' j sb=>?_);have C:=I.turned (t':=s.toks) (λb o P e=>(sb.2 b P).trans e) f B D m n;obtain⟨ks,rk,⟨ot,U,ct,nt,dt⟩,_⟩:=C.tuple (oH.of h1);obtain⟨k,v,rfl,J,F⟩:=Hg rk;cases (J);refine ao (wpAny_holding (ao (wpAny_tryCatch ?_)));unfold Builtin.Dict.pairItems;refine ao (wpAny_typeOf ⟨_,U,ct⟩ ?_);rw[aQ (by decide)];refine ao (wpAny_seqItems U dt (ak ?_));have hz':kvs.length+(c.length+1)<=sizeLine:=hz;refine wpAny_holding (Ju Z C ed h2 (by omega) F λh2' t2 N I2=>?_);have g:it≠d:=λz=>by rw[z,ed]at f;cases f
  have ne:∀b o,H b=some o->(∀kvs,o≠.dT kvs)->jY H d (.dT (qY kvs q.2.2.1 q.2.2.2)) b=some o:=λb o e z=>by rw[ie (λw=>by rw[w,ed]at e;cases e;exact z _ rfl)];exact e
  refine ak ⟨plainId_quiet ub _,?_⟩;have L:=j.extBut N.extBut g;have h:=Dx S Z c (a++[q]) (jY H d (.dT (qY kvs q.2.2.1 q.2.2.2))) (qY kvs q.2.2.1 q.2.2.2) _ 0 I2 ig (by rw[b5];exact ne _ _ el (λ_ z=>nomatch z)) (λr hr=>⟨ne _ _ (hp r (by simp[hr])).1 (λ_ z=>nomatch z),ne _ _ (hp r (by simp[hr])).2 (λ_ z=>nomatch z)⟩) (by have:=p7 kvs q.2.2.1 q.2.2.2;omega) (by simpa using L) ⟨by rw[ie g];exact f,B,f2,D,m,n⟩ (λp I'=>hR p (by
   have e:∀x y:HO,jY (jY H d x) d y=jY H d y:=λx y=>by
    funext b;by_cases z:b=d
    .subst z;rw[ig,ig]
    .rw[ie z,ie z,ie z]
   rw[e]at I';exact I'))
  rw[aT]at h;exact h
def Fp(hc:X.calm=true)(hu:X.A.units+4<cLine):lX X (.type "dict") (λw H Q=>∃l g,w=[.ref l]/\H l=some (.lst (g.map λq=>.ref q.1))/\(∀q∈g,Pj H q)/\∀d,H d=none->Q (.ref d) (jY H d (.dT (xa [] g)))):=by
 intro gO s σ H w us Q I r h;obtain⟨l,g,rfl,E,hp,q⟩:=h;obtain⟨u,rfl,rx⟩:=qc r;cases rx;have m:=I.ok.hd hc;refine callType_codes (Q₁:=λi c=>i=.ref s.heap.objs.size/\c={s with heap:=s.heap.push {cls:=.type "dict",data:=.dict #[]}}) F.kt_called_dict (F.kt_typeCall_dict_1 _) F.entry_dict_init (kt_code_dict_new _ ⟨rfl,rfl⟩) ?_;rintro i c ⟨rfl,rfl⟩;have a:=I.hok.fresh (aK s.heap.objs.size);have v:(s.heap.push {cls:=.type "dict",data:=.dict #[]}).get? s.heap.objs.size=some {cls:=.type "dict",data:=.dict #[]}:=ar _ rfl;refine⟨⟨_,v,rfl⟩,F.args_dict_init_2 _ _,?_⟩;have L:=I.laid (t':=s.toks) (λ_ _ q=>ae _ q) (aK _) (Ex s.heap I.big);have f:jY H s.heap.objs.size (.dT []) l=some (.lst (g.map λq=>.ref q.1)):=by rw[ie (i7 E a)];exact E
 obtain⟨its,rv,P,N⟩:=L.list (mN.of f);rw[aw]at N;obtain⟨ol,nl,C,p,S,R⟩:=id P;unfold Builtin.«dict.__init__»;refine ao ?_;unfold Builtin.Dict.selfAndRest;refine ao (wpAny_notOrdered_dict ⟨_,v,rfl⟩ ?_);refine ak ?_;show wpAny _ _ (Builtin.Dict.updateFrom "dict.__init__" s.heap.objs.size (.ref l) [] .none) _ _ _;unfold Builtin.Dict.updateFrom;refine ao (wpAny_typeOf ⟨_,C,p⟩ ?_);rw[aQ (by decide)];refine ao (Ik C p R S m λY n U=>?_);have j:=L.kept (t':=n) U;rw[aQ (by rfl)];refine ao (wpAny_rule ?_);obtain⟨D,rv2,k,_⟩:=j.list (mN.of f);refine ao (wpAny_pyIter_list k.isList ?_);have Z:iE X gO σ (jY H s.heap.objs.size (.dT [])) {s with heap:=Y.push {cls:=.type "list_iterator",data:=.fields #[.ref l,.int 0 0]},toks:=n}:=j.kept λb o e=>ae _ e;refine ak ⟨plainId_quiet ub _,Dx (A:=X.A.in1) m (by show X.A.units+1+1<_;omega) g [] _ [] _ _ Z ig (by simpa using f) (λr hr=>?_) (by simpa using N) ⟨_,ar _ rfl,rfl,rfl⟩ (j.fpOk (aK _) (j.hok.fresh (aK _))) λs' B=>⟨rfl,.ref s.heap.objs.size,_,?_,rfl,q _ a⟩⟩
 .obtain⟨K,J⟩:=hp r hr;exact⟨by rw[ie (i7 K a)];exact K,by rw[ie (i7 J a)];exact J⟩
 .have e:∀x y:HO,jY (jY H s.heap.objs.size x) s.heap.objs.size y=jY H s.heap.objs.size y:=λx y=>by
   funext b;by_cases z:b=s.heap.objs.size
   .subst z;rw[ig,ig]
   .rw[ie z,ie z,ie z]
  rw[e]at B;exact B
end
end L2
namespace L2.Sp
open PySem PySem.SetTable
end L2.Sp
namespace L2.Sp
open PySem PySem.SetTable
end L2.Sp
namespace L2.Sp
open PySem PySem.SetTable
end L2.Sp
namespace L2.Sp
open PySem PySem.SetTable
end L2.Sp
namespace L2.Sp
open PySem PySem.SetTable PyProof.Rows
end L2.Sp
namespace L2.Sp
open PySem PySem.SetTable PyProof.Rows
end L2.Sp
namespace L2.Sp
open PySem PySem.SetTable PyProof.Rows
end L2.Sp
namespace L2.Sp
open PySem PySem.SetTable PyProof.Rows
end L2.Sp
namespace L2.Sp
open PySem PySem.SetTable PyProof.Rows
end L2.Sp
namespace Cu
noncomputable def G(a b:Int):Int:=(Int.gcd a b:Nat)
def CB a b:G b (Int.fmod a b)=G a b:=by
 unfold G;have e:=Int.fmod_def a b;rw[e];congr 1;apply Nat.dvd_antisymm
 .apply Int.dvd_gcd
  .have h:=cK b (a-b*Int.fdiv a b);have g:=cL b (a-b*Int.fdiv a b);have d:=Int.dvd_add g (cN (c:=Int.fdiv a b) h);have f:a-b*Int.fdiv a b+b*Int.fdiv a b=a:=by omega
   rw[f]at d;exact d
  .exact cK b _
 .apply Int.dvd_gcd
  .exact cL a b
  .exact Int.dvd_sub (cK a b) (cN (cL a b))
def BA a b (h:b≠0):(Int.fmod a b).natAbs<b.natAbs:=by
 rcases Int.lt_or_gt_of_ne h with c|c
 .have e:=cO (-a) (show 0 < -b by omega);have d:=cP (-a) (show 0 < -b by omega);rw[Int.neg_fmod_neg]at e d;omega
 .have e:=cO a c;have d:=cP a c;omega
def U1 a b:G (a.natAbs:Int) (b.natAbs:Int)=G a b:=by unfold G Int.gcd;rw[cQ,cQ]
def Fv a:G a 0=(a.natAbs:Int):=by unfold G;rw[Int.gcd_zero_right]
def Af a b:0<=G a b:=Int.natCast_nonneg _
def Kh a b (h:b≠0):0<G a b:=by have:=cR a h;unfold G;omega
def pJ a b:G a b ∣ a:=cK a b
def nq a b:G a b ∣ b:=cL a b
def Tu a b (h:b≠0):G a b<=(b.natAbs:Int):=by have:=Int.natAbs_dvd_natAbs.mpr (nq a b);have c:=Nat.le_of_dvd (by omega) this;have:=Af a b;omega
structure US(t b p q:Int):Prop where
 pos:0<q
 one:G p q=1
 is:p*b=t*q
def zK(hb:b≠0)(k:g≠0)(h:g=G t b\/g = - G t b)(e:0<q)(d:t=g*p)(a:b=g*q):US t b p q:=by
 refine⟨e,?_,?_⟩
 .have c:Int.gcd t b=g.natAbs*Int.gcd p q:=by rw[d,a,Int.gcd_mul_left]
  have j:g.natAbs=Int.gcd t b:=by unfold G at h;omega
  rw[j]at c;have i:=cR t hb;have f:Int.gcd p q=1:=by
   have:Int.gcd t b*1=Int.gcd t b*Int.gcd p q:=by rw[<-c,Nat.mul_one]
   exact (Nat.eq_of_mul_eq_mul_left i this).symm
  unfold G;rw[f];rfl
 .have:p*(g*q)=g*p*q:=by rw[<-cS,cT p g]
  rw[<-a,<-d]at this;exact this
def qo g p (a:g≠0):Int.fdiv (g*p) g=p:=by exact cU p a
def EN t b (hb:b≠0):US t b (Int.fdiv t (if b<0 then-G t b else G t b)) (Int.fdiv b (if b<0 then-G t b else G t b)):=by
 have i:=Kh t b hb;obtain⟨p,e⟩:=pJ t b;obtain⟨q,g⟩:=nq t b;by_cases h:b<0
 .rw[aQ h];have j:t=(-G t b)*(-p):=by rw[Int.neg_mul_neg];exact e
  have c:b=(-G t b)*(-q):=by rw[Int.neg_mul_neg];exact g
  have d:Int.fdiv t (-G t b) = -p:=by have:=qo (-G t b) (-p) (by omega);rw[<-j]at this;exact this
  have f:Int.fdiv b (-G t b) = -q:=by have:=qo (-G t b) (-q) (by omega);rw[<-c]at this;exact this
  rw[d,f];refine zK hb (by omega) (Or.inr rfl) ?_ j c;by_cases a:0 < -q
  .exact a
  .exfalso;have:0<=q:=by omega
   have:=aP (aA i) this;omega
 .rw[aR h];have d:Int.fdiv t (G t b)=p:=by have:=qo (G t b) p (by omega);rw[<-e]at this;exact this
  have f:Int.fdiv b (G t b)=q:=by have:=qo (G t b) q (by omega);rw[<-g]at this;exact this
  rw[d,f];refine zK hb (by omega) (Or.inl rfl) ?_ e g;by_cases a:0<q
  .exact a
  .exfalso;have:0<=-q:=by omega
   have:=aP (aA i) this;rw[cV]at this;omega
def Ka(hb:b≠0)(c:b'≠0)(h:US t b p q)(f:US t' b' p' q')(e:t*b'=t'*b):p=p'/\q=q':=by
 have d:p*q'=p'*q:=by
  have i:(p*q')*(b*b')=(p'*q)*(b*b'):=by
   have g:(p*q')*(b*b')=(p*b)*(q'*b'):=by ac_rfl
   have m:(p'*q)*(b*b')=(p'*b')*(q*b):=by ac_rfl
   have n:(t*q)*(q'*b')=(t*b')*(q*q'):=by ac_rfl
   have o:(t'*q')*(q*b)=(t'*b)*(q*q'):=by ac_rfl
   rw[g,m,h.is,f.is,n,o,e]
  exact cW (cX hb c) i
 have r:Int.gcd q p=1:=by have:=h.one;unfold G at this;rw[cY];omega
 have s:Int.gcd q' p'=1:=by have:=f.one;unfold G at this;rw[cY];omega
 have l:q ∣ q':=by have:q ∣ p*q':=⟨p',by rw[d,cT]⟩;have a:=cZ.mpr this;rw[r]at a;simpa using a
 have j:q' ∣ q:=by have:q' ∣ p'*q:=⟨p,by rw[<-d,cT]⟩;have a:=cZ.mpr this;rw[s]at a;simpa using a
 have k:=Int.dvd_antisymm (aA h.pos) (aA f.pos) l j;subst k;refine⟨cW (by have:=h.pos;omega) d,rfl⟩
end Cu
namespace Cu
open PySem PyProof.Rows
open PySem.Builtin.Int (intBits)
def noPy(h:intBits y<=m)(c:m<=8000):PySem.Builtin.divisionGoesByPylong x y=false:=by
 refine PyProof.noPylong_of_log2 ?_;rcases c6 y.natAbs with b|a
 .rw[b];decide
 .refine (Nat.log2_lt (bC a)).mpr ?_;exact lt_pow_of_bits h (by omega)
end Cu
namespace L2
open PySem PySem.Spec PyProof.Rows
def M5:lX X (.builtin "isinstance") (λa H Q=>∃x T t b,a=[x,.ty T]/\tM X.K H x t/\W.kitOne X.K t (.type T)=some b/\Q (.bl b) H):=by
 intro f s d H a g Q I r h;obtain⟨x,T,t,b,rfl,ty,e,q⟩:=h;cases r with
 |cons r1 r2=>
  cases r2 with
  |cons r3 r4=>cases r4;cases (r3);exact Jd I r1 ty e λc=>⟨.bl b,H,I.tok c,rfl,q⟩
def R1:bootBuiltins "isinstance" = some (.builtin "isinstance"):=by decide +kernel
def sP:bootBuiltins "abs" = some (.builtin "abs"):=by decide +kernel
def uP:bootBuiltins "int" = some (.type "int"):=by decide +kernel
def B4:bootBuiltins "bool" = some (.type "bool"):=by decide +kernel
def jx:bootBuiltins "tuple" = some (.type "tuple"):=by decide +kernel
def kb:bootBuiltins "len" = some (.builtin "len"):=by decide +kernel
end L2
namespace L2
open PySem PySem.W PySem.Spec PyProof.Rows
def Jz{l:W.OpenLaw}{n k:Nat}{q:Program}{i:List Str}{XP:(Str->Option Value)->Heap->Prop}{YP:World->Heap->Prop}{d:DefRec}{K:Params->W.Frag}{U:Pa}{X:W.Frag->Sp}{x:Str}
  (hn:l.most=some n) (N:n<=sizeLine) (S:d.params.defaults=[]) (hr:jZ k callerA)
  (hY:∀(w:World) (h:Heap),YP w h->(K w.params).In h)
  (F:∀(w:World) (p:Str->Option Value) (D:Addr) (h:Heap),(K w.params).In h->h.Ns mainGlobals p->p d.name=some (.ref D)->
   ∃fd:FuncData,(∀(s:Shared) (u:Value),BindsTo s fd ⟨[u],[]⟩ [(x,u)])/\
    ∀c:Heap,(K w.params).In c->c.Ns mainGlobals p->pR l.prog w (K w.params) p c U k D fd [x] (X (K w.params)))
  (P:∀(K:W.Frag) (H:Hp) (a:Addr) (m:LI),m.length<=n->(∀z∈m,PySem.Builtin.Int.intBits z<=2 ^ 20)->Su H->mN K H a (m.map V.int)->X K [.ref a] H (λv _=>v=.bl true) λ_ _ _=>False)
  (I:∀(H:Hp) (s:Shared) (e:Value) (E:Shared),U [] H s (λ_ _ _=>False) e E->False) :
  W.WalkO q i XP YP l.row.toRowW d [] (λf vs=>PySem.call f vs):=by
 intro w Z y p mb G Y D o pm cd doc dV kV ho hd hcd hD L hg args vals as A C hrd Q hlo;obtain rfl:dV=.none:=Dflts.none hD S;obtain rfl:kV=.none:=Dflts.noKw hD;obtain⟨a,vs,m,rfl,rfl,B,j,mO⟩:=Att.script_of hn A Q;have hb:∀z∈m,PySem.Builtin.Int.intBits z<=2 ^ 20:=λz hz=>by have h1:=(layW_cons C).1;have J:=layableW_item h1 (WData.int z) (aD.mpr ⟨z,hz,rfl⟩);exact PyData.bits_of_layable (layable_int J)
 have KX:=hY w _ Y;obtain⟨fd,R,hF⟩:=F w p D _ KX G.T.g L;refine enter_call (codeAny_mono (Me KX G.T.g G.T.b G.T.builtins G.T.nolimit hg B j (aN mO N) hr hF R (λH hO hS=>P _ H a m mO hb hO hS) λH e E=>I H y e E) λr E hq=>?_);obtain⟨rfl,J,h3,h4⟩:=hq;exact⟨.inl ⟨.bool true,.bool true,[],rfl,λ_=>rfl,.bool true,Att.post_true l _,λ_=>⟨List.Pairwise.nil,λ_ hm=>(nomatch hm)⟩⟩,J,h3,h4⟩
end L2
namespace C4
def XQ(c e:LI):Prop:=∀i j,i<c.length->j<c.length->c.getD i 0*e.getD j 0=c.getD j 0*e.getD i 0
def par_of_place(b:c.getD p 0≠0)(h:∀i,i<c.length->c.getD i 0*e.getD p 0=e.getD i 0*c.getD p 0):XQ c e:=λi j f d=>by have l:=h i f;have k:=h j d;refine cW b ?_;have a:c.getD i 0*e.getD j 0*c.getD p 0=c.getD i 0*(e.getD j 0*c.getD p 0):=cS _ _ _;have g:c.getD j 0*e.getD i 0*c.getD p 0=c.getD j 0*(e.getD i 0*c.getD p 0):=cS _ _ _;rw[a,g,<-l,<-k,<-cS,<-cS,cT (c.getD i 0) (c.getD j 0)]
end C4
namespace L3
open PySem L2
inductive T where
 |non|bl (b:Bool)|int (i:Int)|str (x:Str)
 |tup (ts:List T)|lst (ts:List T)|scr (ns:LI)
 |obj (C:Addr) (fs:List (Str×T))|emp
 |dic (kvs:List (LI×T))
inductive M(α:Type) where
 |bad|ok (a:α)|er (C:Addr) (n:Option Int)
namespace M
noncomputable def bind{b c:Type}(m:M b)(k:b->M c):M c:=match m with
 |.bad=>.bad
 |.ok a=>k a
 |.er C n=>.er C n
instance:Monad M where
 pure:=.ok
 bind:=M.bind
noncomputable def res{b:Type}(m:M b)(P:b->Prop)(E:Addr->Option Int->Prop):Prop:=match m with
 |.bad=>False
 |.ok a=>P a
 |.er C n=>E C n
def res.unb{m:M α}{k:α->M β}{P:β->Prop}(h:res (m.bind k) P E):res m (λa=>res (k a) P E) E:=by cases m<;>exact h
def res.mono{m:M α}{P P':α->Prop}(h:res m P E)(c:∀a,P a->P' a)(b:∀C n,E C n->E' C n):res m P' E':=by
 cases m with
 |bad=>exact h
 |ok a=>exact c a h
 |er C n=>exact b C n h
noncomputable def noEr{a:Type}(m:M a):M a:=match m with
 |.er _ _=>.bad
 |m=>m
def res.noEr{m:M α}{P:α->Prop}(h:res m.noEr P E):res m P E':=by
 cases m with
 |bad=>exact h
 |ok a=>exact h
 |er C n=>exact h.elim
@[simp] theorem bind_ok a (k:α->M β):M.bind (.ok a) k=k a:=rfl
@[simp] theorem Vr(k:α->M β):M.bind (.bad:M α) k=.bad:=rfl
@[simp] theorem VL C n (k:α->M β):M.bind (.er C n:M α) k=.er C n:=rfl
noncomputable def NoE{a:Type}(m:M a):Prop:=∀C n,m≠.er C n
def res.ne{m:M α}{P:α->Prop}(h:res m P E)(ne:NoE m):res m P E':=by
 cases m with
 |bad=>exact h
 |ok a=>exact h
 |er C n=>exact absurd rfl (ne C n)
@[simp] theorem noEr_ok(a:α):noEr (.ok a)=.ok a:=rfl
end M
mutual
inductive l7(K:W.Frag)(F:Hp):V->T->Prop
 |non:l7 K F .non .non
 |bl (b:Bool):l7 K F (.bl b) (.bl b)
 |int (i:Int):l7 K F (.int i) (.int i)
 |str (x:Str):l7 K F (.str x) (.str x)
 |tup {a:Addr} {xs:List V} {ts:List T} (h:F a=some (.tup xs)) (r:iK K F xs ts):l7 K F (.ref a) (.tup ts)
 |lst {a:Addr} {xs:List V} {ts:List T} (h:F a=some (.lst xs)) (r:iK K F xs ts):l7 K F (.ref a) (.lst ts)
 |scr {a:Addr} {ns:LI} (h:mN K F a (ns.map V.int)):l7 K F (.ref a) (.scr ns)
 |obj {a C dx:Addr} {fs:List (Str×V)} {ts:List (Str×T)} (h:F a=some (.ins C dx fs)) (r:qL K F fs ts):l7 K F (.ref a) (.obj C ts)
 |emp {a:Addr} (h:F a=some (.dK [])):l7 K F (.ref a) .emp
 |dic {a:Addr} {xs:List (List qP×V)} {kvs:List (LI×T)} (h:F a=some (.dT xs)) (r:pV K F xs kvs):l7 K F (.ref a) (.dic kvs)
inductive iK(K:W.Frag)(F:Hp):List V->List T->Prop
 |nil:iK K F [] []
 |cons {v:V} {t:T} {vs:List V} {ts:List T} (h:l7 K F v t) (r:iK K F vs ts):iK K F (v::vs) (t::ts)
inductive qL(K:W.Frag)(F:Hp):List (Str×V)->List (Str×T)->Prop
 |nil:qL K F [] []
 |cons {x:Str} {v:V} {t:T} {vs:List (Str×V)} {ts:List (Str×T)} (h:l7 K F v t) (r:qL K F vs ts):qL K F ((x,v)::vs) ((x,t)::ts)
inductive pV(K:W.Frag)(F:Hp):List (List qP×V)->List (LI×T)->Prop
 |nil:pV K F [] []
 |cons {k:LI} {v:V} {t:T} {vs:List (List qP×V)} {ts:List (LI×T)} (h:l7 K F v t) (r:pV K F vs ts):pV K F ((k.map Sum.inl,v)::vs) ((k,t)::ts)
end
section
variable {K:W.Frag}{F F':Hp}
mutual
theorem l7.mono(s:iS F F'):∀{v} {t},l7 K F v t->l7 K F' v t
 |_,_,.non=>.non
 |_,_,.bl b=>.bl b
 |_,_,.int i=>.int i
 |_,_,.str x=>.str x
 |_,_,.tup h r=>.tup (s _ _ h) (iK.mono s r)
 |_,_,.lst h r=>.lst (s _ _ h) (iK.mono s r)
 |_,_,.scr h=>.scr (s.seq h)
 |_,_,.obj h r=>.obj (s _ _ h) (qL.mono s r)
 |_,_,.emp h=>.emp (s _ _ h)
 |_,_,.dic h r=>.dic (s _ _ h) (pV.mono s r)
theorem iK.mono(s:iS F F'):∀{vs} {ts},iK K F vs ts->iK K F' vs ts
 |_,_,.nil=>.nil
 |_,_,.cons h r=>.cons (l7.mono s h) (iK.mono s r)
theorem qL.mono(s:iS F F'):∀{vs} {ts},qL K F vs ts->qL K F' vs ts
 |_,_,.nil=>.nil
 |_,_,.cons h r=>.cons (l7.mono s h) (qL.mono s r)
theorem pV.mono(s:iS F F'):∀{vs} {ts},pV K F vs ts->pV K F' vs ts
 |_,_,.nil=>.nil
 |_,_,.cons h r=>.cons (l7.mono s h) (pV.mono s r)
end
theorem iK.length:∀{vs} {ts},iK K F vs ts->vs.length=ts.length
 |_,_,.nil=>rfl
 |_,_,.cons _ r=>by rw[ay,ay,iK.length r]
theorem iK.get:∀{vs:List V} {ts:List T} {i:Nat} {t:T},iK K F vs ts->ts[i]? = some t->∃v,vs[i]? = some v/\l7 K F v t
 |_,_,_,_,.nil,e=>by simp at e
 |_,_,0,_,.cons h _,e=>by simp at e;subst e;exact⟨_,rfl,h⟩
 |_,_,i+1,_,.cons _ r,e=>by obtain⟨v,a,h⟩:=iK.get r (by simpa using e);exact⟨v,by simpa using a,h⟩
def iK.at_{i:Nat}(r:iK K F vs ts)(e:vs[i]? = some v):∃t,ts[i]? = some t/\l7 K F v t:=by
 have a:i<ts.length:=by rw[<-r.length];exact (aa.mp e).1
 obtain⟨c,b,h⟩:=r.get (ag a);rw[e]at b;cases b;exact⟨_,ag a,h⟩
theorem iK.append:∀{vs us} {ts ss},iK K F vs ts->iK K F us ss->iK K F (vs++us) (ts++ss)
 |_,_,_,_,.nil,q=>q
 |_,_,_,_,.cons h r,q=>.cons h (iK.append r q)
theorem iK.set(q:l7 K F v t):∀{vs} {ts} i,iK K F vs ts->iK K F (vs.set i v) (ts.set i t)
 |_,_,_,.nil=>.nil
 |_,_,0,.cons _ r=>.cons q r
 |_,_,i+1,.cons h r=>.cons h (iK.set q i r)
theorem iK.take:∀{vs} {ts} n,iK K F vs ts->iK K F (vs.take n) (ts.take n)
 |_,_,0,_=>.nil
 |_,_,_+1,.nil=>.nil
 |_,_,n+1,.cons h r=>.cons h (iK.take n r)
theorem iK.drop:∀{vs} {ts} n,iK K F vs ts->iK K F (vs.drop n) (ts.drop n)
 |_,_,0,r=>r
 |_,_,_+1,.nil=>.nil
 |_,_,n+1,.cons _ r=>iK.drop n r
theorem iK.rep:∀{vs} {ts} n,iK K F vs ts->iK K F (List.replicate n vs).flatten (List.replicate n ts).flatten
 |_,_,0,_=>.nil
 |_,_,n+1,r=>by rw[bZ,bZ,b4,b4];exact r.append (iK.rep n r)
theorem iK.ints:∀{vs:List V} {a:LI},iK K F vs (a.map T.int)->vs=a.map V.int
 |_,[],.nil=>rfl
 |_,_::_,.cons h r=>by cases h;rw[iK.ints r];rfl
theorem iK.bls:∀{vs:List V} {a:List Bool},iK K F vs (a.map T.bl)->vs=a.map V.bl
 |_,[],.nil=>rfl
 |_,_::_,.cons h r=>by cases h;rw[iK.bls r];rfl
theorem iK.of_ints:∀(a:LI),iK K F (a.map V.int) (a.map T.int)
 |[]=>.nil
 |n::a=>.cons (.int n) (iK.of_ints a)
theorem qL.look:∀{fs} {ts},qL K F fs ts->ts.lookup f=some t->∃v,fs.lookup f=some v/\l7 K F v t
 |_,_,.nil,e=>by cases e
 |_,_,.cons (x:=x) h r,e=>by
  by_cases a:f=x
  .subst a;rw[c7]at e;cases e;exact⟨_,c7,h⟩
  .have hb:(f==x)=false:=by simpa using a
   rw[cm,hb]at e;obtain⟨v,b,c⟩:=qL.look r e;exact⟨v,by rw[cm,hb];exact b,c⟩
theorem qL.none_:∀{fs} {ts},qL K F fs ts->ts.lookup f=none->fs.lookup f=none
 |_,_,.nil,e=>rfl
 |_,_,.cons (x:=x) h r,e=>by
  by_cases a:f=x
  .subst a;rw[c7]at e;cases e
  .have hb:(f==x)=false:=by simpa using a
   rw[cm,hb]at e ⊢;exact qL.none_ r e
end
def yO(h:JN o (some u))(b:∀q a,u≠.tbl q a):o=u:=by
 cases o with
 |tbl q a=>obtain⟨m,e⟩:=h;exact absurd (Option.some.inj e) (b _ _)
 |_=>exact (Option.some.inj h).symm
def Q9{x y:Option HO}(h:JN o x)(k:∀a,x=some a->JN a y):JN o y:=by
 cases o with
 |tbl q ps=>obtain⟨m,e⟩:=h;obtain⟨c,b⟩:=k _ e;exact⟨m++c,by rw[b,bA]⟩
 |_=>exact k _ h
def zD{H:Hp}(h:JN u (H b))(a:H p=none):b≠p:=λz=>h.ne (by rw[z];exact a)
structure Gr(F H F' H':Hp):Prop where
 ff:iS F F'
 fh:iS F' H'
 hh:iS H H'
 nw:∀a,F' a≠none->F a≠none\/H a=none\/∃xs,H a=some (.tup xs)
def Gr.refl(h:iS F H):Gr F H F H:=⟨.refl _,h,.refl _,λ_ h=>.inl h⟩
def iW(h:iS H H')(e:H' a=none):H a=none:=by
 cases q:H a with
 |none=>rfl
 |some o=>exact absurd e (h a o q).ne
def Gr.trans(g:Gr F H F' H')(b:Gr F' H' F'' H''):Gr F H F'' H'':=
 ⟨g.ff.trans b.ff,b.fh,g.hh.trans b.hh,λa c=>by
  rcases b.nw a c with q|q|⟨d,q⟩
  .exact g.nw a q
  .exact .inr (.inl (iW g.hh q))
  .cases z:H a with
   |none=>exact .inr (.inl rfl)
   |some o=>exact .inr (.inr ⟨d,by have k:=g.hh a o z;rw[q]at k;rw[yO k λ_ _ y=>nomatch y]⟩)⟩
def Gr.new(s:iS F H)(h:H p=none):Gr F H (jY F p o) (jY H p o):=by
 have c:=iW s h;refine⟨λb u e=>?_,λb u e=>?_,λb u e=>?_,λb a=>?_⟩
 .rw[ie (i7 e c)];exact .of e
 .by_cases q:b=p
  .subst q;rw[ig]at e ⊢;exact .of e
  .rw[ie q]at e ⊢;exact s b u e
 .rw[ie (i7 e h)];exact .of e
 .by_cases q:b=p
  .subst q;exact .inr (.inl h)
  .rw[ie q]at a;exact .inl a
def Gr.new'(s:iS F H)(h:H p=none):Gr F H F (jY H p o):=by
 refine⟨.refl _,λb u e=>?_,λb u e=>?_,λb a=>.inl a⟩
 .rw[ie (zD (s b u e) h)];exact s b u e
 .rw[ie (i7 e h)];exact .of e
def Gr.take(g:Gr F0 H0 F H)(h:H p=some o)(d:F p=none)(c:H0 p=none):Gr F0 H0 (jY F p o) H:=by
 refine⟨λb u e=>?_,λb u e=>?_,g.hh,λb a=>?_⟩
 .rw[ie (zD (g.ff b u e) d)];exact g.ff b u e
 .by_cases q:b=p
  .subst q;rw[ig]at e;cases e;exact .of h
  .rw[ie q]at e;exact g.fh b u e
 .by_cases q:b=p
  .subst q;exact .inr (.inl c)
  .rw[ie q]at a;exact g.nw b a
def lQ(a:F p=none):iS F (jY F p o):=λb u e=>by rw[ie (i7 e a)];exact .of e
abbrev Pe:=List (Option T)
section
variable (K:W.Frag)
def nP(F:Hp)(a:St)(ρ:Pe):Prop:=∀(i:Nat) (t:T),ρ[i]? = some (some t)->∃v,a[i]? = some (some v)/\l7 K F v t
def nP.mono{K:W.Frag}(h:nP K F σ ρ)(s:iS F F'):nP K F' σ ρ:=λi t e=>let ⟨v,a,b⟩:=h i t e;⟨v,a,b.mono s⟩
def Xc(E:XK)(C:Addr)(n:Option Int)(F H:Hp):Prop:=match n with
 |none=>E (.ref C) none H
 |some i=>∀a,F a=some (.xd [("at",.int i)])->E (.ref C) (some a) H
def kE(E:XK)(F H:Hp)(C:Addr)(n:Option Int):Prop:=∀a b,Gr F H a b->Xc E C n a b
def kE.go(h:kE E F H C n)(g:Gr F H F1 H1):kE E F1 H1 C n:=λa b c=>h a b (g.trans c)
def kV(F H:Hp)(Q:VK)(t:T):Prop:=∀v a b,Gr F H a b->l7 K a v t->Q v b
def kB(F H:Hp)(Q:Bool->Hp->Prop)(b:Bool):Prop:=∀c a,Gr F H c a->Q b a
def kA(F H:Hp)(Q:List V->Hp->Prop)(ts:List T):Prop:=∀a b c,Gr F H b c->iK K b a ts->Q a c
def kF(F H:Hp)(Q:VK)(ts:List T):Prop:=∀l c a b,Gr F H a b->H l=none->a l=none->b l=some (.lst c)->iK K a c ts->Q (.ref l) b
noncomputable def ME(E:XK)(t:TE)(f:Pe->M T):Prop:=∀F H a b Q,iS F H->nP K F a b->(f b).res (kV K F H Q) (kE E F H)->t a H Q
noncomputable def MT(E:XK)(t:TT)(f:Pe->M Bool):Prop:=∀F H a b Q,iS F H->nP K F a b->(f b).res (kB F H Q) (kE E F H)->t a H Q
noncomputable abbrev ba:=List T
noncomputable def MA(E:XK)(t:TA)(f:Pe->M ba):Prop:=∀F H a b Q,iS F H->nP K F a b->(f b).res (kA K F H Q) (kE E F H)->t a H Q
noncomputable def MF(E:XK)(t:TE)(f:Pe->M ba):Prop:=∀F H a b Q,iS F H->nP K F a b->(f b).res (kF K F H Q) (kE E F H)->t a H Q
end
section
variable {K:W.Frag}{E:XK}{t u ta tb:TE}{f g fa fb:Pe->M T}
def kV.go{t:T}(h:kV K F H Q t)(g:Gr F H F1 H1):kV K F1 H1 Q t:=λv a b c r=>h v a b (g.trans c) r
def kB.go{t:Bool}(h:kB F H Q t)(g:Gr F H F1 H1):kB F1 H1 Q t:=λa b c=>h a b (g.trans c)
def kF.go{t:List T}(h:kF K F H Q t)(g:Gr F H F1 H1):kF K F1 H1 Q t:=λl e i j k a b c d=>h l e i j (g.trans k) (iW g.hh a) b c d
def kV.now{t:T}(h:kV K F H Q t)(s:iS F H)(r:l7 K F v t):Q v H:=h v F H (.refl s) r
def kF.of(h:kV K F H Q (.lst ts)):kF K F H Q ts:=λl c e i g d b a r=>h (.ref l) (jY e l (.lst c)) i (g.take a b d) (.lst ig (r.mono (lQ b)))
def MF.me{f:Pe->M ba}(h:MF K E t f):ME K E t (λρ=>(f ρ).bind λts=>.ok (.lst ts)):=λF H a ρ Q s V r=>h F H a ρ Q s V ((M.res.unb r).mono (λts q=>kF.of q) λ_ _ z=>z)
def ME.run{k:T->M α}{P:α->Prop}(h:ME K E t f)(s:iS F H)(v:nP K F σ ρ)(r:((f ρ).bind k).res P (kE E F H))
  (d:∀x w a b,Gr F H a b->l7 K a w x->(k x).res P (kE E a b)->Q w b):t σ H Q:=
 h F H σ ρ Q s v ((M.res.unb r).mono (λx q w a b g c=>d x w a b g c (q.mono (λ_ z=>z) λ_ _ z=>z.go g)) λ_ _ z=>z)
def MT.run{t:TT}{f:Pe->M Bool}{k:Bool->M α}{P:α->Prop}(h:MT K E t f)(s:iS F H)(v:nP K F σ ρ)(r:((f ρ).bind k).res P (kE E F H))
  (c:∀x b a,Gr F H b a->(k x).res P (kE E b a)->Q x a):t σ H Q:=
 h F H σ ρ Q s v ((M.res.unb r).mono (λx q b a g=>c x b a g (q.mono (λ_ z=>z) λ_ _ z=>z.go g)) λ_ _ z=>z)
def MA.run{t:TA}{f:Pe->M ba}{k:List T->M α}{P:α->Prop}(h:MA K E t f)(s:iS F H)(v:nP K F σ ρ)(r:((f ρ).bind k).res P (kE E F H))
  (d:∀x w a b,Gr F H a b->iK K a w x->(k x).res P (kE E a b)->Q w b):t σ H Q:=
 h F H σ ρ Q s v ((M.res.unb r).mono (λx q w a b g c=>d x w a b g c (q.mono (λ_ z=>z) λ_ _ z=>z.go g)) λ_ _ z=>z)
@[simp] noncomputable def gJ(i:Nat):Pe->M T:=λa=>match a[i]? with
 |some (some t)=>.ok t
 |_=>.bad
def TF:ME K E (oQ i) (gJ i):=λF H b c Q s V r=>by
 unfold gJ at r;split at r
 .rename_i t e;obtain⟨v,a,h⟩:=V i t e;exact⟨v,a,r.now s h⟩
 .exact r.elim
@[simp] noncomputable def cM(t:T):Pe->M T:=λ_=>.ok t
def JR{t:T}(h:∀F,l7 K F v t):ME K E (tC v) (cM t):=λF H a b Q s V r=>kV.now r s (h F)
@[simp] noncomputable def gW(o:T->T->M T)(fa fb:Pe->M T):Pe->M T:=λa=>(fa a).bind λx=>(fb a).bind λy=>o x y
structure MR(K:W.Frag)(r:R2)(o:T->T->M T):Prop where
 ne:∀x y,M.NoE (o x y)
 ok:∀F H v w x y Q,iS F H->l7 K F v x->l7 K F w y->(o x y).res (kV K F H Q) (λ_ _=>False)->r v w H Q
def Hz(hr:MR K r o)(e:ME K E ta fa)(hb:ME K E tb fb):ME K E (zv r ta tb) (gW o fa fb):=λF H l n Q s V q=>by refine e.run s V q λx v m p a i j=>?_;refine hb.run a.fh (V.mono a.ff) j λy w k c b h d=>?_;exact hr.ok k c v w x y Q b.fh (i.mono b.ff) h ((d.ne (hr.ne x y)).mono (λ_ z=>z.go (a.trans b)) λ_ _ z=>z)
noncomputable def l8(C:Int->Int->Bool)(g:Int->Int->T):T->T->M T
 |.int i,.int j=>if C i j then .ok (g i j) else .bad
 |_,_=>.bad
def DZ{g:Int->Int->T} x y:M.NoE (l8 C g x y):=λa n=>by
 unfold l8;split
 .split<;>exact λz=>nomatch z
 .exact λz=>nomatch z
def l7.int_inv(h:l7 K F v (.int i)):v=.int i:=by cases h;rfl
def l7.lst_inv(h:l7 K F v (.lst ts)):∃a b,v=.ref a/\F a=some (.lst b)/\iK K F b ts:=by cases h;exact⟨_,_,rfl,‹_›,‹_›⟩
def l7.tup_inv(h:l7 K F v (.tup ts)):∃a b,v=.ref a/\F a=some (.tup b)/\iK K F b ts:=by cases h;exact⟨_,_,rfl,‹_›,‹_›⟩
def iK.two(h:iK K F vs [.int i,.int j]):vs=[.int i,.int j]:=by
 cases h with
 |cons h t=>
  cases t with
  |cons h2 t=>cases t;rw[h.int_inv,h2.int_inv]
def CW{g:Int->Int->V}(d:∀i j,Cb i j=true->C i j)(c:∀F i j,l7 K F (g i j) (gt i j)):MR K (rI C g) (l8 Cb gt):=⟨DZ,λF H v w x y Q s a b q=>by
 unfold l8 at q;split at q
 .rename_i i j;rw[a.int_inv,b.int_inv];by_cases h:Cb i j=true
  .rw[aQ h]at q;exact⟨i,j,rfl,rfl,d i j h,kV.now q s (c F i j)⟩
  .rw[aR h]at q;exact q.elim
 .exact q.elim⟩
def vF{g:Int->Int->V}(c:∀F i j,l7 K F (g i j) (gt i j)):MR K (Fj g) (l8 (λ_ _=>true) gt):=⟨DZ,λF H v w x y Q s a b q=>by
 unfold l8 at q;split at q
 .rw[a.int_inv,b.int_inv];exact⟨_,_,rfl,rfl,kV.now q s (c F _ _)⟩
 .exact q.elim⟩
@[simp] noncomputable def pU(o:Int->T)(fa:Pe->M T):Pe->M T:=λa=>(fa a).bind λx=>match x with
 |.int i=>.ok (o i)
 |_=>.bad
def Vo{g:Int->V}(h:∀F i,l7 K F (g i) (gt i))(d:ME K E ta fa):ME K E (Wo (rU g) ta) (pU gt fa):=λF H k l Q s V q=>by
 refine d.run s V q λx v a j c e b=>?_;cases e<;>first
  |exact b.elim
  |exact⟨_,rfl,b _ a j c (h a _)⟩
@[simp] noncomputable def iD(fa:Pe->M T):Pe->M Bool:=λa=>(fa a).bind λx=>match x with
 |.bl b=>.ok b
 |_=>.bad
def K5(h:ME K E ta fa):MT K E (tB ta) (iD fa):=λF H i j Q s V q=>by
 refine h.run s V q λx v d e b c a=>?_;cases c<;>first
  |exact a.elim
  |exact⟨_,rfl,a d e b⟩
def Ot(a:ME K E ta fa):MT K E (Bh ta) (iD fa):=K5 a
section
variable {c d:TT}{fc fd:Pe->M Bool}
@[simp] noncomputable def mj(fc fd:Pe->M Bool):Pe->M Bool:=λa=>(fc a).bind λb=>if b then fd a else .ok false
@[simp] noncomputable def rV(fc fd:Pe->M Bool):Pe->M Bool:=λa=>(fc a).bind λb=>if b then .ok true else fd a
@[simp] noncomputable def lA(fc:Pe->M Bool):Pe->M Bool:=λa=>(fc a).bind λb=>.ok (!b)
def RJ(l:MT K E c fc)(j:MT K E d fd):MT K E (Sz c d) (mj fc fd):=λF H k m Q s V q=>by
 refine l.run s V q λb e i a h=>?_;cases b with
 |true=>rw[aQ rfl];exact j e i k m Q a.fh (V.mono a.ff) (h.mono (λ_ z=>z.go a) λ_ _ z=>z)
 |false=>rw[aR aH];exact h e i a
def Vf(l:MT K E c fc)(j:MT K E d fd):MT K E (Wt c d) (rV fc fd):=λF H k m Q s V q=>by
 refine l.run s V q λb e i a h=>?_;cases b with
 |true=>rw[aQ rfl];exact h e i a
 |false=>rw[aR aH];exact j e i k m Q a.fh (V.mono a.ff) (h.mono (λ_ z=>z.go a) λ_ _ z=>z)
def SZ(j:MT K E c fc):MT K E (SH c) (lA fc):=λF H k l Q s V q=>by refine j.run s V q λb e i a h=>?_;exact h e i a
@[simp] noncomputable def T9(fc:Pe->M Bool)(fa fb:Pe->M T):Pe->M T:=λa=>(fc a).bind λb=>if b then fa a else fb a
def Uu(m:MT K E c fc)(l:ME K E ta fa)(hb:ME K E tb fb):ME K E (Wd c ta tb) (T9 fc fa fb):=λF H h k Q s V q=>by
 refine m.run s V q λb e j a i=>?_;cases b with
 |true=>rw[aQ rfl];exact l e j h k Q a.fh (V.mono a.ff) (i.mono (λ_ z=>z.go a) λ_ _ z=>z)
 |false=>rw[aR aH];exact hb e j h k Q a.fh (V.mono a.ff) (i.mono (λ_ z=>z.go a) λ_ _ z=>z)
end
@[simp] noncomputable def B2(fa fb:Pe->M T):Pe->M T:=λa=>(iD fa a).bind λb=>if b then fb a else .ok (.bl false)
@[simp] noncomputable def VW(fa fb:Pe->M T):Pe->M T:=λa=>(iD fa a).bind λb=>if b then .ok (.bl true) else fb a
@[simp] noncomputable def DF(fa:Pe->M T):Pe->M T:=λa=>(iD fa a).bind λb=>.ok (.bl (!b))
def Qy(i:ME K E ta fa)(hb:ME K E tb fb):ME K E (Mi ta tb) (B2 fa fb):=λF H h j Q s V q=>by
 refine (K5 i).run s V q λb c e a d=>?_;cases b with
 |true=>rw[aQ rfl];exact hb c e h j Q a.fh (V.mono a.ff) (d.mono (λ_ z=>z.go a) λ_ _ z=>z)
 |false=>rw[aR aH];exact d _ c e a (.bl _)
def RS(i:ME K E ta fa)(hb:ME K E tb fb):ME K E (TN ta tb) (VW fa fb):=λF H h j Q s V q=>by
 refine (K5 i).run s V q λb c e a d=>?_;cases b with
 |true=>rw[aQ rfl];exact d _ c e a (.bl _)
 |false=>rw[aR aH];exact hb c e h j Q a.fh (V.mono a.ff) (d.mono (λ_ z=>z.go a) λ_ _ z=>z)
def Qq(h:ME K E ta fa):ME K E (K2 ta) (DF fa):=λF H i j Q s V q=>by refine (K5 h).run s V q λb c e a d=>?_;exact d _ c e a (.bl _)
@[simp] noncomputable def gI(fa:Pe->M T)(fr:Pe->M ba):Pe->M ba:=λa=>(fa a).bind λx=>(fr a).bind λb=>.ok (x::b)
@[simp] noncomputable def gM:Pe->M ba:=λ_=>.ok []
def E9:MA K E yi gM:=λF H a b Q s V q=>q [] F H (.refl s) .nil
def OT{b:TA}{fr:Pe->M ba}(i:ME K E ta fa)(hr:MA K E b fr):MA K E (ux ta b) (gI fa fr):=λF H n r Q s V q=>by refine i.run s V q λx v o w a k l=>?_;refine hr.run a.fh (V.mono a.ff) l λp d m e c j h=>?_;exact h (v::d) m e (a.trans c) (.cons (k.mono c.ff) j)
@[simp] noncomputable def De(ts:List T):M ba:=if ts.length<=sizeLine then .ok ts else .bad
@[simp] noncomputable def jX(fr:Pe->M ba):Pe->M T:=λb=>(fr b).bind λa=>(De a).bind λa=>.ok (.tup a)
@[simp] noncomputable def lstM(fr:Pe->M ba):Pe->M ba:=λa=>(fr a).bind De
def Sj{c:TA}{fr:Pe->M ba}(hr:MA K E c fr):ME K E (RL c) (jX fr):=λF H k m Q s V q=>by
 refine hr.run s V q λi j l n b d a=>?_;unfold De at a;by_cases h:i.length<=sizeLine
 .rw[aQ h]at a;refine⟨by rw[d.length];exact h,λp e=>?_⟩;exact a (.ref p) _ _ (b.trans (.new b.fh e)) (.tup ig (d.mono (Gr.new b.fh e).ff))
 .rw[aR h]at a;exact a.elim
def Te{d:TA}{fr:Pe->M ba}(hr:MA K E d fr):MF K E (R9 d) (lstM fr):=λF H l m Q s V q=>by
 refine hr.run s V q λk i j n b e a=>?_;unfold De at a;by_cases h:k.length<=sizeLine
 .rw[aQ h]at a;refine⟨by rw[e.length];exact h,λp c=>?_⟩;exact a p i j _ (b.trans (.new' b.fh c)) (iW b.hh c) (iW b.fh c) ig e
 .rw[aR h]at a;exact a.elim
end
end L3
namespace L3
open PySem L2
inductive W where
 |p (t:T)|o (ts:List T)|d (kvs:List (LI×T))
abbrev En:=List (Option W)
@[simp] def Wk:Option W->Option T
 |some (.p t)=>some t
 |_=>none
@[simp] def Wz:Option W->Option T
 |some (.p t)=>some t
 |some (.o ts)=>some (.lst ts)
 |_=>none
@[simp] noncomputable def nQ(ρ:En):Pe:=ρ.map Wk
@[simp] noncomputable def vw(ρ:En):Pe:=ρ.map Wz
mutual
@[simp] noncomputable def lf:T->Bool
 |.lst _=>false
 |.scr _=>false
 |.dic _=>false
 |.tup ts=>JO ts
 |.obj _ fs=>VM fs
 |_=>true
@[simp] noncomputable def JO:List T->Bool
 |[]=>true
 |t::ts=>lf t&&JO ts
noncomputable def VM:List (Str×T)->Bool
 |[]=>true
 |t::ts=>lf t.2&&VM ts
end
structure Fz where
 hp:Hp
 lt:List (Nat×Addr×List V)
instance:Coe Fz Hp:=⟨Fz.hp⟩
structure Lv(H0 F H:Hp)(σ:St)(ρ:En)(e:Nat×Addr×List V):Prop where
 h:H e.2.1=some (.lst e.2.2)
 f:F e.2.1=none
 z:H0 e.2.1=none
 d:∀(i:Nat) (ts:List T),ρ[i]? = some (some (.o ts))->σ[i]?≠some (some (.ref e.2.1))
def DR(K:W.Frag)(F:Hp)(a:List (List qP×V))(kvs:List (LI×T)):Prop:=Paired (λ(p:List qP×V) (q:LI×T)=>p.1=q.1.map Sum.inl/\l7 K F p.2 q.2) a kvs
def DR.mono(s:iS F F')(h:DR K F xs kvs):DR K F' xs kvs:=Paired.imp' (λ_ _ q=>⟨q.1,q.2.mono s⟩) h
structure Dv(K:W.Frag)(H0 F H:Hp)(σ:St)(ρ:En):Prop where
 at_:∀(i:Nat) kvs,ρ[i]? = some (some (.d kvs))->∃a,σ[i]? = some (some (.ref a))/\F a=none/\H0 a=none/\∃xs,H a=some (.dT xs)/\DR K F xs kvs
 dj:∀(i j:Nat) kvs kvs',ρ[i]? = some (some (.d kvs))->ρ[j]? = some (some (.d kvs'))->i≠j->σ[i]?≠σ[j]?
def Ig{a:Type}{l:List a}{x y:a}(h:(l.set i x)[i]? = some y):y=x:=by
 rw[List.getElem?_set]at h;simp only[if_true]at h;split at h
 .exact (Option.some.inj h).symm
 .cases h
def Jp{a:Type}{l:List a}{x y:a}(h:(l.set i x)[j]? = some y):(j=i/\y=x)\/(j≠i/\l[j]? = some y):=by
 by_cases e:j=i
 .subst e;exact .inl ⟨rfl,Ig h⟩
 .rw[aq (λz=>e z.symm)]at h;exact .inr ⟨e,h⟩
def Dv.heap(d:Dv K H0 F H σ ρ)(s:iS F F')(h:∀a b,H a=some (.dT b)->F a=none->F' a=none/\H' a=some (.dT b)):Dv K H0 F' H' σ ρ:=⟨λi c e=>let ⟨a,e1,e2,e3,b,e4,e5⟩:=d.at_ i c e;let ⟨h1,h2⟩:=h a b e4 e2;⟨a,e1,h1,e3,b,h2,e5.mono s⟩,d.dj⟩
def Dv.set(d:Dv K H0 F H σ ρ)(hw:∀kvs,w≠some (.d kvs)):Dv K H0 F H (σ.set i v) (ρ.set i w):=by
 refine⟨λj kvs e=>?_,λj k kvs b e l c=>?_⟩
 .rcases Jp e with⟨rfl,q⟩|⟨f,q⟩
  .exact absurd q.symm (hw kvs)
  .obtain⟨a,h,r⟩:=d.at_ j kvs q;exact⟨a,by rw[aq (λz=>f z.symm)];exact h,r⟩
 .rcases Jp e with⟨rfl,q⟩|⟨f,q⟩
  .exact absurd q.symm (hw kvs)
  .rcases Jp l with⟨rfl,g⟩|⟨m,g⟩
   .exact absurd g.symm (hw b)
   .rw[aq (λz=>f z.symm),aq (λz=>m z.symm)];exact d.dj j k kvs b q g c
def Dv.setR(d:Dv K H0 F H σ ρ)(hw:∀kvs,w≠some (.d kvs)):Dv K H0 F H σ (ρ.set i w):=by
 refine⟨λj kvs e=>?_,λj k kvs a e g b=>?_⟩
 .rcases Jp e with⟨rfl,q⟩|⟨f,q⟩
  .exact absurd q.symm (hw kvs)
  .exact d.at_ j kvs q
 .rcases Jp e with⟨rfl,q⟩|⟨f,q⟩
  .exact absurd q.symm (hw kvs)
  .rcases Jp g with⟨rfl,c⟩|⟨h,c⟩
   .exact absurd c.symm (hw a)
   .exact d.dj j k kvs a q c b
structure Sr(K:W.Frag)(F0:Fz)(H0 F H:Hp)(σ:St)(ρ:En):Prop where
 gr:Gr F0.hp H0 F H
 len:σ.length=ρ.length
 pv:∀(i:Nat) (t:T),ρ[i]? = some (some (.p t))->∃v,σ[i]? = some (some v)/\l7 K F v t
 ov:∃ad:Nat->Addr,(∀(i:Nat) (ts:List T),ρ[i]? = some (some (.o ts))->σ[i]? = some (some (.ref (ad i)))/\F (ad i)=none/\H0 (ad i)=none/\∃vs,H (ad i)=some (.lst vs)/\iK K F vs ts)/\
  ∀(i j:Nat) (ts us:List T),ρ[i]? = some (some (.o ts))->ρ[j]? = some (some (.o us))->i≠j->ad i≠ad j
 lv:∀e∈F0.lt,Lv H0 F H σ ρ e
 sl:∀(j:Nat) (l:Addr) (vs:List V),F0.lt.lookup j=some (l,vs)->ρ[j]? = some none->σ[j]? = some (some (.ref l))
 dv:Dv K H0 F H σ ρ
section
variable {K:W.Frag}{F0:Fz}{H0 F H F' H':Hp}{σ:St}{ρ:En}
def Sr.vars(r:Sr K F0 H0 F H σ ρ):nP K F σ (nQ ρ):=λi t e=>by
 unfold nQ at e;rw[av]at e;cases q:ρ[i]? with
 |none=>rw[q]at e;cases e
 |some w=>
  rw[q]at e;cases w with
  |none=>cases e
  |some w=>
   cases w with
   |p t'=>cases e;exact r.pv i _ q
   |o ts=>cases e
   |d kvs=>cases e
def Sr.grow(r:Sr K F0 H0 F H σ ρ)(g:Gr F H F' H'):Sr K F0 H0 F' H' σ ρ:=by
 obtain⟨j,s,n⟩:=r.ov;refine⟨r.gr.trans g,r.len,λi t e=>?_,⟨j,λi p e=>?_,n⟩,λe l=>?_,r.sl,r.dv.heap g.ff λa x k o=>⟨?_,g.hh _ _ k⟩⟩
 .obtain⟨v,a,b⟩:=r.pv i t e;exact⟨v,a,b.mono g.ff⟩
 .obtain⟨a,b,c,m,d,q⟩:=s i p e;refine⟨a,?_,c,m,g.hh _ _ d,q.mono g.ff⟩;cases z:F' (j i) with
  |none=>rfl
  |some u=>
   rcases g.nw (j i) (by rw[z];exact λw=>nomatch w) with y|y|⟨_,y⟩
   .exact absurd b y
   .rw[d]at y;cases y
   .rw[d]at y;cases y
 .have L:=r.lv e l;refine⟨g.hh _ _ L.h,?_,L.z,L.d⟩;cases z:F' e.2.1 with
  |none=>rfl
  |some u=>
   rcases g.nw e.2.1 (by rw[z];exact λw=>nomatch w) with y|y|⟨_,y⟩
   .exact absurd L.f y
   .rw[L.h]at y;cases y
   .rw[L.h]at y;cases y
 .cases z:F' a with
  |none=>rfl
  |some u=>
   rcases g.nw a (by rw[z];exact λw=>nomatch w) with y|y|⟨_,y⟩
   .exact absurd o y
   .rw[k]at y;cases y
   .rw[k]at y;cases y
theorem Sr.lend(r:Sr K F0 H0 F H σ ρ):∃k,iS F k/\Gr F0.hp H0 k H/\nP K k σ (vw ρ)/\
  (∀F' H',Gr k H F' H'->∃j,Gr F H j H'/\iS F j/\iS j F'/\(∀a,F' a≠none->j a=none->∃I,F' a=some (.lst I))/\(∀a,F' a≠none->j a=none->H a≠none)):=by
 classical
 obtain⟨J,m,N⟩:=r.ov;let f:Addr->Prop:=λa=>∃i h,ρ[i]? = some (some (.o h))/\J i=a;let k:Hp:=λa=>if f a then H a else F a
 have s:iS F k:=λa o e=>by
  have:¬f a:=by rintro⟨i,h,q,rfl⟩;obtain⟨_,b,_⟩:=m i h q;rw[b]at e;cases e
  show JN o (if f a then H a else F a);rw[aR this];exact .of e
 have L:iS k H:=λa o e=>by
  by_cases q:f a
  .have u:(if f a then H a else F a)=some o:=e;rw[aQ q]at u;exact .of u
  .have u:(if f a then H a else F a)=some o:=e;rw[aR q]at u;exact r.gr.fh a o u
 have D:∀a,f a->k a=H a:=λa q=>aQ q;have C:∀a,¬f a->k a=F a:=λa q=>aR q;refine⟨k,s,⟨r.gr.ff.trans s,L,r.gr.hh,λa l=>?_⟩,λi t e=>?_,λF' H' g=>?_⟩
 .by_cases q:f a
  .obtain⟨i,h,e,rfl⟩:=q;exact .inr (.inl (m i h e).2.2.1)
  .rw[C a q]at l;exact r.gr.nw a l
 .unfold vw at e;rw[av]at e;cases q:ρ[i]? with
  |none=>rw[q]at e;cases e
  |some w=>
   rw[q]at e;cases w with
   |none=>cases e
   |some w=>
    cases w with
    |p t'=>cases e;obtain⟨v,a,b⟩:=r.pv i _ q;exact⟨v,a,b.mono s⟩
    |o h=>cases e;obtain⟨a,b,c,y,d,z⟩:=m i h q;exact⟨_,a,.lst (by rw[D _ ⟨i,h,q,rfl⟩];exact d) (z.mono s)⟩
    |d kvs=>cases e
 .let j:Hp:=λa=>if f a then none else F' a
  have x:∀a,¬f a->j a=F' a:=λa q=>aR q;have E:∀a,f a->j a=none:=λa q=>aQ q;have B:iS F j:=λa o e=>by
   have:¬f a:=by rintro⟨i,h,q,rfl⟩;obtain⟨_,b,_⟩:=m i h q;rw[b]at e;cases e
   rw[x a this];exact (s.trans g.ff) _ _ e
  have A:iS j F':=λa o e=>by
   by_cases q:f a
   .rw[E a q]at e;cases e
   .rw[x a q]at e;exact .of e
  refine⟨j,⟨B,A.trans g.fh,g.hh,λa l=>?_⟩,B,A,λa l n=>?_,λa l n=>?_⟩
  .by_cases q:f a
   .exact absurd (E a q) l
   .rw[x a q]at l;rcases g.nw a l with z|z
    .rw[C a q]at z;exact .inl z
    .exact .inr z
  .by_cases q:f a
   .obtain⟨i,h,e,rfl⟩:=id q;obtain⟨_,_,_,y,d,_⟩:=m i h e;exact⟨y,g.ff _ (.lst y) (by rw[D _ q];exact d)⟩
   .rw[x a q]at n;exact absurd n l
  .by_cases q:f a
   .obtain⟨i,h,e,rfl⟩:=id q;obtain⟨_,_,_,y,d,_⟩:=m i h e;rw[d];exact λz=>nomatch z
   .rw[x a q]at n;exact absurd n l
mutual
theorem l7.less(sb:iS Fb F)(h:∀a,F a≠none->Fb a=none->∃c,F a=some (.lst c)):∀{v} {t},l7 K F v t->lf t=true->l7 K Fb v t
 |_,_,.non,_=>.non
 |_,_,.bl b,_=>.bl b
 |_,_,.int i,_=>.int i
 |_,_,.str x,_=>.str x
 |_,_,.tup (a:=a) e r,l=>by
  refine .tup ?_ (iK.less sb h r (by simpa[lf] using l));cases q:Fb a with
  |none=>obtain⟨c,z⟩:=h a (by rw[e];exact λz=>nomatch z) q;rw[e]at z;cases z
  |some u=>have k:=sb a u q;rw[e]at k;rw[yO k λ_ _ y=>nomatch y]
 |_,_,.lst _ _,l=>by simp[lf]at l
 |_,_,.scr _,l=>by simp[lf]at l
 |_,_,.obj (a:=a) (dx:=dx) e r,l=>by
  refine .obj (dx:=dx) ?_ (qL.less sb h r (by simpa[lf] using l));cases q:Fb a with
  |none=>obtain⟨c,z⟩:=h a (by rw[e];exact λz=>nomatch z) q;rw[e]at z;cases z
  |some u=>have k:=sb a u q;rw[e]at k;rw[yO k λ_ _ y=>nomatch y]
 |_,_,.dic _ _,l=>by simp[lf]at l
 |_,_,.emp (a:=a) e,l=>by
  refine .emp ?_;cases q:Fb a with
  |none=>obtain⟨c,z⟩:=h a (by rw[e];exact λz=>nomatch z) q;rw[e]at z;cases z
  |some u=>have k:=sb a u q;rw[e]at k;rw[yO k λ_ _ y=>nomatch y]
theorem iK.less(sb:iS Fb F)(h:∀a,F a≠none->Fb a=none->∃b,F a=some (.lst b)):∀{vs} {ts},iK K F vs ts->JO ts=true->iK K Fb vs ts
 |_,_,.nil,_=>.nil
 |_,_,.cons q r,l=>by rw[JO,bV]at l;exact .cons (l7.less sb h q l.1) (iK.less sb h r l.2)
theorem qL.less(sb:iS Fb F)(h:∀a,F a≠none->Fb a=none->∃b,F a=some (.lst b)):∀{vs} {ts},qL K F vs ts->VM ts=true->qL K Fb vs ts
 |_,_,.nil,_=>.nil
 |_,_,.cons q r,l=>by rw[VM,bV]at l;exact .cons (l7.less sb h q l.1) (qL.less sb h r l.2)
end
end
end L3
namespace L3
open PySem L2
def kT(K:W.Frag)(F H:Hp)(Q:VK)(ts us:List T):Prop:=∀p l d c a b,Gr F H a b->H l=none->a l=none->H p=none->a p=none->p≠l->b l=some (.lst c)->b p=some (.tup (d++[.ref l]))->iK K a d ts->iK K a c us->Q (.ref p) b
def kT.of(h:kV K F H Q (.tup (ts++[.lst us]))):kT K F H Q ts us:=λp l q k j v g a b c d e f i r u=>by
 have s:=g.take f b a;have n:jY j l (.lst k) p=none:=by rw[ie e];exact d
 have o:iS j (jY j l (.lst k)):=lQ b;have m:iS (jY j l (.lst k)) (jY (jY j l (.lst k)) p (.tup (q++[.ref l]))):=lQ n;exact h (.ref p) _ v (s.take i n c) (.tup ig ((r.mono (o.trans m)).append (.cons (.lst (m _ _ ig) (u.mono (o.trans m))) .nil)))
inductive O where
 |bad|nx (ρ:En)|rt (t:T)|rf (ts:List T)|rn (ts us:List T)|bk (ρ:En)|ct (ρ:En)|er (C:Addr) (n:Option Int)
section
variable (K:W.Frag)(E:XK)
def kN(d:Fz)(e F:Hp)(D:St->Hp->Prop)(ρ:En):Prop:=∀b c a,iS F b->Sr K d e b c a ρ->D a c
noncomputable def O.res(o:O)(a:Fz)(b F:Hp)(D:wI):Prop:=match o with
 |.bad=>False
 |.nx ρ=>kN K a b F D.nx ρ
 |.rt t=>kV K a.hp b D.rt t
 |.rf ts=>kF K a.hp b D.rt ts
 |.rn ts us=>kT K a.hp b D.rt ts us
 |.bk ρ=>kN K a b F D.bk ρ
 |.ct ρ=>kN K a b F D.ct ρ
 |.er C n=>kE E a.hp b C n
noncomputable def MS(t:TS)(g:En->O):Prop:=∀a d F H b c D,Sr K a d F H b c->(g c).res K E a d F D->t D b H
end
section
variable {K:W.Frag}{E:XK}{t u ta tb:TE}{f fa fb:Pe->M T}{F0:Fz}{H0 F H F1 H1:Hp}{σ:St}{ρ:En}{D:wI}
def kN.go(h:kN K F0 H0 F N ρ)(s:iS F F1):kN K F0 H0 F1 N ρ:=λc d a b r=>h c d a (s.trans b) r
def O.res.go{o:O}(h:o.res K E F0 H0 F D)(s:iS F F1):o.res K E F0 H0 F1 D:=by
 cases o with
 |bad=>exact h
 |nx ρ=>exact kN.go h s
 |rt t=>exact h
 |rf ts=>exact h
 |rn ts us=>exact h
 |bk ρ=>exact kN.go h s
 |ct ρ=>exact kN.go h s
 |er C n=>exact h
noncomputable def O.of{b:Type}(m:M b)(k:b->O):O:=match m with
 |.bad=>.bad
 |.ok a=>k a
 |.er C n=>.er C n
@[simp] theorem O.of_ok(a:α) k:O.of (.ok a) k=k a:=rfl
@[simp] theorem O.of_bad k:O.of (.bad:M α) k=.bad:=rfl
@[simp] theorem O.of_er C n k:O.of (.er C n:M α) k=.er C n:=rfl
def O.res_of{m:M α}{k:α->O}(h:(O.of m k).res K E F0 H0 F D):m.res (λa=>(k a).res K E F0 H0 F D) (kE E F0.hp H0):=by cases m<;>exact h
@[simp] noncomputable def gZ(a b:En->O):En->O:=λρ=>match a ρ with
 |.nx ρ'=>b ρ'
 |o=>o
def SE{t u:TS}(j:MS K E t a)(g:MS K E u b):MS K E (Of t u) (gZ a b):=λF0 H0 F H σ ρ D r q=>by
 refine j F0 H0 F H σ ρ _ r ?_;unfold gZ at q;cases e:a ρ with
 |nx ρ'=>rw[e]at q;intro d i c s h;exact g F0 H0 d i c ρ' D h (q.go s)
 |bad=>rw[e]at q;exact q
 |rt t=>rw[e]at q;exact q
 |rf ts=>rw[e]at q;exact q
 |rn ts us=>rw[e]at q;exact q
 |bk ρ=>rw[e]at q;exact q
 |ct ρ=>rw[e]at q;exact q
 |er C n=>rw[e]at q;exact q
@[simp] noncomputable def iN:En->O:=λρ=>.nx ρ
def PF:MS K E NA iN:=λF0 H0 F H σ ρ D r q=>q F H σ (.refl _) r
def MJ:MS K E Fu (λ_=>.bad):=λ_ _ _ _ _ _ _ _ q=>q
def MT.inS(m:MT K E c fc)(r:Sr K F0 H0 F H σ ρ)(q:(O.of (fc (vw ρ)) k).res K E F0 H0 F D)
  (o:∀b d e,iS F d->Sr K F0 H0 d e σ ρ->(k b).res K E F0 H0 d D->Q b e):c σ H Q:=by
 obtain⟨l,p,g0,V,a⟩:=r.lend;refine m l H σ (vw ρ) Q g0.fh V ((O.res_of q).mono (λb z d e g=>?_) λC n z=>z.go g0);obtain⟨j,i,h,_⟩:=a d e g;exact o b j e h (r.grow i) (z.go h)
@[simp] noncomputable def lS(d:Pe->M Bool)(a b:En->O):En->O:=λρ=>.of (d (vw ρ)) λc=>if c then a ρ else b ρ
def Ug{t u:TS}(h:MT K E c fc)(i:MS K E t a)(g:MS K E u b):MS K E (SM c t u) (lS fc a b):=λF0 H0 F H σ ρ D r q=>by
 refine h.inS r q λc j k s e d=>?_;cases c with
 |true=>rw[aQ rfl];exact i _ _ _ _ _ _ _ e d
 |false=>rw[aR aH];exact g _ _ _ _ _ _ _ e d
@[simp] noncomputable def iU(f:Pe->M T):En->O:=λρ=>.of (f (vw ρ)) λt=>.rt t
def S5(h:ME K E t f):MS K E (CC t) (iU f):=λF0 H0 F H σ ρ D r q=>by obtain⟨c,d,g0,V,a⟩:=r.lend;exact h c H σ (vw ρ) _ g0.fh V ((O.res_of q).mono (λb z=>kV.go z g0) λC n z=>z.go g0)
@[simp] noncomputable def qg(f:Pe->M ba):En->O:=λρ=>.of (f (vw ρ)) λt=>.rf t
def Qe{f:Pe->M ba}(h:MF K E t f):MS K E (CC t) (qg f):=λF0 H0 F H σ ρ D r q=>by obtain⟨c,d,g0,V,a⟩:=r.lend;exact h c H σ (vw ρ) _ g0.fh V ((O.res_of q).mono (λb z=>kF.go z g0) λC n z=>z.go g0)
@[simp] noncomputable def qh(i:Nat):En->O:=λρ=>match ρ[i]? with
 |some (some (.o ts))=>.rf ts
 |_=>.bad
def HY:MS K E (CC (oQ i)) (qh i):=λF0 H0 F H σ ρ D r q=>by
 unfold qh at q;split at q
 .rename_i j e;obtain⟨h,k,l⟩:=r.ov;obtain⟨a,b,c,g,d,z⟩:=k i j e;exact⟨_,a,q (h i) g F H r.gr c b d z⟩
 .exact q.elim
def vV{a:Type}{l:List a}{x y:a}(h:(l.set i x)[i]? = some y):y=x:=by
 rw[List.getElem?_set]at h;simp only[if_true]at h;split at h
 .exact (Option.some.inj h).symm
 .cases h
def iA{a:Type}{l:List a}{x y:a}(h:(l.set i x)[j]? = some y):(j=i/\y=x)\/(j≠i/\l[j]? = some y):=by
 by_cases e:j=i
 .subst e;exact .inl ⟨rfl,vV h⟩
 .rw[aq (λz=>e z.symm)]at h;exact .inr ⟨e,h⟩
def t9{a:Type}{l:List a}{x:a}(h:i<l.length):(l.set i x)[i]? = some x:=by rw[List.getElem?_set_self h]
def Sr.setP(r:Sr K F0 H0 F H σ ρ)(h:l7 K F v x):Sr K F0 H0 F H (σ.set i (some v)) (ρ.set i (some (.p x))):=by
 obtain⟨B,N,I⟩:=r.ov;refine⟨r.gr,by simp[r.len],λj t e=>?_,⟨B,λj m e=>?_,λj k m A e J=>?_⟩,λe s=>?_,λj l y n q=>?_,r.dv.set λ_ z=>nomatch z⟩
 .have C:j<ρ.length:=by simpa using (aa.mp e).1
  rcases iA e with⟨rfl,q⟩|⟨c,q⟩
  .cases q;exact⟨v,t9 (by rw[r.len];exact C),h⟩
  .obtain⟨w,a,b⟩:=r.pv j t q;exact⟨w,by rw[aq (λz=>c z.symm)];exact a,b⟩
 .rcases iA e with⟨rfl,q⟩|⟨c,q⟩
  .cases q
  .obtain⟨a,b⟩:=N j m q;exact⟨by rw[aq (λz=>c z.symm)];exact a,b⟩
 .rcases iA e with⟨rfl,q⟩|⟨c,q⟩
  .cases q
  .rcases iA J with⟨rfl,o⟩|⟨P,o⟩
   .cases o
   .exact I j k m A q o
 .have L:=r.lv e s;refine⟨L.h,L.f,L.z,λj m q=>?_⟩;rcases iA q with⟨rfl,g⟩|⟨c,g⟩
  .cases g
  .rw[aq (λz=>c z.symm)];exact L.d j m g
 .rcases iA q with⟨rfl,g⟩|⟨c,g⟩
  .cases g
  .rw[aq (λz=>c z.symm)];exact r.sl j l y n g
def Sr.setO(r:Sr K F0 H0 F H σ ρ)(g:Gr F H F1 H1)(x:H l=none)(hf:F1 l=none)(hv:H1 l=some (.lst vs))(hr:iK K F1 vs ts) :
  Sr K F0 H0 F1 H1 (σ.set i (some (.ref l))) (ρ.set i (some (.o ts))):=by
 have v:=r.grow g;obtain⟨C,A,_⟩:=r.ov;obtain⟨I,X,h2⟩:=v.ov;have P:∀j m,ρ[j]? = some (some (.o m))->I j≠l:=λj m e z=>by
  obtain⟨a,_⟩:=X j m e;obtain⟨S,_,_,vs0,Y,_⟩:=A j m e;rw[a]at S;have:I j=C j:=by simpa using S
  rw[<-this,z,x]at Y;cases Y
 refine⟨v.gr,by simp[r.len],λj t e=>?_,⟨λj=>if j=i then l else I j,λj m e=>?_,λj k m Q e U p=>?_⟩,λe R=>?_,λj l' B y q=>?_,v.dv.set λ_ z=>nomatch z⟩
 .rcases iA e with⟨rfl,q⟩|⟨c,q⟩
  .cases q
  .obtain⟨w,a,b⟩:=v.pv j t q;exact⟨w,by rw[aq (λz=>c z.symm)];exact a,b⟩
 .have J:j<ρ.length:=by simpa using (aa.mp e).1
  rcases iA e with⟨rfl,q⟩|⟨c,q⟩
  .cases q;dsimp only;rw[aQ rfl];exact⟨t9 (by rw[r.len];exact J),hf,iW r.gr.hh x,vs,hv,hr⟩
  .dsimp only;rw[aR c];obtain⟨a,b⟩:=X j m q;exact⟨by rw[aq (λz=>c z.symm)];exact a,b⟩
 .rcases iA e with⟨rfl,q⟩|⟨c,q⟩
  .rcases iA U with⟨rfl,s⟩|⟨N,s⟩
   .exact absurd rfl p
   .dsimp only;rw[aQ rfl,aR N];exact λz=>P k Q s z.symm
  .rcases iA U with⟨rfl,s⟩|⟨N,s⟩
   .dsimp only;rw[aR c,aQ rfl];exact P j m q
   .dsimp only;rw[aR c,aR N];exact h2 j k m Q q s p
 .have L:=v.lv e R;have Z:=r.lv e R;refine⟨L.h,L.f,L.z,λj ts q=>?_⟩;rcases iA q with⟨rfl,n⟩|⟨c,n⟩
  .intro z;have z':=vV z;have:e.2.1=l:=by simpa using z'
   rw[<-this,Z.h]at x;cases x
  .rw[aq (λz=>c z.symm)];exact L.d j ts n
 .rcases iA q with⟨rfl,n⟩|⟨c,n⟩
  .cases n
  .rw[aq (λz=>c z.symm)];exact r.sl j l' B y n
@[simp] noncomputable def ju(f:Pe->M T)(ρ:En):M T:=f (nQ ρ)
@[simp] noncomputable def pS(f:Pe->M T)(ρ:En):M T:=(f (vw ρ)).bind λt=>if lf t then .ok t else .bad
def ME.inH(h:ME K E t f)(r:Sr K F0 H0 F H σ ρ)(q:(O.of (ju f ρ) k).res K E F0 H0 F D)
  (d:∀x v a b,Gr F H a b->l7 K a v x->Sr K F0 H0 a b σ ρ->(k x).res K E F0 H0 a D->Q v b):t σ H Q:=
 h F H σ (nQ ρ) Q r.gr.fh r.vars ((O.res_of q).mono (λx z v a b g c=>d x v a b g c (r.grow g) (z.go g.ff)) λC n z=>z.go r.gr)
def ME.inB(h:ME K E t f)(r:Sr K F0 H0 F H σ ρ)(q:(O.of (pS f ρ) k).res K E F0 H0 F D)
  (s:∀x v a b,Gr F H a b->l7 K a v x->Sr K F0 H0 a b σ ρ->(k x).res K E F0 H0 a D->Q v b):t σ H Q:=by
 obtain⟨o,w,g0,V,c⟩:=r.lend;refine h o H σ (vw ρ) Q g0.fh V ((M.res.unb (O.res_of q)).mono (λx z v a b g m=>?_) λC n z=>z.go g0);obtain⟨l,j,p,i,d,_⟩:=c a b g;by_cases e:lf x=true
 .rw[aQ e]at z;exact s x v l b j (m.less i d e) (r.grow j) (O.res.go z p)
 .rw[aR e]at z;exact z.elim
@[simp] noncomputable def setO(i:Nat)(f:En->M T):En->O:=λρ=>.of (f ρ) λt=>.nx (ρ.set i (some (.p t)))
def GP(h:ME K E t f):MS K E (qA t (lN i)) (setO i (ju f)):=λF0 H0 F H σ ρ D r q=>h.inH r q λx v d e g a b c=>c d e _ (.refl _) (b.setP a)
def PZ(h:ME K E t f):MS K E (qA t (lN i)) (setO i (pS f)):=λF0 H0 F H σ ρ D r q=>h.inB r q λx v d e g a b c=>c d e _ (.refl _) (b.setP a)
@[simp] noncomputable def rL(f:Pe->M ba)(ρ:En):M ba:=f (nQ ρ)
@[simp] noncomputable def AB(f:Pe->M ba)(ρ:En):M ba:=(f (vw ρ)).bind λa=>if JO a then .ok a else .bad
def MF.inH{f:Pe->M ba}(h:MF K E t f)(r:Sr K F0 H0 F H σ ρ)(q:(O.of (rL f ρ) k).res K E F0 H0 F D)
  (j:∀ts l vs e i,Gr F H e i->H l=none->e l=none->i l=some (.lst vs)->iK K e vs ts->(k ts).res K E F0 H0 e D->Q (.ref l) i):t σ H Q:=
 h F H σ (nQ ρ) Q r.gr.fh r.vars ((O.res_of q).mono (λts z l vs e i g a b c d=>j ts l vs e i g a b c d (z.go g.ff)) λC n z=>z.go r.gr)
def MF.inB{f:Pe->M ba}(h:MF K E t f)(r:Sr K F0 H0 F H σ ρ)(q:(O.of (AB f ρ) k).res K E F0 H0 F D)
  (y:∀ts l vs e i,Gr F H e i->H l=none->e l=none->i l=some (.lst vs)->iK K e vs ts->(k ts).res K E F0 H0 e D->Q (.ref l) i):t σ H Q:=by
 obtain⟨w,A,g0,V,j⟩:=r.lend;refine h w H σ (vw ρ) Q g0.fh V ((M.res.unb (O.res_of q)).mono (λts z l vs e i g a b c d=>?_) λC n z=>z.go g0);obtain⟨v,s,x,o,m,_⟩:=j e i g;by_cases p:JO ts=true
 .rw[aQ p]at z;exact y ts l vs v i s a (iW o b) c (d.less o m p) (O.res.go z x)
 .rw[aR p]at z;exact z.elim
@[simp] noncomputable def pX(i:Nat)(f:En->M ba):En->O:=λρ=>.of (f ρ) λa=>.nx (ρ.set i (some (.o a)))
def GZ{f:Pe->M ba}(h:MF K E t f):MS K E (qA t (lN i)) (pX i (rL f)):=λF0 H0 F H σ ρ D r q=>h.inH r q λn l m e k g a b c d j=>j e k _ (.refl _) (r.setO g a b c d)
def OB{f:Pe->M ba}(h:MF K E t f):MS K E (qA t (lN i)) (pX i (AB f)):=λF0 H0 F H σ ρ D r q=>h.inB r q λn l m e k g a b c d j=>j e k _ (.refl _) (r.setO g a b c d)
@[simp] noncomputable def yJ(f:En->M T):En->O:=λρ=>.of (f ρ) λ_=>.nx ρ
def KC(h:ME K E t f):MS K E (vR t) (yJ (ju f)):=λF0 H0 F H σ ρ D r q=>h.inH r q λx v c d g e a b=>b c d _ (.refl _) a
def Sr.change(r:Sr K F0 H0 F H σ ρ)(e:ρ[i]? = some (some (.o ts)))(hw:iK K F ws us) :
  ∃l vs,σ[i]? = some (some (.ref l))/\H l=some (.lst vs)/\iK K F vs ts/\Sr K F0 H0 F (jY H l (.lst ws)) σ (ρ.set i (some (.o us))):=by
 obtain⟨I,Q,A⟩:=r.ov;obtain⟨a,b,c,vs,d,z⟩:=Q i ts e;refine⟨I i,vs,a,d,z,⟨r.gr.ff,λp u q=>?_,λp u q=>?_,r.gr.nw⟩,by simp[r.len],λj t q=>?_,⟨I,λj s q=>?_,λj k s v q N m=>?_⟩,λP S=>?_,λj U n B q=>?_,(r.dv.heap (.refl _) λp xs J _=>⟨by assumption,by rw[ie (λz=>by rw[z,d]at J;cases J)];exact J⟩).setR λ_ z=>nomatch z⟩
 .rw[ie (i7 q b)];exact r.gr.fh p u q
 .rw[ie (i7 q c)];exact r.gr.hh p u q
 .rcases iA q with⟨rfl,g⟩|⟨y,g⟩
  .cases g
  .exact r.pv j t g
 .rcases iA q with⟨rfl,g⟩|⟨y,g⟩
  .cases g;exact⟨a,b,c,ws,ig,hw⟩
  .obtain⟨Z,b',Y,n,X,R⟩:=Q j s g;exact⟨Z,b',Y,n,by rw[ie (A j i s ts g e y)];exact X,R⟩
 .rcases iA q with⟨rfl,g⟩|⟨y,g⟩
  .rcases iA N with⟨rfl,x⟩|⟨hk,x⟩
   .exact absurd rfl m
   .exact A j k ts v e x m
  .rcases iA N with⟨rfl,x⟩|⟨hk,x⟩
   .exact A j k s ts g e m
   .exact A j k s v g x m
 .have L:=r.lv P S;have C:P.2.1≠I i:=λw=>L.d i ts e (by rw[w];exact a);refine⟨by rw[ie C];exact L.h,L.f,L.z,λj s q=>?_⟩;rcases iA q with⟨rfl,g⟩|⟨y,g⟩
  .exact L.d _ ts e
  .exact L.d j s g
 .rcases iA q with⟨rfl,g⟩|⟨y,g⟩
  .cases g
  .exact r.sl j U n B g
@[simp] noncomputable def ou(ρ:En)(i:Nat):M ba:=match ρ[i]? with
 |some (some (.o ts))=>.ok ts
 |_=>.bad
def vD(h:ou ρ i=.ok ts):ρ[i]? = some (some (.o ts)):=by
 unfold ou at h;split at h
 .rename_i a e;cases h;exact e
 .cases h
@[simp] noncomputable def rj(i:Nat)(f:En->M T):En->O:=λρ=>.of (ou ρ i) λa=>.of (f ρ) λt=>if a.length<sizeLine then .nx (ρ.set i (some (.o (a++[t])))) else .bad
def Al(r:Sr K F0 H0 F H σ ρ)(e:ρ[i]? = some (some (.o ts)))(n:l7 K F v x)
  (q:(if ts.length<sizeLine then O.nx (ρ.set i (some (.o (ts++[x])))) else .bad).res K E F0 H0 F D):∃l,σ[i]? = some (some (.ref l))/\BR (.ref l) [v] H λ_ H1=>D.nx σ H1:=by
 by_cases g:ts.length<sizeLine
 .rw[aQ g]at q;obtain⟨m,j,_⟩:=r.ov;obtain⟨_,_,_,k,d,z⟩:=j i ts e;obtain⟨l,b,h,c,s,p⟩:=r.change e (z.append (.cons n .nil));have:b=k:=by
   have a:=(j i ts e).1;rw[h]at a;have:l=m i:=by simpa using a
   rw[this,d]at c;cases c;rfl
  subst this;exact⟨l,h,l,b,v,rfl,rfl,c,by rw[z.length];exact g,q F _ _ (.refl _) p⟩
 .rw[aR g]at q;exact q.elim
def Js(K:W.Frag)(i:Nat)(a:TE):TE:=WD K "list" BR (oQ i) (ux a yi)
def N3(k:∀l m H,H l=some (.lst m)->T7 K "list" (.ref l) H)(h:ME K E t f):MS K E (vR (Js K i t)) (rj i (ju f)):=λF0 H0 F H σ ρ D r q=>by
 unfold rj at q;cases e:ou ρ i with
 |bad=>rw[e]at q;exact q.elim
 |er C n=>unfold ou at e;split at e<;>cases e
 |ok ts=>rw[e]at q;have j:=vD e;obtain⟨A,w,_⟩:=r.ov;obtain⟨a,_,_,y,d,_⟩:=w i ts j;refine⟨_,a,k _ _ _ d,?_⟩;refine h.inH r q λx v z B g o s p=>?_;obtain⟨l,c,b⟩:=Al s j o p;rw[a]at c;cases c;exact b
def OO(k:∀l m H,H l=some (.lst m)->T7 K "list" (.ref l) H)(h:ME K E t f):MS K E (vR (Js K i t)) (rj i (pS f)):=λF0 H0 F H σ ρ D r q=>by
 unfold rj at q;cases e:ou ρ i with
 |bad=>rw[e]at q;exact q.elim
 |er C n=>unfold ou at e;split at e<;>cases e
 |ok ts=>rw[e]at q;have j:=vD e;obtain⟨A,w,_⟩:=r.ov;obtain⟨a,_,_,y,d,_⟩:=w i ts j;refine⟨_,a,k _ _ _ d,?_⟩;refine h.inB r q λx v z B g o s p=>?_;obtain⟨l,c,b⟩:=Al s j o p;rw[a]at c;cases c;exact b
@[simp] noncomputable def zb(i:Nat)(b:En->M T)(f:En->M T):En->O:=λρ=>.of (ou ρ i) λa=>.of (f ρ) λt=>.of (b ρ) λk=>match k with
 |.int k=>match Au a.length k with
  |some j=>.nx (ρ.set i (some (.o (a.set j t))))
  |none=>.bad
 |_=>.bad
theorem LK{i:Nat}{ts:List T}{x y:T}{v w:V}{l:Addr}(p:Sr K F0 H0 F H σ ρ)(m:ρ[i]? = some (some (.o ts)))(n:σ[i]? = some (some (.ref l)))(I:l7 K F v x)(e:l7 K F w y)
  (b:(match y with
   |.int k=>match Au ts.length k with
    |some j=>O.nx (ρ.set i (some (.o (ts.set j x))))
    |none=>.bad
   |_=>.bad).res K E F0 H0 F D):G6 (.ref l) w v H λs=>D.nx σ s:=by
 cases e with
 |int k=>
  dsimp only at b;cases h:Au ts.length k with
  |none=>rw[h]at b;exact b.elim
  |some j=>
   rw[h]at b;obtain⟨C,r,_⟩:=p.ov;obtain⟨_,_,_,A,d,z⟩:=r i ts m;obtain⟨L,c,q,g,J,B⟩:=p.change m (z.set I j);rw[n]at q;cases q;have:c=A:=by
    have a:=(r i ts m).1;rw[n]at a;have:l=C i:=by simpa using a
    rw[this,d]at g;cases g;rfl
   subst this;exact⟨l,c,k,j,rfl,rfl,g,by rw[z.length];exact h,b F _ _ (.refl _) B⟩
 |_=>exact b.elim
def Rg(h:ME K E t f)(s:ME K E tk fk):MS K E (qA t (S8 (oQ i) tk G6)) (zb i (pS fk) (pS f)):=λF0 H0 F H σ ρ D r q=>by
 unfold zb at q;cases e:ou ρ i with
 |bad=>rw[e]at q;exact q.elim
 |er C n=>unfold ou at e;split at e<;>cases e
 |ok ts=>rw[e]at q;have c:=vD e;obtain⟨B,m,_⟩:=r.ov;have a:=(m i ts c).1;refine h.inB r q λx v z I g d o k=>⟨_,a,?_⟩;exact s.inB o k λy w J A p b l j=>LK l c a (d.mono p.ff) b j
end
end L3
namespace L3
open PySem L2
section
variable {K:W.Frag}{E:XK}{t u ta tb:TE}{f fa fb:Pe->M T}{F0:Fz}{H0 F H F1 H1:Hp}{σ:St}{ρ:En}{D:wI}
structure AA(K:W.Frag)(J:It)(its:List T)(F1:Hp):Prop where
 go:∀i H,iS F1 H->i<its.length->J.go i H
 stop:∀H,iS F1 H->J.stop its.length H
 yld:∀(i:Nat) t F H x H',iS F1 F->iS F H->its[i]? = some t->J.yld i H x H'->∃F',Gr F H F' H'/\l7 K F' x t
def kI(K:W.Frag)(F H:Hp)(R:It->Hp->Prop)(its:List T):Prop:=∀J a b,Gr F H a b->AA K J its a->R J b
noncomputable def MI(K:W.Frag)(E:XK)(w:TI)(f:Pe->M ba):Prop:=∀F H σ ρ R,iS F H->nP K F σ ρ->(f ρ).res (kI K F H R) (kE E F H)->w σ H R
def WT(K:W.Frag)(F H:Hp)(R:It->Hp->Prop)(its:List T):Prop:=∀J b a,Gr F H b a->(∀F1,AA K J its F1)->R J a
noncomputable def Uq(K:W.Frag)(E:XK)(w:TI)(f:Pe->M ba):Prop:=∀F H σ ρ R,iS F H->nP K F σ ρ->(f ρ).res (WT K F H R) (kE E F H)->w σ H R
def Uq.mi{f:Pe->M ba}(h:Uq K E w f):MI K E w f:=λF H σ ρ R s V q=>h F H σ ρ R s V (q.mono (λc z J a b g i=>z J a b g (i a)) λ_ _ z=>z)
@[simp] noncomputable def VS(fa:Pe->M T):Pe->M ba:=λρ=>(fa ρ).bind λx=>match x with
 |.lst ts=>.ok ts
 |.scr ns=>.ok (ns.map T.int)
 |_=>.bad
@[simp] noncomputable def WE(fa:Pe->M T):Pe->M ba:=λρ=>(fa ρ).bind λx=>match x with
 |.tup ts=>.ok ts
 |_=>.bad
def G9(c:mN K F a xs)(r:iK K F xs ts):AA K (Wj K a) ts F where
 go:=λi H s k=>by have e:xs[i]? = some (xs[i]'(by rw[r.length];exact k)):=ag _;exact⟨xs,_,s.seq c,e⟩
 stop:=λH s=>⟨xs,s.seq c,by rw[r.length];exact aK _⟩
 yld:=λi t h H x o g d e y=>by obtain⟨rfl,l⟩:=y;have m:=l xs ((g.trans d).seq c);obtain⟨n,b,j⟩:=r.at_ m;rw[e]at b;cases b;exact⟨h,.refl d,j.mono g⟩
def xb(s:iS F H)(h:F a=some (.tup xs)):oH K H a xs:=oH.of (s _ _ h)
def RE(c:F a=some (.tup xs))(r:iK K F xs ts):AA K (Wq K a) ts F where
 go:=λi H s k=>by have e:xs[i]? = some (xs[i]'(by rw[r.length];exact k)):=ag _;exact⟨xs,_,xb s c,e⟩
 stop:=λH s=>⟨xs,xb s c,by rw[r.length];exact aK _⟩
 yld:=λi t h H x o g d e y=>by obtain⟨rfl,l⟩:=y;have m:=l xs (xb (g.trans d) c);obtain⟨n,b,j⟩:=r.at_ m;rw[e]at b;cases b;exact⟨h,.refl d,j.mono g⟩
def CH(d:ME K E ta fa):MI K E (K0 K ta) (VS fa):=λF H σ ρ R s V q=>by
  refine d.run s V q λx v F1 H1 a c b=>?_;cases c<;>first
    |exact b.elim
    | (rename_i h r
       exact⟨_,rfl,⟨_,mN.of (a.fh _ _ h)⟩,b _ F1 H1 a (G9 (mN.of h) r)⟩)
    | (rename_i h
       exact⟨_,rfl,⟨_,a.fh.seq h⟩,b _ F1 H1 a (G9 h (iK.of_ints _))⟩)
def RZ(d:ME K E ta fa):MI K E (TB K ta) (WE fa):=λF H σ ρ R s V q=>by
  refine d.run s V q λx v F1 H1 a c b=>?_;cases c<;>first
    |exact b.elim
    | (rename_i h r
       exact⟨_,rfl,⟨_,oH.of (a.fh _ _ h)⟩,b _ F1 H1 a (RE h r)⟩)
def UA:(2:Int) ^ 62=4611686018427387904:=by decide +kernel
def VQ:(2:Int) ^ 63=9223372036854775808:=by decide +kernel
noncomputable def EW(j:Int):Bool:=decide (j.natAbs<4611686018427387904)
def tV(h:EW j=true):-(2 ^ 62)<=j/\j<2 ^ 62:=by rw[UA];have:=of_decide_eq_true h;omega
def nW(h:j.natAbs<=1000000):EW j=true:=aC (by omega)
noncomputable def CV(a:Int)(n:Nat):List T:=(List.range n).map λ(i:Nat)=>T.int (a+(i:Int))
def Ri F:AA K (UL lo n) (CV lo n) F where
 go:=λi H s a=>by show i<n;simpa[CV] using a
 stop:=λH s=>by simp[CV,UL]
 yld:=λi t b H x g d c e y=>by
  obtain⟨rfl,rfl⟩:=y;have a:i<n:=by simpa[CV] using (aa.mp e).1
  have:t=.int (lo+i):=by unfold CV at e;rw[av,List.getElem?_range a]at e;cases e;rfl
  rw[this];exact⟨b,.refl c,.int _⟩
@[simp] noncomputable def lE(fa:Pe->M ba):Pe->M ba:=λρ=>(fa ρ).bind λa=>match a with
 |[.int j]=>if EW j then .ok (CV 0 j.toNat) else .bad
 |_=>.bad
def Qx{ta:TA}{fa:Pe->M ba}(g:MA K E ta fa):Uq K E (K8 ta) (lE fa):=λF H σ ρ R s V q=>by
 refine g.run s V q λk i F1 H1 e h c=>?_;split at c
 .rename_i j;split at c
  .rename_i d;cases h with
   |cons a b=>cases a;cases b;exact⟨j,rfl,(tV d).1,(tV d).2,c _ F1 H1 e Ri⟩
  .exact c.elim
 .exact c.elim
noncomputable def seqB(b:Bool):T->M ba
 |.tup ts=>if b then .ok ts else .bad
 |.lst ts=>if b then .bad else .ok ts
 |.scr ns=>if b then .bad else .ok (ns.map T.int)
 |_=>.bad
def Ck(r:l7 K F v x)(e:seqB b x=.ok ts):∃a c,v=.ref a/\(∀H,iS F H->xZ K H b a c)/\iK K F c ts:=by
 cases r<;>try (cases e)
 .rename_i a c g h r;cases b with
  |true=>cases e;exact⟨a,c,rfl,λH s=>by unfold xZ;rw[aQ rfl];exact oH.of (s _ _ h),r⟩
  |false=>cases e
 .rename_i a c g h r;cases b with
  |true=>cases e
  |false=>cases e;exact⟨a,c,rfl,λH s=>by unfold xZ;rw[aR aH];exact mN.of (s _ _ h),r⟩
 .rename_i a d h;cases b with
  |true=>cases e
  |false=>cases e;exact⟨a,_,rfl,λH s=>by unfold xZ;rw[aR aH];exact s.seq h,iK.of_ints d⟩
noncomputable def C3(a b:List T):List T:=(a.zip b).map λp=>T.tup [p.1,p.2]
def TY(m:∀H,iS F H->xZ K H b1 l1 xs)(l:iK K F xs ts)(k:∀H,iS F H->xZ K H b2 l2 ys)(j:iK K F ys us):AA K (V6 K b1 b2 l1 l2) (C3 ts us) F where
 go:=λi H s A=>by
  have a:i<ts.length/\i<us.length:=by simp[C3]at A;omega
  have h:xs[i]? = some (xs[i]'(by rw[l.length];exact a.1)):=ag _;have c:ys[i]? = some (ys[i]'(by rw[j.length];exact a.2)):=ag _;exact⟨xs,ys,_,_,m H s,k H s,h,c⟩
 stop:=λH s=>⟨xs,ys,m H s,k H s,by simp[C3,l.length,j.length];omega⟩
 yld:=λi t L H x N b d e y=>by
  obtain⟨p,I,v,rfl,C,rfl,h,c⟩:=y;obtain⟨n,B,J⟩:=l.at_ (h xs (m H (b.trans d)));obtain⟨q,r,w⟩:=j.at_ (c ys (k H (b.trans d)));have:t=.tup [n,q]:=by unfold C3 at e;rw[av,(List.getElem?_zip_eq_some (z:=(n,q))).mpr ⟨B,r⟩]at e;cases e;rfl
  rw[this];have g:=Gr.new (o:=.tup [I,v]) d C;exact⟨_,g,.tup ig (.cons ((J.mono b).mono g.ff) (.cons ((w.mono b).mono g.ff) .nil))⟩
noncomputable def Rq(a c:Bool)(fa:Pe->M ba):Pe->M ba:=λρ=>(fa ρ).bind λd=>match d with
 |[x,y]=>(seqB a x).bind λe=>(seqB c y).bind λb=>.ok (C3 e b)
 |_=>.bad
def CI:seqB b x≠.er C n:=by cases x<;>cases b<;>exact λz=>nomatch z
def MV{ta:TA}{fa:Pe->M ba}(p:MA K E ta fa):MI K E (Sm K b1 b2 ta) (Rq b1 b2 fa):=λF H σ ρ R s V q=>by
 refine p.run s V q λA z F1 H1 h r d=>?_;split at d
 .rename_i x y;cases r with
  |cons a b=>
   cases b with
   |cons b c=>
    cases c;cases g:seqB b1 x with
    |bad=>rw[g]at d;exact d.elim
    |er C n=>exact absurd g CI
    |ok ts=>
     rw[g]at d;cases e:seqB b2 y with
     |bad=>simp only[e,M.bind_ok]at d;exact d.elim
     |er C n=>exact absurd e CI
     |ok us=>simp only[e,M.bind_ok]at d;obtain⟨k,v,rfl,j,o⟩:=Ck a g;obtain⟨l,m,rfl,i,w⟩:=Ck b e;exact⟨k,l,rfl,⟨v,j _ h.fh⟩,⟨m,i _ h.fh⟩,d _ F1 H1 h (TY j o i w)⟩
 .exact d.elim
def MG(K:W.Frag)(g:TG)(m:T->Pe->Option Pe):Prop:=∀F H σ (ρ:Pe) x t ρ' Q,iS F H->σ.length=ρ.length->nP K F σ ρ->l7 K F x t->m t ρ=some ρ'->(∀a,a.length=ρ'.length->nP K F a ρ'->Q a H)->g x σ H Q
def Vt(K:W.Frag)(g:NJ)(m:List T->Pe->Option Pe):Prop:=∀F H σ (ρ:Pe) xs ts ρ' Q,iS F H->σ.length=ρ.length->nP K F σ ρ->iK K F xs ts->m ts ρ=some ρ'->(∀a,a.length=ρ'.length->nP K F a ρ'->Q a H)->g xs σ H Q
@[simp] def jT(i:Nat):T->Pe->Option Pe:=λt ρ=>some (ρ.set i (some t))
def nP.set{ρ:Pe}(V:nP K F σ ρ)(d:σ.length=ρ.length)(h:l7 K F v x):nP K F (σ.set i (some v)) (ρ.set i (some x)):=λj t e=>by
 have c:j<ρ.length:=by simpa using (aa.mp e).1
 rcases iA e with⟨rfl,q⟩|⟨c,q⟩
 .cases q;exact⟨v,t9 (by rw[d];exact c),h⟩
 .obtain⟨w,a,b⟩:=V j t q;exact⟨w,by rw[aq (λz=>c z.symm)];exact a,b⟩
def OZ:MG K (lN i) (jT i):=λF H σ ρ x t b Q s a V r e k=>by cases e;exact k _ (by simp[a]) (V.set a r)
@[simp] noncomputable def nv:List T->Pe->Option Pe
 |[],ρ=>some ρ
 |_::_,_=>none
@[simp] def je(m:T->Pe->Option Pe)(n:List T->Pe->Option Pe):List T->Pe->Option Pe
 |[],_=>none
 |t::ts,ρ=>(m t ρ).bind (n ts)
def Ph:Vt K Im nv:=λF H σ ρ g h c Q s d V r e k=>by
 cases r with
 |nil=>cases e;exact⟨rfl,k σ d V⟩
 |cons a b=>cases e
def J0(w:MG K g m)(o:Vt K gs n):Vt K (zL g gs) (je m n):=λF H σ ρ x y d Q s l V r e k=>by
 cases r with
 |nil=>cases e
 |cons a b=>
  rename_i v t j c;have e:(m t ρ).bind (n c)=some d:=e;cases q:m t ρ with
  |none=>rw[q]at e;cases e
  |some ρ1=>rw[q]at e;refine⟨v,j,rfl,w F H σ ρ v t ρ1 _ s l V a q λi h p=>?_⟩;exact o F H i ρ1 j c d Q s h p b e k
@[simp] noncomputable def nM(k:Nat)(m:List T->Pe->Option Pe):T->Pe->Option Pe
 |.tup ts,ρ=>if ts.length=k then m ts ρ else none
 |_,_=>none
def RT(h:Vt K g m):MG K (IY K k g) (nM k m):=λF H σ ρ x t b Q s i V r e q=>by
 cases r with
 |tup hx rs=>
  rename_i a j c;have e:(if c.length=k then m c ρ else none)=some b:=e;by_cases d:c.length=k
  .rw[aQ d]at e;exact⟨_,_,rfl,oH.of (s _ _ hx),by rw[rs.length];exact d,h F H σ ρ _ _ b Q s i V rs e q⟩
  .rw[aR d]at e;cases e
 |_=>cases e
noncomputable def PB(K:W.Frag)(g:TG)(m:T->En->Option En):Prop:=∀F0 H0 F H σ ρ x t a Q,Sr K F0 H0 F H σ ρ->l7 K F x t->m t ρ=some a->(∀b,Sr K F0 H0 F H b a->Q b H)->g x σ H Q
noncomputable def KZ(K:W.Frag)(g:NJ)(m:List T->En->Option En):Prop:=∀F0 H0 F H σ ρ c d a Q,Sr K F0 H0 F H σ ρ->iK K F c d->m d ρ=some a->(∀b,Sr K F0 H0 F H b a->Q b H)->g c σ H Q
@[simp] noncomputable def j6(i:Nat):T->En->Option En:=λt ρ=>some (ρ.set i (some (.p t)))
def Nw:PB K (lN i) (j6 i):=λF0 H0 F H σ ρ x t a Q s r e k=>by cases e;exact k _ (s.setP r)
@[simp] noncomputable def kZ:List T->En->Option En
 |[],ρ=>some ρ
 |_::_,_=>none
@[simp] noncomputable def iI(m:T->En->Option En)(n:List T->En->Option En):List T->En->Option En
 |[],_=>none
 |t::ts,ρ=>(m t ρ).bind (n ts)
def Kt:KZ K Im kZ:=λF0 H0 F H σ ρ d g c Q s r e k=>by
 cases r with
 |nil=>cases e;exact⟨rfl,k σ s⟩
 |cons a b=>cases e
def IM(o:PB K g m)(l:KZ K gs n):KZ K (zL g gs) (iI m n):=λF0 H0 F H σ ρ p w d Q s r e k=>by
 cases r with
 |nil=>cases e
 |cons a b=>
  rename_i v t i c;have e:(m t ρ).bind (n c)=some d:=e;cases q:m t ρ with
  |none=>rw[q]at e;cases e
  |some ρ1=>rw[q]at e;refine⟨v,i,rfl,o F0 H0 F H σ ρ v t ρ1 _ s a q λh j=>?_⟩;exact l F0 H0 F H h ρ1 i c d Q j b e k
@[simp] noncomputable def kX(k:Nat)(m:List T->En->Option En):T->En->Option En
 |.tup ts,ρ=>if ts.length=k then m ts ρ else none
 |_,_=>none
def Pz(h:KZ K g m):PB K (IY K k g) (kX k m):=λF0 H0 F H σ ρ x t b Q s r e q=>by
 cases r with
 |tup hx rs=>
  rename_i a i c;have e:(if c.length=k then m c ρ else none)=some b:=e;by_cases d:c.length=k
  .rw[aQ d]at e;exact⟨_,_,rfl,oH.of (s.gr.fh _ _ hx),by rw[rs.length];exact d,h F0 H0 F H σ ρ _ _ b Q s rs e q⟩
  .rw[aR d]at e;cases e
 |_=>cases e
noncomputable def jU(m:T->En->Option En)(g:En->O):List T->En->O
 |[],ρ=>.nx ρ
 |t::ts,ρ=>match m t ρ with
  |none=>.bad
  |some ρ1=>match g ρ1 with
   |.nx ρ2=>jU m g ts ρ2
   |.ct ρ2=>jU m g ts ρ2
   |.bk ρ2=>.nx ρ2
   |o=>o
theorem FI{tb:TS}{J:It}(hg:PB K g m)(hb:MS K E tb gb){G:Hp->Hp->Prop}(U:∀i F H,G F H->i<its.length->J.go i H)(R:∀F H,G F H->J.stop its.length H)(Y:∀(i:Nat) t F H x c,G F H->its[i]? = some t->J.yld i H x c->∃d,Gr F H d c/\l7 K d x t)
  (Q:∀d c b ρ',iS F1 d->Sr K F0 H0 d c b ρ'->G d c) (r:Sr K F0 H0 F H σ ρ) (s1:iS F1 F)
  (q:(jU m gb its ρ).res K E F0 H0 F D):∃W:Nat->Nat->St->Hp->Prop,(∃m,W 0 m σ H)/\∀i m σ H,W i m σ H->
 (J.stop i H/\D.nx σ H)\/(J.go i H/\∃N:St->Hp->Prop,(∀b c,N b c->∃Z,Z<m/\W (i+1) Z b c)/\∀x c,J.yld i H x c->g x σ c λS H2=>tb {D with nx:=N,ct:=N,bk:=D.nx} S H2):=by
 refine⟨λi k b c=>i<=its.length/\k=its.length-i/\∃d ρ',iS F1 d/\Sr K F0 H0 d c b ρ'/\(jU m gb (its.drop i) ρ').res K E F0 H0 d D,⟨_,bL _,rfl,F,ρ,s1,r,by simpa using q⟩,?_⟩
 rintro i k v I ⟨hi,rfl,L,A,w,B,a⟩
 by_cases h:i<its.length
 .right;refine⟨U i L I (Q _ _ _ _ w B) h,λb c=>∃d ρ',iS F1 d/\Sr K F0 H0 d c b ρ'/\(jU m gb (its.drop (i+1)) ρ').res K E F0 H0 d D,λb c z=>⟨its.length-(i+1),by omega,h,rfl,z⟩,λx c y=>?_⟩;have et:=ag h;obtain⟨F3,o,rp⟩:=Y i _ L I x c (Q _ _ _ _ w B) et y;rw[c8 h]at a;unfold jU at a;cases X:m its[i] A with
  |none=>rw[X]at a;exact a.elim
  |some ρ3=>
   rw[X]at a;refine hg F0 H0 F3 c v A x _ ρ3 _ (B.grow o) rp X λb r'=>?_;refine hb F0 H0 F3 c b ρ3 _ r' ?_;dsimp only at a;cases j:gb ρ3 with
   |bad=>rw[j]at a;exact a.elim
   |nx ρ4=>rw[j]at a;exact λd P p s l=>⟨d,ρ4,(w.trans o.ff).trans s,l,O.res.go a (o.ff.trans s)⟩
   |ct ρ4=>rw[j]at a;exact λd P p s l=>⟨d,ρ4,(w.trans o.ff).trans s,l,O.res.go a (o.ff.trans s)⟩
   |bk ρ4=>rw[j]at a;exact kN.go a o.ff
   |rt t=>rw[j]at a;exact a
   |rf ts=>rw[j]at a;exact a
   |rn ts us=>rw[j]at a;exact a
   |er C n=>rw[j]at a;exact a
 .left;have e:i=its.length:=by omega
  subst e;refine⟨R L I (Q _ _ _ _ w B),?_⟩;rw[List.drop_length]at a;exact a L I v (.refl _) B
def A6{tb:TS}(n:PB K g m)(hb:MS K E tb gb)(a:AA K J its F1)(r:Sr K F0 H0 F H σ ρ)(j:iS F1 F)
  (q:(jU m gb its ρ).res K E F0 H0 F D):∃W:Nat->Nat->St->Hp->Prop,(∃m,W 0 m σ H)/\∀i m σ H,W i m σ H->
 (J.stop i H/\D.nx σ H)\/(J.go i H/\∃N:St->Hp->Prop,(∀c b,N c b->∃h,h<m/\W (i+1) h c b)/\∀x b,J.yld i H x b->g x σ b λd k=>tb {D with nx:=N,ct:=N,bk:=D.nx} d k):=
 FI (G:=λF H=>iS F1 F/\iS F H) n hb (λi F H q l=>a.go i H (q.1.trans q.2) l) (λF H q=>a.stop H (q.1.trans q.2)) (λi t F H x b q e y=>a.yld i t F H x b q.1 q.2 e y) (λ_ _ _ _ s r=>⟨s,r.gr.fh⟩) r j q
@[simp] noncomputable def nR(b:Pe->M ba)(m:T->En->Option En)(g:En->O):En->O:=λρ=>.of (b (nQ ρ)) λa=>jU m g a ρ
def Tt{tb:TS}(c:MI K E w fi)(e:PB K g m)(hb:MS K E tb gb):MS K E (Kr w g tb) (nR fi m gb):=λF0 H0 F H σ ρ D r q=>c F H σ (nQ ρ) _ r.gr.fh r.vars ((O.res_of q).mono (λd z J h i b a=>A6 e hb a (r.grow b) (.refl _) (z.go b.ff)) λC n z=>z.go r.gr)
@[simp] noncomputable def tJ(b:Pe->M ba)(m:T->En->Option En)(g:En->O):En->O:=λρ=>.of (b (vw ρ)) λa=>jU m g a ρ
def Ql{tb:TS}(i:Uq K E w fi)(l:PB K g m)(hb:MS K E tb gb):MS K E (Kr w g tb) (tJ fi m gb):=λF0 H0 F H σ ρ D r q=>by obtain⟨j,s,g0,V,a⟩:=r.lend;refine i j H σ (vw ρ) _ g0.fh V ((O.res_of q).mono (λk z J e p h c=>?_) λC n z=>z.go g0);obtain⟨d,b,o,_⟩:=a e p h;exact A6 l hb (c d) (r.grow b) (.refl _) (z.go o)
noncomputable def mX(c:Pe->M Bool)(g:En->O):Nat->En->O
 |0,_=>.bad
 |n+1,ρ=>.of (c (vw ρ)) λb=>if b then (match g ρ with
   |.nx ρ2=>mX c g n ρ2
   |.ct ρ2=>mX c g n ρ2
   |.bk ρ2=>.nx ρ2
   |o=>o) else .nx ρ
def Ld{tb:TS}(i:En->Nat)(J:MT K E c fc)(hb:MS K E tb gb):MS K E (EZ c tb) (λρ=>mX fc gb (i ρ) ρ):=λF0 H0 F H σ ρ D r q=>by
 refine⟨λn g o=>∃d e,iS F d/\Sr K F0 H0 d o g e/\(mX fc gb n e).res K E F0 H0 d D,⟨i ρ,F,ρ,.refl _,r,q⟩,?_⟩;rintro n l L ⟨N,m,w,I,v⟩;cases n with
 |zero=>exact v.elim
 |succ n=>
  unfold mX at v;refine J.inS I v λb B x A y a=>?_;cases b with
  |true=>
   rw[aQ rfl]at a ⊢;refine⟨λg o=>∃d e,iS F d/\Sr K F0 H0 d o g e/\(mX fc gb n e).res K E F0 H0 d D,λg o z=>⟨n,bK n,z⟩,?_⟩;refine hb F0 H0 B x l m _ y ?_;cases h:gb m with
   |bad=>rw[h]at a;exact a.elim
   |nx ρ4=>rw[h]at a;exact λd p k s j=>⟨d,ρ4,(w.trans A).trans s,j,O.res.go a s⟩
   |ct ρ4=>rw[h]at a;exact λd p k s j=>⟨d,ρ4,(w.trans A).trans s,j,O.res.go a s⟩
   |bk ρ4=>rw[h]at a;exact a
   |rt t=>rw[h]at a;exact a
   |rf ts=>rw[h]at a;exact a
   |rn ts us=>rw[h]at a;exact a
   |er C n=>rw[h]at a;exact a
  |false=>rw[aR aH]at a ⊢;exact a B x l (.refl _) y
@[simp] noncomputable def qj(a:List (Option Nat))(ρ:Pe):Pe:=a.map fun
 |none=>none
 |some j=>(ρ[j]?).getD none
def nP.pull{ρ:Pe}(V:nP K F σ ρ) ix:nP K F (L2.pull ix σ) (qj ix ρ):=λi t e=>by
 unfold qj at e;rw[av]at e;cases q:ix[i]? with
 |none=>rw[q]at e;cases e
 |some w=>
  rw[q]at e;cases w with
  |none=>cases e
  |some j=>
   have c:(ρ[j]?).getD none=some t:=by simpa using e
   cases z:ρ[j]? with
   |none=>rw[z]at c;cases c
   |some y=>rw[z]at c;have:y=some t:=c;rw[this]at z;obtain⟨v,a,b⟩:=V j t z;refine⟨v,?_,b⟩;unfold L2.pull;rw[av,q];simp[a]
@[simp] noncomputable def vy(m:T->Pe->Option Pe)(a:Pe->M Bool)(c:Pe->M T)(ρ:Pe)(t:T):M (Option T):=match m t ρ with
 |none=>.bad
 |some ρ1=>(a ρ1).bind λb=>if b then (c ρ1).bind λx=>.ok (some x) else .ok none
noncomputable def sM(k:T->M (Option T)):List T->M ba
 |[]=>.ok []
 |t::ts=>(k t).bind λo=>(sM k ts).bind λr=>.ok (match o with
  |some x=>x::r
  |none=>r)
def NI:XK:=λ_ _ _=>False
def Ss:MT K E RV (λ_=>.ok true):=λF H σ ρ Q s V q=>q F H (.refl s)
theorem LY{ρ:Pe}(hg:MG K g m)(ht:MT K NI tt ft)(he:ME K NI te fe)(V:nP K F1 σ ρ)
  (h:AA K J its F1) (s:iS F1 H1) (hl:its.length<sizeLine) (q:(sM (vy m ft fe (qj ix ρ)) its).res (kF K F1 H1 Q) (λ_ _=>False)):Wy J ix g tt te σ H1 Q:=by
 refine⟨λi k N H=>i<=its.length/\k=its.length-i/\∃X l,Gr F1 H1 X H/\iK K X N l/\l.length<=i/\(sM (vy m ft fe (qj ix ρ)) (its.drop i)).res (λU=>kF K F1 H1 Q (l++U)) (λ_ _=>False),
  ⟨_,bL _,rfl,F1,[],.refl s,.nil,bL _,by simpa using q⟩,?_⟩
 rintro i k N B ⟨hi,rfl,Z,l,c,A,tl,o⟩;by_cases a:i<its.length
 .right;refine⟨h.go i B (c.ff.trans c.fh) a,by rw[A.length];omega,λx P y=>?_⟩;have et:=ag a;obtain⟨Y,r,rp⟩:=h.yld i _ Z B x P c.ff c.fh et y;rw[c8 a]at o;unfold sM at o;have j:=M.res.unb o;unfold vy at j;cases C:m its[i] (qj ix ρ) with
  |none=>rw[C]at j;exact j.elim
  |some ρ3=>
   rw[C]at j;have d:=c.trans r;have V3:=(V.mono d.ff).pull ix;refine hg Y P _ _ x _ ρ3 _ r.fh (by simp[L2.pull,qj]) V3 rp C λp hl' V'=>?_;have q4:=M.res.unb j;refine ht Y P p ρ3 _ r.fh V' (q4.mono (λb z S H4 n=>?_) λ_ _ z=>z.elim);cases b with
   |true=>rw[aQ rfl]at z ⊢;have q5:=M.res.unb z;refine he S H4 p ρ3 _ n.fh (V'.mono n.ff) (q5.mono (λx' z' v F5 H5 g5 R=>?_) λ_ _ z=>z.elim);refine⟨its.length-(i+1),by omega,a,rfl,F5,l++[x'],(d.trans n).trans g5,(A.mono (r.ff.trans (n.ff.trans g5.ff))).append (.cons R .nil),by simp;omega,?_⟩;have L:=M.res.unb z';exact L.mono (λU w=>by rw[b5];exact w) λ_ _ w=>w
   |false=>rw[aR aH]at z ⊢;refine⟨its.length-(i+1),by omega,a,rfl,S,l,d.trans n,A.mono (r.ff.trans n.ff),by omega,?_⟩;exact M.res.unb z
 .left;have e:i=its.length:=by omega
  subst e;rw[List.drop_length]at o;refine⟨h.stop B (c.ff.trans c.fh),λD I=>?_⟩;have j:kF K F1 H1 Q l:=by simpa[sM,M.res] using o
  exact j D N Z _ (c.trans (.new' c.fh I)) (iW c.hh I) (iW c.fh I) ig A
def QQ(h:MI K E w fi)(i:MG K g m)(c:MT K NI tt ft)(d:ME K NI te fe) :
  MF K E (Lg ix w g tt te) (λρ=>(fi ρ).bind λits=>(if its.length<sizeLine then sM (vy m ft fe (qj ix ρ)) its else .bad).noEr):=λF H σ ρ Q s V q=>by
 refine h F H σ ρ _ s V ((M.res.unb q).mono (λits z J j k a b=>?_) λ_ _ z=>z);split at z
 .rename_i e;exact LY i c d (V.mono a.ff) b a.fh e (z.noEr.mono (λ_ w=>w.go a) λ_ _ w=>w)
 .exact z.elim
end
end L3
namespace L3
open PySem L2
section
variable {K:W.Frag}{E:XK}{t u ta tb:TE}{f fa fb:Pe->M T}{F0:Fz}{H0 F H F1 H1:Hp}{σ:St}{ρ:En}{D:wI}
noncomputable def yc(K:W.Frag)(F:List T->M T):Sp:=λb H Q E=>∃a F0,iS F0 H/\iK K F0 b a/\(F a).res (kV K F0 H Q) (kE E F0 H)
noncomputable def Dw(K:W.Frag)(F:List T->M ba):Sp:=λb H Q E=>∃a F0,iS F0 H/\iK K F0 b a/\(F a).res (kF K F0 H Q) (kE E F0 H)
@[simp] noncomputable def gS(fa:Pe->M ba)(F:List T->M T):Pe->M T:=λρ=>(fa ρ).bind λa=>(F a).noEr
@[simp] noncomputable def jO(fa:Pe->M ba)(F:List T->M ba):Pe->M ba:=λρ=>(fa ρ).bind λa=>(F a).noEr
section
variable {tr:TA}{fr:Pe->M ba}{Fn:List T->M T}{Ff:List T->M ba}{E':XK}
def LO(d:MA K E tr fr):ME K E (By (yc K Fn) [] E' tr) (gS fr Fn):=λF H σ ρ Q s V q=>by refine d.run s V q λe g F1 H1 a b c=>?_;exact⟨e,F1,a.fh,by rw[bM];exact b,(c.mono (λ_ z=>kV.go z a) λ_ _ z=>z).noEr⟩
def LC(d:MA K E tr fr):MF K E (By (Dw K Ff) [] E' tr) (jO fr Ff):=λF H σ ρ Q s V q=>by refine d.run s V q λe g F1 H1 a b c=>?_;exact⟨e,F1,a.fh,by rw[bM];exact b,(c.mono (λ_ z=>kF.go z a) λ_ _ z=>z).noEr⟩
@[simp] noncomputable def xD(C:Addr)(m:Str)(x:T):M Unit:=match x with
 |.obj C' fs=>if C'=C/\fs.lookup m=none then .ok () else .bad
 |_=>.bad
@[simp] noncomputable def uJ(C:Addr)(m:Str)(a:Pe->M T)(fr:Pe->M ba)(F:List T->M T):Pe->M T:=λρ=>(a ρ).bind λx=>(xD C m x).bind λ_=>(fr ρ).bind λb=>(F (x::b)).noEr
@[simp] noncomputable def uN(C:Addr)(m:Str)(a:Pe->M T)(fr:Pe->M ba)(F:List T->M ba):Pe->M ba:=λρ=>(a ρ).bind λx=>(xD C m x).bind λ_=>(fr ρ).bind λb=>(F (x::b)).noEr
def Hx(r:l7 K F v x)(e:xD C m x=.ok ()):∃a dx fs,v=.ref a/\F a=some (.ins C dx fs)/\fs.lookup m=none:=by
 cases r with
 |obj h rs=>
  rename_i a b dx fs c;have e:(if b=C/\List.lookup m c=none then M.ok () else M.bad)=.ok ():=e;by_cases d:b=C/\List.lookup m c=none
  .obtain⟨rfl,g⟩:=d;exact⟨a,dx,fs,rfl,h,rs.none_ g⟩
  .rw[aR d]at e;cases e
 |_=>cases e
def HK:xD C m x≠.er C' n:=by
 unfold xD;split
 .split<;>exact λz=>nomatch z
 .exact λz=>nomatch z
def MZ(i:ME K E ta fa)(hr:MA K E tr fr):ME K E (Bb C m (yc K Fn) [] E' ta tr) (uJ C m fa fr Fn):=λF H σ ρ Q s V q=>by
 refine i.run s V q λx v F1 H1 b g c=>?_;cases e:xD C m x with
 |bad=>rw[e]at c;exact c.elim
 |er C n=>exact absurd e HK
 |ok u=>rw[e]at c;obtain⟨a,j,fs,rfl,h,k⟩:=Hx g e;refine⟨a,j,fs,rfl,b.fh _ _ h,k,?_⟩;refine hr.run b.fh (V.mono b.ff) c λp w r y d o l=>?_;exact⟨x::p,r,d.fh,by rw[bM];exact .cons (g.mono d.ff) o,(l.mono (λ_ z=>kV.go z (b.trans d)) λ_ _ z=>z).noEr⟩
def MP(i:ME K E ta fa)(hr:MA K E tr fr):MF K E (Bb C m (Dw K Ff) [] E' ta tr) (uN C m fa fr Ff):=λF H σ ρ Q s V q=>by
 refine i.run s V q λx v F1 H1 b g c=>?_;cases e:xD C m x with
 |bad=>rw[e]at c;exact c.elim
 |er C n=>exact absurd e HK
 |ok u=>rw[e]at c;obtain⟨a,j,fs,rfl,h,k⟩:=Hx g e;refine⟨a,j,fs,rfl,b.fh _ _ h,k,?_⟩;refine hr.run b.fh (V.mono b.ff) c λp w r y d o l=>?_;exact⟨x::p,r,d.fh,by rw[bM];exact .cons (g.mono d.ff) o,(l.mono (λ_ z=>kF.go z (b.trans d)) λ_ _ z=>z).noEr⟩
end
@[simp] noncomputable def VX:O->M T
 |.nx _=>.ok .non
 |.rt t=>.ok t
 |.rf ts=>.ok (.lst ts)
 |.rn ts us=>.ok (.tup (ts++[.lst us]))
 |.er C n=>.er C n
 |_=>.bad
@[simp] noncomputable def Ws:O->M ba
 |.rf ts=>.ok ts
 |.er C n=>.er C n
 |_=>.bad
@[simp] noncomputable def i6(n:Nat)(ts:List T):En:=ts.map (λt=>some (W.p t))++List.replicate (n-ts.length) none
@[simp] noncomputable def lW(k n:Nat)(g:En->O):List T->M T:=λa=>if a.length=k then VX (g (i6 n a)) else .bad
@[simp] noncomputable def yj(k n:Nat)(g:En->O):List T->M ba:=λa=>if a.length=k then Ws (g (i6 n a)) else .bad
def A5{n i:Nat}(e:(i6 n ts)[i]? = some (some (.d kvs))):False:=by
 unfold i6 at e;rw[List.getElem?_append]at e;split at e
 .rw[av]at e;cases q:ts[i]? with
  |none=>rw[q]at e;cases e
  |some x=>rw[q]at e;cases e
 .rw[List.getElem?_replicate]at e;split at e<;>cases e
def Eh(s:iS F H)(r:iK K F vs ts):Sr K ⟨F,[]⟩ H F H (oy N vs) (i6 N.length ts):=by
 refine⟨.refl s,?_,λi t e=>?_,⟨λ_=>0,λi g e=>?_,λi j g m e=>?_⟩,λ_ l=>(nomatch l),λ_ _ _ h=>(by cases h),⟨λi c e=>(A5 e).elim,λi j c d e=>(A5 e).elim⟩⟩
 .simp[L2.oy,i6,r.length]
 .unfold i6 at e;rw[List.getElem?_append]at e;split at e
  .rename_i k;rw[av]at e;cases q:ts[i]? with
   |none=>rw[q]at e;cases e
   |some x=>rw[q]at e;cases e;obtain⟨v,a,b⟩:=r.get q;refine⟨v,?_,b⟩;unfold L2.oy;rw[List.getElem?_append_left (by simpa[r.length] using k),av,a];rfl
  .rw[List.getElem?_replicate]at e;split at e<;>cases e
 .exfalso;unfold i6 at e;rw[List.getElem?_append]at e;split at e
  .rw[av]at e;cases q:ts[i]? with
   |none=>rw[q]at e;cases e
   |some x=>rw[q]at e;cases e
  .rw[List.getElem?_replicate]at e;split at e<;>cases e
 .exfalso;unfold i6 at e;rw[List.getElem?_append]at e;split at e
  .rw[av]at e;cases q:ts[i]? with
   |none=>rw[q]at e;cases e
   |some x=>rw[q]at e;cases e
  .rw[List.getElem?_replicate]at e;split at e<;>cases e
def GB(h:yc K (lW k n g) vs H Q E):vs.length=k:=by
 obtain⟨b,F0,s,r,q⟩:=h;unfold lW at q;by_cases a:b.length=k
 .rw[r.length];exact a
 .rw[aR a]at q;exact q.elim
def B9{t:TS}(d:MS K E t g)(h:yc K (lW k N.length g) vs H Q E):t {nx:=λ_ b=>Q .non b,rt:=Q} (oy N vs) H:=by
 obtain⟨a,F0,s,r,q⟩:=h;unfold lW at q;by_cases c:a.length=k
 .rw[aQ c]at q;refine d ⟨F0,[]⟩ H F0 H _ _ _ (Eh s r) ?_;cases e:g (i6 N.length a) with
  |bad=>rw[e]at q;exact q
  |nx ρ=>rw[e]at q;exact λj b l _ i=>q .non j b i.gr .non
  |rt t=>rw[e]at q;exact q
  |rf a=>rw[e]at q;exact kF.of q
  |rn a us=>rw[e]at q;exact kT.of q
  |bk ρ=>rw[e]at q;exact q.elim
  |ct ρ=>rw[e]at q;exact q.elim
  |er C n=>rw[e]at q;exact q
 .rw[aR c]at q;exact q.elim
def HJ(h:Dw K (yj k n g) vs H Q E):vs.length=k:=by
 obtain⟨b,F0,s,r,q⟩:=h;unfold yj at q;by_cases a:b.length=k
 .rw[r.length];exact a
 .rw[aR a]at q;exact q.elim
def Dy{t:TS}(c:MS K E t g)(h:Dw K (yj k N.length g) vs H Q E):t {nx:=λ_ d=>Q .non d,rt:=Q} (oy N vs) H:=by
 obtain⟨a,F0,s,r,q⟩:=h;unfold yj at q;by_cases b:a.length=k
 .rw[aQ b]at q;refine c ⟨F0,[]⟩ H F0 H _ _ _ (Eh s r) ?_;cases e:g (i6 N.length a) with
  |bad=>rw[e]at q;exact q
  |nx ρ=>rw[e]at q;exact q.elim
  |rt t=>rw[e]at q;exact q.elim
  |rf a=>rw[e]at q;exact q
  |rn a us=>rw[e]at q;exact q.elim
  |bk ρ=>rw[e]at q;exact q.elim
  |ct ρ=>rw[e]at q;exact q.elim
  |er C n=>rw[e]at q;exact q
 .rw[aR b]at q;exact q.elim
@[simp] noncomputable def EF(C:Addr)(x:Str)(fa:Pe->M T):Pe->M T:=λρ=>(fa ρ).bind λo=>match o with
 |.obj C' fs=>if C'=C then (match fs.lookup x with
  |some t=>.ok t
  |none=>.bad) else .bad
 |_=>.bad
def To(i:AQ K C)(p:nA K C x)(k:ME K E ta fa):ME K E (Rv K ta x) (EF C x fa):=λF H σ ρ Q s V q=>by
 refine k.run s V q λo v F1 H1 d l b=>?_;cases l with
 |obj h rs=>
  rename_i a c j fs r;dsimp only at b;by_cases g:c=C
  .subst g;rw[aQ rfl]at b;cases e:List.lookup x r with
   |none=>rw[e]at b;exact b.elim
   |some y=>rw[e]at b;obtain⟨w,n,m⟩:=rs.look e;exact⟨a,c,j,fs,w,rfl,d.fh _ _ h,i,p,n,b w F1 H1 d m⟩
  .rw[aR g]at b;exact b.elim
 |_=>exact b.elim
end
end L3
namespace L3
open PySem L2 PySem.Spec PyProof.Rows
structure Pm(K:W.Frag)(E:XK)(X:Cx)(e:Expr)(t:TE)(f:Pe->M T):Prop where
 pe:PE X e t
 me:ME K E t f
structure Jw(K:W.Frag)(E:XK)(X:Cx)(e:Expr)(t:TE)(f:Pe->M ba):Prop where
 pe:PE X e t
 mf:MF K E t f
structure ET(K:W.Frag)(E:XK)(X:Cx)(e:Expr)(t:TT)(f:Pe->M Bool):Prop where
 pt:PT X e t
 mt:MT K E t f
structure Sv(K:W.Frag)(E:XK)(X:Cx)(e:Expr)(t:TT)(f:Pe->M Bool):Prop where
 pw:PW X e t
 mt:MT K E t f
structure DY(K:W.Frag)(E:XK)(X:Cx)(es:List Expr)(t:TA)(f:Pe->M ba):Prop where
 pa:PA X es t
 ma:MA K E t f
structure NK(K:W.Frag)(E:XK)(X:Cx)(tg it:Expr)(w:TI)(f:Pe->M ba):Prop where
 pi:PI X tg it w
 mi:MI K E w f
structure xw(K:W.Frag)(E:XK)(X:Cx)(tg it:Expr)(w:TI)(f:Pe->M ba):Prop where
 pi:PI X tg it w
 mi:Uq K E w f
structure T2(K:W.Frag)(X:Cx)(tg:Expr)(g:TG)(m:T->Pe->Option Pe):Prop where
 pg:PG X tg g
 mg:MG K g m
structure Oj(K:W.Frag)(X:Cx)(tg:List Expr)(g:NJ)(m:List T->Pe->Option Pe):Prop where
 pg:Ud X tg g
 mg:Vt K g m
structure T6(K:W.Frag)(X:Cx)(tg:Expr)(g:TG)(m:T->En->Option En):Prop where
 pg:PG X tg g
 mg:PB K g m
structure N1(K:W.Frag)(X:Cx)(tg:List Expr)(g:NJ)(m:List T->En->Option En):Prop where
 pg:Ud X tg g
 mg:KZ K g m
structure xy(K:W.Frag)(E:XK)(X:Cx)(st:Stmt)(t:TS)(g:En->O):Prop where
 ps:PS X st t
 ms:MS K E t g
structure uL(K:W.Frag)(E:XK)(X:Cx)(sts:List Stmt)(t:TS)(g:En->O):Prop where
 ps:ES X sts t
 ms:MS K E t g
noncomputable def MO(K:W.Frag)(E:XK)(t:TO)(f:Pe->M (Option Int)):Prop:=∀F H a c Q,iS F H->nP K F a c->(f c).res (λo=>∀d b,Gr F H d b->Q o b) (kE E F H)->t a H Q
structure VH(K:W.Frag)(E:XK)(X:Cx)(e:Option Expr)(t:TO)(f:Pe->M (Option Int)):Prop where
 po:PO X e t
 mo:MO K E t f
structure MW(K:W.Frag)(E:XK)(X:Cx)(es:List Expr)(t:TT)(f:Pe->M Bool):Prop where
 pf:ID X es t
 mt:MT K E t f
section
variable {K:W.Frag}{E:XK}{X:Cx}{a b c e o:Expr}{es:List Expr}{ta tb tc te to:TE}{fa fb fc fe fo:Pe->M T}{tr:TA}{fr:Pe->M ba}{pos p p2 apos:Pos}
def gR i (g:X.N[i]? = some x:=by rfl) (hv:U3 X.env.scope x:=by first|exact Or.inl rfl|exact Or.inr (Or.inl rfl)|exact Or.inr (Or.inr rfl)) (f:(x==("__debug__" : Str))=false:=by decide)
  (d:(x==("__classdict__" : Str))=false:=by decide):Pm K E X (.Name x pos) (oQ i) (gJ i):=⟨pv i g hv f d,TF⟩
def iz{j pos}:Pm K E X (.Constant (.int i) j pos) (tC (.int i)) (cM (.int i)):=⟨S9,JR λ_=>.int i⟩
def zZ{b:Bool}{j pos}:Pm K E X (.Constant (.bool b) j pos) (tC (.bl b)) (cM (.bl b)):=⟨Vv,JR λ_=>.bl b⟩
noncomputable abbrev bw:=cM .non
def mR{j pos}:Pm K E X (.Constant .none j pos) (tC .non) bw:=⟨TV,JR λ_=>.non⟩
def Lm{j pos}:Pm K E X (.Constant (.str x) j pos) (tC (.str x)) (cM (.str x)):=⟨RY,JR λ_=>.str x⟩
def Ed i (d:∃t,X.mg x=some (.int i t)) (g:Gl X x:=by rfl) (f:(x==("__debug__" : Str))=false:=by decide):Pm K E X (.Name x pos) (tC (.int i)) (cM (.int i)):=let ⟨t,h⟩:=d;⟨N5 g h ⟨t,rfl⟩ f,JR λ_=>.int i⟩
def jA(h:Jw K E X e te f):Pm K E X e te (λρ=>(f ρ).bind λts=>.ok (.lst ts)):=⟨h.pe,h.mf.me⟩
def zR(f:rz X (binaryOp op) r)(hr:MR K r m)(d:Pm K E X a ta fa)(hb:Pm K E X b tb fb):Pm K E X (.BinOp a op b pos) (zv r ta tb) (gW m fa fb):=⟨Lp f d.pe hb.pe,Hz hr d.me hb.me⟩
def K6(K:W.Frag):R2:=λx y H Q=>(Fj λi j=>.int (i+j)) x y H Q\/(∃i j,x=.str i/\y=.str j/\i.length+j.length<=sizeLine/\Q (.str (i++j)) H)\/S0 x y H Q\/
 ∃a b d f,x=.ref a/\y=.ref b/\H a=some (.tup d)/\H b=some (.tup f)/\d.length+f.length<=sizeLine/\(d=[]->Q (.ref b) H)/\(d≠[]->f=[]->Q (.ref a) H)/\(d≠[]->f≠[]->∀p,H p=none->Q (.ref p) (jY H p (.tup (d++f))))
def OU(L:X.K=K:=by rfl):rz X (binaryOp .Add) (K6 K):=by
 subst L;intro i s g H x y v u Q I f d h;rcases h with h|h|h|h
 .exact TC i s g H x y v u Q I f d h
 .exact Gq i s g H x y v u Q I f d h
 .exact Km i s g H x y v u Q I f d h
 .obtain⟨a,b,m,Z,rfl,rfl,w,z,hz,q1,N,U⟩:=h;by_cases j:m=[]
  .subst j;cases f;cases d;obtain⟨S,r1,J,_⟩:=I.tuple (oH.of w);obtain⟨q,r2,p2,_⟩:=I.tuple (oH.of z);cases r1;obtain⟨⟨c1,B,e1,D⟩,n,k1,A,k⟩:=id J;obtain⟨⟨c2,Y,e2,C⟩,r,R,P,l⟩:=id p2;subst k1 k R l;exact concat_meets ⟨_,n,rfl⟩ ⟨_,r,rfl⟩ noFill_tuple_add seq_tuple_add PySem.F.slot_tuple_add PySem.F.entry_tuple_add (PySem.F.args_tuple_add_2 _ _) (tuple_addW0 a b _ _ A P B Y D C (by simp)) ⟨n,r,⟨.ref b,H,I,rfl,q1 rfl⟩⟩
  .exact P6 i s g H _ _ v u Q I f d ⟨a,b,m,Z,rfl,rfl,oH.of w,oH.of z,j,hz,λe=>N j e,λe p hp=>U j e p hp⟩
noncomputable def jF:T->T->M T
 |.int i,.int j=>.ok (.int (i+j))
 |.str i,.str j=>if i.length+j.length<=sizeLine then .ok (.str (i++j)) else .bad
 |.lst a,.lst b=>if a.length+b.length<=sizeLine then .ok (.lst (a++b)) else .bad
 |.tup a,.tup b=>if a.length+b.length<=sizeLine then .ok (.tup (a++b)) else .bad
 |_,_=>.bad
def Qv x y:M.NoE (jF x y):=λC n=>by unfold jF;split<;>first|(intro z;cases z;done)|(split<;>intro z<;>cases z)
def Px:MR K (K6 K) jF:=⟨Qv,λF H v w x y Q s n rb q=>by
 cases n with
 |int i=>
  cases rb with
  |int j=>exact .inl ⟨i,j,rfl,rfl,kV.now q s (.int _)⟩
  |_=>exact q.elim
 |str i=>
  cases rb with
  |str j=>
   have d:(if i.length+j.length<=sizeLine then M.ok (T.str (i++j)) else M.bad).res (kV K F H Q) (λ_ _=>False):=q;by_cases h:i.length+j.length<=sizeLine
   .rw[aQ h]at d;exact .inr (.inl ⟨i,j,rfl,rfl,h,kV.now d s (.str _)⟩)
   .rw[aR h]at d;exact d.elim
  |_=>exact q.elim
 |lst h1 r1=>
  cases rb with
  |lst h2 r2=>
   rename_i a l g b m f;have d:(if g.length+f.length<=sizeLine then M.ok (T.lst (g++f)) else M.bad).res (kV K F H Q) (λ_ _=>False):=q;by_cases h:g.length+f.length<=sizeLine
   .rw[aQ h]at d;refine .inr (.inr (.inl ⟨a,b,l,m,rfl,rfl,s _ _ h1,s _ _ h2,by rw[r1.length,r2.length];exact h,λp k=>?_⟩));exact d (.ref p) _ _ (.new s k) (.lst ig ((r1.append r2).mono (Gr.new s k).ff))
   .rw[aR h]at d;exact d.elim
  |_=>exact q.elim
 |tup h1 r1=>
  cases rb with
  |tup h2 r2=>
   rename_i a l g b m f;have d:(if g.length+f.length<=sizeLine then M.ok (T.tup (g++f)) else M.bad).res (kV K F H Q) (λ_ _=>False):=q;by_cases h:g.length+f.length<=sizeLine
   .rw[aQ h]at d;refine .inr (.inr (.inr ⟨a,b,l,m,rfl,rfl,s _ _ h1,s _ _ h2,by rw[r1.length,r2.length];exact h,λe=>?_,λ_ e=>?_,λ_ _ p k=>?_⟩))
    .subst e;cases r1;exact kV.now d s (.tup h2 r2)
    .subst e;cases r2;exact kV.now d s (.tup h1 (by rw[bM];exact r1))
    .exact d (.ref p) _ _ (.new s k) (.tup ig ((r1.append r2).mono (Gr.new s k).ff))
   .rw[aR h]at d;exact d.elim
  |_=>exact q.elim
 |_=>exact q.elim⟩
def qG(d:Pm K E X a ta fa)(hb:Pm K E X b tb fb)(f:X.K=K:=by rfl):Pm K E X (.BinOp a .Add b pos) (zv (K6 K) ta tb) (gW jF fa fb):=zR (OU f) Px d hb
@[simp] noncomputable def yQ(fa fb:Pe->M T):Pe->M ba:=λd=>(fa d).bind λx=>(fb d).bind λy=>match x,y with
 |.lst a,.lst b=>if a.length+b.length<=sizeLine then .ok (a++b) else .bad
 |_,_=>.bad
def Ft(n:Pm K E X a ta fa)(hb:Pm K E X b tb fb):Jw K E X (.BinOp a .Add b pos) (zv S0 ta tb) (yQ fa fb):=by
 refine⟨Lp Km n.pe hb.pe,λF H I L Q s V q=>?_⟩;refine n.me.run s V q λx v J N j B D=>?_;refine hb.me.run j.fh (V.mono j.ff) D λy w r u d A k=>?_;cases B with
 |lst h1 t1=>
  cases A with
  |lst h2 t2=>
   rename_i a z m b C i;have g:(if m.length+i.length<=sizeLine then M.ok (m++i) else M.bad).res (kF K F H Q) (kE E r u):=k;by_cases h:m.length+i.length<=sizeLine
   .rw[aQ h]at g;refine⟨a,b,z,C,rfl,rfl,d.fh _ _ (d.ff _ _ h1),d.fh _ _ h2,by rw[t1.length,t2.length];exact h,λp l=>?_⟩;have f:=j.trans d;exact g p _ r _ (f.trans (.new' d.fh l)) (iW f.hh l) (iW d.fh l) ig ((t1.mono d.ff).append t2)
   .rw[aR h]at g;exact g.elim
  |_=>exact k.elim
 |_=>exact k.elim
noncomputable def vf:T->T->M T:=l8 (λ_ _=>true) λi j=>.int (i-j)
def CS(d:Pm K E X a ta fa)(hb:Pm K E X b tb fb):Pm K E X (.BinOp a .Sub b pos) (zv (Fj λi j=>.int (i-j)) ta tb) (gW vf fa fb):=zR Tn (vF λ_ _ _=>.int _) d hb
instance {i j:Int}:Decidable (PySem.IntMulOk i j):=inferInstanceAs (Decidable (¬_))
noncomputable def jE:T->T->M T:=l8 (λi j=>decide (PySem.IntMulOk i j)) λi j=>.int (i*j)
def wy(d:Pm K E X a ta fa)(hb:Pm K E X b tb fb):Pm K E X (.BinOp a .Mult b pos) (zv (rI (λi j=>PySem.IntMulOk i j) λi j=>.int (i*j)) ta tb) (gW jE fa fb):=zR P7 (CW (λi j h=>of_decide_eq_true h) λ_ _ _=>.int _) d hb
noncomputable def pD:T->T->M T:=l8 (λi j=>decide (j≠0)&&!Builtin.divisionGoesByPylong i j) λi j=>.int (i.fdiv j)
def HQ(d:Pm K E X a ta fa)(hb:Pm K E X b tb fb):Pm K E X (.BinOp a .FloorDiv b pos) (zv (rI (λi j=>j≠0/\Builtin.divisionGoesByPylong i j=false) λi j=>.int (i.fdiv j)) ta tb) (gW pD fa fb):=zR Kk (CW (λi j h=>by simpa using h) λ_ _ _=>.int _) d hb
noncomputable def xo:T->T->M T:=l8 (λ_ j=>decide (j≠0)) λi j=>.int (i.fmod j)
def TL(d:Pm K E X a ta fa)(hb:Pm K E X b tb fb):Pm K E X (.BinOp a .Mod b pos) (zv (rI (λ_ j=>j≠0) λi j=>.int (i.fmod j)) ta tb) (gW xo fa fb):=zR Pg (CW (λi j h=>by simpa using h) λ_ _ _=>.int _) d hb
noncomputable def rq:T->T->M T:=l8 (λi j=>decide (0<=j)&&decide (j<=1000000)&&decide (i.natAbs<18446744073709551616)) λi j=>.int (i ^ j.toNat)
def uW(d:Pm K E X a ta fa)(hb:Pm K E X b tb fb):Pm K E X (.BinOp a .Pow b pos) (zv (rI Um λi j=>.int (i ^ j.toNat)) ta tb) (gW rq fa fb):=zR Th (CW (λi j h=>by simp only[bV,decide_eq_true_eq]at h;exact⟨h.1.1,h.1.2,h.2⟩) λ_ _ _=>.int _) d hb
def Gj(d:Pm K E X a ta fa):Pm K E X (.UnaryOp .USub a pos) (Wo (rU λi=>.int (-i)) ta) (pU (λi=>.int (-i)) fa):=⟨UB Re d.pe,Vo (λ_ _=>.int _) d.me⟩
@[simp] noncomputable def yg(fa fb:Pe->M T):Pe->M ba:=λd=>(fa d).bind λx=>(fb d).bind λy=>match x,y with
 |.lst a,.int k=>if EW k=true/\a.length*k.toNat<=sizeLine then .ok (List.replicate k.toNat a).flatten else .bad
 |_,_=>.bad
def KF(n:Pm K E X a ta fa)(hb:Pm K E X b tb fb):Jw K E X (.BinOp a .Mult b pos) (zv UK ta tb) (yg fa fb):=by
 refine⟨Lp RM n.pe hb.pe,λF H D J Q s V q=>?_⟩;refine n.me.run s V q λx v I L i B C=>?_;refine hb.me.run i.fh (V.mono i.ff) C λy w r u d A j=>?_;cases B with
 |lst h1 t1=>
  cases A with
  |int k=>
   rename_i a z m;have g:(if EW k=true/\m.length*k.toNat<=sizeLine then M.ok (List.replicate k.toNat m).flatten else M.bad).res (kF K F H Q) (kE E r u):=j;by_cases h:EW k=true/\m.length*k.toNat<=sizeLine
   .rw[aQ h]at g;refine⟨a,k,z,rfl,rfl,d.fh _ _ (d.ff _ _ h1),by have:=tV h.1;rw[UA]at this;rw[VQ];omega,by have:=tV h.1;rw[UA]at this;rw[VQ];omega,by rw[t1.length];exact h.2,λp l=>?_⟩;have f:=i.trans d;exact g p _ r _ (f.trans (.new' d.fh l)) (iW f.hh l) (iW d.fh l) ig ((t1.mono d.ff).rep k.toNat)
   .rw[aR h]at g;exact g.elim
  |_=>exact j.elim
 |_=>exact j.elim
def pO(h:Pm K E X e te fe)(f:∀d,isTrue e X.env d=(do let v <-d;standAt e.pos;holding [v] (truthy v)):=by intro _;rfl):ET K E X e (tB te) (iD fe):=⟨Sa h.pe f,K5 h.me⟩
section
variable {tA tD:TT}{fA fD:Pe->M Bool}{oW:List Expr}
def mP(h:ET K E X a tA fA):ET K E X (.UnaryOp .Not a pos) (SH tA) (lA fA):=⟨Sk h.pt,SZ h.mt⟩
def pW(h:Sv K E X a tA fA):ET K E X a tA fA:=⟨PW.pt h.pw,h.mt⟩
def nK(h:ET K E X a tA fA):Sv K E X (.BoolOp .And [a] pos) tA fA:=⟨NQ h.pt,h.mt⟩
def lY(h:ET K E X a tA fA):Sv K E X (.BoolOp .Or [a] pos) tA fA:=⟨Sx h.pt,h.mt⟩
def oj(h:ET K E X a tA fA)(d:Sv K E X (.BoolOp .And (b::oW) pos) tD fD):Sv K E X (.BoolOp .And (a::b::oW) pos) (Sz tA tD) (mj fA fD):=⟨Tp h.pt d.pw,RJ h.mt d.mt⟩
def mF(h:ET K E X a tA fA)(d:Sv K E X (.BoolOp .Or (b::oW) pos) tD fD):Sv K E X (.BoolOp .Or (a::b::oW) pos) (Wt tA tD) (rV fA fD):=⟨Vj h.pt d.pw,Vf h.mt d.mt⟩
def tP{op}(h:Pm K E X a ta fa):Pm K E X (.BoolOp op [a] pos) ta fa:=⟨RF h.pe,h.me⟩
def uY(h:Pm K E X a ta fa)(d:Pm K E X (.BoolOp .And (b::oW) pos) tb fb):Pm K E X (.BoolOp .And (a::b::oW) pos) (Mi ta tb) (B2 fa fb):=⟨SF h.pe d.pe,Qy h.me d.me⟩
def Ve(h:Pm K E X a ta fa)(d:Pm K E X (.BoolOp .Or (b::oW) pos) tb fb):Pm K E X (.BoolOp .Or (a::b::oW) pos) (TN ta tb) (VW fa fb):=⟨UD h.pe d.pe,RS h.me d.me⟩
def zX(h:Pm K E X a ta fa):Pm K E X (.UnaryOp .Not a pos) (K2 ta) (DF fa):=⟨RP h.pe,Qq h.me⟩
def Q8(h:ET K E X c tA fA)(d:Pm K E X a ta fa)(hb:Pm K E X b tb fb):Pm K E X (.IfExp c a b pos) (Wd tA ta tb) (T9 fA fa fb):=⟨Nt h.pt d.pe hb.pe,Uu h.mt d.me hb.me⟩
end
def qr(g:rz X (compareOp op) r)(hr:MR K r m)(d:Pm K E X a ta fa)(hb:Pm K E X b tb fb)(f:behindInMarks op b=false:=by exact xg _):Pm K E X (.Compare a [op] [b] pos) (zv r ta tb) (gW m fa fb):=⟨PX g d.pe hb.pe f,Hz hr d.me hb.me⟩
def iO(g:rz X (compareOp op) r)(hr:MR K r m)(d:Pm K E X a ta fa)(hb:Pm K E X b tb fb)(f:behindInMarks op b=false:=by exact xg _):ET K E X (.Compare a [op] [b] pos) (Bh (zv r ta tb)) (iD (gW m fa fb)):=⟨OY g d.pe hb.pe f,Ot (Hz hr d.me hb.me)⟩
noncomputable def EU:T->T->M T:=l8 (λ_ _=>true) λi j=>.bl (decide (i<j))
noncomputable def Mw:T->T->M T:=l8 (λ_ _=>true) λi j=>.bl (decide (i<=j))
noncomputable def BY:T->T->M T:=l8 (λ_ _=>true) λi j=>.bl (decide (j<i))
noncomputable def Q6:T->T->M T:=l8 (λ_ _=>true) λi j=>.bl (decide (j<=i))
def v7:MR K (Fj λi j=>.bl (decide (i<j))) EU:=vF λ_ _ _=>.bl _
def zN:MR K (Fj λi j=>.bl (decide (i<=j))) Mw:=vF λ_ _ _=>.bl _
def vW:MR K (Fj λi j=>.bl (decide (j<i))) BY:=vF λ_ _ _=>.bl _
def Dt:MR K (Fj λi j=>.bl (decide (j<=i))) Q6:=vF λ_ _ _=>.bl _
@[simp] noncomputable def VR(m f:T->T->M T)(fa fb fc:Pe->M T):Pe->M T:=λd=>(fa d).bind λx=>(fb d).bind λy=>(m x y).bind λz=>match z with
 |.bl true=>(fc d).bind λw=>f y w
 |.bl false=>.ok (.bl false)
 |_=>.bad
def LJ(hr:MR K r m)(f:MR K r' m')(R:ME K E ta fa)(hb:ME K E tb fb)(hc:ME K E tc fc):ME K E (Fo r r' ta tb tc) (VR m m' fa fb fc):=λF H σ ρ Q s V q=>by
 refine R.run s V q λx v F1 H1 i S Z=>?_;refine hb.run i.fh (V.mono i.ff) Z λy w F2 I n A N=>?_;refine hr.ok F2 I v w x y _ n.fh (S.mono n.ff) A (((M.res.unb N).ne (hr.ne x y)).mono (λz l v3 P C g L=>?_) λ_ _ z=>z);have d:=(i.trans n).trans g;cases L with
 |bl k=>
  refine⟨k,rfl,?_⟩;cases k with
  |true=>rw[aQ rfl];have j:=l.mono (λ_ z=>z) λ_ _ z=>z.go g;refine hc.run g.fh (V.mono d.ff) j λu Y B J h D U=>?_;exact f.ok B J w Y y u Q h.fh (A.mono (g.ff.trans h.ff)) D ((U.ne (f.ne y u)).mono (λ_ z=>z.go (d.trans h)) λ_ _ z=>z)
  |false=>rw[aR aH];exact l _ P C d (.bl _)
 |_=>exact l.elim
def DT(j:rz X (compareOp op) r)(hr:MR K r m)(d:rz X (compareOp op') r')(f:MR K r' m')(g:Pm K E X a ta fa)(hb:Pm K E X b tb fb)(h:Pm K E X c tc fc)
  (i:lastMarks [op,op'] [b,c]=false:=by with_unfolding_all rfl):Pm K E X (.Compare a [op,op'] [b,c] pos) (Fo r r' ta tb tc) (VR m m' fa fb fc):=⟨Ko j d g.pe hb.pe h.pe i,LJ hr f g.me hb.me h.me⟩
mutual
noncomputable def vm:T->Bool
 |.str x=>PyData.canLay0 (.str x)
 |.lst ts=>vG ts
 |.tup ts=>vG ts
 |.scr _=>false
 |.obj _ _=>false
 |.emp=>false
 |.dic _=>false
 |_=>true
noncomputable def vG:List T->Bool
 |[]=>true
 |t::ts=>vm t&&vG ts
end
mutual
def Es:T->PyData
 |.non=>.none
 |.bl b=>.bool b
 |.int i=>.int i
 |.str x=>.str x
 |.lst ts=>.list (ya ts)
 |.tup ts=>.tuple (ya ts)
 |.scr _=>.none
 |.obj _ _=>.none
 |.emp=>.none
 |.dic _=>.none
def ya:List T->List PyData
 |[]=>[]
 |t::ts=>Es t::ya ts
end
mutual
theorem L6{F:Hp}:∀{v:V} {t:T},l7 K F v t->vm t=true->DV K F v (Es t)
 |_,_,.non,_=>.non
 |_,_,.bl b,_=>.bl b
 |_,_,.int i,_=>.int i
 |_,_,.str x,_=>.str x
 |_,_,.lst h r,l=>.lst (mN.of h) (FJ r (by simpa[vm] using l))
 |_,_,.tup h r,l=>.tup (oH.of h) (FJ r (by simpa[vm] using l))
 |_,_,.scr _,l=>by simp[vm]at l
 |_,_,.obj _ _,l=>by simp[vm]at l
 |_,_,.emp _,l=>by simp[vm]at l
 |_,_,.dic _ _,l=>by simp[vm]at l
theorem FJ{F:Hp}:∀{vs:List V} {ts:List T},iK K F vs ts->vG ts=true->EL K F vs (ya ts)
 |_,_,.nil,_=>.nil
 |_,_,.cons h r,l=>by rw[vG,bV]at l;exact .cons (L6 h l.1) (FJ r l.2)
end
mutual
theorem Co:∀t,vm t=true->(Es t).canLay0=true
 |.non,_=>rfl
 |.bl b,_=>rfl
 |.int i,_=>rfl
 |.str x,h=>by simpa[vm,Es] using h
 |.lst ts,h=>by rw[Es,PyData.canLay0];exact zg ts (by simpa[vm] using h)
 |.tup ts,h=>by rw[Es,PyData.canLay0];exact zg ts (by simpa[vm] using h)
 |.scr _,h=>by simp[vm]at h
 |.obj _ _,h=>by simp[vm]at h
 |.emp,h=>by simp[vm]at h
 |.dic _,h=>by simp[vm]at h
theorem zg:∀ts,vG ts=true->PyData.canLayAll0 (ya ts)=true
 |[],_=>rfl
 |t::ts,h=>by rw[vG,bV]at h;rw[ya,PyData.canLayAll0,Co t h.1,zg ts h.2];rfl
end
noncomputable def FC(x y:T):Bool:=(Es x).eqv (Es y)
noncomputable def zU(a b:List T):Bool:=PyData.eqvAll (ya a) (ya b)
noncomputable def G5(t:T):Nat:=(Es t).depth
noncomputable def wG(ts:List T):Nat:=PyData.depthAll (ya ts)
@[simp] theorem VI i:G5 (.int i)=0:=rfl
@[simp] theorem Wc i:G5 (.bl i)=0:=rfl
@[simp] theorem VP i:G5 (.str i)=0:=rfl
@[simp] theorem VF:G5 .non=0:=rfl
@[simp] theorem VB ts:G5 (.lst ts)=wG ts+1:=by unfold G5 wG;rw[Es,PyData.depth]
@[simp] theorem NX ts:G5 (.tup ts)=wG ts+1:=by unfold G5 wG;rw[Es,PyData.depth]
@[simp] theorem Ui:wG []=0:=rfl
@[simp] theorem Ip t ts:wG (t::ts)=max (G5 t) (wG ts):=by unfold G5 wG;rw[ya,PyData.depthAll]
@[simp] theorem GV i j:FC (.int i) (.int j)=(i==j):=rfl
@[simp] theorem VC i j:FC (.str i) (.str j)=(i==j):=rfl
def Hy xs ys:FC (.lst xs) (.lst ys)=zU xs ys:=by unfold FC zU;rw[Es,Es,PyData.eqv]
def tX xs ys:FC (.tup xs) (.tup ys)=zU xs ys:=by unfold FC zU;rw[Es,Es,PyData.eqv]
def xj x xs y ys:zU (x::xs) (y::ys)=(FC x y&&zU xs ys):=by unfold FC zU;rw[ya,ya,PyData.eqvAll]
noncomputable def iy(neg:Bool):T->T->M T:=λx y=>if vm x&&vm y&&decide (G5 x<=100) then .ok (.bl (if neg then !FC x y else FC x y)) else .bad
mutual
theorem DV.same{F H:Hp}(s:iS F H):∀{v:V} {d:PyData},DV K F v d->DV K H v d
 |_,_,.non=>.non
 |_,_,.bl b=>.bl b
 |_,_,.int i=>.int i
 |_,_,.str x=>.str x
 |_,_,.lst h r=>.lst (s.seq h) (EL.same s r)
 |_,_,.tup h r=>.tup (s.seqT h) (EL.same s r)
theorem EL.same{F H:Hp}(s:iS F H):∀{v:List V} {d:List PyData},EL K F v d->EL K H v d
 |_,_,.nil=>.nil
 |_,_,.cons h r=>.cons (DV.same s h) (EL.same s r)
end
def QD x y:M.NoE (iy neg x y):=λC n=>by unfold iy;split<;>exact λz=>nomatch z
def GR(neg:Bool):MR K (Fd K neg) (iy neg):=⟨QD,λF H v w x y Q s a rb q=>by
 unfold iy at q;by_cases h:(vm x&&vm y&&decide (G5 x<=100))=true
 .rw[aQ h]at q;simp only[bV,decide_eq_true_eq]at h;refine⟨Es x,Es y,DV.same s (L6 a h.1.1),DV.same s (L6 rb h.1.2),⟨Co x h.1.1,Co y h.1.2,by exact h.2⟩,?_⟩;exact kV.now q s (.bl _)
 .rw[aR h]at q;exact q.elim⟩
def Ba{k:Nat}(hr:jZ k X.A)(d:Pm K E X a ta fa)(hb:Pm K E X b tb fb)(e:X.K=K:=by rfl)(c:behindInMarks .Eq b=false:=by exact xg _):Pm K E X (.Compare a [.Eq] [b] pos) (zv (Fd K false) ta tb) (gW (iy false) fa fb):=qr (e▸K7 (VG hr)) (GR false) d hb c
def QX{k:Nat}(hr:jZ k X.A)(d:Pm K E X a ta fa)(hb:Pm K E X b tb fb)(e:X.K=K:=by rfl)(c:behindInMarks .NotEq b=false:=by exact xg _):Pm K E X (.Compare a [.NotEq] [b] pos) (zv (Fd K true) ta tb) (gW (iy true) fa fb):=qr (e▸Ln (VG hr)) (GR true) d hb c
def F7{k:Nat}(hr:jZ k X.A)(d:Pm K E X a ta fa)(hb:Pm K E X b tb fb)(e:X.K=K:=by rfl)(c:behindInMarks .Eq b=false:=by exact xg _):ET K E X (.Compare a [.Eq] [b] pos) (Bh (zv (Fd K false) ta tb)) (iD (gW (iy false) fa fb)):=iO (e▸K7 (VG hr)) (GR false) d hb c
def rB{k:Nat}(hr:jZ k X.A)(d:Pm K E X a ta fa)(hb:Pm K E X b tb fb)(e:X.K=K:=by rfl)(c:behindInMarks .NotEq b=false:=by exact xg _):ET K E X (.Compare a [.NotEq] [b] pos) (Bh (zv (Fd K true) ta tb)) (iD (gW (iy true) fa fb)):=iO (e▸Ln (VG hr)) (GR true) d hb c
@[simp] noncomputable def lM(neg:Bool):T->T->M T:=λx y=>match y with
 |.non=>.ok (.bl (match x with|.non=>!neg|_=>neg))
 |_=>.bad
def HF x y:M.NoE (lM neg x y):=λC n=>by cases y<;>exact λz=>nomatch z
def zW:MR K (λx y H Q=>y=.non/\Q (.bl (decide (x=.non))) H) (lM false):=⟨HF,λF H v w x y Q s a rb q=>by
 cases rb with
 |non=>refine⟨rfl,?_⟩;cases a<;>exact kV.now q s (.bl _)
 |_=>exact q.elim⟩
def rD:MR K (λx y H Q=>y=.non/\Q (.bl (!decide (x=.non))) H) (lM true):=⟨HF,λF H v w x y Q s a rb q=>by
 cases rb with
 |non=>refine⟨rfl,?_⟩;cases a<;>exact kV.now q s (.bl _)
 |_=>exact q.elim⟩
noncomputable def lj:T->Bool
 |.non=>true
 |.bl _=>true
 |.int _=>true
 |.str _=>true
 |_=>false
noncomputable def vK(x:T)(ts:List T):Bool:=ts.any λy=>FC y x
def l7.flat{F:Hp}{v:V}{x:T}(r:l7 K F v x)(h:lj x=true):uK v=true:=by cases r<;>first|rfl|(simp[lj]at h;done)
theorem iK.flat{F:Hp}:∀{vs:List V} {a:List T},iK K F vs a->a.all lj=true->vs.all uK=true
 |_,_,.nil,_=>rfl
 |_,_,.cons h r,q=>by rw[bX,bV]at q ⊢;exact⟨h.flat q.1,iK.flat r q.2⟩
def Uj{F:Hp}{v w:V}{x y:T}(r:l7 K F v x)(a:l7 K F w y)(h:lj x=true)(b:lj y=true):NM v w=FC x y:=by cases r<;>first|(exfalso;simp[lj]at h;done)|(cases a<;>first|(exfalso;simp[lj]at b;done)|rfl|simp[NM,tX])
theorem KJ{F:Hp}{v:V}{x:T}(r:l7 K F v x)(h:lj x=true):∀{vs:List V} {a:List T},iK K F vs a->a.all lj=true->VD v vs=vK x a
 |_,_,.nil,_=>rfl
 |_,_,.cons q rs,l=>by rw[bX,bV]at l;have b:=KJ r h rs l.2;unfold VD vK at b ⊢;rw[bY,bY,b,Uj q r l.1 h]
noncomputable def zS(neg:Bool):T->T->M T:=λx y=>match y with
 |.lst ts=>if lj x&&ts.all lj then .ok (.bl (if neg then !vK x ts else vK x ts)) else .bad
 |.tup ts=>if lj x&&ts.all lj then .ok (.bl (if neg then !vK x ts else vK x ts)) else .bad
 |_=>.bad
def PM x y:M.NoE (zS neg x y):=λC n=>by unfold zS;split<;>first|(intro z;cases z;done)|(split<;>intro z<;>cases z)
def Kl(neg:Bool):MR K (Vg K neg) (zS neg):=⟨PM,λF H v w x y Q s e rb q=>by
 cases rb with
 |lst h r=>
  rename_i a f d;have c:(if lj x&&d.all lj then M.ok (T.bl (if neg then !vK x d else vK x d)) else M.bad).res (kV K F H Q) (λ_ _=>False):=q;by_cases b:(lj x&&d.all lj)=true
  .rw[aQ b]at c;rw[bV]at b;exact⟨a,f,rfl,.inl (mN.of (s _ _ h)),e.flat b.1,r.flat b.2,by rw[KJ e b.1 r b.2];exact kV.now c s (.bl _)⟩
  .rw[aR b]at c;exact c.elim
 |tup h r=>
  rename_i a f d;have c:(if lj x&&d.all lj then M.ok (T.bl (if neg then !vK x d else vK x d)) else M.bad).res (kV K F H Q) (λ_ _=>False):=q;by_cases b:(lj x&&d.all lj)=true
  .rw[aQ b]at c;rw[bV]at b;exact⟨a,f,rfl,.inr (oH.of (s _ _ h)),e.flat b.1,r.flat b.2,by rw[KJ e b.1 r b.2];exact kV.now c s (.bl _)⟩
  .rw[aR b]at c;exact c.elim
 |_=>exact q.elim⟩
end
end L3
namespace L3
open PySem L2 PySem.Spec PyProof.Rows
section
variable {K:W.Frag}{E:XK}{X:Cx}{a b c e o tg it:Expr}{es:List Expr}{ta tb tc te to:TE}{fa fb fc fe fo:Pe->M T}{tr:TA}{fr:Pe->M ba}{pos p p2 apos:Pos}
def ij:DY K E X [] yi gM:=⟨xh,E9⟩
def gQ(d:Pm K E X e te fe)(hr:DY K E X es tr fr)(f:starEach (e::es) X.env=(false,eval e X.env)::starEach es X.env:=by rfl):DY K E X (e::es) (ux te tr) (gI fe fr):=⟨r9 d.pe hr.pa f,OT d.me hr.ma⟩
def qD{x1}(h:DY K E X es tr fr):Pm K E X (.Tuple es x1 pos) (RL tr) (jX fr):=⟨S6 h.pa,Sj h.ma⟩
def zd(h:DY K E X es tr fr):Jw K E X (.List es pos) (R9 tr) (lstM fr):=⟨RQ h.pa,Te h.ma⟩
structure MC(K:W.Frag)(r:List V->Hp->VK->Prop)(o:List T->M T):Prop where
 ne:∀xs,M.NoE (o xs)
 ok:∀F H vs xs Q,iS F H->iK K F vs xs->(o xs).res (kV K F H Q) (λ_ _=>False)->r vs H Q
structure VY(K:W.Frag)(r:List V->Hp->VK->Prop)(o:List T->M ba):Prop where
 ne:∀xs,M.NoE (o xs)
 ok:∀F H vs xs Q,iS F H->iK K F vs xs->(o xs).res (kF K F H Q) (λ_ _=>False)->r vs H Q
@[simp] noncomputable def kg(o:List T->M T)(fr:Pe->M ba):Pe->M T:=λd=>(fr d).bind o
@[simp] noncomputable def IX(o:List T->M ba)(fr:Pe->M ba):Pe->M ba:=λd=>(fr d).bind o
def QY{o:List T->M T}(g:MC K r o)(j:MA K E tr fr):ME K E (J4 r tr) (kg o fr):=λF H n u Q s V q=>by refine j.run s V q λd h i m f k l=>?_;exact g.ok i m h d Q f.fh k ((l.ne (g.ne d)).mono (λ_ z=>z.go f) λ_ _ z=>z)
def Vn{o:List T->M ba}(g:VY K r o)(j:MA K E tr fr):MF K E (J4 r tr) (IX o fr):=λF H n u Q s V q=>by refine j.run s V q λd h i m f k l=>?_;exact g.ok i m h d Q f.fh k ((l.ne (g.ne d)).mono (λ_ z=>z.go f) λ_ _ z=>z)
section
variable {x:Str}{id T':String}{r:List V->Hp->VK->Prop}{m:List T->M T}{mf:List T->M ba}
def iq(l:lX X (.builtin id) r)(d:MC K r m)(j:Gl X x)(i:X.mg x=none)(hv:bootBuiltins x=some (.builtin id))(h:DY K E X (e::es) tr fr)(k:x≠ "__name__" :=by decide)(f:(x==("__debug__" : Str))=false:=by decide)
  (n:starEach (e::es) X.env=(false,eval e X.env)::starEach es X.env:=by rfl) (g:(backTo pos (starEach es X.env)).any (·.1)=false:=by rfl):Pm K E X (.Call (.Name x p) (e::es) [] pos) (J4 r tr) (kg m fr):=⟨DJ l j i hv h.pa k f n g,QY d h.ma⟩
def jq(l:lX X (.type T') r)(d:MC K r m)(j:Gl X x)(i:X.mg x=none)(hv:bootBuiltins x=some (.type T'))(h:DY K E X (e::es) tr fr)(k:x≠ "__name__" :=by decide)(f:(x==("__debug__" : Str))=false:=by decide)
  (n:starEach (e::es) X.env=(false,eval e X.env)::starEach es X.env:=by rfl) (g:(backTo pos (starEach es X.env)).any (·.1)=false:=by rfl):Pm K E X (.Call (.Name x p) (e::es) [] pos) (J4 r tr) (kg m fr):=⟨w9 l j i hv h.pa k f n g,QY d h.ma⟩
def nV(l:lX X (.type T') r)(d:VY K r mf)(j:Gl X x)(i:X.mg x=none)(hv:bootBuiltins x=some (.type T'))(h:DY K E X (e::es) tr fr)(k:x≠ "__name__" :=by decide)(f:(x==("__debug__" : Str))=false:=by decide)
  (n:starEach (e::es) X.env=(false,eval e X.env)::starEach es X.env:=by rfl) (g:(backTo pos (starEach es X.env)).any (·.1)=false:=by rfl):Jw K E X (.Call (.Name x p) (e::es) [] pos) (J4 r tr) (IX mf fr):=⟨w9 l j i hv h.pa k f n g,Vn d h.ma⟩
end
@[simp] noncomputable def kH:List T->M T
 |[.lst ts]=>.ok (.int ts.length)
 |[.tup ts]=>.ok (.int ts.length)
 |[.scr ns]=>.ok (.int ns.length)
 |[.str z]=>if z.length<=sizeLine then .ok (.int z.length) else .bad
 |_=>.bad
def Pu xs:M.NoE (kH xs):=λC n=>by unfold kH;split<;>first|(intro z;cases z;done)|(split<;>first|(intro z;cases z;done)|(split<;>intro z<;>cases z))
def ka:MC K (λg H Q=>∃x n,g=[x]/\Rr K x H n/\Q (.int n) H) kH:=⟨Pu,λF H i g Q s r q=>by
 cases r with
 |nil=>exact q.elim
 |cons h t=>
  cases t with
  |cons _ _=>cases h<;>exact q.elim
  |nil=>
   cases h with
   |lst h r=>exact⟨_,_,rfl,.inl ⟨_,mN.of (s _ _ h),rfl⟩,by rw[r.length];exact kV.now q s (.int _)⟩
   |tup h r=>exact⟨_,_,rfl,.inr ⟨_,oH.of (s _ _ h),rfl⟩,by rw[r.length];exact kV.now q s (.int _)⟩
   |scr h=>exact⟨_,_,rfl,.inl ⟨_,s.seq h,rfl⟩,by rw[aw];exact kV.now q s (.int _)⟩
   |str z=>
    have d:(if z.length<=sizeLine then M.ok (T.int z.length) else M.bad).res (kV K F H Q) (λ_ _=>False):=q;by_cases f:z.length<=sizeLine
    .rw[aQ f]at d;exact⟨_,z.length,rfl,⟨f,rfl⟩,kV.now d s (.int _)⟩
    .rw[aR f]at d;exact d.elim
   |_=>exact q.elim⟩
@[simp] noncomputable def xE:List T->M T
 |[.int i]=>.ok (.int (if i<0 then -i else i))
 |_=>.bad
def QF xs:M.NoE (xE xs):=λC n=>by unfold xE;split<;>first|(intro z;cases z;done)|(split<;>first|(intro z;cases z;done)|(split<;>intro z<;>cases z))
def sY:MC K (λd H Q=>∃i,d=[.int i]/\Q (.int (if i<0 then -i else i)) H) xE:=⟨QF,λF H f d Q s r q=>by
 cases r with
 |nil=>exact q.elim
 |cons h t=>
  cases t with
  |cons _ _=>cases h<;>exact q.elim
  |nil=>
   cases h with
   |int i=>exact⟨i,rfl,kV.now q s (.int _)⟩
   |_=>exact q.elim⟩
@[simp] noncomputable def A4:List T->M T
 |[.int i,.int j]=>.ok (.int (if j>i then j else i))
 |_=>.bad
def LW xs:M.NoE (A4 xs):=λC n=>by unfold A4;split<;>first|(intro z;cases z;done)|(split<;>first|(intro z;cases z;done)|(split<;>intro z<;>cases z))
def Ou:MC K (λd H Q=>∃i j,d=[.int i,.int j]/\Q (.int (if j>i then j else i)) H) A4:=⟨LW,λF H f d Q s r q=>by
 unfold A4 at q;split at q
 .exact⟨_,_,r.two,kV.now q s (.int _)⟩
 .exact q.elim⟩
@[simp] noncomputable def xN:List T->M T
 |[.int i]=>.ok (.int i)
 |[.bl k]=>.ok (.int (if k then 1 else 0))
 |_=>.bad
def KO xs:M.NoE (xN xs):=λC n=>by unfold xN;split<;>first|(intro z;cases z;done)|(split<;>first|(intro z;cases z;done)|(split<;>intro z<;>cases z))
def yD:MC K (λd H Q=>(∃i,d=[.int i]/\Q (.int i) H)\/∃k,d=[.bl k]/\Q (.int (if k then 1 else 0)) H) xN:=⟨KO,λF H f d Q s r q=>by
 cases r with
 |nil=>exact q.elim
 |cons h t=>
  cases t with
  |cons _ _=>cases h<;>exact q.elim
  |nil=>
   cases h with
   |int i=>exact .inl ⟨i,rfl,kV.now q s (.int _)⟩
   |bl k=>exact .inr ⟨k,rfl,kV.now q s (.int _)⟩
   |_=>exact q.elim⟩
@[simp] noncomputable def j8:List T->M T
 |[.lst ts]=>.ok (.tup ts)
 |[.tup ts]=>.ok (.tup ts)
 |[.scr ns]=>.ok (.tup (ns.map T.int))
 |_=>.bad
def Gg xs:M.NoE (j8 xs):=λC n=>by unfold j8;split<;>first|(intro z;cases z;done)|(split<;>first|(intro z;cases z;done)|(split<;>intro z<;>cases z))
def jW:MC K (λg H Q=>∃p f,g=[.ref p]/\((mN K H p f/\∀l,H l=none->Q (.ref l) (jY H l (.tup f)))\/(oH K H p f/\Q (.ref p) H))) j8:=⟨Gg,λF H i g Q s r q=>by
 cases r with
 |nil=>exact q.elim
 |cons h t=>
  cases t with
  |cons _ _=>cases h<;>exact q.elim
  |nil=>
   cases h with
   |lst h r=>exact⟨_,_,rfl,.inl ⟨mN.of (s _ _ h),λl d=>q (.ref l) _ _ (.new s d) (.tup ig (r.mono (Gr.new s d).ff))⟩⟩
   |scr h=>exact⟨_,_,rfl,.inl ⟨s.seq h,λl d=>q (.ref l) _ _ (.new s d) (.tup ig (iK.of_ints _))⟩⟩
   |tup h r=>exact⟨_,_,rfl,.inr ⟨oH.of (s _ _ h),kV.now q s (.tup h r)⟩⟩
   |_=>exact q.elim⟩
@[simp] noncomputable def pQ:List T->M ba
 |[.lst ts]=>.ok ts
 |[.tup ts]=>.ok ts
 |[.scr ns]=>.ok (ns.map T.int)
 |_=>.bad
def IT xs:M.NoE (pQ xs):=λC n=>by unfold pQ;split<;>first|(intro z;cases z;done)|(split<;>first|(intro z;cases z;done)|(split<;>intro z<;>cases z))
def pB:VY K (λg H Q=>∃p f,g=[.ref p]/\(mN K H p f\/oH K H p f)/\∀l,H l=none->Q (.ref l) (jY H l (.lst f))) pQ:=⟨IT,λF H i g Q s r q=>by
 cases r with
 |nil=>exact q.elim
 |cons h t=>
  cases t with
  |cons _ _=>cases h<;>exact q.elim
  |nil=>
   cases h with
   |lst h r=>exact⟨_,_,rfl,.inl (mN.of (s _ _ h)),λl d=>q l _ F _ (.new' s d) d (iW s d) ig r⟩
   |scr h=>exact⟨_,_,rfl,.inl (s.seq h),λl d=>q l _ F _ (.new' s d) d (iW s d) ig (iK.of_ints _)⟩
   |tup h r=>exact⟨_,_,rfl,.inr (oH.of (s _ _ h)),λl d=>q l _ F _ (.new' s d) d (iW s d) ig r⟩
   |_=>exact q.elim⟩
def kc:List T->Option (LI)
 |[]=>some []
 |.int i::ts=>(kc ts).bind λr=>some (i::r)
 |_::_=>none
theorem nX:∀{ts} {ns},kc ts=some ns->ts=ns.map T.int
 |[],_,e=>by cases e;rfl
 |t::ts,ns,e=>by
  cases t with
  |int i=>
   cases q:kc ts with
   |none=>simp[kc,q]at e
   |some r=>simp[kc,q]at e;subst e;rw[nX q];rfl
  |_=>cases e
@[simp] theorem tQ ns:kc (ns.map T.int)=some ns:=by
 induction ns with
 |nil=>rfl
 |cons n ns ih=>simp[kc,ih]
def uz:List T->Option (List Bool)
 |[]=>some []
 |.bl i::ts=>(uz ts).bind λr=>some (i::r)
 |_::_=>none
theorem AZ:∀{ts} {ns},uz ts=some ns->ts=ns.map T.bl
 |[],_,e=>by cases e;rfl
 |t::ts,ns,e=>by
  cases t with
  |bl i=>
   cases q:uz ts with
   |none=>simp[uz,q]at e
   |some r=>simp[uz,q]at e;subst e;rw[AZ q];rfl
  |_=>cases e
@[simp] theorem Uo ns:uz (ns.map T.bl)=some ns:=by
 induction ns with
 |nil=>rfl
 |cons n ns ih=>simp[uz,ih]
@[simp] noncomputable def Gf:List T->M T
 |[.lst ts]=>match kc ts with
  |some ns=>.ok (.int ns.sum)
  |none=>.bad
 |_=>.bad
def NZ xs:M.NoE (Gf xs):=λC n=>by unfold Gf;split<;>first|(intro z;cases z;done)|(split<;>first|(intro z;cases z;done)|(split<;>intro z<;>cases z))
def FP:MC K (λg H Q=>∃(p:Addr) (d:LI),g=[.ref p]/\mN K H p (d.map V.int)/\Q (.int d.sum) H) Gf:=⟨NZ,λF H j g Q s r q=>by
 cases r with
 |nil=>exact q.elim
 |cons h t=>
  cases t with
  |cons _ _=>cases h<;>exact q.elim
  |nil=>
   cases h with
   |lst h r=>
    rename_i a g i;have f:(match kc i with|some d=>M.ok (T.int d.sum)|none=>M.bad).res (kV K F H Q) (λ_ _=>False):=q;cases e:kc i with
    |none=>rw[e]at f;exact f.elim
    |some d=>rw[e]at f;rw[nX e]at r;have:=r.ints;subst this;exact⟨a,d,rfl,mN.of (s _ _ h),kV.now f s (.int _)⟩
   |_=>exact q.elim⟩
@[simp] noncomputable def BM:List T->M T
 |[.lst ts]=>match uz ts with
  |some ns=>.ok (.bl (ns.all id))
  |none=>.bad
 |_=>.bad
def PP xs:M.NoE (BM xs):=λC n=>by unfold BM;split<;>first|(intro z;cases z;done)|(split<;>first|(intro z;cases z;done)|(split<;>intro z<;>cases z))
def wJ:MC K (λf H Q=>∃(p:Addr) (bs:List Bool),f=[.ref p]/\mN K H p (bs.map V.bl)/\Q (.bl (bs.all id)) H) BM:=⟨PP,λF H i f Q s r q=>by
 cases r with
 |nil=>exact q.elim
 |cons h t=>
  cases t with
  |cons _ _=>cases h<;>exact q.elim
  |nil=>
   cases h with
   |lst h r=>
    rename_i a f g;have d:(match uz g with|some ns=>M.ok (T.bl (ns.all id))|none=>M.bad).res (kV K F H Q) (λ_ _=>False):=q;cases e:uz g with
    |none=>rw[e]at d;exact d.elim
    |some ns=>rw[e]at d;rw[AZ e]at r;have:=r.bls;subst this;exact⟨a,ns,rfl,mN.of (s _ _ h),kV.now d s (.bl _)⟩
   |_=>exact q.elim⟩
@[simp] noncomputable def T5:T->String
 |.non=> "NoneType"
 |.bl _=> "bool"
 |.int _=> "int"
 |.str _=> "str"
 |.tup _=> "tuple"
 |.lst _=> "list"
 |.scr _=> "script"
 |.obj _ _=> "object"
 |.emp=> "dict"
 |.dic _=> "table"
@[simp] noncomputable def SN(n:String)(x:T):M T:=match x with
 |.scr _=>.bad
 |.obj _ _=>.bad
 |.dic _=>.bad
 |x=>.ok (.bl (T5 x==n||(n == "int" && T5 x == "bool")))
def UT(r:l7 K F v x)(s:iS F H)(j:∀d,x≠.scr d)(g:∀C fs,x≠.obj C fs)(f:∀k,x≠.dic k):tM K H v (.type (T5 x)):=by
 cases r with
 |non=>exact .non
 |bl b=>exact .bl b
 |int i=>exact .int i
 |str x=>exact .str x
 |tup h r=>exact .tup (s _ _ h)
 |lst h r=>exact .lst (s _ _ h)
 |scr h=>exact absurd rfl (j _)
 |obj h r=>exact absurd rfl (g _ _)
 |emp h=>exact .dK (s _ _ h)
 |dic h r=>exact absurd rfl (f _)
@[simp] noncomputable def pE(n:String)(fe:Pe->M T):Pe->M T:=λd=>(fe d).bind λx=>SN n x
theorem SL(D:∀t∈["NoneType", "bool", "int", "str", "tuple", "list", "dict"],W.kitOne K (.type t) (.type n)=some (t==n||(n == "int" && t == "bool")))(y:ME K E te fe) :
  ME K E (J4 (λw H Q=>∃x T t b,w=[x,.ty T]/\tM K H x t/\W.kitOne K t (.type T)=some b/\Q (.bl b) H) (ux te (ux (tC (.ty n)) yi))) (pE n fe):=λF H I J Q s V q=>by
 refine y.run s V q λx v u j l B g=>?_;have d:∀b,SN n x=.ok (.bl b)->(∀i,x≠.scr i)->(∀C fs,x≠.obj C fs)->(∀h,x≠.dic h)->b=(T5 x==n||(n == "int" && T5 x == "bool"))->∃f T t b,[v,L2.V.ty n]=[f,.ty T]/\tM K j f t/\W.kitOne K t (.type T)=some b/\Q (.bl b) j:=by
  intro b e r m k A;rw[e]at g;refine⟨v,n,_,b,rfl,UT B l.fh r m k,?_,g _ u j l (.bl _)⟩;rw[A];refine D _ ?_;cases x with
  |scr i=>exact absurd rfl (r i)
  |obj C fs=>exact absurd rfl (m C fs)
  |dic h=>exact absurd rfl (k h)
  |_=>simp[T5]
 cases x with
 |scr i=>exact g.elim
 |obj C fs=>exact g.elim
 |dic h=>exact g.elim
 |non=>exact d _ rfl (λ_ z=>nomatch z) (λ_ _ z=>nomatch z) (λ_ z=>nomatch z) rfl
 |bl _=>exact d _ rfl (λ_ z=>nomatch z) (λ_ _ z=>nomatch z) (λ_ z=>nomatch z) rfl
 |int _=>exact d _ rfl (λ_ z=>nomatch z) (λ_ _ z=>nomatch z) (λ_ z=>nomatch z) rfl
 |str _=>exact d _ rfl (λ_ z=>nomatch z) (λ_ _ z=>nomatch z) (λ_ z=>nomatch z) rfl
 |tup _=>exact d _ rfl (λ_ z=>nomatch z) (λ_ _ z=>nomatch z) (λ_ z=>nomatch z) rfl
 |lst _=>exact d _ rfl (λ_ z=>nomatch z) (λ_ _ z=>nomatch z) (λ_ z=>nomatch z) rfl
 |emp=>exact d _ rfl (λ_ z=>nomatch z) (λ_ _ z=>nomatch z) (λ_ z=>nomatch z) rfl
def OA K:∀n∈["int", "bool", "str", "tuple", "list"],∀t∈["NoneType", "bool", "int", "str", "tuple", "list", "dict"],W.kitOne K (.type t) (.type n)=some (t==n||(n == "int" && t == "bool")):=by intro n f t d;simp only[aF,c9,or_false]at f d;rcases f with rfl|rfl|rfl|rfl|rfl<;>rcases d with rfl|rfl|rfl|rfl|rfl|rfl|rfl<;>rfl
def ml n (k:n∈["int", "bool", "str", "tuple", "list"]) (g:X.mg "isinstance" = none) (h:X.mg x=none) (j:bootBuiltins x=some (.type n)) (s:Pm K E X e te fe) (v:X.K=K:=by rfl) (q:Gl X "isinstance" :=by rfl) (m:Gl X x:=by rfl)
  (f:x≠ "__name__" :=by decide) (l:(x==("__debug__" : Str))=false:=by decide)
  (r:starEach [e,.Name x p3] X.env=(false,eval e X.env)::starEach [.Name x p3] X.env:=by rfl) (d:starEach [.Name x p3] X.env=(false,eval (.Name x p3) X.env)::starEach [] X.env:=by rfl) (i:(backTo pos (starEach [.Name x p3] X.env)).any (·.1)=false:=by rfl) :
  Pm K E X (.Call (.Name "isinstance" p) [e,.Name x p3] [] pos) (J4 (λu H Q=>∃x T t b,u=[x,.ty T]/\tM K H x t/\W.kitOne K t (.type T)=some b/\Q (.bl b) H) (ux te (ux (tC (.ty n)) yi))) (pE n fe):=by
 subst v;exact⟨DJ M5 q g R1 (r9 s.pe (r9 (Pd m h j rfl f l) xh d) r) (by decide) (by decide) r i,SL (OA X.K n k) s.me⟩
@[simp] noncomputable def iP:T->T->M T
 |.lst ts,.int i=>match uV ts i with
  |some t=>.ok t
  |none=>.bad
 |.tup ts,.int i=>match uV ts i with
  |some t=>.ok t
  |none=>.bad
 |.scr ns,.int i=>match uV ns i with
  |some t=>.ok (.int t)
  |none=>.bad
 |.str z,.int i=>if z.length<=sizeLine then (match uV z.cps.toList i with
  |some c=>.ok (.str ⟨#[c]⟩)
  |none=>.bad) else .bad
 |_,_=>.bad
def GY(r:iK K F vs ts)(h:uV ts i=some t):∃v,uV vs i=some v/\l7 K F v t:=by
 unfold uV at h ⊢;rw[r.length];cases e:Au ts.length i with
 |none=>rw[e]at h;cases h
 |some j=>rw[e]at h;exact r.get h
def tU(f:α->β) l i:uV (l.map f) i=(uV l i).map f:=by
 unfold uV;rw[aw];cases Au l.length i with
 |none=>rfl
 |some j=>simp
def RO x y:M.NoE (iP x y):=λC n=>by unfold iP;split<;>first|(intro z;cases z;done)|(split<;>first|(intro z;cases z;done)|(split<;>intro z<;>cases z))
def U8:MR K (V9 K) iP:=⟨RO,λF H v w x y Q s d rb q=>by
 unfold iP at q;split at q
 .rename_i k i;rw[rb.int_inv];obtain⟨a,f,rfl,h,r⟩:=d.lst_inv;split at q
  .rename_i t e;obtain⟨v,j,g⟩:=GY r e;exact .inl ⟨a,f,i,v,rfl,rfl,mN.of (s _ _ h),j,kV.now q s g⟩
  .exact q.elim
 .rename_i k i;rw[rb.int_inv];obtain⟨a,f,rfl,h,r⟩:=d.tup_inv;split at q
  .rename_i t e;obtain⟨v,j,g⟩:=GY r e;exact .inr (.inl ⟨a,f,i,v,rfl,rfl,oH.of (s _ _ h),j,kV.now q s g⟩)
  .exact q.elim
 .rename_i m i;rw[rb.int_inv];cases d with
  |scr h=>
   split at q
   .rename_i t e;exact .inl ⟨_,_,i,.int t,rfl,rfl,s.seq h,by rw[tU,e];rfl,kV.now q s (.int _)⟩
   .exact q.elim
 .rename_i z i;rw[rb.int_inv];cases d with
  |str z=>
   split at q
   .rename_i l;split at q
    .rename_i c e;exact .inr (.inr ⟨z,i,c,rfl,rfl,l,e,kV.now q s (.str _)⟩)
    .exact q.elim
   .exact q.elim
 .exact q.elim⟩
def Dr(d:Pm K E X a ta fa)(hb:Pm K E X b tb fb)(f:Hl b:=by intro _ _;rfl)(g:X.K=K:=by rfl):Pm K E X (.Subscript a b pos) (zv (V9 K) ta tb) (gW iP fa fb):=⟨Ux (g▸SU) d.pe hb.pe f,Hz U8 d.me hb.me⟩
def Np:VH K E X none HB (λ_=>.ok none):=⟨OI,λF H d f Q s V q=>q F H (.refl s)⟩
@[simp] noncomputable def jo(fe:Pe->M T):Pe->M (Option Int):=λd=>(fe d).bind λx=>match x with
 |.int i=>.ok (some i)
 |_=>.bad
def Lf(h:Pm K E X e te fe):VH K E X (some e) (QJ te) (jo fe):=⟨Pf h.pe,λF H l m Q s V q=>by
 refine h.me.run s V q λx v j k f g d=>?_;cases g with
 |int i=>exact⟨i,rfl,d j k f⟩
 |_=>exact d.elim⟩
noncomputable def qJ{f:Type}(d:List f)(g h:Option Int):List f:=(d.drop (HT.sIx d.length 0 g)).take (HT.sIx d.length d.length h-HT.sIx d.length 0 g)
def RC xs lo hi:KW xs lo hi=qJ xs lo hi:=rfl
def iK.cut(r:iK K F vs ts) lo hi:iK K F (qJ vs lo hi) (qJ ts lo hi):=by unfold qJ;rw[r.length];exact (r.drop _).take _
def Mp(f:α->β) l lo hi:qJ (l.map f) lo hi=(qJ l lo hi).map f:=by unfold qJ;rw[aw,dc,de]
section
variable {lo hi:Option Expr}{tl th:TO}{fl fh:Pe->M (Option Int)}
def MO.run{k:Option Int->M α}{P:α->Prop}(h:MO K E t f)(s:iS F H)(v:nP K F σ ρ)(r:((f ρ).bind k).res P (kE E F H))
  (j:∀x i d,Gr F H i d->(k x).res P (kE E i d)->Q x d):t σ H Q:=
 h F H σ ρ Q s v ((M.res.unb r).mono (λx q i d g=>j x i d g (q.mono (λ_ z=>z) λ_ _ z=>z.go g)) λ_ _ z=>z)
@[simp] noncomputable def j7(fe:Pe->M T)(fl fh:Pe->M (Option Int)):Pe->M T:=λd=>(fe d).bind λx=>(fl d).bind λl=>(fh d).bind λh=>match x with
 |.tup ts=>.ok (.tup (qJ ts l h))
 |.lst ts=>.ok (.lst (qJ ts l h))
 |.scr ns=>.ok (.lst ((qJ ns l h).map T.int))
 |_=>.bad
def DD(y:Pm K E X e te fe)(A:VH K E X lo tl fl)(w:VH K E X hi th fh)(D:X.K=K:=by rfl):Pm K E X (.Subscript e (.Slice lo hi none p2) pos) (WA (λx lo hi H Q=>Vu K x lo hi H Q\/(UX K x lo hi H Q\/Vb K x lo hi H Q)) te tl th) (j7 fe fl fh):=by
 subst D;refine⟨Kx (Pt.or (S1.or Qu)) y.pe A.po w.po,λF H P Y Q s V q=>?_⟩;refine y.me.run s V q λx v R Z j L N=>?_;refine A.mo.run j.fh (V.mono j.ff) N λl F2 S m J=>?_;refine w.mo.run m.fh ((V.mono j.ff).mono m.ff) J λu B z d k=>?_;have g:=(j.trans m).trans d;have C:=L.mono (m.ff.trans d.ff);cases C with
 |lst h r=>exact .inl ⟨_,_,rfl,mN.of (d.fh _ _ h),λp f=>k (.ref p) _ _ (g.trans (.new d.fh f)) (.lst ig ((r.cut l u).mono (Gr.new d.fh f).ff))⟩
 |scr h=>exact .inl ⟨_,_,rfl,d.fh.seq h,λp f=>k (.ref p) _ _ (g.trans (.new d.fh f)) (.lst ig (by rw[RC,Mp];exact iK.of_ints _))⟩
 |tup h r=>
  rename_i a U i;have n:(M.ok (T.tup (qJ i l u))).res (kV X.K F H Q) (kE E B z):=k;by_cases hw:HT.sIx i.length 0 l=0/\HT.sIx i.length i.length u=i.length
  .have I:qJ i l u=i:=by unfold qJ;rw[hw.1,hw.2];simp
   rw[I]at n;exact .inr (.inr ⟨_,_,rfl,oH.of (d.fh _ _ h),by rw[r.length];exact hw,n _ B z g (.tup h r)⟩)
  .exact .inr (.inl ⟨_,_,rfl,oH.of (d.fh _ _ h),by rw[r.length];exact hw,λp f=>n (.ref p) _ _ (g.trans (.new d.fh f)) (.tup ig ((r.cut l u).mono (Gr.new d.fh f).ff))⟩)
 |_=>exact k.elim
end
section
variable {x:Str}{k:Nat}{Fn:List T->M T}{Ff:List T->M ba}
def jL(h:nF X.prog X.w X.K X.mg X.base x j (yc K Fn))(hr:jZ k X.A)(g:DY K E X (e::es) tr fr)(m:j<=k:=by decide)(i:Gl X x:=by rfl)
  (d:(x==("__debug__" : Str))=false:=by decide) (l:starEach (e::es) X.env=(false,eval e X.env)::starEach es X.env:=by rfl) (f:(backTo pos (starEach es X.env)).any (·.1)=false:=by rfl) :
  Pm K E X (.Call (.Name x p) (e::es) [] pos) (By (yc K Fn) [] E0 tr) (gS fr Fn):=⟨EA (h.mono m) hr g.pa i d l f,LO g.ma⟩
def rW(h:nF X.prog X.w X.K X.mg X.base x j (Dw K Ff))(hr:jZ k X.A)(g:DY K E X (e::es) tr fr)(m:j<=k:=by decide)(i:Gl X x:=by rfl)
  (d:(x==("__debug__" : Str))=false:=by decide) (l:starEach (e::es) X.env=(false,eval e X.env)::starEach es X.env:=by rfl) (f:(backTo pos (starEach es X.env)).any (·.1)=false:=by rfl) :
  Jw K E X (.Call (.Name x p) (e::es) [] pos) (By (Dw K Ff) [] E0 tr) (jO fr Ff):=⟨EA (h.mono m) hr g.pa i d l f,LC g.ma⟩
end
def Ut(K:W.Frag)(t:TE):TI:=λd H R=>K0 K t d H R\/TB K t d H R
@[simp] noncomputable def jh(fa:Pe->M T):Pe->M ba:=λd=>(fa d).bind λx=>match x with
 |.lst ts=>.ok ts
 |.scr ns=>.ok (ns.map T.int)
 |.tup ts=>.ok ts
 |_=>.bad
def SW(g:ME K E ta fa):MI K E (Ut K ta) (jh fa):=λF H f d R s V q=>by
 unfold jh at q;cases e:fa d with
 |bad=>rw[e]at q;exact q.elim
 |er C n=>rw[e]at q;exact .inl (CH g F H f d R s V (by unfold VS;rw[e];exact q))
 |ok x=>
  rw[e]at q;cases x with
  |lst ts=>exact .inl (CH g F H f d R s V (by unfold VS;rw[e];exact q))
  |scr ns=>exact .inl (CH g F H f d R s V (by unfold VS;rw[e];exact q))
  |tup ts=>exact .inr (RZ g F H f d R s V (by unfold WE;rw[e];exact q))
  |_=>exact q.elim
def iQ(d:Pm K E X a ta fa)(i:X.K=K:=by rfl):NK K E X tg a (Ut K ta) (jh fa):=by
 subst i;refine⟨λf s g H R I h=>?_,SW d.me⟩;rcases h with h|h
 .exact Qa d.pe f s g H R I h
 .exact RB d.pe f s g H R I h
def QN(K:W.Frag)(ta:TA):TI:=λf H R=>∃d g,Sm K d g ta f H R
@[simp] noncomputable def seqT:T->M ba
 |.lst ts=>.ok ts
 |.scr ns=>.ok (ns.map T.int)
 |.tup ts=>.ok ts
 |_=>.bad
@[simp] noncomputable def m7(fa:Pe->M ba):Pe->M ba:=λh=>(fa h).bind λg=>match g with
 |[x,y]=>(seqT x).bind λf=>(seqT y).bind λd=>.ok (C3 f d)
 |_=>.bad
noncomputable def wm:T->Bool
 |.tup _=>true
 |_=>false
def Fh x:seqT x=seqB (wm x) x:=by cases x<;>rfl
def Od(h:MA K E tr fr):MI K E (QN K tr) (m7 fr):=λF H f d R s V q=>by
 unfold m7 at q;cases e:fr d with
 |bad=>rw[e]at q;exact q.elim
 |er C n=>rw[e]at q;exact⟨true,true,MV h F H f d R s V (by unfold Rq;rw[e];exact q)⟩
 |ok xs=>
  rw[e]at q;match xs,e,q with
  |[],_,q=>exact q.elim
  |[_],_,q=>exact q.elim
  |[x,y],e,q=>refine⟨wm x,wm y,MV h F H f d R s V ?_⟩;unfold Rq;rw[e];have g:((seqT x).bind λj=>(seqT y).bind λi=>M.ok (C3 j i)).res (kI K F H R) (kE E F H):=q;rw[Fh x,Fh y]at g;exact g
  |_::_::_::_,_,q=>exact q.elim
def mB{x1}(g:X.mg "zip" = none)(f:DY K E X [a,b] tr fr)(m:X.K=K:=by rfl)(j:Gl X "zip" :=by rfl)(i:starEach [a,b] X.env=[(false,eval a X.env),(false,eval b X.env)]:=by rfl)
  (d:starEach [b] X.env=[(false,eval b X.env)]:=by rfl):NK K E X (.Tuple elts x1 tpos) (.Call (.Name "zip" p) [a,b] [] pos) (QN K tr) (m7 fr):=by
 subst m;refine⟨λk s l H R I h=>?_,Od f.ma⟩;obtain⟨n,q,h⟩:=h;exact Rm j g f.pa i d k s l H R I h
def lI(f:X.mg "range" = none)(d:DY K E X [a] tr fr)(h:Gl X "range" :=by rfl)(g:starEach [a] X.env=[(false,eval a X.env)]:=by rfl):xw K E X tg (.Call (.Name "range" p) [a] [] pos) (K8 tr) (lE fr):=⟨IK h f d.pa g,Qx d.ma⟩
def xw.pim(h:xw K E X tg it w f):NK K E X tg it w f:=⟨h.pi,h.mi.mi⟩
section
variable {x:Str}{g:TG}{gs:NJ}{m:T->Pe->Option Pe}{ms:List T->Pe->Option Pe}{mo:T->En->Option En}{mos:List T->En->Option En}{n:Nat}
def i8 i (h:X.N.Nodup) (f:IQ X.env.scope x:=by first|exact Or.inl rfl|exact Or.inr rfl) (j:X.N[i]? = some x:=by rfl) (d:X.fn x=true\/X.env.scope.names.lookup x=some .local:=by first|exact .inl rfl|exact .inr rfl|assumption):T2 K X (.Name x pos) (lN i) (jT i):=⟨HD h j f d,OZ⟩
def ja i (h:X.N.Nodup) (f:IQ X.env.scope x:=by first|exact Or.inl rfl|exact Or.inr rfl) (j:X.N[i]? = some x:=by rfl) (d:X.fn x=true\/X.env.scope.names.lookup x=some .local:=by first|exact .inl rfl|exact .inr rfl|assumption):T6 K X (.Name x pos) (lN i) (j6 i):=⟨HD h j f d,Nw⟩
def kj:Oj K X [] Im nv:=⟨Hf,Ph⟩
def mh:N1 K X [] Im kZ:=⟨Hf,Kt⟩
def iG(f:T2 K X e g m)(d:Oj K X es gs ms)(h:(assignEach (e::es) X.env).map (·.2)=assign e X.env::(assignEach es X.env).map (·.2):=by rfl):Oj K X (e::es) (zL g gs) (je m ms):=⟨DE f.pg d.pg h,J0 f.mg d.mg⟩
def jf(f:T6 K X e g mo)(d:N1 K X es gs mos)(h:(assignEach (e::es) X.env).map (·.2)=assign e X.env::(assignEach es X.env).map (·.2):=by rfl):N1 K X (e::es) (zL g gs) (iI mo mos):=⟨DE f.pg d.pg h,IM f.mg d.mg⟩
def mV n (i:X.calm=true) (h:Oj K X es gs ms) (j:X.K=K:=by rfl) (f:(assignEach es X.env).length=n:=by rfl) (d:(assignEach es X.env).findIdx? (·.1)=none:=by rfl):T2 K X (.Tuple es k pos) (IY K n gs) (nM n ms):=by subst j;exact⟨JT i h.pg f d,RT h.mg⟩
def pL n (i:X.calm=true) (h:N1 K X es gs mos) (j:X.K=K:=by rfl) (f:(assignEach es X.env).length=n:=by rfl) (d:(assignEach es X.env).findIdx? (·.1)=none:=by rfl):T6 K X (.Tuple es k pos) (IY K n gs) (kX n mos):=by subst j;exact⟨JT i h.pg f d,Pz h.mg⟩
end
section
variable {elt iter:Expr}{ifs:List Expr}{scope:Scope}{N:List Str}{ix:List (Option Nat)}{wi:TI}{g:TG}{tt:TT}{fi:Pe->M ba}{m:T->Pe->Option Pe}{ft:Pe->M Bool}
def iZ:MW K E X [] RV (λ_=>.ok true):=⟨NR,Ss⟩
def lL(h:ET K E X c t f):MW K E X [c] t f:=⟨PD h.pt,h.mt⟩
@[simp] noncomputable def kh(ix:List (Option Nat))(fi:Pe->M ba)(m:T->Pe->Option Pe)(ft:Pe->M Bool)(fe:Pe->M T):Pe->M ba:=λf=>(fi f).bind λd=>(if d.length<sizeLine then sM (vy m ft fe (qj ix f)) d else .bad).noEr
def U5(s:X.calm=true)(k:NK K E X tg iter wi fi)(L:DM X scope N ix)(j:rS ix g)
  (f:∀C d H h i,T2 K (oS X N scope C d H h i) tg g m/\MW K NI (oS X N scope C d H h i) ifs tt ft/\Pm K NI (oS X N scope C d H h i) elt te fe)
  (l:∀x,foldedSetIterable iter X.env x=pure x:=by intro _;rfl):Jw K E X (.ListComp elt [⟨tg,iter,ifs,0⟩] scope pos) (Lg ix wi g tt te) (kh ix fi m ft fe):=by
 obtain⟨n,r,q⟩:=f 0 X.s₀ X.H₀ [] [];exact⟨Ul s k.pi L j (λC d H h i=>⟨(f C d H h i).1.pg,(f C d H h i).2.1.pf,(f C d H h i).2.2.pe⟩) l,QQ k.mi n.mg r.mt q.me⟩
end
end
end L3
namespace L3
open PySem L2 PySem.Spec PyProof.Rows
section
variable {K:W.Frag}{E:XK}{X:Cx}{a b c e o tg it:Expr}{es:List Expr}{ta tb tc te to:TE}{fa fb fc fe fo:Pe->M T}{tr:TA}{fr:Pe->M ba}{pos pos' p p2 apos:Pos}{st:Stmt}{oW:List Stmt}{t u:TS}{g g':En->O}{ff:Pe->M ba}{x:Str}
def iw:uL K E X [] NA iN:=⟨OH,PF⟩
def gU(h:xy K E X st t g):uL K E X [st] t g:=⟨G8 h.ps,h.ms⟩
def gL(h:xy K E X st t g)(d:uL K E X oW u g'):uL K E X (st::oW) (Of t u) (gZ g g'):=⟨EJ h.ps d.ps,SE h.ms d.ms⟩
def yz:xy K E X st Fu (λ_=>.bad):=⟨K3,MJ⟩
def jb(h:Pm K E X e te fe):xy K E X (.Return (some e) pos) (CC te) (iU fe):=⟨CK h.pe,S5 h.me⟩
def nH(h:Jw K E X e te ff):xy K E X (.Return (some e) pos) (CC te) (qg ff):=⟨CK h.pe,Qe h.mf⟩
def sZ i (h:PE X (.Name x p) (oQ i)):xy K E X (.Return (some (.Name x p)) pos) (CC (oQ i)) (qh i):=⟨CK h,HY⟩
def iR{tc:TT}{fc:Pe->M Bool}(d:ET K E X c tc fc)(h:uL K E X A t g)(f:uL K E X B u g'):xy K E X (.If c A B pos) (SM tc t u) (lS fc g g'):=⟨UR d.pt h.ps f.ps,Ug d.mt h.ms f.ms⟩
def zJ{tc:TT}{fc:Pe->M Bool}(d:En->Nat)(i:PassesOwn (model X.prog X.w) X.A X.env X.xe)(f:ET K E X c tc fc)(h:uL K E X A t g):xy K E X (.While c A [] pos) (EZ tc t) (λρ=>mX fc g (d ρ) ρ):=⟨Kg i f.pt h.ps,Ld d f.mt h.ms⟩
section
variable {w:TI}{fi:Pe->M ba}{gt:TG}{m:T->En->Option En}{A:List Stmt}
def jN(i:PassesOwn (model X.prog X.w) X.A X.env X.xe)(j:X.calm=true)(f:NK K E X tg it w fi)(d:T6 K X tg gt m)(hb:uL K E X A t g)(h:∀x,foldedSetIterable it X.env x=pure x:=by intro _;rfl):xy K E X (.For tg it A [] pos) (Kr w gt t) (nR fi m g):=⟨Ng i j f.pi d.pg hb.ps h,Tt f.mi d.mg hb.ms⟩
def qI(i:PassesOwn (model X.prog X.w) X.A X.env X.xe)(j:X.calm=true)(f:xw K E X tg it w fi)(d:T6 K X tg gt m)(hb:uL K E X A t g)(h:∀x,foldedSetIterable it X.env x=pure x:=by intro _;rfl):xy K E X (.For tg it A [] pos) (Kr w gt t) (tJ fi m g):=⟨Ng i j f.pi d.pg hb.ps h,Ql f.mi d.mg hb.ms⟩
end
def Rh i (A:X.N.Nodup) (z:IQ X.env.scope x)
  (D:X.calm=true) (n:NK K E X tg iter wi fi) (L:DM X scope N ix) (k:rS ix gt)
  (f:∀C d H j h,T2 K (oS X N scope C d H j h) tg gt m/\MW K NI (oS X N scope C d H j h) ifs tt ft/\Pm K NI (oS X N scope C d H j h) elt te fe)
  (r:MF K E (Lg ix wi gt tt te) (kh ix fi m ft fe)->MS K E (qA (Lg ix wi gt tt te) (lN i)) gm)
  (B:X.N[i]? = some x:=by rfl) (v:X.fn x=true\/X.env.scope.names.lookup x=some .local:=by first|exact .inl rfl|exact .inr rfl)
  (l:swapsWith (.ListComp elt [⟨tg,iter,ifs,0⟩] scope pos) (some (.Name x py)) spos.line X.env=pure true:=by rfl)
  (y:∀x,foldedSetIterable iter X.env x=pure x:=by intro _;rfl):xy K E X (.Assign [.Name x py] (.ListComp elt [⟨tg,iter,ifs,0⟩] scope pos) spos) (qA (Lg ix wi gt tt te) (lN i)) gm:=by
 obtain⟨s,w,q⟩:=f 0 X.s₀ X.H₀ [] [];exact⟨Kq A B z D n.pi L k (λC d H j h=>⟨(f C d H j h).1.pg,(f C d H j h).2.1.pf,(f C d H j h).2.2.pe⟩) v l y,r (QQ n.mi s.mg w.mt q.me)⟩
def iY i (k:X.N.Nodup) (h:Pm K E X e te fe) (j:IQ X.env.scope x:=by first|exact Or.inl rfl|exact Or.inr rfl) (l:X.N[i]? = some x:=by rfl) (d:swapsWith e (some (.Name x pos')) pos.line X.env=pure false:=by rfl) (f:X.fn x=true\/X.env.scope.names.lookup x=some .local:=by first|exact .inl rfl|exact .inr rfl|assumption) :
  xy K E X (.Assign [.Name x pos'] e pos) (qA te (lN i)) (setO i (ju fe)):=⟨BX k l j h.pe d f,GP h.me⟩
def yR i (k:X.N.Nodup) (h:Pm K E X e te fe) (j:IQ X.env.scope x:=by first|exact Or.inl rfl|exact Or.inr rfl) (l:X.N[i]? = some x:=by rfl) (d:swapsWith e (some (.Name x pos')) pos.line X.env=pure false:=by rfl) (f:X.fn x=true\/X.env.scope.names.lookup x=some .local:=by first|exact .inl rfl|exact .inr rfl|assumption) :
  xy K E X (.Assign [.Name x pos'] e pos) (qA te (lN i)) (setO i (pS fe)):=⟨BX k l j h.pe d f,PZ h.me⟩
def qT i (k:X.N.Nodup) (h:Jw K E X e te ff) (j:IQ X.env.scope x:=by first|exact Or.inl rfl|exact Or.inr rfl) (l:X.N[i]? = some x:=by rfl) (d:swapsWith e (some (.Name x pos')) pos.line X.env=pure false:=by rfl) (f:X.fn x=true\/X.env.scope.names.lookup x=some .local:=by first|exact .inl rfl|exact .inr rfl|assumption) :
  xy K E X (.Assign [.Name x pos'] e pos) (qA te (lN i)) (pX i (rL ff)):=⟨BX k l j h.pe d f,GZ h.mf⟩
def oG(h:MF K E te ff):MS K E (qA te (lN i)) (setO i (ju λρ=>(ff ρ).bind λts=>.ok (.lst ts))):=GP h.me
@[simp] noncomputable def NV(i j:Nat)(fr:Pe->M ba):En->O:=λd=>.of (fr (nQ d)) λf=>match f with
 |[x,y]=>.nx ((d.set i (some (.p x))).set j (some (.p y)))
 |_=>.bad
def Rf(h:MA K E tr fr):MS K E (Ry i j tr) (NV i j fr):=λw B F H k m D r q=>by
 refine h F H k (nQ m) _ r.gr.fh r.vars ((O.res_of q).mono (λA z y l v f d=>?_) λC n z=>z.go r.gr);have s:=r.grow f;cases d with
 |nil=>exact z.elim
 |cons h1 d=>
  cases d with
  |nil=>exact z.elim
  |cons h2 d=>
   cases d with
   |nil=>exact⟨_,_,rfl,z l v _ f.ff ((s.setP h1).setP h2)⟩
   |cons h3 d=>exact z.elim
def P8{kt k2 pt2}(r:X.calm=true)(m:X.N.Nodup)(n:X.N[i]? = some x)(k:X.N[j]? = some y)(d:i≠j)
  (l:X.env.scope.names.lookup x=some .local) (q:X.env.scope.names.lookup y=some .local) (f:DY K E X [a,b] tr fr)
  (hw:swappedStores [.Tuple [.Name x px,.Name y py] kt pt] (.Tuple [a,b] k2 pt2) X.env=pure (some [x,y]))
  (h:swapsWithSole [.Tuple [.Name x px,.Name y py] kt pt] (.Tuple [a,b] k2 pt2) pos.line X.env=pure false:=by rfl) :
  xy K E X (.Assign [.Tuple [.Name x px,.Name y py] kt pt] (.Tuple [a,b] k2 pt2) pos) (Ry i j tr) (NV i j fr):=⟨Tr r m n k d l q f.pa hw h,Rf f.ma⟩
def Gw(h:H l=some (.lst xs)):T7 K "list" (.ref l) H:=.inl ⟨rfl,_,mN.of h⟩
def pF i (hv:PE X (.Name x p) (oQ i)) (n:Pm K E X e te fe) (m:starEach [e] X.env=(false,eval e X.env)::starEach [] X.env:=by rfl) (q:X.K=K:=by rfl)
  (d:attributeBase (.Name x p) "append" X.env (eval (.Name x p) X.env)=eval (.Name x p) X.env:=by rfl)
  (j:((backTo pos (starEach [e] X.env)).all (λx=>!x.1)&&(backToKw pos (keywordEach [] X.env)).all (λx=>x.1.isSome)&&decide (([e]:List Expr).length+([]:List Keyword).length+(if ([]:List Keyword).isEmpty then 0 else 1)<30))=true:=by rfl)
  (f:(apos.endLine==pos.line)=true:=by rfl) (hplain:(backTo pos (starEach [] X.env)).any (·.1)=false:=by rfl) (k:swapsWith (.Call (.Attribute (.Name x p) "append" apos) [e] [] pos) none pos'.line X.env=pure false:=by rfl) :
  xy K E X (.Expr (.Call (.Attribute (.Name x p) "append" apos) [e] [] pos) pos') (vR (Js K i te)) (rj i (ju fe)):=by
 subst q;exact⟨yF (Lo PySem.F.plainAttrs_list PySem.F.slot_list_append PySem.F.type_list_append wz hv (r9 n.pe xh m) d j f m hplain) k,N3 (λl r H h=>Gw h) n.me⟩
def Nv i (hv:PE X (.Name x p) (oQ i)) (n:Pm K E X e te fe) (m:starEach [e] X.env=(false,eval e X.env)::starEach [] X.env:=by rfl) (q:X.K=K:=by rfl)
  (d:attributeBase (.Name x p) "append" X.env (eval (.Name x p) X.env)=eval (.Name x p) X.env:=by rfl)
  (j:((backTo pos (starEach [e] X.env)).all (λx=>!x.1)&&(backToKw pos (keywordEach [] X.env)).all (λx=>x.1.isSome)&&decide (([e]:List Expr).length+([]:List Keyword).length+(if ([]:List Keyword).isEmpty then 0 else 1)<30))=true:=by rfl)
  (f:(apos.endLine==pos.line)=true:=by rfl) (hplain:(backTo pos (starEach [] X.env)).any (·.1)=false:=by rfl) (k:swapsWith (.Call (.Attribute (.Name x p) "append" apos) [e] [] pos) none pos'.line X.env=pure false:=by rfl) :
  xy K E X (.Expr (.Call (.Attribute (.Name x p) "append" apos) [e] [] pos) pos') (vR (Js K i te)) (rj i (pS fe)):=by
 subst q;exact⟨yF (Lo PySem.F.plainAttrs_list PySem.F.slot_list_append PySem.F.type_list_append wz hv (r9 n.pe xh m) d j f m hplain) k,OO (λl r H h=>Gw h) n.me⟩
def yp i (hv:PE X (.Name x p) (oQ i)) (d:Pm K E X b tb fb) (h:Pm K E X e te fe)
  (j:∀v,assign (.Subscript (.Name x p) b p2) X.env v=(do
   let ov <-holding [v] (eval (.Name x p) X.env)
   let iv <-holding [v,ov] (eval b X.env)
   standAt p2
   holding [v,ov,iv] (setItem ov iv v)
   release [v,ov,iv] []):=by intro _;rfl)
  (f:swapsWithSole [.Subscript (.Name x p) b p2] e pos.line X.env=pure false:=by rfl) (hw:swappedStores [.Subscript (.Name x p) b p2] e X.env=pure none:=by rfl)
  (k:(assignEach [.Subscript (.Name x p) b p2] X.env).map (·.2)=[assign (.Subscript (.Name x p) b p2) X.env]:=by rfl) :
  xy K E X (.Assign [.Subscript (.Name x p) b p2] e pos) (qA te (S8 (oQ i) tb G6)) (zb i (pS fb) (pS fe)):=⟨JZ h.pe (Sq hv d.pe Nk j) f hw k,Rg h.me d.me⟩
def Lz(h:Pm K E X e te fe)(d:swapsWith e none pos.line X.env=pure false:=by rfl):xy K E X (.Expr e pos) (vR te) (yJ (ju fe)):=⟨yF h.pe d,KC h.me⟩
end
section
variable {P:Program}{w:World}{K:W.Frag}{mg:Str->Option Value}{base:Heap}{x:Str}{st:Stmt}{N ps:List Str}{k:Nat}{g:En->O}
def VZ(D:gX K mg x st)(S:kq N ps (hU st))
  (hb:∀(kV c j:Value) (d:Option Addr) (b l:Value) (us:List Value),us.length=ps.length->bindArgs (W.fnOf x x (kW st) (jv st) (hU st) .none kV c j d b l) ⟨us,[]⟩=pure (ps.zip us))
  (e:∀(f:Addr) (b:Value) (A:Around) (a:List Env) (s:Shared) (H:Hp) (E:XK),jZ k (A.deeper (envOfC x (hU st) s.heap.objs.size f b))->∃t,uL K E (sQ Av P w K mg base N x (hU st) f b A a s H E).nox (jv st) t g) :
  nF P w K mg base x (k+1) (yc K (lW ps.length N.length g)):=
 CQ D S hb (λi H Q E h=>GB h) λf b A a s H i Q E hr h=>let ⟨t,hp⟩:=e f b A a s H E hr;⟨t,hp.ps,B9 hp.ms h⟩
def Ww(D:gX K mg x st)(S:kq N ps (hU st))
  (hb:∀(kV c j:Value) (d:Option Addr) (b l:Value) (us:List Value),us.length=ps.length->bindArgs (W.fnOf x x (kW st) (jv st) (hU st) .none kV c j d b l) ⟨us,[]⟩=pure (ps.zip us))
  (e:∀(f:Addr) (b:Value) (A:Around) (a:List Env) (s:Shared) (H:Hp) (E:XK),jZ k (A.deeper (envOfC x (hU st) s.heap.objs.size f b))->∃t,uL K E (sQ Av P w K mg base N x (hU st) f b A a s H E).nox (jv st) t g) :
  nF P w K mg base x (k+1) (Dw K (yj ps.length N.length g)):=
 CQ D S hb (λi H Q E h=>HJ h) λf b A a s H i Q E hr h=>let ⟨t,hp⟩:=e f b A a s H E hr;⟨t,hp.ps,Dy hp.ms h⟩
end
end L3
namespace L3
open PySem L2 PySem.Spec PyProof.Rows
section
variable {K:W.Frag}{E:XK}{X:Cx}{a b c e o tg it:Expr}{es:List Expr}{ta tb tc te to:TE}{fa fb fc fe fo:Pe->M T}{tr:TA}{fr:Pe->M ba}{pos p p2 apos:Pos}
@[simp] noncomputable def jy(f:Pe->M ba):Pe->M T:=λg=>(f g).bind λd=>.ok (.lst d)
def jc(f:X.K=K:=by rfl):lX X (.builtin "len") (λd H Q=>∃x n,d=[x]/\Rr K x H n/\Q (.int n) H):=f▸Mh
def xu(g:X.calm=true)(h:X.K=K:=by rfl):lX X (.builtin "sum") (λf H Q=>∃(p:Addr) (d:LI),f=[.ref p]/\mN K H p (d.map V.int)/\Q (.int d.sum) H):=h▸MN g
def pk(f:X.calm=true)(g:X.K=K:=by rfl):lX X (.builtin "all") (λd H Q=>∃(p:Addr) (bs:List Bool),d=[.ref p]/\mN K H p (bs.map V.bl)/\Q (.bl (bs.all id)) H):=g▸LZ f
def tW(f:X.calm=true)(g:X.K=K:=by rfl):lX X (.builtin "any") (λd H Q=>∃p vs bs,d=[.ref p]/\(mN K H p vs\/oH K H p vs)/\oF vs=some bs/\Q (.bl (bs.any id)) H):=g▸Ia f
def jt(g:X.K=K:=by rfl):lX X (.type "tuple") (λf H Q=>∃p d,f=[.ref p]/\((mN K H p d/\∀l,H l=none->Q (.ref l) (jY H l (.tup d)))\/(oH K H p d/\Q (.ref p) H))):=g▸AJ
def mY(g:X.K=K:=by rfl):lX X (.type "list") (λf H Q=>∃p d,f=[.ref p]/\(mN K H p d\/oH K H p d)/\∀l,H l=none->Q (.ref l) (jY H l (.lst d))):=g▸Dc
def Mu(d:X.K=K:=by rfl):rz X (compareOp .In) (Vg K false):=d▸IA
def Iw(d:X.K=K:=by rfl):rz X (compareOp .NotIn) (Vg K true):=d▸C8
def N9:T->Option Bool
 |.bl b=>some b
 |.int i=>some (i != 0)
 |_=>none
def uG:List T->Option (List Bool)
 |[]=>some []
 |v::vs=>(N9 v).bind λb=>(uG vs).bind λr=>some (b::r)
theorem BZ:∀{vs} {ts},iK K F vs ts->oF vs=uG ts
 |_,_,.nil=>rfl
 |v::vs,t::ts,.cons h r=>by
  have e:EC v=N9 t:=by cases h<;>rfl
  rw[oF,uG,BZ r,e]
@[simp] theorem Ga(d:LI):uG (d.map T.int)=some (d.map λn=>n != 0):=by
 induction d with
 |nil=>rfl
 |cons n d ih=>simp[uG,N9,ih]
@[simp] theorem Uc ns:uG (ns.map T.bl)=some ns:=by
 induction ns with
 |nil=>rfl
 |cons n ns ih=>simp[uG,N9,ih]
@[simp] noncomputable def v9(ts:List T):M T:=match uG ts with
 |some bs=>.ok (.bl (bs.any id))
 |none=>.bad
@[simp] noncomputable def xY:List T->M T
 |[.lst ts]=>v9 ts
 |[.tup ts]=>v9 ts
 |_=>.bad
def Kf ts:M.NoE (v9 ts):=λC n=>by unfold v9;split<;>intro z<;>cases z
def OV xs:M.NoE (xY xs):=λC n=>by unfold xY;split<;>first|exact Kf _ C n|(intro z;cases z)
def Ct:MC K (λf H Q=>∃p vs bs,f=[.ref p]/\(mN K H p vs\/oH K H p vs)/\oF vs=some bs/\Q (.bl (bs.any id)) H) xY:=⟨OV,λF H vs f Q s r q=>by
 cases r with
 |nil=>exact q.elim
 |cons h t=>
  cases t with
  |cons _ _=>cases h<;>exact q.elim
  |nil=>
   cases h with
   |lst h r=>
    rename_i a f g;have d:(v9 g).res (kV K F H Q) (λ_ _=>False):=q;unfold v9 at d;cases e:uG g with
    |none=>rw[e]at d;exact d.elim
    |some bs=>rw[e]at d;exact⟨a,f,bs,rfl,.inl (mN.of (s _ _ h)),by rw[BZ r];exact e,kV.now d s (.bl _)⟩
   |tup h r=>
    rename_i a f g;have d:(v9 g).res (kV K F H Q) (λ_ _=>False):=q;unfold v9 at d;cases e:uG g with
    |none=>rw[e]at d;exact d.elim
    |some bs=>rw[e]at d;exact⟨a,f,bs,rfl,.inr (oH.of (s _ _ h)),by rw[BZ r];exact e,kV.now d s (.bl _)⟩
   |_=>exact q.elim⟩
@[simp] noncomputable def Do(neg:Bool):T->T->M T
 |.bl a,.bl b=>.ok (.bl (if neg then !(a==b) else a==b))
 |_,_=>.bad
def Hu x y:M.NoE (Do neg x y):=λC n=>by unfold Do;split<;>intro z<;>cases z
def J5:MR K (λx y H Q=>∃a b,x=.bl a/\y=.bl b/\Q (.bl (a==b)) H) (Do false):=⟨Hu,λF H v w x y Q s d rb q=>by
 cases d with
 |bl a=>
  cases rb with
  |bl b=>exact⟨_,_,rfl,rfl,kV.now q s (.bl _)⟩
  |_=>exact q.elim
 |_=>exact q.elim⟩
def Bd:MR K (λx y H Q=>∃a b,x=.bl a/\y=.bl b/\Q (.bl (!(a==b))) H) (Do true):=⟨Hu,λF H v w x y Q s d rb q=>by
 cases d with
 |bl a=>
  cases rb with
  |bl b=>exact⟨_,_,rfl,rfl,kV.now q s (.bl _)⟩
  |_=>exact q.elim
 |_=>exact q.elim⟩
noncomputable def DP:T->T->M T
 |.tup a,.int k=>if EW k=true/\a.length*k.toNat<=sizeLine then .ok (.tup (List.replicate k.toNat a).flatten) else .bad
 |_,_=>.bad
def NF x y:M.NoE (DP x y):=λC n=>by unfold DP;split<;>first|(split<;>intro z<;>cases z)|(intro z;cases z)
def PY:MR K Mo DP:=⟨NF,λF H v w x y Q s j rb q=>by
 cases j with
 |tup h r=>
  cases rb with
  |int k=>
   rename_i a l f;have d:(if EW k=true/\f.length*k.toNat<=sizeLine then M.ok (T.tup (List.replicate k.toNat f).flatten) else M.bad).res (kV K F H Q) (λ_ _=>False):=q;by_cases g:EW k=true/\f.length*k.toNat<=sizeLine
   .rw[aQ g]at d;refine⟨a,k,l,rfl,rfl,s _ _ h,by have:=tV g.1;rw[UA]at this;rw[VQ];omega,by have:=tV g.1;rw[UA]at this;rw[VQ];omega,by rw[r.length];exact g.2,λz=>?_,λz p i=>?_⟩
    .have:(List.replicate k.toNat f).flatten=f:=by
      rcases z with z|z
      .subst z;cases r;simp
      .subst z;simp
     rw[this]at d;exact kV.now d s (.tup h r)
    .exact d (.ref p) _ _ (.new s i) (.tup ig ((r.rep k.toNat).mono (Gr.new s i).ff))
   .rw[aR g]at d;exact d.elim
  |_=>exact q.elim
 |_=>exact q.elim⟩
@[simp] noncomputable def KL(fa fb:Pe->M T):Pe->M T:=gW DP fa fb
def Oh(d:Pm K E X a ta fa)(hb:Pm K E X b tb fb):Pm K E X (.BinOp a .Mult b pos) (zv Mo ta tb) (KL fa fb):=zR Qt PY d hb
noncomputable def oN(d:List T):List T:=(d.zipIdx).map λp=>T.tup [.int (p.2:Int),p.1]
def Nh(K:W.Frag)(ta:TA):TI:=λd H R=>∃b,Na K b ta d H R
@[simp] noncomputable def sW(fa:Pe->M ba):Pe->M ba:=λg=>(fa g).bind λf=>match f with
 |[x]=>(seqT x).bind λd=>.ok (oN d)
 |_=>.bad
def PR{b:Bool}(j:∀H,iS F H->xZ K H b l xs)(h:iK K F xs ts):AA K (Wn K b l) (oN ts) F where
 go:=λi H s q=>by
  have f:i<ts.length:=by simpa[oN] using q
  have d:xs[i]? = some (xs[i]'(by rw[h.length];exact f)):=ag _;exact⟨xs,_,j H s,d⟩
 stop:=λH s=>⟨xs,j H s,by simp[oN,h.length]⟩
 yld:=λi t z H x A m k e y=>by
  obtain⟨p,v,rfl,u,rfl,d⟩:=y;obtain⟨n,r,w⟩:=h.at_ (d xs (j H (m.trans k)));have:t=.tup [.int i,n]:=by unfold oN at e;rw[av,List.getElem?_zipIdx,r]at e;simp at e;exact e.symm
  rw[this];have g:=Gr.new (o:=.tup [.int i,v]) k u;exact⟨_,g,.tup ig (.cons (.int _) (.cons ((w.mono m).mono g.ff) .nil))⟩
noncomputable def EX(b:Bool)(fa:Pe->M ba):Pe->M ba:=λg=>(fa g).bind λd=>match d with
 |[x]=>(seqB b x).bind λf=>.ok (oN f)
 |_=>.bad
def DL{b:Bool}(l:MA K E tr fr):MI K E (Na K b tr) (EX b fr):=λF H v z R s V q=>by
 refine l.run s V q λy w j u h m d=>?_;split at d
 .rename_i x;cases m with
  |cons a c=>
   cases c;cases f:seqB b x with
   |bad=>rw[f]at d;exact d.elim
   |er C n=>exact absurd f CI
   |ok ts=>rw[f]at d;obtain⟨i,r,rfl,g,k⟩:=Ck a f;exact⟨i,rfl,⟨r,g _ h.fh⟩,d _ j u h (PR g k)⟩
 .exact d.elim
def Ov(h:MA K E tr fr):MI K E (Nh K tr) (sW fr):=λF H f d R s V q=>by
 unfold sW at q;cases e:fr d with
 |bad=>rw[e]at q;exact q.elim
 |er C n=>rw[e]at q;exact⟨true,DL h F H f d R s V (by unfold EX;rw[e];exact q)⟩
 |ok xs=>
  rw[e]at q;match xs,e,q with
  |[],_,q=>exact q.elim
  |[x],e,q=>refine⟨wm x,DL h F H f d R s V ?_⟩;unfold EX;rw[e];have g:((seqT x).bind λi=>M.ok (oN i)).res (kI K F H R) (kE E F H):=q;rw[Fh x]at g;exact g
  |_::_::_,_,q=>exact q.elim
def CG{x1}(f:X.mg "enumerate" = none)(d:DY K E X [a] tr fr)(l:X.K=K:=by rfl)(i:Gl X "enumerate" :=by rfl)(g:starEach [a] X.env=[(false,eval a X.env)]:=by rfl) :
  NK K E X (.Tuple elts x1 tpos) (.Call (.Name "enumerate" p) [a] [] pos) (Nh K tr) (sW fr):=by
 subst l;refine⟨λj s k H R I h=>?_,Ov d.ma⟩;obtain⟨b,h⟩:=h;exact J7 i f d.pa g j s k H R I h
end
structure Bs(mg:Str->Option Value):Prop where
 abs:mg "abs" = none
 isinstance:mg "isinstance" = none
 int:mg "int" = none
 bool:mg "bool" = none
 len:mg "len" = none
 range:mg "range" = none
 tuple:mg "tuple" = none
 list:mg "list" = none
 str:mg "str" = none
 all:mg "all" = none
 any:mg "any" = none
 sum:mg "sum" = none
 zip:mg "zip" = none
 max:mg "max" = none
 min:mg "min" = none
 enumerate:mg "enumerate" = none
 reversed:mg "reversed" = none
 set:mg "set" = none
 dict:mg "dict" = none
 sorted:mg "sorted" = none
def mQ:bootBuiltins "list" = some (.type "list"):=by decide +kernel
def R3:bootBuiltins "max" = some (.builtin "max"):=by decide +kernel
def Tw:bootBuiltins "min" = some (.builtin "min"):=by decide +kernel
end L3
namespace L3
open PySem L2
section
variable {α:Type}
theorem A8 enc f:∀(l:List α),(∀a∈l,k (enc a)=.ok (some (f a)))->sM k (l.map enc)=.ok (l.map f)
 |[],_=>rfl
 |a::l,h=>by rw[bI,sM,h a (by simp),M.bind_ok,A8 enc f l λb hb=>h b (by simp[hb])];rfl
theorem wa enc f p:∀(l:List α),(∀a∈l,k (enc a)=.ok (if p a then some (f a) else none))->sM k (l.map enc)=.ok ((l.filter p).map f)
 |[],_=>rfl
 |a::l,h=>by
  rw[bI,sM,h a (by simp),M.bind_ok,wa enc f p l λb hb=>h b (by simp[hb])];by_cases c:p a=true
  .simp[c]
  .simp[c]
theorem jP enc (P:Nat->En->Prop):∀(l:List α) (k:Nat) (ρ:En),P k ρ->
  (∀i a ρ,l[i]? = some a->P (k+i) ρ->∃d c,m (enc a) ρ=some d/\(g d=.nx c\/g d=.ct c)/\P (k+i+1) c)->∃ρ',jU m g (l.map enc) ρ=.nx ρ'/\P (k+l.length) ρ'
 |[],k,ρ,h,_=>⟨ρ,rfl,h⟩
 |a::l,k,ρ,h,st=>by
  obtain⟨d,c,j,f,n⟩:=st 0 a ρ rfl h;obtain⟨ρ',e,o⟩:=jP enc P l (k+1) c n λi b ρ q p=>by have:=st (i+1) b ρ (by simpa using q) (by rw[show k+(i+1)=k+1+i by omega];exact p);rw[show k+1+i+1=k+(i+1)+1 by omega];exact this
  refine⟨ρ',?_,by rw[ay,show k+(l.length+1)=k+1+l.length by omega];exact o⟩;rw[bI,jU,j];rcases f with f|f<;>(dsimp only;rw[f];exact e)
theorem ug enc (P:En->Prop):∀(l:List α) (ρ:En),P ρ->
  (∀a∈l,∀ρ,P ρ->∃d c,m (enc a) ρ=some d/\(g d=.nx c\/g d=.ct c)/\P c)->∃ρ',jU m g (l.map enc) ρ=.nx ρ'/\P ρ'
 |[],ρ,h,_=>⟨ρ,rfl,h⟩
 |a::l,ρ,h,st=>by obtain⟨d,c,i,f,j⟩:=st a (by simp) ρ h;obtain⟨ρ',e,k⟩:=ug enc P l c j λb o ρ n=>st b (by simp[o]) ρ n;refine⟨ρ',?_,k⟩;rw[bI,jU,i];rcases f with f|f<;>(dsimp only;rw[f];exact e)
theorem nZ(P:En->Prop)(d:En->Nat)(R:En->Prop)(st:∀ρ,P ρ->(c (vw ρ)=.ok false/\R ρ)\/(c (vw ρ)=.ok true/\∃a,(g ρ=.nx a\/g ρ=.ct a)/\P a/\d a<d ρ)) :
  ∀n ρ,P ρ->d ρ<n->∃ρ',mX c g n ρ=.nx ρ'/\R ρ'
 |0,ρ,_,h=>absurd h (dg _)
 |n+1,ρ,hP,hn=>by
  rcases st ρ hP with⟨e,r⟩|⟨e,a,b,f,j⟩
  .exact⟨ρ,by rw[mX,e];rfl,r⟩
  .obtain⟨ρ',i,r⟩:=nZ P d R st n a f (by omega);refine⟨ρ',?_,r⟩;rw[mX,e,O.of_ok,aQ rfl];rcases b with b|b<;>(rw[b];exact i)
end
def yB{o:Type}(l:List o) enc f (i:fi ρ=.ok (l.map enc)) (d:l.length<sizeLine)
  (e:∀a∈l,∃b,m (enc a) (qj ix ρ)=some b/\ft b=.ok true/\fe b=.ok (f a)):kh ix fi m ft fe ρ=.ok (l.map f):=by
 have h:=A8 (k:=vy m ft fe (qj ix ρ)) enc f l λa n=>by obtain⟨b,c,j,g⟩:=e a n;unfold vy;rw[c];dsimp only;rw[j,M.bind_ok,aQ rfl,g];rfl
 unfold kh;rw[i,M.bind_ok,aw,aQ d,h];rfl
theorem Fm{q:Type}(l:List q) enc f p (j:fi ρ=.ok (l.map enc)) (e:l.length<sizeLine)
  (g:∀a∈l,∃b,m (enc a) (qj ix ρ)=some b/\ft b=.ok (p a)/\(p a=true->fe b=.ok (f a))):kh ix fi m ft fe ρ=.ok ((l.filter p).map f):=by
 have h:=wa (k:=vy m ft fe (qj ix ρ)) enc f p l λa o=>by
  obtain⟨b,c,n,i⟩:=g a o;unfold vy;rw[c];dsimp only;rw[n,M.bind_ok];cases d:p a with
  |true=>rw[aQ rfl,aQ rfl,i d];rfl
  |false=>rw[aR aH,aR aH]
 unfold kh;rw[j,M.bind_ok,aw,aQ e,h];rfl
def jS{g:Type}(l:List g) enc f (e:fi ρ=.ok (l.map enc)) (c:l.length<sizeLine)
  (d:∀a∈l,∃b,m (enc a) (qj ix ρ)=some b/\ft b=.ok true/\fe b=.ok (f a)) (hr:l.map f=ts):kh ix fi m ft fe ρ=.ok ts:=by rw[<-hr];exact yB l enc f e c d
def nO{g:Type}(l:List g) enc f p (e:fi ρ=.ok (l.map enc)) (c:l.length<sizeLine)
  (d:∀a∈l,∃b,m (enc a) (qj ix ρ)=some b/\ft b=.ok (p a)/\(p a=true->fe b=.ok (f a))) (hr:(l.filter p).map f=ts):kh ix fi m ft fe ρ=.ok ts:=by rw[<-hr];exact Fm l enc f p e c d
def U6 lo n:CV lo n=(List.range n).map λ(i:Nat)=>T.int (lo+(i:Int)):=rfl
noncomputable def tI(a:LI):T:=.tup (a.map T.int)
def tL(a:LI):T:=.lst (a.map T.int)
def fr(p:Int×Int):T:=.tup [.int p.1,.int p.2]
noncomputable def tS(s:List (Int×Int)):T:=.tup (s.map fr)
def FG(l:List α)(i:Int)(b:0<=i)(d:i<l.length):∃a,uV l i=some a/\a∈l:=by
 unfold uV Au;rw[aQ b,aQ d];have c:i.toNat<l.length:=by omega
 exact⟨l[i.toNat],by simp[c],aV _⟩
def iJ(h:PySem.IntMulOk i j):jE (.int i) (.int j)=.ok (.int (i*j)):=by simp[jE,l8,h]
def mL(h:j≠0)(a:Builtin.divisionGoesByPylong i j=false):pD (.int i) (.int j)=.ok (.int (i.fdiv j)):=by simp[pD,l8,h,a]
def t7(h:j≠0):xo (.int i) (.int j)=.ok (.int (i.fmod j)):=by simp[xo,l8,h]
@[simp] theorem jw i j:jF (.int i) (.int j)=.ok (.int (i+j)):=rfl
@[simp] theorem oq i j:vf (.int i) (.int j)=.ok (.int (i-j)):=rfl
@[simp] theorem rK i j:EU (.int i) (.int j)=.ok (.bl (decide (i<j))):=rfl
@[simp] theorem CY i j:Mw (.int i) (.int j)=.ok (.bl (decide (i<=j))):=rfl
@[simp] theorem uh i j:BY (.int i) (.int j)=.ok (.bl (decide (j<i))):=rfl
@[simp] theorem tZ i j:Q6 (.int i) (.int j)=.ok (.bl (decide (j<=i))):=rfl
@[simp] theorem jj i j:iy false (.int i) (.int j)=.ok (.bl (i==j)):=by simp[iy,vm,tX]
@[simp] theorem lq i j:iy true (.int i) (.int j)=.ok (.bl (!(i==j))):=by simp[iy,vm,tX]
def qN(h:i.natAbs<2 ^ 64):PySem.IntMulOk i j:=IntMulOk.of_left (PyProof.Rows.intBits_le h)
def rA(h:j.natAbs<2 ^ 64):PySem.IntMulOk i j:=PySem.IntMulOk.of_right (PyProof.Rows.intBits_le h)
def Bn(n:Nat)(x:Int):Prop:=x.natAbs<2 ^ n
def Bn.mono(h:Bn m x)(a:m<=n):Bn n x:=aE h (dh (by decide) a)
def Bn.mul(h:Bn m x)(a:Bn n y):Bn (m+n) (x*y):=by unfold Bn at *;rw[aY,Nat.pow_add];exact Nat.mul_lt_mul'' h a
def Bn.add(h:Bn m x)(c:Bn n y):Bn (max m n+1) (x+y):=by have a:Bn (max m n) x:=h.mono (du _ _);have b:Bn (max m n) y:=c.mono (dw _ _);unfold Bn at *;rw[dy];have:=dz x y;omega
def Bn.neg(h:Bn m x):Bn m (-x):=by unfold Bn at *;rw[dA];exact h
def Bn.sub(h:Bn m x)(a:Bn n y):Bn (max m n+1) (x-y):=by rw[Int.sub_eq_add_neg];exact h.add a.neg
def Bn.ok(h:Bn m x)(a:Bn n y)(b:m<=2 ^ 20)(c:n<=2 ^ 20):PySem.IntMulOk x y:=IntMulOk.of_bits (aN (PyProof.Rows.intBits_le h) b) (aN (PyProof.Rows.intBits_le a) c)
def Bn.noPy(h:Bn n y)(a:n<=8000):Builtin.divisionGoesByPylong x y=false:=Cu.noPy (PyProof.Rows.intBits_le h) a
section
variable {a b g:En->O}{ρ ρ':En}{r:O}{fc:Pe->M Bool}{f:Pe->M T}{ff:Pe->M ba}{t:T}{ts:List T}{k n i:Nat}
def gP(d:a ρ=.nx ρ')(c:b ρ'=r):gZ a b ρ=r:=by unfold gZ;rw[d];exact c
def ku(c:a ρ=.rt t)(hr:.rt t=r):gZ a b ρ=r:=by unfold gZ;rw[c];exact hr
def i9(h:fc (vw ρ)=.ok true)(c:a ρ=r):lS fc a b ρ=r:=by unfold lS;rw[h];exact c
def iF(h:fc (vw ρ)=.ok false)(c:b ρ=r):lS fc a b ρ=r:=by unfold lS;rw[h];exact c
def gY(h:f (nQ ρ)=.ok t)(hr:ρ'=ρ.set i (some (.p t))):setO i (ju f) ρ=.nx ρ':=by unfold setO ju;rw[h,hr];rfl
def yy(h:f (vw ρ)=.ok t)(c:lf t=true)(hr:ρ'=ρ.set i (some (.p t))):setO i (pS f) ρ=.nx ρ':=by unfold setO pS;rw[h,hr];simp[c]
def nY(h:ff (nQ ρ)=.ok ts)(hr:ρ'=ρ.set i (some (.o ts))):pX i (rL ff) ρ=.nx ρ':=by unfold pX rL;rw[h,hr];rfl
def PH(h:ff (vw ρ)=.ok ts)(c:JO ts=true)(hr:ρ'=ρ.set i (some (.o ts))):pX i (AB ff) ρ=.nx ρ':=by unfold pX AB;rw[h,hr];simp[c]
def wU(c:ρ[i]? = some (some (.o us)))(h:f (nQ ρ)=.ok t)(d:us.length<sizeLine)(hr:ρ'=ρ.set i (some (.o (us++[t])))):rj i (ju f) ρ=.nx ρ':=by unfold rj ju ou;rw[c,h,hr];simp[d]
def NW(c:ρ[i]? = some (some (.o us)))(h:f (vw ρ)=.ok t)(d:lf t=true)(e:us.length<sizeLine)(hr:ρ'=ρ.set i (some (.o (us++[t])))):rj i (pS f) ρ=.nx ρ':=by unfold rj pS ou;rw[c,h,hr];simp[e,d]
def BN(c:ρ[i]? = some (some (.o us)))(h:f (vw ρ)=.ok t)(e:lf t=true)(l:fk (vw ρ)=.ok (.int j))(d:Au us.length j=some m)(hr:ρ'=ρ.set i (some (.o (us.set m t)))):zb i (pS fk) (pS f) ρ=.nx ρ':=by unfold zb pS ou;rw[c,h,l,hr];simp[e,d]
def hW(h:f (vw ρ)=.ok t):iU f ρ=.rt t:=by unfold iU;rw[h];rfl
def oo(h:ff (vw ρ)=.ok ts):qg ff ρ=.rf ts:=by unfold qg;rw[h];rfl
def yH(h:f (nQ ρ)=.ok t):yJ (ju f) ρ=.nx ρ:=by unfold yJ ju;rw[h];rfl
def jK(h:fi (nQ ρ)=.ok its)(c:jU m g its ρ=r):nR fi m g ρ=r:=by unfold nR;rw[h];exact c
def oU(h:fi (vw ρ)=.ok its)(c:jU m g its ρ=r):tJ fi m g ρ=r:=by unfold tJ;rw[h];exact c
def iB(c:ts.length=k)(h:g (i6 n ts)=.rt t):lW k n g ts=.ok t:=by unfold lW;rw[aQ c,h];rfl
def QK(c:ts.length=k)(h:g (i6 n ts)=.nx ρ):lW k n g ts=.ok .non:=by unfold lW;rw[aQ c,h];rfl
def nG(c:ts.length=k)(h:g (i6 n ts)=.rf us):yj k n g ts=.ok us:=by unfold yj;rw[aQ c,h];rfl
end
def Qh n:CV 0 n=(List.range n).map λ(i:Nat)=>T.int (i:Int):=by simp[CV]
theorem sN{c:Type} f:∀(l:List c),(∀a∈l,vm (f a)=true)->vG (l.map f)=true
 |[],_=>rfl
 |a::l,h=>by rw[bI,vG,h a (by simp),sN f l λb hb=>h b (by simp[hb])];rfl
theorem sT{d:Type} f n:∀(l:List d),(∀a∈l,G5 (f a)<=n)->wG (l.map f)<=n
 |[],_=>bL _
 |a::l,h=>by rw[bI,Ip];have e:=h a (by simp);have g:=sT f n l λb c=>h b (by simp[c]);omega
@[simp] theorem T4(a:LI):vG (a.map T.int)=true:=sN _ _ λ_ _=>rfl
def xx(a:LI):wG (a.map T.int)<=0:=sT _ _ _ λ_ _=>aK _
@[simp] theorem RW ns:vm (tI ns)=true:=by simp[tI,vm]
def Sy ns:G5 (tI ns)<=1:=by unfold tI;rw[NX];have:=xx ns;omega
@[simp] theorem UG(l:LL):vG (l.map tI)=true:=sN _ _ λ_ _=>RW _
def Dm(l:LL):wG (l.map tI)<=1:=sT _ _ _ λ_ _=>Sy _
@[simp] theorem Lb l:zU l []=l.isEmpty:=by cases l<;>rfl
theorem EM{d:Type} f (c:∀a b,FC (f a) (f b)=true↔a=b):∀(l m:List d),zU (l.map f) (m.map f)=true↔l=m
 |[],[]=>by simp[xj]
 |[],b::m=>⟨λz=>(nomatch (show false=true from z)),λz=>nomatch z⟩
 |a::l,[]=>by simp[xj]
 |a::l,b::m=>by rw[bI,bI,xj,bV,c a b,EM f c l m];simp
def Bo(l m:LI):zU (l.map T.int) (m.map T.int)=decide (l=m):=by
 have h:=EM T.int (λa b=>by simp[tX]) l m;by_cases e:l=m
 .rw[aC e];exact h.mpr e
 .rw[aB e];cases c:zU (l.map T.int) (m.map T.int) with
  |false=>rfl
  |true=>exact absurd (h.mp c) e
def LQ neg (l m:LI):iy neg (.tup (l.map T.int)) (.tup (m.map T.int))=.ok (.bl (if neg then !decide (l=m) else decide (l=m))):=by have h:=xx l;unfold iy;rw[aQ (by simp[vm];omega),tX,Bo]
def Fy neg (l m:LI):iy neg (.lst (l.map T.int)) (.lst (m.map T.int))=.ok (.bl (if neg then !decide (l=m) else decide (l=m))):=by have h:=xx l;unfold iy;rw[aQ (by simp[vm];omega),Hy,Bo]
def ym neg ts (h:vG ts=true) (a:wG ts<=90):iy neg (.lst ts) (.lst [])=.ok (.bl (if neg then !ts.isEmpty else ts.isEmpty)):=by unfold iy;rw[aQ (by simp[vm,h,vG];omega),Hy,Lb]
def t8{a:Type} f (l:List a):oN (l.map f)=l.zipIdx.map λp=>T.tup [.int (p.2:Int),f p.1]:=by unfold oN;rw[List.zipIdx_map,aI];rfl
def Md{b a:Type} f (g:a->T) (l:List b) m:C3 (l.map f) (m.map g)=(l.zip m).map λp=>T.tup [f p.1,g p.2]:=by unfold C3;rw[List.zip_map,aI];rfl
theorem Cr{c:Type} f:∀(l:List c),(∀a∈l,lf (f a)=true)->JO (l.map f)=true
 |[],_=>rfl
 |a::l,h=>by rw[bI,JO,h a (by simp),Cr f l λb hb=>h b (by simp[hb])];rfl
@[simp] theorem L9(a:LI):JO (a.map T.int)=true:=Cr _ _ λ_ _=>rfl
@[simp] theorem MU ns:lf (tI ns)=true:=by simp[tI]
@[simp] theorem P9(l:LL):JO (l.map tI)=true:=Cr _ _ λ_ _=>MU _
section
variable {α:Type}{fe fd fl:Pe->M T}{ρ:Pe}{ts:List T}{d k:Nat}
def BG(l:List α)(d:Nat):qJ l none (some (d:Int))=l.take d:=by
 unfold qJ;rw[HT.sIx_none,HT.sIx_nat,dB,cI];by_cases h:d<=l.length
 .rw[dC h]
 .rw[Nat.min_eq_right (by omega),cC (aK _),cC (by omega)]
def xC(l:List α)(d:Nat):qJ l (some (d:Int)) none=l.drop d:=by
 unfold qJ;rw[HT.sIx_none,HT.sIx_nat];by_cases h:d<=l.length
 .rw[dC h,cC (by simp)]
 .rw[Nat.min_eq_right (by omega),dD (aK _),dD (by omega),List.take_nil]
def TU n d:HT.sIx n d (some (-1))=n-1:=by unfold HT.sIx;dsimp only;rw[aQ (by decide)];omega
def IR(l:List α):qJ l none (some (-1))=l.dropLast:=by unfold qJ;rw[HT.sIx_none,TU,dB,cI,List.dropLast_eq_take]
def sS(h:fe ρ=.ok (.tup ts))(a:fd ρ=.ok (.int (d:Int)))(b:d<=ts.length):j7 fe (λ_=>.ok none) (jo fd) ρ=.ok (.tup (ts.take d)):=by simp only[j7,jo,h,a,M.bind_ok,BG]
def Br(h:fe ρ=.ok (.lst ts))(a:fd ρ=.ok (.int (d:Int))):j7 fe (λ_=>.ok none) (jo fd) ρ=.ok (.lst (ts.take d)):=by simp only[j7,jo,h,a,M.bind_ok,BG]
noncomputable abbrev ab:=cM (.int 1)
def Ke(h:fe ρ=.ok (.tup ts))(a:ts≠[]):j7 fe (λ_=>.ok none) (jo (pU (λi=>.int (-i)) ab)) ρ=.ok (.tup ts.dropLast):=by have e:jo (pU (λi=>.int (-i)) ab) ρ=.ok (some (-1)):=rfl;simp only[j7,h,e,M.bind_ok,IR]
def Mf(h:fe ρ=.ok (.tup ts))(a:fd ρ=.ok (.int (d:Int)))(b:0<d)(c:ts≠[]):j7 fe (jo fd) (λ_=>.ok none) ρ=.ok (.tup (ts.drop d)):=by simp only[j7,jo,h,a,M.bind_ok,xC]
def oM(h:lc ρ=.ok ts)(hr:o [.lst ts]=r):kg o (gI (jy lc) gM) ρ=r:=by simp only[kg,gI,gM,jy,h,M.bind_ok];exact hr
def mZ(h:f ρ=.ok t)(hr:o [t]=r):kg o (gI f gM) ρ=r:=by simp only[kg,gI,gM,h,M.bind_ok];exact hr
def iV(h:lc ρ=.ok ts):jy lc ρ=.ok (.lst ts):=by simp only[jy,h,M.bind_ok]
def Ag(h:fe ρ=.ok (.tup ts)):jh fe ρ=.ok ts:=by simp only[jh,h,M.bind_ok]
def tO(h:fe ρ=.ok (.lst ts)):jh fe ρ=.ok ts:=by simp only[jh,h,M.bind_ok]
def g9(h:fe ρ=.ok (.bl b)):iD fe ρ=.ok b:=by simp only[iD,h,M.bind_ok]
def qw(h:fc ρ=.ok b)(hr:(!b)=r):L3.lA fc ρ=.ok r:=by simp only[L3.lA,h,M.bind_ok,hr]
def gN(a:fa ρ=.ok x)(hb:fb ρ=.ok y)(hr:o x y=r):gW o fa fb ρ=r:=by simp only[gW,a,hb,M.bind_ok];exact hr
def oO(h:f ρ=.ok x)(hr:F [x]=.ok t):gS (gI f gM) F ρ=.ok t:=by simp only[gS,gI,gM,h,hr,M.bind_ok];rfl
def iH(h:f ρ=.ok x)(a:g ρ=.ok y)(hr:F [x,y]=.ok t):gS (gI f (gI g gM)) F ρ=.ok t:=by simp only[gS,gI,gM,h,a,hr,M.bind_ok];rfl
def kr{f g k:Pe->M T}(h:f ρ=.ok x)(b:g ρ=.ok y)(a:k ρ=.ok z)(hr:F [x,y,z]=.ok t):gS (gI f (gI g (gI k gM))) F ρ=.ok t:=by simp only[gS,gI,gM,h,b,a,hr,M.bind_ok];rfl
def Lr{f g k l:Pe->M T}(h:f ρ=.ok x)(c:g ρ=.ok y)(b:k ρ=.ok z)(a:l ρ=.ok u)(hr:F [x,y,z,u]=.ok t):gS (gI f (gI g (gI k (gI l gM)))) F ρ=.ok t:=by simp only[gS,gI,gM,h,c,b,a,hr,M.bind_ok];rfl
end
section
variable {ρ:Pe}{ts:List T}{F:List T->M ba}{f g k l:Pe->M T}{x y z u:T}
def B1(h:f ρ=.ok x)(hr:F [x]=.ok ts):jO (gI f gM) F ρ=.ok ts:=by simp only[jO,gI,gM,h,hr,M.bind_ok];rfl
def xr(h:f ρ=.ok x)(a:g ρ=.ok y)(hr:F [x,y]=.ok ts):jO (gI f (gI g gM)) F ρ=.ok ts:=by simp only[jO,gI,gM,h,a,hr,M.bind_ok];rfl
def B0(h:f ρ=.ok x)(a:g ρ=.ok y)(b:k ρ=.ok z)(hr:F [x,y,z]=.ok ts):jO (gI f (gI g (gI k gM))) F ρ=.ok ts:=by simp only[jO,gI,gM,h,a,b,hr,M.bind_ok];rfl
def wD(h:f ρ=.ok x)(c:g ρ=.ok y)(b:k ρ=.ok z)(a:l ρ=.ok u)(hr:F [x,y,z,u]=.ok ts):jO (gI f (gI g (gI k (gI l gM)))) F ρ=.ok ts:=by simp only[jO,gI,gM,h,c,b,a,hr,M.bind_ok];rfl
end
def nT{b a:Type}{l:List b}{m:List a}{f:b->T}{g:a->T}(d:fa ρ=.ok x)(c:seqT x=.ok (l.map f))(hb:fb ρ=.ok y)(e:seqT y=.ok (m.map g)) :
  m7 (gI fa (gI fb gM)) ρ=.ok ((l.zip m).map λp=>T.tup [f p.1,g p.2]):=by
 rw[<-Md];simp only[m7,gI,gM,d,hb,M.bind_ok,c,e]
end L3
namespace L3
open PySem L2 PySem.Spec PyProof.Rows
section
variable {K:W.Frag}{E:XK}{X:Cx}{a b c e o tg it:Expr}{es:List Expr}{ta tb tc te to:TE}{fa fb fc fe fo:Pe->M T}{tr:TA}{fr:Pe->M ba}{pos p p2 apos:Pos}
@[simp] noncomputable def vS:List T->M T
 |[.int i,.int j]=>.ok (.int (if j<i then j else i))
 |_=>.bad
def MD xs:M.NoE (vS xs):=λC n=>by unfold vS;split<;>intro z<;>cases z
def OC:MC K (λd H Q=>∃i j,d=[.int i,.int j]/\Q (.int (if j<i then j else i)) H) vS:=⟨MD,λF H f d Q s r q=>by
 unfold vS at q;split at q
 .exact⟨_,_,r.two,kV.now q s (.int _)⟩
 .exact q.elim⟩
end
section
variable {K:W.Frag}{E:XK}{X:Cx}{F0:Fz}{H0 F H:Hp}{σ:L2.St}{ρ:En}
def Sr.freeze(r:Sr K F0 H0 F H σ ρ)(e:ρ[j]? = some (some (.o ts))):∃Q,iS F Q/\Sr K F0 H0 Q H σ (ρ.set j (some (.p (.lst ts)))):=by
 obtain⟨n,Y,S⟩:=r.ov;obtain⟨a,b,c,P,d,z⟩:=Y j ts e;have A:iS F (jY F (n j) (.lst P)):=lQ b;refine⟨jY F (n j) (.lst P),A,⟨r.gr.ff.trans A,λp u q=>?_,r.gr.hh,λp l=>?_⟩,by simp[r.len],λi t q=>?_,⟨n,λi s q=>?_,λi k s J q q' D=>?_⟩,λU he=>?_,λi l' m C q=>?_,(r.dv.heap A λp xs l fp=>⟨by rw[ie (λz=>by rw[z,d]at l;cases l)];exact fp,l⟩).setR λ_ z=>nomatch z⟩
 .by_cases l:p=n j
  .subst l;rw[ig]at q;cases q;exact d
  .rw[ie l]at q;exact r.gr.fh p u q
 .by_cases R:p=n j
  .subst R;exact .inr (.inl c)
  .rw[ie R]at l;exact r.gr.nw p l
 .rcases iA q with⟨rfl,g⟩|⟨B,g⟩
  .cases g;exact⟨_,a,.lst ig (z.mono A)⟩
  .obtain⟨v,x,y⟩:=r.pv i t g;exact⟨v,x,y.mono A⟩
 .rcases iA q with⟨rfl,g⟩|⟨B,g⟩
  .cases g
  .obtain⟨a',b',c',m,d',Z⟩:=Y i s g;exact⟨a',by rw[ie (S i j s ts g e B)];exact b',c',m,d',Z.mono A⟩
 .rcases iA q with⟨rfl,g⟩|⟨B,g⟩
  .cases g
  .rcases iA q' with⟨rfl,N⟩|⟨hk,N⟩
   .cases N
   .exact S i k s J g N D
 .have L:=r.lv U he;have I:U.2.1≠n j:=λw=>L.d j ts e (by rw[w];exact a);refine⟨L.h,by rw[ie I];exact L.f,L.z,λi s q=>?_⟩;rcases iA q with⟨rfl,g⟩|⟨B,g⟩
  .cases g
  .exact L.d i s g
 .rcases iA q with⟨rfl,g⟩|⟨B,g⟩
  .cases g
  .exact r.sl i l' m C g
@[simp] noncomputable def T3(j:Nat)(g:En->O):En->O:=λρ=>match ρ[j]? with
 |some (some (.o ts))=>g (ρ.set j (some (.p (.lst ts))))
 |_=>.bad
def U7 j (h:MS K E t g):MS K E t (T3 j g):=λF0 H0 F H σ ρ D r q=>by
 unfold T3 at q;split at q
 .rename_i c e;obtain⟨b,s,a⟩:=r.freeze e;exact h F0 H0 b H σ _ D a (q.go s)
 .exact q.elim
def TM j (h:xy K E X s t g):xy K E X s t (T3 j g):=⟨h.ps,U7 j h.ms⟩
def Uw(e:ρ[j]? = some (some (.o ts)))(h:g (ρ.set j (some (.p (.lst ts))))=r):T3 j g ρ=r:=by unfold T3;rw[e];exact h
end
def LH(K:W.Frag):Sp:=λc H Q _=>∃(a:Addr) (b:LI),c=[.ref a]/\mN K H a (b.map V.int)/\b.length<=63/\(∀z∈b,Builtin.Int.intBits z<=2 ^ 20)/\∀d,Q (.bl true) d
def KQ{K:W.Frag}(h:∀b:LI,b.length<=63->(∀z∈b,Builtin.Int.intBits z<=2 ^ 20)->F [.scr b]=.ok (.bl true)) vs H Q E (z:LH K vs H Q E):yc K F vs H Q E:=by obtain⟨a,b,rfl,d,c,f,e⟩:=z;refine⟨[.scr b],H,.refl _,.cons (.scr d) .nil,?_⟩;rw[h b c f];intro v i j g r;cases r;exact e _
def Wu{K:W.Frag}{st:Stmt}(F:NN K x x st f fd)(S:kq N ps (hU st))
  (c:∀(f:Addr) (b:Value) (A:Around) (a:List Env) (s:Shared) (H:Hp) (E:XK),jZ k (A.deeper (envOfC x (hU st) s.heap.objs.size f b))->∃t,uL K E (sQ Av P w K mg base N x (hU st) f b A a s H E).nox (jv st) t g) :
  pR P w K mg base Av (k+1) f fd ps (yc K (lW ps.length N.length g)):=
 F.ok S (λd H Q E h=>GB h) λb A a s H d Q E hr h=>let ⟨t,hp⟩:=c f b A a s H E hr;⟨t,hp.ps,B9 hp.ms h⟩
def UW{l:W.OpenLaw}{q:Program}{k:Nat}{x:Str}{c:List Str}{XP:(Str->Option Value)->Heap->Prop}{i:World->Heap->Prop}{d:DefRec}{K:Params->W.Frag}(n:l.most=some 63)(hr:jZ k callerA)(g:d.params.defaults=[])
  (p:∀(w:World) (h:Heap),i w h->(K w.params).In h)
  (F:∀(w:World) (e:Str->Option Value) (j:Addr) (h:Heap),(K w.params).In h->h.Ns mainGlobals e->e d.name=some (.ref j)->
   ∃fd:FuncData,(∀(s:Shared) (u:Value),BindsTo s fd ⟨[u],[]⟩ [(x,u)])/\∀b:Heap,(K w.params).In b->b.Ns mainGlobals e->pR l.prog w (K w.params) e b Av k j fd [x] (LH (K w.params))) :
  W.WalkO q c XP i l.row.toRowW d [] (λf vs=>PySem.call f vs):=
 L2.Jz n (by decide) g hr p F (λ_ _ a v o r _ m=>⟨a,v,rfl,m,o,r,λ_=>rfl⟩) λ_ _ _ _ z=>z
end L3
namespace L3
open PySem L2 PySem.Spec PyProof.Rows
section
variable {K:W.Frag}{E:XK}{t:TE}{f:Pe->M T}
def kO(K:W.Frag)(F H:Hp)(x:Addr)(Q:VK)(t:T):Prop:=∀b c,iS F b->iS b c->(∀a o,a≠x->H a=some o->JN o (c a))->(∀a,b a≠none->F a≠none\/H a=none\/a=x\/∃d,H a=some (.tup d))->l7 K b (.ref x) t->Q .non c
noncomputable def C7(K:W.Frag)(C:Addr)(d:List T->M T):Sp:=λe H Q _=>∃x g b c a,e=.ref x::b/\H x=some (.ins C g [])/\a x=none/\iS a H/\iK K a b c/\(d c).noEr.res (kO K a H x Q) (λ_ _=>False)
def LG{fr:Pe->M ba}(R:MA K E tr fr):ME K E (Hv C (C7 K C Fn) [] E' tr) (gS fr Fn):=λF H Z ρ Q s V q=>by
 refine R.run s V q λD I J B g S i=>?_;intro x j m w v;have u:jY B j (.own x) x=none:=by rw[ie (λz=>v z.symm)];exact m
 have l:iS B (jY (jY B j (.own x)) x (.ins C j [])):=(oY w).trans (oY u);refine⟨x,j,I,D,J,by rw[bM],ig,iW g.fh m,g.fh.trans l,S,?_⟩;cases e:Fn D with
 |bad=>rw[e]at i;exact i.elim
 |er C n=>rw[e]at i;exact i.elim
 |ok t=>
  rw[e]at i;intro L X a b c d r;refine⟨rfl,i (.ref x) L X ⟨g.ff.trans a,b,λp o h=>?_,λp U=>?_⟩ r⟩
  .have Y:=g.hh p o h;have A:p≠x:=zD Y m;exact Q9 (g.hh.trans l p o h) λP e=>c p P A e
  .rcases d p U with z|z|z|⟨N,z⟩
   .exact g.nw p z
   .exact .inr (.inl (iW g.hh (iW l z)))
   .rw[z];exact .inr (.inl (iW g.hh m))
   .cases y:H p with
    |none=>exact .inr (.inl rfl)
    |some o=>exact .inr (.inr ⟨N,by have k:=g.hh.trans l p o y;rw[z]at k;rw[yO k λ_ _ y=>nomatch y]⟩)
noncomputable def AU(C:Addr)(n:Nat)(g e:Str)(d h:Pe->M T):List T->M T:=λc=>if c.length=n then (d (none::c.map some)).bind λa=>(h (none::c.map some)).bind λb=>.ok (.obj C [(g,a),(e,b)]) else .bad
structure Wi(K:W.Frag)(E:XK)(X:Cx)(body:List Stmt)(f1 f2:Str)(g1 g2:Pe->M T):Prop where
 ex:∃(t1 t2:TE),ES X body (Of (RD K (oQ 0) t1 f1) (RD K (oQ 0) t2 f2))/\ME K E t1 g1/\ME K E t2 g2
def Wl(h:X.K=K)(b:PE X o1 (oQ 0))(g:Pm K E X a1 t1 g1)(d:PE X o2 (oQ 0))(e:Pm K E X a2 t2 g2)
  (a:swapsWith a1 (some (.Attribute o1 f1 p1)) q1.line X.env=pure false:=by rfl) (c:swapsWith a2 (some (.Attribute o2 f2 p2)) q2.line X.env=pure false:=by rfl) :
  Wi K E X [.Assign [.Attribute o1 f1 p1] a1 q1,.Assign [.Attribute o2 f2 p2] a2 q2] f1 f2 g1 g2:=by
 subst h;exact⟨t1,t2,EJ (MM b g.pe a) (G8 (MM d e.pe c)),g.me,e.me⟩
theorem Tx{st:Stmt}(cl:AQ K C)(n1:nA K C f1)(n2:nA K C f2)(ne:f1≠f2)(D:mJ K C "__init__" qual st)(S:kq N N (hU st))
  (mk:W.makesIn K C=true) (kp:W.keepIn K (.ref C)=true) (hm:mg x=some (.ref C)) (hN:N.length=n+1)
  (hb:∀(kV doc pm:Value) (an:Option Addr) (j ct:Value) (us:List Value),us.length=N.length->bindArgs (W.fnOf "__init__" qual (kW st) (jv st) (hU st) .none kV doc pm an j ct) ⟨us,[]⟩=pure (N.zip us))
  (hT:∀(f:Addr) (j:Value) (A:Around) (g:List Env) (s:Shared) (H:Hp) (E:XK),jZ k (A.deeper (envOfC qual (hU st) s.heap.objs.size f j))->Wi K E (sQ Av P w K mg base N qual (hU st) f j A g s H E).nox (jv st) f1 f2 g1 g2) :
  DW P w K mg base x C (k+1) (C7 K C (AU C n f1 f2 g1 g2)):=by
 obtain⟨fi,fd,F,Mm⟩:=D.ex;refine⟨⟨fi,fd,N,F.ok S (λvs H Q E h=>?_) (λj A g s H vs Q E hr h=>?_),⟨mk,Mm.at_,Mm.fn,kp⟩,F.binds hb⟩,hm⟩
 .obtain⟨x,B,us,u,F0,rfl,R,fx,s,r,q⟩:=h;unfold AU at q;by_cases L:u.length=n
  .rw[ay,r.length,L,hN]
  .rw[aR L]at q;exact q.elim
 .obtain⟨x,B,us,u,F0,rfl,R,fx,s0,r,q⟩:=h;obtain⟨t1,t2,ps,m1,m2⟩:=(hT fi j A g s H E hr).ex;refine⟨_,ps,?_⟩;unfold AU at q;by_cases L:u.length=n
  .rw[aQ L]at q;have V:nP K F0 (oy N (.ref x::us)) (none::u.map some):=λi t e=>by
    cases i with
    |zero=>cases e
    |succ i=>
     rw[List.getElem?_cons_succ,av]at e;cases hq:u[i]? with
     |none=>rw[hq]at e;cases e
     |some y=>rw[hq]at e;cases e;obtain⟨v,a,b⟩:=r.get hq;refine⟨v,?_,b⟩;unfold L2.oy;rw[List.getElem?_append_left (by rw[aw,ay];exact Nat.succ_lt_succ (aa.mp a).1),av,List.getElem?_cons_succ,a];rfl
   cases X:g1 (none::u.map some) with
   |bad=>rw[X]at q;exact q.elim
   |er C n=>rw[X]at q;exact q.elim
   |ok a=>
    rw[X,L3.M.bind_ok]at q;cases Z:g2 (none::u.map some) with
    |bad=>rw[Z]at q;exact q.elim
    |er C n=>rw[Z]at q;exact q.elim
    |ok b=>
     rw[Z,L3.M.bind_ok]at q;refine m1 F0 H _ _ _ s0 V ?_;rw[X];intro v U H1 c r1;have hx1:=c.hh _ _ R;have J:U x=none:=by
      cases z:U x with
      |none=>rfl
      |some o=>
       rcases c.nw x (by rw[z];exact λy=>nomatch y) with y|y|⟨_,y⟩
       .exact absurd fx y
       .rw[R]at y;cases y
       .rw[R]at y;cases y
     refine⟨.ref x,rfl,x,C,B,[],rfl,hx1,cl,n1,by decide,?_⟩;have s1:iS U (jY H1 x (.ins C B (sA f1 v []))):=λp o h=>by
      have l:p≠x:=λz=>by rw[z,J]at h;cases h
      rw[ie l];exact c.fh p o h
     refine m2 U _ _ _ _ s1 (V.mono c.ff) ?_;rw[Z];intro Y I H3 d r2;have hx3:=d.hh x _ ig;have fx2:I x=none:=by
      cases z:I x with
      |none=>rfl
      |some o=>
       rcases d.nw x (by rw[z];exact λy=>nomatch y) with y|y|⟨_,y⟩
       .exact absurd J y
       .rw[ig]at y;cases y
       .rw[ig]at y;cases y
     refine⟨.ref x,rfl,x,C,B,_,rfl,hx3,cl,n2,by show 1<1000;decide,?_⟩;have ep:sA f2 Y (sA f1 v [])=[(f1,v),(f2,Y)]:=by show (if f1=f2 then _ else _)=_;rw[aR ne];rfl
     have sF:iS I (jY I x (.ins C B [(f1,v),(f2,Y)])):=oY fx2;refine q (jY I x (.ins C B [(f1,v),(f2,Y)])) _ ((c.ff.trans d.ff).trans sF) (λp o h=>?_) (λp o l h=>?_) (λp l=>?_) (.obj ig (.cons (r1.mono (d.ff.trans sF)) (.cons (r2.mono sF) .nil)))
     .by_cases l:p=x
      .subst l;rw[ig]at h;rw[ig,ep];exact .of h
      .rw[ie l]at h ⊢;exact d.fh p o h
     .rw[ie l];exact Q9 (c.hh p o h) λo' e=>d.hh p o' (by rw[ie l];exact e)
     .by_cases m:p=x
      .exact .inr (.inr (.inl m))
      .rw[ie m]at l;rcases d.nw p l with z|z|⟨xs,z⟩
       .rcases c.nw p z with y|y|y
        .exact .inl y
        .exact .inr (.inl y)
        .exact .inr (.inr (.inr y))
       .rw[ie m]at z;exact .inr (.inl (iW c.hh z))
       .rw[ie m]at z;cases y:H p with
        |none=>exact .inr (.inl rfl)
        |some o=>exact .inr (.inr (.inr ⟨xs,by have k:=c.hh p o y;rw[z]at k;rw[yO k λ_ _ y=>nomatch y]⟩))
  .rw[aR L]at q;exact q.elim
end
section
variable {X:Cx}{K:W.Frag}{E:XK}{x m:Str}{C:Addr}{k:Nat}{Fn:List T->M T}{Ff:List T->M ba}{e o:Expr}{es:List Expr}{tr:TA}{fr:Pe->M ba}{ta:TE}{fa:Pe->M T}{p pos apos:Pos}
def Hs(h:DW X.prog X.w X.K X.mg X.base x C j (C7 K C Fn))(hr:jZ k X.A)(c:DY K E X (e::es) tr fr)(g:j+1<=k:=by decide)(d:Gl X x:=by rfl)
  (a:(x==("__debug__" : Str))=false:=by decide) (f:starEach (e::es) X.env=(false,eval e X.env)::starEach es X.env:=by rfl) (b:(backTo pos (starEach es X.env)).any (·.1)=false:=by rfl) :
  Pm K E X (.Call (.Name x p) (e::es) [] pos) (Hv C (C7 K C Fn) [] E0 tr) (gS fr Fn):=⟨UI h (hr.mono g) c.pa d a f b,LG c.ma⟩
def C2(h:lU X.prog X.w X.K X.mg X.base C m j (yc K Fn))(hr:jZ k X.A)(a:Pm K E X o ta fa)(c:j<=k:=by decide)
  (b:eval (.Call (.Attribute o m apos) [] [] pos) X.env=(do
   let ov <-eval o X.env
   standAt apos.atName
   let (f,first) <-holding [ov] (getMethod ov m pl)
   callWith pos f first (backTo pos (starEach [] X.env)) (backToKw pos (keywordEach [] X.env))):=by rfl) :
  Pm K E X (.Call (.Attribute o m apos) [] [] pos) (Bb C m (yc K Fn) [] E0 ta yi) (uJ C m fa gM Fn):=⟨Nl h (hr.mono c) a.pe b,MZ a.me E9⟩
def E7(h:lU X.prog X.w X.K X.mg X.base C m j (Dw K Ff))(hr:jZ k X.A)(a:Pm K E X o ta fa)(c:j<=k:=by decide)
  (b:eval (.Call (.Attribute o m apos) [] [] pos) X.env=(do
   let ov <-eval o X.env
   standAt apos.atName
   let (f,first) <-holding [ov] (getMethod ov m pl)
   callWith pos f first (backTo pos (starEach [] X.env)) (backToKw pos (keywordEach [] X.env))):=by rfl) :
  Jw K E X (.Call (.Attribute o m apos) [] [] pos) (Bb C m (Dw K Ff) [] E0 ta yi) (uN C m fa gM Ff):=⟨Nl h (hr.mono c) a.pe b,MP a.me E9⟩
def F9(c:X.K=K)(a:AQ K C)(b:nA K C f)(h:Pm K E X e ta fa)(hb:attributeBase e f X.env (eval e X.env)=eval e X.env:=by rfl):Pm K E X (.Attribute e f pos) (Rv X.K ta f) (EF C f fa):=by subst c;exact⟨SX h.pe hb,To a b h.me⟩
@[simp] noncomputable def Io(f:Pe->M T)(m:T->En->Option En):En->O:=λa=>O.of (ju f a) λt=>match m t a with
 |some ρ'=>.nx ρ'
 |none=>.bad
def Si{m:T->En->Option En}(h:ME K E t f)(w:PB K g m):MS K E (qA t g) (Io f m):=λi l F H j c D r q=>
 h.inH r q λx v b d z n y a=>by
  cases e:m x c with
  |none=>rw[e]at a;exact a.elim
  |some ρ'=>rw[e]at a;exact w i l b d j c v x ρ' _ y n e λu s=>a b d _ (.refl _) s
def GQ{m:T->En->Option En}(b:Pm K E X e t f)(a:T6 K X tg g m)(c:swapsWithSole [tg] e pos.line X.env=pure false:=by rfl)(hw:swappedStores [tg] e X.env=pure none:=by rfl)
  (d:(assignEach [tg] X.env).map (·.2)=[assign tg X.env]:=by rfl):xy K E X (.Assign [tg] e pos) (qA t g) (Io f m):=⟨JZ b.pe a.pg c hw d,Si b.me a.mg⟩
def Le{m:T->En->Option En}(h:f (nQ ρ)=.ok t)(a:m t ρ=some ρ'):Io f m ρ=.nx ρ':=by unfold Io ju;rw[h];simp[a]
end
section
variable {P:Program}{w:World}{K:W.Frag}{mg:Str->Option Value}{base:Heap}{C:Addr}{m qual:Str}{st:Stmt}{N ps:List Str}{k:Nat}{g:En->O}
def U2(d:AQ K C)(D:mJ K C m qual st)(S:kq N ps (hU st))
  (hb:∀(kV c l:Value) (e:Option Addr) (b n:Value) (us:List Value),us.length=ps.length->bindArgs (W.fnOf m qual (kW st) (jv st) (hU st) .none kV c l e b n) ⟨us,[]⟩=pure (ps.zip us))
  (i:∀(f:Addr) (b:Value) (A:Around) (a:List Env) (s:Shared) (H:Hp) (E:XK),jZ k (A.deeper (envOfC qual (hU st) s.heap.objs.size f b))->∃t,uL K E (sQ Av P w K mg base N qual (hU st) f b A a s H E).nox (jv st) t g) :
  lU P w K mg base C m (k+1) (yc K (lW ps.length N.length g)):=
 Ht d D S hb (λj H Q E h=>GB h) λf b A a s H j Q E hr h=>let ⟨t,hp⟩:=i f b A a s H E hr;⟨t,hp.ps,B9 hp.ms h⟩
def Vl(d:AQ K C)(D:mJ K C m qual st)(S:kq N ps (hU st))
  (hb:∀(kV c l:Value) (e:Option Addr) (b n:Value) (us:List Value),us.length=ps.length->bindArgs (W.fnOf m qual (kW st) (jv st) (hU st) .none kV c l e b n) ⟨us,[]⟩=pure (ps.zip us))
  (i:∀(f:Addr) (b:Value) (A:Around) (a:List Env) (s:Shared) (H:Hp) (E:XK),jZ k (A.deeper (envOfC qual (hU st) s.heap.objs.size f b))->∃t,uL K E (sQ Av P w K mg base N qual (hU st) f b A a s H E).nox (jv st) t g) :
  lU P w K mg base C m (k+1) (Dw K (yj ps.length N.length g)):=
 Ht d D S hb (λj H Q E h=>HJ h) λf b A a s H j Q E hr h=>let ⟨t,hp⟩:=i f b A a s H E hr;⟨t,hp.ps,Dy hp.ms h⟩
end
end L3
namespace L3
open PySem L2 PySem.Spec PyProof.Rows
section
variable {K:W.Frag}{E:XK}{X:Cx}{a tg:Expr}{tr:TA}{fr:Pe->M ba}{p p2 pos pos2:Pos}{F:Hp}
def SA(d:mN K F l xs)(r:iK K F xs ts):AA K (V4 K l xs.length) ts.reverse F where
 go:=λi H s c=>by rw[dE,<-r.length]at c;exact⟨c,xs,_,s.seq d,rfl,ag (by omega)⟩
 stop:=λH s=>⟨by rw[dE,r.length],xs,s.seq d⟩
 yld:=λi t h H x o g f e y=>by
  obtain⟨rfl,k⟩:=y;have m:=k xs ((g.trans f).seq d);obtain⟨n,b,j⟩:=r.at_ m;have c:i<ts.length:=by simpa using (aa.mp e).1
  rw[List.getElem?_reverse c,<-r.length]at e;rw[e]at b;cases b;exact⟨h,.refl f,j.mono g⟩
@[simp] noncomputable def JF(c:Pe->M ba):Pe->M ba:=λd=>(c d).bind λb=>match b with
 |[.lst ts]=>.ok ts.reverse
 |_=>.bad
def SC(e:MA K E tr fr):MI K E (R7 K tr) (JF fr):=λF H k o R s V q=>by
 refine e.run s V q λn j d i c f b=>?_;cases f with
 |nil=>exact b.elim
 |cons h t=>
  cases t with
  |cons _ _=>cases h<;>exact b.elim
  |nil=>
   cases h with
   |lst h r=>rename_i l g m;refine⟨l,g,rfl,mN.of (c.fh _ _ h),b _ d i c (SA (mN.of h) r)⟩
   |_=>exact b.elim
def HP(c:X.mg "reversed" = none)(b:DY K E X [a] tr fr)(f:X.K=K:=by rfl)(e:Gl X "reversed" :=by rfl)(d:starEach [a] X.env=[(false,eval a X.env)]:=by rfl):NK K E X tg (.Call (.Name "reversed" p) [a] [] pos) (R7 K tr) (JF fr):=by subst f;exact⟨Pl e c b.pa d,SC b.ma⟩
@[simp] noncomputable def UN(d:Pe->M ba):Pe->M ba:=λe=>(d e).bind λc=>match c with
 |[x]=>(seqT x).bind λb=>.ok (oN b)
 |_=>.bad
theorem zP:∀{vs} {ts},vs.length=ts.length->(∀(i:Nat) t,ts[i]? = some t->∃v,vs[i]? = some v/\l7 K F v t)->iK K F vs ts
 |[],[],_,_=>.nil
 |v::vs,t::ts,hl,h=>by obtain⟨c,e,r⟩:=h 0 t rfl;simp at e;subst e;exact .cons r (zP (by simpa using hl) λi t b=>by simpa using h (i+1) t (by simpa using b))
def Uy(ha:MA K E tr fr):MF K E (V7 K tr) (UN fr):=λF H σ ρ Q s va q=>by
 classical
 refine ha.run s va q λxs ws C z j r1 A=>?_;have y:∀(b:Bool) (l:Addr) (I:List V) (J:List T),xZ K z b l I->iK K C I J->kF K F H Q (oN J)->∃b' P w,[V.ref l]=[.ref P]/\xZ K z b' P w/\∀(p:Addr) (as:List Addr) (g:Hp),iS z g->z p=none->g p=some (.lst (as.map V.ref))->as.length=w.length->
   (∀(i:Nat) (a:Addr),as[i]? = some a->z a=none/\a≠p/\∃x,w[i]? = some x/\g a=some (.tup [.int i,x]))->Q (.ref p) g:=λb l I J Z r qk=>by
  refine⟨b,l,I,rfl,Z,λp as g sm U hl B L=>?_⟩;let D:Hp:=λc=>if c∈as then g c else C c
  have k:∀c,c∈as->D c=g c:=λc d=>aQ d;have f:∀c,c∉as->D c=C c:=λc d=>aR d;have new:∀c,c∈as->z c=none:=λc d=>by obtain⟨i,m⟩:=dF.mp d;exact (L i c m).1
  have S:iS C D:=λc o e=>by rw[f c (λd=>(j.fh c o e).ne (new c d))];exact .of e
  have pn:p∉as:=λd=>by obtain⟨i,m⟩:=dF.mp d;exact (L i p m).2.1 rfl
  have gr:Gr C z D g:=⟨S,λc o e=>by
   by_cases d:c∈as
   .rw[k c d]at e;exact .of e
   .rw[f c d]at e;exact j.fh.trans sm c o e,sm,λc d=>by
   by_cases R:c∈as
   .exact .inr (.inl (new c R))
   .rw[f c R]at d;exact .inl d⟩
  refine qk p (as.map V.ref) D g (j.trans gr) (iW j.hh U) (by rw[f p pn];exact iW j.fh U) hl (zP (by simp[oN,B,r.length]) λi t n=>?_);unfold oN at n;rw[av,List.getElem?_zipIdx]at n;cases m:J[i]? with
  |none=>rw[m]at n;cases n
  |some u=>
   rw[m]at n;simp at n;have v:i<as.length:=by rw[B,r.length];exact (aa.mp m).1
   obtain⟨h1,h2,x,e1,Y⟩:=L i _ (ag v);obtain⟨x',N,rx⟩:=r.get m;rw[e1]at N;cases N;refine⟨.ref as[i],by rw[av,ag v];rfl,?_⟩;rw[<-n];exact .tup (by rw[k _ (aV v)];exact Y) (.cons (.int _) (.cons (rx.mono S) .nil))
 cases r1 with
 |nil=>exact A.elim
 |cons h t=>
  cases t with
  |cons _ _=>cases h<;>exact A.elim
  |nil=>
   cases h with
   |lst h r=>exact y false _ _ _ (mN.of (j.fh _ _ h)) r A
   |tup h r=>exact y true _ _ _ (oH.of (j.fh _ _ h)) r A
   |scr h=>exact y false _ _ _ (j.fh.seq h) (iK.of_ints _) A
   |_=>exact A.elim
def UZ(h:X.calm=true)(e:X.mg "list" = none)(c:X.mg "enumerate" = none)(d:DY K E X [a] tr fr)(j:X.K=K:=by rfl)(g:Gl X "list" :=by rfl)(b:Gl X "enumerate" :=by rfl)(f:starEach [a] X.env=[(false,eval a X.env)]:=by rfl)
  (i:starEach [Expr.Call (.Name "enumerate" p2) [a] [] pos2] X.env=[(false,eval (.Call (.Name "enumerate" p2) [a] [] pos2) X.env)]:=by rfl) :
  Jw K E X (.Call (.Name "list" p) [.Call (.Name "enumerate" p2) [a] [] pos2] [] pos) (V7 K tr) (UN fr):=by
 subst j;exact⟨LB h g e b c d.pa f i,Uy d.ma⟩
end
section
variable {K:W.Frag}{E:XK}{X:Cx}{F0:Fz}{H0 F H:Hp}{σ:L2.St}{ρ:En}{x:Str}{e:Expr}{pos pos' p pd:Pos}
noncomputable def tH(kvs:List (LI×T))(k:LI)(v:T):List (LI×T):=if (kvs.any λa=>decide (a.1=k))=true then kvs.map (λa=>if a.1=k then (a.1,v) else a) else kvs++[(k,v)]
theorem yr:∀{a b:LI},a.map (Sum.inl:Int->qP)=b.map Sum.inl->a=b
 |[],[],_=>rfl
 |[],_::_,h=>nomatch h
 |_::_,[],h=>nomatch h
 |x::a,y::b,h=>by simp only[bI,List.cons.injEq]at h;rw[Sum.inl.inj h.1,yr h.2]
def DR.put(h:DR K F xs kvs) k (r:l7 K F v t):DR K F (qY xs (k.map Sum.inl) v) (tH kvs k t):=by
 have b:(xs.any λa=>decide (a.1=k.map Sum.inl))=kvs.any λa=>decide (a.1=k):=by
  induction h with
  |nil=>rfl
  |cons q _ ih=>
   rename_i x y _ _ _;rw[bY,bY,ih];congr 1;by_cases z:y.1=k
   .rw[aC z,aC (by rw[q.1,z])]
   .rw[aB z,aB (λw=>z (yr (by rw[<-q.1,w])))]
 unfold qY tH;rw[b];generalize (kvs.any λa=>decide (a.1=k))=bb;split
 .clear b;unfold DR at h ⊢;induction h with
  |nil=>exact .nil
  |cons q _ ih=>
   rename_i x y _ _ _;refine .cons ?_ ih;dsimp only;by_cases z:y.1=k
   .rw[aQ (by rw[q.1,z]),aQ z];exact⟨q.1,r⟩
   .rw[aR (λw=>z (yr (by rw[<-q.1,w]))),aR z];exact q
 .clear b;unfold DR at h ⊢;induction h with
  |nil=>exact .cons ⟨rfl,r⟩ .nil
  |cons q _ ih=>exact .cons q ih
@[simp] noncomputable def KU(i:Nat):En->O:=λρ=>.nx (ρ.set i (some (.d [])))
def Sr.setD{p:Addr}(r:Sr K F0 H0 F H σ ρ)(C:H p=none):Sr K F0 H0 F (jY H p (.dT [])) (σ.set i (some (.ref p))) (ρ.set i (some (.d []))):=by
 have hf:=iW r.gr.fh C;have A:=r.grow (Gr.new' (o:=.dT []) r.gr.fh C);obtain⟨Z,h1,h2⟩:=A.ov;refine⟨A.gr,by simp[r.len],λj t e=>?_,⟨Z,λj N e=>?_,λj k N R e B l=>?_⟩,λe S=>?_,λj U J I q=>?_,⟨λj c e=>?_,λj k c u e B l=>?_⟩⟩
 .rcases iA e with⟨rfl,q⟩|⟨g,q⟩
  .cases q
  .obtain⟨w,a,b⟩:=A.pv j t q;exact⟨w,by rw[aq (λz=>g z.symm)];exact a,b⟩
 .rcases iA e with⟨rfl,q⟩|⟨g,q⟩
  .cases q
  .obtain⟨a,b⟩:=h1 j N q;exact⟨by rw[aq (λz=>g z.symm)];exact a,b⟩
 .rcases iA e with⟨rfl,q⟩|⟨g,q⟩
  .cases q
  .rcases iA B with⟨rfl,n⟩|⟨D,n⟩
   .cases n
   .exact h2 j k N R q n l
 .have L:=A.lv e S;refine⟨L.h,L.f,L.z,λj ts q=>?_⟩;rcases iA q with⟨rfl,v⟩|⟨g,v⟩
  .cases v
  .rw[aq (λz=>g z.symm)];exact L.d j ts v
 .rcases iA q with⟨rfl,v⟩|⟨g,v⟩
  .cases v
  .rw[aq (λz=>g z.symm)];exact r.sl j U J I v
 .have s:j<ρ.length:=by simpa using (aa.mp e).1
  rcases iA e with⟨rfl,q⟩|⟨g,q⟩
  .cases q;exact⟨p,t9 (by rw[r.len];exact s),hf,iW r.gr.hh C,[],ig,.nil⟩
  .obtain⟨a,P,Y⟩:=A.dv.at_ j c q;exact⟨a,by rw[aq (λz=>g z.symm)];exact P,Y⟩
 .have y:∀(m:Nat) c,ρ[m]? = some (some (.d c))->σ[m]?≠some (some (.ref p)):=λm c q w=>by
   obtain⟨a,P,_,_,xs,Q,_⟩:=r.dv.at_ m c q;rw[P]at w;have:a=p:=by simpa using w
   rw[this,C]at Q;cases Q
  have s:∀{m:Nat} {z},(ρ.set i (some (W.d [])))[m]? = some z->m<σ.length:=λ{m z} q=>by rw[r.len];simpa using (aa.mp q).1
  rcases iA e with⟨rfl,q⟩|⟨g,q⟩
  .rcases iA B with⟨rfl,n⟩|⟨D,n⟩
   .exact absurd rfl l
   .rw[t9 (s e),aq (λz=>D z.symm)];exact λw=>y k u n w.symm
  .rcases iA B with⟨rfl,n⟩|⟨D,n⟩
   .rw[t9 (s B),aq (λz=>g z.symm)];exact y j c q
   .rw[aq (λz=>g z.symm),aq (λz=>D z.symm)];exact r.dv.dj j k c u q n l
def Ox:MS K E (qA E3 (lN i)) (KU i):=λF0 H0 F H σ ρ D r q p a=>q F _ _ (.refl _) (r.setD a)
def KD i (d:X.N.Nodup) (c:IQ X.env.scope x:=by first|exact Or.inl rfl|exact Or.inr rfl) (f:X.N[i]? = some x:=by rfl) (a:swapsWith (.Dict [] [] pd) (some (.Name x pos')) pos.line X.env=pure false:=by rfl) (b:X.fn x=true\/X.env.scope.names.lookup x=some .local:=by first|exact .inl rfl|exact .inr rfl|assumption) :
  xy K E X (.Assign [.Name x pos'] (.Dict [] [] pd) pos) (qA E3 (lN i)) (KU i):=⟨BX d f c J8 a b,Ox⟩
@[simp] noncomputable def wY(ρ:En)(i:Nat):M (List (LI×T)):=match ρ[i]? with
 |some (some (.d kvs))=>.ok kvs
 |_=>.bad
def Jh(h:wY ρ i=.ok kvs):ρ[i]? = some (some (.d kvs)):=by
 unfold wY at h;split at h
 .rename_i a e;cases h;exact e
 .cases h
noncomputable def UQ(ρ:En)(i:Nat)(kvs:List (LI×T))(t:T):T->O
 |.tup ks=>match kc ks with
  |some ns=>if kvs.length<sizeLine then .nx (ρ.set i (some (.d (tH kvs ns t)))) else .bad
  |none=>.bad
 |_=>.bad
@[simp] noncomputable def yP(i:Nat)(b f:En->M T):En->O:=λρ=>.of (wY ρ i) λa=>.of (f ρ) λt=>.of (b ρ) λk=>UQ ρ i a t k
def Sr.changeD(r:Sr K F0 H0 F H σ ρ)(e:ρ[i]? = some (some (.d kvs)))(I:σ[i]? = some (some (.ref a)))(P:F a=none)(R:H0 a=none)(N:H a=some (.dT xs))(hy:DR K F ys kvs'):Sr K F0 H0 F (jY H a (.dT ys)) σ (ρ.set i (some (.d kvs'))):=by
 obtain⟨ad,h1,h2⟩:=r.ov;refine⟨⟨r.gr.ff,λp u q=>?_,λp u q=>?_,r.gr.nw⟩,by simp[r.len],λj t q=>?_,⟨ad,λj v q=>?_,λj k v D q y g=>?_⟩,λQ he=>?_,λj l' m A q=>?_,⟨λj o q=>?_,λj k o s q y g=>?_⟩⟩
 .rw[ie (i7 q P)];exact r.gr.fh p u q
 .rw[ie (i7 q R)];exact r.gr.hh p u q
 .rcases iA q with⟨rfl,c⟩|⟨n,c⟩
  .cases c
  .exact r.pv j t c
 .rcases iA q with⟨rfl,c⟩|⟨n,c⟩
  .cases c
  .obtain⟨a',b',c',m,C,z'⟩:=h1 j v c;exact⟨a',b',c',m,by rw[ie (λz=>by rw[z,N]at C;cases C)];exact C,z'⟩
 .rcases iA q with⟨rfl,c⟩|⟨n,c⟩
  .cases c
  .rcases iA y with⟨rfl,l⟩|⟨S,l⟩
   .cases l
   .exact h2 j k v D c l g
 .have L:=r.lv Q he;have B:Q.2.1≠a:=λw=>by have:=L.h;rw[w,N]at this;cases this
  refine⟨by rw[ie B];exact L.h,L.f,L.z,λj v q=>?_⟩;rcases iA q with⟨rfl,c⟩|⟨n,c⟩
  .cases c
  .exact L.d j v c
 .rcases iA q with⟨rfl,c⟩|⟨n,c⟩
  .cases c
  .exact r.sl j l' m A c
 .rcases iA q with⟨rfl,c⟩|⟨n,c⟩
  .cases c;exact⟨a,I,P,R,ys,ig,hy⟩
  .obtain⟨b,J,Z,Y,zs,U,e5⟩:=r.dv.at_ j o c;have:b≠a:=λz=>r.dv.dj j i o kvs c e n (by rw[J,I,z]);exact⟨b,J,Z,Y,zs,by rw[ie this];exact U,e5⟩
 .rcases iA q with⟨rfl,c⟩|⟨n,c⟩
  .rcases iA y with⟨rfl,l⟩|⟨S,l⟩
   .exact absurd rfl g
   .exact r.dv.dj j k kvs s e l g
  .rcases iA y with⟨rfl,l⟩|⟨S,l⟩
   .exact r.dv.dj j k o kvs c e g
   .exact r.dv.dj j k o s c l g
def Oy(h:ME K E t f)(hk:ME K E tk fk):MS K E (MY (oQ i) tk t) (yP i (pS fk) (pS f)):=λF0 H0 F H σ ρ D r q=>by
 unfold yP at q;cases e:wY ρ i with
 |bad=>rw[e]at q;exact q.elim
 |er C n=>unfold wY at e;split at e<;>cases e
 |ok kvs=>
  rw[e]at q;have s:=Jh e;obtain⟨a,l,_⟩:=r.dv.at_ i kvs s;refine h.inB r q λx v F' H' g S Y U=>⟨_,l,?_⟩;refine hk.inB Y U λy w I R J k z u=>?_;obtain⟨Q,j,Z,za,xs,A,dr⟩:=z.dv.at_ i kvs s;rw[l]at j;have:a=Q:=by simpa using j
  subst this;cases k with
  |tup h rs=>
   rename_i b vs B;have c:(match kc B with
    |some ns=>if kvs.length<sizeLine then O.nx (ρ.set i (some (.d (tH kvs ns x)))) else .bad
    |none=>.bad).res K E F0 H0 I D:=u
   cases o:kc B with
   |none=>rw[o]at c;exact c.elim
   |some ns=>
    rw[o]at c;dsimp only at c;by_cases m:kvs.length<sizeLine
    .rw[aQ m]at c;have N:=nX o;rw[N]at rs;have L:=rs.ints;have P:R b=some (.tup ((ns.map Sum.inl).map L2.kV)):=by rw[aI,J.fh _ _ h,L];rfl
     refine⟨a,_,rfl,MK.t A P (by rw[Paired.length dr];exact m),?_⟩;exact c I _ _ (.refl _) (z.changeD s l Z za A (dr.put ns (S.mono J.ff)))
    .rw[aR m]at c;exact c.elim
  |_=>exact u.elim
def Dq i (hr:jZ k X.A) (c:PE X (.Name x p) (oQ i)) (a:Pm K E X i_ tk fk) (hv:Pm K E X v t f) (b:swapsWith v (some (.Subscript (.Name x p) i_ pos')) pos.line X.env=pure false:=by rfl) :
  xy K E X (.Assign [.Subscript (.Name x p) i_ pos'] v pos) (MY (oQ i) tk t) (yP i (pS fk) (pS f)):=⟨OW (Li hr) c a.pe hv.pe b,Oy hv.me a.me⟩
@[simp] noncomputable def vn(i:Nat):En->O:=λρ=>match ρ[i]? with
 |some (some (.d kvs))=>.rf (kvs.map λa=>tI a.1)
 |_=>.bad
def QW:List V->Hp->VK->Prop:=λd H Q=>∃a c,d=[.ref a]/\H a=some (.dT c)/\∀(l:Addr) (bs:List Addr),H l=none->bs.length=c.length->
  (∀(i:Nat) (b:Addr),bs[i]? = some b->∃k v,c[i]? = some (k,v)/\H b=some (.tup (k.map L2.kV)))->Q (.ref l) (jY H l (.lst (bs.map V.ref)))
def E8:MS K E (CC (J4 QW (ux (oQ i) yi))) (vn i):=λF0 H0 F H σ ρ D r q=>by
 classical
 unfold vn at q;split at q
 .rename_i s e;obtain⟨a,S,fa,za,U,hx,dr⟩:=r.dv.at_ i s e;refine⟨_,S,a,U,rfl,hx,λl bs w n P=>?_⟩;let u:Hp:=λc=>if c∈bs then H c else F c
  have f:∀c,c∈bs->u c=H c:=λc b=>aQ b;have d:∀c,c∉bs->u c=F c:=λc b=>aR b;have tp:∀c,c∈bs->∃A,H c=some (.tup A):=λc b=>by obtain⟨j,hj⟩:=dF.mp b;obtain⟨k,v,_,h⟩:=P j c hj;exact⟨_,h⟩
  have sF:iS F u:=λc o h=>by
   by_cases b:c∈bs
   .rw[f c b];exact r.gr.fh c o h
   .rw[d c b];exact .of h
  have R:l∉bs:=λb=>by obtain⟨A,h⟩:=tp l b;rw[w]at h;cases h
  have C:iS H (jY H l (.lst (bs.map V.ref))):=oY w;refine q l (bs.map V.ref) u _ ⟨r.gr.ff.trans sF,λc o h=>?_,r.gr.hh.trans C,λc b=>?_⟩ (iW r.gr.hh w) (by rw[d l R];exact iW r.gr.fh w) ig (zP (by simp[n,Paired.length dr]) λj t m=>?_)
  .by_cases b:c∈bs
   .rw[f c b]at h;exact C c o h
   .rw[d c b]at h;exact r.gr.fh.trans C c o h
  .by_cases N:c∈bs
   .obtain⟨A,h⟩:=tp c N;cases z:H0 c with
    |none=>exact .inr (.inl rfl)
    |some o=>exact .inr (.inr ⟨A,by have k:=r.gr.hh c o z;rw[h]at k;rw[yO k λ_ _ y=>nomatch y]⟩)
   .rw[d c N]at b;exact r.gr.nw c b
  .rw[av]at m;cases B:s[j]? with
   |none=>rw[B]at m;cases m
   |some kv=>
    rw[B]at m;have I:tI kv.1=t:=by simpa using m
    have g:j<bs.length:=by rw[n,Paired.length dr];exact (aa.mp B).1
    obtain⟨k,v,Z,L⟩:=P j _ (ag g);obtain⟨Y,J,Q,_⟩:=xk dr Z;rw[B]at J;cases J;refine⟨.ref bs[j],by rw[av,ag g];rfl,?_⟩;rw[<-I];have e5:k=kv.1.map Sum.inl:=Q;rw[e5,aI]at L;exact .tup (by rw[f _ (aV g)];exact L) (iK.of_ints _)
 .exact q.elim
def LM i (f:X.calm=true) (b:X.mg "list" = none) (c:PE X (.Name x p) (oQ i)) (d:Gl X "list" :=by rfl) (a:starEach [Expr.Name x p] X.env=[(false,eval (.Name x p) X.env)]:=by rfl) :
  xy K E X (.Return (some (.Call (.Name "list" p1) [.Name x p] [] pos1)) pos) (CC (J4 QW (ux (oQ i) yi))) (vn i):=
 ⟨CK (w9 (FY f) d b mQ (r9 c xh a) (by decide) (by decide) a rfl),E8⟩
end
section
variable {K:W.Frag}{E:XK}{X:Cx}{t:TE}
@[simp] noncomputable def A1(i:Nat)(f:En->M ba):En->O:=λa=>.of (ou a i) λb=>.of (f a) λc=>if b.length<sizeLine then .nx (a.set i (some (.o (b++[.lst c])))) else .bad
def L7(m:∀l o H,H l=some (.lst o)->T7 K "list" (.ref l) H)(h:MF K E t f):MS K E (vR (Js K i t)) (A1 i (AB f)):=λx L F H z u D r q=>by
 unfold A1 at q;cases e:ou u i with
 |bad=>rw[e]at q;exact q.elim
 |er C n=>unfold ou at e;split at e<;>cases e
 |ok ts=>rw[e]at q;have k:=vD e;obtain⟨N,w,_⟩:=r.ov;obtain⟨a,_,_,B,d,_⟩:=w i ts k;refine⟨_,a,m _ _ _ d,?_⟩;refine h.inB r q λI l y J P g p b hv hr s=>?_;have v:=g.take hv b p;obtain⟨A,j,c⟩:=Al (r.grow v) k (.lst ig (hr.mono (lQ b))) (s.go (lQ b));rw[a]at j;cases j;exact c
variable {e:Expr}{te:TE}{ff:Pe->M ba}{p apos pos pos':Pos}
def Jg i (hv:PE X (.Name x p) (oQ i)) (g:Jw K E X e te ff) (f:starEach [e] X.env=(false,eval e X.env)::starEach [] X.env:=by rfl) (j:X.K=K:=by rfl)
  (a:attributeBase (.Name x p) "append" X.env (eval (.Name x p) X.env)=eval (.Name x p) X.env:=by rfl)
  (c:((backTo pos (starEach [e] X.env)).all (λx=>!x.1)&&(backToKw pos (keywordEach [] X.env)).all (λx=>x.1.isSome)&&decide (([e]:List Expr).length+([]:List Keyword).length+(if ([]:List Keyword).isEmpty then 0 else 1)<30))=true:=by rfl)
  (b:(apos.endLine==pos.line)=true:=by rfl) (hplain:(backTo pos (starEach [] X.env)).any (·.1)=false:=by rfl) (d:swapsWith (.Call (.Attribute (.Name x p) "append" apos) [e] [] pos) none pos'.line X.env=pure false:=by rfl) :
  xy K E X (.Expr (.Call (.Attribute (.Name x p) "append" apos) [e] [] pos) pos') (vR (Js K i te)) (A1 i (AB ff)):=by
 subst j;exact⟨yF (Lo PySem.F.plainAttrs_list PySem.F.slot_list_append PySem.F.type_list_append wz hv (r9 g.pe xh f) a c b f hplain) d,L7 (λl k H h=>Gw h) g.mf⟩
end
end L3
namespace L3
open PySem L2 PySem.Spec PyProof.Rows
def RG:Nat->(List Value->Prop)->Prop
 |0,P=>P []
 |k+1,P=>∀v,RG k λus=>P (v::us)
theorem rO:∀{k} {P},RG k P->∀us:List Value,us.length=k->P us
 |0,_,h,[],_=>h
 |k+1,_,h,v::us,e=>rO (h v) us (by simpa using e)
def VJ(X:Cx):Prop:=∀x,X.env.scope.names.lookup x=some .cell->∃c,X.env.cells.lookup x=some c
structure Zx(P:Program)(w:World)(K:W.Frag)(mg:Str->Option Value)(base:Heap):Prop where
 here:True
section
variable {P:Program}{w:World}{K:W.Frag}{mg:Str->Option Value}{base:Heap}
noncomputable abbrev CP(_:Zx P w K mg base)(x:Str)(k:Nat)(F:List T->M T):Prop:=nF P w K mg base x k (yc K F)
noncomputable abbrev CF(_:Zx P w K mg base)(x:Str)(k:Nat)(F:List T->M ba):Prop:=nF P w K mg base x k (Dw K F)
end
section
variable {P:Program}{w:World}{K:W.Frag}{mg:Str->Option Value}{base:Heap}{x m qual:Str}{C:Addr}{st:Stmt}{g:En->O}
noncomputable abbrev U4(P:Program)(w:World)(K:W.Frag)(mg:Str->Option Value)(base:Heap)(k:Nat)(qual:Str)(st:Stmt)(N:List Str)(g:En->O):Prop:=∀{f:Addr} {cdv:Value} {A:Around} {outer:List Env} {s:Shared} {H:Hp} {E:XK},N.Nodup->VJ (sQ Av P w K mg base N qual (hU st) f cdv A outer s H E).nox->jZ k (A.deeper (envOfC qual (hU st) s.heap.objs.size f cdv))->∃t,uL K E (sQ Av P w K mg base N qual (hU st) f cdv A outer s H E).nox (jv st) t g
abbrev Ue(x qual:Str)(st:Stmt)(ps:List Str):Prop:=∀(kV doc pm:Value) (an:Option Addr) (cdv ct:Value),RG ps.length λus=>bindArgs (W.fnOf x qual (kW st) (jv st) (hU st) .none kV doc pm an cdv ct) ⟨us,[]⟩=pure (ps.zip us)
def jQ(_:Zx P w K mg base) k F N ps (e:F=lW ps.length N.length g) (D:gX K mg x st) (j:U4 P w K mg base k x st N g) (S:kq N ps (hU st):=by constructor<;>first|rfl|decide +kernel)
  (hb:Ue x x st ps:=by first|exact λ_ _ _ _ _ _ _ _=>rfl|exact λ_ _ _ _ _ _ _=>rfl|exact λ_ _ _ _ _ _ _ _ _=>rfl|exact λ_ _ _ _ _ _ _ _ _ _=>rfl|exact λ_ _ _ _ _ _ _ _ _ _ _=>rfl|exact λ_ _ _ _ _ _=>rfl) :
  nF P w K mg base x (k+1) (yc K F):=e▸VZ D S (λa b c d e f l i=>rO (hb a b c d e f) l i) λ_ _ _ _ _ _ _ r=>j S.nd (λ_ h=>pH h) r
def q8(_:Zx P w K mg base) k F N ps (e:F=yj ps.length N.length g) (D:gX K mg x st) (hT:U4 P w K mg base k x st N g) (S:kq N ps (hU st):=by constructor<;>first|rfl|decide +kernel)
  (hb:Ue x x st ps:=by first|exact λ_ _ _ _ _ _ _ _=>rfl|exact λ_ _ _ _ _ _ _=>rfl|exact λ_ _ _ _ _ _ _ _ _=>rfl|exact λ_ _ _ _ _ _ _ _ _ _=>rfl|exact λ_ _ _ _ _ _ _ _ _ _ _=>rfl|exact λ_ _ _ _ _ _=>rfl) :
  nF P w K mg base x (k+1) (Dw K F):=e▸Ww D S (λa b c d e f us hl=>rO (hb a b c d e f) us hl) λ_ _ _ _ _ _ _ r=>hT S.nd (λ_ h=>pH h) r
def QM(_:Zx P w K mg base) k F N ps (e:F=lW ps.length N.length g) (n:AQ K C) (D:mJ K C m qual st) (j:U4 P w K mg base k qual st N g) (S:kq N ps (hU st):=by constructor<;>first|rfl|decide +kernel)
  (hb:Ue m qual st ps:=by first|exact λ_ _ _ _ _ _ _=>rfl|exact λ_ _ _ _ _ _ _ _=>rfl|exact λ_ _ _ _ _ _ _ _ _=>rfl) :
  lU P w K mg base C m (k+1) (yc K F):=e▸U2 n D S (λa b c d e f l i=>rO (hb a b c d e f) l i) λ_ _ _ _ _ _ _ r=>j S.nd (λ_ h=>pH h) r
def TR(_:Zx P w K mg base) k F N ps (e:F=yj ps.length N.length g) (n:AQ K C) (D:mJ K C m qual st) (j:U4 P w K mg base k qual st N g) (S:kq N ps (hU st):=by constructor<;>first|rfl|decide +kernel)
  (hb:Ue m qual st ps:=by first|exact λ_ _ _ _ _ _ _=>rfl|exact λ_ _ _ _ _ _ _ _=>rfl|exact λ_ _ _ _ _ _ _ _ _=>rfl) :
  lU P w K mg base C m (k+1) (Dw K F):=e▸Vl n D S (λa b c d e f l i=>rO (hb a b c d e f) l i) λ_ _ _ _ _ _ _ r=>j S.nd (λ_ h=>pH h) r
def UE(_:Zx P w K mg base) k F N ps (e:F=lW ps.length N.length g) (D:NN K x x st f fd) (a:U4 P w K mg base k x st N g) (S:kq N ps (hU st):=by constructor<;>first|rfl|decide +kernel) :
  pR P w K mg base Av (k+1) f fd ps (yc K F):=e▸Wu D S λ_ _ _ _ _ _ _ r=>a S.nd (λ_ h=>pH h) r
def Wf(_:Zx P w K mg base) k F N (e:F=AU C n f1 f2 g1 g2) (l:AQ K C) (j:nA K C f1) (z:nA K C f2) (p:W.makesIn K C=true) (o:W.keepIn K (.ref C)=true) (q:mg x=some (.ref C)) (D:mJ K C "__init__" qual st)
  (u:∀{f:Addr} {i:Value} {A:Around} {h:List Env} {s:Shared} {H:Hp} {E:XK},jZ k (A.deeper (envOfC qual (hU st) s.heap.objs.size f i))->Wi K E (sQ Av P w K mg base N qual (hU st) f i A h s H E).nox (jv st) f1 f2 g1 g2)
  (S:kq N N (hU st):=by constructor<;>first|rfl|decide +kernel) (hb:Ue "__init__" qual st N:=by exact λ_ _ _ _ _ _ _ _ _=>rfl) (ne:f1≠f2:=by decide) (B:N.length=n+1:=by rfl) :
  DW P w K mg base x C (k+1) (C7 K C F):=e▸Tx l j z ne D S p o q B (λa b c d e f v y=>rO (hb a b c d e f) v y) λ_ _ _ _ _ _ _ r=>u r
end
section
variable {K:W.Frag}{E:XK}{X:Cx}{tg elt iter:Expr}{ifs:List Expr}{scope:Scope}{wi:TI}{g:TG}{tt:TT}{te:TE}{fe:Pe->M T}{fi:Pe->M ba}{m:T->Pe->Option Pe}{ft:Pe->M Bool}{pos:Pos}{x:Str}
noncomputable abbrev Wx(K:W.Frag)(X:Cx)(scope:Scope)(N:List Str)(tg elt:Expr)(ifs:List Expr)(g:TG)(tt:TT)(te:TE)(m:T->Pe->Option Pe)(ft:Pe->M Bool)(fe:Pe->M T):Prop:=∀{C s₃ H ex pn},N.Nodup->VJ (oS X N scope C s₃ H ex pn)->T2 K (oS X N scope C s₃ H ex pn) tg g m/\MW K NI (oS X N scope C s₃ H ex pn) ifs tt ft/\Pm K NI (oS X N scope C s₃ H ex pn) elt te fe
def jz N ix (f:VJ X) (e:NK K E X tg iter wi fi) (a:Wx K X scope N tg elt ifs g tt te m ft fe) (d:Cw X.N X.env.scope scope N ix=true:=by rfl) (b:rS ix g:=by first|exact An rfl|exact Aj rfl rfl) (nd:N.Nodup:=by decide) (h:X.calm=true:=by rfl)
  (c:∀x,foldedSetIterable iter X.env x=pure x:=by intro _;rfl):Jw K E X (.ListComp elt [⟨tg,iter,ifs,0⟩] scope pos) (Lg ix wi g tt te) (kh ix fi m ft fe):=
 let L:=UH f d
 U5 h e L b (λ_ _ _ _ _=>a nd (Ki L)) c
def qE N ix i (k:X.N.Nodup) (n:VJ X) (l:NK K E X tg iter wi fi) (a:Wx K X scope N tg elt ifs g tt te m ft fe)
  (d:MF K E (Lg ix wi g tt te) (kh ix fi m ft fe)->MS K E (qA (Lg ix wi g tt te) (lN i)) gm) (f:Cw X.N X.env.scope scope N ix=true:=by rfl) (b:rS ix g:=by first|exact An rfl|exact Aj rfl rfl) (nd:N.Nodup:=by decide) (j:IQ X.env.scope x:=by first|exact Or.inl rfl|exact Or.inr rfl) (p:X.calm=true:=by rfl)
  (o:X.N[i]? = some x:=by rfl) (h:X.fn x=true\/X.env.scope.names.lookup x=some .local:=by first|exact .inl rfl|exact .inr rfl)
  (c:swapsWith (.ListComp elt [⟨tg,iter,ifs,0⟩] scope pos) (some (.Name x py)) spos.line X.env=pure true:=by rfl)
  (e:∀x,foldedSetIterable iter X.env x=pure x:=by intro _;rfl):xy K E X (.Assign [.Name x py] (.ListComp elt [⟨tg,iter,ifs,0⟩] scope pos) spos) (qA (Lg ix wi g tt te) (lN i)) gm:=
 let L:=UH n f
 Rh i k j p l L b (λ_ _ _ _ _=>a nd (Ki L)) d o h c e
end
end L3
namespace L3
open PySem L2 PySem.Spec PyProof.Rows
section
variable {K:W.Frag}{E:XK}{F H:Hp}{X:Cx}{a b:Expr}{ta tb:TE}{fa fb:Pe->M T}{pos:Pos}
theorem pV.dr:∀{xs} {kvs},pV K F xs kvs->DR K F xs kvs
 |_,_,.nil=>.nil
 |_,_,.cons h r=>.cons ⟨rfl,h⟩ (pV.dr r)
theorem DR.rd:∀{xs} {kvs},DR K F xs kvs->pV K F xs kvs
 |[],_,.nil=>.nil
 | (_,_)::_,_,.cons ⟨e,h⟩ r=>by cases e;exact .cons h (DR.rd r)
noncomputable def pK(kvs:List (LI×T))(k:LI):Option T:=(kvs.find? λc=>decide (c.1=k)).map (·.2)
theorem pV.val k:∀{xs} {kvs},pV K F xs kvs->(pK kvs k=none/\uZ xs (k.map Sum.inl)=none)\/∃t v,pK kvs k=some t/\uZ xs (k.map Sum.inl)=some v/\l7 K F v t
 |_,_,.nil=>.inl ⟨rfl,rfl⟩
 |_,_,.cons (k:=j) (v:=v) (t:=t) h r=>by
  unfold pK uZ;by_cases e:j=k
  .subst e;exact .inr ⟨t,v,by simp,by simp,h⟩
  .rw[List.find?_cons_of_neg (by simpa using e),List.find?_cons_of_neg (by simpa using λz=>e (yr z))];exact pV.val k r
def Ae:List T->Option (List (LI×T))
 |[]=>some []
 |.tup [.tup ks,v]::r=>(kc ks).bind λc=>(Ae r).bind λq=>some ((c,v)::q)
 |_=>none
noncomputable def vL(kvs c:List (LI×T)):List (LI×T):=c.foldl (λk q=>tH k q.1 q.2) kvs
@[simp] noncomputable def Ej:List T->M T
 |[.lst ts]=>match Ae ts with
  |some ps=>.ok (.dic (vL [] ps))
  |none=>.bad
 |_=>.bad
def J6 xs:M.NoE (Ej xs):=λC n=>by unfold Ej;split<;>first|(intro z;cases z;done)|(split<;>intro z<;>cases z)
theorem Mc:∀{vs} {ts} {ps},iK K F vs ts->Ae ts=some ps->∃l:List Pr,vs=l.map (λq=>.ref q.1)/\(∀q∈l,Pj F q)/\pV K F (l.map λq=>(q.2.2.1,q.2.2.2)) ps
 |_,[],_,.nil,e=>by cases e;exact⟨[],rfl,(λ_ h=>nomatch h),pV.nil⟩
 |_,t::ts,ps,.cons h r,e=>by
  unfold Ae at e;split at e
  .rename_i z;cases z
  .rename_i k v n z;cases z;cases d:kc k with
   |none=>rw[d]at e;cases e
   |some ns=>
    rw[d]at e;cases c:Ae ts with
    |none=>rw[c]at e;cases e
    |some q=>
     rw[c]at e;cases e;obtain⟨l,rfl,j,g⟩:=Mc r c;cases h with
     |tup h rs=>
      cases rs with
      |cons h1 rs=>
       cases rs with
       |cons hv rs=>
        cases rs;cases h1 with
        |tup hb rk=>
         rw[nX d]at rk;rename_i a f b m;refine⟨(a,b,ns.map Sum.inl,f)::l,rfl,λq i=>?_,.cons hv g⟩;rcases aF.mp i with rfl|z
         .exact⟨h,by rw[hb,rk.ints,aI];rfl⟩
         .exact j q z
  .cases e
theorem AV:∀l {xs} {kvs ps},pV K F (l.map λq=>(q.2.2.1,q.2.2.2)) ps->pV K F xs kvs->pV K F (xa xs l) (vL kvs ps)
 |[],_,_,ps,h,r=>by cases h;exact r
 |q::l,xs,kvs,ps,h,r=>by
  generalize e:(q::l).map (λq:Pr=>(q.2.2.1,q.2.2.2))=m at h;cases h with
  |nil=>cases e
  |cons h1 h2=>rw[bI]at e;obtain⟨c,g⟩:=List.cons.inj e;subst g;have f:=(Prod.mk.inj c).1;have d:=(Prod.mk.inj c).2;rename_i k v t i;show pV K F (xa (qY xs q.2.2.1 q.2.2.2) l) (vL (tH kvs k t) i);refine AV l h2 ?_;rw[f,d];exact (r.dr.put _ h1).rd
def Py:MC K (λf H Q=>∃l c,f=[.ref l]/\H l=some (.lst (c.map λq=>.ref q.1))/\(∀q∈c,Pj H q)/\∀d,H d=none->Q (.ref d) (jY H d (.dT (xa [] c)))) Ej:=⟨J6,λF H k f Q s r q=>by
 unfold Ej at q;split at q
 .split at q
  .rename_i m _ c e;cases r with
   |cons h t=>
    cases t;cases h with
    |lst h r=>obtain⟨l,rfl,i,j⟩:=Mc r e;refine⟨_,l,rfl,s _ _ h,λp e=>⟨s _ _ (i p e).1,s _ _ (i p e).2⟩,λd g=>?_⟩;exact q (.ref d) _ _ (.new s g) (.dic ig ((AV l j .nil).mono (Gr.new s g).ff))
  .exact q.elim
 .exact q.elim⟩
def PJ:bootBuiltins "dict" = some (.type "dict"):=by decide +kernel
def WR(hr:jZ k A):A.units+4<cLine:=by have:=hr.un;omega
noncomputable def GM(neg:Bool):T->T->M T
 |.tup ks,.dic kvs=>match kc ks with
  |some ns=>.ok (.bl (if neg then !(pK kvs ns).isSome else (pK kvs ns).isSome))
  |none=>.bad
 |_,_=>.bad
def Tz:R2:=λy x H Q=>∃a o,x=.ref a/\Dg H a y o/\Q (.bl o.isSome) H
def R4(c:X.A.units+1<cLine):rz X (compareOp .In) Tz:=by intro j s i H x y v u Q I f e h;obtain⟨a,o,rfl,g,q⟩:=h;cases e;exact V5 c I g f λk d=>⟨.bl _,H,d,rfl,q⟩
def Oi x y:M.NoE (GM neg x y):=λC n=>by unfold GM;split<;>first|(intro z;cases z;done)|(split<;>intro z<;>cases z)
def Uz{kvs:List (LI×T)}{c:LI}(s:iS F H)(f:F p=some (.tup vs))(g:iK K F vs (c.map T.int))(e:F d=some (.dT xs)):Dg H d (.ref p) (uZ xs (c.map Sum.inl)):=Dg.t (s _ _ e) (by rw[s _ _ f,g.ints,aI];rfl)
def SO:MR K Tz (GM false):=⟨Oi,λF H v w x y Q s e rb q=>by
 unfold GM at q;split at q
 .split at q
  .rename_i h kvs _ f g;cases e with
   |tup hp rk=>
    cases rb with
    |dic hd rd=>rw[nX g]at rk;refine⟨_,_,rfl,Uz (kvs:=kvs) s hp rk hd,?_⟩;rcases rd.val f with⟨d,c⟩|⟨t,v,d,c,_⟩<;>(rw[d]at q;rw[c];exact kV.now q s (.bl _))
  .exact q.elim
 .exact q.elim⟩
def QB(hr:jZ k X.A)(d:Pm K E X a ta fa)(hb:Pm K E X b tb fb)(c:behindInMarks .In b=false:=by rfl):ET K E X (.Compare a [.In] [b] pos) (Bh (zv Tz ta tb)) (iD (gW (GM false) fa fb)):=iO (R4 (Li hr)) SO d hb c
noncomputable def MQ:T->T->M T
 |.dic kvs,.tup ks=>match kc ks with
  |some ns=>match pK kvs ns with
   |some t=>.ok t
   |none=>.bad
  |none=>.bad
 |_,_=>.bad
def Sw(n:ME K E ta fa)(hb:ME K E tb fb):ME K E (L8 ta tb) (gW MQ fa fb):=λF H B I Q s V q=>by
 refine n.run s V q λx v C L e r u=>?_;refine hb.run e.fh (V.mono e.ff) u λy w z k h o c=>?_;have l:=r.mono h.ff;unfold MQ at c;split at c
 .split at c
  .rename_i kvs J _ p A;split at c
   .rename_i t d;cases l with
    |dic hd rd=>
     cases o with
     |tup hp rk=>
      rw[nX A]at rk;rcases rd.val p with⟨f,i⟩|⟨D,j,f,i,m⟩
      .rw[f]at d;cases d
      .rw[f]at d;cases d;have g:=Uz (kvs:=kvs) h.fh hp rk hd;rw[i]at g;exact⟨_,j,rfl,g,c _ z k (e.trans h) m⟩
   .exact c.elim
  .exact c.elim
 .exact c.elim
def Tg(hr:jZ k X.A)(c:Pm K E X a ta fa)(hb:Pm K E X b tb fb)(d:Ta b:=by intro _ _;rfl):Pm K E X (.Subscript a b pos) (L8 ta tb) (gW MQ fa fb):=⟨Po (Li hr) c.pe hb.pe d,Sw c.me hb.me⟩
end
section
variable {P:Program}{w:World}{K:W.Frag}{mg:Str->Option Value}{base:Heap}{x:Str}{st:Stmt}
def Va N ps (e:F=λ_=>.bad) (D:gX K mg x st) (S:kq N ps (hU st):=by constructor<;>first|rfl|decide +kernel)
  (hb:Ue x x st ps:=by first|exact λ_ _ _ _ _ _ _ _=>rfl|exact λ_ _ _ _ _ _ _=>rfl|exact λ_ _ _ _ _ _ _ _ _=>rfl):nF P w K mg base x (k+1) (yc K F):=by
 have i:∀g H Q E,¬yc K F g H Q E:=λg H Q E h=>by subst e;obtain⟨_,_,_,_,_,z⟩:=h
 exact CQ D S (λa b c d e f j l=>rO (hb a b c d e f) j l) (λg H Q E h=>absurd h (i _ _ _ _)) λ_ _ _ _ _ _ _ _ _ _ h=>absurd h (i _ _ _ _)
end
end L3
namespace CL
open PySem L2 L3
structure Cs where
 Cutting:Addr
 Desk:Addr
 CutError:Addr
 NoCutting:Addr
 NoTable:Addr
 NoFraction:Addr
 NoSpot:Addr
 NoSigns:Addr
 NoLand:Addr
 NoFace:Addr
 NoNumber:Addr
 NoText:Addr
 NoDeed:Addr
noncomputable abbrev ah:=gJ 1
noncomputable abbrev ap:=gJ 0
noncomputable abbrev bf:=gJ 2
def vP(c:Cs):En->O:=(gZ (setO 2 (ju (gW xo ap ah)))
  (gZ (setO 0 (ju ah))
  (setO 1 (ju bf))))
noncomputable abbrev ac:=cM (.int 0)
noncomputable abbrev bo:=gI ap gM
noncomputable abbrev dm:=iD (gW (iy true) ah ac)
def xi(c:Cs):En->O:=(gZ (λa=>mX dm (vP c) ((λa=>match a with|_::some (.p (.int j))::_=>j.natAbs+1|_=>0) a) a)
  (iU (kg xE bo)))
def jI(c:Cs):List T->M T:=lW 2 3 (xi c)
noncomputable abbrev bd:=gI ah gM
noncomputable abbrev bv:=gI ap bd
noncomputable abbrev fI:=iD (gW (iy false) ah ac)
def Sn(c:Cs):En->O:=(gZ (lS fI (λ_=>.bad) iN)
  (gZ (setO 2 (ju (gS bv (jI c))))
  (gZ (lS (iD (gW EU ah ac)) (setO 2 (ju (pU (λi=>.int (-i)) bf))) iN)
  (iU (jX (gI (gW pD ap bf) (gI (gW pD ah bf) gM)))))))
def r6(c:Cs):List T->M T:=lW 2 3 (Sn c)
noncomputable abbrev ca:=gW iP ap ab
noncomputable abbrev di:=gW iP ap ac
noncomputable abbrev g8:=gW iP ah ab
noncomputable abbrev k4:=gW iP ah ac
def Ti(c:Cs):En->O:=(gZ (lS (iD (gW (iy false) k4 ac)) (λ_=>.bad) iN)
  (iU (gS (gI (gW jE di g8) (gI (gW jE ca k4) gM)) (r6 c))))
def sI(c:Cs):List T->M T:=lW 2 2 (Ti c)
noncomputable abbrev ei:=gW iP ap ah
def qu(c:Cs):En->O:=(gZ (lS (iD (gW EU ah (kg kH bo))) (iU ei) iN)
  (iU ac))
def iM(c:Cs):List T->M T:=lW 2 2 (qu c)
def EI(c:Cs):En->O:=(iU (B2 (pE "int" ap) (DF (pE "bool" ap))))
def iT(c:Cs):List T->M T:=lW 1 1 (EI c)
def Az(c:Cs):En->O:=(NV 0 1 (gI ah (gI (gW xo ap ah) gM)))
def B6(c:Cs):En->O:=(gZ (setO 0 (ju (kg xE bo)))
  (gZ (setO 1 (ju (kg xE bd)))
  (gZ (λa=>mX (iD (gW BY ah ac)) (Az c) ((λa=>match a with|_::some (.p (.int j))::_=>j.natAbs+1|_=>0) a) a)
  (iU ap))))
def kK(c:Cs):List T->M T:=lW 2 2 (B6 c)
noncomputable abbrev be:=iU (cM (.bl false))
noncomputable abbrev ek:=cM (.int 2)
noncomputable abbrev j2:=iD (pE "tuple" ap)
def wg(c:Cs):En->O:=(gZ (lS (rV (lA j2) (rV (iD (gW (iy true) (kg kH bo) ek)) (rV (lA (iD (gS (gI di gM) (iT c)))) (lA (iD (gS (gI ca gM) (iT c))))))) be iN)
  (iU (B2 (gW BY ca ac) (gW (iy false) (gS (gI di (gI ca gM)) (kK c)) ab))))
def jM(c:Cs):List T->M T:=lW 1 1 (wg c)
def NP(c:Cs):En->O:=(iU (gS (gI (gW vf (gW jE di g8) (gW jE k4 ca)) (gI (gW jE ca g8) gM)) (r6 c)))
def vx(c:Cs):List T->M T:=lW 2 2 (NP c)
def NY(c:Cs):En->O:=(iU (gS (gI (gW jE di k4) (gI (gW jE ca g8) gM)) (r6 c)))
def vN(c:Cs):List T->M T:=lW 2 2 (NY c)
def Rl(c:Cs):En->O:=(iU (gW EU (gW jE di g8) (gW jE k4 ca)))
def lT(c:Cs):List T->M T:=lW 2 2 (Rl c)
def B3(c:Cs):En->O:=(gZ (setO 2 (ju (gS bv (kK c))))
  (iU (jX (gI (gW pD ap bf) (gI (gW pD ah bf) gM)))))
def kG(c:Cs):List T->M T:=lW 2 3 (B3 c)
def Fc(c:Cs):En->O:=(iU (gW pD di ca))
def mm(c:Cs):List T->M T:=lW 1 1 (Fc c)
def CA(c:Cs):En->O:=(iU (pU (λi=>.int (-i)) (gW pD (pU (λi=>.int (-i)) di) ca)))
def lJ(c:Cs):List T->M T:=lW 1 1 (CA c)
def HX(c:Cs):En->O:=(gZ (lS (iD (gW BY ap ac)) (iU ab) iN)
  (gZ (lS (iD (gW EU ap ac)) (iU (pU (λi=>.int (-i)) ab)) iN)
  (iU ac)))
def kD(c:Cs):List T->M T:=lW 1 1 (HX c)
noncomputable abbrev em:=cM (.int 3)
def Ii(c:Cs):En->O:=(iU (B2 (gS bo (iT c)) (VR Mw Mw ab ap em)))
def ph(c:Cs):List T->M T:=lW 1 1 (Ii c)
def wV(c:Cs):Pe->M T:=(gS bo (iT c))
def wH(c:Cs):Pe->M T:=(gW (iy true) ap ac)
noncomputable abbrev bP:=jT 0
noncomputable abbrev gk:=kg kH bd
def LU(c:Cs):En->O:=(gZ (lS (rV (lA (iD (pE "tuple" ah))) (iD (gW (iy true) gk (gW jF ap ab)))) be iN)
  (gZ (lS (lA (iD (kg BM (gI (jy (kh [none] (jh ah) bP (λ_=>.ok true) (wV c))) gM)))) be iN)
  (iU (kg xY (gI (jy (kh [none] (jh (j7 ah (λ_=>.ok none) (jo ap))) bP (λ_=>.ok true) (wH c))) gM)))))
def qQ(c:Cs):List T->M T:=lW 2 2 (LU c)
noncomputable abbrev eB:=gW jF ah ab
def sX(c:Cs):En->O:=(setO 1 (ju eB))
def AE(c:Cs):En->O:=(gZ (setO 1 (ju ac))
  (gZ (λa=>mX (iD (gW (iy false) ei ac)) (sX c) ((λa=>match a with|some (.p (.tup ts))::_=>ts.length+1|_=>0) a) a)
  (iU ah)))
def mM(c:Cs):List T->M T:=lW 1 2 (AE c)
noncomputable abbrev bi:=gJ 4
noncomputable abbrev bm:=gJ 3
def uF(c:Cs):Pe->M T:=(gW (iy false) (gW jE ap (gW iP bf bm)) (gW jE ah (gW iP bi bm)))
noncomputable abbrev a0:=nM 2 (je (jT 0) (je (jT 1) nv))
def BU(c:Cs):En->O:=(gZ (setO 2 (ju (gS bo (mM c))))
  (iU (kg BM (gI (jy (kh [none,none,some 1,some 2,some 0] (m7 bv) a0 (λ_=>.ok true) (uF c))) gM))))
def nC(c:Cs):List T->M T:=lW 2 3 (BU c)
def rF(c:Cs):Pe->M T:=(gS bv (nC c))
noncomputable abbrev bc:=gI (gJ 2) gM
noncomputable abbrev ld:=cM (.int 7)
def EO(c:Cs):En->O:=(gZ (lS (rV (iD (gW Q6 gk ld)) (lA (iD (gS (gI ap bc) (qQ c))))) be iN)
  (iU (DF (kg xY (gI (jy (kh [none,some 2] (jh ah) bP (λ_=>.ok true) (rF c))) gM)))))
def nh(c:Cs):List T->M T:=lW 3 3 (EO c)
noncomputable abbrev gn:=gI bm gM
def si(c:Cs):En->O:=(gZ (lS (lA (iD (gS (gI ap (gI bf gn)) (nh c)))) (λ_=>.bad) iN)
  (rj 2 (ju (kg j8 gn))))
noncomputable abbrev jd:=rL (lstM gM)
def zj(c:Cs):En->O:=(gZ (lS (rV (lA (iD (gS bo (ph c)))) (lA (iD (pE "list" ah)))) (λ_=>.bad) iN)
  (gZ (pX 2 jd)
  (gZ (nR (jh ah) (j6 3) (si c))
  (iU (kg j8 bc)))))
def lx(c:Cs):List T->M T:=lW 2 4 (zj c)
noncomputable abbrev ip:=gI ah bc
def jg(c:Cs):List T->M T:=AU c.Cutting 2 "own_cuts" "own_dims" (gS ip (lx c)) ah
def yZ(c:Cs):En->O:=(iU (EF c.Cutting "own_dims" ap))
def jC(c:Cs):List T->M T:=lW 1 1 (yZ c)
def zu(c:Cs):En->O:=(qg (IX pQ (gI (EF c.Cutting "own_cuts" ap) gM)))
def jD(c:Cs):List T->M ba:=yj 1 1 (zu c)
def Am(c:Cs):En->O:=(iU (kg kH (gI (EF c.Cutting "own_cuts" ap) gM)))
def k9(c:Cs):List T->M T:=lW 1 1 (Am c)
def Ew(c:Cs):En->O:=(setO 3 (ju (gW pD bm bf)))
noncomputable abbrev bq:=gJ 5
noncomputable abbrev eH:=cM (.int 10)
def GA(c:Cs):En->O:=(gZ (lS (iD (gW Q6 ap (gW rq eH (cM (.int 18))))) (gZ (setO 3 (ju ap))
  (gZ (tJ (lE bd) (j6 4) (Ew c))
  (iU (gW xo bm bf)))) iN)
  (gZ (setO 5 (ju (gW xo (gW jE (gW jF (gW jF (gW xo ap (cM (.int 1000000007))) (gW jE (cM (.int 1009)) ah)) (cM (.int 17))) (cM (.int 69621))) (cM (.int 2147483647)))))
  (gZ (setO 5 (ju (gW xo (gW jF (gW jF (gW jE bq bq) (gW jE (cM (.int 40503)) ah)) (cM (.int 5))) (cM (.int 2147483629)))))
  (iU (gW xo (gW pD (gW xo (gW jE bq (cM (.int 48271))) (cM (.int 2147483647))) (cM (.int 32))) bf)))))
def iC(c:Cs):List T->M T:=lW 3 6 (GA c)
def xG(c:Cs):En->O:=(lS (iD (gW (iy true) (gW jE (gW iP ap bf) (gW iP ah bm)) (gW jE (gW iP ap bm) (gW iP ah bf)))) be iN)
def DU(c:Cs):En->O:=(tJ (lE bc) (j6 3) (xG c))
noncomputable abbrev ii:=cM (.bl true)
def Gn(c:Cs):En->O:=(gZ (tJ (lE (gI (kg kH bo) gM)) (j6 2) (DU c))
  (iU ii))
def kQ(c:Cs):List T->M T:=lW 2 4 (Gn c)
def zY(c:Cs):Pe->M T:=(gW vf (gS (gI ah (gI ap (gI ld gM))) (iC c)) em)
def zV(c:Cs):Pe->M T:=(gW jE ap ah)
def z9(c:Cs):Pe->M T:=(gW jE ap ah)
noncomputable abbrev cb:=jy (lstM gM)
noncomputable abbrev db:=jy (yg (jy (lstM (gI ac gM))) ah)
noncomputable abbrev dd:=gJ 6
noncomputable abbrev df:=gI bi gM
noncomputable abbrev gK:=gI ap (gI (cM (.int 8)) (gI (kg kH bc) gM))
noncomputable abbrev ia:=cM (.int 4)
noncomputable abbrev j1:=gW (iy false) bq ab
noncomputable abbrev ky:=gW (iy true) bf cb
def AY(c:Cs):En->O:=(gZ (pX 3 (rL (kh [none,some 0] (lE bd) bP (λ_=>.ok true) (zY c))))
  (gZ (lS (iD (gW (iy false) bm db)) (zb 3 (pS (gS (gI ap (gI ia bd)) (iC c))) (pS (gW jF ab (gS (gI ap (gI (cM (.int 5)) (gI em gM))) (iC c))))) iN)
  (gZ (setO 4 (ju (gW vf (gS (gI ap (gI (cM (.int 6)) (gI (cM (.int 9)) gM))) (iC c)) ia)))
  (gZ (setO 5 (ju (gS (gI ap (gI ld (gI ld gM))) (iC c))))
  (gZ (lS (mj (iD j1) (iD ky)) (pX 3 (rL (IX pQ (gI (j7 (gW iP bf (gS gK (iC c))) (λ_=>.ok none) (jo ah)) gM)))) iN)
  (gZ (lS (rV (iD (gW (iy false) bq ek)) (iD (gW (iy false) bq em))) (setO 4 (pS (kg Gf (gI (jy (kh [none,none] (m7 (gI bm (gI (jy (lstM (gI ab (gI ek (gI (pU (λi=>.int (-i)) ab) gM))))) gM))) a0 (λ_=>.ok true) (zV c))) gM)))) iN)
  (gZ (lS (iD (gW (iy false) bq ia)) (gZ (setO 6 (ju (gW jE (gW jF ab (gS (gI ap (gI (cM (.int 9)) (gI (gW rq eH (cM (.int 6))) gM))) (iC c))) (gW iP (jy (lstM (gI ab (gI ab (gI (gW rq eH (cM (.int 18))) gM))))) (gS (gI ap (gI (cM (.int 11)) (gI em gM))) (iC c))))))
  (gZ (pX 3 (AB (kh [none,some 6] (jh bm) bP (λ_=>.ok true) (z9 c))))
  (setO 4 (ju (gW jF (gW jE bi dd) (gS (gI ap (gI eH (gI ld gM))) (iC c))))))) iN)
  (iU (kg j8 (gI (jy (yQ bm (jy (lstM df)))) gM))))))))))
def oZ(c:Cs):List T->M T:=lW 3 7 (AY c)
def sC(c:Cs):Pe->M T:=ap
def xK(c:Cs):En->O:=(gZ (setO 6 (pS (gS (gI (gS (gI ap (gI (gW jF ah bq) gM)) (iM c)) (gI bf df)) (oZ c))))
  (lS (iD (gW (iy false) (jy (kh [none,some 6] (jh bi) bP (iD (gS (gI ah bo) (kQ c))) (sC c))) cb)) (rj 4 (ju dd)) iN))
def EY(c:Cs):En->O:=(gZ (pX 4 jd)
  (gZ (tJ (lE gn) (j6 5) (xK c))
  (qh 4)))
def m8(c:Cs):List T->M ba:=yj 4 7 (EY c)
def LX(c:Cs):Pe->M T:=(gW jE ap ah)
def Vh(c:Cs):En->O:=(iU (kg Gf (gI (jy (kh [none,none] (m7 bv) a0 (λ_=>.ok true) (LX c))) gM)))
def vJ(c:Cs):List T->M T:=lW 2 2 (Vh c)
def Bu(c:Cs):En->O:=(gZ (setO 1 (ju (gS ip (jI c))))
  (lS (iD (gW (iy false) ah ab)) (iU ap) iN))
def Iz(c:Cs):Pe->M T:=(gW pD ap ah)
noncomputable abbrev fm:=jh ap
def L1(c:Cs):En->O:=(gZ (setO 1 (ju ac))
  (gZ (nR fm (j6 2) (Bu c))
  (gZ (lS fI (iU ap) iN)
  (iU (kg j8 (gI (jy (kh [none,some 1] fm bP (λ_=>.ok true) (Iz c))) gM))))))
def nN(c:Cs):List T->M T:=lW 1 3 (L1 c)
def FZ(c:Cs):Pe->M T:=(gW jF (gW jE bf ap) (gW jE bm ah))
def Ie(c:Cs):En->O:=(gZ (lS (iD (gW (iy false) (gW iP ap bf) ac)) (iU ap) iN)
  (gZ (setO 3 (ju (kg xE (gI (gW iP ah bf) gM))))
  (gZ (setO 4 (ju (gW jE (pU (λi=>.int (-i)) (gW iP ap bf)) (gS (gI (gW iP ah bf) gM) (kD c)))))
  (iU (gS (gI (kg j8 (gI (jy (kh [none,none,some 3,some 4] (m7 bv) a0 (λ_=>.ok true) (FZ c))) gM)) gM) (nN c))))))
def jr(c:Cs):List T->M T:=lW 3 5 (Ie c)
def xU(c:Cs):En->O:=(gZ (pX 4 (rL (yg (jy (lstM (gI ac gM))) (kg kH bo))))
  (gZ (zb 4 (pS bf) (pS ab))
  (rj 1 (pS (gW jF bm (kg j8 df))))))
noncomputable abbrev ga:=iI (j6 2) (iI (j6 3) kZ)
def Gs(c:Cs):En->O:=(gZ (pX 1 jd)
  (gZ (nR (sW bo) (kX 2 ga) (xU c))
  (qh 1)))
def m9(c:Cs):List T->M ba:=yj 1 5 (Gs c)
def uR(c:Cs):En->O:=(setO 0 (ju (gS (gI ap (gI bm bc)) (jr c))))
def H9(c:Cs):En->O:=(gZ (nR (jh ah) (kX 2 ga) (uR c))
  (iU ap))
def mx(c:Cs):List T->M T:=lW 2 4 (H9 c)
def uD(c:Cs):Pe->M T:=(jX (gI ap (gI (gS (gI ah (gI bf gn)) (jr c)) gM)))
def CZ(c:Cs):En->O:=(qg (yQ (jy (kh [none,none,some 1,some 2] fm a0 (λ_=>.ok true) (uD c))) (jy (lstM (gI (jX (gI bf bd)) gM)))))
def mz(c:Cs):List T->M ba:=yj 3 3 (CZ c)
def oK(c:Cs):Pe->M T:=ap
def mG(c:Cs):En->O:=(gZ (setO 5 (ju (gS (gI bi bc) (mx c))))
  (gZ (setO 6 (ju (jy (kh [none,some 5] (lE bd) bP (iD (gW (iy true) (gW iP ah ap) ac)) (oK c)))))
  (lS (iD (gW (iy false) dd cb)) (rj 3 (ju bq)) (setO 2 (ju (jy (jO (gI bf (gI bq (gI (gW iP dd ac) gM))) (mz c))))))))
def uQ(c:Cs):En->O:=(gZ (setO 2 (ju cb))
  (gZ (pX 3 jd)
  (gZ (nR fm (j6 4) (mG c))
  (iU (jX (gI bf gn))))))
def ki(c:Cs):List T->M T:=lW 2 7 (uQ c)
def yM(c:Cs):Pe->M T:=ap
def Ap(c:Cs):Pe->M T:=ap
def AG(c:Cs):En->O:=(gZ (setO 2 (ju (jy (kh [none,none] fm a0 (λ_=>.ok true) (yM c)))))
  (qg (kh [none,some 2] (lE bd) bP (iD (gW (zS true) ap ah)) (Ap c))))
def lO(c:Cs):List T->M ba:=yj 2 3 (AG c)
noncomputable abbrev dk:=gI ab gM
def sE(c:Cs):En->O:=(setO 2 (ju (gS (gI bf (gI (gS (gI (jX (gI bm dk)) df) (vN c)) gM)) (vx c))))
noncomputable abbrev c4:=iI (j6 3) (iI (j6 4) kZ)
def Fe(c:Cs):En->O:=(gZ (setO 2 (ju (jX (gI (gW iP ap gk) dk))))
  (gZ (nR (m7 bv) (kX 2 c4) (sE c))
  (iU bf)))
def l5(c:Cs):List T->M T:=lW 2 5 (Fe c)
def wM(c:Cs):En->O:=(zb 2 (pS bm) (pS (gS (gI (gS (gI bi bd) (l5 c)) (gI (jX (gI (gW iP bi bm) dk)) gM)) (sI c))))
def J9(c:Cs):En->O:=(gZ (pX 2 (rL (IX pQ bd)))
  (gZ (nR fm (kX 2 c4) (wM c))
  (iU (kg j8 bc))))
def sG(c:Cs):List T->M T:=lW 2 5 (J9 c)
def IB(c:Cs):En->O:=(iU (gW vf (gS (gI (j7 ap (λ_=>.ok none) (jo (pU (λi=>.int (-i)) ab))) (gI (j7 ah (λ_=>.ok none) (jo (pU (λi=>.int (-i)) ab))) gM)) (vJ c)) (gW jE (gW iP ap (pU (λi=>.int (-i)) ab)) (gW iP ah (pU (λi=>.int (-i)) ab)))))
def lu(c:Cs):List T->M T:=lW 2 2 (IB c)
def wc(c:Cs):En->O:=(gZ (setO 6 (ju (kg xE (gI (gS (gI (j7 bq (λ_=>.ok none) (jo (pU (λi=>.int (-i)) ab))) (gI (j7 ah (λ_=>.ok none) (jo (pU (λi=>.int (-i)) ab))) gM)) (vJ c)) gM))))
  (setO 4 (ju (kg A4 (gI bi (gI (gW jF (gW pD dd (kg xE (gI (gS (gI bq bc) (lu c)) gM))) ab) gM))))))
def vT(c:Cs):Pe->M T:=(gW jF (gW jE bf ap) (gW jE bm ah))
noncomputable abbrev im:=gJ 7
def EG(c:Cs):En->O:=(gZ (setO 4 (ju ab))
  (gZ (nR fm (j6 5) (wc c))
  (gZ (setO 7 (ju (jy (kh [none,none,some 4,some 3] (m7 (gI (j7 bf (λ_=>.ok none) (jo (pU (λi=>.int (-i)) ab))) (gI (j7 ah (λ_=>.ok none) (jo (pU (λi=>.int (-i)) ab))) gM))) a0 (λ_=>.ok true) (vT c)))))
  (iU (gS (gI (gW jF (kg j8 (gI im gM)) (jX (gI (gW jE bi (gW iP bf (pU (λi=>.int (-i)) ab))) gM))) gM) (nN c))))))
def lD(c:Cs):List T->M T:=lW 4 8 (EG c)
def xX(c:Cs):En->O:=(iU (gW jF (j7 ap (λ_=>.ok none) (jo ah)) (j7 ap (jo eB) (λ_=>.ok none))))
def jR(c:Cs):List T->M T:=lW 2 2 (xX c)
def xO(c:Cs):Pe->M T:=(gW jE ah ap)
def FO(c:Cs):En->O:=(gZ (setO 3 (ju (kg xE (gI ei gM))))
  (gZ (setO 4 (ju (gW jE (pU (λi=>.int (-i)) (gS (gI ei gM) (kD c))) (gS (gI (gS bv (jR c)) bc) (lu c)))))
  (gZ (setO 5 (ju (kg j8 (gI (jy (kh [none,some 3] (jh bf) bP (λ_=>.ok true) (xO c))) gM))))
  (iU (gS (gI (gW jF (gW jF (j7 bq (λ_=>.ok none) (jo ah)) (jX df)) (j7 bq (jo ah) (λ_=>.ok none))) gM) (nN c))))))
def ng(c:Cs):List T->M T:=lW 3 6 (FO c)
def vY(c:Cs)(a:List T->M T):Pe->M T:=ap
def we(c:Cs)(a:List T->M T):Pe->M T:=(gS (gI (gS (gI ap (gI bf bd)) (jr c)) bd) (jR c))
def vA(c:Cs)(a:List T->M T):Pe->M T:=(DF (kg xY bo))
def B5(c:Cs)(a:List T->M T):Pe->M T:=(jX (gI ap (gI (gS (gI bf (gI bm bd)) (ng c)) gM)))
def ED(c:Cs)(a:List T->M T):En->O:=(gZ (setO 2 (ju (jy (kh [none,none] (sW (gI (j7 ah (λ_=>.ok none) (jo (pU (λi=>.int (-i)) ab))) gM)) a0 dm (vY c a)))))
  (gZ (lS (iD (gW (iy false) bf cb)) (qg (lstM gM)) iN)
  (gZ (setO 3 (ju (gW iP bf ac)))
  (gZ (setO 4 (ju (jy (kh [none,some 3,some 1] fm bP (λ_=>.ok true) (we c a)))))
  (gZ (lS (iD (kg xY (gI (jy (kh [none] (jh bi) bP (λ_=>.ok true) (vA c a))) gM))) (qg (lstM gM)) iN)
  (qg (kh [none,none,some 1,some 3] (jh (gS (gI bi (gI (gW vf gk ek) gM)) a)) a0 (λ_=>.ok true) (B5 c a))))))))
def md(c:Cs)(a:List T->M T):List T->M ba:=yj 2 5 (ED c a)
def n9(c:Cs)(FR:List T->M T):En->O:=(rj 4 (ju (jX (gI (gW jF bq (jX (gI im gM))) (gI (gS (gI ah (gI bf (gI (gW MQ bm bq) (gI im gM)))) (lD c)) gM)))))
noncomputable abbrev ir:=gI dd gM
def qZ(c:Cs)(a:List T->M T):En->O:=(lS (iD (gW (GM false) bq bm)) (nR (jh (jX (gI (pU (λi=>.int (-i)) ab) dk))) (j6 7) (n9 c a)) (rj 4 (ju (jX (gI (gW jF bq (jX (gI (gS (gI (gS (gI bf ir) (lu c)) gM) (kD c)) gM))) ir)))))
def yd(c:Cs)(a:List T->M T):En->O:=(gZ (setO 3 (ju (kg Ej (gI (jy (jO ip (md c a))) gM))))
  (gZ (pX 4 jd)
  (gZ (nR fm (kX 2 (iI (j6 5) (iI (j6 6) kZ))) (qZ c a))
  (qh 4))))
def lK(c:Cs)(a:List T->M T):List T->M ba:=yj 3 8 (yd c a)
def DG(c:Cs)(a:List T->M T):En->O:=(setO 2 (ju (jy (jO (gI bf (gI (j7 ap (λ_=>.ok none) (jo bm)) df)) (lK c a)))))
def P3(c:Cs)(a:List T->M T):En->O:=(gZ (setO 2 (ju (jy (lstM (gI (jX (gI (jX gM) (gI (gW jF (KL (jX (gI ac gM)) ah) (jX dk)) gM))) gM)))))
  (gZ (nR (sW bo) (kX 2 c4) (DG c a))
  (iU bf)))
def mw(c:Cs):Nat->List T->M T
 |0=>λ_=>.bad
 |k+1=>lW 2 5 (P3 c (mw c k))
def kP(c:Cs):En->O:=(gZ (setO 2 (ju (gW jF (gW jE bf (gW iP bq ab)) (gW jE (gW jE bi (gW iP bq ac)) bm))))
  (setO 3 (ju (gW jE bm (gW iP bq ab)))))
noncomputable abbrev bu:=iI (j6 4) (iI (j6 5) kZ)
def C0(c:Cs):En->O:=(gZ (setO 2 (ju (pU (λi=>.int (-i)) (gW iP ap (pU (λi=>.int (-i)) ab)))))
  (gZ (setO 3 (ju ab))
  (gZ (nR (m7 bv) (kX 2 bu) (kP c))
  (iU (gW vf (kg xN (gI (gW BY bf ac) gM)) (kg xN (gI (gW EU bf ac) gM)))))))
def lG(c:Cs):List T->M T:=lW 2 6 (C0 c)
def sV(c:Cs):Pe->M T:=(gS bo (jM c))
noncomputable abbrev gi:=iD (gW (iy true) (kg kH bo) ah)
def AN(c:Cs):En->O:=(gZ (lS (rV (lA j2) gi) be iN)
  (iU (kg BM (gI (jy (kh [none] fm bP (λ_=>.ok true) (sV c))) gM))))
def kf(c:Cs):List T->M T:=lW 2 2 (AN c)
def tf(c:Cs):Pe->M T:=(gS bo (iT c))
def AO(c:Cs):En->O:=(gZ (lS (rV (lA (iD (pE "list" ap))) gi) be iN)
  (iU (kg BM (gI (jy (kh [none] fm bP (λ_=>.ok true) (tf c))) gM))))
def kR(c:Cs):List T->M T:=lW 2 2 (AO c)
def tK(c:Cs):Pe->M T:=(B2 (gS bo (iT c)) (VR Mw Mw (pU (λi=>.int (-i)) ab) ap ab))
def Gm(c:Cs):En->O:=(gZ (lS (rV (lA (iD (pE "tuple" ah))) (iD (gW (iy true) gk ap))) be iN)
  (iU (kg BM (gI (jy (kh [none] (jh ah) bP (λ_=>.ok true) (tK c))) gM))))
def pG(c:Cs):List T->M T:=lW 2 2 (Gm c)
def AK(c:Cs):En->O:=(lS (lA (iD (gS (gI (uJ c.Cutting "many" ap gM (k9 c)) bd) (pG c)))) (λ_=>.bad) iN)
def kM(c:Cs):List T->M T:=lW 2 2 (AK c)
def Jo(c:Cs):Pe->M T:=(gW jE ah ap)
def Kd(c:Cs):En->O:=(iU (kg j8 (gI (jy (kh [none,some 1] fm bP (λ_=>.ok true) (Jo c))) gM)))
def nr(c:Cs):List T->M T:=lW 2 2 (Kd c)
def BH(c:Cs):En->O:=(lS (iD (gW (iy false) (gW iP bq bf) ac)) (yP 4 (pS bq) (pS ii)) iN)
def wF(c:Cs):Pe->M T:=ap
def wZ(c:Cs):Pe->M T:=ap
def wQ(c:Cs):Pe->M T:=ap
noncomputable abbrev dL:=iD (gW (iy true) ap ac)
def wX(c:Cs):En->O:=(gZ (setO 8 (ju (gS (gI dd (gI im bc)) (jr c))))
  (lS (iD (gW Mw (kg kH (gI (jy (kh [none] (jh (j7 (gJ 8) (jo eB) (λ_=>.ok none))) bP dL (wQ c))) gM)) bm)) (yP 4 (pS (gJ 8)) (pS ii)) iN))
def Bz(c:Cs):En->O:=(nR (jh (jy (kh [none,some 2] fm bP (iD (gW EU ei ac)) (wZ c)))) (j6 7) (wX c))
def Lw(c:Cs):En->O:=(gZ (KU 4)
  (gZ (nR fm (j6 5) (BH c))
  (gZ (nR (jh (jy (kh [none,some 2] fm bP (iD (gW BY ei ac)) (wF c)))) (j6 6) (Bz c))
  (vn 4))))
def tF(c:Cs):List T->M ba:=yj 4 9 (Lw c)
def zh(c:Cs):En->O:=(gZ (setO 6 (pS (gW jF (gW jF (kg kH df) ab) (kg kH gn))))
  (A1 4 (AB (jO (gI (gW iP bi (pU (λi=>.int (-i)) ab)) (gI ah (gI bq ir))) (tF c)))))
def Jt(c:Cs):En->O:=(gZ (pX 4 (rL (lstM bo)))
  (gZ (nR (jh bf) (j6 5) (zh c))
  (qh 4)))
def og(c:Cs):List T->M ba:=yj 4 7 (Jt c)
noncomputable abbrev h5:=gW iP bq ah
noncomputable abbrev h8:=gW (lM false) bm bw
def yX(c:Cs):En->O:=(lS (iD (gW (iy true) h5 ac)) (gZ (setO 6 (ju (gS (gI (gS (gI bq bc) (l5 c)) (gI (jX (gI h5 dk)) gM)) (sI c))))
  (gZ (lS (mj (iD (gW BY h5 ac)) (rV (iD h8) (iD (gS (gI bm ir) (lT c))))) (setO 3 (ju dd)) iN)
  (lS (mj (iD (gW EU h5 ac)) (rV (iD (gW (lM false) bi bw)) (iD (gS (gI dd df) (lT c))))) (setO 4 (ju dd)) iN))) iN)
def II(c:Cs):En->O:=(gZ (setO 3 (ju bw))
  (gZ (setO 4 (ju bw))
  (gZ (nR fm (j6 5) (yX c))
  (iU (jX (gI bm df))))))
def ni(c:Cs):List T->M T:=lW 3 7 (II c)
noncomputable abbrev dl:=mj (iD (gW (lM true) ah bw)) (iD (gW Mw (gW iP ah ac) ac))
noncomputable abbrev d2:=iD (gW (lM true) ap bw)
def xW(c:Cs):En->O:=(gZ (setO 2 (ju ac))
  (gZ (lS (mj d2 (iD (gW Q6 di ac))) (setO 2 (ju (gW jF (gS bo (mm c)) ab))) (lS dl (setO 2 (ju (gW vf (gS bd (lJ c)) ab))) iN))
  (gZ (lS (mj d2 (lA (iD (gS (gI ap (gI (jX (gI bf dk)) gM)) (lT c))))) (iU bw) iN)
  (gZ (lS (mj (iD (gW (lM true) ah bw)) (lA (iD (gS (gI (jX (gI bf dk)) bd) (lT c))))) (iU bw) iN)
  (iU bf)))))
def kC(c:Cs):List T->M T:=lW 2 3 (xW c)
noncomputable abbrev ib:=gI bq gM
def nJ(c:Cs):En->O:=(gZ (setO 4 (ju (gS bo (mm c))))
  (gZ (rj 2 (ju bi))
  (gZ (setO 5 (ju (gW vf di (gW jE bi ca))))
  (gZ (setO 6 (ju (T9 (iD (gW (iy false) bq ac)) bw (jX (gI ca ib)))))
  (gZ (setO 0 (ju (jX (gI g8 (gI (gW vf k4 (gW jE bi g8)) gM)))))
  (gZ (setO 1 (ju dd))
  (setO 3 (ju (gS bv (kC c))))))))))
def nu(c:Cs):En->O:=(setO 7 (ju (jX (gI (gW jF (gW jE bi (gW iP im ac)) (gW iP im ab)) (gI (gW iP im ac) gM)))))
def AI(c:Cs):En->O:=(gZ (lS (mj d2 (iD (gW (iy false) ap ah))) (iU ap) iN)
  (gZ (pX 2 jd)
  (gZ (setO 3 (ju (gS bv (kC c))))
  (gZ (λd=>mX (iD h8) (nJ c) ((λd=>match d with|some (.p (.tup [_,.int a]))::some (.p (.tup [_,.int b]))::_=>a.natAbs+b.natAbs+2|_=>1) d) d)
  (gZ (setO 7 (ju (jX (gI bm dk))))
  (gZ (T3 2 (nR (JF bc) (j6 4) (nu c)))
  (iU im)))))))
def kS(c:Cs):List T->M T:=lW 2 8 (AI c)
def se(c:Cs):En->O:=(gZ (setO 6 (pS (gS (gI (gW iP ap bi) (gI bq gn)) (ni c))))
  (zb 3 (pS bq) (pS (gS (gI (gW iP dd ac) (gI (gW iP dd ab) gM)) (kS c)))))
def Aa(c:Cs):En->O:=(gZ (pX 3 (rL (IX pQ bc)))
  (gZ (nR (JF (gI (jy (UN bd)) gM)) (kX 2 bu) (se c))
  (qh 3)))
def kY(c:Cs):List T->M ba:=yj 3 7 (Aa c)
def oP(c:Cs):En->O:=(lS (iD (gW (iy true) (gW iP bf ah) ac)) (iU (jy (IX pQ (gI (j7 (gS (gI bf (gI (gS (gI (gW iP bf ah) gM) (kD c)) gM)) (nr c)) (jo eB) (λ_=>.ok none)) gM)))) iN)
def uU(c:Cs):En->O:=(gZ (nR fm (j6 2) (oP c))
  (iU bw))
def jH(c:Cs):List T->M T:=lW 2 3 (uU c)
def mE(c:Cs):Pe->M T:=ap
def mD(c:Cs):Pe->M T:=(gS (gI (gS bv (nr c)) bc) (mx c))
def kU(c:Cs):En->O:=(lS (iD (gW Q6 (gW iP (gJ 10) ah) ac)) (iU (jX (gI (cM (.str "paper")) (gI (jy (IX pQ (gI (j7 (gJ 10) (jo eB) (λ_=>.ok none)) gM))) gM)))) iN)
noncomputable abbrev da:=gW iP bi ab
noncomputable abbrev fy:=m7 (gI bm bc)
noncomputable abbrev gV:=lstM (gI (jX (gI ac dk)) gM)
def nc(c:Cs):En->O:=(gZ (setO 3 (ju (jy (jO bo (m9 c)))))
  (gZ (setO 4 (ju (gS (gI (jy (kh [none,none] fy a0 fI (mE c))) bd) (ki c))))
  (gZ (setO 5 (ju (gS (gI da bd) (jH c))))
  (gZ (lS (iD (gW (lM true) bq bw)) (iU (jX (gI (cM (.str "paper")) ib))) iN)
  (gZ (setO 6 (ju (gW iP bi ac)))
  (gZ (setO 7 (ju (jy (kh [none,none,some 6] fy a0 dm (mD c)))))
  (gZ (setO 8 (ju (jy (jO (gI dd bd) (lO c)))))
  (gZ (setO 9 (ju (jy (jO (gI im (gI ah (gI (gJ 8) ir))) (og c)))))
  (gZ (nR (jh (gW iP (gJ 9) (pU (λi=>.int (-i)) ab))) (j6 10) (kU c))
  (iU (jX (gI (cM (.str "spot")) (gI (gS (gI dd (gI (jy (jO (gI (gJ 9) (gI (gJ 8) (gI (jy (yg (jy gV) ah)) gM))) (kY c))) gM)) (sG c)) gM)))))))))))))
def jG(c:Cs):List T->M T:=lW 3 11 (nc c)
def Rt(c:Cs):En->O:=(gZ (yJ (ju (gS bv (kM c))))
  (iU (gS (gI (jy (uN c.Cutting "cuts" ap gM (jD c))) (gI (uJ c.Cutting "dims" ap gM (jC c)) bd)) (jG c))))
def n6(c:Cs):List T->M T:=lW 2 2 (Rt c)
def xH(c:Cs):En->O:=(lS (iD (gW EU (gW jE bi bq) ac)) be iN)
def xP(c:Cs):Pe->M T:=(gW jE ap (gW iP ah bf))
def xM(c:Cs):Pe->M T:=(kg Gf (gI (jy (kh [none,none,some 0] (m7 ip) a0 (λ_=>.ok true) (xP c))) gM))
def xS(c:Cs):Pe->M T:=ap
def FN(c:Cs):En->O:=(gZ (nR fy (kX 2 bu) (xH c))
  (gZ (setO 6 (ju (jy (kh [none,some 3,some 0] (lE (gI eB gM)) bP (λ_=>.ok true) (xM c)))))
  (gZ (lS (iD (gW (iy true) (j7 dd (λ_=>.ok none) (jo ah)) db)) be iN)
  (gZ (setO 7 (ju (jy (kh [none,none] fy a0 (iD (gW (iy true) (gW jE ap ah) ac)) (xS c)))))
  (iU (VW (gW BY (gW iP dd ah) ac) (B2 (gW (iy false) (gW iP dd ah) ac) (gW (iy true) im cb))))))))
def mU(c:Cs):List T->M T:=lW 4 8 (FN c)
def Ay(c:Cs):En->O:=(gZ (setO 3 (ju (gS bv (iM c))))
  (gZ (setO 4 (ju (gW jF ab (gS (gI bm (gI ac (gI em gM))) (iC c)))))
  (gZ (setO 5 (ju (gS (gI bm (gI ab (gI (gW jF bf ab) gM))) (iC c))))
  (gZ (lS (iD (gW (iy false) bi em)) (setO 5 (ju (kg vS (gI bq (gI (cM (.int 5)) gM))))) iN)
  (iU (jX (gI bi (gI (jy (jO (gI ap (gI eB (gI bi ib))) (m8 c))) gM))))))))
def lR(c:Cs):List T->M T:=lW 3 6 (Ay c)
def Kp(c:Cs):Pe->M T:=ap
def Qw(c:Cs):En->O:=(qg (kh [none,none] (jh (gS (gI (jy (uN c.Cutting "cuts" ap gM (jD c))) (gI (uJ c.Cutting "dims" ap gM (jC c)) gM)) (mw c 5))) a0 (λ_=>.ok true) (Kp c)))
def uf(c:Cs):List T->M ba:=yj 1 1 (Qw c)
def CT(c:Cs):Pe->M T:=(gS bv (nr c))
def Ec(c:Cs):En->O:=(qg (kh [none,none] (m7 (gI (jy (jO (gI (jy (uN c.Cutting "cuts" ap gM (jD c))) gM) (m9 c))) bd)) a0 (λ_=>.ok true) (CT c)))
def nj(c:Cs):List T->M ba:=yj 2 2 (Ec c)
def yf(c:Cs):Pe->M T:=ap
def zE(c:Cs):En->O:=(qg (kh [none,some 1] (lE bo) bP (iD (gW (iy true) ap ah)) (yf c)))
def lZ(c:Cs):List T->M ba:=yj 2 2 (zE c)
def wW(c:Cs):En->O:=(iU (jy (jO (gI ap (gI ah (gI (jy (jO ip (lZ c))) (gI cb gM)))) (og c))))
def lB(c:Cs):List T->M T:=lW 3 3 (wW c)
def qt(c:Cs):Pe->M T:=(gS (gI ap (gI g8 gM)) (lG c))
noncomputable abbrev c5:=gW (iy false) (gW iP bi ac) (cM (.str "spot"))
noncomputable abbrev gg:=gW (iy false) (gW iP bi ac) (cM (.str "paper"))
noncomputable abbrev ic:=gI ah (gI bf (gI bm (gI da gM)))
noncomputable abbrev io:=iD (gW (iy true) (kg kH df) ek)
def Cc(c:Cs):En->O:=(gZ (setO 4 (ju (gS (gI ap gn) (n6 c))))
  (gZ (lS (rV (lA (iD (pE "tuple" bi))) io) (iU bw) iN)
  (gZ (lS (mj (iD c5) (iD (gS (gI da bc) (kf c)))) (lS (iD (gW (iy false) (kg j8 (gI (jy (kh [none,some 4] (jh ah) bP (λ_=>.ok true) (qt c))) gM)) bm)) (iU ii) iN) iN)
  (gZ (lS (mj (iD gg) (mj (iD (gS (gI da (gI gk gM)) (kR c))) (iD (gS ic (mU c))))) be iN)
  (iU bw)))))
def lF(c:Cs):List T->M T:=lW 4 5 (Cc c)
def Cz(c:Cs):En->O:=(gZ (yJ (ju (gS bv (kM c))))
  (lS (rV (iD (gW (zS false) ac ah)) (iD (gW (iy true) (gW iP (gS bv (n6 c)) ac) (cM (.str "spot"))))) (λ_=>.bad) iN))
def nL(c:Cs):List T->M T:=lW 2 2 (Cz c)
def Nc(c:Cs):Pe->M T:=(gS (gI (gW iP (gS (gI bf (gI bm bo)) (lB c)) (pU (λi=>.int (-i)) ab)) bv) (ni c))
def UC(c:Cs):En->O:=(gZ (yJ (ju (gS bv (nL c))))
  (gZ (setO 2 (ju (uJ c.Cutting "dims" ap gM (jC c))))
  (gZ (setO 3 (ju (jy (jO bv (nj c)))))
  (gZ (setO 4 (ju (jy (yg (jy gV) bf))))
  (qg (kh [none,some 4,some 3,some 2] (lE bc) bP (λ_=>.ok true) (Nc c)))))))
def zq(c:Cs):List T->M ba:=yj 2 5 (UC c)
def uE(c:Cs):Pe->M T:=(gW jE g8 (kg xN (gI (gW (iy false) ap bf) gM)))
def BK(c:Cs):En->O:=(iU (kg j8 (gI (jy (yQ (jy (kh [none,some 2,some 1] (lE bo) bP (λ_=>.ok true) (uE c))) (jy (lstM (gI (gW iP bf ac) gM))))) gM)))
def nE(c:Cs):List T->M T:=lW 3 3 (BK c)
def qC(c:Cs):Pe->M T:=ap
def qF(c:Cs):En->O:=(lS (iD (gS (gI dd (gI (gW iP ah im) gM)) (kQ c))) (gZ (setO 8 (ju (gW BY (gW iP (jy (kh [none] (jh (j7 (gW iP ah im) (λ_=>.ok none) (jo ap))) bP dL (qC c))) ac) ac)))
  (iU (gW (iy false) (gW iP bf im) (T9 (iD (gJ 8)) bq (pU (λi=>.int (-i)) bq))))) iN)
def vX(c:Cs):En->O:=(gZ (setO 6 (ju (gS (gI ap (gI bm df)) (nE c))))
  (gZ (tJ (lE (gI gk gM)) (j6 7) (qF c))
  (gZ (setO 9 (ju (jy (yQ ah (jy (lstM ir))))))
  (iU (gS (gI (gS (gI ap (gI (gJ 9) gM)) (jg c)) (gI (gJ 9) (gI ap (gI (gW jF bf (jX ib)) gM)))) (lF c))))))
def j9(c:Cs):List T->M T:=lW 6 10 (vX c)
def IE(c:Cs):En->O:=(gZ (lS (iD (gW (lM false) bi bw)) (iU (gW (Do false) (gS (gI ap (gI ah (gI bf (gI bm (gI (jX (gI (gW jE bq (gW rq eH (cM (.int 30)))) dk)) ib))))) (j9 c)) ii)) iN)
  (gZ (lS (lA (iD (gS df (jM c)))) be iN)
  (gZ (lS (iD (gW (Do true) (gS (gI ap (gI ah (gI bf (gI bm (gI bi ib))))) (j9 c)) (cM (.bl false)))) be iN)
  (gZ (lS (iD (gW (Do true) (gS (gI ap (gI ah (gI bf (gI bm (gI bi (gI ac gM)))))) (j9 c)) (cM (.bl false)))) be iN)
  (gZ (setO 6 (ju (gS (gI (gW vf (gW jE (gW iP bi ac) (gW rq eH (cM (.int 20)))) (gW jE bq da)) (gI (gW jE da (gW rq eH (cM (.int 20)))) gM)) (kG c))))
  (iU (gW (Do false) (gS (gI ap (gI ah (gI bf (gI bm (gI dd ib))))) (j9 c)) ii)))))))
def oX(c:Cs):List T->M T:=lW 6 7 (IE c)
def sO(c:Cs):En->O:=(gZ (lS (rV (lA (iD (pE "tuple" (gW iP bm bi)))) (iD (gW (iy true) (kg kH (gI (gW iP bm bi) gM)) ek))) be iN)
  (lS (rV (lA (iD (gS (gI ap (gI ah (gI bf (gI bi (gI (gW iP (gW iP bm bi) ac) (gI (pU (λi=>.int (-i)) ab) gM)))))) (oX c)))) (lA (iD (gS (gI ap (gI ah (gI bf (gI bi (gI (gW iP (gW iP bm bi) ab) dk))))) (oX c))))) be iN))
def AH(c:Cs):En->O:=(gZ (pX 3 (rL (jO (gI (gS bv (jg c)) bc) (zq c))))
  (gZ (lS (rV (lA (iD (pE "list" bm))) (iD (gW (iy true) (kg kH gn) ap))) be iN)
  (gZ (tJ (lE bo) (j6 4) (sO c))
  (gZ (rj 3 (ju bw))
  (iU (gW (iy false) (kg kH (gI (jy (jO (gI (gS bv (jg c)) bc) (zq c))) gM)) ap))))))
def lP(c:Cs):List T->M T:=lW 3 5 (AH c)
def qd(c:Cs):Pe->M T:=(gS (gI (gW iP (jy (lstM (gI ah (gI (gW jE ah ah) (gI (gW jE (gW jE ah ah) ah) gM))))) ap) (gI (cM (.int 1000)) gM)) (kG c))
def qq(c:Cs):Pe->M T:=(gS bv (lG c))
def p9(c:Cs):En->O:=(gZ (setO 3 (ju (gW jF bm ab)))
  (gZ (setO 5 (ju (kg j8 (gI (jy (kh [none,some 3] (lE bd) bP (λ_=>.ok true) (qd c))) gM))))
  (setO 4 (ju (kg j8 (gI (jy (kh [none,some 5] (jh bf) bP (λ_=>.ok true) (qq c))) gM))))))
def wC(c:Cs):En->O:=(gZ (setO 1 (ju (gW jF ab (gS (gI (gS (gI ap (gI (cM (.int 12)) gM)) (iM c)) (gI ac (gI em gM))) (iC c)))))
  (gZ (setO 2 (ju (jy (jO (gI ap (gI (cM (.int 13)) (gI ah (gI (cM (.int 6)) gM)))) (m8 c)))))
  (gZ (setO 3 (ju (gW jF ab (gS (gI (gS (gI ap (gI (cM (.int 12)) gM)) (iM c)) (gI ab (gI (gW rq eH ia) gM))) (iC c)))))
  (gZ (setO 4 (ju (jX (gI ac gM))))
  (gZ (λa=>mX (iD (gW (zS false) ac bi)) (p9 c) ((λ_=>400) a) a)
  (iU (jX (gI ah (gI bf df)))))))))
def lg(c:Cs):List T->M T:=lW 1 6 (wC c)
def Bq(c:Cs):Pe->M T:=(gS (gI (gS (gI ah (gI (gW jF (cM (.int 6)) ap) gM)) (iM c)) (gI ac (gI (kg kH bc) gM))) (iC c))
def Bf(c:Cs):En->O:=(lS (lA (iD (gS (gI ah (gI bf (gI (gW iP bm bq) gM))) (lP c)))) be iN)
def Nr(c:Cs):En->O:=(gZ (Io (gS (gI ap (gI ac (gI ia gM))) (lR c)) (kX 2 (iI (j6 1) (iI (j6 2) kZ))))
  (gZ (setO 3 (ju (jy (jO (gI (gS ip (jg c)) gM) (uf c)))))
  (gZ (setO 4 (ju (jy (kh [none,some 0,some 3] (lE (gI ia gM)) bP (λ_=>.ok true) (Bq c)))))
  (gZ (nR (jh (gW jF bi (j7 bi (λ_=>.ok none) (jo ab)))) (j6 5) (Bf c))
  (gZ (Io (gS bo (lg c)) (kX 3 (iI (j6 1) (iI (j6 2) (iI (j6 6) kZ)))))
  (iU (gS (gI ah (gI bf ir)) (lP c))))))))
def vH(c:Cs):List T->M T:=lW 1 7 (Nr c)
variable {c:Cs}
def rX ns (k:Nat):∃v,iM c [.scr ns,.int k]=.ok (.int v)/\(v=0\/v∈ns):=by
 by_cases h:(k:Int)<ns.length
 .obtain⟨a,e,b⟩:=FG ns k (by omega) h;exact⟨a,by simp[iM,qu,h,e],.inr b⟩
 .exact⟨0,by simp[iM,qu,h],.inl rfl⟩
def my(h:i.natAbs<2 ^ 64):jE (.int i) (.int j)=.ok (.int (i*j)):=iJ (qN h)
def Pc cell (k:Nat) b (hb:0<b) (D:b<2 ^ 62) (J:k<=1000000):∃d,iC c [.int cell,.int (k:Int),.int b]=.ok (.int d)/\0<=d/\d<b:=by
 have f:b≠0:=by omega
 have z:∀x:Int,0<=x.fmod b/\x.fmod b<b:=λx=>⟨cO x hb,cP x hb⟩;have l:rq (.int 10) (.int 18)=.ok (.int 1000000000000000000):=by simp[rq,l8]
 by_cases h:(1000000000000000000:Int)<=cell
 .obtain⟨r,e,v,w,rfl⟩:=jP (m:=j6 4) (g:=setO 3 (ju (gW pD bm bf))) (λ(i:Nat)=>T.int (i:Int)) (λ_ r=>∃v w,r=[some (.p (.int cell)),some (.p (.int k)),some (.p (.int b)),some (.p (.int v)),w,none])
   (List.range k) 0 [some (.p (.int cell)),some (.p (.int k)),some (.p (.int b)),some (.p (.int cell)),none,none] ⟨_,_,rfl⟩ (by rintro i a r I ⟨v,w,rfl⟩;have C:Builtin.divisionGoesByPylong v b=false:=Bn.noPy (n:=62) (by unfold Bn;omega) (by decide);exact⟨_,_,rfl,.inl (gY (by simp[mL f C];rfl) rfl),_,_,rfl⟩)
  refine⟨v.fmod b,iB rfl ?_,z v⟩;have u:EW (k:Int)=true:=nW (by omega);refine ku (i9 (by simp[l,h]) (gP (gY (by simp) rfl) (gP (oU (by simp[u,Qh]) e) (hW (by simp[t7 f]))))) rfl
 .have s:∀x y:Int,0<y->0<=x.fmod y/\x.fmod y<y:=λx y A=>⟨cO x A,cP x A⟩;have H:=s cell 1000000007 (by decide);have B:=s ((cell.fmod 1000000007+1009*k+17)*69621) 2147483647 (by decide);generalize o:((cell.fmod 1000000007+1009*k+17)*69621).fmod 2147483647=s1 at B;have E:=s (s1*s1+40503*k+5) 2147483629 (by decide);generalize q:(s1*s1+40503*k+5).fmod 2147483629=s2 at E;have F:Builtin.divisionGoesByPylong ((s2*48271).fmod 2147483647) 32=false:=Bn.noPy (n:=62) (by unfold Bn;decide) (by decide);refine⟨(((s2*48271).fmod 2147483647).fdiv 32).fmod b,iB rfl ?_,z _⟩;refine gP (iF (by simp[l,h]) rfl) (gP (gY (t:=.int s1) ?_ rfl) (gP (gY (t:=.int s2) ?_ rfl) (hW ?_)))
  .rw[<-o];simp[t7,my (i:=1009) (j:=k) (by decide),my (i:=cell.fmod 1000000007+1009*k+17) (j:=69621) (by omega)]
  .rw[<-q];simp[t7,my (i:=40503) (j:=k) (by decide),my (i:=s1) (j:=s1) (by omega)]
  .simp[t7,f,mL (j:=32) (by decide) F,my (i:=s2) (j:=48271) (by omega)]
def dr(c:Cs)(a k b:Int):Int:=match iC c [.int a,.int k,.int b] with
 |.ok (.int d)=>d
 |_=>0
def lH cell k b (hb:0<b) (a:b<2 ^ 62) (g:0<=k) (i:k<=1000000):iC c [.int cell,.int k,.int b]=.ok (.int (dr c cell k b))/\0<=dr c cell k b/\dr c cell k b<b:=by
 obtain⟨d,e,f,h⟩:=Pc cell k.toNat b hb a (by omega);rw[cG g]at e;have:dr c cell k b=d:=by unfold dr;rw[e]
 rw[this];exact⟨e,f,h⟩
def OR(l:LI)(i:Int)(d:0<=i)(f:i<l.length):∃w,iP (.lst (l.map T.int)) (.int i)=.ok (.int w)/\w∈l:=by obtain⟨a,e,b⟩:=FG l i d f;exact⟨a,by simp[tU,e],b⟩
def OK i:(if i<0 then -i else i)=(i.natAbs:Int):=by split<;>omega
def qf a b:jI c [.int a,.int b]=.ok (.int (Cu.G a b)):=by
 obtain⟨d,e,x,w,rfl,i⟩:=nZ (c:=iD (gW (iy true) ah ac)) (g:=gZ (setO 2 (ju (gW xo ap ah))) (gZ (setO 0 (ju ah)) (setO 1 (ju bf))))
  (λd=>∃x y w,d=[some (.p (.int x)),some (.p (.int y)),w]/\Cu.G x y=Cu.G a b) (λd=>match d with|_::some (.p (.int j))::_=>j.natAbs|_=>0)
  (λd=>∃x w,d=[some (.p (.int x)),some (.p (.int 0)),w]/\Cu.G x 0=Cu.G a b) (by
   rintro d ⟨x,y,w,rfl,h⟩;by_cases f:y=0
   .subst f;exact .inl ⟨by simp,_,_,rfl,h⟩
   .refine .inr ⟨by simp[f],_,.inl (gP (gY (t:=.int (x.fmod y)) (by simp[t7 f]) rfl) (gP (gY (by simp) rfl) (gY (by simp) rfl))),⟨y,x.fmod y,_,rfl,?_⟩,?_⟩
    .rw[<-h];exact Cu.CB x y
    .exact Cu.BA x y f)
  (b.natAbs+1) [some (.p (.int a)),some (.p (.int b)),none] ⟨a,b,none,rfl,rfl⟩ (bK _)
 refine iB rfl (gP e (hW ?_));rw[Cu.Fv]at i;simp[OK,i]
def uA a b:kK c [.int a,.int b]=.ok (.int (Cu.G a b)):=by
 obtain⟨d,e,x,rfl,f,l⟩:=nZ (c:=iD (gW BY ah ac)) (g:=NV 0 1 (gI ah (gI (gW xo ap ah) gM)))
  (λd=>∃x y:Int,d=[some (.p (.int x)),some (.p (.int y))]/\0<=x/\0<=y/\Cu.G x y=Cu.G a b) (λd=>match d with|_::some (.p (.int j))::_=>j.natAbs|_=>0)
  (λd=>∃x:Int,d=[some (.p (.int x)),some (.p (.int 0))]/\0<=x/\Cu.G x 0=Cu.G a b) (by
   rintro d ⟨x,y,rfl,f,hy0,h⟩;by_cases i:y=0
   .subst i;exact .inl ⟨by simp,_,rfl,f,h⟩
   .have k:0<y:=by omega
    refine .inr ⟨by simp[k],_,.inl (by simp[t7 i]),⟨y,x.fmod y,rfl,hy0,cO x k,?_⟩,?_⟩
    .rw[<-h];exact Cu.CB x y
    .exact Cu.BA x y i)
  ((b.natAbs:Int).natAbs+1) [some (.p (.int (a.natAbs:Int))),some (.p (.int (b.natAbs:Int)))] ⟨_,_,rfl,by omega,by omega,Cu.U1 a b⟩ (bK _)
 refine iB rfl (gP (gY (by simp[OK]) rfl) (gP (gY (t:=.int (b.natAbs:Int)) (by simp[OK]) rfl) (gP e (hW ?_))));rw[Cu.Fv]at l;have:x=Cu.G a b:=by omega
 simp[this]
def vI{t g:Int}(b:g ∣ t)(a:g≠0):(t.fdiv g).natAbs<=t.natAbs:=by obtain⟨k,rfl⟩:=b;rw[cU k a,aY];exact Nat.le_mul_of_pos_left _ (by omega)
noncomputable def Ua:T->Bool
 |.scr _=>false
 |.obj _ _=>false
 |.dic _=>false
 |_=>true
noncomputable def isInt:T->Bool
 |.int _=>true
 |_=>false
def DO x (h:Ua x=true):iT c [x]=.ok (.bl (isInt x)):=by cases x<;>first|(simp[Ua]at h;done)|rfl
def OP x (h:Ua x=true):SN "tuple" x=.ok (.bl (wm x)):=by cases x<;>first|(simp[Ua]at h;done)|rfl
noncomputable def kJ(x:Int):Int:=if 0<x then 1 else if x<0 then -1 else 0
def xB x:-1<=kJ x/\kJ x<=1:=by unfold kJ;split<;>(try split)<;>lia
def rY x:kD c [.int x]=.ok (.int (kJ x)):=by
 unfold kJ;by_cases h:0<x
 .rw[aQ h];exact iB rfl (ku (i9 (by simp[h]) (hW (by simp))) rfl)
 .rw[aR h];by_cases a:x<0
  .rw[aQ a];exact iB rfl (gP (iF (by simp[h]) rfl) (ku (i9 (by simp[a]) (hW (by simp))) rfl))
  .rw[aR a];exact iB rfl (gP (iF (by simp[h]) rfl) (gP (iF (by simp[a]) rfl) (hW (by simp))))
def t6(bs:List Bool):BM [.lst (bs.map T.bl)]=.ok (.bl (bs.all id)):=by simp
def BQ(bs:List Bool):xY [.lst (bs.map T.bl)]=.ok (.bl (bs.any id)):=by simp
noncomputable def uI(d:Nat):T->Bool
 |.tup ts=>decide (ts.length=d+1)&&ts.all isInt&&(match kc ts with|some ns=>(ns.take d).any (· != 0)|none=>false)
 |_=>false
theorem Ds:∀ts,ts.all isInt=true->∃a:LI,ts=a.map T.int
 |[],_=>⟨[],rfl⟩
 |t::ts,h=>by
  rw[bX,bV]at h;obtain⟨a,e⟩:=Ds ts h.2;cases t with
  |int i=>exact⟨i::a,by rw[e];rfl⟩
  |_=>simp[isInt]at h
def IJ(d:Nat)(q:d<=10) x (o:Ua x=true) (m:∀ts,x=.tup ts->ts.length<1000/\∀t∈ts,Ua t=true):qQ c [.int d,x]=.ok (.bl (uI d x)):=by
 have sz:1000<sizeLine:=by decide
 by_cases e:wm x=true
 .cases x with
  |tup ts=>
   obtain⟨r,p⟩:=m ts rfl;by_cases g:ts.length=d+1
   .have i:kh [none] (jh ah) bP (λ_=>.ok true) (wV c) (vw (i6 2 [.int d,.tup ts]))=.ok ((ts.map isInt).map T.bl):=by rw[yB ts id (λt=>T.bl (isInt t)) (by simp) (by lia) λt e=>⟨_,rfl,rfl,by simp[wV,DO t (p t e)]⟩];simp
    have j:(L3.rV (L3.lA (iD (pE "tuple" ah))) (iD (gW (iy true) gk (gW jF ap ab)))) (vw (i6 2 [.int d,.tup ts]))=.ok false:=by simp[g]
    by_cases f:ts.all isInt=true
    .obtain⟨b,rfl⟩:=Ds ts f;have h:b.length=d+1:=by simpa using g
     have a:uI d (.tup (b.map T.int))=(b.take d).any (· != 0):=by simp[uI,h,f]
     rw[a];have k:kh [none] (jh (j7 ah (λ_=>.ok none) (jo ap))) bP (λ_=>.ok true) (wH c) (vw (i6 2 [.int d,.tup (b.map T.int)]))=.ok (((b.take d).map λn=>n != 0).map T.bl):=by rw[yB (b.take d) T.int (λn=>T.bl (n != 0)) (Ag (by rw[dc];exact sS rfl rfl (by simp;lia))) (by simp;lia) λn g=>⟨_,rfl,rfl,by simp[wH,bne]⟩];rw[aI];rfl
     refine iB rfl (gP (iF j rfl) (gP (iF (qw (g9 (oM i (t6 _))) ?_) rfl) (hW (oM k ?_))))
     .rw[cA];simpa using f
     .rw[BQ,cB];rfl
    .have a:uI d (.tup ts)=false:=by simp[uI,f]
     rw[a];refine iB rfl (gP (iF j rfl) (ku (i9 (qw (g9 (oM i (t6 _))) ?_) (hW rfl)) rfl));rw[cA];simpa using f
   .have a:uI d (.tup ts)=false:=by simp[uI,g]
    rw[a];refine iB rfl (ku (i9 ?_ (hW rfl)) rfl);have:¬(ts.length=(d:Int)+1):=by lia
    simp[this]
  |_=>simp[wm]at e
 .have a:uI d x=false:=by cases x<;>first|rfl|(simp[wm]at e;done)
  rw[a];refine iB rfl (ku (i9 ?_ (hW rfl)) rfl);have l:wm x=false:=by simpa using e
  have:=OP x o;rw[l]at this;simp only[L3.rV,L3.lA,iD,pE,gJ,vw,i6,bI,cf,List.cons_append,b8,List.getElem?_cons_succ,List.getElem?_cons_zero,Wz,M.bind_ok,this];rfl
def JS(l:List α)(h:l≠[]):uV l (-1)=l.getLast?:=by obtain⟨m,a,rfl⟩:∃m a,l=m++[a]:=⟨l.dropLast,l.getLast h,(dG h).symm⟩;rw[L2.LR];simp
def Fk(d:Nat)(h:1<=d/\d<=3):ph c [.int d]=.ok (.bl true):=by
 have w:iT c [.int d]=.ok (.bl true):=rfl;have b:(1:Int)<=d:=by lia
 have a:(d:Int)<=3:=by lia
 exact iB rfl (hW (by simp[w,b,a]))
def Di(n:Nat) r (d:r.length=n) (e:n<=100) (h:∀x∈r,-1<=x/\x<=1):pG c [.int n,tI r]=.ok (.bl true):=by
 have sz:1000<sizeLine:=by decide
 have w:∀i:Int,iT c [.int i]=.ok (.bl true):=λi=>rfl;have b:kh [none] (jh ah) bP (λ_=>.ok true) (tK c) (vw (i6 2 [.int n,tI r]))=.ok ((r.map λ_=>true).map T.bl):=by rw[yB r T.int (λ_=>T.bl true) rfl (by lia) λx a=>⟨_,rfl,rfl,by simp[tK,w,(h x a).1,(h x a).2]⟩];simp
 refine iB rfl (gP (iF (by simp[tI,d]) rfl) (hW (oM b ?_)));rw[t6];simp
def Us n:(List.replicate n [T.int 0]).flatten=(List.replicate n (0:Int)).map T.int:=by
 induction n with
 |zero=>rfl
 |succ n ih=>rw[bZ,b4,ih,bZ];rfl
def Mq(n:Nat)(d:n<=1000)(h:f ρ=.ok (.int (n:Int))):jy (yg (jy (lstM (gI ac gM))) f) ρ=.ok (.lst ((List.replicate n (0:Int)).map T.int)):=by
 have sz:1000<sizeLine:=by decide
 have hr:EW n=true:=nW (by lia);have b:1<=sizeLine:=by decide
 have a:n<=sizeLine:=by lia
 simp[h,hr,b,a,Us]
def UP(n:Nat)(d:n<=1000)(h:f ρ=.ok (.int (n:Int))):KL (jX (gI ac gM)) f ρ=.ok (.tup ((List.replicate n (0:Int)).map T.int)):=by
 have sz:1000<sizeLine:=by decide
 have hr:EW n=true:=nW (by lia);have b:1<=sizeLine:=by decide
 have a:n<=sizeLine:=by lia
 simp[h,DP,hr,b,a,Us]
end CL
namespace L3
open PySem L2
theorem rZ{s:Type} enc (P:En->Prop) p t:∀(l:List s) (ρ:En),P ρ->
  (∀a∈l,∀ρ,P ρ->∃c,m (enc a) ρ=some c/\(p a=true->∃d,g c=.nx d/\P d)/\(p a=false->g c=.rt t))->
  (l.all p=true->∃ρ',jU m g (l.map enc) ρ=.nx ρ'/\P ρ')/\(l.all p=false->jU m g (l.map enc) ρ=.rt t)
 |[],ρ,h,_=>⟨λ_=>⟨ρ,rfl,h⟩,λh=>by simp at h⟩
 |a::l,ρ,h,st=>by
  obtain⟨c,j,r,o⟩:=st a (by simp) ρ h;rw[bI,jU,j];dsimp only;cases e:p a with
  |true=>obtain⟨d,f,k⟩:=r e;rw[f];have n:=rZ enc P p t l d k λb q ρ i=>st b (by simp[q]) ρ i;rw[bX,e,dH];exact n
  |false=>rw[o e,bX,e,Bool.false_and];exact⟨λz=>(by cases z),λ_=>rfl⟩
end L3
namespace CL
open PySem L2 L3
variable {c:Cs}
def Fi:Bn (n+1) 1:=by unfold Bn;rw[dy];have:=dI n;lia
def Ir(s w:Int):Bool:=s==0||(w==0||kJ w==s)
def Ek ns:kc (ns.map T.int)=some ns:=by simp
def Gc(a:LI):Gf [.lst (a.map T.int)]=.ok (.int a.sum):=by simp
end CL
namespace L3
open PySem L2
theorem sJ{q:Type} enc (P:Nat->En->Prop) (R:T->Prop):∀(l:List q) (k:Nat) (ρ:En),P k ρ->
  (∀i a ρ,l[i]? = some a->P (k+i) ρ->∃c,m (enc a) ρ=some c/\((∃d,g c=.nx d/\P (k+i+1) d)\/∃t,g c=.rt t/\R t))->
  (∃ρ',jU m g (l.map enc) ρ=.nx ρ'/\P (k+l.length) ρ')\/∃t,jU m g (l.map enc) ρ=.rt t/\R t
 |[],k,ρ,h,_=>.inl ⟨ρ,rfl,h⟩
 |a::l,k,ρ,h,st=>by
  obtain⟨c,n,p⟩:=st 0 a ρ rfl h;rw[bI,jU,n];dsimp only;rcases p with⟨d,e,f⟩|⟨t,e,f⟩
  .rw[e];rw[ay,show k+(l.length+1)=k+1+l.length by lia];exact sJ enc P R l (k+1) d f λi b ρ o j=>by have:=st (i+1) b ρ (by simpa using o) (by rw[show k+(i+1)=k+1+i by lia];exact j);rw[show k+1+i+1=k+(i+1)+1 by lia];exact this
  .rw[e];exact .inr ⟨t,rfl,f⟩
end L3
namespace CL
open PySem L2 L3
variable {c:Cs}
def FQ(l:List α)(k:Nat) h:uV l (k:Int)=some l[k]:=by unfold uV Au;rw[aQ (by lia),aQ (by lia)];simp[h]
def Hk(l:LI) k (h:k<l.length):uV l (k:Int)=some (l.getD k 0):=by rw[FQ l k h,af,ag h];rfl
def getD_mem(l:LI) k (h:k<l.length):l.getD k 0∈l:=by rw[af,ag h];exact aV h
def Cj(l:LI) k (h:k<l.length):iP (.lst (l.map T.int)) (.int (k:Int))=.ok (.int (l.getD k 0)):=by simp[tU,Hk l k h]
def kz l (k:Nat) (h:k<l.length):iP (tI l) (.int (k:Int))=.ok (.int (l.getD k 0)):=by simp[tI,tU,Hk l k h]
def QV x xs:iP (.lst (x::xs)) (.int 0)=.ok x:=by have h:=FQ (x::xs) 0 (by simp);have a:uV (x::xs) 0=some x:=h;show (match uV (x::xs) 0 with|some t=>M.ok t|none=>.bad)=_;rw[a]
def LA(e:fa ρ=.ok (.lst a))(hb:fb ρ=.ok (.lst b))(d:a.length+b.length<=sizeLine):jy (yQ fa fb) ρ=.ok (.lst (a++b)):=by simp only[jy,yQ,e,hb,M.bind_ok];rw[aQ d];rfl
def WC n (x:T):(List.replicate n [x]).flatten=List.replicate n x:=by
 induction n with
 |zero=>rfl
 |succ n ih=>rw[bZ,b4,ih,bZ];rfl
end CL
namespace CL
abbrev Vc:=Nat->Int
inductive Qs(P:Vc->Prop):Vc->Prop
 |of {x:Vc}:P x->Qs P x
 |zero:Qs P λ_=>0
 |lin {x y z:Vc} {s a b:Int}:Qs P x->Qs P y->s≠0->(∀i,s*z i=a*x i+b*y i)->Qs P z
def Qs.sub(h:∀x,P x->Qs P' x)(q:Qs P z):Qs P' z:=by
 induction q with
 |of p=>exact h _ p
 |zero=>exact .zero
 |lin _ _ s e i1 i2=>exact .lin i1 i2 s e
def Qs.mono(h:∀x,P x->P' x)(q:Qs P z):Qs P' z:=q.sub λx p=>.of (h x p)
def Qs.comb a b (c:Qs P x) (d:Qs P y):Qs P λi=>a*x i+b*y i:=.lin (s:=1) c d (by decide) λi=>by rw[dJ]
end CL
namespace CL
open PySem L2 L3
variable {c:Cs}
noncomputable def vc(l:LI):Vc:=λi=>l.getD i 0
def rJ l i (h:l.length<=i):vc l i=0:=by unfold vc;rw[af,List.getElem?_eq_none h];rfl
def ke l i h:vc l i=l[i]:=by unfold vc;rw[af,ag h];rfl
def UU(a:List (Nat×LI)):Vc->Prop:=λx=>∃p∈a,x=vc p.2
def jJ{a:Type}(l:List a) k v (h:l[k]? = some v):l.take (k+1)=l.take k++[v]:=by rw[List.take_succ,h];rfl
def pM(h:f ρ=.ok (.int i)):pU (λi=>.int (-i)) f ρ=.ok (.int (-i)):=by simp only[pU,h,M.bind_ok]
def ua:Bn n 0:=by unfold Bn;exact dI _
def xm N (C:N<=8000) row (F:row.length<1000) (hb:∀x∈row,Bn N x):∃g n,0<g/\nN c [tI row]=.ok (tI n)/\n.length=row.length/\(∀i,vc row i=g*vc n i)/\∀y∈n,Bn N y:=by
 have sz:1000<sizeLine:=by decide
 have main:=sJ (m:=j6 2) (g:=Bu c) T.int
  (λk v=>∃(a:Int) (r:Option W),v=[some (.p (tI row)),some (.p (.int a)),r]/\0<=a/\Bn N a/\∀x∈row.take k,a ∣ x)
  (λt=>t=tI row) row 0 _ ⟨0,none,rfl,by decide,ua,λx j=>by simp at j⟩ (by
   rintro i x v d ⟨a,r,rfl,E,s,b⟩;rw[aG]at b ⊢;have o:=au d;refine⟨_,rfl,?_⟩;have u:setO 1 (ju (gS ip (jI c))) [some (.p (tI row)),some (.p (.int a)),some (.p (.int x))]=.nx [some (.p (tI row)),some (.p (.int (Cu.G a x))),some (.p (.int x))]:=gY (iH rfl rfl (qf a x)) rfl;by_cases h:Cu.G a x=1
   .right;exact⟨_,gP u (i9 (g9 (gN rfl rfl (by rw[jj,h];rfl))) (hW rfl)),rfl⟩
   .left;refine⟨_,gP u (iF (g9 (gN rfl rfl (by rw[jj];simp[h]))) rfl),_,_,rfl,Cu.Af _ _,?_,λz w=>?_⟩
    .by_cases l:x=0
     .rw[l,Cu.Fv];exact cg (by lia) s
     .have I:=Cu.Tu a x l;have H:=Cu.Af a x;exact cg (by lia) (hb x o)
    .rw[jJ row i x d]at w;rcases ai.mp w with q|q
     .exact Int.dvd_trans (Cu.pJ a x) (b z q)
     .rw[aj.mp q];exact Cu.nq a x)
 rcases main with⟨B,e,a,r,rfl,E,s,b⟩|⟨t,e,rfl⟩
 .rw[aG,dM]at b;by_cases f:a=0
  .exact⟨1,row,by decide,iB rfl (gP (gY rfl rfl) (gP (jK rfl e) (ku (i9 (g9 (gN rfl rfl (by rw[jj,f];rfl))) (hW rfl)) rfl))),rfl,λi=>by rw[dJ],hb⟩
  .refine⟨a,row.map (λx=>x.fdiv a),by lia,iB rfl (gP (gY rfl rfl) (gP (jK rfl e) (gP (iF (g9 (gN rfl rfl (by rw[jj];simp[f]))) rfl) (hW ?_)))),by simp,λi=>?_,λy D=>?_⟩
   .exact mZ (iV (jS row T.int (λx=>T.int (x.fdiv a)) rfl (by lia) (λx j=>⟨_,rfl,rfl,gN rfl rfl (mL f (s.noPy C))⟩) (by rw[aI];rfl))) rfl
   .by_cases d:i<row.length
    .rw[ke row i d,ke _ i (by simpa using d),dN];obtain⟨q,A⟩:=b _ (aV d);rw[A,cU q f]
    .rw[rJ row i (by lia),rJ _ i (by simp;lia),dO]
   .obtain⟨x,j,rfl⟩:=aD.mp D;exact cg (vI (b x j) f) (hb x j)
 .exact⟨1,row,by decide,iB rfl (gP (gY rfl rfl) (ku (jK rfl e) rfl)),rfl,λi=>by rw[dJ],hb⟩
def rR{g x:Int}(a:g≠0)(h:g*x=0):x=0:=by
 rcases dP.mp h with z|z
 .exact absurd z a
 .exact z
def GX o:kJ o*o=(o.natAbs:Int):=by
 unfold kJ;split
 .rw[dJ];lia
 .split
  .rw[dQ,dJ];lia
  .rw[dR];lia
def nB(p:Nat×LI):T:=.tup [.int (p.1:Int),tI p.2]
noncomputable def sm:Nat->(Nat->Int)->Int
 |0,_=>0
 |n+1,f=>f 0+sm n λi=>f (i+1)
theorem ko:∀n f g,(∀i,i<n->f i=g i)->sm n f=sm n g
 |0,_,_,_=>rfl
 |n+1,f,g,h=>by rw[sm,sm,h 0 (by lia),ko n _ _ λi a=>h (i+1) (by lia)]
theorem uX a b:∀n f g,sm n (λi=>a*f i+b*g i)=a*sm n f+b*sm n g
 |0,_,_=>by simp[sm]
 |n+1,f,g=>by rw[sm,sm,sm,uX a b n (λi=>f (i+1)) λi=>g (i+1),dS,dS];lia
theorem mC a:∀n f,sm n (λi=>a*f i)=a*sm n f
 |0,_=>by simp[sm]
 |n+1,f=>by rw[sm,sm,mC a n λi=>f (i+1),dS]
theorem yq:∀n:Nat,sm n (λ_=>0)=0
 |0=>rfl
 |n+1=>by rw[sm,yq n];rfl
theorem B8:∀(n k:Nat) (f:Nat->Int),k<n->sm n (λi=>(if i=k then 1 else 0)*f i)=f k
 |0,k,f,h=>absurd h (dg _)
 |n+1,0,f,h=>by rw[sm,aQ rfl,dJ,ko n _ (λ_=>0) (λi _=>by rw[aR (by lia),dR]),yq,dU]
 |n+1,k+1,f,h=>by rw[sm,aR (by lia),dR,Int.zero_add,ko n _ (λi=>(if i=k then 1 else 0)*f (i+1)) (λi _=>by simp),B8 n k (λi=>f (i+1)) (by lia)]
def Qs.at0(h:∀x,P x->x k=0)(q:Qs P z):z k=0:=by
 induction q with
 |of p=>exact h _ p
 |zero=>rfl
 |lin _ _ hs e i1 i2=>exact rR hs (by rw[e k,i1,i2,dO,dO];rfl)
theorem yI:∀(m:Nat) (l:List Nat),l.Nodup->(∀x∈l,x<m)->l.length<=m
 |0,[],_,_=>aK _
 |0,x::l,_,h=>absurd (h x (bx ..)) (dg _)
 |m+1,l,hn,h=>by
  have b:=yI m (l.erase m) (hn.erase m) λx d=>by have q:=(hn.mem_erase_iff).mp d;have:=h x q.2;have:=q.1;lia
  by_cases a:m∈l
  .rw[dW a]at b;lia
  .rw[List.erase_of_not_mem a]at b;lia
def Hm(e:fa ρ=.ok (.lst a))(hb:fb ρ=.ok (.lst b))(d:a.length+b.length<=sizeLine):yQ fa fb ρ=.ok (a++b):=by simp only[yQ,e,hb,M.bind_ok];rw[aQ d]
def Ib(h:f ρ=.ok a):jy (lstM (gI f gM)) ρ=.ok (.lst [a]):=by
 have b:1<=sizeLine:=by decide
 simp only[jy,lstM,gI,gM,h,M.bind_ok,De,ay,cE,b,if_true]
def Fs(h:f ρ=.ok a):jX (gI f gM) ρ=.ok (.tup [a]):=by
 have b:1<=sizeLine:=by decide
 simp only[jX,gI,gM,h,M.bind_ok,De,ay,cE,b,if_true]
def nS(h:f ρ=.ok a)(d:g ρ=.ok b):jX (gI f (gI g gM)) ρ=.ok (.tup [a,b]):=by
 have e:2<=sizeLine:=by decide
 simp only[jX,gI,gM,h,d,M.bind_ok,De,ay,cE,e,if_true]
def K1(h:jy f ρ=.ok (.lst ts)):f ρ=.ok ts:=by
 unfold jy at h;cases d:f ρ with
 |ok us=>rw[d]at h;cases h;rfl
 |bad=>rw[d]at h;cases h
 |er a b=>rw[d]at h;cases h
def Og a b (h:a.length+b.length<=sizeLine):jF (.tup a) (.tup b)=.ok (.tup (a++b)):=by unfold jF;exact aQ h
def sU a b (h:a.length+b.length<=1000):jF (tI a) (tI b)=.ok (tI (a++b)):=by
 have sz:1000<sizeLine:=by decide
 unfold tI;rw[Og _ _ (by simp;lia),aZ]
def AF(pv:List (Nat×LI)) left (a:Nat) (f:Nat×LI->LI) (g:pv.length<=100) (e:∀p∈pv,jr c [tI p.2,tI left,.int (a:Int)]=.ok (tI (f p))) :
  mz c [.lst (pv.map nB),tI left,.int (a:Int)]=.ok ((pv.map (λp=>(p.1,f p))++[(a,left)]).map nB):=by
 have sz:1000<sizeLine:=by decide
 have b:kh [none,none,some 1,some 2] fm a0 (λ_=>.ok true) (uD c) (vw (i6 3 [.lst (pv.map nB),tI left,.int a]))=.ok ((pv.map (λp=>(p.1,f p))).map nB):=jS pv nB (λp=>nB (p.1,f p)) rfl (by lia) (λp d=>⟨_,rfl,rfl,nS rfl (kr rfl rfl rfl (e p d))⟩) (by rw[aI];rfl)
 refine nG rfl (oo ?_);rw[aZ];exact Hm (iV b) (Ib (nS rfl rfl)) (by simp;lia)
def n8{α β:Type}[Inhabited β]{P:α->β->Prop}(l:List α)(h:∀a∈l,∃b,P a b):∃f:α->β,∀a∈l,P a (f a):=⟨λa=>Classical.epsilon λb=>P a b,λa ha=>Classical.epsilon_spec (h a ha)⟩
def tm(iL:LL)(w:iL.length<=8)(s:∀r∈iL,r.length<=100):m9 c [.lst (iL.map tI)]=.ok ((iL.zipIdx.map λp=>p.1++(List.replicate iL.length (0:Int)).set p.2 1).map tI):=by
 have sz:1000<sizeLine:=by decide
 obtain⟨l,e,h,n,b,rfl⟩:=jP (m:=kX 2 ga) (g:=xU c) (λ(p:LI×Nat)=>T.tup [.int (p.2:Int),tI p.1])
  (λk l=>∃h n b:Option W,l=[some (.p (.lst (iL.map tI))),some (.o (((iL.zipIdx.take k).map λp=>p.1++(List.replicate iL.length (0:Int)).set p.2 1).map tI)),h,n,b])
  iL.zipIdx 0 _ ⟨none,none,none,rfl⟩ (by
   rintro i ⟨r,k⟩ l j ⟨h,n,b,rfl⟩;rw[aG];have a:=au j;have d:=List.mem_zipIdx a;have v:k<iL.length:=by lia
   have q:=s r (by rw[d.2.2];exact aV _);have u:i<iL.length:=by have:=(aa.mp j).1;simpa using this
   have f:Au ((List.replicate iL.length (0:Int)).map T.int).length (k:Int)=some k:=by unfold Au;rw[aQ (by lia),aQ (by rw[aw,bS];lia)];simp
   refine⟨_,_,rfl,.inl (gP (nY (K1 (Mq iL.length (by lia) (mZ rfl (by simp)))) rfl) (gP (BN (m:=k) rfl rfl rfl rfl f rfl) (NW (t:=tI (r++(List.replicate iL.length (0:Int)).set k 1)) rfl ?_ (by simp) (by simp;lia) rfl))),some (.p (.int (k:Int))),some (.p (tI r)),some (.o (((List.replicate iL.length (0:Int)).map T.int).set k (.int 1))),?_⟩
   .refine gN (x:=tI r) (y:=tI ((List.replicate iL.length (0:Int)).set k 1)) rfl (mZ (t:=.lst (((List.replicate iL.length (0:Int)).set k 1).map T.int)) ?_ rfl) (sU _ _ (by simp;lia));show (M.ok (T.lst (((List.replicate iL.length (0:Int)).map T.int).set k (.int 1))))=_;rw[<-dX]
   .rw[jJ _ i (r,k) j,aZ,aZ];rfl)
 rw[aG,dM]at e;refine nG rfl (gP (nY (ts:=[]) (by simp) rfl) (gP (jK ?_ e) rfl));rw[<-t8];rfl
def tN a b i:vc (a++b) i=if i<a.length then vc a i else vc b (i-a.length):=by
 unfold vc;by_cases h:i<a.length
 .rw[aQ h,af,List.getElem?_append_left h,<-af]
 .rw[aR h,af,List.getElem?_append_right (by lia),<-af]
def GL(d B:Nat)(a:LI):Prop:=a.length=d+1/\∀x∈a,Bn B x
structure GC(d B:Nat)(ns:LI):Prop where
 gl:GL d B ns
 re:∃p,p<d/\vc ns p≠0
def GL.mono(h:GL d B ns)(b:B<=B'):GL d B' ns:=⟨h.1,λx a=>(h.2 x a).mono b⟩
def TZ ns k v i (a:k<ns.length):vc (ns.set k v) i=if k=i then v else vc ns i:=by
 unfold vc;rw[af,List.getElem?_set];by_cases h:k=i
 .subst h;rw[aQ rfl,aQ rfl,aQ a];rfl
 .rw[aR h,aR h,<-af]
def PN n k (h:k<n):Au n (k:Int)=some k:=by unfold Au;rw[aQ (by lia),aQ (by lia)];simp
def oJ(n:Nat)(h:n<=1000)(a:f ρ=.ok (.int (n:Int))):lE (gI f gM) ρ=.ok ((List.range n).map λ(i:Nat)=>T.int (i:Int)):=by have hr:EW n=true:=nW (by lia);rw[<-Qh];simp[a,hr]
noncomputable def lV(a b:LI):Bool:=(List.range a.length).all λk=>(List.range k).all λj=>vc a k*vc b j==vc a j*vc b k
def xQ n B a b (s:a.length=n) (hb:b.length=n) (L:n<=10) (N:B<=1000) (u:∀x∈a,Bn B x) (r:∀x∈b,Bn B x):kQ c [tI a,tI b]=.ok (.bl (lV a b)):=by
 have sz:1000<sizeLine:=by decide
 have i:=rZ (m:=j6 2) (λ(k:Nat)=>T.int (k:Int)) (λρ=>∃o d,ρ=[some (.p (tI a)),some (.p (tI b)),o,d]) (λk=>(List.range k).all λj=>vc a k*vc b j==vc a j*vc b k) (.bl false) (List.range n) [some (.p (tI a)),some (.p (tI b)),none,none] ⟨none,none,rfl⟩ (by
  rintro k K ρ ⟨o,d,rfl⟩;have C:=aS.mp K;refine⟨_,rfl,?_⟩;have l:=rZ (m:=j6 3) (g:=xG c) (λ(j:Nat)=>T.int (j:Int)) (λρ=>∃d,ρ=[some (.p (tI a)),some (.p (tI b)),some (.p (.int (k:Int))),d]) (λj=>vc a k*vc b j==vc a j*vc b k) (.bl false) (List.range k) [some (.p (tI a)),some (.p (tI b)),some (.p (.int (k:Int))),d] ⟨d,rfl⟩ (by
   rintro j H ρ ⟨d,rfl⟩;have y:=aS.mp H;have z:=kz a k (by lia);have I:=kz b j (by lia);have A:=kz a j (by lia);have D:=kz b k (by lia);have F:=iJ ((u _ (getD_mem a k (by lia))).ok (r _ (getD_mem b j (by lia))) (by lia) (by lia));have J:=iJ ((u _ (getD_mem a j (by lia))).ok (r _ (getD_mem b k (by lia))) (by lia) (by lia));have w:iD (gW (iy true) (gW jE (gW iP ap bf) (gW iP ah bm)) (gW jE (gW iP ap bm) (gW iP ah bf))) (vw [some (.p (tI a)),some (.p (tI b)),some (.p (.int (k:Int))),some (.p (.int (j:Int)))])=.ok (!(vc a k*vc b j==vc a j*vc b k)):=g9 (gN (gN (gN rfl rfl z) (gN rfl rfl I) F) (gN (gN rfl rfl A) (gN rfl rfl D) J) (lq _ _))
   refine⟨_,rfl,λh=>⟨_,iF (w.trans (by rw[h];rfl)) rfl,_,rfl⟩,λh=>i9 (w.trans (by rw[h];rfl)) (hW rfl)⟩)
  have hr:=oJ (f:=gJ 2) (ρ:=vw [some (.p (tI a)),some (.p (tI b)),some (.p (.int (k:Int))),d]) k (by lia) rfl;refine⟨λh=>?_,λh=>oU hr (l.2 h)⟩;obtain⟨q,e,E,rfl⟩:=l.1 h;exact⟨_,oU hr e,_,_,rfl⟩)
 have hr:=oJ (f:=kg kH bo) (ρ:=vw (i6 4 [tI a,tI b])) n (by lia) (mZ (t:=tI a) rfl (by simp[tI,s]));have v:lV a b=((List.range n).all λk=>(List.range k).all λj=>vc a k*vc b j==vc a j*vc b k):=by unfold lV;rw[s]
 cases h:lV a b with
 |true=>obtain⟨q,e,o,d,rfl⟩:=i.1 (by rw[<-v];exact h);exact iB rfl (gP (oU hr e) (hW rfl))
 |false=>exact iB rfl (ku (oU hr (i.2 (by rw[<-v];exact h))) rfl)
def GC.mono(h:GC d B ns)(a:B<=B'):GC d B' ns:=⟨h.gl.mono a,h.re⟩
def yV a (o:a.length<=100) (h:∃p,p<a.length/\vc a p≠0):∃p:Nat,mM c [tI a]=.ok (.int (p:Int))/\p<a.length/\vc a p≠0:=by
 obtain⟨q,r,f⟩:=h;obtain⟨b,e,p,rfl,l,i⟩:=nZ (c:=iD (gW (iy false) ei ac)) (g:=sX c)
  (λb=>∃k:Nat,b=[some (.p (tI a)),some (.p (.int (k:Int)))]/\k<=q) (λb=>match b with|_::some (.p (.int j))::_=>q-j.toNat|_=>0)
  (λb=>∃k:Nat,b=[some (.p (tI a)),some (.p (.int (k:Int)))]/\k<a.length/\vc a k≠0) (by
   rintro b ⟨k,rfl,hk⟩;have m:iP (tI a) (.int (k:Int))=.ok (.int (vc a k)):=kz a k (by lia);by_cases d:vc a k=0
   .have n:k≠q:=λz=>f (by rw[<-z];exact d);refine .inr ⟨g9 (gN (gN rfl rfl m) rfl (by rw[jj,d];rfl)),_,.inl (gY (gN rfl rfl (by rw[jw];simp)) rfl),⟨k+1,rfl,by lia⟩,?_⟩;show q-(((k+1:Nat):Int)).toNat<q-((k:Int)).toNat;lia
   .exact .inl ⟨g9 (gN (gN rfl rfl m) rfl (by rw[jj];simp[d])),k,rfl,by lia,d⟩)
  ((a.map T.int).length+1) [some (.p (tI a)),some (.p (.int ((0:Nat):Int)))] ⟨0,rfl,by lia⟩ (by rw[aw];lia)
 exact⟨p,iB rfl (gP (gY rfl rfl) (gP e (hW rfl))),l,i⟩
def Ax d B a b (Q:d<=3) (R:B<=1000) (f:GC d B a) (l:GL d B b) (h:lV a b=false):nC c [tI a,tI b]=.ok (.bl false):=by
 have sz:1000<sizeLine:=by decide
 have z:=f.gl.1;have w:=l.1;obtain⟨q,P,g⟩:=f.re;obtain⟨p,H,r,n⟩:=yV a (by lia) ⟨q,by lia,g⟩;have v:=kz b p (by lia);have K:=kz a p r;have E:kh [none,none,some 1,some 2,some 0] (m7 bv) a0 (λ_=>.ok true) (uF c) (vw [some (.p (tI a)),some (.p (tI b)),some (.p (.int p))])=.ok (((a.zip b).map λx=>x.1*vc b p==x.2*vc a p).map T.bl):=jS (a.zip b) (λx=>T.tup [.int x.1,.int x.2]) (λx=>T.bl (x.1*vc b p==x.2*vc a p)) (nT rfl rfl rfl rfl) (by rw[dY];lia) (λx s=>⟨_,rfl,rfl,by have L:=f.gl.2 _ (aW s).1;have I:=l.2 _ (aW s).2;have y:=l.2 _ (getD_mem b p (by lia));have F:=f.gl.2 _ (getD_mem a p r);exact gN (gN rfl (gN rfl rfl v) (iJ (L.ok y (by lia) (by lia)))) (gN rfl (gN rfl rfl K) (iJ (I.ok F (by lia) (by lia)))) (jj _ _)⟩) (by rw[aI];rfl)
 refine iB rfl (gP (gY (oO rfl H) rfl) (hW (oM E ?_)));rw[t6];congr 2;cases u:((a.zip b).map λx=>x.1*vc b p==x.2*vc a p).all id with
 |false=>rfl
 |true=>
  exfalso;rw[cD]at u;have e:=C4.par_of_place n λi o=>by
   have C:(a.zip b)[i]? = some (a[i],b[i]'(by lia)):=by rw[List.getElem?_zip_eq_some];exact⟨ag o,ag (by lia)⟩
   have:=u _ (aD.mpr ⟨_,au C,rfl⟩);have D:a[i]*vc b p=(b[i]'(by lia))*vc a p:=by simpa using this
   show vc a i*vc b p=vc b i*vc a p;rw[ke a i o,ke b i (by lia)];exact D
  have:lV a b=true:=by unfold lV;refine cD.mpr λk N=>cD.mpr λj J=>?_;have m:=aS.mp N;have A:=aS.mp J;have:=e k j m (by lia);simpa[vc] using this
  rw[h]at this;cases this
structure y9(d B:Nat)(cs:LL):Prop where
 gc:∀f∈cs,GC d B f
 few:cs.length<=7
 pw:cs.Pairwise λa b=>lV a b=false
def NB(h:GC d B ns):uI d (tI ns)=true:=by
 obtain⟨p,f,a⟩:=h.re;have e:=h.gl.1;unfold tI uI;have j:(ns.map T.int).length=d+1:=by simp[e]
 have b:(ns.map T.int).all isInt=true:=cD.mpr λx g=>by obtain⟨y,-,rfl⟩:=aD.mp g;rfl
 show (decide ((ns.map T.int).length=d+1)&&(ns.map T.int).all isInt&&(match kc (ns.map T.int) with|some ns=>(ns.take d).any (· != 0)|none=>false))=true;rw[aC j,b,Ek];refine dZ.mpr ⟨vc ns p,?_,by simpa using a⟩;rw[ke ns p (by lia)];refine au (i:=p) ?_;rw[List.getElem?_take,aQ f,ag (by lia)]
def Cq d B (b:LL) ns (k:1<=d/\d<=3) (s:B<=1000) (v:b.length<7) (o:∀f∈b,GC d B f) (g:GC d B ns) (q:∀f∈b,lV f ns=false):nh c [.int d,.lst (b.map tI),tI ns]=.ok (.bl true):=by
 have sz:1000<sizeLine:=by decide
 have i:=IJ (c:=c) d (by lia) (tI ns) rfl λw e=>by cases e;refine⟨by rw[aw,g.gl.1];lia,λt j=>by obtain⟨y,-,rfl⟩:=aD.mp j;rfl⟩
 rw[NB g]at i;have m:kh [none,some 2] (jh ah) bP (λ_=>.ok true) (rF c) (vw (i6 3 [.int d,.lst (b.map tI),tI ns]))=.ok ((b.map λ_=>false).map T.bl):=jS b tI (λ_=>T.bl false) rfl (by lia) (λf h=>⟨_,rfl,rfl,iH rfl rfl (Ax d B f ns k.2 s (o f h) g.gl (q f h))⟩) (by rw[aI];rfl)
 have u:iD (gW Q6 gk ld) (vw (i6 3 [.int d,.lst (b.map tI),tI ns]))=.ok false:=g9 (gN (x:=.int (b.length:Int)) (mZ (t:=.lst (b.map tI)) rfl (by simp)) rfl (by rw[tZ];congr 2;exact aB (by lia)))
 have n:iD (gS (gI ap bc) (qQ c)) (vw (i6 3 [.int d,.lst (b.map tI),tI ns]))=.ok true:=g9 (iH rfl rfl i);refine iB rfl (gP (iF ?_ rfl) (hW ?_))
 .simp only[L3.rV,L3.lA,u,n,M.bind_ok];rfl
 .have p:kg xY (gI (jy (kh [none,some 2] (jh ah) bP (λ_=>.ok true) (rF c))) gM) (vw (i6 3 [.int d,.lst (b.map tI),tI ns]))=.ok (.bl false):=by
   refine oM m ?_;rw[BQ];congr 2;induction b with
   |nil=>rfl
   |cons a l ih=>simp
  have r:=g9 p;simp only[DF,r,M.bind_ok];rfl
def GD d B cs (s:1<=d/\d<=3) (w:B<=1000) (h:y9 d B cs):lx c [.int d,.lst (cs.map tI)]=.ok (.tup (cs.map tI)):=by
 have sz:1000<sizeLine:=by decide
 have b:=h.few;obtain⟨l,e,r,rfl⟩:=jP (m:=j6 3) (g:=si c) tI
  (λk l=>∃r:Option W,l=[some (.p (.int d)),some (.p (.lst (cs.map tI))),some (.o ((cs.take k).map tI)),r])
  cs 0 _ ⟨none,rfl⟩ (by
   rintro k a l j ⟨r,rfl⟩;rw[aG];have A:=(aa.mp j).1;have n:=Cq (c:=c) d B (cs.take k) a s w (by rw[bR];lia) (λf b=>h.gc f (d8 b)) (h.gc a (au j)) λf b=>by have u:=h.pw;rw[<-List.take_append_drop k cs,eg]at u;refine u.2.2 f b a ?_;refine au (i:=0) ?_;rw[List.getElem?_drop,Nat.add_zero];exact j
   have q:iD (gS (gI ap (gI bf gn)) (nh c)) (vw [some (.p (.int d)),some (.p (.lst (cs.map tI))),some (.o ((cs.take k).map tI)),some (.p (tI a))])=.ok true:=g9 (kr (y:=.lst ((cs.take k).map tI)) (z:=tI a) rfl rfl rfl n);refine⟨_,_,rfl,.inl (gP (iF (qw q rfl) rfl) (wU (us:=(cs.take k).map tI) (t:=tI a) rfl (mZ (t:=tI a) rfl rfl) (by rw[aw,bR];lia) rfl)),some (.p (tI a)),?_⟩;rw[jJ cs k a j,aZ];rfl)
 rw[aG,dM]at e;have x:iD (gS bo (ph c)) (vw (i6 4 [.int d,.lst (cs.map tI)]))=.ok true:=g9 (oO rfl (Fk d s));have v:iD (pE "list" ah) (vw (i6 4 [.int d,.lst (cs.map tI)]))=.ok true:=rfl;refine iB rfl (gP (iF ?_ rfl) (gP (nY (ts:=[]) (by simp) rfl) (gP (jK rfl e) (hW rfl))));simp only[L3.rV,L3.lA,x,v,M.bind_ok];rfl
noncomputable def mq(c:Cs)(d:Nat)(cs:LL):T:=.obj c.Cutting [("own_cuts",.tup (cs.map tI)),("own_dims",.int d)]
def C1 d B cs (a:1<=d/\d<=3) (b:B<=1000) (h:y9 d B cs):jg c [.int d,.lst (cs.map tI)]=.ok (mq c d cs):=by have e:=GD (c:=c) d B cs a b h;have q:gS ip (lx c) (none::[T.int d,.lst (cs.map tI)].map some)=.ok (.tup (cs.map tI)):=iH rfl rfl e;unfold jg AU;rw[aQ (show [T.int d,T.lst (cs.map tI)].length=2 from rfl),q];rfl
def GE(h:f ρ=.ok (.obj C fs))(a:fs.lookup x=some t):EF C x f ρ=.ok t:=by unfold EF;rw[h,M.bind_ok];show (if C=C then (match fs.lookup x with|some t=>M.ok t|none=>.bad) else .bad)=_;rw[aQ rfl,a]
def yt(d:Nat)(cs:LL){f:Pe->M T}{ρ:Pe}(a:f ρ=.ok (mq c d cs)):uJ c.Cutting "dims" f gM (jC c) ρ=.ok (.int d):=by
 have e:xD c.Cutting "dims" (mq c d cs)=.ok ():=by unfold xD mq;exact aQ ⟨rfl,rfl⟩
 have b:jC c [mq c d cs]=.ok (.int d):=iB rfl (hW (GE rfl rfl));simp only[uJ,a,M.bind_ok,e,gM,b,M.noEr_ok]
def yA d cs (a:f ρ=.ok (mq c d cs)):uN c.Cutting "cuts" f gM (jD c) ρ=.ok (cs.map tI):=by
 have e:xD c.Cutting "cuts" (mq c d cs)=.ok ():=by unfold xD mq;exact aQ ⟨rfl,rfl⟩
 have b:jD c [mq c d cs]=.ok (cs.map tI):=nG rfl (oo (by have:EF c.Cutting "own_cuts" ap (vw (i6 1 [mq c d cs]))=.ok (.tup (cs.map tI)):=GE rfl rfl;simp only[IX,gI,gM,this,M.bind_ok];rfl))
 simp only[uN,a,M.bind_ok,e,gM,b,M.noEr_ok]
noncomputable def Tc(a b:LI):Int:=((a.zip b).map λp=>p.1*p.2).sum
def F6{a b e x y z:Int}(d:x≠y)(f:x≠z)(h:y≠z)(o:a+b*x+e*(x*x)=0)(q:a+b*y+e*(y*y)=0)(p:a+b*z+e*(z*z)=0):a=0/\b=0/\e=0:=by
 have n:(x-y)*(b+e*(x+y))=0:=by grind
 have i:(x-z)*(b+e*(x+z))=0:=by grind
 have m:=rR (by lia) n;have r:=rR (by lia) i;have l:(y-z)*e=0:=by grind
 have g:=rR (by lia) l;subst g;have k:b=0:=by simpa using m
 subst k;have j:a=0:=by simpa using o
 exact⟨j,rfl,rfl⟩
def V1(i:f ρ=.ok a)(d:g ρ=.ok b)(j:h ρ=.ok e):jX (gI f (gI g (gI h gM))) ρ=.ok (.tup [a,b,e]):=by
 have k:3<=sizeLine:=by decide
 simp only[jX,gI,gM,i,d,j,M.bind_ok,De,ay,cE,k,if_true]
def Eu l k i:vc (l.drop k) i=vc l (k+i):=by unfold vc;rw[af,List.getElem?_drop,<-af]
end CL
namespace CL
noncomputable def j4(m:Nat)(A u:Vc):Int:=sm m λi=>A i*u i
def rP(h:∀i,s*z i=a*x i+b*y i):s*j4 m A z=a*j4 m A x+b*j4 m A y:=by
 unfold j4;rw[<-mC,<-uX];refine ko m _ _ λi _=>?_;have:=h i;calc s*(A i*z i)=A i*(s*z i):=by rw[Int.mul_left_comm]
  _=A i*(a*x i+b*y i):=by rw[this]
  _=a*(A i*x i)+b*(A i*y i):=by grind
structure l9(m:Nat)(As:List Vc)(u:Vc):Prop where
 nn:∀i,0<=u i
 out:∀i,m<=i->u i=0
 ne:∃i,u i≠0
 eq:∀A∈As,j4 m A u=0
noncomputable def cs(m:Nat)(u:Vc):Nat:=(List.range m).countP λi=>decide (u i≠0)
def UF(h:∀i,i<m->v i=0->u i=0):cs m u<=cs m v:=by unfold cs;refine eA λi b q=>?_;have a:=aS.mp b;simp only[decide_eq_true_eq]at q ⊢;exact λz=>q (h i a z)
theorem Bp{e:Type}{p q:e->Bool}:∀{l:List e},(∀a∈l,p a=true->q a=true)->(∃a∈l,q a=true/\p a=false)->l.countP p<l.countP q
 |[],_,⟨_,h,_⟩=>by cases h
 |a::l,h,⟨b,hb,h1,h2⟩=>by
  rw[List.countP_cons,List.countP_cons];have mono:l.countP p<=l.countP q:=eA λc d=>h c (by simp[d]);rcases aF.mp hb with rfl|hb
  .rw[h1,h2];simp;lia
  .have g:=Bp (λc d=>h c (by simp[d])) ⟨b,hb,h1,h2⟩;cases f:p a with
   |true=>rw[h a (by simp) f];simp;lia
   |false=>cases i:q a<;>simp<;>lia
def Ey(h:∀i,i<m->v i=0->u i=0)(e:k<m)(d:v k≠0)(c:u k=0):cs m u<cs m v:=by unfold cs;refine Bp (λi b q=>?_) ⟨k,aS.mpr e,by simpa using d,by simpa using c⟩;have a:=aS.mp b;simp only[decide_eq_true_eq]at q ⊢;exact λz=>q (h i a z)
theorem Q5(u v:Vc):∀m,(∃j,j<m/\0<v j)->∃k,k<m/\0<v k/\∀i,i<m->0<v i->u k*v i<=u i*v k
 |0,⟨_,h,_⟩=>absurd h (dg _)
 |m+1,⟨j,hj,hv⟩=>by
  by_cases c:∃j,j<m/\0<v j
  .obtain⟨k,z,n,l⟩:=Q5 u v m c;by_cases d:0<v m
   .by_cases p:u k*v m<=u m*v k
    .refine⟨k,by lia,n,λi g b=>?_⟩;by_cases e:i=m
     .subst e;exact p
     .exact l i (by lia) b
    .refine⟨m,by lia,d,λi g b=>?_⟩;by_cases e:i=m
     .subst e;exact eD _
     .have a:=l i (by lia) b;have f:u m*v k<=u k*v m:=aA (Int.not_le.mp p);have s:u m*v i*v k<=u i*v m*v k:=by
       have o:=aJ f (aA b);have r:=aJ a (aA d);have x:u m*v i*v k=u m*v k*v i:=by grind
       have q:u k*v m*v i=u k*v i*v m:=by grind
       have w:u i*v m*v k=u i*v k*v m:=by grind
       rw[x,w];rw[q]at o;exact eE o r
      exact Int.le_of_mul_le_mul_right s n
   .refine⟨k,by lia,n,λi g b=>?_⟩;by_cases e:i=m
    .subst e;exact absurd b d
    .exact l i (by lia) b
  .have y:j=m:=by
    rcases eF j m with h|h
    .exact absurd ⟨j,h,hv⟩ c
    .lia
   subst y;refine⟨j,by lia,hv,λi g b=>?_⟩;by_cases e:i=j
   .subst e;exact eD _
   .exact absurd ⟨i,by lia,b⟩ c
def yW(c:l9 m As u)(h:∀i,m<=i->v i=0)(o:∀A∈As,j4 m A v=0)(n:∃j,j<m/\0<v j)(vs:∀i,u i=0->v i=0) :
  ∃k,k<m/\0<v k/\0<u k/\(∀i,0<=v k*u i-u k*v i)/\(∀i,m<=i->v k*u i-u k*v i=0)/\(∀A∈As,j4 m A (λi=>v k*u i-u k*v i)=0)/\cs m (λi=>v k*u i-u k*v i)<cs m u:=by
 obtain⟨k,l,f,p⟩:=Q5 u v m n;have q:u k≠0:=λz=>by rw[vs k z]at f;exact absurd f (by decide)
 have d:0<u k:=by have:=c.nn k;lia
 refine⟨k,l,f,d,λi=>?_,λi e=>?_,λA g=>?_,?_⟩
 .by_cases e:i<m
  .by_cases hv:0<v i
   .have:=p i e hv;rw[cT (v k)];lia
   .have a:0<=v k*u i:=aP (aA f) (c.nn i);have b:u k*v i<=0:=eG (aA d) (by lia);lia
  .rw[c.out i (by lia),h i (by lia)];simp
 .rw[c.out i e,h i e];simp
 .have:=rP (m:=m) (A:=A) (x:=u) (y:=v) (z:=λi=>v k*u i-u k*v i) (s:=1) (a:=v k) (b:=-u k) (λi=>by grind);rw[c.eq A g,o A g]at this;simpa using this
 .refine Ey (λi _ z=>?_) l q ?_
  .rw[z,vs i z];simp
  .rw[cT];lia
theorem zr m:∀(f:List Vc) (T:List Nat),T.Nodup->(∀t∈T,t<m)->f.length<T.length->∃v:Vc,(∃i,v i≠0)/\(∀i,i∉T->v i=0)/\∀A∈f,j4 m A v=0
 |[],T,nd,ht,hl=>by
  cases T with
  |nil=>cases hl
  |cons t T=>refine⟨λi=>if i=t then 1 else 0,⟨t,by simp⟩,λi g=>?_,λA l=>nomatch l⟩;have:i≠t:=λz=>g (by simp[z]);simp[this]
 |A::f,T,nd,ht,hl=>by
  cases T with
  |nil=>cases hl
  |cons t T=>
   obtain⟨D,n⟩:=bO.mp nd;have h:f.length<T.length:=by simp at hl;exact hl
   obtain⟨d,⟨j,w⟩,o1,E⟩:=zr m f T n (λx q=>ht x (by simp[q])) h;have r:j∈T:=aO λz=>w (o1 j z);have p:f.length<((t::T).erase j).length:=by have C:j∈t::T:=bz _ r;rw[dW C,ay];exact h
   obtain⟨c,⟨k,F⟩,o2,u⟩:=zr m f ((t::T).erase j) (nd.erase j) (λx q=>ht x (eI q)) p;have o:c j=0:=o2 j (λz=>by rw[List.Nodup.mem_erase_iff nd]at z;exact z.1 rfl);by_cases l:j4 m A c=0
   .exact⟨c,⟨k,F⟩,λi g=>o2 i (λz=>g (eI z)),λB e=>by
     rcases aF.mp e with rfl|e
     .exact l
     .exact u B e⟩
   .refine⟨λi=>j4 m A c*d i-j4 m A d*c i,⟨j,?_⟩,λi g=>?_,λB e=>?_⟩
    .dsimp only;rw[o];simp[l,w]
    .show j4 m A c*d i-j4 m A d*c i=0;rw[o1 i (λz=>g (by simp[z])),o2 i (λz=>g (eI z))];simp
    .have:=rP (m:=m) (A:=B) (x:=d) (y:=c) (z:=λi=>j4 m A c*d i-j4 m A d*c i) (s:=1) (a:=j4 m A c) (b:=-j4 m A d) (λi=>by grind);rcases aF.mp e with rfl|e
     .rw[dJ]at this;rw[this];grind
     .rw[E B e,u B e]at this;simpa using this
def SS(m:Nat)(a:List Vc)(u:Vc):Prop:=l9 m a u/\∀v,l9 m a v->(∀i,u i=0->v i=0)->∀i,v i=0->u i=0
def JU(h:SS m As u):cs m u<=As.length+1:=by
 obtain⟨H,F⟩:=h;refine Nat.le_of_not_lt λB=>?_;let S:=(List.range m).filter λi=>decide (u i≠0);have o:S.length=cs m u:=by show (List.filter _ _).length=_;unfold cs;rw[eJ]
 have q:∀i,i∈S↔i<m/\u i≠0:=λi=>by show i∈List.filter _ _↔_;simp
 have l:S.Nodup:=List.Pairwise.filter _ eK;cases c:S with
 |nil=>rw[c]at o;simp at o;lia
 |cons t T=>
  rw[c]at o l;simp only[ay]at o;obtain⟨g,p⟩:=bO.mp l;have f:∀i∈T,i<m/\u i≠0:=λi e=>(q i).mp (by rw[c];simp[e]);obtain⟨d,⟨j,L⟩,o0,r⟩:=zr m As T p (λi e=>(f i e).1) (by lia);obtain⟨v,vo,ve,vp,vt⟩:∃v:Vc,(∀i,i∉T->v i=0)/\(∀A∈As,j4 m A v=0)/\(∃j,j<m/\0<v j)/\v t=0:=by
   have n:j∈T:=aO λz=>L (o0 j z);by_cases K:0<d j
   .exact⟨d,o0,r,⟨j,(f j n).1,K⟩,o0 t g⟩
   .refine⟨λi=>-d i,λi e=>by show -d i=0;rw[o0 i e];rfl,λA D=>?_,⟨j,(f j n).1,by show 0 < -d j;lia⟩,by show -d t=0;rw[o0 t g];rfl⟩;have:=rP (m:=m) (A:=A) (x:=d) (y:=d) (z:=λi=>-d i) (s:=1) (a:=-1) (b:=0) (λi=>by grind);rw[r A D]at this;simpa using this
  have C:t<m/\u t≠0:=(q t).mp (by rw[c];simp);obtain⟨k,P,Q,R,I,N,E,X⟩:=yW H (λi e=>vo i (λz=>by have:=(f i z).1;lia)) ve vp (λi z=>vo i (λw=>(f i w).2 z));have J:l9 m As (λi=>v k*u i-u k*v i):=⟨I,N,⟨t,by rw[vt];simp;exact⟨by lia,C.2⟩⟩,E⟩;have U:=F _ J (λi z=>by rw[z,vo i (λw=>(f i w).2 z)];simp) k (by rw[cT];lia);lia
def GO{m:Nat}{a Bs:List Vc}{u:Vc}(h:l9 m Bs u)(b:∀A∈a,A∈Bs):l9 m a u:=⟨h.nn,h.out,h.ne,λA c=>h.eq A (b A c)⟩
inductive Cn(P:Vc->Prop):Vc->Prop
 |of {x:Vc}:P x->Cn P x
 |lin {x y z:Vc} {s a b:Int}:Cn P x->Cn P y->0<s->0<=a->0<=b->0<a+b->(∀i,s*z i=a*x i+b*y i)->Cn P z
def Cn.mono(h:∀x,P x->P' x)(q:Cn P z):Cn P' z:=by
 induction q with
 |of q=>exact .of (h _ q)
 |lin _ _ hs ha hb hab e i1 i2=>exact .lin i1 i2 hs ha hb hab e
def yG{a b p q:Int}(g:0<=a)(hb:0<=b)(h:0<a*p+b*q):(0<a/\0<p)\/0<b/\0<q:=by
 have d:∀{u v:Int},0<=u->¬(0<u/\0<v)->u*v<=0:=λ{u v} hu hn=>by
  by_cases f:u=0
  .rw[f,dR];exact eD _
  .exact eG hu (by lia)
 by_cases c:0<a/\0<p
 .exact .inl c
 .by_cases e:0<b/\0<q
  .exact .inr e
  .have:=d g c;have:=d hb e;lia
theorem Cn.parts(X:∀x,P x->∀i,0<=x i){f:Vc->Int}(Z:∀x y z s a b,(∀i,s*z i=a*x i+b*y i)->s*f z=a*f x+b*f y)(h:Cn P z) :
  (∀i,0<=z i)/\(0<f z->∃g,P g/\(∀i,z i=0->g i=0)/\0<f g)/\(f z<0->∃g,P g/\(∀i,z i=0->g i=0)/\f g<0)/\
   (f z=0->(∃g,P g/\(∀i,z i=0->g i=0)/\f g=0)\/∃g l,P g/\P l/\(∀i,z i=0->g i=0)/\(∀i,z i=0->l i=0)/\0<f g/\f l<0):=by
 induction h with
 |of h=>rename_i x;exact⟨X _ h,λq=>⟨x,h,λ_ z=>z,q⟩,λq=>⟨x,h,λ_ z=>z,q⟩,λq=>.inl ⟨x,h,λ_ z=>z,q⟩⟩
 |lin _ _ hs ha hb hab e i1 i2=>
  rename_i x y z s a b _ _;obtain⟨F,N,Q,S⟩:=i1;obtain⟨I,L,R,z2⟩:=i2;have q:=Z _ _ _ _ _ _ e;have U:∀i,0<=z i:=λi=>by
   have E:=aP ha (F i);have B:=aP hb (I i);have n:0<=s*z i:=by rw[e i];lia
   exact Int.le_of_mul_le_mul_left (a:=s) (by simpa using n) hs
  have A:0<a->∀i,z i=0->x i=0:=λha' i v=>by
   have:=e i;rw[v,dO]at this;have E:=aP ha (F i);have B:=aP hb (I i);have n:a*x i=0:=by lia
   rcases dP.mp n with h|h
   .lia
   .exact h
  have m:0<b->∀i,z i=0->y i=0:=λhb' i v=>by
   have:=e i;rw[v,dO]at this;have E:=aP ha (F i);have B:=aP hb (I i);have n:b*y i=0:=by lia
   rcases dP.mp n with h|h
   .lia
   .exact h
  have up:∀{g w:Vc},(∀i,z i=0->w i=0)->(∀i,w i=0->g i=0)->∀i,z i=0->g i=0:=λE B i v=>B i (E i v);refine⟨U,λh=>?_,λh=>?_,λh=>?_⟩
  .rcases yG ha hb (by rw[<-q];exact aX hs h) with⟨k,p⟩|⟨k,p⟩
   .obtain⟨g,c,d,j⟩:=N p;exact⟨g,c,up (A k) d,j⟩
   .obtain⟨g,c,d,j⟩:=L p;exact⟨g,c,up (m k) d,j⟩
  .have w:=eM hs h;rcases yG (p:=-f x) (q:=-f y) ha hb (by rw[cV,cV];lia) with⟨k,p⟩|⟨k,p⟩
   .obtain⟨g,c,d,j⟩:=Q (by lia);exact⟨g,c,up (A k) d,j⟩
   .obtain⟨g,c,d,j⟩:=R (by lia);exact⟨g,c,up (m k) d,j⟩
  .rw[h,dO]at q;by_cases C:0<a/\0<f x
   .have w:=aX C.1 C.2;rcases yG (p:=0) (q:=-f y) ha hb (by rw[cV];lia) with⟨-,p⟩|⟨k,p⟩
    .lia
    .obtain⟨g,c,d,j⟩:=N C.2;obtain⟨r,K,J,H⟩:=R (by lia);exact .inr ⟨g,r,c,K,up (A C.1) d,up (m k) J,j,H⟩
   .by_cases D:0<a/\f x<0
    .have w:=eM D.1 D.2;rcases yG (p:=0) (q:=f y) ha hb (by lia) with⟨-,p⟩|⟨k,p⟩
     .lia
     .obtain⟨g,c,d,j⟩:=L p;obtain⟨r,K,J,H⟩:=Q D.2;exact .inr ⟨g,r,c,K,up (m k) d,up (A D.1) J,j,H⟩
    .have o:∀{w:Vc},(∀i,z i=0->w i=0)->((∃g,P g/\(∀i,w i=0->g i=0)/\f g=0)\/∃g l,P g/\P l/\(∀i,w i=0->g i=0)/\(∀i,w i=0->l i=0)/\0<f g/\f l<0)->(∃g,P g/\(∀i,z i=0->g i=0)/\f g=0)\/∃g l,P g/\P l/\(∀i,z i=0->g i=0)/\(∀i,z i=0->l i=0)/\0<f g/\f l<0:=λu h=>by
      rcases h with⟨g,c,d,j⟩|⟨g,l,c,d,j,Y,g5⟩
      .exact .inl ⟨g,c,up u d,j⟩
      .exact .inr ⟨g,l,c,d,up u j,up u Y,g5⟩
     by_cases k:0<a
     .exact o (A k) (S (by lia))
     .rw[show a=0 by lia,dR,Int.zero_add]at q;exact o (m (by lia)) (z2 (by rcases dP.mp q.symm with w|w<;>lia))
def IG(c:SS m As u)(b:l9 m As z)(d:∀i,u i=0->z i=0):∃s a:Int,0<s/\0<a/\∀i,s*u i=a*z i:=by
 obtain⟨j,q⟩:=b.ne;have v:j<m:=by
  rcases eF j m with h|h
  .exact h
  .exact absurd (b.out j h) q
 have n:0<z j:=by have:=b.nn j;lia
 obtain⟨k,x,g,l,o,r,e,w⟩:=yW c.1 b.out b.eq ⟨j,v,n⟩ d;refine⟨z k,u k,g,l,λi=>?_⟩;refine aO λf=>?_;have p:l9 m As (λi=>z k*u i-u k*z i):=⟨o,r,⟨i,by lia⟩,e⟩;have:=c.2 _ p (λi z=>by rw[z,d i z];simp) k (by rw[cT];lia);lia
def TX m A:∀x y z s a b,(∀i,s*z i=a*x i+b*y i)->s*j4 m A z=a*j4 m A x+b*j4 m A y:=λ_ _ _ _ _ _ h=>rP h
theorem Ru(p:∀x,P x->l9 m As x)(K:∀u,l9 m As u->Cn P u)(h0:∀x,P x->j4 m A x=0->P' x)
  (h1:∀x y,P x->P y->0<j4 m A x->j4 m A y<0->cs m (λi=>(-j4 m A y)*x i+j4 m A x*y i)<=As.length+2->P' (λi=>(-j4 m A y)*x i+j4 m A x*y i)) :
  ∀n u,cs m u<=n->l9 m (A::As) u->Cn P' u:=by
 intro n;induction n with
 |zero=>
  intro u X f;obtain⟨i,o⟩:=f.ne;have Y:i<m:=by
   rcases eF i m with h|h
   .exact h
   .exact absurd (f.out i h) o
  have:=Ey (m:=m) (u:=λ_=>0) (v:=u) (λ_ _ _=>rfl) Y o rfl;lia
 |succ n ih=>
  intro u X f;by_cases J:SS m (A::As) u
  .have E:l9 m As u:=GO f λB d=>by simp[d]
   have hz:∃z,P' z/\l9 m (A::As) z/\∀i,u i=0->z i=0:=by
    obtain⟨_,_,_,hp⟩:=(K u E).parts (λx hx=>(p x hx).nn) (TX m A);rcases hp (f.eq A (by simp)) with⟨g,l,w,C⟩|⟨g,c,l,w,C,g4,L,g6⟩
    .exact⟨g,h0 g l C,⟨(p g l).nn,(p g l).out,(p g l).ne,λB d=>by
      rcases aF.mp d with rfl|d
      .exact C
      .exact (p g l).eq B d⟩,w⟩
    .have q:=p g l;have D:=p c w;have F:∀B,j4 m B (λi=>(-j4 m A c)*g i+j4 m A g*c i)=(-j4 m A c)*j4 m B g+j4 m A g*j4 m B c:=λB=>by have:=rP (m:=m) (A:=B) (x:=g) (y:=c) (z:=λi=>(-j4 m A c)*g i+j4 m A g*c i) (s:=1) (a:=-j4 m A c) (b:=j4 m A g) (λi=>by grind);simpa using this
     have R:0 < -j4 m A c:=by lia
     obtain⟨j,Q⟩:=q.ne;have H:l9 m (A::As) (λi=>(-j4 m A c)*g i+j4 m A g*c i):=by
      refine⟨λi=>?_,λi o=>?_,⟨j,?_⟩,λB d=>?_⟩
      .have x1:=aP (aA R) (q.nn i);have x2:=aP (aA L) (D.nn i);lia
      .rw[q.out i o,D.out i o];simp
      .have Z:0<g j:=by have:=q.nn j;lia
       have x1:=aX R Z;have x2:=aP (aA L) (D.nn j);lia
      .rw[F B];rcases aF.mp d with rfl|d
       .grind
       .rw[q.eq B d,D.eq B d];simp
     have sz:∀i,u i=0->(-j4 m A c)*g i+j4 m A g*c i=0:=λi o=>by rw[C i o,g4 i o];simp
     refine⟨_,h1 g c l w L g6 ?_,H,sz⟩;have f1:=JU J;have f2:cs m (λi=>(-j4 m A c)*g i+j4 m A g*c i)<=cs m u:=UF λi _ z=>sz i z;simp only[ay]at f1;lia
   obtain⟨z,N,H,sz⟩:=hz;obtain⟨s,a,hs,ha,e⟩:=IG J H sz;exact .lin (.of N) (.of N) hs (aA ha) (eD 0) (by lia) λi=>by rw[e i];simp
  .obtain⟨v,hv,r,k,vk,uk⟩:∃v,l9 m (A::As) v/\(∀i,u i=0->v i=0)/\∃k,v k=0/\u k≠0:=by refine aO λI=>J ⟨f,λv hv r i U=>aO λS=>I ⟨v,hv,r,i,U,S⟩⟩
   have km:k<m:=by
    rcases eF k m with h|h
    .exact h
    .exact absurd (f.out k h) uk
   obtain⟨j,Q⟩:=hv.ne;have jm:j<m:=by
    rcases eF j m with h|h
    .exact h
    .exact absurd (hv.out j h) Q
   have jp:0<v j:=by have:=hv.nn j;lia
   obtain⟨t,ht,a1,a2,a3,a4,a5,a6⟩:=yW f hv.out hv.eq ⟨j,jm,jp⟩ r;have kp:0<u k:=by have:=f.nn k;lia
   have cn:l9 m (A::As) (λi=>v t*u i-u t*v i):=⟨a3,a4,⟨k,by rw[vk];simp;exact⟨by lia,uk⟩⟩,a5⟩;have l1:=Ey (m:=m) (u:=v) (v:=u) (λi _ z=>r i z) km uk vk;exact .lin (ih _ (by lia) cn) (ih v (by lia) hv) a1 (by decide:(0:Int)<=1) (aA a2) (by lia) λi=>by grind
end CL
namespace CL
open PySem L2 L3
variable {c:Cs}
def qv(p:Int×Int):Rat:=(p.1:Rat) / (p.2:Rat)
structure GF(A B:Nat)(p:Int×Int):Prop where
 pos:0<p.2
 one:Cu.G p.1 p.2=1
 b1:Bn A p.1
 b2:Bn B p.2
def GF.mono(h:GF A B p)(b:A<=A')(a:B<=B'):GF A' B' p:=⟨h.pos,h.one,h.b1.mono b,h.b2.mono a⟩
def j3{i:Int}(h:0<i):(0:Rat)<(i:Rat):=by have:=(eN).mpr h;simpa using this
def Ub{i:Int}(h:i≠0):(i:Rat)≠0:=λz=>by
 have e:i=(0:Rat):=by simpa using z
 exact h (Rat.intCast_inj.mp e)
def Lk a:Cu.G a 1=1:=by simp[Cu.G]
@[simp] theorem oC p:iP (fr p) (.int 0)=.ok (.int p.1):=rfl
@[simp] theorem mK p:iP (fr p) (.int 1)=.ok (.int p.2):=rfl
def zF A B t b (hb:b≠0) (m:Bn A t) (j:Bn B b) (l:B<=8000):∃p,r6 c [.int t,.int b]=.ok (fr p)/\GF A B p/\qv p=(t:Rat) / (b:Rat):=by
 have n:=Cu.Kh t b hb;have k:=Cu.Tu t b hb;have a:∀x:Int,Builtin.divisionGoesByPylong x (if b<0 then -Cu.G t b else Cu.G t b)=false:=λx=>by refine Bn.noPy ?_ l;unfold Bn at *;refine cg ?_ j;split<;>lia
 have d:(if b<0 then -Cu.G t b else Cu.G t b)≠0:=by split<;>lia
 have g:(if b<0 then -Cu.G t b else Cu.G t b) ∣ t:=by split<;>first|exact Int.neg_dvd.mpr (Cu.pJ t b)|exact Cu.pJ t b
 have i:(if b<0 then -Cu.G t b else Cu.G t b) ∣ b:=by split<;>first|exact Int.neg_dvd.mpr (Cu.nq t b)|exact Cu.nq t b
 have f:=Cu.EN t b hb;refine⟨(t.fdiv (if b<0 then -Cu.G t b else Cu.G t b),b.fdiv (if b<0 then -Cu.G t b else Cu.G t b)),iB rfl (gP (iF (g9 (gN rfl rfl (by rw[jj];simp[hb]))) rfl) (gP (gY (iH rfl rfl (qf t b)) rfl) (gP (ρ':=[some (.p (.int t)),some (.p (.int b)),some (.p (.int (if b<0 then -Cu.G t b else Cu.G t b)))]) ?_ (hW (nS (gN rfl rfl (mL d (a t))) (gN rfl rfl (mL d (a b)))))))),⟨f.pos,f.one,cg (vI g d) m,cg (vI i d) j⟩,?_⟩
 .by_cases h:b<0
  .exact i9 (g9 (gN rfl rfl (by rw[rK];simp[h]))) (gY (pM rfl) (by simp[h]))
  .exact iF (g9 (gN rfl rfl (by rw[rK];simp[h]))) (by simp[h])
 .have e:=f.is;generalize t.fdiv (if b<0 then -Cu.G t b else Cu.G t b)=x at *;generalize u:b.fdiv (if b<0 then -Cu.G t b else Cu.G t b)=y at *;have r:=f.pos;have s:(x:Rat)*(b:Rat)=(t:Rat)*(y:Rat):=by rw[<-eO,<-eO,e]
  have o:=Ub hb;have q:(y:Rat)≠0:=Ub (by lia);show (x:Rat) / (y:Rat)=_;grind
def Jk(a:GF A B p)(hr:GF A' B' r)(d:B+B'<=8000)(j:A<=20000)(f:A'<=20000):∃s,vx c [fr p,fr r]=.ok (fr s)/\GF (max (A+B') (A'+B)+1) (B+B') s/\qv s=qv p-qv r:=by have h:=a.pos;have b:=hr.pos;obtain⟨s,e,g,q⟩:=zF (max (A+B') (A'+B)+1) (B+B') (p.1*r.2-r.1*p.2) (p.2*r.2) (cX (by lia) (by lia)) ((a.b1.mul hr.b2).sub (hr.b1.mul a.b2)) (a.b2.mul hr.b2) d;refine⟨s,iB rfl (hW (iH (gN (gN (gN rfl rfl (oC p)) (gN rfl rfl (mK r)) (iJ (a.b1.ok hr.b2 (by lia) (by lia)))) (gN (gN rfl rfl (oC r)) (gN rfl rfl (mK p)) (iJ (hr.b1.ok a.b2 (by lia) (by lia)))) (oq _ _)) (gN (gN rfl rfl (mK p)) (gN rfl rfl (mK r)) (iJ (a.b2.ok hr.b2 (by lia) (by lia)))) e)),g,?_⟩;rw[q];have i:(p.2:Rat)≠0:=Ub (by lia);have k:(r.2:Rat)≠0:=Ub (by lia);unfold qv;simp only[eP,eO];grind
def FU(a:Bn N k)(hr:GF A B r)(d:B<=8000)(f:N<=20000)(h:A<=20000):∃s,vN c [fr (k,1),fr r]=.ok (fr s)/\GF (N+A) B s/\qv s=(k:Rat)*qv r:=by have b:=hr.pos;obtain⟨s,e,g,q⟩:=zF (N+A) B (k*r.1) (1*r.2) (by lia) (a.mul hr.b1) (by rw[dJ];exact hr.b2) d;refine⟨s,iB rfl (hW (iH (gN (gN rfl rfl (oC (k,1))) (gN rfl rfl (oC r)) (iJ (a.ok hr.b1 (by lia) (by lia)))) (gN (gN rfl rfl (mK (k,1))) (gN rfl rfl (mK r)) (iJ (qN (show (1:Int).natAbs<2 ^ 64 by decide)))) e)),g,?_⟩;rw[q,dJ];unfold qv;simp only[eO];grind
def A9(a:k≠0)(b:Bn N k)(hr:GF A B r)(f:B+N<=8000)(h:A<=20000):∃s,sI c [fr r,fr (k,1)]=.ok (fr s)/\GF A (B+N) s/\qv s=qv r / (k:Rat):=by have d:=hr.pos;obtain⟨s,e,g,q⟩:=zF A (B+N) (r.1*1) (r.2*k) (cX (by lia) a) (by rw[bD];exact hr.b1) (hr.b2.mul b) f;refine⟨s,iB rfl (gP (iF (g9 (gN (gN rfl rfl (oC (k,1))) rfl (by rw[jj];simp[a]))) rfl) (hW (iH (gN (gN rfl rfl (oC r)) (gN rfl rfl (mK (k,1))) (iJ (rA (show (1:Int).natAbs<2 ^ 64 by decide)))) (gN (gN rfl rfl (mK r)) (gN rfl rfl (oC (k,1))) (iJ (hr.b2.ok b (by lia) (by lia)))) e))),g,?_⟩;rw[q,bD];unfold qv;simp only[eO];grind
def Hj(f:0<p.2)(hr:0<r.2):qv p<qv r↔p.1*r.2<r.1*p.2:=by
 have a:=j3 f;have b:=j3 hr;have i:(p.2:Rat)≠0:=Ub (by lia);have j:(r.2:Rat)≠0:=Ub (by lia);have e:qv p*(p.2*r.2)=((p.1*r.2:Int):Rat):=by unfold qv;rw[eO];grind
 have g:qv r*((p.2:Rat)*(r.2:Rat))=((r.1*p.2:Int):Rat):=by unfold qv;rw[eO];grind
 have d:=eQ a b;rw[<-eN,<-e,<-g];exact⟨λh=>Rat.mul_lt_mul_of_pos_right h d,λh=>Rat.lt_of_mul_lt_mul_right h (eR d)⟩
def zH(a:0<p.2)(hr:0<r.2)(b:IntMulOk p.1 r.2)(d:IntMulOk r.1 p.2):lT c [fr p,fr r]=.ok (.bl (decide (qv p<qv r))):=by
 refine iB rfl (hW (gN (gN (gN rfl rfl (oC p)) (gN rfl rfl (mK r)) (iJ b)) (gN (gN rfl rfl (oC r)) (gN rfl rfl (mK p)) (iJ d)) ?_));rw[rK];have:=Hj a hr;by_cases h:p.1*r.2<r.1*p.2
 .rw[aC h,aC (this.mpr h)]
 .rw[aB h,aB (λz=>h (this.mp z))]
noncomputable def nb(x:Int):Nat:=x.natAbs.log2+1
def EB x:Bn (nb x) x:=Nat.lt_log2_self
def Be(h:Bn E x)(b:1<=E):nb x<=E:=by
 unfold nb Bn at *;by_cases a:x.natAbs=0
 .rw[a];simp;exact b
 .have:=(Nat.log2_lt a).mpr h;lia
noncomputable def wt(p:Int×Int):Nat:=max (nb p.1) (nb p.2)
noncomputable def wts(s:List (Int×Int)):Nat:=(s.map wt).sum
structure Fq(p:Int×Int):Prop where
 pos:0<p.2
 one:Cu.G p.1 p.2=1
def Fq.gf(h:Fq p):GF (wt p) (wt p) p:=⟨h.pos,h.one,(EB _).mono (du _ _),(EB _).mono (dw _ _)⟩
def GF.fq(h:GF A B p):Fq p:=⟨h.pos,h.one⟩
def GF.wt(h:GF A B p)(d:A<=E)(b:B<=E)(a:1<=E):wt p<=E:=eS.mpr ⟨Be (h.b1.mono d) a,Be (h.b2.mono b) a⟩
def HW(p:Int×(Int×Int)):T:=.tup [.int p.1,fr p.2]
theorem Bw x0 x1 N (y:N<=8000):∀(a:List (Int×(Int×Int))) (left:Int×Int) (B j:Nat) (d b:Option W),j+a.length<=100->(∀p∈a,Bn N p.1/\Fq p.2)->B+wts (a.map Prod.snd)<=8000->GF (N+B+j) B left->
  ∃s l i,jU (kX 2 c4) (sE c) (a.map HW) [x0,x1,some (.p (fr left)),d,b]=.nx [x0,x1,some (.p (fr s)),l,i]/\GF (N+(B+wts (a.map Prod.snd))+(j+a.length)) (B+wts (a.map Prod.snd)) s/\
   qv s=qv left-(a.map λp=>(p.1:Rat)*qv p.2).sum
 |[],left,B,j,d,b,_,_,_,hg=>⟨left,d,b,rfl,by simpa[wts] using hg,by simp;grind⟩
 |p::a,left,B,j,d,b,hj,hp,hB,hg=>by
  obtain⟨C,x⟩:=hp p (by simp);have h:B+wt p.2+wts (a.map Prod.snd)<=8000:=by simp[wts]at hB ⊢;lia
  obtain⟨t,k,u,A⟩:=FU C x.gf (by lia) (by lia) (by lia);simp at hj;obtain⟨f,m,w,v⟩:=Jk hg u (by lia) (by lia) (by lia);have z:GF (N+(B+wt p.2)+(j+1)) (B+wt p.2) f:=w.mono (by lia) (by lia);obtain⟨s,l,i,e,g,q⟩:=Bw x0 x1 N y a f (B+wt p.2) (j+1) (some (.p (.int p.1))) (some (.p (fr p.2))) (by lia) (λr hr=>hp r (by simp[hr])) h z;refine⟨s,l,i,?_,?_,?_⟩
  .rw[bI,jU];have o:(kX 2 c4) (HW p) [x0,x1,some (.p (fr left)),d,b]=some [x0,x1,some (.p (fr left)),some (.p (.int p.1)),some (.p (fr p.2))]:=rfl;rw[o];have n:sE c [x0,x1,some (.p (fr left)),some (.p (.int p.1)),some (.p (fr p.2))]=.nx [x0,x1,some (.p (fr f)),some (.p (.int p.1)),some (.p (fr p.2))]:=gY (iH rfl (iH (nS rfl rfl) rfl k) m) rfl;dsimp only;rw[n];exact e
  .have k:B+wt p.2+wts (a.map Prod.snd)=B+wts ((p::a).map Prod.snd):=by simp[wts];lia
   rw[k]at g;exact g.mono (by simp;lia) (aK _)
  .rw[q,v,A];simp only[bI,eT];grind
noncomputable def Jq(row:LI)(s:List (Int×Int)):Rat:=((row.zip s).map λp=>(p.1:Rat)*qv p.2).sum
def xT N (h:N<=8000) (o:1<=N) row s (b:s.length<row.length) (l:s.length<=10) (hb:∀x∈row,Bn N x) (j:∀p∈s,Fq p) (i:1+wts s<=8000) :
  ∃r,l5 c [tI row,.lst (s.map fr)]=.ok (fr r)/\GF (N+wts s+20) (1+wts s) r/\qv r=(vc row s.length:Rat)-Jq row s:=by
 have f:=kz row s.length b;have d:(row.zip s).map Prod.snd=s:=by rw[List.map_snd_zip];lia
 have k:=hb _ (getD_mem row s.length b);obtain⟨r,m,n,e,g,q⟩:=Bw (some (.p (tI row))) (some (.p (.lst (s.map fr)))) N h (row.zip s) (vc row s.length,1) 1 0 none none (by simp;lia) (λp a=>⟨hb _ (aW a).1,j _ (aW a).2⟩) (by rw[d];exact i) ⟨show 0<1 by decide,Lk _,k.mono (by lia),show Bn 1 1 by unfold Bn;decide⟩;rw[d]at g;refine⟨r,iB rfl (gP (gY (nS (gN rfl (mZ (r:=.ok (.int s.length)) rfl (by simp)) ?_) rfl) rfl) (gP (jK (nT rfl rfl rfl rfl) e) (hW rfl))),g.mono (by simp;lia) (aK _),?_⟩
 .exact f
 .rw[q];unfold Jq;have:qv (vc row s.length,1)=(vc row s.length):=by unfold qv;simp;grind
  rw[this]
def oT:Option (Int×Int)->T
 |none=>.non
 |some p=>fr p
def qU(a:Option (Int×Int))(q:Rat):Prop:=∀p,a=some p->qv p<q
def qX(a:Option (Int×Int))(q:Rat):Prop:=∀r,a=some r->q<qv r
noncomputable def Qk:Option (Int×Int)->Int
 |some r=>if r.1<=0 then -((-r.1).fdiv r.2)-1 else 0
 |none=>0
noncomputable def wb(b a:Option (Int×Int)):Int:=match b with
 |some p=>if 0<=p.1 then p.1.fdiv p.2+1 else Qk a
 |none=>Qk a
instance (lo:Option (Int×Int)) (q:Rat):Decidable (qU lo q):=match lo with
 |none=>.isTrue λ_ h=>nomatch h
 |some p=>if h:qv p<q then .isTrue λr e=>by cases e;exact h else .isFalse λz=>h (z p rfl)
instance (hi:Option (Int×Int)) (q:Rat):Decidable (qX hi q):=match hi with
 |none=>.isTrue λ_ h=>nomatch h
 |some p=>if h:q<qv p then .isTrue λr e=>by cases e;exact h else .isFalse λz=>h (z p rfl)
def JP(a b:Option (Int×Int)):T:=if qU a (wb a b:Rat)/\qX b (wb a b:Rat) then .int (wb a b) else .non
def Oe(E:Nat)(o:Option (Int×Int)):Prop:=∀p,o=some p->0<p.2/\Bn E p.1/\Bn E p.2
def IU i:qv (i,1)=(i:Rat):=by unfold qv;simp;grind
def uy(a b:Int)(hb:0<b):a.fdiv b*b<=a/\a<(a.fdiv b+1)*b:=by
 have e:=Int.fmod_def a b;have h:=cO a hb;have g:=cP a hb;have f:b*a.fdiv b=a.fdiv b*b:=cT _ _;constructor
 .omega
 .have d:(a.fdiv b+1)*b=a.fdiv b*b+b:=by grind
  omega
def C6(a b:Int)(hb:0<b):(a.fdiv b).natAbs<=a.natAbs:=by
 obtain⟨j,l⟩:=uy a b hb;rcases Int.le_total 0 a with h|h
 .have e:=eU h (aA hb);have d:a.fdiv b<=a.fdiv b*b:=by have:=eV (show 1<=b by omega) e;omega
  omega
 .have e:a.fdiv b+1<=1:=by
   refine eW.mp λz=>?_;have d:1<=a.fdiv b:=by omega
   have:=aJ d (aA hb);omega
  by_cases f:a=0
  .subst f;simp
  .have k:a<=a.fdiv b:=by
    refine eW.mp λz=>?_;have g:a.fdiv b+1<=a:=by omega
    have m:=aJ g (aA hb);have i:a*b<=a*1:=Int.mul_le_mul_of_nonpos_left h (by omega);omega
   omega
def QR(g:Oe E lo)(f:Oe E hi):(wb lo hi).natAbs<2 ^ E+1:=by
 have d:(Qk hi).natAbs<2 ^ E+1:=by
  cases e:hi with
  |none=>simp[Qk]
  |some r=>
   obtain⟨a,b,_⟩:=f r e;show (if r.1<=0 then -((-r.1).fdiv r.2)-1 else 0).natAbs<2 ^ E+1;split
   .have:=C6 (-r.1) r.2 a;unfold Bn at b;rw[dA]at this;omega
   .simp
 unfold wb;cases e:lo with
 |none=>exact d
 |some p=>
  obtain⟨a,b,_⟩:=g p e;dsimp only;split
  .have:=C6 p.1 p.2 a;unfold Bn at b;omega
  .exact d
def sj neg o:lM neg (oT o) .non=.ok (.bl (if neg then o.isSome else o.isNone)):=by cases o<;>cases neg<;>rfl
def NO(a:0<p.2/\Bn E p.1/\Bn E p.2)(d:E<=8000)(b:Bn (E+1) i):lT c [fr p,fr (i,1)]=.ok (.bl (decide (qv p<(i:Rat)))):=by have:=zH (c:=c) (r:=(i,1)) a.1 (by decide:(0:Int)<1) (a.2.1.ok (show Bn 1 1 by unfold Bn;decide) (by omega) (by omega)) (b.ok a.2.2 (by omega) (by omega));rw[IU]at this;exact this
def OM(a:0<p.2/\Bn E p.1/\Bn E p.2)(d:E<=8000)(b:Bn (E+1) i):lT c [fr (i,1),fr p]=.ok (.bl (decide ((i:Rat)<qv p))):=by have:=zH (c:=c) (p:=(i,1)) (by decide:(0:Int)<1) a.1 (b.ok a.2.2 (by omega) (by omega)) (a.2.1.ok (show Bn 1 1 by unfold Bn;decide) (by omega) (by omega));rw[IU]at this;exact this
def tq(h:fc ρ=.ok false):mj fc fd ρ=.ok false:=by simp only[L3.mj,h,M.bind_ok];rfl
def mW(h:fc ρ=.ok true)(a:fd ρ=.ok b):mj fc fd ρ=.ok b:=by simp only[L3.mj,h,a,M.bind_ok];rfl
def Mx(h:fc ρ=.ok b):lA fc ρ=.ok (!b):=by simp only[L3.lA,h,M.bind_ok]
def Nq(a:0<p.2/\Bn E p.1/\Bn E p.2)(b:E<=8000):mm c [fr p]=.ok (.int (p.1.fdiv p.2)):=by have:=a.1;exact iB rfl (hW (gN (gN rfl rfl (oC p)) (gN rfl rfl (mK p)) (mL (by omega) (a.2.2.noPy b))))
def UM(a:0<p.2/\Bn E p.1/\Bn E p.2)(b:E<=8000):lJ c [fr p]=.ok (.int (-((-p.1).fdiv p.2))):=by have:=a.1;exact iB rfl (hW (pM (gN (pM (gN rfl rfl (oC p))) (gN rfl rfl (mK p)) (mL (by omega) (a.2.2.noPy b)))))
def qK E (n:E<=8000) b a (x:Oe E b) (v:Oe E a):kC c [oT b,oT a]=.ok (JP b a):=by
 have hw:=QR x v;have A:Bn (E+1) (wb b a):=by unfold Bn;have:=dI E;rw[dy];omega
 let R (w:Option W):En:=[some (.p (oT b)),some (.p (oT a)),w];have B:setO 2 (ju ac) (R none)=.nx (R (some (.p (.int 0)))):=gY rfl rfl;have m:lS (mj d2 (iD (gW Q6 di ac))) (setO 2 (ju (gW jF (gS bo (mm c)) ab))) (lS dl (setO 2 (ju (gW vf (gS bd (lJ c)) ab))) iN) (R (some (.p (.int 0))))=.nx (R (some (.p (.int (wb b a))))):=by
  have k:∀s,(s=Qk a)->(lS dl (setO 2 (ju (gW vf (gS bd (lJ c)) ab))) iN) (R (some (.p (.int 0))))=.nx (R (some (.p (.int s)))):=λs f=>by
   cases e:a with
   |none=>rw[e,Qk]at f;subst f;exact iF (tq (g9 (gN rfl rfl (by show lM true (oT a) .non=_;rw[sj,e];rfl)))) rfl
   |some r=>
    rw[e,Qk]at f;have d:lM true (oT a) .non=.ok (.bl true):=by rw[sj,e];rfl
    have g:iP (oT a) (.int 0)=.ok (.int r.1):=by rw[e];rfl
    by_cases hr:r.1<=0
    .rw[aQ hr]at f;subst f;exact i9 (mW (g9 (gN rfl rfl d)) (g9 (gN (gN rfl rfl g) rfl (by rw[CY];simp[hr])))) (gY (gN (oO rfl (by rw[e];exact UM (v r e) n)) rfl (oq _ _)) rfl)
    .rw[aR hr]at f;subst f;exact iF (mW (g9 (gN rfl rfl d)) (g9 (gN (gN rfl rfl g) rfl (by rw[CY];simp[hr])))) rfl
  cases e:b with
  |none=>exact iF (tq (g9 (gN rfl rfl (by show lM true (oT b) .non=_;rw[sj,e];rfl)))) (k _ rfl)
  |some p=>
   have d:lM true (oT b) .non=.ok (.bl true):=by rw[sj,e];rfl
   have g:iP (oT b) (.int 0)=.ok (.int p.1):=by rw[e];rfl
   by_cases o:0<=p.1
   .refine i9 (mW (g9 (gN rfl rfl d)) (g9 (gN (gN rfl rfl g) rfl (by rw[tZ];simp[o])))) (gY (gN (oO rfl (by rw[e];exact Nq (x p e) n)) rfl (jw _ _)) ?_);simp[wb,o,R]
   .exact iF (mW (g9 (gN rfl rfl d)) (g9 (gN (gN rfl rfl g) rfl (by rw[tZ];simp[o])))) (k _ (by simp[wb,o]))
 have testlo:mj d2 (lA (iD (gS (gI ap (gI (jX (gI bf dk)) gM)) (lT c)))) (vw (R (some (.p (.int (wb b a))))))=.ok (!decide (qU b (wb b a:Rat))):=by
  cases e:b with
  |none=>have:qU none (wb none a:Rat):=λ_ z=>nomatch z;rw[<-e,aC (by rw[e];exact this)];exact tq (g9 (gN rfl rfl (by show lM true (oT b) .non=_;rw[sj,e];rfl)))
  |some p=>
   have d:lM true (oT b) .non=.ok (.bl true):=by rw[sj,e];rfl
   rw[<-e];refine mW (g9 (gN rfl rfl d)) (Mx (g9 (iH rfl (nS rfl rfl) ?_)));have q:=NO (c:=c) (x p e) n A;have u:decide (qU b (wb b a:Rat))=decide (qv p<(wb b a:Rat)):=by
    by_cases z:qv p<(wb b a:Rat)
    .rw[aC z,aC];intro r j;rw[e]at j;cases j;exact z
    .rw[aB z,aB];exact λy=>z (y p e)
   rw[u];rw[show oT b=fr p by rw[e];rfl];exact q
 have testhi:mj (iD (gW (lM true) ah bw)) (lA (iD (gS (gI (jX (gI bf dk)) bd) (lT c)))) (vw (R (some (.p (.int (wb b a))))))=.ok (!decide (qX a (wb b a:Rat))):=by
  cases e:a with
  |none=>have:qX none (wb b none:Rat):=λ_ z=>nomatch z;rw[<-e,aC (by rw[e];exact this)];exact tq (g9 (gN rfl rfl (by show lM true (oT a) .non=_;rw[sj,e];rfl)))
  |some p=>
   have d:lM true (oT a) .non=.ok (.bl true):=by rw[sj,e];rfl
   rw[<-e];refine mW (g9 (gN rfl rfl d)) (Mx (g9 (iH (y:=oT a) (nS rfl rfl) rfl ?_)));have q:=OM (c:=c) (i:=wb b a) (v p e) n A;have u:decide (qX a (wb b a:Rat))=decide ((wb b a:Rat)<qv p):=by
    by_cases z:(wb b a:Rat)<qv p
    .rw[aC z,aC];intro r j;rw[e]at j;cases j;exact z
    .rw[aB z,aB];exact λy=>z (y p e)
   rw[u];rw[show oT a=fr p by rw[e];rfl];exact q
 refine iB rfl (gP B (gP m ?_));unfold JP;by_cases l:qU b (wb b a:Rat)
 .rw[aC l]at testlo;refine gP (iF testlo rfl) ?_;by_cases h:qX a (wb b a:Rat)
  .rw[aC h]at testhi;rw[aQ ⟨l,h⟩];exact gP (iF testhi rfl) (hW rfl)
  .rw[aB h]at testhi;rw[aR (λz=>h z.2)];exact ku (i9 testhi (hW rfl)) rfl
 .rw[aB l]at testlo;rw[aR (λz=>l z.1)];exact ku (i9 testlo (hW rfl)) rfl
def oV:0<((i,1):Int×Int).2:=by show 0<1;decide
noncomputable def rb(fs:LI)(x:Int×Int):Int×Int:=fs.foldr (λf x=>(f*x.1+x.2,x.1)) x
structure VO(lo hi:Option (Int×Int))(f:Int)(lo1 hi1:Option (Int×Int)):Prop where
 ex:∃p r:Int×Int,lo=some p/\hi=some r/\f=p.1.fdiv p.2/\lo1=some (r.2,r.1-f*r.2)/\hi1=(if p.1-f*p.2=0 then none else some (p.2,p.1-f*p.2))/\0<p.2/\0<r.2/\p.1*r.2<r.1*p.2/\r.1<=(f+1)*r.2
inductive AD:Option (Int×Int)->Option (Int×Int)->LI->Option (Int×Int)->Option (Int×Int)->Prop
 |nil {lo hi:Option (Int×Int)}:AD lo hi [] lo hi
 |cons {lo hi lo1 hi1 lo2 hi2:Option (Int×Int)} {f:Int} {fs:LI}:VO lo hi f lo1 hi1->AD lo1 hi1 fs lo2 hi2->AD lo hi (f::fs) lo2 hi2
def AD.snoc(h:AD lo hi fs lo1 hi1)(s:VO lo1 hi1 f lo2 hi2):AD lo hi (fs++[f]) lo2 hi2:=by
 induction h with
 |nil=>exact .cons s .nil
 |cons s' _ ih=>exact .cons s' (ih s)
structure Gd(lo hi:Option (Int×Int))(x:Int×Int):Prop where
 lo:qU lo (qv x)
 hi:qX hi (qv x)
 pos:0<x.2
 one:Cu.G x.1 x.2=1
noncomputable def tp:Option (Int×Int)->Int
 |some p=>p.1
 |none=>1
noncomputable def bt:Option (Int×Int)->Int
 |some p=>p.2
 |none=>0
def Qm f a b:Cu.G (f*a+b) a=Cu.G b a:=by
 have h:=Cu.CB (f*a+b) a;have d:=Cu.CB b a;have e:(f*a+b).fmod a=b.fmod a:=by rw[Int.add_comm];have:=Int.add_mul_fmod_self_right b f a;exact this
 rw[<-h,e,d]
def So a b:Cu.G a b=Cu.G b a:=by unfold Cu.G;rw[cY]
def Hq(s:VO lo hi f lo1 hi1)(h:Gd lo1 hi1 x)(j:0<x.1):Gd lo hi (f*x.1+x.2,x.1):=by
 obtain⟨p,r,rfl,rfl,q,rfl,rfl,b,hr,m,w⟩:=s.ex;obtain⟨o,k,g,z⟩:=h;obtain⟨a,d⟩:=uy p.1 p.2 b;rw[<-q]at a d;have i:0<r.1-f*r.2:=by
  have B:=aJ a (aA hr);have n:f*r.2*p.2<r.1*p.2:=by
   have:f*r.2*p.2=f*p.2*r.2:=by grind
   lia
  have:=eX n (aA b);lia
 have F:=(Hj i g).mp (o _ rfl);refine⟨λD e=>?_,λE e=>?_,j,?_⟩
 .cases e;rw[Hj b j];by_cases y:p.1-f*p.2=0
  .have:p.1=f*p.2:=by lia
   rw[this];have:=aX g b;have l:(f*x.1+x.2)*p.2=f*p.2*x.1+x.2*p.2:=by grind
   lia
  .have u:=k (p.2,p.1-f*p.2) (by rw[aR y]);have v:0<p.1-f*p.2:=by lia
   have C:=(Hj g v).mp u;have l:(f*x.1+x.2)*p.2=f*x.1*p.2+p.2*x.2:=by grind
   have A:x.1*(p.1-f*p.2)=p.1*x.1-f*x.1*p.2:=by grind
   lia
 .cases e;rw[Hj j hr];lia
 .rw[Qm,So];exact z
theorem KS(e:b=some p)(i:0<p.2)(l:0<p.1)(hr:∀r,a=some r->0<r.2)(j:qU b (wb b a:Rat))(f:qX a (wb b a:Rat)) :
  Gd b a (wb b a,1)/\0<wb b a/\wb b a<=tp b+tp a/\1<=bt b+bt a:=by
 have h:wb b a=p.1.fdiv p.2+1:=by unfold wb;rw[e];simp;lia
 have o:0<=p.1.fdiv p.2:=eU (by lia) (by lia);have m:=C6 p.1 p.2 i;refine⟨⟨by rw[IU];exact j,by rw[IU];exact f,oV,Lk _⟩,by lia,?_,?_⟩
 .cases d:a with
  |none=>rw[d]at h;rw[e];show wb (some p) none<=p.1+1;rw[<-e];lia
  |some r=>have k:=hr r d;have g:=f r d;rw[<-IU,Hj oV k]at g;dsimp only at g;rw[<-d,e];rw[d];show wb (some p) (some r)<=p.1+r.1;rw[<-e,<-d];have n:wb b a*1<=wb b a*r.2:=eV (by lia) (by lia);lia
 .rw[e];show 1<=p.2+bt a;have:0<=bt a:=by
   cases d:a with
   |none=>exact eD _
   |some r=>have:=hr r d;show 0<=r.2;lia
  lia
theorem DB(h:AD i j fs b a):∀p,i=some p->0<p.2->0<p.1->(∀r,j=some r->0<r.2)->(∀r,a=some r->0<r.2)->qU b (wb b a:Rat)->qX a (wb b a:Rat)->
  Gd i j (rb fs (wb b a,1))/\0<(rb fs (wb b a,1)).1/\(rb fs (wb b a,1)).1<=tp i+tp j/\(rb fs (wb b a,1)).2<=bt i+bt j:=by
 induction h with
 |nil=>intro p e n H hr _ w q;exact KS e n H hr w q
 |cons s _ ih=>
  rename_i i j g d b a f fs _;intro p e n H hr v w q;obtain⟨X,r,E,C,F,m,l,R,J,Y,P⟩:=s.ex;rw[e]at E;cases E;obtain⟨k,u⟩:=uy p.1 p.2 n;rw[<-F]at k u;have D:0<=f:=by rw[F];exact eU (by lia) (by lia)
  have x:0<r.1-f*r.2:=by
   have Q:=aJ k (aA J);have K:f*r.2*p.2<r.1*p.2:=by
    have:f*r.2*p.2=f*p.2*r.2:=by grind
    lia
   have:=eX K (aA n);lia
  have y:∀A,d=some A->0<A.2:=λA o=>by
   rw[l]at o;split at o
   .cases o
   .cases o;dsimp only;lia
  obtain⟨B,I,N,S⟩:=ih (r.2,r.1-f*r.2) m x J y v w q;refine⟨Hq s B I,?_,?_,?_⟩
  .show 0<f*(rb fs (wb b a,1)).1+(rb fs (wb b a,1)).2;have:=B.pos;have:=aP D (aA I);lia
  .show f*(rb fs (wb b a,1)).1+(rb fs (wb b a,1)).2<=_;rw[e,C];show _<=p.1+r.1;have L:tp g+tp d<=r.2+p.2:=by
    rw[m,l];split
    .show r.2+1<=_;lia
    .exact eD _
   have t2:bt g+bt d=(r.1-f*r.2)+(p.1-f*p.2):=by
    rw[m,l];split
    .rename_i z;rw[z];rfl
    .rfl
   have U:f*(rb fs (wb b a,1)).1<=f*(r.2+p.2):=eV (by lia) D;have Z:f*(r.2+p.2)=f*r.2+f*p.2:=dS _ _ _;lia
  .show (rb fs (wb b a,1)).1<=_;rw[e,C];show _<=p.2+r.2;have L:tp g+tp d<=r.2+p.2:=by
    rw[m,l];split
    .show r.2+1<=_;lia
    .exact eD _
   lia
theorem LP(i:∀p,d=some p->0<p.2)(h:∀r,f=some r->0<r.2)(m:∀p r,d=some p->f=some r->qv p<qv r)(j:¬(qU d (wb d f:Rat)/\qX f (wb d f:Rat))) :
  ∃p r,d=some p/\f=some r/\p.1*r.2<r.1*p.2/\r.1<=(p.1.fdiv p.2+1)*r.2:=by
 have up:∀p:Int×Int,d=some p->qv p<((p.1.fdiv p.2+1:Int):Rat):=λp e=>by rw[<-IU,Hj (i p e) oV];have:=(uy p.1 p.2 (i p e)).2;dsimp only;lia
 have s:∀r:Int×Int,f=some r->((-((-r.1).fdiv r.2)-1:Int):Rat)<qv r:=λr e=>by
  rw[<-IU,Hj oV (h r e)];have:=(uy (-r.1) r.2 (h r e)).2;have v:(-((-r.1).fdiv r.2)-1)*r.2 = -(((-r.1).fdiv r.2+1)*r.2):=by grind
  lia
 have k:∀p:Int×Int,d=some p->p.1<0->qv p<((0:Int):Rat):=λp e z=>by rw[<-IU,Hj (i p e) oV];dsimp only;lia
 have l:∀r:Int×Int,f=some r->0<r.1->((0:Int):Rat)<qv r:=λr e z=>by rw[<-IU,Hj oV (h r e)];dsimp only;lia
 cases a:d with
 |none=>
  exfalso;refine j ⟨λp e=>(by rw[a]at e;cases e),λr e=>?_⟩;have g:wb d f=if r.1<=0 then -((-r.1).fdiv r.2)-1 else 0:=by unfold wb;rw[a,e];rfl
  rw[g];split
  .exact s r e
  .exact l r e (by lia)
 |some p=>
  cases b:f with
  |none=>
   exfalso;refine j ⟨λq e=>?_,λr e=>(by rw[b]at e;cases e)⟩;rw[a]at e;cases e;have g:wb d f=if 0<=p.1 then p.1.fdiv p.2+1 else 0:=by unfold wb;rw[a,b];rfl
   rw[g];split
   .exact up p a
   .exact k p a (by lia)
  |some r=>
   have lt:=(Hj (i p a) (h r b)).mp (m p r a b);refine⟨p,r,rfl,rfl,lt,?_⟩;by_cases o:0<=p.1
   .have g:wb d f=p.1.fdiv p.2+1:=by unfold wb;rw[a];simp[o]
    refine eW.mp λz=>j ⟨λq e=>?_,λu e=>?_⟩
    .rw[a]at e;cases e;rw[g];exact up p a
    .rw[b]at e;cases e;rw[g,<-IU,Hj oV (h r b)];dsimp only;lia
   .by_cases hr:r.1<=0
    .have g:wb d f = -((-r.1).fdiv r.2)-1:=by unfold wb;rw[a,b];simp[o,Qk,hr]
     refine eW.mp λz=>j ⟨λq e=>?_,λu e=>?_⟩
     .rw[a]at e;cases e;rw[g,<-IU,Hj (i p a) oV];dsimp only;have A:=(uy (-r.1) r.2 (h r b)).1;have B:=(uy p.1 p.2 (i p a)).2;have n:=h r b;have v:-((-r.1).fdiv r.2)*r.2 = -((-r.1).fdiv r.2*r.2):=by grind
      have w:(p.1.fdiv p.2+1)*r.2 < -((-r.1).fdiv r.2)*r.2:=by lia
      have x:=eX w (aA n);have y:(p.1.fdiv p.2+1)*p.2<=(-((-r.1).fdiv r.2)-1)*p.2:=aJ (by lia) (aA (i p a));lia
     .rw[b]at e;cases e;rw[g];exact s r b
    .have g:wb d f=0:=by unfold wb;rw[a,b];simp[o,Qk,hr]
     exfalso;refine j ⟨λq e=>?_,λu e=>?_⟩
     .rw[a]at e;cases e;rw[g];exact k p a (by lia)
     .rw[b]at e;cases e;rw[g];exact l r b (by lia)
noncomputable def T8:En->Nat:=λd=>match d with|some (.p (.tup [_,.int a]))::some (.p (.tup [_,.int b]))::_=>a.natAbs+b.natAbs+2|_=>1
noncomputable def EV:En->Nat:=λd=>match d with|some (.p (.tup [_,.int a]))::some (.p (.tup [_,.int b]))::_::some (.p .non)::_=>a.natAbs+b.natAbs+1|_=>0
def yx(a b:Option (Int×Int))(fs:LI)(d f e:Option W):En:=[some (.p (oT a)),some (.p (oT b)),some (.o (fs.map T.int)),some (.p (JP a b)),d,f,e,none]
structure QO(E:Nat)(lo hi:Option (Int×Int))(fs:LI)(lo' hi':Option (Int×Int)):Prop where
 path:AD lo hi fs lo' hi'
 l:Oe E lo'
 h:Oe E hi'
 lt:∀p r,lo'=some p->hi'=some r->qv p<qv r
 fb:∀f∈fs,Bn E f
 few:fs≠[]->∃p,lo'=some p/\p.2<=p.1/\∀r,hi'=some r->0<r.1/\4 ^ (fs.length-1)*(p.1*p.2*(r.1*r.2))<=2 ^ (4*E)
def sh(h:Bn E x):x<2 ^ E/\-(2 ^ E)<x:=by
 unfold Bn at h;have:((2 ^ E):Int)=2 ^ E:=by simp
 lia
def uC(b:x<2 ^ E)(a:-(2 ^ E)<x):Bn E x:=by
 unfold Bn;have:((2 ^ E):Int)=2 ^ E:=by simp
 lia
theorem Lq(h:QO E lo hi fs b a)(P:¬(qU b (wb b a:Rat)/\qX a (wb b a:Rat))) :
  ∃p r f,p.1.fdiv p.2=f/\b=some p/\a=some r/\fs.length<=2*E+1/\0<p.2/\0<r.2/\0<r.1-f*r.2/\r.1-f*r.2<=r.2/\0<=p.1-f*p.2/\p.1-f*p.2<p.2/\Bn E (f)/\
   QO E lo hi (fs++[f]) (some (r.2,r.1-f*r.2)) (if p.1-f*p.2=0 then none else some (p.2,p.1-f*p.2)):=by
 obtain⟨p,r,o,m,lt,U⟩:=LP (λp e=>(h.l p e).1) (λr e=>(h.h r e).1) h.lt P;obtain⟨d,x,q⟩:=h.l p o;obtain⟨s,Z,n⟩:=h.h r m;obtain⟨C,S⟩:=uy p.1 p.2 d;have K:=cg (C6 p.1 p.2 d) x;generalize D:p.1.fdiv p.2=f at *;have g4:(f+1)*r.2=f*r.2+r.2:=by grind
 have g5:(f+1)*p.2=f*p.2+p.2:=by grind
 have i:0<r.1-f*r.2:=by
  have a1:=aJ C (aA s);have Y:f*r.2*p.2<r.1*p.2:=by
   have:f*r.2*p.2=f*p.2*r.2:=by grind
   lia
  have:=eX Y (aA d);lia
 have st:VO b a f (some (r.2,r.1-f*r.2)) (if p.1-f*p.2=0 then none else some (p.2,p.1-f*p.2)):=⟨p,r,o,m,D.symm,rfl,rfl,d,s,lt,U⟩;have rlt:=(sh n).1;have N:=(sh q).1;have y:fs.length<=2*E+1:=by
  by_cases k:fs=[]
  .subst k;simp
  .obtain⟨B,v,q2,A⟩:=h.few k;rw[o]at v;cases v;obtain⟨I,w⟩:=A r m;have m1:1<=p.1*p.2:=by have:=aX (show 0<p.1 by lia) d;lia
   have m2:1<=r.1*r.2:=by have:=aX I s;lia
   have L:1<=p.1*p.2*(r.1*r.2):=by have:=aX (show 0<p.1*p.2 by lia) (show 0<r.1*r.2 by lia);lia
   have m4:=eE (eV L (aA (eY (by decide)))) w;have F:(4:Nat) ^ (fs.length-1)<=2 ^ (4*E):=by
    have:(((4:Nat) ^ (fs.length-1):Nat):Int)<=((2 ^ (4*E):Nat):Int):=by push_cast;lia
    exact Int.ofNat_le.mp this
   rw[show (4:Nat)=2 ^ 2 by decide,<-Nat.pow_mul]at F;have m6:=(Nat.pow_le_pow_iff_right (show 1<2 by decide)).mp F;lia
 refine⟨p,r,f,D,o,m,y,d,s,i,by lia,by lia,by lia,K,h.path.snoc st,λB e=>?_,λJ e=>?_,λB J e j=>?_,λg u=>?_,λ_=>⟨_,rfl,?_,λJ j=>?_⟩⟩
 .cases e;exact⟨i,n,uC (by dsimp only;lia) (by dsimp only;lia)⟩
 .split at e
  .cases e
  .cases e;exact⟨by dsimp only;omega,q,uC (by dsimp only;omega) (by dsimp only;omega)⟩
 .cases e;split at j
  .cases j
  .cases j;rw[Hj i (by dsimp only;omega)];dsimp only;have x1:r.2*(p.1-f*p.2)=p.1*r.2-f*r.2*p.2:=by grind
   have x2:p.2*(r.1-f*r.2)=r.1*p.2-f*r.2*p.2:=by grind
   lia
 .rcases ai.mp u with u|u
  .exact h.fb g u
  .rw[aj.mp u];exact K
 .dsimp only;lia
 .split at j
  .cases j
  .rename_i hR;cases j;refine⟨d,?_⟩;dsimp only;rw[aT,b6,Nat.add_sub_cancel];by_cases k:fs=[]
   .subst k;simp only[cE,Int.pow_zero,dJ];have E2:(2:Int) ^ (4*E)=2 ^ E*2 ^ E*(2 ^ E*2 ^ E):=by rw[show 4*E=E+E+(E+E) by lia,Int.pow_add,Int.pow_add]
    rw[E2];have P0:(0:Int)<=2 ^ E:=aA (eY (by decide));have y1:r.2*(r.1-f*r.2)<=2 ^ E*2 ^ E:=eZ (by lia) (by lia) (by lia) P0;have R:p.2*(p.1-f*p.2)<=2 ^ E*2 ^ E:=eZ (by lia) (by lia) (by lia) P0;exact eZ y1 R (aP (by lia) (by lia)) (aP P0 P0)
   .obtain⟨B,v,q2,A⟩:=h.few k;rw[o]at v;cases v;obtain⟨I,w⟩:=A r m;have H:1<=f:=by
     refine eW.mp λz=>?_;have:f+1<=1:=by lia
     have:=aJ this (aA d);lia
    have z1:p.2<=f*p.2:=by have:=aJ H (aA d);lia
    have z2:r.2<=f*r.2:=by have:=aJ H (aA s);lia
    have w1:r.2*(2*(r.1-f*r.2))<=r.2*r.1:=eV (by lia) (by lia);have Q:p.2*(2*(p.1-f*p.2))<=p.2*p.1:=eV (by lia) (by lia);have X:=eZ w1 Q (aP (by lia) (by lia)) (aP (by lia) (by lia));have l1:fs.length=fs.length-1+1:=by
     cases fs with
     |nil=>exact absurd rfl k
     |cons _ _=>simp
    rw[l1,fg];refine eE ?_ w;have P4:(0:Int)<=4 ^ (fs.length-1):=aA (eY (by decide));have w4:r.2*(r.1-f*r.2)*(p.2*(p.1-f*p.2))*4=r.2*(2*(r.1-f*r.2))*(p.2*(2*(p.1-f*p.2))):=by grind
    have w5:r.2*r.1*(p.2*p.1)=p.1*p.2*(r.1*r.2):=by grind
    rw[cS,cT 4];refine eV ?_ P4;rw[w4,<-w5];exact X
def yo(h:¬(qU b (wb b a:Rat)/\qX a (wb b a:Rat))):JP b a=.non:=aR h
def yu(h:qU b (wb b a:Rat)/\qX a (wb b a:Rat)):JP b a=.int (wb b a):=aQ h
def OL E (K:E<=7000) lo hi:∀ρ,(∃d b fs i j e,ρ=yx d b fs i j e/\QO E lo hi fs d b)->
  (iD h8 (vw ρ)=.ok false/\∃d b fs i j e,ρ=yx d b fs i j e/\QO E lo hi fs d b/\qU d (wb d b:Rat)/\qX b (wb d b:Rat))\/
  (iD h8 (vw ρ)=.ok true/\∃g,(nJ c ρ=.nx g\/nJ c ρ=.ct g)/\(∃d b fs i j e,g=yx d b fs i j e/\QO E lo hi fs d b)/\EV g<EV ρ):=by
 rintro ρ ⟨d,b,fs,i,j,e,rfl,h⟩;by_cases n:qU d (wb d b:Rat)/\qX b (wb d b:Rat)
 .left;refine⟨g9 (gN rfl rfl ?_),d,b,fs,i,j,e,rfl,h,n⟩;show lM false (JP d b) .non=_;rw[yu n];rfl
 .right;have sz:20000<sizeLine:=by decide
  refine⟨g9 (gN rfl rfl (by show lM false (JP d b) .non=_;rw[yo n];rfl)),?_⟩;obtain⟨p,r,f,D,x,w,H,J,Q,L,N,P,R,y,u⟩:=Lq h n;obtain⟨_,s,q⟩:=h.l p x;obtain⟨_,A,v⟩:=h.h r w;subst x w;have B:=yo n;let a:Option (Int×Int):=if p.1-f*p.2=0 then none else some (p.2,p.1-f*p.2)
  have z:T9 (iD (gW (iy false) bq ac)) bw (jX (gI ca ib)) (nQ [some (.p (fr p)),some (.p (fr r)),some (.o ((fs++[f]).map T.int)),some (.p (JP (some p) (some r))),some (.p (.int f)),some (.p (.int (p.1-f*p.2))),e,none])=.ok (oT a):=by
   by_cases k:p.1-f*p.2=0
   .have:a=none:=aQ k;rw[this,k];rfl
   .have:a=some (p.2,p.1-f*p.2):=aR k;rw[this];have F:iD (gW (iy false) bq ac) (nQ [some (.p (fr p)),some (.p (fr r)),some (.o ((fs++[f]).map T.int)),some (.p (JP (some p) (some r))),some (.p (.int f)),some (.p (.int (p.1-f*p.2))),e,none])=.ok false:=g9 (gN rfl rfl (by rw[jj];simp[k]));show (iD _ _).bind _=_;rw[F];show jX (gI ca ib) (nQ [some (.p (fr p)),some (.p (fr r)),some (.o ((fs++[f]).map T.int)),some (.p (JP (some p) (some r))),some (.p (.int f)),some (.p (.int (p.1-f*p.2))),e,none])=_;exact nS (gN rfl rfl (mK p)) rfl
  have C:=qK (c:=c) E (by lia) (some (r.2,r.1-f*r.2)) a u.l u.h;refine⟨yx (some (r.2,r.1-f*r.2)) a (fs++[f]) (some (.p (.int f))) (some (.p (.int (p.1-f*p.2)))) (some (.p (oT a))),.inl ?_,⟨_,_,_,_,_,_,rfl,u⟩,?_⟩
  .refine gP (gY (t:=.int f) (oO rfl (by rw[<-D];exact Nq ⟨J,s,q⟩ (by lia))) rfl) ?_;refine gP (wU (us:=fs.map T.int) rfl (t:=.int f) rfl (by simp;lia) rfl) ?_;refine gP (gY (t:=.int (p.1-f*p.2)) (gN (gN rfl rfl (oC p)) (gN rfl (gN rfl rfl (mK p)) (iJ (y.ok q (by lia) (by lia)))) (oq _ _)) rfl) ?_;refine gP (gY (t:=oT a) ?_ rfl) ?_
   .have:=z;rw[aZ]at this;exact this
   refine gP (gY (t:=fr (r.2,r.1-f*r.2)) (nS (gN rfl rfl (mK r)) (gN (gN rfl rfl (oC r)) (gN rfl (gN rfl rfl (mK r)) (iJ (y.ok v (by lia) (by lia)))) (oq _ _))) rfl) ?_;refine gP (gY (t:=oT a) rfl rfl) ?_;refine gY (iH rfl rfl C) ?_;unfold yx;rw[aZ];rfl
  .have I:EV (yx (some p) (some r) fs i j e)=p.2.natAbs+r.2.natAbs+1:=by unfold yx EV;rw[B];rfl
   rw[I];by_cases hw:qU (some (r.2,r.1-f*r.2)) (wb (some (r.2,r.1-f*r.2)) a:Rat)/\qX a (wb (some (r.2,r.1-f*r.2)) a:Rat)
   .have:EV (yx (some (r.2,r.1-f*r.2)) a (fs++[f]) (some (.p (.int f))) (some (.p (.int (p.1-f*p.2)))) (some (.p (oT a))))=0:=by unfold yx EV;rw[yu hw];cases a<;>rfl
    rw[this];lia
   .by_cases k:p.1-f*p.2=0
    .have:a=none:=aQ k;have m:EV (yx (some (r.2,r.1-f*r.2)) a (fs++[f]) (some (.p (.int f))) (some (.p (.int (p.1-f*p.2)))) (some (.p (oT a))))=0:=by unfold yx EV;rw[this];rfl
     rw[m];lia
    .have:a=some (p.2,p.1-f*p.2):=aR k;have m:EV (yx (some (r.2,r.1-f*r.2)) a (fs++[f]) (some (.p (.int f))) (some (.p (.int (p.1-f*p.2)))) (some (.p (oT a))))=(r.1-f*r.2).natAbs+(p.1-f*p.2).natAbs+1:=by unfold yx EV;rw[yo hw,this];rfl
     rw[m];lia
theorem A0(h:AD lo hi fs b a) p (e:lo=some p) (u:0<p.2) (v:0<p.1) (j:Oe E lo) (d:Oe E hi) (i:Oe E a) (l:qU b (wb b a:Rat)) (q:qX a (wb b a:Rat)) :
  Gd lo hi (rb fs (wb b a,1))/\0<(rb fs (wb b a,1)).1/\Bn (E+1) (rb fs (wb b a,1)).1/\Bn (E+1) (rb fs (wb b a,1)).2:=by
 obtain⟨g,o,x,A⟩:=DB h p e u v (λr f=>(d r f).1) (λr f=>(i r f).1) l q;have P:(2:Int) ^ (E+1)=2*2 ^ E:=by rw[fg,cT]
 have s:(1:Int)<=2 ^ E:=by have:=eY (n:=2) (m:=E) (by decide);lia
 have y:=sh (j p e).2.1;have z:=sh (j p e).2.2;have B:tp lo=p.1:=by rw[e];rfl
 have F:bt lo=p.2:=by rw[e];rfl
 have D:tp hi<=2 ^ E/\bt hi<=2 ^ E:=by
  cases k:hi with
  |none=>exact⟨s,by show (0:Int)<=_;lia⟩
  |some r=>have C:=sh (d r k).2.1;have H:=sh (d r k).2.2;exact⟨by show r.1<=_;lia,by show r.2<=_;lia⟩
 have w:=g.pos;exact⟨g,o,uC (by lia) (by lia),uC (by lia) (by lia)⟩
noncomputable def Uh(z:Int×Int)(f:Int):Int×Int:=(f*z.1+z.2,z.1)
theorem DQ E (l:E<=7000) x0 x1 x2 x3 x5 x6:∀(a:LI) (z:Int×Int) (b:Option W),(∀f∈a,Bn E f)->(∀k,k<=a.length->Bn (2*E+10) ((a.take k).foldl Uh z).1)->
  ∃d,jU (j6 4) (nu c) (a.map T.int) [x0,x1,x2,x3,b,x5,x6,some (.p (fr z))]=.nx [x0,x1,x2,x3,d,x5,x6,some (.p (fr (a.foldl Uh z)))]
 |[],z,b,_,_=>⟨b,rfl⟩
 |f::a,z,b,hf,hb=>by
  have m:=hf f (by simp);have n:Bn (2*E+10) z.1:=by simpa using hb 0 (bL _)
  obtain⟨d,e⟩:=DQ E l x0 x1 x2 x3 x5 x6 a (Uh z f) (some (.p (.int f))) (λg i=>hf g (by simp[i])) (λk o=>by simpa using hb (k+1) (by simpa using o));refine⟨d,?_⟩;have j:nu c [x0,x1,x2,x3,some (.p (.int f)),x5,x6,some (.p (fr z))]=.nx [x0,x1,x2,x3,some (.p (.int f)),x5,x6,some (.p (fr (Uh z f)))]:=gY (nS (gN (gN rfl (gN rfl rfl (oC z)) (iJ (m.ok n (by lia) (by lia)))) (gN rfl rfl (mK z)) (jw _ _)) (gN rfl rfl (oC z))) rfl
  rw[bI,jU];have h:j6 4 (.int f) [x0,x1,x2,x3,b,x5,x6,some (.p (fr z))]=some [x0,x1,x2,x3,some (.p (.int f)),x5,x6,some (.p (fr z))]:=rfl;rw[h];dsimp only;rw[j];exact e
def DS fs y:fs.reverse.foldl Uh y=rb fs y:=by rw[List.foldl_reverse];rfl
def Om E (g:E<=7000) x0 x1 x2 x3 x5 x6 fs y x4 (d:∀f∈fs,Bn E f) (hb:∀k,k<=fs.length->Bn (2*E+10) (rb (fs.drop k) y).1) :
  ∃b,jU (j6 4) (nu c) (fs.reverse.map T.int) [x0,x1,x2,x3,x4,x5,x6,some (.p (fr y))]=.nx [x0,x1,x2,x3,b,x5,x6,some (.p (fr (rb fs y)))]:=by
 obtain⟨b,e⟩:=DQ E g x0 x1 x2 x3 x5 x6 fs.reverse y x4 (λf a=>d f (by simpa using a)) (λk i=>by
  have h:fs.reverse.take k=(fs.drop (fs.length-k)).reverse:=by rw[List.take_reverse]
  rw[h,DS];exact hb _ (by lia))
 rw[DS]at e;exact⟨b,e⟩
def KM p r:iy false (fr p) (fr r)=.ok (.bl (decide (p=r))):=by
 have:=LQ false [p.1,p.2] [r.1,r.2];have e:decide ([p.1,p.2]=[r.1,r.2])=decide (p=r):=by
  by_cases h:p=r
  .rw[aC h,aC (by rw[h])]
  .rw[aB h,aB];intro z;simp at z;exact h (Prod.ext z.1 z.2)
 simp only[cj,if_false]at this;rw[e]at this;exact this
theorem Ah E (hE:E<=7000) lo hi (h1:Oe E lo) (R:Oe E hi) (hlt:∀p r,lo=some p->hi=some r->qv p<qv r) :
  ∃x,kS c [oT lo,oT hi]=.ok (fr x)/\Gd lo hi x/\Bn (E+2) x.1/\Bn (E+1) x.2:=by
 have w0:=qK (c:=c) E (by lia) lo hi h1 R;have i0:QO E lo hi [] lo hi:=⟨.nil,h1,R,hlt,λf hf=>(nomatch hf),λz=>absurd rfl z⟩;have fu:EV (yx lo hi [] none none none)<T8 (yx lo hi [] none none none):=by
  cases el:lo with
  |none=>cases eh:hi<;>(unfold yx EV T8 oT;simp)
  |some p=>
   cases eh:hi with
   |none=>unfold yx EV T8 oT;simp[fr]
   |some r=>
    by_cases hw:qU (some p) (wb (some p) (some r):Rat)/\qX (some r) (wb (some p) (some r):Rat)
    .unfold yx EV T8 oT;rw[yu hw];simp[fr]
    .unfold yx EV T8 oT;rw[yo hw];simp[fr]
 obtain⟨ρ',e,b,a,fs,F,K,J,rfl,B,hl,hh⟩:=nZ (g:=nJ c) (λρ=>∃b a fs F K J,ρ=yx b a fs F K J/\QO E lo hi fs b a) EV
  (λρ=>∃b a fs F K J,ρ=yx b a fs F K J/\QO E lo hi fs b a/\qU b (wb b a:Rat)/\qX a (wb b a:Rat)) (OL E hE lo hi) (T8 (yx lo hi [] none none none)) (yx lo hi [] none none none) ⟨lo,hi,[],none,none,none,rfl,i0⟩ fu
 have wi:=yu ⟨hl,hh⟩;have P:(2:Int) ^ (E+1)=2*2 ^ E:=by rw[fg,cT]
 have P1:(1:Int)<=2 ^ E:=by have:=eY (n:=2) (m:=E) (by decide);lia
 have wB:Bn (E+1) (wb b a):=by have:=QR B.l B.h;unfold Bn;have p0:=dI E;rw[dy];lia
 have fin:Gd lo hi (rb fs (wb b a,1))/\Bn (E+2) (rb fs (wb b a,1)).1/\Bn (E+1) (rb fs (wb b a,1)).2/\∀k,k<=fs.length->Bn (2*E+10) (rb (fs.drop k) (wb b a,1)).1:=by
  have y:=B.path;have hfb:=B.fb;cases y with
  |nil=>exact⟨⟨by show qU lo (qv (wb lo hi,1));rw[IU];exact hl,by show qX hi (qv (wb lo hi,1));rw[IU];exact hh,oV,Lk _⟩,wB.mono (by lia),by show Bn (E+1) 1;exact uC (by lia) (by lia),λk _=>by rw[List.drop_nil];exact wB.mono (by lia)⟩
  |cons s y=>
   rename_i d i f u;obtain⟨p,r,e1,e2,hf,I,e4,p2,r2,g3,g4⟩:=s.ex;obtain⟨S,fl2⟩:=uy p.1 p.2 p2;rw[<-hf]at S fl2;have q4:(f+1)*r.2=f*r.2+r.2:=by grind
   have q5:(f+1)*p.2=f*p.2+p.2:=by grind
   have w:0<r.1-f*r.2:=by
    have a1:=aJ S (aA r2);have Q:f*r.2*p.2<r.1*p.2:=by
     have:f*r.2*p.2=f*p.2*r.2:=by grind
     lia
    have:=eX Q (aA p2);lia
   have bp:=sh (h1 p e1).2.2;have br:=sh (R r e2).2.2;have H:Oe E d:=λo j=>by rw[I]at j;cases j;exact⟨w,(R r e2).2.2,uC (by dsimp only;lia) (by dsimp only;lia)⟩
   have D:Oe E i:=λq j=>by
    rw[e4]at j;split at j
    .cases j
    .cases j;exact⟨by dsimp only;lia,(h1 p e1).2.2,uC (by dsimp only;lia) (by dsimp only;lia)⟩
   obtain⟨g,a1,Q,a3⟩:=A0 y (r.2,r.1-f*r.2) I w r2 H D B.h hl hh;have fB:=hfb f (by simp);have iX:Bn (E+2) (f*(rb u (wb b a,1)).1+(rb u (wb b a,1)).2):=by
    obtain⟨_,c1,c2,c3⟩:=DB y (r.2,r.1-f*r.2) I w r2 (λr er=>(D r er).1) (λr er=>(B.h r er).1) hl hh;have t1:tp d+tp i<=r.2+p.2:=by
     rw[I,e4];split
     .show r.2+1<=_;lia
     .exact eD _
    have t2:bt d+bt i=(r.1-f*r.2)+(p.1-f*p.2):=by
     rw[I,e4];split
     .rename_i z;rw[z];rfl
     .rfl
    have gp:=g.pos;have cp:=sh (h1 p e1).2.1;have cr:=sh (R r e2).2.1;have m2:f*(r.2+p.2)=f*r.2+f*p.2:=dS _ _ _;have P2:(2:Int) ^ (E+2)=4*2 ^ E:=by rw[fg,P];lia
    generalize (2:Int) ^ E=pe at *;generalize (rb u (wb b a,1)).1=x1 at *;generalize (rb u (wb b a,1)).2=x2 at *;refine uC ?_ ?_<;>rw[P2]
    .by_cases f0:0<=f
     .have:=eV (show x1<=r.2+p.2 by lia) f0;lia
     .have:=aP (show 0<=-f by lia) (aA c1);have e:-f*x1 = -(f*x1):=by grind
      lia
    .by_cases f0:0<=f
     .have:=aP f0 (aA c1);lia
     .have:=eV (show x1<=r.2+p.2 by lia) (show 0<=-f by lia);have e:-f*x1 = -(f*x1):=by grind
      have j:-f*(r.2+p.2) = -(f*r.2)-f*p.2:=by grind
      lia
   refine⟨Hq s g a1,iX,Q,λk hk=>?_⟩;have sm:∀(fs:LI) (d i:Option (Int×Int)),AD d i fs b a->(∃p,d=some p/\0<p.2/\0<p.1)->Oe E d->Oe E i->∀k,k<=fs.length->Bn (2*E+10) (rb (fs.drop k) (wb b a,1)).1:=by
    intro fs;induction fs with
    |nil=>intro _ _ _ _ _ _ k _;rw[List.drop_nil];exact wB.mono (by lia)
    |cons v fs2 ih=>
     rintro d i y ⟨p,e,c1,c2⟩ H D k hk;cases k with
     |zero=>obtain⟨_,_,b2,_⟩:=A0 y p e c1 c2 H D B.h hl hh;rw[dB];exact b2.mono (by lia)
     |succ k=>
      cases y with
      |cons s2 hp2=>
       obtain⟨o,q,X,Y,hf',Z,e4',N,U,g3',g4'⟩:=s2.ex;obtain⟨C,L⟩:=uy o.1 o.2 N;rw[<-hf']at C L;have q4':(v+1)*q.2=v*q.2+q.2:=by grind
       have q5':(v+1)*o.2=v*o.2+o.2:=by grind
       have A:0<q.1-v*q.2:=by
        have a1:=aJ C (aA U);have Q:v*q.2*o.2<q.1*o.2:=by
         have:v*q.2*o.2=v*o.2*q.2:=by grind
         lia
        have:=eX Q (aA N);lia
       have bp':=sh (H o X).2.2;have br':=sh (D q Y).2.2;have:=ih _ _ hp2 ⟨_,Z,A,U⟩ (λp'' j=>by rw[Z]at j;cases j;exact⟨A,(D q Y).2.2,uC (by dsimp only;lia) (by dsimp only;lia)⟩) (λr'' j=>by
        rw[e4']at j;split at j
        .cases j
        .cases j;exact⟨by dsimp only;lia,(H o X).2.2,uC (by dsimp only;lia) (by dsimp only;lia)⟩) k (by simpa using hk)
       simpa using this
   cases k with
   |zero=>rw[dB];exact iX.mono (by lia)
   |succ k=>simpa using sm u d i y ⟨_,I,w,r2⟩ H D k (by simpa using hk)
 obtain⟨f1,v,f3,f4⟩:=fin;obtain⟨y4,eb⟩:=Om (c:=c) E hE (some (.p (oT b))) (some (.p (oT a))) (some (.p (.lst (fs.map T.int)))) (some (.p (JP b a))) K J fs (wb b a,1) F B.fb f4;refine⟨rb fs (wb b a,1),?_,f1,v,f3⟩;have t0:L3.mj d2 (iD (gW (iy false) ap ah)) (vw (i6 8 [oT lo,oT hi]))=.ok false:=by
  cases el:lo with
  |none=>exact tq (g9 (gN rfl rfl rfl))
  |some p=>
   cases eh:hi with
   |none=>exact mW (g9 (gN rfl rfl rfl)) (g9 (gN rfl rfl (by show iy false (fr p) .non=_;rfl)))
   |some r=>refine mW (g9 (gN rfl rfl rfl)) (g9 (gN rfl rfl ?_));show iy false (fr p) (fr r)=_;rw[KM,aB];intro z;have:=hlt p r el eh;rw[z]at this;exact absurd this (by grind)
 refine iB rfl (gP (iF t0 rfl) (gP (nY (ts:=[]) rfl rfl) (gP (gY (t:=JP lo hi) (iH rfl rfl w0) rfl) (gP (ρ':=yx b a fs F K J) e (gP (gY (t:=fr (wb b a,1)) (nS (by show gJ 3 _=.ok (.int (wb b a));rw[<-wi];rfl) rfl) rfl) (gP (Uw (ts:=fs.map T.int) rfl (jK (its:=fs.reverse.map T.int) (by rw[List.map_reverse];rfl) eb)) (hW rfl)))))))
def vU N M row other a (B:a<row.length) (L:other.length=row.length) (Z:row.length<1000) (X:N+M+1<=8000) (hb:∀x∈row,Bn N x) (k:∀x∈other,Bn M x) (H:vc other a≠0) :
  ∃r,jr c [tI row,tI other,.int (a:Int)]=.ok (tI r)/\r.length=row.length/\(∀x∈r,Bn (N+M+1) x)/\vc r a=0/\∃g s b:Int,0<g/\0<s/\(∀i,g*vc r i=s*vc row i+b*vc other i)/\(vc row a≠0->s=((vc other a).natAbs:Int)/\b = -vc row a*kJ (vc other a)):=by
 have sz:1000<sizeLine:=by decide
 have l:iP (tI row) (.int (a:Int))=.ok (.int (vc row a)):=kz row a B;have C:iP (tI other) (.int (a:Int))=.ok (.int (vc other a)):=kz other a (by lia);have A:Bn N (vc row a):=hb _ (getD_mem row a B);have P:Bn M (vc other a):=k _ (getD_mem other a (by lia));by_cases j:vc row a=0
 .exact⟨row,iB rfl (ku (i9 (g9 (gN (gN rfl rfl l) rfl (by rw[jj,j];rfl))) (hW rfl)) rfl),rfl,λx U=>(hb x U).mono (by lia),j,1,1,0,by decide,by decide,λi=>by lia,λz=>absurd j z⟩
 .generalize J:vc other a=o at *;generalize K:vc row a=x0 at *;have E:xE [.int o]=.ok (.int (o.natAbs:Int)):=by simp[OK]
  let w:Int:=-x0*kJ o;have Q:=xB o;have u:Bn N w:=by
   refine cg ?_ A;show (-x0*kJ o).natAbs<=_;rw[aY,dA];have:(kJ o).natAbs<=1:=by lia
   exact aN (fj _ this) (by lia)
  have v:Bn M (o.natAbs:Int):=cg (by lia) P;let d:LI:=(row.zip other).map λp=>(o.natAbs:Int)*p.1+w*p.2;have D:d.length=row.length:=by simp[d,L]
  have q:∀y∈d,Bn (N+M+1) y:=λy Y=>by obtain⟨p,h,rfl⟩:=aD.mp Y;exact ((v.mul (hb _ (aW h).1)).add (u.mul (k _ (aW h).2))).mono (by lia)
  have f:∀i,vc d i=(o.natAbs:Int)*vc row i+w*vc other i:=λi=>by
   by_cases R:i<row.length
   .rw[ke d i (by lia),ke row i R,ke other i (by lia)];simp[d]
   .rw[rJ d i (by lia),rJ row i (by lia),rJ other i (by lia),dO,dO];rfl
  obtain⟨g,r,S,I,F,e,m⟩:=xm (c:=c) (N+M+1) X d (by lia) q;refine⟨r,iB rfl (gP (iF (g9 (gN (gN rfl rfl l) rfl (by rw[jj];simp[j]))) rfl) (gP (gY (t:=.int (o.natAbs:Int)) (mZ (gN rfl rfl C) E) rfl) (gP (gY (t:=.int w) ?_ rfl) (hW (oO (x:=tI d) ?_ I))))),by lia,m,?_,g,(o.natAbs:Int),w,S,by lia,λi=>by rw[<-e i,f i],λ_=>⟨rfl,rfl⟩⟩
  .refine gN (x:=.int (-x0)) (y:=.int (kJ o)) ?_ (oO (gN rfl rfl C) (rY o)) (iJ ((A.neg).ok (n:=2) ?_ (by lia) (by decide)))
   .exact pM (gN rfl rfl l)
   .unfold Bn;show _<4;lia
  .refine mZ (t:=.lst (d.map T.int)) (iV (jS (row.zip other) (λp=>T.tup [.int p.1,.int p.2]) (λp=>T.int ((o.natAbs:Int)*p.1+w*p.2)) (nT rfl rfl rfl rfl) (by simp;lia) (λp h=>⟨_,rfl,rfl,?_⟩) (by rw[aI];rfl))) rfl;exact gN (gN rfl rfl (iJ (v.ok (hb _ (aW h).1) (by lia) (by lia)))) (gN rfl rfl (iJ (u.ok (k _ (aW h).2) (by lia) (by lia)))) (jw _ _)
  .refine rR (g:=g) (by lia) ?_;rw[<-e a,f a,J,K];show _ + -x0*kJ o*o=_;rw[cS,GX,dQ,cT x0];lia
theorem uH P x1 L M (hL:L<1000):∀(pv:List (Nat×LI)) (row:LI) (N:Nat) (h j:Option W),N+pv.length*(M+1)<=8000->row.length=L->(∀x∈row,Bn N x)->(∀p∈pv,p.1<L/\p.2.length=L/\vc p.2 p.1≠0/\(∀x∈p.2,Bn M x)/\P (vc p.2))->pv.Pairwise (λp q=>vc q.2 p.1=0)->
  ∃r l B,jU (kX 2 ga) (uR c) (pv.map nB) [some (.p (tI row)),x1,h,j]=.nx [some (.p (tI r)),x1,l,B]/\r.length=L/\(∀x∈r,Bn (N+pv.length*(M+1)) x)/\
   (∃g s y,0<g/\0<s/\Qs P y/\∀i,g*vc r i=s*vc row i+1*y i)/\(∀k,vc row k=0->(∀p∈pv,vc p.2 k=0)->vc r k=0)/\∀p∈pv,vc r p.1=0
 |[],row,N,h,j,_,hl,hb,_,_=>⟨row,h,j,rfl,hl,λx E=>(hb x E).mono (by lia),⟨1,1,λ_=>0,by decide,by decide,.zero,λi=>by lia⟩,λk F _=>F,λp b=>nomatch b⟩
 | (a,prow)::pv,row,N,h,j,hN,hl,hb,hA,hw=>by
  obtain⟨h1,h2,Q,X,J⟩:=hA (a,prow) (bx ..);obtain⟨w1,K⟩:=List.pairwise_cons.mp hw;rw[ay,b7]at hN;obtain⟨D,Y,c1,Z,U,d,w,q1,o,v,I,_⟩:=vU N M row prow a (by lia) (by lia) (by lia) (by lia) hb X Q;obtain⟨r,l,B,e,m,z,⟨C,f,y,u,A,hy,R⟩,H,z2⟩:=uH P x1 L M hL pv D (N+M+1) (some (.p (.int a))) (some (.p (tI prow))) (by lia) (by rw[c1,hl]) Z (λp b=>hA p (bz _ b)) K;refine⟨r,l,B,?_,m,λx E=>(z x E).mono (by rw[ay,b7];lia),⟨d*C,f*w,_,aX o u,aX A v,Qs.comb (f*q1) d (.of J) hy,λi=>?_⟩,λk F b=>?_,λp b=>?_⟩
  .rw[bI,jU];have w:(kX 2 ga) (nB (a,prow)) [some (.p (tI row)),x1,h,j]=some [some (.p (tI row)),x1,some (.p (.int a)),some (.p (tI prow))]:=rfl;rw[w];have f:uR c [some (.p (tI row)),x1,some (.p (.int a)),some (.p (tI prow))]=.nx [some (.p (tI D)),x1,some (.p (.int a)),some (.p (tI prow))]:=gY (kr rfl rfl rfl Y) rfl;dsimp only;rw[f];exact e
  .calc d*C*vc r i=d*(C*vc r i):=by ac_rfl
    _=f*(d*vc D i)+d*y i:=by rw[R i,dJ,dS];congr 1;ac_rfl
    _=_:=by rw[I i,dS];simp only[dJ,cS,Int.add_assoc]
  .refine H k (rR (g:=d) (by lia) ?_) λp n=>b p (bz _ n);have:=b (a,prow) (bx ..);dsimp only at this;rw[I k,F,this,dO,dO];rfl
  .rcases aF.mp b with rfl|b
   .exact H _ U λq S=>w1 q S
   .exact z2 p b
def DN P L M N (k:L<1000) (pv:List (Nat×LI)) row (j:N+pv.length*(M+1)<=8000) (d:row.length=L) (hb:∀x∈row,Bn N x) (h:∀p∈pv,p.1<L/\p.2.length=L/\vc p.2 p.1≠0/\(∀x∈p.2,Bn M x)/\P (vc p.2)) (hw:pv.Pairwise (λp q=>vc q.2 p.1=0)) :
  ∃r:LI,mx c [tI row,.lst (pv.map nB)]=.ok (tI r)/\r.length=L/\(∀x∈r,Bn (N+pv.length*(M+1)) x)/\
   (∃g s y,0<g/\0<s/\Qs P y/\∀i,g*vc r i=s*vc row i+1*y i)/\∀p∈pv,vc r p.1=0:=by
 obtain⟨r,m,n,e,l,f,a,-,b⟩:=uH P (some (.p (.lst (pv.map nB)))) L M k pv row N none none j d hb h hw;exact⟨r,iB rfl (gP (jK rfl e) (hW rfl)),l,f,a,b⟩
def nU(us:LL)(d:Nat)(x:Vc):Prop:=∀k,k<=d->x k=sm us.length λi=>x (d+1+i)*vc (us.getD i []) k
def nU.comb(h:g≠0)(j:nU us d x)(l:nU us d y)(e:∀i,g*z i=a*x i+b*y i):nU us d z:=λk f=>by refine Int.eq_of_mul_eq_mul_left h ?_;rw[e k,j k f,l k f,<-uX,<-mC];refine ko _ _ _ λi _=>?_;have:=e (d+1+i);rw[<-cS g,this];grind
def nU.zero:nU us d λ_=>0:=λk _=>by
 have:(λi=>0*vc (us.getD i []) k)=λ_=>0:=by funext i;simp
 rw[this,yq]
def nU.qs(h:∀x,P x->nU us d x)(q:Qs P z):nU us d z:=by
 induction q with
 |zero=>exact .zero
 |of p=>exact h _ p
 |lin _ _ hs e i1 i2=>exact i1.comb hs i2 e
noncomputable def wr(us:LL)(k:Nat):LI:=us.getD k []++(List.replicate us.length (0:Int)).set k 1
def xV us d k (a:k<us.length) (e:∀u∈us,u.length=d+1) i:vc (wr us k) i=if i<d+1 then vc (us.getD k []) i else if i-(d+1)=k then 1 else 0:=by
 have b:us.getD k []∈us:=by rw[af,ag a];exact aV a
 have f:=e _ b;unfold wr;generalize us.getD k []=u at *;unfold vc;rw[af,List.getElem?_append,f];split
 .rw[af]
 .rw[List.getElem?_set];split
  .rename_i h;rw[aQ h.symm];rw[bS];rw[aQ (by lia)];rfl
  .rename_i h;rw[aR (λz=>h z.symm),List.getElem?_replicate];split<;>rfl
def xv us d k (a:k<us.length) (f:∀u∈us,u.length=d+1):(wr us k).length=d+1+us.length:=by
 have b:us.getD k []∈us:=by rw[af,ag a];exact aV a
 have e:=f _ b;unfold wr;generalize us.getD k []=u at *;simp[e]
def Mv(e:1<=B) us k (a:k<us.length) (hb:∀u∈us,∀x∈u,Bn B x):∀x∈wr us k,Bn B x:=λx d=>by
 have b:us.getD k []∈us:=by rw[af,ag a];exact aV a
 rcases ai.mp d with h|h
 .exact hb _ b x h
 .rcases fv h with h|h
  .rw[bg h];exact ua
  .rw[h];have:Bn 1 1:=by unfold Bn;decide
   exact this.mono e
def K4 us d k (a:k<us.length) (b:∀u∈us,u.length=d+1):nU us d (vc (wr us k)):=λp e=>by
 rw[xV us d k a b p,aQ (by lia)];have:(λi=>vc (wr us k) (d+1+i)*vc (us.getD i []) p)=λi=>(if i=k then 1 else 0)*vc (us.getD i []) p:=by funext i;rw[xV us d k a b (d+1+i),aR (by lia),show d+1+i-(d+1)=i by lia]
 rw[this,B8 _ k _ a]
noncomputable def Pq(B:Nat):Nat->Nat
 |0=>0
 |k+1=>Pq B k+(B+k*(Pq B k+1))+1
def Pp B k:Pq B k<=Pq B (k+1):=by show _<=Pq B k+(B+k*(Pq B k+1))+1;lia
structure PV(us:LL)(d B:Nat)(dn:List Nat)(pv:List (Nat×LI))(rs:LL)(ix:List Nat):Prop where
 len:pv.length=ix.length
 pl:∀p∈pv,p.1<d/\p.2.length=d+1+us.length/\vc p.2 p.1≠0/\(∀x∈p.2,Bn (Pq B pv.length) x)/\nU us d (vc p.2)/\∀i,i∉ix->vc p.2 (d+1+i)=0
 pw:pv.Pairwise λp q=>p.1≠q.1/\vc q.2 p.1=0/\vc p.2 q.1=0
 rr:∀r∈rs,r.length=d+1+us.length/\(∀k,k<d->vc r k=0)/\nU us d (vc r)/\(∀i,i∉dn->vc r (d+1+i)=0)/\∀x∈r,Bn 8000 x
 sub:∀i∈ix,i∈dn
 sp:∀z∈dn,Qs (λx=>(∃p∈pv,x=vc p.2)\/∃r∈rs,x=vc r) (vc (wr us z))
def PV.short{pv:List (Nat×LI)}(h:PV us d B dn pv rs ix):pv.length<=d:=by
 have nd:=fw.mpr (h.pw.imp λq=>q.1);have:=yI d (pv.map Prod.fst) nd λx b=>by obtain⟨p,a,rfl⟩:=aD.mp b;exact (h.pl p a).1
 simpa using this
def UO(h:k<=d):Pq B k<=Pq B d:=by
 induction h with
 |refl=>exact aK _
 |step _ ih=>exact aN ih (Pp B _)
def Qs.at_zero(h:∀x,P x->x k=0)(q:Qs P z):z k=0:=Qs.at0 h q
def Ol{pv:List (Nat×LI)}(h:PV us d B dn pv rs ix)(I:nU us d (vc (wr us z)))(hw:∀i,i≠z->vc (wr us z) (d+1+i)=0)(K:0<g)(J:0<s)(n:Qs (UU pv) y)(e:∀i,g*vc left i=s*vc (wr us z) i+1*y i)
  (A:left.length=d+1+us.length) (D:∀k,k<d->vc left k=0) (hb:∀x∈left,Bn 8000 x):PV us d B (dn++[z]) pv (rs++[left]) ix:=by
 have H:=nU.qs (λx ⟨p,j,f⟩=>by rw[f];exact (h.pl p j).2.2.2.2.1) n;refine⟨h.len,h.pl,h.pw,λr hr=>?_,λi l=>ax _ (h.sub i l),λo m=>?_⟩
 .rcases ai.mp hr with hr|hr
  .obtain⟨v,w,C,F,u⟩:=h.rr r hr;exact⟨v,w,C,λi l=>F i (λq=>l (ax _ q)),u⟩
  .rw[aj.mp hr];refine⟨A,D,I.comb (by lia) H e,λi l=>?_,hb⟩;refine rR (g:=g) (by lia) ?_;rw[e,hw i (λq=>l (by simp[q]))];have:=Qs.at_zero (λx ⟨p,j,f⟩=>by rw[f];exact (h.pl p j).2.2.2.2.2 i (λq=>l (ax _ (h.sub i q)))) n;rw[this];simp
 .rcases ai.mp m with q|q
  .exact (h.sp o q).mono λx E=>by
    rcases E with⟨p,j,f⟩|⟨r,hr,f⟩
    .exact .inl ⟨p,j,f⟩
    .exact .inr ⟨r,ax _ hr,f⟩
  .rw[aj.mp q];exact .lin (s:=s) (a:=g) (b:=-1) (.of (.inr ⟨left,by simp,rfl⟩)) (n.mono λx ⟨p,j,f⟩=>.inl ⟨p,j,f⟩) (by lia) λi=>by have:=e i;lia
def Nx{pv:List (Nat×LI)}(h:PV us d B dn pv rs ix)(hz:nU us d (vc (wr us z)))(hw:∀i,i≠z->vc (wr us z) (d+1+i)=0)(hg:0<g)(hs:0<s)(Q:Qs (UU pv) y)(e:∀i,g*vc left i=s*vc (wr us z) i+1*y i)
  (hl:left.length=d+1+us.length) (m:∀p∈pv,vc left p.1=0) (hb:∀x∈left,Bn (B+pv.length*(Pq B pv.length+1)) x) (ha:a<d) (v:vc left a≠0) (f:Nat×LI->LI)
  (D:∀p∈pv,(f p).length=p.2.length/\(∀x∈f p,Bn (Pq B (pv.length+1)) x)/\vc (f p) a=0/\∃g s b:Int,0<g/\0<s/\∀i,g*vc (f p) i=s*vc p.2 i+b*vc left i) :
  PV us d B (dn++[z]) (pv.map (λp=>(p.1,f p))++[(a,left)]) rs (ix++[z]):=by
 have ly:=nU.qs (λx ⟨p,j,n⟩=>by rw[n];exact (h.pl p j).2.2.2.2.1) Q;have R:=hz.comb (by lia) ly e;have U:∀i,i∉ix++[z]->vc left (d+1+i)=0:=λi l=>by refine rR (g:=g) (by lia) ?_;rw[e,hw i (λq=>l (by simp[q]))];have:=Qs.at_zero (λx ⟨p,j,n⟩=>by rw[n];exact (h.pl p j).2.2.2.2.2 i (λq=>l (ax _ q))) Q;rw[this];simp
 have ne:∀p∈pv,p.1≠a:=λp j q=>v (q▸m p j);refine⟨by simp[h.len],λp j=>?_,?_,λr hr=>?_,λi l=>?_,λz' L=>?_⟩
 .simp only[aT,aw,b6];rcases ai.mp j with j|j
  .obtain⟨o,k,rfl⟩:=aD.mp j;obtain⟨J,K,N,Y,I,a6⟩:=h.pl o k;obtain⟨f1,f2,f3,C,F,E,w,A,u⟩:=D o k;refine⟨J,by rw[f1,K],λq=>N ?_,f2,I.comb (by lia) R u,λi l=>?_⟩
   .have:=u o.1;rw[q,m o k,dO,dO,dU]at this;exact rR (g:=F) (by lia) this.symm
   .refine rR (g:=C) (by lia) ?_;rw[u,a6 i (λq=>l (ax _ q)),U i l];simp
  .rw[aj.mp j];exact⟨ha,hl,v,λx P=>(hb x P).mono (by show _<=Pq B pv.length+(B+pv.length*(Pq B pv.length+1))+1;lia),R,U⟩
 .refine eg.mpr ⟨fw.mpr (h.pw.imp_of_mem λ{p q} j H r=>?_),fz _ _,λp j q H=>?_⟩
  .obtain⟨r1,r2,r3⟩:=r;obtain⟨_,_,_,C,F,E,w,A,u⟩:=D p j;obtain⟨_,_,_,g2,s2,b2,hg2,hs2,v2⟩:=D q H;refine⟨r1,rR (g:=g2) (by lia) ?_,rR (g:=C) (by lia) ?_⟩
   .rw[v2,r2,m p j];simp
   .rw[u,r3,m q H];simp
  .obtain⟨o,k,rfl⟩:=aD.mp j;rw[aj.mp H];exact⟨ne o k,m o k,(D o k).2.2.1⟩
 .obtain⟨J,K,N,Y,I⟩:=h.rr r hr;exact⟨J,K,N,λi l=>Y i (λq=>l (ax _ q)),I⟩
 .rcases ai.mp l with l|l
  .exact ax _ (h.sub i l)
  .exact bF _ l
 .let Z:Vc->Prop:=λx=>(∃p∈pv.map (λp=>(p.1,f p))++[(a,left)],x=vc p.2)\/∃r∈rs,x=vc r;have S:Qs Z (vc left):=.of (.inl ⟨(a,left),by simp,rfl⟩);have X:∀p∈pv,Qs Z (vc p.2):=λp j=>by obtain⟨_,_,_,C,F,E,w,A,u⟩:=D p j;exact .lin (s:=F) (a:=C) (b:=-E) (.of (.inl ⟨(p.1,f p),ax _ (aD.mpr ⟨p,j,rfl⟩),rfl⟩)) S (by lia) λi=>by have:=u i;have e2:-E*vc left i = -(E*vc left i):=dQ _ _;dsimp only at this ⊢;lia
  rcases ai.mp L with q|q
  .exact (h.sp z' q).sub λx P=>by
    rcases P with⟨p,j,n⟩|⟨r,hr,n⟩
    .rw[n];exact X p j
    .exact .of (.inr ⟨r,hr,n⟩)
  .rw[aj.mp q];exact .lin (s:=s) (a:=g) (b:=-1) S (Q.sub λx ⟨p,j,n⟩=>by rw[n];exact X p j) (by lia) λi=>by have:=e i;lia
structure Wh(m B:Nat):Prop where
 b1:1<=B
 le:∀k,k<=m->B+k*(Pq B k+1)<=8000
 pq:Pq B m<=8000
def Tf us d k (b:k<us.length) (a:∀u∈us,u.length=d+1):∀i,i≠k->vc (wr us k) (d+1+i)=0:=λi e=>by rw[xV us d k b a,aR (by lia),aR (by lia)]
def GG us d B {m:Nat} (hd:d<=4) (hn:us.length<=8) (hl:∀u∈us,u.length=d+1) (hb:∀u∈us,∀x∈u,Bn B x) (hB:Wh m B) zs (hz:∀z∈zs,z<us.length) (hzl:zs.length<=8) (hm:∀n,n<=d->n<=zs.length->n<=m:=by exact λ_ h _=>h) :
  ∃pv l K,ki c [.lst ((zs.map (wr us)).map tI),.int (d:Int)]=.ok (.tup [.lst (pv.map nB),.lst (l.map tI)])/\PV us d B zs pv l K/\l.length<=8/\pv.length<=zs.length:=by
 have sz:1000<sizeLine:=by decide
 have hrm:EW (d:Int)=true:=nW (by lia);obtain⟨ρ,e,pv,l,K,x4,x5,x6,rfl,v,U,H⟩:=jP (m:=j6 4) (g:=mG c) (λz=>tI (wr us z))
  (λk ρ=>∃(pv:List (Nat×LI)) (l:LL) (K:List Nat) (x4 x5 x6:Option W),ρ=[some (.p (.lst ((zs.map (wr us)).map tI))),some (.p (.int (d:Int))),some (.p (.lst (pv.map nB))),some (.o (l.map tI)),x4,x5,x6]/\PV us d B (zs.take k) pv l K/\l.length<=k/\pv.length<=k)
  zs 0 _ ⟨[],[],[],none,none,none,rfl,⟨rfl,(λp a=>nomatch a),List.Pairwise.nil,(λp a=>nomatch a),(λp a=>nomatch a),(λz hz=>by simp at hz)⟩,aK _,aK _⟩ (by
   rintro k z ρ hi ⟨pv,l,K,x4,x5,x6,rfl,v,U,H⟩;rw[aG]at v U H ⊢;have F:=hz z (au hi);have hkl:=(aa.mp hi).1;have hpl:=v.short;have I:=K4 us d z F hl;have hww:=Tf us d z F hl;have hbb:=hB.le pv.length (hm _ hpl (by lia));obtain⟨left,el,X,L,⟨g,s,y,hg,hs,hy,ey⟩,h0⟩:=DN (c:=c) (UU pv) (d+1+us.length) (Pq B pv.length) B (by lia) pv (wr us z) hbb (xv us d z F hl) (Mv hB.b1 us z F hb) (λp a=>by obtain⟨q1,q2,q3,q4,_⟩:=v.pl p a;exact⟨by lia,q2,q3,q4,p,a,rfl⟩) (v.pw.imp λh=>h.2.1)
   let w:List Nat:=(List.range d).filter λj=>left.getD j 0 != 0;let R:En:=[some (.p (.lst ((zs.map (wr us)).map tI))),some (.p (.int (d:Int))),some (.p (.lst (pv.map nB))),some (.o (l.map tI)),some (.p (tI (wr us z))),some (.p (tI left)),some (.p (.lst (w.map λ(j:Nat)=>T.int (j:Int))))];have e4:kh [none,some 5] (lE bd) bP (iD (gW (iy true) (gW iP ah ap) ac)) (oK c) (nQ [some (.p (.lst ((zs.map (wr us)).map tI))),some (.p (.int (d:Int))),some (.p (.lst (pv.map nB))),some (.o (l.map tI)),some (.p (tI (wr us z))),some (.p (tI left)),x6])=.ok (w.map λ(j:Nat)=>T.int (j:Int)):=nO (List.range d) (λ(j:Nat)=>T.int (j:Int)) (λ(j:Nat)=>T.int (j:Int)) (λj=>left.getD j 0 != 0) (by simp[hrm,Qh]) (by simp;lia) (λj hj=>⟨_,rfl,g9 (gN (gN rfl rfl (kz left j (by have:=aS.mp hj;lia))) rfl (lq _ _)),λ_=>rfl⟩) rfl
   have N:vG (w.map λ(j:Nat)=>T.int (j:Int))=true:=sN _ _ λ_ _=>rfl;have Q:wG (w.map λ(j:Nat)=>T.int (j:Int))<=90:=aN (sT _ 0 _ λ_ _=>aK _) (by decide);have C:iD (gW (iy false) dd cb) (vw R)=.ok w.isEmpty:=by refine g9 (gN (x:=.lst (w.map λ(j:Nat)=>T.int (j:Int))) (y:=.lst []) rfl (by simp) ?_);rw[ym false _ N Q];simp
   have pre:∀r,(lS (iD (gW (iy false) dd cb)) (rj 3 (ju bq)) (setO 2 (ju (jy (jO (gI bf (gI bq (gI (gW iP dd ac) gM))) (mz c)))))) R=r->
     mG c [some (.p (.lst ((zs.map (wr us)).map tI))),some (.p (.int (d:Int))),some (.p (.lst (pv.map nB))),some (.o (l.map tI)),some (.p (tI (wr us z))),x5,x6]=r:=λr hr=>
    gP (gY (t:=tI left) (iH rfl rfl el) rfl) (gP (gY (t:=.lst (w.map λ(j:Nat)=>T.int (j:Int))) (iV e4) rfl) hr)
   have tk:zs.take (k+1)=zs.take k++[z]:=jJ zs k z hi;cases D:w with
   |nil=>refine⟨_,_,rfl,.inl (pre _ (i9 (by rw[C,D];rfl) (wU (t:=tI left) rfl rfl (by simp;lia) rfl))),pv,l++[left],K,_,_,_,by rw[aZ];rfl,?_,by simp;lia,by lia⟩;rw[tk];refine Ol v I hww hg hs hy ey X (λi him=>?_) (λx Z=>(L x Z).mono hbb);refine aO λhc=>?_;have:i∈w:=aU.mpr ⟨aS.mpr him,by simpa[vc] using hc⟩;rw[D]at this;exact nomatch this
   |cons E js=>
    have Y:E∈w:=by rw[D];exact bx ..
    have J:E<d:=aS.mp (aU.mp Y).1;have A:vc left E≠0:=by have:=(aU.mp Y).2;simpa[vc] using this
    have S:pv.length+1<=d:=by
     have nd:(E::pv.map Prod.fst).Nodup:=bO.mpr ⟨λhm=>by obtain⟨p,a,ep⟩:=aD.mp hm;exact A (ep▸h0 p a),fw.mpr (v.pw.imp λq=>q.1)⟩
     have:=yI d _ nd λx Z=>by
      rcases aF.mp Z with rfl|Z
      .exact J
      .obtain⟨p,a,rfl⟩:=aD.mp Z;exact (v.pl p a).1
     simpa using this
    have hP:Pq B (pv.length+1)<=8000:=aN (UO (hm _ S (by lia))) hB.pq;obtain⟨f,hf⟩:=n8 (P:=λ(p:Nat×LI) (r:LI)=>jr c [tI p.2,tI left,.int (E:Int)]=.ok (tI r)/\r.length=p.2.length/\(∀x∈r,Bn (Pq B (pv.length+1)) x)/\vc r E=0/\∃g s b:Int,0<g/\0<s/\∀i,g*vc r i=s*vc p.2 i+b*vc left i) pv λp a=>by obtain⟨q1,q2,q3,q4,_⟩:=v.pl p a;obtain⟨r,a1,a2,a3,a4,g,s,b,a5,a6,a7,_⟩:=vU (c:=c) (Pq B pv.length) (B+pv.length*(Pq B pv.length+1)) p.2 left E (by lia) (by lia) (by lia) hP q4 L A;exact⟨r,a1,a2,a3,a4,g,s,b,a5,a6,a7⟩
    have i0:gW iP dd ac (nQ R)=.ok (.int (E:Int)):=gN (x:=.lst (w.map λ(j:Nat)=>T.int (j:Int))) rfl rfl (by rw[D];exact QV _ _);have e5:=AF (c:=c) pv left E f (by lia) λp a=>(hf p a).1;refine⟨_,_,rfl,.inl (pre _ (iF (by rw[C,D];rfl) (gY (iV (B0 rfl rfl i0 e5)) rfl))),_,l,K++[z],_,_,_,rfl,?_,by lia,by simp;lia⟩;rw[tk];exact Nx v I hww hg hs hy ey X h0 L J A f λp a=>(hf p a).2)
 rw[aG,dM]at v;rw[aG]at U H;refine⟨pv,l,K,iB rfl (gP (gY (t:=.lst []) (by simp) rfl) (gP (nY (ts:=[]) (by simp) rfl) (gP (jK (by rw[aI];rfl) e) (hW (nS rfl rfl))))),v,by lia,H⟩
noncomputable def pY(pv:List (Nat×LI))(d:Nat):List Nat:=(List.range d).filter λk=>!(pv.map Prod.fst).contains k
def MX neg (k:Nat) (l:List Nat):zS neg (.int (k:Int)) (.lst (l.map λ(j:Nat)=>T.int (j:Int)))=.ok (.bl (if neg then !l.contains k else l.contains k)):=by
 have f:(l.map λ(j:Nat)=>T.int j).all lj=true:=cD.mpr λx d=>by obtain⟨y,-,rfl⟩:=aD.mp d;rfl
 have b:vK (.int k) (l.map λ(j:Nat)=>T.int j)=l.contains k:=by
  unfold vK;rw[cB,List.contains_eq_any_beq];congr 1;funext a;show FC (T.int a) (T.int k)=(k==a);rw[GV];by_cases h:k=a
  .subst h;simp
  .have e:¬(a=(k:Int)):=by lia
   rw[beq_eq_false_iff_ne.mpr e,beq_eq_false_iff_ne.mpr h]
 show (if lj (T.int (k:Int))&&(l.map λ(j:Nat)=>T.int (j:Int)).all lj then _ else _)=_;rw[f,b];rfl
def Ad pv (d:Nat) (e:d<=10) (b:pv.length<=100):lO c [.lst (pv.map nB),.int (d:Int)]=.ok ((pY pv d).map λ(j:Nat)=>T.int (j:Int)):=by
 have sz:1000<sizeLine:=by decide
 have a:EW d=true:=nW (by lia);refine nG rfl (gP (gY (t:=.lst ((pv.map Prod.fst).map λ(j:Nat)=>T.int j)) (iV (jS pv nB (λp=>T.int p.1) rfl (by lia) (λp b=>⟨_,rfl,rfl,rfl⟩) (by rw[aI];rfl))) rfl) (oo ?_));exact nO (List.range d) (λj=>T.int j) (λj=>T.int j) (λk=>!(pv.map Prod.fst).contains k) (by simp[a,Qh]) (by simp;lia) (λj f=>⟨_,rfl,g9 (gN rfl rfl (MX true j _)),λ_=>rfl⟩) rfl
structure Jn(a:Nat)(x y r:LI):Prop where
 len:r.length=x.length
 at0:vc r a=0
 ex:∃g:Int,0<g/\∀i,g*vc r i = -vc y a*vc x i+vc x a*vc y i
def IW N x y a (p:a<x.length) (k:y.length=x.length) (u:x.length<1000) (E:2*N+1<=8000) (B:∀i∈x,Bn N i) (C:∀i∈y,Bn N i) (D:0<vc x a) (d:vc y a<0) :
  ∃r,jr c [tI x,tI y,.int (a:Int)]=.ok (tI r)/\Jn a x y r/\∀i∈r,Bn (2*N+1) i:=by
 obtain⟨r,e,l,b,z,g,s,w,A,m,v,q⟩:=vU N N x y a p k u (by lia) B C (by lia);obtain⟨F,n⟩:=q (by lia);have h:kJ (vc y a) = -1:=by unfold kJ;rw[aR (by lia),aQ d]
 refine⟨r,e,⟨l,z,g,A,λi=>?_⟩,λi o=>(b i o).mono (by lia)⟩;have j:s = -vc y a:=by lia
 have f:w=vc x a:=by rw[n,h];lia
 rw[v i,j,f]
noncomputable def Ih(d:Nat)(r:LI):Nat:=((r.drop (d+1)).filter λw=>w != 0).length
def Eb kvs k t:(tH kvs k t).map Prod.fst=if (kvs.map Prod.fst).contains k then kvs.map Prod.fst else kvs.map Prod.fst++[k]:=by
 have h:(kvs.any λa=>decide (a.1=k))=(kvs.map Prod.fst).contains k:=by grind
 unfold tH;rw[h];split
 .rw[aI];refine fC λa _=>?_;show (if a.1=k then (a.1,t) else a).1=a.1;split<;>rfl
 .simp
def G7:r∈(tH kvs k t).map Prod.fst↔r∈kvs.map Prod.fst\/r=k:=by
 rw[Eb];split
 .simp_all
 .simp
def GW kvs k t:(tH kvs k t).length<=kvs.length+1:=by have:=congrArg List.length (Eb kvs k t);rw[aw]at this;rw[this];split<;>simp
def uM r (d:Nat) (h:f ρ=.ok (tI r)) (b:fd ρ=.ok (.int (d:Int))):j7 f (jo (gW jF fd ab)) (λ_=>.ok none) ρ=.ok (tI (r.drop (d+1))):=by
 have a:jo (gW jF fd ab) ρ=.ok (some ((d+1:Nat):Int)):=by simp_all
 simp only[j7,h,a,M.bind_ok,tI];rw[xC,de]
def Qb(h:f ρ=.ok (tI r)):jh f ρ=.ok (r.map T.int):=by unfold jh;rw[h];rfl
structure Sh(d a:Nat)(iL:LL)(most N:Nat)(ks:LL):Prop where
 from_:∀r∈ks,(r∈iL/\vc r a=0)\/∃x∈iL,∃y∈iL,0<vc x a/\vc y a<0/\Jn a x y r
 bn:∀r∈ks,∀i∈r,Bn (2*N+1) i
def HA(b:ρ[i]? = some (some (.d kvs)))(j:fk (vw ρ)=.ok (tI k))(g:f (vw ρ)=.ok t)(e:lf t=true)(h:kvs.length<sizeLine):yP i (pS fk) (pS f) ρ=.nx (ρ.set i (some (.d (tH kvs k t)))):=by
 unfold yP wY pS;rw[b,j,g];have a:=MU k;simp only[M.bind_ok,e,a,if_true,O.of_ok];show (match kc (k.map T.int) with
  |some ns=>if kvs.length<sizeLine then O.nx (ρ.set i (some (.d (tH kvs ns t)))) else .bad
  |none=>.bad)=_
 rw[tQ];simp only[h,if_true]
theorem JA(d a l N:Nat)(L:Nat)(hL:L<1000)(hd:d<L)(ha:a<L)(hN:2*N+1<=8000)(iL:LL)(hrl:iL.length<=2000)(hr:∀r∈iL,r.length=L/\∀i∈r,Bn N i) :
  ∃ks:LL,tF c [.lst (iL.map tI),.int (d:Int),.int (a:Int),.int (l:Int)]=.ok (ks.map tI)/\Sh d a iL l N ks/\(∀m,4<=m->iL.length<=m->4*ks.length<=m*m)/\(∀r∈iL,vc r a=0->r∈ks)/\∀x∈iL,∀y∈iL,0<vc x a->vc y a<0->∃r,Jn a x y r/\(Ih d r<=l->r∈ks):=by
 have sz:10000000<sizeLine:=by decide
 have I:∀r∈iL,iP (tI r) (.int (a:Int))=.ok (.int (vc r a)):=λr u=>kz r a (by rw[(hr r u).1];exact ha);let A (f:List (LI×T)) (v x6 x7 x8:Option W):En:=[some (.p (.lst (iL.map tI))),some (.p (.int (d:Int))),some (.p (.int (a:Int))),some (.p (.int (l:Int))),some (.d f),v,x6,x7,x8];obtain⟨ρ1,e1,C,v,rfl,h1,h1l⟩:=jP (m:=j6 5) (g:=BH c) tI
  (λk K=>∃(f:List (LI×T)) (v:Option W),K=A f v none none none/\(∀r,r∈f.map Prod.fst↔r∈iL.take k/\vc r a=0)/\f.length<=((iL.take k).filter λr=>decide (vc r a=0)).length)
  iL 0 (A [] none none none none) ⟨[],none,rfl,λr=>by simp,by simp⟩ (by
   rintro k r K F ⟨f,v,rfl,h,hk⟩;rw[aG]at h hk ⊢;have Z:=au F;have hkr:=(aa.mp F).1;have S:=jJ iL k r F;have tl:((iL.take k).filter λr=>decide (vc r a=0)).length<=k:=aN (fE _ _) (by simp;lia);by_cases X:vc r a=0
   .refine⟨_,_,rfl,.inl (i9 (g9 (gN (gN rfl rfl (I r Z)) rfl (by rw[jj,X];rfl))) (HA (k:=r) (t:=.bl true) rfl rfl rfl rfl (by lia))),tH f r (.bl true),some (.p (tI r)),rfl,λr'=>?_,aN (GW _ _ _) (by rw[S,fF,aT];simp[X];exact hk)⟩;rw[G7,h,S];constructor
    .rintro (⟨j,o⟩|rfl)
     .exact⟨ax _ j,o⟩
     .exact⟨by simp,X⟩
    .rintro⟨j,o⟩;rcases ai.mp j with q|q
     .exact .inl ⟨q,o⟩
     .exact .inr (aj.mp q)
   .refine⟨_,_,rfl,.inl (iF (g9 (gN (gN rfl rfl (I r Z)) rfl (by rw[jj];simp[X]))) rfl),f,some (.p (tI r)),rfl,λr'=>?_,aN hk (by rw[S,fF,aT];lia)⟩;rw[h,S];constructor
    .rintro⟨j,o⟩;exact⟨ax _ j,o⟩
    .rintro⟨j,o⟩;rcases ai.mp j with q|q
     .exact⟨q,o⟩
     .rw[aj.mp q]at o;exact absurd o X)
 rw[aG,dM]at h1 h1l;have zl:(iL.filter λr=>decide (vc r a=0)).length<=iL.length:=fE _ _;let B:=iL.filter λr=>decide (0<vc r a);let s:=iL.filter λr=>decide (vc r a<0);have mp:∀x,x∈B↔x∈iL/\0<vc x a:=λx=>by show x∈List.filter _ _↔_;simp
 have mn:∀x,x∈s↔x∈iL/\vc x a<0:=λx=>by show x∈List.filter _ _↔_;simp
 have pl:B.length<=iL.length:=fE _ _;have nl:s.length<=iL.length:=fE _ _;obtain⟨J,hJ⟩:∃J:LI×LI->LI,∀p∈(B.flatMap λx=>s.map λy=>(x,y)),jr c [tI p.1,tI p.2,.int (a:Int)]=.ok (tI (J p))/\Jn a p.1 p.2 (J p)/\∀i∈J p,Bn (2*N+1) i:=n8 (P:=λ(p:LI×LI) (r:LI)=>jr c [tI p.1,tI p.2,.int (a:Int)]=.ok (tI r)/\Jn a p.1 p.2 r/\∀i∈r,Bn (2*N+1) i) _ λp hp=>by obtain⟨x,U,hp⟩:=fG.mp hp;obtain⟨y,hy,rfl⟩:=aD.mp hp;obtain⟨x1,x2⟩:=(mp x).mp U;obtain⟨y1,y2⟩:=(mn y).mp hy;exact IW (c:=c) N x y a (by rw[(hr x x1).1];exact ha) (by rw[(hr x x1).1,(hr y y1).1]) (by rw[(hr x x1).1];exact hL) hN (hr x x1).2 (hr y y1).2 x2 y2
 have Q:∀x∈B,∀y∈s,jr c [tI x,tI y,.int (a:Int)]=.ok (tI (J (x,y)))/\Jn a x y (J (x,y))/\∀i∈J (x,y),Bn (2*N+1) i:=λx U y hy=>hJ (x,y) (fG.mpr ⟨x,U,aD.mpr ⟨y,hy,rfl⟩⟩);have ePs:∀K:En,K[0]? = some (some (.p (.lst (iL.map tI))))->K[2]? = some (some (.p (.int (a:Int))))->True:=λ_ _ _=>trivial;have H:∀(x:LI),x∈B->∀(f:List (LI×T)) (v x7 x8:Option W),f.length+s.length<=9000000->∃(b:List (LI×T)) (E D:Option W),jU (j6 7) (wX c) (s.map tI) (A f v (some (.p (tI x))) x7 x8)=.nx (A b v (some (.p (tI x))) E D)/\
   (∀r,r∈b.map Prod.fst↔r∈f.map Prod.fst\/∃y∈s,r=J (x,y)/\Ih d (J (x,y))<=l)/\b.length<=f.length+s.length:=by
  intro x U f v x7 x8 hsz;obtain⟨ρ2,e2,b,E,D,rfl,h2,h2l⟩:=jP (m:=j6 7) (g:=wX c) tI
   (λk K=>∃(b:List (LI×T)) (E D:Option W),K=A b v (some (.p (tI x))) E D/\(∀r,r∈b.map Prod.fst↔r∈f.map Prod.fst\/∃y∈s.take k,r=J (x,y)/\Ih d (J (x,y))<=l)/\b.length<=f.length+k)
   s 0 (A f v (some (.p (tI x))) x7 x8) ⟨f,x7,x8,rfl,λr=>by simp,aK _⟩ (by
    rintro k y K F ⟨b,E,D,rfl,h,hk⟩;rw[aG]at h hk ⊢;have Z:=au F;have hkr:k<s.length:=(aa.mp F).1;have S:s.take (k+1)=s.take k++[y]:=jJ s k y F;obtain⟨f1,f2,f3⟩:=Q x U y Z;have sl:j7 (gJ 8) (jo eB) (λ_=>.ok none) (vw (A b v (some (.p (tI x))) (some (.p (tI y))) (some (.p (tI (J (x,y)))))))=.ok (tI ((J (x,y)).drop (d+1))):=uM (J (x,y)) d rfl rfl;have lenJ:(J (x,y)).length=L:=by rw[f2.len,(hr x ((mp x).mp U).1).1]
    have lc:kh [none] (jh (j7 (gJ 8) (jo eB) (λ_=>.ok none))) bP dL (wQ c) (vw (A b v (some (.p (tI x))) (some (.p (tI y))) (some (.p (tI (J (x,y)))))))=.ok ((((J (x,y)).drop (d+1)).filter λw=>w != 0).map T.int):=nO ((J (x,y)).drop (d+1)) T.int T.int (λw=>w != 0) (Qb sl) (by simp;lia) (λw hw=>⟨_,rfl,g9 (gN rfl rfl (by rw[lq];rfl)),λ_=>rfl⟩) rfl
    have Y:iD (gW Mw (kg kH (gI (jy (kh [none] (jh (j7 (gJ 8) (jo eB) (λ_=>.ok none))) bP dL (wQ c))) gM)) bm) (vw (A b v (some (.p (tI x))) (some (.p (tI y))) (some (.p (tI (J (x,y)))))))=.ok (decide (Ih d (J (x,y))<=l)):=by
     refine g9 (gN (x:=.int (Ih d (J (x,y)):Int)) (y:=.int (l:Int)) (mZ (iV lc) (by simp[Ih])) rfl ?_);rw[CY];by_cases q:Ih d (J (x,y))<=l
     .rw[aC q,aC (by lia)]
     .rw[aB q,aB (by lia)]
    have st1:setO 8 (ju (gS (gI dd (gI im bc)) (jr c))) (A b v (some (.p (tI x))) (some (.p (tI y))) D)=.nx (A b v (some (.p (tI x))) (some (.p (tI y))) (some (.p (tI (J (x,y)))))):=gY (kr rfl rfl rfl f1) rfl;by_cases q:Ih d (J (x,y))<=l
    .refine⟨_,_,rfl,.inl (gP st1 (i9 (by rw[Y,aC q]) (HA (k:=J (x,y)) (t:=.bl true) rfl rfl rfl rfl (by lia)))),tH b (J (x,y)) (.bl true),some (.p (tI y)),some (.p (tI (J (x,y)))),rfl,λr=>?_,aN (GW _ _ _) (by lia)⟩;rw[G7,h,S];constructor
     .rintro ((j|⟨y',j,o⟩)|rfl)
      .exact .inl j
      .exact .inr ⟨y',ax _ j,o⟩
      .exact .inr ⟨y,by simp,rfl,q⟩
     .rintro (j|⟨y',j,o⟩)
      .exact .inl (.inl j)
      .rcases ai.mp j with R|R
       .exact .inl (.inr ⟨y',R,o⟩)
       .rw[aj.mp R]at o;exact .inr o.1
    .refine⟨_,_,rfl,.inl (gP st1 (iF (by rw[Y,aB q]) rfl)),b,some (.p (tI y)),some (.p (tI (J (x,y)))),rfl,λr=>?_,by lia⟩;rw[h,S];constructor
     .rintro (j|⟨y',j,o⟩)
      .exact .inl j
      .exact .inr ⟨y',ax _ j,o⟩
     .rintro (j|⟨y',j,o⟩)
      .exact .inl j
      .rcases ai.mp j with R|R
       .exact .inr ⟨y',R,o⟩
       .rw[aj.mp R]at o;exact absurd o.2 q)
  rw[aG,dM]at h2;rw[aG]at h2l;exact⟨b,E,D,e2,h2,h2l⟩
 have sq:iL.length*iL.length<=2000*2000:=fH hrl hrl;obtain⟨ρ3,e3,kvs3,y6,E,D,rfl,h3,h3l⟩:=jP (m:=j6 6) (g:=Bz c) tI
  (λk K=>∃(f:List (LI×T)) (y6 E D:Option W),K=A f v y6 E D/\(∀r,r∈f.map Prod.fst↔(r∈iL/\vc r a=0)\/∃x∈B.take k,∃y∈s,r=J (x,y)/\Ih d (J (x,y))<=l)/\f.length<=(iL.filter λr=>decide (vc r a=0)).length+k*s.length)
  B 0 (A C v none none none) ⟨C,none,none,none,rfl,λr=>by rw[h1];simp,by rw[Nat.zero_mul];exact h1l⟩ (by
   rintro k x K F ⟨f,y6,E,D,rfl,h,hk⟩;rw[aG]at h hk ⊢;have Z:=au F;have hkr:k<B.length:=(aa.mp F).1;have S:B.take (k+1)=B.take k++[x]:=jJ B k x F;have kn:(k+1)*s.length<=iL.length*iL.length:=fH (by lia) nl;have kn':(k+1)*s.length=k*s.length+s.length:=b7 _ _;obtain⟨b,z7,z8,e,h',hl'⟩:=H x Z f v E D (by lia);have it:jh (jy (kh [none,some 2] fm bP (iD (gW EU ei ac)) (wZ c))) (nQ (A f v (some (.p (tI x))) E D))=.ok (s.map tI):=by
    have:kh [none,some 2] fm bP (iD (gW EU ei ac)) (wZ c) (nQ (A f v (some (.p (tI x))) E D))=.ok (s.map tI):=nO iL tI tI (λr=>decide (vc r a<0)) rfl (by lia) (λr u=>⟨_,rfl,g9 (gN (gN rfl rfl (I r u)) rfl (by rw[rK])),λ_=>rfl⟩) rfl
    simp only[jh,jy,this,M.bind_ok]
   refine⟨_,_,rfl,.inl (jK it e),b,some (.p (tI x)),z7,z8,rfl,λr=>?_,by lia⟩;rw[h',h,S];constructor
   .rintro ((j|⟨x',j,o⟩)|⟨y,j,o⟩)
    .exact .inl j
    .exact .inr ⟨x',ax _ j,o⟩
    .exact .inr ⟨x,by simp,y,j,o⟩
   .rintro (j|⟨x',j,y,o,R⟩)
    .exact .inl (.inl j)
    .rcases ai.mp j with q4|q4
     .exact .inl (.inr ⟨x',q4,y,o,R⟩)
     .rw[aj.mp q4]at R;exact .inr ⟨y,o,R⟩)
 rw[aG,dM]at h3;rw[aG]at h3l;have it:jh (jy (kh [none,some 2] fm bP (iD (gW BY ei ac)) (wF c))) (nQ (A C v none none none))=.ok (B.map tI):=by
  have:kh [none,some 2] fm bP (iD (gW BY ei ac)) (wF c) (nQ (A C v none none none))=.ok (B.map tI):=nO iL tI tI (λr=>decide (0<vc r a)) rfl (by lia) (λr u=>⟨_,rfl,g9 (gN (gN rfl rfl (I r u)) rfl (by rw[uh])),λ_=>rfl⟩) rfl
  simp only[jh,jy,this,M.bind_ok]
 have kl:B.length*s.length<=iL.length*iL.length:=fH pl nl;refine⟨kvs3.map Prod.fst,?_,⟨λr u=>?_,λr u=>?_⟩,λm Z hrm=>?_,λr u X=>(h3 r).mpr (.inl ⟨u,X⟩),λx U y hy px ny=>⟨J (x,y),(Q x ((mp x).mpr ⟨U,px⟩) y ((mn y).mpr ⟨hy,ny⟩)).2.1,λq=>(h3 _).mpr (.inr ⟨x,(mp x).mpr ⟨U,px⟩,y,(mn y).mpr ⟨hy,ny⟩,rfl,q⟩)⟩⟩
 .refine nG rfl (gP (ρ':=A [] none none none none) rfl (gP (jK rfl e1) (gP (jK it e3) ?_)));show O.rf _=O.rf _;rw[aI];rfl
 .rcases (h3 r).mp u with q|⟨x,qx,y,qy,rfl,_⟩
  .exact .inl q
  .exact .inr ⟨x,((mp x).mp qx).1,y,((mn y).mp qy).1,((mp x).mp qx).2,((mn y).mp qy).2,(Q x qx y qy).2.1⟩
 .rcases (h3 r).mp u with q|⟨x,qx,y,qy,rfl,_⟩
  .exact λi F=>((hr r q.1).2 i F).mono (by lia)
  .exact (Q x qx y qy).2.2
 .have cnt3:(iL.filter λr=>decide (vc r a=0)).length+B.length+s.length=iL.length:=by
   show (List.filter _ _).length+(List.filter _ _).length+(List.filter _ _).length=_;clear hrl hr I A e1 h1 h1l hJ Q H sq e3 h3 h3l it kl mp mn pl nl zl hrm ePs;induction iL with
   |nil=>rfl
   |cons r iL ih=>
    simp only[List.filter_cons,ay];rcases fJ (vc r a) 0 with q|q|q
    .have j:¬vc r a=0:=by lia
     have o:¬0<vc r a:=by lia
     simp only[q,j,o,decide_true,decide_false,if_true,if_false,ay,cj];lia
    .have j:¬vc r a<0:=by lia
     have o:¬0<vc r a:=by lia
     simp only[q,j,o,decide_true,decide_false,if_true,if_false,ay,cj];simp only[Int.lt_irrefl,decide_false,if_false,cj];lia
    .have j:¬vc r a<0:=by lia
     have o:¬vc r a=0:=by lia
     simp only[q,j,o,decide_true,decide_false,if_true,if_false,ay,cj];lia
  rw[aw];generalize (iL.filter λr=>decide (vc r a=0)).length=z at *;generalize B.length=p at *;generalize s.length=n at *;refine aN (fj 4 h3l) ?_;have a1:4*(p*n)<=(p+n)*(p+n):=by
   have h1:(4*(p*n):Int)<=((p:Int)+n)*(p+n):=by
    have:0<=((p:Int)-n)*(p-n):=by
     rcases Int.le_total (p:Int) n with q|q
     .exact Int.mul_nonneg_of_nonpos_of_nonpos (by lia) (by lia)
     .exact aP (by lia) (by lia)
    grind
   have:((4*(p*n):Nat):Int)<=(((p+n)*(p+n):Nat):Int):=by push_cast;exact h1
   exact Int.ofNat_le.mp this
  have a2:4*z+(p+n)*(p+n)<=m*m:=by
   have e:∃k,m=z+(p+n)+k:=⟨m-(z+(p+n)),by lia⟩;obtain⟨k,rfl⟩:=e;have e2:(z+(p+n)+k)*(z+(p+n)+k)=(p+n)*(p+n)+(z+k)*(z+k+2*(p+n)):=by grind
   rw[e2];have:4*z<=(z+k)*(z+k+2*(p+n)):=by
    by_cases X:z+k+2*(p+n)<4
    .grind
    .have:=fH (cw z k) (show 4<=z+k+2*(p+n) by lia);lia
   lia
  lia
structure VN(d k j a:Nat)(G G':LL):Prop where
 from_:∀r∈G',(r∈G/\vc r a=0)\/∃x∈G,∃y∈G,0<vc x a/\vc y a<0/\Jn a x y r
 stay:∀r∈G,vc r a=0->r∈G'
 join:∀x∈G,∀y∈G,0<vc x a->vc y a<0->∃r,Jn a x y r/\(Ih d r<=j+2+k->r∈G')
inductive HS(d k:Nat):Nat->LL->List Nat->List (LL)->Prop
 |nil {j:Nat} {G:LL}:HS d k j G [] [G]
 |cons {j a:Nat} {G G':LL} {pls:List Nat} {ls:List (LL)}:VN d k j a G G'->HS d k (j+1) G' pls ls->HS d k j G (a::pls) (G::ls)
def HS.snoc{d k j:Nat}{i G g:LL}{f:List Nat}{e:List (LL)}{a:Nat}(h:HS d k j i f (e++[G]))(s:VN d k (j+f.length) a G g):HS d k j i (f++[a]) (e++[G,g]):=by
 generalize b:e++[G]=m at h;induction h generalizing e with
 |nil=>
  rename_i j l;cases e with
  |nil=>simp at b;subst b;exact .cons s .nil
  |cons x e=>simp at b
 |cons s' h' ih=>
  cases e with
  |nil=>simp at b;obtain⟨rfl,rfl⟩:=b;cases h'
  |cons x e=>simp at b;obtain⟨rfl,b⟩:=b;refine .cons s' (ih ?_ b);rw[ay]at s;rw[Nat.add_assoc,Nat.add_comm 1];exact s
noncomputable def Nb(N:Nat):Nat->Nat
 |0=>N
 |j+1=>2*Nb N j+1
noncomputable def Mb:Nat->Nat
 |0=>8
 |j+1=>Mb j*Mb j / 4
def CD N (h:i<=j):Nb N i<=Nb N j:=by
 induction h with
 |refl=>exact aK _
 |step _ ih=>exact aN ih (by show _<=2*Nb N _+1;lia)
def Qn(a:ρ[i]? = some (some (.o us)))(h:f (vw ρ)=.ok ts)(b:JO ts=true)(d:us.length<sizeLine)(hr:ρ'=ρ.set i (some (.o (us++[.lst ts])))):A1 i (AB f) ρ=.nx ρ':=by unfold A1 AB ou;rw[a,h,hr];simp[d,b]
def Dd xs x:iP (.lst (xs++[x])) (.int (-1))=.ok x:=by
 have h:uV (xs++[x]) (-1)=some x:=by
  unfold uV Au;have a:1<=(xs.length:Int)+1:=by lia
  have b:(-1+((xs.length:Int)+1)).toNat=xs.length:=by lia
  simp[a,b]
 simp[iP,h]
def Vi(h:f ρ=.ok a):lstM (gI f gM) ρ=.ok [a]:=K1 (Ib h)
theorem vg(d L N:Nat)(hL:L<1000)(hd:d<L)(iL:LL)(E:iL.length<=8)(hr:∀r∈iL,r.length=L/\∀i∈r,Bn N i)(pv:List (Nat×LI))(hp:pv.length<=100)(b:List Nat)(hpl:b.length<=4)(ha:∀a∈b,a<L)(hN:Nb N b.length<=8000) :
  ∃f,og c [.lst (iL.map tI),.int (d:Int),.lst (b.map λ(j:Nat)=>T.int (j:Int)),.lst (pv.map nB)]=.ok (f.map λg=>T.lst (g.map tI))/\HS d pv.length 0 iL b f/\∀(i:Nat) G,f[i]? = some G->∀r∈G,r.length=L/\∀x∈r,Bn (Nb N i) x:=by
 have sz:1000<sizeLine:=by decide
 let R (f:List (LL)) (v u:Option W):En:=[some (.p (.lst (iL.map tI))),some (.p (.int (d:Int))),some (.p (.lst (b.map λ(j:Nat)=>T.int (j:Int)))),some (.p (.lst (pv.map nB))),some (.o (f.map λg=>T.lst (g.map tI))),v,u];obtain⟨K,e,f,G,v,u,rfl,z,s,D,A⟩:=jP (m:=j6 5) (g:=zh c) (λ(j:Nat)=>T.int (j:Int))
  (λk K=>∃(f:List (LL)) (G:LL) (v u:Option W),K=R (f++[G]) v u/\HS d pv.length 0 iL (b.take k) (f++[G])/\f.length=k/\G.length<=Mb k/\∀(i:Nat) H,(f++[G])[i]? = some H->∀r∈H,r.length=L/\∀x∈r,Bn (Nb N i) x)
  b 0 (R [iL] none none) ⟨[],iL,none,none,rfl,.nil,rfl,E,λi H n=>by
   cases i with
   |zero=>simp at n;subst n;exact hr
   |succ i=>simp at n⟩ (by
   rintro k a K n ⟨f,G,v,u,rfl,z,s,D,A⟩;rw[aG]at z s D ⊢;have Z:=au n;have hk:=(aa.mp n).1;have X:=jJ b k a n;have B:=A k G (by rw[List.getElem?_append_right (by lia),s];simp);have U:Mb k<=1024/\4<=Mb k:=by
    have:k=0\/k=1\/k=2\/k=3:=by lia
    rcases this with rfl|rfl|rfl|rfl<;>decide
   have J:=aN (CD N (show k+1<=b.length by lia)) hN;obtain⟨F,f1,I,f3,f4,f5⟩:=JA d a (k+2+pv.length) (Nb N k) L hL hd (ha a Z) J G (by lia) B;have hlenls:(f++[G]).length=k+1:=by simp[s]
   have step:VN d pv.length (0+(b.take k).length) a G F:=⟨I.from_,f4,λx Q y S px ny=>by obtain⟨r,q1,q2⟩:=f5 x Q y S px ny;refine⟨r,q1,λq=>q2 ?_⟩;rw[bR]at q;lia⟩
   have Y:gW jF (gW jF (kg kH df) ab) (kg kH gn) (vw (R (f++[G]) (some (.p (.int (a:Int)))) u))=.ok (.int ((k+2+pv.length:Nat):Int)):=by refine gN (x:=.int ((k+2:Nat):Int)) (y:=.int (pv.length:Int)) (gN (x:=.int ((k+1:Nat):Int)) (mZ (t:=.lst ((f++[G]).map λg=>T.lst (g.map tI))) rfl (by simp[s])) rfl (by rw[jw];congr 2)) (mZ (t:=.lst (pv.map nB)) rfl (by simp)) (by rw[jw];congr 2)
   have e7:iP (.lst ((f++[G]).map λg=>T.lst (g.map tI))) (.int (-1))=.ok (.lst (G.map tI)):=by rw[aZ];exact Dd _ _
   refine⟨_,_,rfl,.inl (gP (yy Y rfl rfl) (Qn (us:=(f++[G]).map λg=>T.lst (g.map tI)) rfl (ts:=F.map tI) (wD (x:=.lst (G.map tI)) (gN rfl (pM rfl) e7) rfl rfl rfl f1) (P9 _) (by simp[s];lia) rfl)),f++[G],F,some (.p (.int (a:Int))),some (.p (.int ((k+2+pv.length:Nat):Int))),?_,?_,by simp[s],?_,λi H h r l=>?_⟩
   .show List.set _ _ _=_;simp[R]
   .rw[X];have:=z.snoc step;simpa using this
   .have:=f3 (Mb k) U.2 D;show _<=Mb k*Mb k / 4;lia
   .by_cases C:i<(f++[G]).length
    .rw[List.getElem?_append_left C]at h;exact A i H h r l
    .rw[List.getElem?_append_right (by lia)]at h;have P:i-(f++[G]).length=0:=by
      rcases c6 (i-(f++[G]).length) with q|q
      .exact q
      .rw[List.getElem?_eq_none (by simp;lia)]at h;cases h
     rw[P]at h;simp at h;subst h;have w:i=k+1:=by lia
     subst w;refine⟨?_,I.bn r l⟩;rcases I.from_ r l with q|⟨x,Q,y,S,_,_,hj⟩
     .exact (B r q.1).1
     .rw[hj.len];exact (B x Q).1)
 rw[aG,dM]at z;exact⟨f++[G],nG rfl (gP (nY (ts:=[.lst (iL.map tI)]) (Vi rfl) rfl) (gP (jK rfl e) rfl)),z,A⟩
end CL
namespace CL
def Cn.posQ{f:Vc->Rat}(k:∀x y z (s a b:Int),(∀i,s*z i=a*x i+b*y i)->(s:Rat)*f z=(a:Rat)*f x+(b:Rat)*f y)(m:∀x,P x->0<f x)(h:Cn P z):0<f z:=by
 induction h with
 |of h=>exact m _ h
 |lin _ _ hs ha hb hab e i1 i2=>
  rename_i x y z s a b _ _;have q:=k _ _ _ _ _ _ e;have j:(0:Rat)<(s:Rat):=j3 hs;have:0<(a:Rat)*f x+(b:Rat)*f y:=by
   by_cases n:a=0
   .subst n;have d:(0:Rat)<(b:Rat):=j3 (by lia);have:=eQ d i2;simp;grind
   .have g:(0:Rat)<(a:Rat):=j3 (by lia);have p:=eQ g i1;by_cases l:b=0
    .subst l;simp;grind
    .have d:(0:Rat)<(b:Rat):=j3 (by lia);have o:=eQ d i2;grind
  rw[<-q]at this;refine fK (c:=(s:Rat)) ?_ (eR j);simpa using this
noncomputable def Lt(m:Nat)(g:Nat->Vc)(t:Vc):Vc:=λq=>sm m λj=>t j*g j q
def ND(h:∀i,s*z i=a*x i+b*y i) q:s*Lt m g z q=a*Lt m g x q+b*Lt m g y q:=by unfold Lt;rw[<-mC,<-uX];refine ko m _ _ λi _=>?_;rw[<-cS,h i];grind
def My m g t p:j4 m (λi=>g i p) t=Lt m g t p:=by unfold j4 Lt;exact ko m _ _ λi _=>cT _ _
noncomputable def rG(i:Nat):Vc:=λj=>if j=i then 1 else 0
def yC m g i (a:i<m) q:Lt m g (rG i) q=g i q:=by unfold Lt rG;exact B8 m i (λj=>g j q) a
def BC m:∀n u,cs m u<=n->l9 m [] u->Cn (λx=>∃i,i<m/\x=rG i) u:=by
 intro n;induction n with
 |zero=>
  intro u g c;obtain⟨i,e⟩:=c.ne;have d:i<m:=by
   rcases eF i m with h|h
   .exact h
   .exact absurd (c.out i h) e
  have:=Ey (m:=m) (u:=λ_=>0) (v:=u) (λ_ _ _=>rfl) d e rfl;lia
 |succ n ih=>
  intro u g c;obtain⟨i,e⟩:=c.ne;have d:i<m:=by
   rcases eF i m with h|h
   .exact h
   .exact absurd (c.out i h) e
  have B:0<u i:=by have:=c.nn i;lia
  by_cases f:∃j,j≠i/\u j≠0
  .obtain⟨j,w,p⟩:=f;have r:l9 m [] (λk=>if k=i then 0 else u k):=⟨λk=>by split;exact eD _;exact c.nn k,λk y=>by split;rfl;exact c.out k y,⟨j,by simp[w,p]⟩,λA o=>nomatch o⟩;have l:=Ey (m:=m) (u:=λk=>if k=i then 0 else u k) (v:=u) (λk _ z=>by split;rfl;exact z) d e (by simp);refine .lin (s:=1) (a:=u i) (b:=1) (.of ⟨i,d,rfl⟩) (ih _ (by lia) r) (by decide) (by lia) (by decide) (by lia) λk=>?_;unfold rG;by_cases q:k=i
   .subst q;simp
   .simp[q]
  .refine .lin (s:=1) (a:=u i) (b:=0) (.of ⟨i,d,rfl⟩) (.of ⟨i,d,rfl⟩) (by decide) (by lia) (by decide) (by lia) λk=>?_;unfold rG;by_cases q:k=i
   .subst q;simp
   .have:u k=0:=aO λz=>f ⟨k,q,z⟩;simp[q,this]
theorem tY{d:Type}[DecidableEq d]:∀{l m:List d},l.Nodup->(∀x∈l,x∈m)->l.length<=m.length
 |[],_,_,_=>bL _
 |a::l,m,nd,h=>by
  obtain⟨e,f⟩:=bO.mp nd;have b:a∈m:=h a (by simp);have:=tY (m:=m.erase a) f λx c=>by have ne:x≠a:=λz=>e (z▸c);exact (List.mem_erase_of_ne ne).mpr (h x (by simp[c]))
  rw[dW b]at this;have:0<m.length:=fL b;simp only[ay];lia
structure Jv(d n:Nat)(ss ix:List Nat)(sd:LL):Prop where
 len:sd.length=ss.length
 nd:ss.Nodup
 lt:∀i∈ss,i<n
 l:∀r∈sd,r.length=d+1+n
 own:∀j,j<sd.length->vc (sd.getD j []) (d+1+ss.getD j 0)≠0
 oth:∀j,j<sd.length->∀i,i∉ix->i≠ss.getD j 0->vc (sd.getD j []) (d+1+i)=0
def Rk(a:LL)(b:List Vc)(G:LL)(t:Vc):Prop:=l9 a.length b t/\∃r∈G,∃s:Int,0<s/\∀q,s*vc r q=Lt a.length (λj=>vc (a.getD j [])) t q
def Sl(h:Jv d n ss ix sd)(m:r.length=d+1+n)(x:0<s)(e:∀q,s*vc r q=Lt sd.length (λj=>vc (sd.getD j [])) t q):Ih d r<=cs sd.length t+ix.length:=by
 let A:=((List.range sd.length).filter λj=>decide (t j≠0)).map λj=>ss.getD j 0;have l:A.length=cs sd.length t:=by show (List.map _ _).length=_;rw[aw];unfold cs;rw[eJ]
 let I:=(List.range n).filter λi=>decide (vc r (d+1+i)≠0);have u:Ih d r=I.length:=by
  unfold Ih;have:r.drop (d+1)=(List.range n).map λi=>vc r (d+1+i):=by refine fM (by simp[m]) λi v w=>?_;simp at v;rw[List.getElem_drop,dN,fN,ke r (d+1+i) (by lia)]
  rw[this,List.filter_map,aw];congr 2;funext i;simp[bne];rfl
 rw[u,<-l,<-aT];refine tY (List.Pairwise.filter _ eK) λi o=>?_;have b:i<n/\vc r (d+1+i)≠0:=by have:i∈List.filter _ _:=o;simpa using this
 refine aO λa=>b.2 ?_;have k:i∉A:=λz=>a (ax _ z);have p:i∉ix:=λz=>a (bF _ z);refine rR (g:=s) (by lia) ?_;rw[e];show sm sd.length (λj=>t j*vc (sd.getD j []) (d+1+i))=0;rw[ko sd.length _ (λ_=>0) λj f=>?_,yq];by_cases c:t j=0
 .rw[c,dR]
 .have:i≠ss.getD j 0:=λz=>k (by show i∈List.map _ _;exact aD.mpr ⟨j,aU.mpr ⟨aS.mpr f,by simpa using c⟩,z.symm⟩)
  rw[h.oth j f i p this,dO]
def JG{d n:Nat}{ss ix:List Nat}{c:LL}(h:Jv d n ss ix c){a:Nat}{C:List Vc}{G Y:LL}(U:∀r∈G,r.length=d+1+n/\∃t,l9 c.length C t/\∃s:Int,0<s/\∀q,s*vc r q=Lt c.length (λj=>vc (c.getD j [])) t q)
  (gen:∀u,l9 c.length C u->Cn (Rk c C G) u) (st:VN d ix.length C.length a G Y) :
  (∀r∈Y,r.length=d+1+n/\∃t,l9 c.length ((λj=>vc (c.getD j []) a)::C) t/\∃s:Int,0<s/\∀q,s*vc r q=Lt c.length (λj=>vc (c.getD j [])) t q)/\
  ∀u,l9 c.length ((λj=>vc (c.getD j []) a)::C) u->Cn (Rk c ((λj=>vc (c.getD j []) a)::C) Y) u:=by
 let A:Vc:=λj=>vc (c.getD j []) a;have la:∀t,j4 c.length A t=Lt c.length (λj=>vc (c.getD j [])) t a:=λt=>My c.length (λj=>vc (c.getD j [])) t a;have F:∀{x y r:LI} {t f:Vc} {s H:Int},0<s->0<H->(∀q,s*vc x q=Lt c.length (λj=>vc (c.getD j [])) t q)->(∀q,H*vc y q=Lt c.length (λj=>vc (c.getD j [])) f q)->Jn a x y r->
   ∃L:Int,0<L/\∀q,L*vc r q=Lt c.length (λj=>vc (c.getD j [])) (λi=>(-j4 c.length A f)*t i+j4 c.length A t*f i) q:=by
  intro x y r t f s H o p e J I;obtain⟨g,hg,v⟩:=I.ex;refine⟨s*H*g,aX (aX o p) hg,λq=>?_⟩;have l1:=ND (m:=c.length) (g:=λj=>vc (c.getD j [])) (x:=t) (y:=f) (z:=λi=>(-j4 c.length A f)*t i+j4 c.length A t*f i) (s:=1) (a:=-j4 c.length A f) (b:=j4 c.length A t) (λi=>by grind) q;rw[dJ]at l1;rw[l1,la,la,<-e a,<-J a,<-e q,<-J q];have:=v q;calc s*H*g*vc r q=s*H*(g*vc r q):=by grind
   _=s*H*(-vc y a*vc x q+vc x a*vc y q):=by rw[this]
   _=_:=by grind
 have E:∀{t f:Vc},l9 c.length C t->l9 c.length C f->0<j4 c.length A t->j4 c.length A f<0->l9 c.length (A::C) (λi=>(-j4 c.length A f)*t i+j4 c.length A t*f i):=by
  intro t f R Z S p2;have lin:∀B,j4 c.length B (λi=>(-j4 c.length A f)*t i+j4 c.length A t*f i)=(-j4 c.length A f)*j4 c.length B t+j4 c.length A t*j4 c.length B f:=λB=>by have:=rP (m:=c.length) (A:=B) (x:=t) (y:=f) (z:=λi=>(-j4 c.length A f)*t i+j4 c.length A t*f i) (s:=1) (a:=-j4 c.length A f) (b:=j4 c.length A t) (λi=>by grind);simpa using this
  obtain⟨j,I⟩:=R.ne;have q1:0 < -j4 c.length A f:=by lia
  refine⟨λi=>?_,λi hi=>?_,⟨j,?_⟩,λB D=>?_⟩
  .have x1:=aP (aA q1) (R.nn i);have x2:=aP (aA S) (Z.nn i);lia
  .rw[R.out i hi,Z.out i hi];simp
  .have gj:0<t j:=by have:=R.nn j;lia
   have x1:=aX q1 gj;have x2:=aP (aA S) (Z.nn j);lia
  .rw[lin B];rcases aF.mp D with rfl|D
   .grind
   .rw[R.eq B D,Z.eq B D];simp
 have k:∀{r:LI} {t:Vc} {s:Int},0<s->(∀q,s*vc r q=Lt c.length (λj=>vc (c.getD j [])) t q)->(0<vc r a↔0<j4 c.length A t)/\(vc r a<0↔j4 c.length A t<0)/\(vc r a=0↔j4 c.length A t=0):=λ{r t s} o e=>by
  rw[la,<-e a];refine⟨⟨λq=>aX o q,λq=>?_⟩,⟨λq=>eM o q,λq=>?_⟩,⟨λq=>by rw[q,dO],λq=>rR (by lia) q⟩⟩
  .exact fO (a:=s) (by simpa using q) (aA o)
  .exact fO (a:=s) (by simpa using q) (aA o)
 refine⟨λr hr=>?_,λu hu=>?_⟩
 .rcases st.from_ r hr with⟨h1,N⟩|⟨x,Q,y,hy,px,ny,I⟩
  .obtain⟨l,t,w,s,o,e⟩:=U r h1;exact⟨l,t,⟨w.nn,w.out,w.ne,λB D=>by
    rcases aF.mp D with rfl|D
    .exact (k o e).2.2.mp N
    .exact w.eq B D⟩,s,o,e⟩
  .obtain⟨l,t,w,s,o,e⟩:=U x Q;obtain⟨_,f,K,H,p,J⟩:=U y hy;obtain⟨L,N,X⟩:=F o p e J I;exact⟨by rw[I.len,l],_,E w K ((k o e).1.mp px) ((k p J).2.1.mp ny),L,N,X⟩
 .refine Ru (A:=A) (P:=Rk c C G) (P':=Rk c (A::C) Y) (λx Q=>Q.1) gen (λt ⟨w,r,hr,s,o,e⟩ h0=>?_) (λt f ⟨w,x,Q,s,o,e⟩ ⟨K,y,hy,H,p,J⟩ S p2 hcs=>?_) (cs c.length u) u (aK _) hu
  .exact⟨⟨w.nn,w.out,w.ne,λB D=>by
    rcases aF.mp D with rfl|D
    .exact h0
    .exact w.eq B D⟩,r,st.stay r hr ((k o e).2.2.mpr h0),s,o,e⟩
  .obtain⟨r,I,hk⟩:=st.join x Q y hy ((k o e).1.mpr S) ((k p J).2.1.mpr p2);obtain⟨L,N,X⟩:=F o p e J I;have rl:r.length=d+1+n:=by rw[I.len,(U x Q).1]
   have cl:=Sl h rl N X;exact⟨E w K S p2,r,hk (by lia),L,N,X⟩
end CL
namespace CL
open PySem L2 L3
variable {c:Cs}
noncomputable def pT:Nat->(Nat->Rat)->Rat
 |0,_=>0
 |n+1,f=>f 0+pT n λi=>f (i+1)
theorem jV:∀n f g,(∀i,i<n->f i=g i)->pT n f=pT n g
 |0,_,_,_=>rfl
 |n+1,f,g,h=>by unfold pT;rw[h 0 (by lia),jV n _ _ λi a=>h (i+1) (by lia)]
theorem rE a b:∀n f g,pT n (λi=>a*f i+b*g i)=a*pT n f+b*pT n g
 |0,_,_=>by unfold pT;grind
 |n+1,f,g=>by unfold pT;rw[rE a b n (λi=>f (i+1)) λi=>g (i+1)];grind
theorem yY:∀n:Nat,pT n (λ_=>0)=0
 |0=>rfl
 |n+1=>by unfold pT;rw[yY n];grind
def Pb(x X:Nat->Rat) v:∀n a,a<n->pT n (λi=>x i*(if i=a then v else X i))=pT n (λi=>x i*X i)+x a*(v-X a):=by
 intro n;induction n generalizing x X with
 |zero=>intro a h;cases h
 |succ n ih=>
  intro a b;unfold pT;cases a with
  |zero=>
   have:pT n (λi=>x (i+1)*(if i+1=0 then v else X (i+1)))=pT n (λi=>x (i+1)*X (i+1)):=jV n _ _ λi _=>by simp
   rw[this];simp;grind
  |succ a=>
   have:=ih (λi=>x (i+1)) (λi=>X (i+1)) a (by lia);have e:pT n (λi=>x (i+1)*(if i+1=a+1 then v else X (i+1)))=pT n (λi=>x (i+1)*(if i=a then v else X (i+1))):=jV n _ _ λi _=>by simp
   rw[e,this];simp;grind
noncomputable def jk(d:Nat)(X:Nat->Rat)(x:Vc):Rat:=pT d (λp=>(x p:Rat)*X p)-(x d:Rat)
def qm(x y z:Vc) s a b (h:∀i,s*z i=a*x i+b*y i):(s:Rat)*jk d X z=(a:Rat)*jk d X x+(b:Rat)*jk d X y:=by
 have f:∀i,s*(z i)=a*(x i)+b*(y i:Rat):=λi=>by
  have:=h i;have e:((s*z i:Int):Rat)=((a*x i+b*y i:Int):Rat):=by rw[this]
  simpa using e
 unfold jk;have k:(s:Rat)*pT d (λp=>(z p:Rat)*X p)=(a:Rat)*pT d (λp=>(x p:Rat)*X p)+(b:Rat)*pT d (λp=>(y p:Rat)*X p):=by
  have:=rE (s:Rat) 0 d (λp=>(z p:Rat)*X p) (λ_=>0);have j:=rE (a:Rat) (b:Rat) d (λp=>(x p:Rat)*X p) (λp=>(y p:Rat)*X p);have g:pT d (λi=>(s:Rat)*((z i:Rat)*X i)+0*0)=pT d (λi=>(a:Rat)*((x i:Rat)*X i)+(b:Rat)*((y i:Rat)*X i)):=jV d _ _ λi _=>by have:=f i;grind
  rw[g,j]at this;grind
 have:=f d;grind
def tR(b:a<d) X v x:jk d (λq=>if q=a then v else X q) x=jk d X x+(x a:Rat)*(v-X a):=by unfold jk;have:=Pb (λi=>(x i)) X v d a b;rw[this];grind
def oB(h:∀p,p<d->x p=0):jk d X x = -(x d:Rat):=by
 unfold jk;have e:pT d (λp=>(x p)*X p)=0:=by rw[jV d _ (λ_=>0) λp a=>by rw[h p a];simp];exact yY d
 rw[e];grind
noncomputable def Xs(s:List (Int×Int)):Nat->Rat:=λq=>qv (s.getD q (0,1))
def JX s a f (b:a<s.length):Xs (s.set a f)=λq=>if q=a then qv f else Xs s q:=by
 funext q;unfold Xs;rw[af,List.getElem?_set];by_cases h:q=a
 .subst h;simp[b]
 .rw[aR (λz=>h z.symm),aR h,af]
def Wa:qv (0,1)=0:=by unfold qv;simp;grind
def zp d:∀s row,s.length=d->d<=row.length->Jq row s=pT d (λp=>(vc row p:Rat)*Xs s p):=by
 induction d with
 |zero=>intro s row a _;have:=fP.mp a;subst this;simp[Jq,pT]
 |succ d ih=>
  intro s row a b;cases s with
  |nil=>cases a
  |cons p s=>
   cases row with
   |nil=>simp at b
   |cons x row=>have:=ih s row (by simpa using a) (by simpa using b);unfold Jq at this ⊢;rw[fQ,bI,eT,this];rfl
def qS(d:Nat)(X:Nat->Rat)(a:Nat)(r:LI):Rat:=-(jk d X (vc r)) / (vc r a:Rat)
structure QH(d:Nat)(X:Nat->Rat)(a E:Nat)(G:LL)(lo hi:Option (Int×Int)):Prop where
 l:Oe E lo
 h:Oe E hi
 lo1:∀r∈G,0<vc r a->∃p,lo=some p/\qS d X a r<=qv p
 lo2:∀p,lo=some p->∃r∈G,0<vc r a/\qv p=qS d X a r/\Cu.G p.1 p.2=1
 hi1:∀r∈G,vc r a<0->∃p,hi=some p/\qv p<=qS d X a r
 hi2:∀p,hi=some p->∃r∈G,vc r a<0/\qv p=qS d X a r/\Cu.G p.1 p.2=1
def zx(h:fc ρ=.ok false)(a:fd ρ=.ok b):L3.rV fc fd ρ=.ok b:=by simp only[L3.rV,h,a,M.bind_ok];rfl
def Nu(h:fc ρ=.ok true):L3.rV fc fd ρ=.ok true:=by simp only[L3.rV,h,M.bind_ok];rfl
def GN(a:0<p.2/\Bn E p.1/\Bn E p.2)(hr:0<r.2/\Bn E r.1/\Bn E r.2)(b:E<=8000):lT c [fr p,fr r]=.ok (.bl (decide (qv p<qv r))):=zH a.1 hr.1 (a.2.1.ok hr.2.2 (by lia) (by lia)) (hr.2.1.ok a.2.2 (by lia) (by lia))
theorem zG(d a N L:Nat)(hL:d<L)(had:a<d)(hd:d<=10)(h1:1<=N)(s:List (Int×Int))(hs:s.length=d)(hq:∀p∈s,Fq p)(hE:N+wts s+20<=8000)(G:LL)(hG:∀r∈G,r.length=L/\∀x∈r,Bn N x) :
  ∃u n,ni c [.lst (G.map tI),.int (a:Int),.lst (s.map fr)]=.ok (.tup [oT u,oT n])/\QH d (Xs s) a (N+wts s+20) G u n:=by
 let R (u n:Option (Int×Int)) (P D:Option W):En:=[some (.p (.lst (G.map tI))),some (.p (.int (a:Int))),some (.p (.lst (s.map fr))),some (.p (oT u)),some (.p (oT n)),P,D];obtain⟨X,e,u,n,P,D,rfl,hI⟩:=jP (m:=j6 5) (g:=yX c) tI
  (λk X=>∃(u n:Option (Int×Int)) (P D:Option W),X=R u n P D/\QH d (Xs s) a (N+wts s+20) (G.take k) u n)
  G 0 (R none none none none) ⟨none,none,none,none,rfl,⟨(λ_ z=>nomatch z),(λ_ z=>nomatch z),λr hr=>by simp at hr,(λ_ z=>nomatch z),λr hr=>by simp at hr,(λ_ z=>nomatch z)⟩⟩ (by
   rintro k r X v ⟨u,n,P,D,rfl,I⟩;rw[aG]at I ⊢;have hm:=au v;have Z:=jJ G k r v;obtain⟨rl,rb⟩:=hG r hm;have H:iP (tI r) (.int (a:Int))=.ok (.int (vc r a)):=kz r a (by lia);by_cases Y:vc r a=0
   .refine⟨_,_,rfl,.inl (iF (g9 (gN (gN rfl rfl H) rfl (by rw[lq,Y];rfl))) rfl),u,n,some (.p (tI r)),D,rfl,?_⟩;rw[Z];refine⟨I.l,I.h,λb j i=>?_,λp e=>?_,λb j i=>?_,λp e=>?_⟩
    .rcases ai.mp j with q|q
     .exact I.lo1 b q i
     .rw[aj.mp q]at i;lia
    .obtain⟨b,C,B⟩:=I.lo2 p e;exact⟨b,ax _ C,B⟩
    .rcases ai.mp j with q|q
     .exact I.hi1 b q i
     .rw[aj.mp q]at i;lia
    .obtain⟨b,C,B⟩:=I.hi2 p e;exact⟨b,ax _ C,B⟩
   .obtain⟨left,el,gl,ql⟩:=xT (c:=c) N (by lia) h1 r s (by lia) (by lia) rb hq (by lia);have ra:=rb _ (getD_mem r a (by lia));obtain⟨en,ee,Q,qe⟩:=A9 (c:=c) Y ra gl (by lia) (by lia);have J:qv en=qS d (Xs s) a r:=by rw[qe,ql,hs,zp d s r hs (by lia)];unfold qS jk;congr 1;grind
    have S:0<en.2/\Bn (N+wts s+20) en.1/\Bn (N+wts s+20) en.2:=⟨Q.pos,Q.b1,Q.b2.mono (by lia)⟩;have s1:∀D,setO 6 (ju (gS (gI (gS (gI bq bc) (l5 c)) (gI (jX (gI h5 dk)) gM)) (sI c))) (R u n (some (.p (tI r))) D)=.nx (R u n (some (.p (tI r))) (some (.p (fr en)))):=λD=>gY (iH (x:=fr left) (y:=fr (vc r a,1)) (iH rfl rfl el) (nS (gN rfl rfl H) rfl) ee) rfl;obtain⟨w,s2,M1,M2,M3⟩:∃w:Option (Int×Int),lS (L3.mj (iD (gW BY h5 ac)) (L3.rV (iD h8) (iD (gS (gI bm ir) (lT c))))) (setO 3 (ju dd)) iN (R u n (some (.p (tI r))) (some (.p (fr en))))=.nx (R w n (some (.p (tI r))) (some (.p (fr en))))/\
      Oe (N+wts s+20) w/\(∀b∈G.take k++[r],0<vc b a->∃p,w=some p/\qS d (Xs s) a b<=qv p)/\(∀p,w=some p->∃b∈G.take k++[r],0<vc b a/\qv p=qS d (Xs s) a b/\Cu.G p.1 p.2=1):=by
     by_cases E:0<vc r a
     .have F:iD (gW BY h5 ac) (vw (R u n (some (.p (tI r))) (some (.p (fr en)))))=.ok true:=g9 (gN (gN rfl rfl H) rfl (by rw[uh];simp[E]));have new:∀(_:∀p,u=some p->qv p<qv en),Oe (N+wts s+20) (some en)/\(∀b∈G.take k++[r],0<vc b a->∃p,some en=some p/\qS d (Xs s) a b<=qv p)/\(∀p,some en=some p->∃b∈G.take k++[r],0<vc b a/\qv p=qS d (Xs s) a b/\Cu.G p.1 p.2=1):=λo=>by
       refine⟨λp z=>by cases z;exact S,λb j i=>⟨en,rfl,?_⟩,λp z=>by cases z;exact⟨r,by simp,E,J,Q.one⟩⟩;rcases ai.mp j with q|q
       .obtain⟨p,U,e2⟩:=I.lo1 b q i;have:=o p U;grind
       .rw[aj.mp q,J];grind
      cases f:u with
      |none=>refine⟨some en,?_,new λp z=>by rw[f]at z;cases z⟩;rw[<-f];refine i9 (mW F (Nu (g9 (gN rfl rfl ?_)))) (gY (t:=fr en) rfl rfl);show lM false (oT u) .non=_;rw[sj,f];rfl
      |some p=>
       have A:lM false (oT u) .non=.ok (.bl false):=by rw[sj,f];rfl
       have K:lT c [oT u,fr en]=.ok (.bl (decide (qv p<qv en))):=by rw[f];exact GN (I.l p f) S hE
       by_cases o:qv p<qv en
       .refine⟨some en,?_,new λi z=>by rw[f]at z;cases z;exact o⟩;rw[<-f];exact i9 (mW F (zx (g9 (gN rfl rfl A)) (g9 (iH rfl rfl (by rw[K,aC o]))))) (gY (t:=fr en) rfl rfl)
       .refine⟨u,?_,I.l,λb j i=>?_,λi z=>?_⟩
        .rw[<-f];exact iF (mW F (zx (g9 (gN rfl rfl A)) (g9 (iH rfl rfl (by rw[K,aB o]))))) rfl
        .rcases ai.mp j with q|q
         .exact I.lo1 b q i
         .rw[aj.mp q,<-J];exact⟨p,f,by grind⟩
        .obtain⟨b,C,B⟩:=I.lo2 i z;exact⟨b,ax _ C,B⟩
     .refine⟨u,iF (tq (g9 (gN (gN rfl rfl H) rfl (by rw[uh];simp[E])))) rfl,I.l,λb j i=>?_,λi z=>?_⟩
      .rcases ai.mp j with q|q
       .exact I.lo1 b q i
       .rw[aj.mp q]at i;exact absurd i E
      .obtain⟨b,C,B⟩:=I.lo2 i z;exact⟨b,ax _ C,B⟩
    obtain⟨v,s3,H1,H2,H3⟩:∃v:Option (Int×Int),lS (L3.mj (iD (gW EU h5 ac)) (L3.rV (iD (gW (lM false) bi bw)) (iD (gS (gI dd df) (lT c))))) (setO 4 (ju dd)) iN (R w n (some (.p (tI r))) (some (.p (fr en))))=.nx (R w v (some (.p (tI r))) (some (.p (fr en))))/\
      Oe (N+wts s+20) v/\(∀b∈G.take k++[r],vc b a<0->∃p,v=some p/\qv p<=qS d (Xs s) a b)/\(∀p,v=some p->∃b∈G.take k++[r],vc b a<0/\qv p=qS d (Xs s) a b/\Cu.G p.1 p.2=1):=by
     by_cases E:vc r a<0
     .have F:iD (gW EU h5 ac) (vw (R w n (some (.p (tI r))) (some (.p (fr en)))))=.ok true:=g9 (gN (gN rfl rfl H) rfl (by rw[rK];simp[E]));have new:∀(_:∀p,n=some p->qv en<qv p),Oe (N+wts s+20) (some en)/\(∀b∈G.take k++[r],vc b a<0->∃p,some en=some p/\qv p<=qS d (Xs s) a b)/\(∀p,some en=some p->∃b∈G.take k++[r],vc b a<0/\qv p=qS d (Xs s) a b/\Cu.G p.1 p.2=1):=λo=>by
       refine⟨λp z=>by cases z;exact S,λb j i=>⟨en,rfl,?_⟩,λp z=>by cases z;exact⟨r,by simp,E,J,Q.one⟩⟩;rcases ai.mp j with q|q
       .obtain⟨p,U,e2⟩:=I.hi1 b q i;have:=o p U;grind
       .rw[aj.mp q,J];grind
      cases f:n with
      |none=>refine⟨some en,?_,new λp z=>by rw[f]at z;cases z⟩;rw[<-f];refine i9 (mW F (Nu (g9 (gN rfl rfl ?_)))) (gY (t:=fr en) rfl rfl);show lM false (oT n) .non=_;rw[sj,f];rfl
      |some p=>
       have A:lM false (oT n) .non=.ok (.bl false):=by rw[sj,f];rfl
       have K:lT c [fr en,oT n]=.ok (.bl (decide (qv en<qv p))):=by rw[f];exact GN S (I.h p f) hE
       by_cases o:qv en<qv p
       .refine⟨some en,?_,new λi z=>by rw[f]at z;cases z;exact o⟩;rw[<-f];exact i9 (mW F (zx (g9 (gN rfl rfl A)) (g9 (iH rfl rfl (by rw[K,aC o]))))) (gY (t:=fr en) rfl rfl)
       .refine⟨n,?_,I.h,λb j i=>?_,λi z=>?_⟩
        .rw[<-f];exact iF (mW F (zx (g9 (gN rfl rfl A)) (g9 (iH rfl rfl (by rw[K,aB o]))))) rfl
        .rcases ai.mp j with q|q
         .exact I.hi1 b q i
         .rw[aj.mp q,<-J];exact⟨p,f,by grind⟩
        .obtain⟨b,C,B⟩:=I.hi2 i z;exact⟨b,ax _ C,B⟩
     .refine⟨n,iF (tq (g9 (gN (gN rfl rfl H) rfl (by rw[rK];simp[E])))) rfl,I.h,λb j i=>?_,λi z=>?_⟩
      .rcases ai.mp j with q|q
       .exact I.hi1 b q i
       .rw[aj.mp q]at i;exact absurd i E
      .obtain⟨b,C,B⟩:=I.hi2 i z;exact⟨b,ax _ C,B⟩
    refine⟨_,_,rfl,.inl (i9 (g9 (gN (gN rfl rfl H) rfl (by rw[lq];simp[Y]))) (gP (s1 D) (gP s2 s3))),w,v,some (.p (tI r)),some (.p (fr en)),rfl,?_⟩;rw[Z];exact⟨M1,H1,M2,M3,H2,H3⟩)
 rw[aG,dM]at hI;exact⟨u,n,iB rfl (gP (gY (t:=.non) rfl rfl) (gP (gY (t:=.non) rfl rfl) (gP (jK rfl e) (hW (nS rfl rfl))))),hI⟩
def qR{s:Int}(e:∀q,s*r q=y q):(s:Rat)*jk d X r=jk d X y:=by have:=qm (d:=d) (X:=X) y y r s 1 0 (λi=>by rw[e i];lia);have b:((1:Int):Rat)=1:=rfl;have a:((0:Int):Rat)=0:=rfl;rw[b,a]at this;grind
def P0(st:Bool)(x:Rat):Prop:=if st=true then 0<x else 0<=x
def P0.pos{st x}(h:0<x):P0 st x:=by unfold P0;split<;>grind
def P0.nn{st x}(h:P0 st x):0<=x:=by unfold P0 at h;split at h<;>grind
def P0.add{st x y}(h:P0 st x)(a:0<=y):P0 st (x+y):=by unfold P0 at *;split<;>simp_all<;>grind
def P0.mul{st x s}(a:0<s)(h:P0 st x):P0 st (s*x):=by
 unfold P0 at *;split
 .rw[aQ (by assumption)]at h;exact eQ a h
 .rw[aR (by assumption)]at h;exact fR (eR a) h
def P0.of_mul{st x s}(a:0<s)(h:P0 st (s*x)):P0 st x:=by
 have:=P0.mul (s:=s⁻¹) (Rat.inv_pos.mpr a) h;have e:s⁻¹*(s*x)=x:=by grind
 rwa [e]at this
def Cn.p0{st}{f:Vc->Rat}(g:∀x y z (s a b:Int),(∀i,s*z i=a*x i+b*y i)->(s:Rat)*f z=(a:Rat)*f x+(b:Rat)*f y)(d:∀x,P x->P0 st (f x))(h:Cn P z):P0 st (f z):=by
 cases st with
 |true=>exact (Cn.posQ g (λx k=>d x k) h:0<f z)
 |false=>
  show 0<=f z;induction h with
  |of h=>exact d _ h
  |lin _ _ hs ha hb hab e i1 i2=>rename_i x y z s a b _ _;have q:=g _ _ _ _ _ _ e;have j:(0:Rat)<(s:Rat):=j3 hs;have m:=fR (show (0:Rat)<=(a:Rat) by exact_mod_cast ha) i1;have l:=fR (show (0:Rat)<=(b:Rat) by exact_mod_cast hb) i2;refine Rat.le_of_mul_le_mul_left (c:=(s:Rat)) ?_ j;rw[q];grind
theorem zQ{sb:Bool}{d n:Nat}{ss ix:List Nat}{f:LL}(h:Jv d n ss ix f){j:Nat}{G:LL}{w:List Nat}{H:List (LL)}(Q:HS d ix.length j G w H) :
  ∀(F:List Vc),F.length=j->(∀r∈G,r.length=d+1+n/\∃t,l9 f.length F t/\∃s:Int,0<s/\∀q,s*vc r q=Lt f.length (λj=>vc (f.getD j [])) t q)->(∀u,l9 f.length F u->Cn (Rk f F G) u)->∀(Z:Nat->Prop),(∀r∈G,∀p,Z p->vc r p=0)->
  (∀(i a:Nat),w[i]? = some a->∃J C,H[i]? = some J/\H[i+1]? = some C/\(∀r∈J,vc r a=0->r∈C)/\∀X:Nat->Rat,(∀r∈C,P0 sb (jk d X (vc r)))->∀x∈J,∀y∈J,0<vc x a->vc y a<0->P0 sb (-(vc y a:Rat)*jk d X (vc x)+(vc x a:Rat)*jk d X (vc y)))/\
  ∃Gl,H[w.length]? = some Gl/\H.getLast? = some Gl/\(∀r∈Gl,∀p,(Z p\/p∈w)->vc r p=0)/\∀r∈Gl,r.length=d+1+n/\∃t,l9 f.length [] t/\∃s:Int,0<s/\∀q,s*vc r q=Lt f.length (λj=>vc (f.getD j [])) t q:=by
 induction Q with
 |nil=>
  rename_i j G;intro F U L K Z hz;refine⟨λi a q=>by simp at q,G,rfl,rfl,λr hr p o=>?_,λr hr=>?_⟩
  .simp_all
  .obtain⟨l,t,I,q⟩:=L r hr;exact⟨l,t,GO I λA U=>(nomatch U),q⟩
 |cons st Q ih=>
  rename_i j a G G' w H;intro F U L K Z hz;subst U;obtain⟨hG',E⟩:=JG h L K st;obtain⟨i1,Gl,i2,i3,i4,i5⟩:=ih ((λj=>vc (f.getD j []) a)::F) (by simp) hG' E (λp=>Z p\/p=a) (λr hr p o=>by
   rcases st.from_ r hr with⟨P,q2⟩|⟨x,Y,y,Q,px,ny,hj⟩
   .grind
   .rcases o with o|rfl
    .obtain⟨g,hg,v⟩:=hj.ex;refine rR (g:=g) (by lia) ?_;rw[v p,hz x Y p o,hz y Q p o];simp
    .exact hj.at0)
  have l0:H[0]? = some G':=by cases Q<;>rfl
  have lne:H≠[]:=λz=>by rw[z]at l0;cases l0
  refine⟨λi b q=>?_,Gl,?_,?_,λr hr p o=>i4 r hr p ?_,i5⟩
  .cases i with
   |zero=>
    simp at q;subst q;refine⟨G,G',rfl,by simpa using l0,st.stay,λX hX x Y y hy' px ny=>?_⟩;obtain⟨_,t,I,s,hs,e⟩:=L x Y;obtain⟨_,k,D,s',N,e'⟩:=L y hy';let A:Vc:=λj=>vc (f.getD j []) a;have S:∀t,j4 f.length A t=Lt f.length (λj=>vc (f.getD j [])) t a:=λt=>My f.length (λj=>vc (f.getD j [])) t a;have p1:0<j4 f.length A t:=by rw[S,<-e a];exact aX hs px
    have p2:j4 f.length A k<0:=by rw[S,<-e' a];exact eM N ny
    have cz:l9 f.length (A::F) (λi=>(-j4 f.length A k)*t i+j4 f.length A t*k i):=by
     have lin:∀B,j4 f.length B (λi=>(-j4 f.length A k)*t i+j4 f.length A t*k i)=(-j4 f.length A k)*j4 f.length B t+j4 f.length A t*j4 f.length B k:=λB=>by have:=rP (m:=f.length) (A:=B) (x:=t) (y:=k) (z:=λi=>(-j4 f.length A k)*t i+j4 f.length A t*k i) (s:=1) (a:=-j4 f.length A k) (b:=j4 f.length A t) (λi=>by grind);simpa using this
     obtain⟨j,hj⟩:=I.ne;have P:0 < -j4 f.length A k:=by lia
     refine⟨λi=>?_,λi hi=>?_,⟨j,?_⟩,λB R=>?_⟩
     .have x1:=aP (aA P) (I.nn i);have x2:=aP (aA p1) (D.nn i);lia
     .rw[I.out i hi,D.out i hi];simp
     .have gj:0<t j:=by have:=I.nn j;lia
      have x1:=aX P gj;have x2:=aP (aA p1) (D.nn j);lia
     .rw[lin B];rcases aF.mp R with rfl|R
      .grind
      .rw[I.eq B R,D.eq B R];simp
    have hf:∀x y z (s a b:Int),(∀i,s*z i=a*x i+b*y i)->(s:Rat)*jk d X (Lt f.length (λj=>vc (f.getD j [])) z)=(a:Rat)*jk d X (Lt f.length (λj=>vc (f.getD j [])) x)+(b:Rat)*jk d X (Lt f.length (λj=>vc (f.getD j [])) y):=λx y z s a b hh=>qm _ _ _ s a b λi=>ND hh i;have pos:=Cn.p0 (st:=sb) hf (λu ⟨_,r,hr,s2,hs2,e2⟩=>by rw[<-qR (λq=>e2 q)];exact P0.mul (j3 hs2) (hX r hr)) (E _ cz)
    have lz:=hf t k (λi=>(-j4 f.length A k)*t i+j4 f.length A t*k i) 1 (-j4 f.length A k) (j4 f.length A t) (λi=>by grind);have e1:=qR (d:=d) (X:=X) (λq=>e q);have e2:=qR (d:=d) (X:=X) (λq=>e' q);have a1:(j4 f.length A t:Rat)=(s:Rat)*(vc x a:Rat):=by rw[S,<-e a];simp
    have a2:(j4 f.length A k:Rat)=(s':Rat)*(vc y a:Rat):=by rw[S,<-e' a];simp
    have ss0:=eQ (j3 hs) (j3 N);refine P0.of_mul ss0 ?_;have ev:jk d X (Lt f.length (λj=>vc (f.getD j [])) (λi=>(-j4 f.length A k)*t i+j4 f.length A t*k i))=(s:Rat)*(s':Rat)*(-(vc y a:Rat)*jk d X (vc x)+(vc x a:Rat)*jk d X (vc y)):=by grind
    rw[<-ev];exact pos
   |succ i=>obtain⟨J,C,P,q2,q3⟩:=i1 i b (by simpa using q);exact⟨J,C,by simpa using P,by simpa using q2,q3⟩
  .simpa using i2
  .rw[List.getLast?_cons_of_ne_nil lne];exact i3
  .rcases o with o|o
   .exact .inl (.inl o)
   .rcases aF.mp o with o|o
    .exact .inl (.inr o)
    .exact .inr o
noncomputable def Sb(N d m:Nat):Nat->Nat
 |0=>d
 |i+1=>2*Sb N d m i+Nb N (m-1-i)+22
def HC s a f:wts (s.set a f)<=wts s+wt f:=by
 induction s generalizing a with
 |nil=>simp[wts]
 |cons p s ih=>
  cases a with
  |zero=>simp[wts];lia
  |succ a=>
   have:=ih a;have b:wts ((p::s).set (a+1) f)=wt p+wts (s.set a f):=by rw[List.set_cons_succ];simp[wts]
   have d:wts (p::s)=wt p+wts s:=by simp[wts]
   lia
def yK n k (h:k<n):Au n (k:Int)=some k:=by unfold Au;rw[aQ (by lia),aQ (by lia)];simp
def GS l (k:Nat) t (h:l[k]? = some t):iP (.lst l) (.int (k:Int))=.ok t:=by
 have a:=(aa.mp h).1;have:uV l k=some t:=by unfold uV;rw[yK _ _ a];exact h
 simp[this]
def DH{l:List Nat}(h:l.Nodup){i j a:Nat}(m:l[i]? = some a)(k:l[j]? = some a):i=j:=by
 obtain⟨e,d⟩:=aa.mp m;obtain⟨g,f⟩:=aa.mp k;have b:=cJ.mp h;rcases cH i j with q|q|q
 .exact absurd (d.trans f.symm) (b i j e g q)
 .exact q
 .exact absurd (f.trans d.symm) (b j i g e q)
def BV(V:Nat)(p:Int×Int):Prop:=Bn V p.2/\Bn (V+30) p.1
def LV{p:Int×Int}(h:Fq p):Cu.US p.1 p.2 p.1 p.2:=⟨h.pos,h.one,rfl⟩
def Pv{p r:Int×Int}(d:Fq p)(hr:Fq r)(e:qv p=qv r):p=r:=by
 have i:=j3 d.pos;have h:=j3 hr.pos;have f:(p.1:Rat)*(r.2:Rat)=(r.1:Rat)*(p.2:Rat):=by unfold qv at e;grind
 have g:p.1*r.2=r.1*p.2:=by exact_mod_cast f
 obtain⟨a,b⟩:=Cu.Ka (by have:=d.pos;lia) (by have:=hr.pos;lia) (LV d) (LV hr) g;exact Prod.ext a b
def Aw{st:Bool} E (m:E<=7000) lo hi (k:Oe E lo) (n:Oe E hi) (j:∀p,lo=some p->Fq p) (l:∀p,hi=some p->Fq p) (d:∀p r,lo=some p->hi=some r->P0 st (qv r-qv p)) :
  ∃x,kS c [oT lo,oT hi]=.ok (fr x)/\Fq x/\(∀p,lo=some p->P0 st (qv x-qv p))/\(∀r,hi=some r->P0 st (qv r-qv x))/\Bn (E+2) x.1/\Bn (E+1) x.2:=by
 by_cases h:∀p r,lo=some p->hi=some r->qv p<qv r
 .obtain⟨x,o,a,f,g⟩:=Ah (c:=c) E m lo hi k n h;exact⟨x,o,⟨a.pos,a.one⟩,λp e=>P0.pos (by have:=a.lo p e;grind),λr e=>P0.pos (by have:=a.hi r e;grind),f,g⟩
 .simp only[Classical.not_forall]at h;obtain⟨p,r,b,i,s⟩:=h;have q:=d p r b i;have u:=q.nn;have e:qv p=qv r:=by grind
  obtain rfl:=Pv (j p b) (l r i) e;have z:P0 st (qv p-qv p):=q;obtain⟨-,f,g⟩:=k p b;subst b i;refine⟨p,iB rfl (ku (t:=fr p) (i9 (mW rfl (g9 (gN rfl rfl (by rw[show oT (some p)=fr p from rfl,KM,aC rfl])))) (hW rfl)) rfl),j p rfl,λ_ e=>by cases e;exact z,λ_ e=>by cases e;exact z,f.mono (by lia),g.mono (by lia)⟩
theorem zM{st:Bool}{d n:Nat}{ss ix:List Nat}{f:LL}(h:Jv d n ss ix f)(N:Nat)(h1N:1<=N)(hd:d<=10){b:List Nat}{F:List (LL)}(hy:HS d ix.length 0 f b F)(hpm:b.length<=10)(hpd:∀a∈b,a<d)(hnd:b.Nodup)(hb:∀(i:Nat) G,F[i]? = some G->∀r∈G,r.length=d+1+n/\∀x∈r,Bn (Nb N i) x)
  (Z:Nat->Prop) (hZ:∀r∈f,∀p,Z p->vc r p=0) (B:List (Int×Int)) (h0w:wts B<=d) (h0l:B.length=d) (h0z:∀a∈b,B.getD a (0,1)=(0,1)) (Aq:∀Gl,F.getLast? = some Gl->(∀r∈Gl,∀p,(Z p\/p∈b)->vc r p=0)->∀r∈Gl,P0 st (jk d (Xs B) (vc r))) (hE:∀i,i<b.length->Nb N (b.length-1-i)+Sb N d b.length i+20<=7000) (V:Nat) (h1V:1<=V) (hV:∀i,i<b.length->Nb N (b.length-1-i)+Sb N d b.length i+21<=V) (h0q:∀p∈B,Fq p/\BV V p) :
  ∃s:List (Int×Int),kY c [.lst (F.map λg=>T.lst (g.map tI)),.lst (b.map λ(j:Nat)=>T.int (j:Int)),.lst (B.map fr)]=.ok (s.map fr)/\s.length=d/\(∀p∈s,Fq p/\BV V p)/\wts s<=Sb N d b.length b.length/\(∀p,p<d->p∉b->s.getD p (0,1)=B.getD p (0,1))/\∀r∈f,P0 st (jk d (Xs s) (vc r)):=by
 have sz:1000<sizeLine:=by decide
 have g0:∀r∈f,r.length=d+1+n/\∃t,l9 f.length [] t/\∃s:Int,0<s/\∀q,s*vc r q=Lt f.length (λj=>vc (f.getD j [])) t q:=λr hr=>by
  obtain⟨j,hj⟩:=dF.mp hr;have jl:=(aa.mp hj).1;have ej:f.getD j []=r:=by rw[af,hj];rfl
  refine⟨h.l r hr,rG j,⟨λi=>by unfold rG;split<;>lia,λi C=>by unfold rG;rw[aR (by lia)],⟨j,by simp[rG]⟩,λA hA=>(nomatch hA)⟩,1,by decide,λq=>?_⟩;rw[yC f.length _ j jl q,ej,dJ]
 have gen0:∀u,l9 f.length [] u->Cn (Rk f [] f) u:=λu hu=>(BC f.length (cs f.length u) u (aK _) hu).mono λx ⟨i,C,ex⟩=>by
  subst ex;have hm:f.getD i []∈f:=by rw[af,ag C];exact aV C
  refine⟨⟨λk=>by unfold rG;split<;>lia,λk hk=>by unfold rG;rw[aR (by lia)],⟨i,by simp[rG]⟩,λA hA=>(nomatch hA)⟩,f.getD i [],hm,1,by decide,λq=>?_⟩;rw[yC f.length _ i C q,dJ]
 obtain⟨at_,Gl,la1,la2,la3,la4⟩:=zQ (sb:=st) h hy [] rfl g0 gen0 Z hZ;let m:=b.length;let R (s:List (Int×Int)) (Y x5 S:Option W):En:=[some (.p (.lst (F.map λg=>T.lst (g.map tI)))),some (.p (.lst (b.map λ(j:Nat)=>T.int (j:Int)))),some (.p (.lst (B.map fr))),some (.o (s.map fr)),Y,x5,S];obtain⟨ρ,e,s,Y,x5,S,rfl,k1,k2,k3,J,G,P,k6⟩:=jP (m:=kX 2 bu) (g:=se c) (λ(p:Nat×Nat)=>T.tup [.int (p.2:Int),.int (p.1:Int)])
  (λi ρ=>∃(s:List (Int×Int)) (Y x5 S:Option W),ρ=R s Y x5 S/\s.length=d/\(∀p∈s,Fq p/\BV V p)/\wts s<=Sb N d m i/\(∀p,p<d->p∉b.drop (m-i)->s.getD p (0,1)=B.getD p (0,1))/\∃G,F[m-i]? = some G/\∀r∈G,P0 st (jk d (Xs s) (vc r)))
  b.zipIdx.reverse 0 (R B none none none) ⟨B,none,none,none,rfl,h0l,h0q,h0w,λ_ _ _=>rfl,Gl,by simpa[m] using la1,Aq Gl la2 la3⟩ (by
   rintro i ⟨a,jn⟩ ρ C ⟨s,Y,x5,S,rfl,k1,k2,k3,J,G',P,k6⟩;rw[aG]at k3 J P ⊢;have il:i<m:=by have:=(aa.mp C).1;simpa[m] using this
   rw[List.getElem?_reverse (by simpa[m] using il)]at C;have hz:b.zipIdx.length-1-i=m-1-i:=by simp[m]
   rw[hz,List.getElem?_zipIdx]at C;have hpl:b[m-1-i]? = some a/\jn=m-1-i:=by
    cases q:b[m-1-i]? with
    |none=>rw[q]at C;cases C
    |some a'=>rw[q]at C;simp at C;exact⟨by rw[C.1],C.2.symm⟩
   obtain⟨D,hjn⟩:=hpl;subst hjn;have am:=au D;have ad:=hpd a am;obtain⟨G,G2,q1,q2,q3,q4⟩:=at_ (m-1-i) a D;have e2:m-1-i+1=m-i:=by lia
   rw[e2,P]at q2;cases q2;have hGb:=hb (m-1-i) G q1;have hEi:=hE i il;have k3':=k3;have hE2:Nb N (m-1-i)+wts s+20<=7000:=by show Nb N (m-1-i)+wts s+20<=7000;lia
   have n1:1<=Nb N (m-1-i):=aN h1N (CD N (bL _));obtain⟨H,w,ee,E⟩:=zG (c:=c) d a (Nb N (m-1-i)) (d+1+n) (by lia) ad hd n1 s k1 (λp I=>(k2 p I).1) (by lia) G hGb;have sa:s.getD a (0,1)=(0,1):=Eq.trans (J a ad λhm=>by obtain⟨q,hq⟩:=dF.mp hm;rw[List.getElem?_drop]at hq;have:=DH hnd D hq;lia) (h0z a am)
   have Xa:Xs s a=0:=by unfold Xs;rw[sa,Wa]
   have lt:∀p r,H=some p->w=some r->P0 st (qv r-qv p):=λp r ep er=>by
    obtain⟨x,hx,px,ex,-⟩:=E.lo2 p ep;obtain⟨y,hy',ny,ey,-⟩:=E.hi2 r er;have key:=q4 (Xs s) k6 x hx y hy' px ny;rw[ex,ey];unfold qS;have a1:(0:Rat)<(vc x a:Rat):=j3 px;have a2:(0:Rat) < -(vc y a:Rat):=by have:=j3 (show 0 < -vc y a by lia);simpa using this
    generalize jk d (Xs s) (vc x)=e1 at *;generalize jk d (Xs s) (vc y)=e2 at *;generalize (vc x a:Rat)=u at *;generalize (vc y a:Rat)=v at *;refine P0.of_mul (eQ a1 a2) ?_;have u0:u≠0:=by grind
    have v0:v≠0:=by grind
    have K:u * -v*(-e2 / v - -e1 / u) = -v*e1+u*e2:=by grind
    rw[K];exact key
   obtain⟨x,ex,gd,glo,ghi,U,bx2⟩:=Aw (c:=c) (st:=st) (Nb N (m-1-i)+wts s+20) hE2 H w E.l E.h (λp e=>⟨(E.l p e).1,let ⟨_,_,_,_,h⟩:=E.lo2 p e;h⟩) (λp e=>⟨(E.h p e).1,let ⟨_,_,_,_,h⟩:=E.hi2 p e;h⟩) lt;have wx:wt x<=(Nb N (m-1-i)+wts s+20)+2:=eS.mpr ⟨Be U (by lia),Be (bx2.mono (by lia)) (by lia)⟩;have ixl:iP (.lst (F.map λg=>T.lst (g.map tI))) (.int ((m-1-i:Nat):Int))=.ok (.lst (G.map tI)):=by
    have q:(F.map λg=>T.lst (g.map tI))[m-1-i]? = some (T.lst (G.map tI)):=by rw[av,q1];rfl
    exact GS _ _ _ q
   have s1:setO 6 (pS (gS (gI (gW iP ap bi) (gI bq gn)) (ni c))) (R s (some (.p (.int ((m-1-i:Nat):Int)))) (some (.p (.int (a:Int)))) S)=.nx (R s (some (.p (.int ((m-1-i:Nat):Int)))) (some (.p (.int (a:Int)))) (some (.p (.tup [oT H,oT w])))):=by refine yy (kr (x:=.lst (G.map tI)) (gN rfl rfl ixl) rfl rfl ee) ?_ rfl;cases H<;>cases w<;>rfl
   have s2:zb 3 (pS bq) (pS (gS (gI (gW iP dd ac) (gI (gW iP dd ab) gM)) (kS c))) (R s (some (.p (.int ((m-1-i:Nat):Int)))) (some (.p (.int (a:Int)))) (some (.p (.tup [oT H,oT w]))))=.nx (R (s.set a x) (some (.p (.int ((m-1-i:Nat):Int)))) (some (.p (.int (a:Int)))) (some (.p (.tup [oT H,oT w])))):=by
    refine BN (us:=s.map fr) rfl (iH (x:=oT H) (y:=oT w) (gN rfl rfl rfl) (gN rfl rfl rfl) ex) rfl (j:=(a:Int)) (m:=a) rfl ?_ ?_
    .rw[aw];exact yK _ _ (by lia)
    .show _=List.set _ _ _;simp[R,dX]
   refine⟨_,_,rfl,.inl (gP s1 s2),s.set a x,some (.p (.int ((m-1-i:Nat):Int))),some (.p (.int (a:Int))),some (.p (.tup [oT H,oT w])),rfl,by rw[bW,k1],λp I=>?_,?_,λp I Q=>?_,G,by rw[show m-(i+1)=m-1-i by lia];exact q1,λr hr=>?_⟩
   .rcases fv I with q|q
    .exact k2 p q
    .rw[q];exact⟨gd,bx2.mono (by have:Nb N (m-1-i)+Sb N d m i+21<=V:=hV i il;lia),U.mono (by have:Nb N (m-1-i)+Sb N d m i+21<=V:=hV i il;lia)⟩
   .have:=HC s a x;show _<=2*Sb N d m i+Nb N (m-1-i)+22;lia
   .rw[show m-(i+1)=m-1-i by lia]at Q;have dr:b.drop (m-1-i)=a::b.drop (m-i):=by have hlt:=(aa.mp D).1;rw[c8 hlt,e2];congr 1;exact (aa.mp D).2
    rw[dr]at Q;have pa:p≠a:=λz=>Q (by simp[z]);rw[af,aq (λz=>pa z.symm),<-af];exact J p I λz=>Q (by simp[z])
   .rw[JX s a x (by lia),tR ad,Xa];have nx:P0 st (jk d (Xs s) (vc r)+(vc r a:Rat)*(qv x-0)):=by
     rcases fJ (vc r a) 0 with q|q|q
     .obtain⟨p,ep,X⟩:=E.hi1 r hr q;have L:=ghi p ep;unfold qS at X;have a2:(0:Rat) < -(vc r a:Rat):=by have:=j3 (show 0 < -vc r a by lia);simpa using this
      generalize jk d (Xs s) (vc r)=e1 at *;generalize (vc r a:Rat)=v at *;have v0:v≠0:=by grind
      have t:=P0.mul a2 (L.add (y:=-e1 / v-qv p) (by grind));have K:-v*(qv p-qv x+(-e1 / v-qv p))=e1+v*(qv x-0):=by grind
      rwa [K]at t
     .have t:=k6 r (q3 r hr q);rw[q];have K:jk d (Xs s) (vc r)+((0:Int):Rat)*(qv x-0)=jk d (Xs s) (vc r):=by simp;grind
      rwa [K]
     .obtain⟨p,ep,X⟩:=E.lo1 r hr q;have L:=glo p ep;unfold qS at X;have a2:(0:Rat)<(vc r a:Rat):=j3 q;generalize jk d (Xs s) (vc r)=e1 at *;generalize (vc r a:Rat)=v at *;have v0:v≠0:=by grind
      have t:=P0.mul a2 (L.add (y:=qv p - -e1 / v) (by grind));have K:v*(qv x-qv p+(qv p - -e1 / v))=e1+v*(qv x-0):=by grind
      rwa [K]at t
    exact nx)
 have fl:(b.zipIdx.reverse).length=m:=by simp[m]
 rw[aG,fl]at k3 J P;rw[fS]at J P;have G0:F[0]? = some f:=by cases hy<;>rfl
 rw[G0]at P;cases P;have ito:JF (gI (jy (UN bd)) gM) (nQ (R B none none none))=.ok (b.zipIdx.reverse.map λ(p:Nat×Nat)=>T.tup [.int (p.2:Int),.int (p.1:Int)]):=by have X:UN bd (nQ (R B none none none))=.ok (oN (b.map λ(j:Nat)=>T.int (j:Int))):=rfl;simp only[JF,gI,gM,jy,X,M.bind_ok];rw[t8,List.map_reverse]
 refine⟨s,nG rfl (gP (nY (ts:=B.map fr) rfl rfl) (gP (jK ito e) rfl)),k1,k2,k3,λp I Q=>J p I (by simpa using Q),k6⟩
def sv{d n:Nat}{Q z:List Nat}{l:LL}(h:Jv d n Q z l)(N:Nat)(w:1<=N)(I:d<=10){b:List Nat}{k:List (LL)}(X:HS d z.length 0 l b k)(o:b.length<=10)(y:∀a∈b,a<d)(u:b.Nodup)(hb:∀(i:Nat) G,k[i]? = some G->∀r∈G,r.length=d+1+n/\∀x∈r,Bn (Nb N i) x)
  (Z:Nat->Prop) (P:∀r∈l,∀p,Z p->vc r p=0) (U:∀p,p<d->Z p\/p∈b) (F:∀Gl,k.getLast? = some Gl->∀r∈Gl,vc r d<0) (A:∀i,i<b.length->Nb N (b.length-1-i)+Sb N d b.length i+20<=7000) (V:Nat) (m:1<=V) (C:∀i,i<b.length->Nb N (b.length-1-i)+Sb N d b.length i+21<=V) :
  ∃s:List (Int×Int),kY c [.lst (k.map λg=>T.lst (g.map tI)),.lst (b.map λ(j:Nat)=>T.int (j:Int)),.lst ((List.replicate d ((0,1):Int×Int)).map fr)]=.ok (s.map fr)/\s.length=d/\(∀p∈s,Fq p/\BV V p)/\wts s<=Sb N d b.length b.length/\(∀p,p<d->p∉b->s.getD p (0,1)=(0,1))/\∀r∈l,0<jk d (Xs s) (vc r):=by
 have v:Fq (0,1):=⟨by decide,by decide⟩;have g0:∀p,(List.replicate d ((0,1):Int×Int)).getD p (0,1)=(0,1):=λp=>by rw[af,List.getElem?_replicate];split<;>rfl
 obtain⟨s,e,E,H,K,S,D⟩:=zM (c:=c) (st:=true) h N w I X o y u hb Z P (List.replicate d (0,1)) (by
   have L:wt (0,1)=1:=by decide
   simp[wts,L]) (by simp) (λa _=>g0 a) (λGl J R r hr=>by
   rw[oB λp f=>R r hr p (U p f)];have:=F Gl J r hr;have q:=j3 (show 0 < -vc r d by lia);exact P0.pos (by simpa using q)) A V m C λp f=>by rw[bg f];exact⟨v,(Fi (n:=0)).mono (by lia),ua⟩
 exact⟨s,e,E,H,K,λp f B=>(S p f B).trans (g0 p),D⟩
def JK(d M L:Nat)(hdL:d<L)(hd:d<=10)(hM:1<=M)(pv:List (Nat×LI))(s:List (Int×Int))(Z:s.length=d)(V:Nat)(hq:∀p∈s,Fq p/\BV V p)(H:∀p∈pv,p.1<d/\p.2.length=L/\vc p.2 p.1≠0/\∀x∈p.2,Bn M x)(hw:pv.Pairwise λp q=>p.1≠q.1/\vc q.2 p.1=0/\vc p.2 q.1=0)(h0:∀p∈pv,s.getD p.1 (0,1)=(0,1))(hE:pv≠[]->M+wts s+20<=8000)(hV:pv≠[]->M+wts s+1<=V) :
  ∃f,sG c [.lst (pv.map nB),.lst (s.map fr)]=.ok (tS f)/\f.length=d/\(∀p∈f,Fq p/\BV V p)/\wts f<=wts s+pv.length*(M+wts s+20)/\(∀p∈pv,jk d (Xs f) (vc p.2)=0)/\∀r:Vc,(∀p∈pv,r p.1=0)->jk d (Xs f) r=jk d (Xs s) r:=by
 have sz:1000<sizeLine:=by decide
 let R (f:List (Int×Int)) (I C:Option W):En:=[some (.p (.lst (pv.map nB))),some (.p (.lst (s.map fr))),some (.o (f.map fr)),I,C];obtain⟨U,e,f,I,C,rfl,k1,X,S,D,w,Q⟩:=jP (m:=kX 2 c4) (g:=wM c) nB
  (λi U=>∃(f:List (Int×Int)) (I C:Option W),U=R f I C/\f.length=d/\(∀p∈f,Fq p/\BV V p)/\wts f<=wts s+i*(M+wts s+20)/\(∀p∈pv.take i,jk d (Xs f) (vc p.2)=0)/\(∀r:Vc,(∀p∈pv.take i,r p.1=0)->jk d (Xs f) r=jk d (Xs s) r)/\∀q,(∀p∈pv.take i,p.1≠q)->f.getD q (0,1)=s.getD q (0,1))
  pv 0 (R s none none) ⟨s,none,none,rfl,Z,hq,by lia,λp H=>by simp at H,λr _=>rfl,λq _=>rfl⟩ (by
   rintro i ⟨a,h⟩ U J ⟨f,I,C,rfl,k1,X,S,D,w,Q⟩;rw[aG]at S D w Q ⊢;have u:=au J;have hV:=hV (λz=>by rw[z]at u;cases u);have hE:=hE (λz=>by rw[z]at u;cases u);obtain⟨ha,hl,n,Y⟩:=H _ u;simp only at ha hl n Y;have il:=(aa.mp J).1;have l:∀p∈pv.take i,p.1≠a/\vc h p.1=0/\vc p.2 a=0:=λp b=>by
    obtain⟨j,P⟩:=dF.mp b;rw[List.getElem?_take]at P;split at P
    .rename_i jl;have N:=aa.mp P;have F:=aa.mp J;have:=cJ.mp hw j i N.1 F.1 jl;rw[N.2,F.2]at this;exact this
    .cases P
   obtain⟨r,e1,g1,v1⟩:=xT (c:=c) M (by lia) hM h s (by lia) (by lia) Y (λp H=>(hq p H).1) (by lia);obtain⟨o,e2,K,v2⟩:=A9 (c:=c) (k:=vc h a) n (Y _ (by unfold vc;rw[af,ag (show a<h.length by lia)];exact aV _)) g1 (by lia) (by lia)
   have st:wM c (R f (some (.p (.int (a:Int)))) (some (.p (tI h))))=.nx (R (f.set a o) (some (.p (.int (a:Int)))) (some (.p (tI h)))):=by
    refine BN (us:=f.map fr) rfl (iH (x:=fr r) (y:=fr (vc h a,1)) (iH rfl rfl e1) (nS (gN rfl rfl (kz h a (by lia))) rfl) e2) rfl (j:=(a:Int)) (m:=a) rfl ?_ ?_
    .rw[aw];exact yK _ _ (by lia)
    .simp[R,dX]
   have Xa:Xs f a=0:=by have N:=Q a λp b=>(l p b).1;have F:=h0 _ u;simp only at F;unfold Xs;rw[N,F,Wa]
   have ev:∀r:Vc,jk d (Xs (f.set a o)) r=jk d (Xs f) r+(r a:Rat)*qv o:=λr=>by rw[JX f a o (by lia),tR ha,Xa];grind
   have B:=jJ _ i (a,h) J;refine⟨_,_,rfl,.inl st,f.set a o,_,_,rfl,by rw[bW,k1],λp b=>?_,?_,?_,?_,?_⟩
   .rcases fv b with q|q
    .exact X p q
    .rw[q];have w2:wt o<=M+wts s+20:=K.wt (by lia) (by lia) (by lia);exact⟨K.fq,K.b2.mono (by lia),(EB o.1).mono (aN (du _ _) (aN w2 (by lia)))⟩
   .have w1:=HC f a o;have w2:wt o<=M+wts s+20:=K.wt (by lia) (by lia) (by lia);rw[Nat.add_mul];lia
   .intro p b;rw[B]at b;rw[ev];rcases ai.mp b with q|q
    .rw[D p q,(l p q).2.2];simp;grind
    .have:p=(a,h):=by simpa using q
     subst this;simp only;rw[w (vc h) λp b=>(l p b).2.1,v2,v1];have dq:=zp d s h Z (by lia);rw[dq,Z];unfold jk;have ne:(vc h a:Rat)≠0:=by intro z;exact n (by exact_mod_cast z)
     generalize pT d (λp=>(vc h p:Rat)*Xs s p)=A;generalize (vc h a:Rat)=v at *;grind
   .intro r hr;rw[ev,hr (a,h) (by rw[B];simp),w r λp b=>hr p (by rw[B];simp[b])];simp;grind
   .intro q E;have qa:=E (a,h) (by rw[B];simp);rw[af,aq qa,<-af];exact Q q λp b=>E p (by rw[B];simp[b]))
 rw[aG,dM]at D w;rw[aG]at S;exact⟨f,iB rfl (gP (nY (ts:=s.map fr) rfl rfl) (gP (jK rfl e) (hW rfl))),k1,X,S,D,w⟩
def uo row s (a:s.natAbs<=1) (b:row.length<=1000):nr c [tI row,.int s]=.ok (tI (row.map λx=>s*x)):=by
 have sz:1000<sizeLine:=by decide
 refine iB rfl (hW (mZ (iV (jS row T.int (λx=>T.int (s*x)) rfl (by lia) (λx d=>⟨_,rfl,rfl,gN rfl rfl (iJ (qN (by lia)))⟩) (by rw[aI];rfl))) rfl))
def s9 row s i:vc (row.map λx=>s*x) i=s*vc row i:=by unfold vc;rw[af,af,av];cases row[i]?<;>simp
def GT(a:s.natAbs<=1)(h:Bn N x):Bn N (s*x):=by unfold Bn at *;rw[aY];refine cg ?_ h;exact aN (fT _ a) (by lia)
def G4(h:f ρ=.ok (tI ys)):jy (IX pQ (gI f gM)) ρ=.ok (tL ys):=by simp only[jy,IX,gI,gM,h,M.bind_ok];rfl
def FV d L (v:d<L) (z:L<=1000) (a:LL) (hr:∀r∈a,r.length=L) :
  (jH c [.lst (a.map tI),.int (d:Int)]=.ok .non/\∀r∈a,vc r d=0)\/
  ∃r∈a,vc r d≠0/\jH c [.lst (a.map tI),.int (d:Int)]=.ok (tL ((r.map λx=>kJ (vc r d)*x).drop (d+1))):=by
 have main:=sJ (m:=j6 2) (g:=oP c) tI
  (λk o=>∃(n:Option W),o=[some (.p (.lst (a.map tI))),some (.p (.int d)),n]/\∀r∈a.take k,vc r d=0)
  (λt=>∃r∈a,vc r d≠0/\t=tL ((r.map λx=>kJ (vc r d)*x).drop (d+1))) a 0 _ ⟨none,rfl,λr h=>by simp at h⟩ (by
   rintro i r o u ⟨n,rfl,h⟩;rw[aG]at h ⊢;have l:=au u;have y:=hr r l;refine⟨_,rfl,?_⟩;have b:iP (tI r) (.int d)=.ok (.int (vc r d)):=kz r d (by lia);by_cases f:vc r d=0
   .left;refine⟨_,iF (g9 (gN (gN rfl rfl b) rfl (by rw[lq,f];rfl))) rfl,_,rfl,λw j=>?_⟩;rw[jJ _ i r u]at j;rcases ai.mp j with q|q
    .exact h w q
    .rw[aj.mp q];exact f
   .right;have s:(kJ (vc r d)).natAbs<=1:=by unfold kJ;split<;>(try split)<;>simp
    exact⟨_,i9 (g9 (gN (gN rfl rfl b) rfl (by rw[lq];simp[f]))) (hW (G4 (uM _ d (iH rfl (oO (gN rfl rfl b) (rY _)) (uo r _ s (by lia))) rfl))),r,l,f,rfl⟩)
 rcases main with⟨o,e,n,rfl,h⟩|⟨t,e,r,l,f,rfl⟩
 .left;rw[aG,dM]at h;exact⟨iB rfl (gP (jK rfl e) (hW rfl)),h⟩
 .right;exact⟨r,l,f,iB rfl (ku (jK rfl e) rfl)⟩
def Da us:(us.zipIdx.map λp=>p.1++(List.replicate us.length (0:Int)).set p.2 1)=(List.range us.length).map (wr us):=by
 apply fM
 .simp
 .intro i a b;simp only[aw,fU]at a;simp[wr,List.getElem_zipIdx,a]
def zA{n:Nat}{g:LI}{k:Nat}{s:Int}:(k,s)∈(List.range n).zip g↔k<n/\g[k]? = some s:=by
 rw[dF];constructor
 .rintro⟨i,f⟩;rw[List.getElem?_zip_eq_some]at f;obtain⟨e,d⟩:=f;simp only at e d;have:=aa.mp e;simp at this;obtain⟨a,b⟩:=this;subst b;exact⟨a,d⟩
 .rintro⟨e,d⟩;exact⟨k,List.getElem?_zip_eq_some.mpr ⟨by simp[e],d⟩⟩
structure JM(n:Nat)(sg:LI):Prop where
 len:sg.length=n
 one:∀x∈sg,x.natAbs<=1
noncomputable def zer(n:Nat)(a:LI):List Nat:=(((List.range n).zip a).filter λp=>p.2==0).map Prod.fst
noncomputable def yN(n:Nat)(a:LI):List (Nat×Int):=((List.range n).zip a).filter λp=>p.2 != 0
def rQ{n:Nat}{d:LI}{k:Nat}:k∈zer n d↔k<n/\d[k]? = some 0:=by
 unfold zer;rw[aD];constructor
 .rintro⟨⟨f,s⟩,h,rfl⟩;obtain⟨b,a⟩:=aU.mp h;have:=zA.mp b;have e:s=0:=by simpa using a
  subst e;exact this
 .rintro⟨b,a⟩;exact⟨(k,0),aU.mpr ⟨zA.mpr ⟨b,a⟩,by simp⟩,rfl⟩
def rT{n:Nat}{a:LI}{k:Nat}{s:Int}:(k,s)∈yN n a↔k<n/\a[k]? = some s/\s≠0:=by unfold yN;rw[aU,zA];simp[and_assoc]
theorem pZ{d e:Type}:∀(a:List d) (b:List e),((a.zip b).map Prod.fst).Sublist a
 |[],_=>by simp
 |_::_,[]=>by simp
 |x::a,y::b=>by simp[pZ a b]
def RI{g v:Int}(a:0<g)(h:0<g*v):0<v:=aO λq=>by have:=eV (show v<=0 by lia) (aA a);rw[dO]at this;lia
def KR(n:Nat)(a:LI):((yN n a).map Prod.fst).Nodup:=by have d:((yN n a).map Prod.fst).Sublist (((List.range n).zip a).map Prod.fst):=(fV).map _;have b:(((List.range n).zip a).map Prod.fst).Sublist (List.range n):=pZ _ _;exact (eK).sublist (d.trans b)
def wA(h:∀i,i<=d->x i=y i):jk d X x=jk d X y:=by unfold jk;rw[jV d _ (λp=>(y p)*X p) λp a=>by rw[h p (by lia)],h d (aK _)]
def Qs.evl0(h:∀x,P x->jk d X x=0)(q:Qs P z):jk d X z=0:=by
 induction q with
 |of p=>exact h _ p
 |zero=>rw[oB λ_ _=>rfl];simp
 |lin hx hy hs e i1 i2=>
  rename_i x y z s a b;have:=qm (d:=d) (X:=X) x y z s a b e;rw[i1,i2]at this;have f:(s:Rat)≠0:=by intro z;exact hs (by exact_mod_cast z)
  grind
structure VE(us:LL)(d N:Nat)(pv:List (Nat×LI))(ix:List Nat)(k:Nat)(s:Int)(r:LI):Prop where
 len:r.length=d+1+us.length
 own:0<s*vc r (d+1+k)
 oth:∀i,i∉ix->i≠k->vc r (d+1+i)=0
 lin:nU us d (vc r)
 zer:∀p∈pv,vc r p.1=0
 ex:∃(g s':Int) (y:Vc),0<g/\0<s'/\Qs (UU pv) y/\∀i,g*vc r i=s'*(s*vc (wr us k) i)+1*y i
 bn:∀x∈r,Bn N x
def Nj{pv:List (Nat×LI)}(hd:d<=4)(hn:us.length<=8)(o:∀u∈us,u.length=d+1)(hb:∀u∈us,∀x∈u,Bn B x)(N:Wh m B)(C:pv.length<=m)(h:PV us d B zs pv rs ix)(n:k<us.length)(D:k∉zs)(U:s.natAbs<=1)(h0:s≠0) :
  ∃r,mx c [tI ((wr us k).map λx=>s*x),.lst (pv.map nB)]=.ok (tI r)/\VE us d (B+pv.length*(Pq B pv.length+1)) pv ix k s r:=by
 have P:=xv us d k n o;have Q:k∉ix:=λz=>D (h.sub k z);have H:=N.le pv.length C;obtain⟨r,e,l,b,⟨g,v,y,L,E,I,X⟩,z⟩:=DN (UU pv) (d+1+us.length) (Pq B pv.length) B (by lia) pv ((wr us k).map λx=>s*x) H (by rw[aw,P]) (λx Z=>by
  obtain⟨R,A,rfl⟩:=aD.mp Z;exact GT U (Mv N.b1 us k n hb R A)) (λp j=>by
  obtain⟨q1,K,S,Y,-⟩:=h.pl p j;exact⟨by lia,K,S,Y,⟨p,j,rfl⟩⟩) (h.pw.imp λq=>q.2.1)
 have f:∀i,g*vc r i=v*(s*vc (wr us k) i)+1*y i:=λi=>by rw[X i,s9]
 have J:∀i,i∉ix->y (d+1+i)=0:=λi F=>Qs.at0 (λx ⟨p,j,ex⟩=>by rw[ex];exact (h.pl p j).2.2.2.2.2 i F) I;refine⟨r,e,l,?_,λi F w=>?_,?_,z,⟨g,v,y,L,E,I,f⟩,b⟩
 .have q:=f (d+1+k);rw[J k Q,xV us d k n o,aR (by lia),aQ (by lia)]at q;have ss:s*s=1:=by
   have:s=1\/s = -1:=by lia
   rcases this with e|e<;>rw[e]<;>decide
  have K:g*(s*vc r (d+1+k))=v:=by
   have:g*(s*vc r (d+1+k))=s*(g*vc r (d+1+k)):=by grind
   rw[this,q];grind
  exact RI L (by lia)
 .have q:=f (d+1+i);rw[J i F,Tf us d k n o i w]at q;exact rR (g:=g) (by lia) (by rw[q];simp)
 .have ly:=nU.qs (λx ⟨p,j,ex⟩=>by rw[ex];exact (h.pl p j).2.2.2.2.1) I;exact nU.comb (g:=g) (a:=v*s) (b:=1) (by lia) (K4 us d k n o) ly λi=>by rw[f i];grind
structure SI(us:LL)(d:Nat)(sg ws:LI):Prop where
 len:ws.length=us.length
 may:∀i s,sg[i]? = some s->0<=s*vc ws i
 zer:∀k,k<d->sm us.length (λi=>vc ws i*vc (us.getD i []) k)=0
 fin:0<sm us.length (λi=>vc ws i*vc (us.getD i []) d)\/(sm us.length (λi=>vc ws i*vc (us.getD i []) d)=0/\∃i s,sg[i]? = some s/\s*vc ws i≠0)
def Hr r k i:vc (r.drop k) i=vc r (k+i):=by unfold vc;rw[af,af,List.getElem?_drop]
theorem Ha:∀m g t,(∀j,j<m->nU us d (g j))->nU us d (Lt m g t)
 |0,g,t,_=>by have:Lt 0 g t=λ_=>0:=rfl;rw[this];exact nU.zero
 |m+1,g,t,h=>by refine nU.comb (g:=1) (a:=t 0) (b:=1) (by decide) (h 0 (by lia)) (Ha m (λj=>g (j+1)) (λj=>t (j+1)) λj e=>h (j+1) (by lia)) λi=>?_;show 1*(t 0*g 0 i+sm m λj=>t (j+1)*g (j+1) i)=t 0*g 0 i+1*(sm m λj=>t (j+1)*g (j+1) i);lia
def N8 m j0 (b:j0<m) f (h:∀j,j<m->j≠j0->f j=0):sm m f=f j0:=by
 rw[<-B8 m j0 f b];refine ko m _ _ λj a=>?_;by_cases q:j=j0
 .rw[aQ q];lia
 .rw[aR q,h j a q];rfl
def Tq{us:LL}{d N:Nat}{n:LI}{pv:List (Nat×LI)}{J:List Nat}(L:JM us.length n)(H:∀i∈J,i∈zer us.length n){f:Nat×Int->LI}(K:∀p∈yN us.length n,VE us d N pv J p.1 p.2 (f p)){r:LI}(hl:r.length=d+1+us.length){t:Vc}(C:l9 ((yN us.length n).map f).length [] t){s:Int}(hs:0<s)(e:∀q,s*vc r q=Lt ((yN us.length n).map f).length (λj=>vc (((yN us.length n).map f).getD j [])) t q)
  (h0:∀k,k<d->vc r k=0) (hd:0<=vc r d):SI us d n (r.drop (d+1)):=by
 generalize v:(yN us.length n).map f=sd at *;have A:∀j,j<sd.length->∃p,(yN us.length n)[j]? = some p/\sd.getD j []=f p:=λj m=>by subst v;rw[aw]at m;refine⟨_,ag m,?_⟩;rw[af,av,ag m];rfl
 have Y:nU us d (vc r):=by
  have:nU us d (Lt sd.length (λj=>vc (sd.getD j [])) t):=Ha _ _ _ λj m=>by obtain⟨p,o,w⟩:=A j m;rw[w];exact (K p (au o)).lin
  exact nU.comb (g:=s) (a:=1) (b:=0) (by lia) this nU.zero λi=>by rw[e i];lia
 have u:∀j k l,(yN us.length n)[j]? = some (k,l)->j<sd.length/\s*(l*vc r (d+1+k))=t j*(l*vc (sd.getD j []) (d+1+k))/\0<l*vc (sd.getD j []) (d+1+k):=λj k l h=>by
  have B:=au h;have m:j<sd.length:=by rw[<-v,aw];exact (aa.mp h).1
  have S:sd.getD j []=f (k,l):=by obtain⟨p,o,w⟩:=A j m;rw[o]at h;cases h;exact w
  obtain⟨k1,x,y⟩:=rT.mp B;have kx:k∉J:=λz=>by have:=(rQ.mp (H k z)).2;rw[x]at this;exact y (Option.some.inj this)
  refine⟨m,?_,by rw[S];exact (K _ B).own⟩;have q:=e (d+1+k);have:Lt sd.length (λj=>vc (sd.getD j [])) t (d+1+k)=t j*vc (sd.getD j []) (d+1+k):=N8 sd.length j m _ λE F D=>by
   obtain⟨p,o,w⟩:=A E F;have:p.1≠k:=λz=>by
    have nd:=KR us.length n;refine D (DH nd (a:=k) ?_ ?_)
    .rw[av,o];simp[z]
    .rw[av,h];rfl
   show t E*vc (sd.getD E []) (d+1+k)=0;rw[w,(K p (au o)).oth k kx (λz=>this z.symm)];simp
  rw[this]at q;grind
 have I:∀i,vc (r.drop (d+1)) i=vc r (d+1+i):=λi=>Hr r (d+1) i;have Q:∀k,k<=d->sm us.length (λi=>vc (r.drop (d+1)) i*vc (us.getD i []) k)=vc r k:=λk P=>by rw[Y k P];exact ko _ _ _ λi _=>by rw[I]
 refine⟨by rw[bU];lia,λi l R=>?_,λk P=>by rw[Q k (by lia),h0 k P],?_⟩
 .rw[I];by_cases z:l=0
  .rw[z];simp
  .have X:i<us.length:=by rw[<-L.len];exact (aa.mp R).1
   have B:=rT.mpr ⟨X,R,z⟩;obtain⟨j,m⟩:=dF.mp B;obtain⟨-,x,y⟩:=u j i l m;have:=aP (C.nn j) (aA y);rw[<-x]at this;exact aO λq=>by have:=eM hs (show l*vc r (d+1+i)<0 by lia);lia
 .rw[Q d (aK _)];rcases Int.lt_or_eq_of_le hd with q|q
  .exact .inl q
  .right;refine⟨q.symm,?_⟩;obtain⟨j,m⟩:=C.ne;have U:j<sd.length:=by
    rcases eF j sd.length with h|h
    .exact h
    .exact absurd (C.out j h) m
   obtain⟨⟨k,l⟩,o,-⟩:=A j U;obtain⟨-,x,y⟩:=u j k l o;have Z:=rT.mp (au o);refine⟨k,l,Z.2.1,λz=>?_⟩;rw[I]at z;rw[z,dO]at x;have:=aX (show 0<t j by have:=C.nn j;lia) y;lia
def JY{us:LL}{d B:Nat}{b:LI}{pv:List (Nat×LI)}{f:LL}{m:List Nat}(o:JM us.length b)(h:PV us d B (zer us.length b) pv f m){r:LI}(hr:r∈f)(u:vc r d≠0):SI us d b ((r.map λx=>kJ (vc r d)*x).drop (d+1)):=by
 obtain⟨l,z,a,w,-⟩:=h.rr r hr;have g:∀i,vc ((r.map λx=>kJ (vc r d)*x).drop (d+1)) i=kJ (vc r d)*vc r (d+1+i):=λi=>by rw[Hr,s9]
 have j:∀k,k<=d->sm us.length (λi=>vc ((r.map λx=>kJ (vc r d)*x).drop (d+1)) i*vc (us.getD i []) k)=kJ (vc r d)*vc r k:=λk e=>by rw[a k e,<-mC];exact ko _ _ _ λi _=>by rw[g];grind
 refine⟨by rw[bU,aw];lia,λi n p=>?_,λk e=>by rw[j k (by lia),z k e];simp,.inl ?_⟩
 .by_cases q:n=0
  .rw[q];simp
  .rw[g,w i λs=>?_]
   .simp
   .have:=(rQ.mp s).2;rw[p]at this;exact q (Option.some.inj this)
 .rw[j d (aK _)];unfold kJ;split
  .lia
  .split
   .lia
   .lia
structure We(us:LL)(d Wb V:Nat)(sg:LI)(s:List (Int×Int)):Prop where
 len:s.length=d
 fq:∀p∈s,Fq p/\BV V p
 wts:wts s<=Wb
 side:∀(i:Nat) (v:Int),sg[i]? = some v->(v=0->jk d (Xs s) (vc (us.getD i []))=0)/\(v≠0->0<(v:Rat)*jk d (Xs s) (vc (us.getD i [])))
noncomputable def Ns(B k:Nat):Nat:=B+k*(Pq B k+1)
structure Bg(d B Wb V:Nat)(e:Nat:=d):Prop where
 sml:Wh e B
 v1:1<=V
 vs:∀k m,k+m<=d->k<=e->(∀i,i<m->Nb (Ns B k) (m-1-i)+Sb (Ns B k) d m i+21<=V)/\(k≠0->Pq B k+Sb (Ns B k) d m m+2<=V)
 ok:∀k m,k+m<=d->k<=e->Nb (Ns B k) m<=8000/\(∀i,i<m->Nb (Ns B k) (m-1-i)+Sb (Ns B k) d m i+20<=7000)/\(k≠0->Pq B k+Sb (Ns B k) d m m+21<=8000)/\Sb (Ns B k) d m m+k*(Pq B k+Sb (Ns B k) d m m+21)<=Wb
def pA{pv:List (Nat×LI)}:k∈pY pv d↔k<d/\∀p∈pv,p.1≠k:=by
 unfold pY;rw[aU,aS];simp;intro _;constructor
 .intro h a b e z;subst z;exact h b e
 .intro h x e;exact h k x e rfl
def Dk pv d:(pY pv d).Nodup:=(eK).sublist fV
def Jj{pv:List (Nat×LI)}(h:PV us d B dn pv rs ix):pv.length+(pY pv d).length<=d:=by
 have nd:(pv.map Prod.fst++pY pv d).Nodup:=by rw[fW];refine⟨fw.mpr (h.pw.imp λq=>q.1),Dk pv d,λa g b i z=>?_⟩;obtain⟨p,e,rfl⟩:=aD.mp g;exact (pA.mp i).2 p e z
 have:=tY nd λx f=>by
  rcases ai.mp f with q|q
  .obtain⟨p,e,rfl⟩:=aD.mp q;exact aS.mpr (h.pl p e).1
  .exact aS.mpr (pA.mp q).1
 simpa using this
def J3(n:Nat)(d:n<=1000)(h:f ρ=.ok (.int (n:Int))):jy (yg (jy gV) f) ρ=.ok (.lst ((List.replicate n ((0,1):Int×Int)).map fr)):=by
 have sz:1000<sizeLine:=by decide
 have hr:EW n=true:=nW (by lia);have g:2<=sizeLine:=by decide
 have a:n<=sizeLine:=by lia
 have e:(List.replicate n [T.tup [T.int 0,T.int 1]]).flatten=(List.replicate n ((0,1):Int×Int)).map fr:=by
  clear h hr a d;induction n with
  |zero=>rfl
  |succ n ih=>rw[bZ,b4,ih,bZ];rfl
 have b:jy gV ρ=.ok (.lst [T.tup [T.int 0,T.int 1]]):=Ib (nS rfl rfl);refine iV ?_;unfold yg;rw[b,h];simp[hr,a];exact .inr rfl
def Jv.g0(h:Jv d n ss ix sd):∀r∈sd,r.length=d+1+n/\∃t,l9 sd.length [] t/\∃s:Int,0<s/\∀q,s*vc r q=Lt sd.length (λj=>vc (sd.getD j [])) t q:=λr hr=>by
 obtain⟨j,a⟩:=dF.mp hr;have b:=(aa.mp a).1;have e:sd.getD j []=r:=by rw[af,a];rfl
 refine⟨h.l r hr,rG j,⟨λi=>by unfold rG;split<;>lia,λi g=>by unfold rG;rw[aR (by lia)],⟨j,by simp[rG]⟩,λA f=>(nomatch f)⟩,1,by decide,λq=>?_⟩;rw[yC sd.length _ j b q,e,dJ]
def Jv.gen0(_:Jv d n ss ix sd):∀u,l9 sd.length [] u->Cn (Rk sd [] sd) u:=λu b=>(BC sd.length (cs sd.length u) u (aK _) b).mono λx ⟨i,hi,ex⟩=>by
 subst ex;have a:sd.getD i []∈sd:=by rw[af,ag hi];exact aV hi
 refine⟨⟨λk=>by unfold rG;split<;>lia,λk f=>by unfold rG;rw[aR (by lia)],⟨i,by simp[rG]⟩,λA e=>(nomatch e)⟩,sd.getD i [],a,1,by decide,λq=>?_⟩;rw[yC sd.length _ i hi q,dJ]
def R8{us:LL}{d N:Nat}{b:LI}{pv:List (Nat×LI)}{q:List Nat}{f:Nat×Int->LI}(m:∀p∈yN us.length b,VE us d N pv q p.1 p.2 (f p)):Jv d us.length ((yN us.length b).map Prod.fst) q ((yN us.length b).map f):=by
 have o:∀j,j<((yN us.length b).map f).length->∃p,p∈yN us.length b/\((yN us.length b).map f).getD j []=f p/\((yN us.length b).map Prod.fst).getD j 0=p.1:=λj a=>by
  rw[aw]at a;refine⟨_,aV a,?_,?_⟩
  .rw[af,av,ag a];rfl
  .rw[af,av,ag a];rfl
 refine⟨by simp,KR _ _,λi n=>?_,λr hr=>?_,λj a=>?_,λj a i n g=>?_⟩
 .obtain⟨⟨k,s⟩,e,rfl⟩:=aD.mp n;exact (rT.mp e).1
 .obtain⟨p,e,rfl⟩:=aD.mp hr;exact (m p e).len
 .obtain⟨p,e,l,h⟩:=o j a;rw[l,h];intro z;have:=(m p e).own;rw[z]at this;simp at this
 .obtain⟨p,e,l,h⟩:=o j a;rw[h]at g;rw[l];exact (m p e).oth i n g
def uv(us:LL)(d B Wb V:Nat){e0:Nat}(hd:d<=4)(hn:us.length<=8)(hl:∀u∈us,u.length=d+1)(hb:∀u∈us,∀x∈u,Bn B x)(hB:Bg d B Wb V e0)(w:LI)(J:JM us.length w)(E:∀n,n<=d->n<=(zer us.length w).length->n<=e0:=by exact λ_ h _=>h) :
  (∃ws,jG c [.lst (us.map tI),.int (d:Int),tI w]=.ok (.tup [.str "paper",tL ws])/\SI us d w ws/\∀x∈ws,Bn 8000 x)\/∃s,jG c [.lst (us.map tI),.int (d:Int),tI w]=.ok (.tup [.str "spot",tS s])/\We us d Wb V w s:=by
 have sz:1000<sizeLine:=by decide
 obtain⟨pv,rs,ix,e4,H,hrs,hpz⟩:=GG (c:=c) us d B hd hn hl hb hB.sml (zer us.length w) (λz hz=>(rQ.mp hz).1) (by
  have:=tY (m:=List.range us.length) (l:=zer us.length w) (by have h1:(zer us.length w).Sublist (((List.range us.length).zip w).map Prod.fst):=(fV).map _;exact (eK).sublist (h1.trans (pZ _ _))) λx Y=>aS.mpr (rQ.mp Y).1
  rw[fX]at this;lia) E
 have hpe:=E _ H.short hpz;have ew:=tm (c:=c) us hn (λr hr=>by have:=hl r hr;lia);rw[Da]at ew;let vs:T:=.lst (((List.range us.length).map (wr us)).map tI);let R (x4 x5 x6 x7 x8 x9 D:Option W):En:=[some (.p (.lst (us.map tI))),some (.p (.int (d:Int))),some (.p (tI w)),some (.p vs),x4,x5,x6,x7,x8,x9,D];have zo:∀x4 x5 x6 x7 x8 x9 D,m7 (gI bm bc) (nQ (R x4 x5 x6 x7 x8 x9 D))=.ok (((List.range us.length).zip w).map λp=>T.tup [tI (wr us p.1),.int p.2]):=λx4 x5 x6 x7 x8 x9 D=>nT (x:=vs) (y:=tI w) (l:=List.range us.length) (m:=w) (f:=λk=>tI (wr us k)) (g:=T.int) rfl (by show M.ok _=_;rw[aI];rfl) rfl rfl
 have zl:((List.range us.length).zip w).length<sizeLine:=by rw[dY,fX];lia
 have lc1:kh [none,none] fy a0 fI (mE c) (nQ (R none none none none none none none))=.ok (((zer us.length w).map (wr us)).map tI):=nO _ _ (λp=>tI (wr us p.1)) (λp=>p.2==0) (zo _ _ _ _ _ _ _) zl (λp A=>⟨_,rfl,g9 (gN rfl rfl (jj _ _)),λ_=>rfl⟩) (by unfold zer;rw[aI,aI];rfl)
 let fo:T:=.tup [.lst (pv.map nB),.lst (rs.map tI)];have head:∀{o:O},(gZ (setO 5 (ju (gS (gI da bd) (jH c)))) _) (R (some (.p fo)) none none none none none none)=o->nc c (i6 11 [.lst (us.map tI),.int (d:Int),tI w])=o:=λ{o} h=>gP (ρ':=R none none none none none none none) (gY (iV (B1 rfl ew)) rfl) (gP (ρ':=R (some (.p fo)) none none none none none none) (gY (iH (iV lc1) rfl e4) rfl) h)
 have hlr:∀r∈rs,r.length=d+1+us.length:=λr hr=>(H.rr r hr).1;rcases FV (c:=c) d (d+1+us.length) (by lia) (by lia) rs hlr with⟨e5,hz⟩|⟨r,hr,h0,e5⟩
 case inr=>
  left;refine⟨_,iB rfl (head (gP (ρ':=R (some (.p fo)) (some (.p (tL ((r.map λx=>kJ (vc r d)*x).drop (d+1))))) none none none none none) (gY (iH (gN rfl rfl rfl) rfl e5) rfl) (ku (i9 (g9 (gN rfl rfl rfl)) (hW (nS rfl rfl))) rfl))),JY J H hr h0,λx Y=>?_⟩;obtain⟨y,hy,rfl⟩:=aD.mp (fY Y);have b:=(H.rr r hr).2.2.2.2 y hy;have sg1:(kJ (vc r d)).natAbs<=1:=by unfold kJ;split<;>(try split)<;>simp
  exact GT sg1 b
 obtain⟨f,hf⟩:=n8 (P:=λ(p:Nat×Int) r=>mx c [tI ((wr us p.1).map λx=>p.2*x),.lst (pv.map nB)]=.ok (tI r)/\VE us d (Ns B pv.length) pv ix p.1 p.2 r) (yN us.length w) λp A=>by obtain⟨k,s⟩:=p;obtain⟨k1,k2,k3⟩:=rT.mp A;exact Nj hd hn hl hb hB.sml hpe H k1 (λz=>by have:=(rQ.mp z).2;rw[k2]at this;exact k3 (Option.some.inj this)) (J.one s (au k2)) k3
 have I:=λp A=>(hf p A).2;generalize F:(yN us.length w).map f=sd;have hS:=R8 I;rw[F]at hS;have sdl:sd.length<=8:=by rw[<-F,aw];have:(yN us.length w).length<=((List.range us.length).zip w).length:=fE _ _;rw[dY,fX]at this;lia
 have sdr:∀r∈sd,r.length=d+1+us.length/\∀x∈r,Bn (Ns B pv.length) x:=λr hr=>by rw[<-F]at hr;obtain⟨p,A,rfl⟩:=aD.mp hr;exact⟨(I p A).len,(I p A).bn⟩
 let K:Option W:=some (.p fo);let Q:Option W:=some (.p .non);let U:Option W:=some (.p (.lst (pv.map nB)));have lc2:kh [none,none,some 6] fy a0 dm (mD c) (nQ (R K Q U none none none none))=.ok (sd.map tI):=nO _ _ (λp=>tI (f p)) (λp=>p.2 != 0) (zo _ _ _ _ _ _ _) zl (λp A=>⟨_,rfl,g9 (gN rfl rfl (lq _ _)),λC=>by have E:p∈yN us.length w:=aU.mpr ⟨A,C⟩;have km:=rT.mp (show (p.1,p.2)∈_ from E);refine iH (x:=tI ((wr us p.1).map λx=>p.2*x)) (y:=.lst (pv.map nB)) (iH rfl rfl (uo _ _ (J.one _ (au km.2.1)) ?_)) rfl (hf p E).1;rw[xv us d p.1 km.1 hl];lia⟩) (by rw[<-F,aI];rfl)
 have fl:=Jj H;obtain⟨ok1,ok2,ok3,ok4⟩:=hB.ok pv.length (pY pv d).length fl hpe;have e8:=Ad (c:=c) pv d (by lia) (by lia);obtain⟨ls,e9,hy,hbl⟩:=vg (c:=c) d (d+1+us.length) (Ns B pv.length) (by lia) (by lia) sd sdl sdr pv (by lia) (pY pv d) (by lia) (λa ha=>by have:=(pA.mp ha).1;lia) ok1;rw[H.len]at hy;let Z:Nat->Prop:=λp=>∃q∈pv,q.1=p;have hZ:∀r∈sd,∀p,Z p->vc r p=0:=λr hr p ⟨q,hq,e⟩=>by rw[<-F]at hr;obtain⟨p',hp',rfl⟩:=aD.mp hr;rw[<-e];exact (I p' hp').zer q hq
 have Dh:∀p,p<d->Z p\/p∈pY pv d:=λp A=>by
  by_cases q:Z p
  .exact .inl q
  .exact .inr (pA.mpr ⟨A,λp' hp' e=>q ⟨p',hp',e⟩⟩)
 obtain⟨-,Gl,la1,N,la3,la4⟩:=zQ (sb:=true) hS hy [] rfl hS.g0 hS.gen0 Z hZ;let xs:Option W:=some (.p (.lst (sd.map tI)));let xq:Option W:=some (.p (.lst ((pY pv d).map λ(j:Nat)=>T.int (j:Int))));let xl:Option W:=some (.p (.lst (ls.map λg=>T.lst (g.map tI))));have Vz:∀{o:O},(gZ (nR (jh (gW iP (gJ 9) (pU (λi=>.int (-i)) ab))) (j6 10) (kU c)) _) (R K Q U xs xq xl none)=o->nc c (i6 11 [.lst (us.map tI),.int (d:Int),tI w])=o:=λ{o} h=>head (gP (ρ':=R K Q none none none none none) (gY (iH (gN rfl rfl rfl) rfl e5) rfl) (gP (ρ':=R K Q none none none none none) (iF (g9 (gN rfl rfl rfl)) rfl) (gP (ρ':=R K Q U none none none none) (gY (gN rfl rfl rfl) rfl) (gP (ρ':=R K Q U xs none none none) (gY (iV lc2) rfl) (gP (ρ':=R K Q U xs xq none none) (gY (iV (xr rfl rfl e8)) rfl) (gP (ρ':=R K Q U xs xq xl none) (gY (iV (wD rfl rfl rfl rfl e9)) rfl) h))))))
 have L:jh (gW iP (gJ 9) (pU (λi=>.int (-i)) ab)) (nQ (R K Q U xs xq xl none))=.ok (Gl.map tI):=by
  have e1:ls.map (λg=>T.lst (g.map tI))=(ls.dropLast.map λg=>T.lst (g.map tI))++[T.lst (Gl.map tI)]:=by
   have C:ls≠[]:=λz=>by rw[z]at N;cases N
   have h1:=dG C;have h2:ls.getLast C=Gl:=by rw[List.getLast?_eq_getLast C]at N;exact Option.some.inj N
   rw[h2]at h1;conv=>lhs;rw[<-h1]
   rw[aZ];rfl
  have e2:gW iP (gJ 9) (pU (λi=>.int (-i)) ab) (nQ (R K Q U xs xq xl none))=.ok (T.lst (Gl.map tI)):=gN (x:=.lst (ls.map λg=>T.lst (g.map tI))) (y:=.int (-1)) rfl rfl (by rw[e1];exact Dd _ _);unfold jh;rw[e2];rfl
 have gll:∀r∈Gl,r.length=d+1+us.length:=λr hr=>(la4 r hr).1;have main:=sJ (m:=j6 10) (g:=kU c) tI
  (λk ρ=>∃(D:Option W),ρ=R K Q U xs xq xl D/\∀r∈Gl.take k,vc r d<0)
  (λt=>∃r∈Gl,0<=vc r d/\t=.tup [.str "paper",tL (r.drop (d+1))]) Gl 0 _ ⟨none,rfl,λr h=>by simp at h⟩ (by
   rintro i r ρ hi ⟨D,rfl,h⟩;rw[aG]at h ⊢;have E:=au hi;have hix:iP (tI r) (.int (d:Int))=.ok (.int (vc r d)):=kz r d (by have:=gll r E;lia);refine⟨_,rfl,?_⟩;by_cases h0:0<=vc r d
   .right;exact⟨_,i9 (g9 (gN (gN rfl rfl hix) rfl (by rw[tZ];simp[h0]))) (hW (nS rfl (G4 (uM _ d rfl rfl)))),r,E,h0,rfl⟩
   .left;refine⟨_,iF (g9 (gN (gN rfl rfl hix) rfl (by rw[tZ];simp[h0]))) rfl,_,rfl,λr' hr'=>?_⟩;rw[jJ _ i r hi]at hr';rcases ai.mp hr' with q|q
    .exact h r' q
    .rw[aj.mp q];lia)
 rcases main with⟨ρ,e,D,rfl,h⟩|⟨t,e,r,E,h0,rfl⟩
 .right;rw[aG,dM]at h;have n1:1<=Ns B pv.length:=aN hB.sml.b1 (cw _ _);obtain⟨s,p1,p2,p3,p4,p5,p6⟩:=sv (c:=c) hS (Ns B pv.length) n1 (by lia) hy (by lia) (λa ha=>(pA.mp ha).1) (Dk pv d) hbl Z hZ Dh (λG hG r hr=>by rw[N]at hG;cases hG;exact h r hr) ok2 V hB.v1 (hB.vs pv.length (pY pv d).length fl hpe).1;obtain⟨s',q1,q2,q3,q4,q5,q6⟩:=JK (c:=c) d (Pq B pv.length+1) (d+1+us.length) (by lia) (by lia) (by lia) pv s p2 V p3 (λp A=>by
   obtain⟨h1,h2,h3,h4,-⟩:=H.pl p A;exact⟨h1,h2,h3,λx Y=>(h4 x Y).mono (by lia)⟩) H.pw (λp A=>p5 p.1 (H.pl p A).1 λz=>(pA.mp z).2 p A rfl) (λC=>by
   have:pv.length≠0:=λz=>C (fP.mp z);have:=ok3 this;lia) (λC=>by
   have:pv.length≠0:=λz=>C (fP.mp z);have:=(hB.vs pv.length (pY pv d).length fl hpe).2 this;lia)
  refine⟨s',iB rfl (Vz (gP (jK L e) (hW (nS rfl (iH (x:=.lst (pv.map nB)) rfl (iV (B0 rfl rfl (J3 d (by lia) rfl) p1)) q1))))),q2,q3,?_,λi v hi=>?_⟩
  .have m1:pv.length*(Pq B pv.length+1+wts s+20)<=pv.length*(Pq B pv.length+Sb (Ns B pv.length) d (pY pv d).length (pY pv d).length+21):=fj _ (by lia);lia
  .have il:i<us.length:=by rw[<-J.len];exact (aa.mp hi).1
   have ew':jk d (Xs s') (vc (wr us i))=jk d (Xs s') (vc (us.getD i [])):=wA λk hk=>by rw[xV us d i il hl,aQ (by lia)]
   rw[<-ew'];refine⟨λhv=>?_,λhv=>?_⟩
   .subst hv;refine Qs.evl0 (λx Y=>?_) (H.sp i (rQ.mpr ⟨il,hi⟩));rcases Y with⟨p,A,rfl⟩|⟨r,hr,rfl⟩
    .exact q5 p A
    .rw[oB (H.rr r hr).2.1,hz r hr];simp
   .have E:(i,v)∈yN us.length w:=rT.mpr ⟨il,hi,hv⟩;have S:=I _ E;obtain⟨g,s2,y,hg,hs2,hy',ey⟩:=S.ex;have y0:jk d (Xs s') y=0:=Qs.evl0 (λx ⟨p,A,ex⟩=>by rw[ex];exact q5 p A) hy';have rp:0<jk d (Xs s') (vc (f (i,v))):=by rw[q6 _ λp A=>S.zer p A];exact p6 _ (by rw[<-F];exact aD.mpr ⟨_,E,rfl⟩)
    have l:=qm (d:=d) (X:=Xs s') (vc (wr us i)) y (vc (f (i,v))) g (s2*v) 1 (λj=>by rw[ey j];grind);rw[y0]at l;have a1:=eQ (j3 hg) rp;rw[l]at a1;have c1:((s2*v:Int):Rat)=(s2:Rat)*(v:Rat):=by simp
    rw[c1]at a1;have a2:=j3 hs2;refine fK (c:=(s2:Rat)) ?_ (eR a2);grind
 .left;obtain⟨l4,t,ct,s,hs,e3⟩:=la4 r E;have hix:∀i∈ix,i∈zer us.length w:=H.sub;subst F;refine⟨_,iB rfl (Vz (ku (jK L e) rfl)),Tq J hix I l4 ct hs e3 (λk hk=>la3 r E k (Dh k hk)) h0,λx Y=>?_⟩;exact ((hbl _ Gl la1 r E).2 x (fY Y)).mono ok1
def B7(b:ns.length=d)(hb:∀x∈ns,Bn 84 x)(hv:Bn 84 v)(hr:∃p,p<d/\vc ns p≠0):GC d 84 (ns++[v]):=by
 refine⟨⟨by simp[b],λx e=>?_⟩,?_⟩
 .rcases ai.mp e with q|q
  .exact hb x q
  .rw[aj.mp q];exact hv
 .obtain⟨p,a,h⟩:=hr;refine⟨p,a,?_⟩;unfold vc at *;rw[af,List.getElem?_append_left (by lia),<-af];exact h
def OF(g:ns.length=d)(h:ns≠List.replicate d 0):∃p,p<d/\vc ns p≠0:=by
 refine aO λj=>h (fZ.mpr ⟨g,λb k=>?_⟩);obtain⟨i,f⟩:=List.getElem?_of_mem k;have a:i<d:=by have:=(aa.mp f).1;lia
 refine aO λe=>j ⟨i,a,?_⟩;unfold vc;rw[af,f];exact e
def SV(b:LI)(hb:∀x∈b,x.natAbs<=3):(((b.zip [1,2,(-1:Int)]).map λ(p:Int×Int)=>p.1*p.2).sum).natAbs<=1000:=by
 have e:∀b d:LI,(∀x∈b,x.natAbs<=3)->(((b.zip d).map λ(p:Int×Int)=>p.1*p.2).sum).natAbs<=3*(d.map Int.natAbs).sum:=λb=>by
  induction b with
  |nil=>intro _ _;exact bL _
  |cons a l ih=>
   intro d h;cases d with
   |nil=>exact bL _
   |cons k d=>rw[fQ,bI,eT,bI,eT,Nat.mul_add];refine aN (dz _ _) (Nat.add_le_add ?_ (ih d λx f=>h x (bz _ f)));rw[aY];exact fT _ (h a bx)
 exact aN (e b _ hb) (by decide)
def GJ cell d (fs:LL) (hd:1<=d/\d<=3) (hf:∀f∈fs,GC d 84 f) (hfl:fs.length<=10) :
  ∃u,oZ c [.int cell,.int d,.lst (fs.map tI)]=.ok (tI u)/\GC d 84 u:=by
 have sz:1000<sizeLine:=by decide
 let l:LI:=(List.range d).map λ(j:Nat)=>dr c cell j 7-3;have l0:l.length=d:=by simp[l]
 have b0:∀x∈l,x.natAbs<=3:=λx E=>by obtain⟨j,hj,rfl⟩:=aD.mp E;have hj':=aS.mp hj;obtain⟨_,a1,a2⟩:=lH (c:=c) cell j 7 (by lia) (by lia) (by lia) (by lia);lia
 obtain⟨d6,d6a,d6b⟩:=lH (c:=c) cell 6 9 (by decide) (by decide) (by lia) (by lia);obtain⟨d7,d7a,d7b⟩:=lH (c:=c) cell 7 7 (by decide) (by decide) (by lia) (by lia);generalize dr c cell 6 9=c0 at d6 d6a d6b;generalize dr c cell 7 7=way at d7 d7a d7b;let St:LI->Option W->Option W->Option W->En:=λu r s F=>[some (.p (.int cell)),some (.p (.int d)),some (.p (.lst (fs.map tI))),some (.o (u.map T.int)),r,s,F];have e0:kh [none,some 0] (lE bd) bP (λ_=>.ok true) (zY c) (nQ [some (.p (.int cell)),some (.p (.int d)),some (.p (.lst (fs.map tI))),none,none,none,none])=.ok (l.map T.int):=by refine jS (List.range d) (λ(j:Nat)=>T.int (j:Int)) (λ(j:Nat)=>T.int (dr c cell j 7-3)) (oJ d (by lia) rfl) (by simp;lia) (λj hj=>⟨_,rfl,rfl,?_⟩) (by rw[aI];rfl);have hj':=aS.mp hj;obtain⟨e,_,_⟩:=lH (c:=c) cell j 7 (by lia) (by lia) (by lia) (by lia);exact gN (kr rfl rfl rfl e) rfl (oq _ _)
 obtain⟨g,e1,l1,b1,r1⟩:∃g,(lS (iD (gW (iy false) bm db)) (zb 3 (pS (gS (gI ap (gI ia bd)) (iC c))) (pS (gW jF ab (gS (gI ap (gI (cM (.int 5)) (gI em gM))) (iC c))))) iN) (St l none none none)=.nx (St g none none none)/\g.length=d/\(∀x∈g,x.natAbs<=3)/\∃p,p<d/\vc g p≠0:=by
  have ec:iD (gW (iy false) bm db) (vw (St l none none none))=.ok (decide (l=List.replicate d 0)):=g9 (gN (x:=.lst (l.map T.int)) (y:=.lst ((List.replicate d (0:Int)).map T.int)) rfl (Mq d (by lia) rfl) (by rw[Fy];rfl))
  by_cases hz:l=List.replicate d 0
  .obtain⟨d4,d4a,d4b⟩:=lH (c:=c) cell 4 d (by lia) (by lia) (by lia) (by lia);obtain⟨d5,d5a,d5b⟩:=lH (c:=c) cell 5 3 (by lia) (by lia) (by lia) (by lia);obtain⟨p,I⟩:∃p:Nat,dr c cell 4 d=(p:Int):=⟨(dr c cell 4 d).toNat,by lia⟩;rw[I]at d4 d4b;refine⟨l.set p (1+dr c cell 5 3),i9 (by rw[ec,aC hz]) (BN (us:=l.map T.int) (t:=.int (1+dr c cell 5 3)) (j:=(p:Int)) (m:=p) rfl (gN rfl (kr rfl rfl rfl d5) (jw _ _)) rfl (kr rfl rfl rfl d4) (PN _ _ (by rw[aw];lia)) ?_),by rw[bW];exact l0,λx E=>?_,p,by lia,?_⟩
   .simp only[St,dX];rfl
   .rcases fv E with q|q
    .exact b0 x q
    .rw[q];lia
   .rw[TZ _ _ _ _ (by lia),aQ rfl];lia
  .exact⟨l,iF (by rw[ec,aB hz]) rfl,l0,b0,OF l0 hz⟩
 have C:∀x:Int,x.natAbs<=1000->Bn 84 x:=λx E=>Bn.mono (m:=10) (by unfold Bn;lia) (by decide);have hfe:∀neg,iy neg (.lst (fs.map tI)) (.lst [])=.ok (.bl (if neg then !fs.isEmpty else fs.isEmpty)):=λneg=>by rw[ym neg (fs.map tI) (by simp) (aN (Dm fs) (by decide))];simp
 let r:Int->Option W:=λv=>some (.p (.int v));let s:Option W:=some (.p (.int way));have head:∀{o:O},(gZ (lS (mj (iD j1) (iD ky)) (pX 3 (rL (IX pQ (gI (j7 (gW iP bf (gS gK (iC c))) (λ_=>.ok none) (jo ah)) gM)))) iN) _) (St g (r (c0-4)) s none)=o->AY c (i6 7 [.int cell,.int d,.lst (fs.map tI)])=o:=λ{o} h=>gP (ρ':=St l none none none) (nY e0 rfl) (gP (ρ':=St g none none none) e1 (gP (ρ':=St g (r (c0-4)) none none) (gY (gN (kr rfl rfl rfl d6) rfl (oq _ _)) rfl) (gP (ρ':=St g (r (c0-4)) s none) (gY (kr rfl rfl rfl d7) rfl) h)))
 have q1:iD j1 (vw (St g (r (c0-4)) s none))=.ok (way==1):=g9 (gN (x:=.int way) rfl rfl (jj _ _));have q2:iD ky (vw (St g (r (c0-4)) s none))=.ok (!fs.isEmpty):=g9 (gN (x:=.lst (fs.map tI)) (y:=.lst []) rfl (by simp) (by rw[hfe];rfl));have N:∀(u:LI) (v k:Int) F,iD (gW (iy false) bq (cM (.int k))) (vw (St u (r v) s F))=.ok (way==k):=λu v k F=>g9 (gN (x:=.int way) rfl rfl (jj _ _));have B:∀(u:LI) (v:Int) F,u.length=d->iU (kg j8 (gI (jy (yQ bm (jy (lstM df)))) gM)) (St u (r v) s F)=.rt (tI (u++[v])):=λu v F hl=>hW (mZ (t:=.lst (u.map T.int++[.int v])) (iV (Hm (a:=u.map T.int) (b:=[.int v]) rfl (Ib rfl) (by simp;lia))) (by simp[tI]))
 have D:∀(u:LI) (v:Int) F,(L3.rV (iD (gW (iy false) bq ek)) (iD (gW (iy false) bq em))) (vw (St u (r v) s F))=.ok (way==2||way==3):=λu v F=>by simp only[L3.rV,N,M.bind_ok];cases way==2<;>rfl
 have L:¬(way=1/\fs≠[])->(L3.mj (iD j1) (iD ky)) (vw (St g (r (c0-4)) s none))=.ok false:=λhc=>by
  simp only[L3.mj,q1,q2,M.bind_ok];by_cases K:way=1
  .have hn:fs=[]:=by
    by_cases hn:fs=[]
    .exact hn
    .exact absurd ⟨K,hn⟩ hc
   rw[K,hn];rfl
  .have:(way==1)=false:=by simpa using K
   rw[this];rfl
 by_cases hA:way=1/\fs≠[]
 .obtain⟨K,P⟩:=hA;have hlp:=List.length_pos_iff.mpr P;obtain⟨d3,d3a,d3b⟩:=lH (c:=c) cell 8 fs.length (by lia) (by lia) (by lia) (by lia);obtain⟨f,ef,hfm⟩:=FG fs (dr c cell 8 fs.length) d3a d3b;have gf:=hf f hfm;have tl:(f.take d).length=d:=by rw[bR,gf.gl.1];lia
  have nd:∀k:Int,k≠1->(way==k)=false:=λk hk=>by simp[K];lia
  refine⟨f.take d++[c0-4],iB rfl (head (gP (ρ':=St (f.take d) (r (c0-4)) s none) (i9 ?_ (nY (ts:=(f.take d).map T.int) ?_ rfl)) (gP (iF (by rw[D,nd 2 (by decide),nd 3 (by decide)];rfl) rfl) (gP (iF (by rw[N,nd 4 (by decide)]) rfl) (B _ _ _ tl))))),B7 tl (λx E=>gf.gl.2 x (d8 E)) (C _ (by lia)) ?_⟩
  .simp only[L3.mj,q1,q2,M.bind_ok];rw[K];simp[P]
  .have:=sS (fe:=gW iP bf (gS gK (iC c))) (fd:=gJ 1) (d:=d) (ts:=f.map T.int) (ρ:=nQ (St g (r (c0-4)) s none)) (gN (x:=.lst (fs.map tI)) (y:=.int (dr c cell 8 fs.length)) rfl (kr (z:=.int (fs.length:Int)) rfl rfl (mZ rfl (by simp)) d3) (by simp[tU,ef,tI])) rfl (by rw[aw,gf.gl.1];lia);simp only[IX,gI,gM,this,M.bind_ok];rw[dc];rfl
  .obtain⟨p,I,h⟩:=gf.re;refine⟨p,I,?_⟩;unfold vc at *;rw[af,List.getElem?_take,aQ I,<-af];exact h
 .have X:∀x∈g,Bn 84 x:=λx E=>C x (by have:=b1 x E;lia);by_cases H:way=2\/way=3
  .have t23:(way==2||way==3)=true:=by rcases H with h|h<;>rw[h]<;>rfl
   have n4:(way==4)=false:=by rcases H with h|h<;>rw[h]<;>rfl
   let v:Int:=((g.zip [1,2,-1]).map λp=>p.1*p.2).sum;have ez:kh [none,none] (m7 (gI bm (gI (jy (lstM (gI ab (gI ek (gI (pU (λi=>.int (-i)) ab) gM))))) gM))) a0 (λ_=>.ok true) (zV c) (vw (St g (r (c0-4)) s none))=.ok (((g.zip [1,2,-1]).map λp=>p.1*p.2).map T.int):=jS (g.zip [1,2,-1]) (λp=>T.tup [.int p.1,.int p.2]) (λp=>T.int (p.1*p.2)) (nT (x:=.lst (g.map T.int)) (y:=.lst ([1,2,-1].map T.int)) rfl rfl (iV rfl) rfl) (by rw[dY];lia) (λp I=>⟨_,rfl,rfl,gN rfl rfl (my (by have:=b1 _ (aW I).1;lia))⟩) (by rw[aI];rfl)
   have vb:=SV g b1;exact⟨g++[v],iB rfl (head (gP (iF (L hA) rfl) (gP (ρ':=St g (r v) s none) (i9 (by rw[D,t23]) (yy (oM ez (Gc _)) rfl rfl)) (gP (iF (by rw[N,n4]) rfl) (B _ _ _ l1))))),B7 l1 X (C _ vb) r1⟩
  .have U:(way==2||way==3)=false:=by have h2:¬way=2:=λz=>H (.inl z);have h3:¬way=3:=λz=>H (.inr z);simp[h2,h3]
   by_cases h4:way=4
   .obtain⟨d9,d9a,d9b⟩:=lH (c:=c) cell 9 1000000 (by decide) (by decide) (by lia) (by lia);obtain⟨d11,Y,Q⟩:=lH (c:=c) cell 11 3 (by decide) (by decide) (by lia) (by lia);obtain⟨Z,S,R⟩:=lH (c:=c) cell 10 7 (by decide) (by decide) (by lia) (by lia);obtain⟨w,ew,hw⟩:=OR [1,1,1000000000000000000] (dr c cell 11 3) Y (by simpa using Q);have e18:rq (.int 10) (.int 18)=.ok (.int 1000000000000000000):=by simp[rq,l8]
    have e6:rq (.int 10) (.int 6)=.ok (.int 1000000):=by simp[rq,l8]
    generalize dr c cell 9 1000000=f0 at d9 d9a d9b;generalize dr c cell 10 7=g0 at Z S R;let n:Int:=(1+f0)*w;have hw':1<=w/\w<=1000000000000000000:=by simp only[aF,c9,or_false]at hw;lia
    have J:n.natAbs<=1000000*1000000000000000000:=by show ((1+f0)*w).natAbs<=_;rw[aY];exact fH (by lia) (by lia)
    have hfar1:1<=n:=by have:0<(1+f0)*w:=aX (by lia) (by lia);show 1<=(1+f0)*w;lia
    have hl3:jy (lstM (gI ab (gI ab (gI (gW rq eH (cM (.int 18))) gM)))) (nQ (St g (r (c0-4)) s none))=.ok (.lst ([1,1,1000000000000000000].map T.int)):=by
     have o:gW rq eH (cM (.int 18)) (nQ (St g (r (c0-4)) s none))=.ok (.int 1000000000000000000):=gN rfl rfl e18;have h3:3<=sizeLine:=by decide
     simp only[jy,lstM,gI,gM,cM,o,M.bind_ok];rfl
    let A:LI:=g.map λx=>x*n;have es:kh [none,some 6] (jh bm) bP (λ_=>.ok true) (z9 c) (vw (St g (r (c0-4)) s (some (.p (.int n)))))=.ok (A.map T.int):=jS g T.int (λx=>T.int (x*n)) rfl (by lia) (λx E=>⟨_,rfl,rfl,gN rfl rfl (my (by have:=b1 x E;lia))⟩) (by rw[aI];rfl)
    refine⟨A++[(c0-4)*n+g0],iB rfl (head (gP (iF (L hA) rfl) (gP (iF (by rw[D,U]) rfl) (gP (ρ':=St A (r ((c0-4)*n+g0)) s (some (.p (.int n)))) (i9 (by rw[N,h4];rfl) (gP (ρ':=St g (r (c0-4)) s (some (.p (.int n)))) (gY (gN (gN rfl (kr (z:=.int 1000000) rfl rfl (gN rfl rfl e6) d9) (jw _ _)) (gN (x:=.lst ([1,1,1000000000000000000].map T.int)) (y:=.int (dr c cell 11 3)) hl3 (kr rfl rfl rfl d11) ew) (my (by lia))) rfl) (gP (ρ':=St A (r (c0-4)) s (some (.p (.int n)))) (PH es (L9 _) rfl) (gY (gN (gN rfl rfl (my (by lia))) (kr rfl rfl rfl Z) (jw _ _)) rfl)))) (B _ _ _ (by simp[A,l1])))))),B7 (by simp[A,l1]) (λx E=>?_) ?_ ?_⟩
    .obtain⟨y,hy,rfl⟩:=aD.mp E;have:=b1 y hy;unfold Bn;rw[aY];refine cg (fH this J) (by decide)
    .unfold Bn;have K:((c0-4)*n).natAbs<=5*(1000000*1000000000000000000):=by rw[aY];exact fH (by lia) J
     have h2:=dz ((c0-4)*n) g0;refine cg (aN h2 (Nat.add_le_add K (show g0.natAbs<=7 by lia))) (by decide)
    .obtain⟨p,I,h⟩:=r1;refine⟨p,I,?_⟩;have:vc A p=vc g p*n:=by unfold vc;rw[af,af,av];cases g[p]?<;>simp
     rw[this];exact cX h (by lia)
   .exact⟨g++[c0-4],iB rfl (head (gP (iF (L hA) rfl) (gP (iF (by rw[D,U]) rfl) (gP (iF (by rw[N];simp[h4]) rfl) (B _ _ _ l1))))),B7 l1 X (C _ (by lia)) r1⟩
def Ab(h:a.length=b.length):lV a b=lV b a:=by
 unfold lV;rw[h];congr 1;funext k;congr 1;funext j;rw[cT (vc a k),cT (vc a j)];by_cases q:vc b j*vc a k=vc b k*vc a j
 .rw[beq_iff_eq.mpr q,beq_iff_eq.mpr q.symm]
 .rw[beq_eq_false_iff_ne.mpr q,beq_eq_false_iff_ne.mpr λz=>q z.symm]
def xR ns (s d h:Nat) (P:1<=d/\d<=3) (U:h<=7):∃cs:LL,m8 c [.scr ns,.int s,.int d,.int h]=.ok (cs.map tI)/\y9 d 84 cs/\cs.length<=h:=by
 have sz:1000<sizeLine:=by decide
 obtain⟨H,e,cs,E,u,rfl,w,r,z⟩:=jP (m:=j6 5) (g:=xK c) (λ(i:Nat)=>T.int (i:Int))
  (λk H=>∃(cs:LL) (E u:Option W),H=[some (.p (.scr ns)),some (.p (.int s)),some (.p (.int d)),some (.p (.int h)),some (.o (cs.map tI)),E,u]/\cs.length<=k/\(∀f∈cs,GC d 84 f)/\cs.Pairwise λa b=>lV a b=false)
  (List.range h) 0 _ ⟨[],none,none,rfl,aK _,(λf n=>nomatch n),List.Pairwise.nil⟩ (by
   rintro i k H F ⟨cs,E,u,rfl,w,r,z⟩;rw[aG]at w ⊢;have D:i<h:=by simpa using (aa.mp F).1
   have B:k=i:=by rw[List.getElem?_range D]at F;cases F;rfl
   subst B;obtain⟨v,L,-⟩:=rX ns (s+k);obtain⟨j,en,A⟩:=GJ v d cs P r (by lia);let R:En:=[some (.p (.scr ns)),some (.p (.int s)),some (.p (.int d)),some (.p (.int h)),some (.o (cs.map tI)),some (.p (.int (k:Int))),some (.p (tI j))];have Q:kh [none,some 6] (jh bi) bP (iD (gS (gI ah bo) (kQ c))) (sC c) (vw R)=.ok ((cs.filter λf=>lV j f).map tI):=nO cs tI tI (λf=>lV j f) rfl (by lia) (λf n=>⟨_,rfl,g9 (iH rfl rfl (xQ (d+1) 84 j f A.gl.1 (r f n).gl.1 (by lia) (by lia) A.gl.2 (r f n).gl.2)),λ_=>rfl⟩) rfl
   have K:iD (gW (iy false) (jy (kh [none,some 6] (jh bi) bP (iD (gS (gI ah bo) (kQ c))) (sC c))) cb) (vw R)=.ok (cs.filter λf=>lV j f).isEmpty:=by refine g9 (gN (y:=.lst []) (iV Q) (by simp) ?_);rw[ym false _ (by simp) (aN (Dm _) (by decide))];simp
   have J:setO 6 (pS (gS (gI (gS (gI ap (gI (gW jF ah bq) gM)) (iM c)) (gI bf df)) (oZ c))) [some (.p (.scr ns)),some (.p (.int s)),some (.p (.int d)),some (.p (.int h)),some (.o (cs.map tI)),some (.p (.int (k:Int))),u]=.nx R:=yy (t:=tI j) (kr (iH (x:=.scr ns) (y:=.int ((s+k:Nat):Int)) rfl (gN rfl rfl (by rw[jw];simp)) L) rfl rfl en) (MU j) rfl
   by_cases C:(cs.filter λf=>lV j f)=[]
   .refine⟨_,_,rfl,.inl (gP J (i9 (K.trans (by rw[C];rfl)) (wU (us:=cs.map tI) (t:=tI j) rfl rfl (by simp;lia) rfl))),cs++[j],_,_,by rw[aZ];rfl,by simp;lia,λf n=>?_,eg.mpr ⟨z,fz _ _,λf n g I=>?_⟩⟩
    .rcases ai.mp n with q|q
     .exact r f q
     .rw[aj.mp q];exact A
    .rw[aj.mp I,Ab (by rw[(r f n).gl.1,A.gl.1])];cases S:lV j f with
     |false=>rfl
     |true=>have:=aU.mpr ⟨n,S⟩;rw[C]at this;exact nomatch this
   .refine⟨_,_,rfl,.inl (gP J (iF (K.trans (by
     cases N:(cs.filter λf=>lV j f) with
     |nil=>exact absurd N C
     |cons a l=>rfl)) rfl)),cs,_,_,rfl,by lia,r,z⟩)
 rw[aG,fX]at w;exact⟨cs,nG rfl (gP (nY (ts:=[]) (by simp) rfl) (gP (oU (oJ h (by lia) rfl) e) rfl)),⟨r,by lia,z⟩,w⟩
def OQ d us (e:f ρ=.ok (mq c d us)):uJ c.Cutting "many" f gM (k9 c) ρ=.ok (.int us.length):=by
 have b:xD c.Cutting "many" (mq c d us)=.ok ():=by unfold xD mq;exact aQ ⟨rfl,rfl⟩
 have a:k9 c [mq c d us]=.ok (.int us.length):=iB rfl (hW (mZ (GE rfl rfl) (by simp)));simp only[uJ,e,M.bind_ok,b,gM,a,M.noEr_ok]
def pC(d:Nat)(us:LL)(f:us.length<=7)(a:LI)(b:JM us.length a):kM c [mq c d us,tI a]=.ok .non:=QK rfl (iF (qw (g9 (iH (OQ d us rfl) rfl (Di us.length a b.len (by lia) λx e=>by have:=b.one x e;lia))) rfl) rfl)
def Qg{B Z V k:Nat}(v:B<=1000)(d:Nat)(q:Bg d B Z V k)(us:LL)(r:1<=d/\d<=3)(h:y9 d B us)(a:LI)(j:JM us.length a)(o:∀n,n<=d->n<=(zer us.length a).length->n<=k:=by exact λ_ h _=>h) :
  (∃f,n6 c [mq c d us,tI a]=.ok (.tup [.str "paper",tL f])/\SI us d a f/\∀x∈f,Bn 8000 x)\/∃s,n6 c [mq c d us,tI a]=.ok (.tup [.str "spot",tS s])/\We us d Z V a s:=by
 have m:=h.few;have g:=uv (c:=c) us d B Z V (by lia) (by lia) (λu i=>(h.gc u i).gl.1) (λu i=>(h.gc u i).gl.2) q a j o;have run:∀t,jG c [.lst (us.map tI),.int d,tI a]=.ok t->n6 c [mq c d us,tI a]=.ok t:=λt l=>iB rfl (gP (yH (iH rfl rfl (pC d us m a j))) (hW (kr (iV (yA d us rfl)) (yt d us rfl) rfl l)))
 rcases g with⟨f,e,p,b⟩|⟨s,e,p⟩
 .exact .inl ⟨f,run _ e,p,b⟩
 .exact .inr ⟨s,run _ e,p⟩
def Ar(us:LL)(a:LI)(k:Nat):Int:=((a.zip us).map λp=>p.1*vc p.2 k).sum
def Hn(us:LL)(d:Nat)(b a:LI):Bool:=((b.zip a).all λp=>Ir p.1 p.2)&&((decide ((List.range d).map (Ar us a)=List.replicate d 0))&&(if Ar us a d=0 then (b.zip a).any λp=>p.1 != 0&&p.2 != 0 else decide (0<Ar us a d)))
def BW(f:s.natAbs<=1):Ir s w=!decide (w*s<0):=by
 unfold Ir kJ;have:s=0\/s=1\/s = -1:=by lia
 rcases this with rfl|rfl|rfl
 .simp
 .rcases fJ w 0 with h|h|h
  .have d:¬(0<w):=by lia
   have a:w≠0:=by lia
   simp[h,d,a]
  .subst h;simp
  .have a:w≠0:=by lia
   have e:¬w<0:=by lia
   simp[h,a,e]
 .rcases fJ w 0 with h|h|h
  .have d:¬(0<w):=by lia
   have a:w≠0:=by lia
   have b:¬(w * -1<0):=by lia
   simp[h,d,a,b]
  .subst h;simp
  .have a:w≠0:=by lia
   have b:(w * -1<0):=by lia
   simp[h,a,b]
theorem L4(p:Int->Int->Bool):∀a b:LI,(a.zip b).any (λx=>p x.1 x.2)=(b.zip a).any (λx=>p x.2 x.1)
 |[],b=>by simp
 |_::_,[]=>by simp
 |x::a,y::b=>by simp[L4 p a b]
theorem Kn(p:Int->Int->Bool):∀a b:LI,(a.zip b).all (λx=>p x.1 x.2)=(b.zip a).all (λx=>p x.2 x.1)
 |[],b=>by simp
 |_::_,[]=>by simp
 |x::a,y::b=>by simp[Kn p a b]
def JB us ws d:((List.range (d+1)).map (Ar us ws)).take d=(List.range d).map (Ar us ws):=by rw[List.range_succ,aZ,List.take_left' (by simp)]
def OS us ws d:iP (.lst (((List.range (d+1)).map (Ar us ws)).map T.int)) (.int (d:Int))=.ok (.int (Ar us ws d)):=by rw[Cj _ d (by simp)];congr 2;rw[af,av,List.getElem?_range (by lia)];rfl
def Ei{N:Nat}(hN:N<=1000)(d:Nat)(us:LL)(hd:1<=d/\d<=3)(h:y9 d N us)(j:LI)(D:JM us.length j)(f:LI)(hw:f.length=us.length)(J:∀x∈f,Bn 9000 x):mU c [.lst (us.map tI),.int d,tI j,tL f]=.ok (.bl (Hn us d j f)):=by
 have sz:1000<sizeLine:=by decide
 have hn:=h.few;let R (l o x6 x7:Option W):En:=[some (.p (.lst (us.map tI))),some (.p (.int d)),some (.p (tI j)),some (.p (tL f)),l,o,x6,x7];have I:=rZ (m:=kX 2 bu) (g:=xH c) (λ(p:Int×Int)=>T.tup [.int p.1,.int p.2]) (λρ=>∃l o,ρ=R l o none none)
  (λp=>!decide (p.1*p.2<0)) (.bl false) (f.zip j) (R none none none none) ⟨none,none,rfl⟩ (by rintro⟨w,s⟩ i ρ ⟨l,o,rfl⟩;have Z:=D.one s (aW i).2;have Q:iD (gW EU (gW jE bi bq) ac) (vw (R (some (.p (.int w))) (some (.p (.int s))) none none))=.ok (decide (w*s<0)):=g9 (gN (gN rfl rfl (iJ (rA (by lia)))) rfl (rK _ _));refine⟨_,rfl,λF=>⟨_,iF (Q.trans (by simpa using F)) rfl,_,_,rfl⟩,λF=>i9 (Q.trans (by simpa using F)) (hW rfl)⟩)
 have A:((f.zip j).all λp=>!decide (p.1*p.2<0))=((j.zip f).all λp=>Ir p.1 p.2):=by rw[Kn (λa b=>!decide (a*b<0)) f j,Bool.eq_iff_iff,cD,cD];exact⟨λq p i=>by rw[BW (D.one _ (aW i).1)];exact q p i,λq p i=>by have:=q p i;rw[BW (D.one _ (aW i).1)]at this;exact this⟩
 rw[A]at I;have L:m7 (gI bm bc) (nQ (R none none none none))=.ok ((f.zip j).map λp=>T.tup [.int p.1,.int p.2]):=nT rfl rfl rfl rfl;unfold Hn;cases U:((j.zip f).all λp=>Ir p.1 p.2) with
 |false=>exact iB rfl (ku (jK L (I.2 U)) rfl)
 |true=>
  obtain⟨ρ,e,l,o,rfl⟩:=I.1 U;let r:Option W:=some (.p (.lst (((List.range (d+1)).map (Ar us f)).map T.int)));have X:kh [none,some 3,some 0] (lE (gI eB gM)) bP (λ_=>.ok true) (xM c) (nQ (R l o none none))=.ok (((List.range (d+1)).map (Ar us f)).map T.int):=by
   refine jS (List.range (d+1)) (λ(k:Nat)=>T.int (k:Int)) (λk=>T.int (Ar us f k)) (oJ (d+1) (by lia) (gN rfl rfl (by rw[jw];simp))) (by simp;lia) (λk hk=>⟨_,rfl,rfl,?_⟩) (by rw[aI];rfl);have Y:=aS.mp hk;have e7:kh [none,none,some 0] (m7 ip) a0 (λ_=>.ok true) (xP c) [some (.int (k:Int)),some (tL f),some (.lst (us.map tI))]=.ok (((f.zip us).map λp=>p.1*vc p.2 k).map T.int):=jS (f.zip us) (λp=>T.tup [.int p.1,tI p.2]) (λp=>T.int (p.1*vc p.2 k)) (nT rfl rfl rfl rfl) (by rw[dY];lia) (λp i=>⟨_,rfl,rfl,gN rfl (gN rfl rfl (kz p.2 k (by rw[(h.gc _ (aW i).2).gl.1];lia))) (iJ ((J _ (aW i).1).ok (n:=N) (by refine (h.gc _ (aW i).2).gl.2 _ ?_;rw[af,ag (show k<p.2.length by rw[(h.gc _ (aW i).2).gl.1];lia)];exact aV _) (by lia) (by lia)))⟩) (by rw[aI];rfl)
   exact oM e7 (Gc _)
  let v:LI:=((f.zip j).filter λp=>p.1*p.2 != 0).map Prod.fst;have e8:kh [none,none] fy a0 (iD (gW (iy true) (gW jE ap ah) ac)) (xS c) (nQ (R l o r none))=.ok (v.map T.int):=nO (f.zip j) (λp=>T.tup [.int p.1,.int p.2]) (λp=>T.int p.1) (λp=>p.1*p.2 != 0) (nT rfl rfl rfl rfl) (by rw[dY];lia) (λp i=>⟨_,rfl,g9 (gN (gN rfl rfl (iJ (rA (by have:=D.one _ (aW i).2;lia)))) rfl (lq _ _)),λ_=>rfl⟩) (by rw[aI];rfl)
  have H:(!decide (v=[]))=((j.zip f).any λp=>p.1 != 0&&p.2 != 0):=by
   rw[L4 (λa b=>a != 0&&b != 0) j f];by_cases q:v=[]
   .rw[aC q];have:=List.map_eq_nil_iff.mp q;rw[f9]at this;symm;rw[Bool.not_true,bH];intro p i z;refine this p i ?_;simp at z ⊢;exact⟨z.2,z.1⟩
   .rw[aB q,Bool.not_false];symm;obtain⟨x,hx⟩:=List.exists_mem_of_ne_nil _ q;obtain⟨p,i,-⟩:=aD.mp hx;obtain⟨E,u⟩:=aU.mp i;rw[dZ];refine⟨p,E,?_⟩;simp at u ⊢;exact⟨u.2,u.1⟩
  refine iB rfl (gP (jK L e) (gP (ρ':=R l o r none) (gY (iV X) rfl) ?_));have S:iD (gW (iy true) (j7 dd (λ_=>.ok none) (jo ah)) db) (vw (R l o r none))=.ok (!decide ((List.range d).map (Ar us f)=List.replicate d 0)):=by refine g9 (gN (x:=.lst (((List.range d).map (Ar us f)).map T.int)) (y:=.lst ((List.replicate d (0:Int)).map T.int)) ?_ (Mq d (by lia) rfl) (by rw[Fy];rfl));have:=Br (fe:=gJ 6) (fd:=gJ 1) (d:=d) (ts:=((List.range (d+1)).map (Ar us f)).map T.int) (ρ:=vw (R l o r none)) rfl rfl;rw[<-dc,JB]at this;exact this
  cases P:decide ((List.range d).map (Ar us f)=List.replicate d 0) with
  |false=>exact ku (i9 (by rw[S,P];rfl) (hW rfl)) rfl
  |true=>
   let C:Option W:=some (.p (.lst (v.map T.int)));refine gP (iF (by rw[S,P];rfl) rfl) (gP (ρ':=R l o r C) (gY (iV e8) rfl) (hW ?_));have K:=OS us f d;have g1:gW BY (gW iP dd ah) ac (vw (R l o r C))=.ok (.bl (decide (0<Ar us f d))):=gN (gN rfl rfl K) rfl (uh _ _);have g2:gW (iy false) (gW iP dd ah) ac (vw (R l o r C))=.ok (.bl (Ar us f d==0)):=gN (gN rfl rfl K) rfl (jj _ _);have g3:gW (iy true) im cb (vw (R l o r C))=.ok (.bl (!decide (v=[]))):=gN (x:=.lst (v.map T.int)) (y:=.lst (([]:LI).map T.int)) rfl (by simp) (by rw[Fy];rfl);simp only[VW,B2,iD,g1,g2,g3,M.bind_ok,H];by_cases B:Ar us f d=0
   .rw[aQ B,B];rfl
   .rw[aR B];have:(Ar us f d==0)=false:=by simpa using B
    rw[this];cases decide (0<Ar us f d)<;>rfl
def SQ w (h:f ρ=.ok (.int w)):gW vf (kg xN (gI (gW BY f ac) gM)) (kg xN (gI (gW EU f ac) gM)) ρ=.ok (.int (kJ w)):=by
 unfold kJ;by_cases b:0<w
 .have a:¬w<0:=by lia
  simp[h,b,a]
 .by_cases a:w<0
  .simp[h,b,a]
  .simp[h,b,a]
def MB(d:a ρ=.rf ts)(hr:.rf ts=r):gZ a b ρ=r:=by unfold gZ;rw[d];exact hr
def Wm a b (d:(PyData.str a).canLay0=true) (hb:(PyData.str b).canLay0=true):iy false (.str a) (.str b)=.ok (.bl (a==b)):=by simp[iy,vm,tX,d,hb]
def FW:(PyData.str "paper").canLay0=true:=by rw[PyData.canLay0];decide +kernel
def Gh:(PyData.str "spot").canLay0=true:=by rw[PyData.canLay0];decide +kernel
def SY:iy false (.str "paper") (.str "paper")=.ok (.bl true):=by rw[Wm _ _ FW FW];congr 2
def Rp:iy false (.str "paper") (.str "spot")=.ok (.bl false):=by rw[Wm _ _ FW Gh];congr 2
def Mz:iy false (.str "spot") (.str "spot")=.ok (.bl true):=by rw[Wm _ _ Gh Gh];congr 2
theorem t5:∀n g t,(∀i,i<n->0<=(t i:Rat)*jk d X (g i))->0<=jk d X (Lt n g t)/\((∃i,i<n/\0<(t i:Rat)*jk d X (g i))->0<jk d X (Lt n g t))
 |0,g,t,_=>by
  have e:jk d X (Lt 0 g t)=0:=by have z:Lt 0 g t=λ_=>0:=rfl;rw[z,oB λ_ _=>rfl];simp
  rw[e];exact⟨gh,λ⟨i,a,_⟩=>absurd a (dg i)⟩
 |n+1,g,t,h=>by
  obtain⟨k,b⟩:=t5 n (λj=>g (j+1)) (λj=>t (j+1)) λi a=>h (i+1) (by lia);have l:=qm (d:=d) (X:=X) (g 0) (Lt n (λj=>g (j+1)) (λj=>t (j+1))) (Lt (n+1) g t) 1 (t 0) 1 (λi=>by show 1*(t 0*g 0 i+sm n λj=>t (j+1)*g (j+1) i)=t 0*g 0 i+1*(sm n λj=>t (j+1)*g (j+1) i);lia)
  have f:((1:Int):Rat)=1:=rfl;rw[f]at l;refine⟨by grind,λ⟨i,a,hp⟩=>?_⟩;cases i with
  |zero=>grind
  |succ i=>have:=b ⟨i,by lia,hp⟩;grind
def vq(us:LL)(d:Nat)(a:LI)(X:Nat->Rat):Prop:=∀(i:Nat) (v:Int),a[i]? = some v->(v=0->jk d X (vc (us.getD i []))=0)/\(v≠0->0<(v:Rat)*jk d X (vc (us.getD i [])))
def NT{us:LL}{d:Nat}{j f:LI}{X:Nat->Rat}(y:JM us.length j)(h:vq us d j X)(p:SI us d j f):False:=by
 have g:∀i,i<us.length->∀v,j[i]? = some v->0<=(vc f i)*jk d X (vc (us.getD i []))/\(v*vc f i≠0->0<(vc f i:Rat)*jk d X (vc (us.getD i []))):=λi u v hv=>by
  obtain⟨a,b⟩:=h i v hv;have m:=p.may i v hv;have o:=y.one v (au hv);generalize jk d X (vc (us.getD i []))=e at a b;generalize vc f i=w at m ⊢;have:v=0\/v=1\/v = -1:=by lia
  rcases this with rfl|rfl|rfl
  .rw[a rfl];simp
  .have x:=b (by decide);have A:((1:Int):Rat)=1:=rfl;rw[A]at x;have l:(0:Rat)<e:=by grind
   have s:0<=w:=by lia
   have n:(0:Rat)<=(w:Rat):=by exact_mod_cast s
   refine⟨fR n (eR l),λz=>eQ (j3 (by lia)) l⟩
  .have x:=b (by decide);have A:((-1:Int):Rat) = -1:=rfl;rw[A]at x;have l:(0:Rat) < -e:=by grind
   have s:0<=-w:=by lia
   have n:(0:Rat)<=((-w:Int):Rat):=by exact_mod_cast s
   have F:=fR n (eR l);have C:((-w:Int):Rat) = -(w:Rat):=by simp
   rw[C]at F;refine⟨by grind,λz=>?_⟩;have E:=eQ (j3 (show 0 < -w by lia)) l;rw[C]at E;grind
 have all:∀i,i<us.length->0<=(vc f i:Rat)*jk d X (vc (us.getD i [])):=λi u=>by
  have:i<j.length:=by rw[y.len];exact u
  exact (g i u _ (ag this)).1
 obtain⟨I,D⟩:=t5 us.length (λi=>vc (us.getD i [])) (vc f) all;have z:jk d X (Lt us.length (λi=>vc (us.getD i [])) (vc f)) = -((Lt us.length (λi=>vc (us.getD i [])) (vc f) d:Int):Rat):=oB λk H=>p.zer k H;rcases p.fin with q|⟨q,i,v,hv,r⟩
 .have:=j3 (show 0<Lt us.length (λi=>vc (us.getD i [])) (vc f) d from q);grind
 .have B:i<us.length:=by rw[<-y.len];exact (aa.mp hv).1
  have:=D ⟨i,B,(g i B v hv).2 r⟩;rw[z]at this;have e:Lt us.length (λi=>vc (us.getD i [])) (vc f) d=0:=q;rw[e]at this;simp at this
theorem BJ x0 x1 N (H:N<=1000):∀(f:List (Int×(Int×Int))) (iX a:Int) (A B:Nat) (v:Rat) (h j:Option W),(∀p∈f,Bn N p.1/\Fq p.2)->f.length<=10->A+B+2*f.length+2*wts (f.map Prod.snd)<=500000->N+B<=A->Bn A iX->Bn B a->0<a->(iX:Rat)=(a:Rat)*v->
  ∃d b m r,jU (kX 2 bu) (kP c) (f.map HW) [x0,x1,some (.p (.int iX)),some (.p (.int a)),h,j]=.nx [x0,x1,some (.p (.int d)),some (.p (.int b)),m,r]/\0<b/\(d:Rat)=(b:Rat)*(v+(f.map λp=>(p.1:Rat)*qv p.2).sum)
 |[],iX,a,A,B,v,h,j,_,_,_,_,_,_,hb,e=>⟨iX,a,h,j,rfl,hb,by rw[e];simp;grind⟩
 | (n,p)::f,iX,a,A,B,v,h,j,hp,hl,hA,hAB,b1,b2,hb,e=>by
  obtain⟨g,i⟩:=hp (n,p) (by simp);simp only at g i;have hw:wts (((n,p)::f).map Prod.snd)=wt p+wts (f.map Prod.snd):=by simp[wts]
  rw[hw]at hA;rw[ay]at hA hl;have l:Bn (wt p) p.1:=(EB _).mono (du _ _);have k:Bn (wt p) p.2:=(EB _).mono (dw _ _);have E:=iJ (b1.ok k (by lia) (by lia));have K:=iJ (g.ok l (by lia) (by lia));have u:=iJ ((g.mul l).ok b2 (by lia) (by lia));have D:=iJ (b2.ok k (by lia) (by lia));have bt:Bn (A+wt p+1) (iX*p.2+n*p.1*a):=((b1.mul k).add ((g.mul l).mul b2)).mono (by lia);have x:Bn (B+wt p) (a*p.2):=b2.mul k;have F:=i.pos;have p0:(p.2:Rat)≠0:=by
   intro z;have:p.2=0:=by exact_mod_cast z
   lia
  have I:((iX*p.2+n*p.1*a:Int):Rat)=((a*p.2:Int):Rat)*(v+(n:Rat)*qv p):=by
   have J:((iX*p.2+n*p.1*a:Int):Rat)=(iX:Rat)*(p.2:Rat)+(n:Rat)*(p.1:Rat)*(a:Rat):=by simp
   have L:((a*p.2:Int):Rat)=(a:Rat)*(p.2:Rat):=by simp
   rw[J,L,e];unfold qv;grind
  obtain⟨d,b,m,r,C,s,w⟩:=BJ x0 x1 N H f (iX*p.2+n*p.1*a) (a*p.2) (A+wt p+1) (B+wt p) (v+(n:Rat)*qv p) (some (.p (.int n))) (some (.p (fr p))) (λq i=>hp q (by simp[i])) (by lia) (by lia) (by lia) bt x (aX hb F) I;refine⟨d,b,m,r,?_,s,?_⟩
  .rw[bI,jU];have y:kP c [x0,x1,some (.p (.int iX)),some (.p (.int a)),some (.p (.int n)),some (.p (fr p))]=.nx [x0,x1,some (.p (.int (iX*p.2+n*p.1*a))),some (.p (.int (a*p.2))),some (.p (.int n)),some (.p (fr p))]:=
    gP (gY (gN (gN rfl (gN rfl rfl (mK p)) E) (gN (gN rfl (gN rfl rfl (oC p)) K) rfl u) (jw _ _)) rfl) (gY (gN rfl (gN rfl rfl (mK p)) D) rfl)
   show (match kP c [x0,x1,some (.p (.int iX)),some (.p (.int a)),some (.p (.int n)),some (.p (fr p))] with|.nx ρ2=>jU (kX 2 bu) (kP c) (f.map HW) ρ2|.ct ρ2=>jU (kX 2 bu) (kP c) (f.map HW) ρ2|.bk ρ2=>.nx ρ2|o=>o)=_;rw[y];exact C
  .rw[w,bI,eT];grind
def Mr a:0<=kJ a*a/\(a≠0->0<kJ a*a/\kJ a*kJ a=1/\kJ a≠0):=by
 unfold kJ;split
 .exact⟨by lia,λ_=>⟨by lia,rfl,by decide⟩⟩
 .split
  .exact⟨by lia,λ_=>⟨by lia,rfl,by decide⟩⟩
  .exact⟨by lia,λh=>by lia⟩
def Ci(x:Rat):Int:=if 0<x then 1 else if x<0 then -1 else 0
def KB{iX a:Int}(hb:0<a)(e:(iX:Rat)=(a:Rat)*v):kJ iX=Ci v:=by
 have f:=j3 hb;unfold kJ Ci;rcases fJ iX 0 with h|h|h
 .have d:(iX:Rat)<0:=by exact_mod_cast h
  have b:v<0:=by refine fK ?_ (eR f);grind
  rw[aR (by lia),aQ h,aR (by grind),aQ b]
 .have d:(iX:Rat)=0:=by rw[h];rfl
  have b:v=0:=by grind
  rw[aR (by lia),aR (by lia),aR (by grind),aR (by grind)]
 .have d:=j3 h;have b:0<v:=by refine fK ?_ (eR f);grind
  rw[aQ h,aQ b]
def JL(C:B<=900) d u (g:GL d B u) (A:d<=3) s (w:s.length=d) (q:∀p∈s,Fq p) (hw:wts s<=200000):iP (tI u) (.int (-1))=.ok (.int (vc u d))/\∃iX a h i,jU (kX 2 bu) (kP c) ((u.zip s).map HW) [some (.p (tI u)),some (.p (tS s)),some (.p (.int (-(vc u d)))),some (.p (.int 1)),none,none]=.nx [some (.p (tI u)),some (.p (tS s)),some (.p (.int iX)),some (.p (.int a)),h,i]/\kJ iX=Ci (jk d (Xs s) (vc u)):=by
 have k:=g.1;have o:iP (tI u) (.int (-1))=.ok (.int (vc u d)):=by
  have b:u≠[]:=λz=>by rw[z]at k;simp at k
  have:uV (u.map T.int) (-1)=some (.int (vc u d)):=by
   rw[JS _ (by simpa using b),List.getLast?_map,List.getLast?_eq_getElem?];have e:u.length-1=d:=by lia
   rw[e,ag (by lia)];unfold vc;rw[af,ag (by lia)];rfl
  simp[tI,this]
 have m:Bn B (vc u d):=by refine g.2 _ ?_;unfold vc;rw[af,ag (by lia)];exact aV _
 have r:(u.zip s).map Prod.snd=s:=by rw[List.map_snd_zip];lia
 obtain⟨iX,a,h,i,e,v,j⟩:=BJ (some (.p (tI u))) (some (.p (tS s))) B (by lia) (u.zip s) (-(vc u d)) 1 (B+1) 1 (-(vc u d)) none none (λp l=>⟨g.2 _ (aW l).1,q _ (aW l).2⟩) (by rw[dY];lia) (by rw[r,dY];lia) (by lia) (m.neg.mono (by lia)) Fi (by decide) (by
  have x:((-(vc u d):Int):Rat) = -(vc u d):=by simp
  have y:((1:Int):Rat)=1:=rfl;rw[x,y];grind)
 have f:-(vc u d)+((u.zip s).map λp=>p.1*qv p.2).sum=jk d (Xs s) (vc u):=by have:=zp d s u w (by lia);unfold Jq at this;rw[this];unfold jk;grind
 rw[f]at j;have n:=KB v j;exact⟨o,iX,a,h,i,e,n⟩
def Ef(h:B<=900) d u (g:GL d B u) (a:d<=3) s (b:s.length=d) (j:∀p∈s,Fq p) (hw:wts s<=200000):lG c [tI u,tS s]=.ok (.int (Ci (jk d (Xs s) (vc u)))):=by obtain⟨f,iX,k,m,l,e,i⟩:=JL h d u g a s b j hw;rw[<-i];exact iB rfl (gP (gY (pM (gN rfl rfl f)) rfl) (gP (gY rfl rfl) (gP (jK (nT rfl rfl rfl rfl) e) (hW (SQ iX rfl)))))
def yL p (h:Fq p):jM c [fr p]=.ok (.bl true):=by have e:(L3.rV (L3.lA j2) (L3.rV (iD (gW (iy true) (kg kH bo) ek)) (L3.rV (L3.lA (iD (gS (gI di gM) (iT c)))) (L3.lA (iD (gS (gI ca gM) (iT c))))))) (vw (i6 1 [fr p]))=.ok false:=rfl;refine iB rfl (gP (iF e rfl) (hW ?_));have b:gW BY ca ac (vw (i6 1 [fr p]))=.ok (.bl true):=gN (gN rfl rfl (mK p)) rfl (by rw[uh];simp[h.pos]);have d:gW (iy false) (gS (gI di (gI ca gM)) (kK c)) ab (vw (i6 1 [fr p]))=.ok (.bl true):=gN (iH (gN rfl rfl (oC p)) (gN rfl rfl (mK p)) (uA p.1 p.2)) rfl (by rw[jj,h.one];rfl);have a:=g9 b;simp only[B2,a,d,M.bind_ok];rfl
def IV(d:Nat) s (f:s.length=d) (h:d<=3) (g:∀p∈s,Fq p):kf c [tS s,.int d]=.ok (.bl true):=by
 have sz:1000<sizeLine:=by decide
 have a:kh [none] fm bP (λ_=>.ok true) (sV c) (vw (i6 2 [tS s,.int d]))=.ok ((s.map λ_=>true).map T.bl):=jS s fr (λ_=>T.bl true) rfl (by lia) (λp e=>⟨_,rfl,rfl,oO rfl (yL p (g p e))⟩) (by simp)
 have b:(L3.rV (L3.lA j2) gi) (vw (i6 2 [tS s,.int d]))=.ok false:=by simp[tS,f]
 exact iB rfl (gP (iF b rfl) (hW (oM a (by rw[t6];simp))))
def FK(n:Nat) ws (d:ws.length=n) (f:n<=8):kR c [tL ws,.int n]=.ok (.bl true):=by
 have sz:1000<sizeLine:=by decide
 have w:∀i:Int,iT c [.int i]=.ok (.bl true):=λi=>rfl;have a:kh [none] fm bP (λ_=>.ok true) (tf c) (vw (i6 2 [tL ws,.int n]))=.ok ((ws.map λ_=>true).map T.bl):=jS ws T.int (λ_=>T.bl true) rfl (by lia) (λp e=>⟨_,rfl,rfl,oO rfl (w p)⟩) (by simp)
 have b:(L3.rV (L3.lA (iD (pE "list" ap))) gi) (vw (i6 2 [tL ws,.int n]))=.ok false:=by simp[tL,d]
 exact iB rfl (gP (iF b rfl) (hW (oM a (by rw[t6];simp))))
theorem Ks k:∀a us,a.length=us.length->Ar us a k=sm us.length (λi=>vc a i*vc (us.getD i []) k)
 |[],[],_=>rfl
 |w::a,u::us,h=>by have:=Ks k a us (by simpa using h);show w*vc u k+Ar us a k=vc (w::a) 0*vc ((u::us).getD 0 []) k+sm us.length (λi=>vc (w::a) (i+1)*vc ((u::us).getD (i+1) []) k);rw[this];rfl
def Iu{us:LL}{d:Nat}{f a:LI}(j:JM us.length f)(p:SI us d f a):Hn us d f a=true:=by
 have t:=λk=>Ks k a us p.len;unfold Hn;have o:((f.zip a).all λq=>Ir q.1 q.2)=true:=cD.mpr λq h=>by
  obtain⟨i,g⟩:=dF.mp h;rw[List.getElem?_zip_eq_some]at g;rw[BW (j.one _ (aW h).1)];have:=p.may i q.1 g.1;have e:vc a i=q.2:=by unfold vc;rw[af,g.2];rfl
  rw[e,cT]at this;simp;lia
 have m:(List.range d).map (Ar us a)=List.replicate d 0:=fZ.mpr ⟨by simp,λx n=>by obtain⟨k,r,rfl⟩:=aD.mp n;rw[t k];exact p.zer k (aS.mp r)⟩
 rw[o,aC m,dH,dH];rcases p.fin with q|⟨q,i,v,hv,b⟩
 .rw[<-t d]at q;rw[aR (by lia),aC q]
 .rw[<-t d]at q;rw[aQ q,dZ];have l:i<a.length:=by rw[p.len,<-j.len];exact (aa.mp hv).1
  refine⟨(v,vc a i),dF.mpr ⟨i,List.getElem?_zip_eq_some.mpr ⟨hv,?_⟩⟩,?_⟩
  .unfold vc;rw[af,ag l];rfl
  .have:v≠0/\vc a i≠0:=⟨λz=>b (by rw[z];simp),λz=>b (by rw[z];simp)⟩;simp[this.1,this.2]
def Oq{us:LL}{d:Nat}{g:LI}{X:Nat->Rat}(k:JM us.length g)(h:vq us d g X):(us.map λu=>Ci (jk d X (vc u)))=g:=by
 apply fM
 .simp[k.len]
 .intro i f l;rw[aw]at f;obtain⟨a,b⟩:=h i g[i] (ag l);have o:=k.one _ (aV l);have m:us.getD i []=us[i]:=by rw[af,ag f];rfl
  rw[m]at a b;rw[dN];generalize jk d X (vc us[i])=e at a b;generalize g[i]=v at a b o;have:v=0\/v=1\/v = -1:=by lia
  unfold Ci;rcases this with rfl|rfl|rfl
  .rw[a rfl,aR (by grind),aR (by grind)]
  .have j:=b (by decide);have f:((1:Int):Rat)=1:=rfl;rw[f]at j;rw[aQ (by grind)]
  .have j:=b (by decide);have f:((-1:Int):Rat) = -1:=rfl;rw[f]at j;rw[aR (by grind),aQ (by grind)]
def ML{B Z V z:Nat}(o:B<=900)(J:Z<=20000)(d:Nat)(F:Bg d B Z V z)(us:LL)(i:1<=d/\d<=3)(h:y9 d B us)(f:LI)(j:JM us.length f)(A:∀n,n<=d->n<=(zer us.length f).length->n<=z:=by exact λ_ h _=>h) :
  (∃g,n6 c [mq c d us,tI f]=.ok (.tup [.str "paper",tL g])/\SI us d f g/\lF c [mq c d us,.lst (us.map tI),.int d,tI f]=.ok (.bl false))\/
  ∃s,n6 c [mq c d us,tI f]=.ok (.tup [.str "spot",tS s])/\We us d Z V f s/\lF c [mq c d us,.lst (us.map tI),.int d,tI f]=.ok (.bl true):=by
 have sz:1000<sizeLine:=by decide
 have I:=h.few;let R (a:Option W):En:=[some (.p (mq c d us)),some (.p (.lst (us.map tI))),some (.p (.int d)),some (.p (tI f)),a];rcases Qg (c:=c) (aN o (by decide)) d F us i h f j A with⟨g,e,p,b⟩|⟨s,e,p⟩
 .left;let a:Option W:=some (.p (.tup [.str "paper",tL g]));have v:(L3.rV (L3.lA (iD (pE "tuple" bi))) io) (vw (R a))=.ok false:=rfl;have w:(L3.mj (iD c5) (iD (gS (gI da bc) (kf c)))) (vw (R a))=.ok false:=tq (g9 (gN (x:=.str "paper") (gN rfl rfl rfl) rfl Rp));have r:iD gg (vw (R a))=.ok true:=g9 (gN (x:=.str "paper") (gN rfl rfl rfl) rfl SY);have l:iD (gS (gI da (gI gk gM)) (kR c)) (vw (R a))=.ok true:=g9 (iH (x:=tL g) (gN rfl rfl rfl) (mZ rfl (by simp)) (FK us.length g p.len (by lia)));have E:iD (gS ic (mU c)) (vw (R a))=.ok true:=by have:=Ei (c:=c) (aN o (by decide)) d us i h f j g p.len (λx H=>(b x H).mono (by lia));rw[Iu j p]at this;exact g9 (Lr (u:=tL g) rfl rfl rfl (gN rfl rfl rfl) this)
  have m:(L3.mj (iD gg) (L3.mj (iD (gS (gI da (gI gk gM)) (kR c))) (iD (gS ic (mU c))))) (vw (R a))=.ok true:=by simp only[L3.mj,r,l,E,M.bind_ok];rfl
  exact⟨g,e,p,iB rfl (gP (ρ':=R a) (gY (iH rfl rfl e) rfl) (gP (iF v rfl) (gP (iF w rfl) (ku (i9 m (hW rfl)) rfl))))⟩
 .right;let a:Option W:=some (.p (.tup [.str "spot",tS s]));have v:(L3.rV (L3.lA (iD (pE "tuple" bi))) io) (vw (R a))=.ok false:=rfl;have r:iD c5 (vw (R a))=.ok true:=g9 (gN (x:=.str "spot") (gN rfl rfl rfl) rfl Mz);have l:iD (gS (gI da bc) (kf c)) (vw (R a))=.ok true:=g9 (iH (x:=tS s) (gN rfl rfl rfl) rfl (IV d s p.len i.2 λq k=>(p.fq q k).1));have w:(L3.mj (iD c5) (iD (gS (gI da bc) (kf c)))) (vw (R a))=.ok true:=by simp only[L3.mj,r,l,M.bind_ok];rfl
  have D:kh [none,some 4] (jh ah) bP (λ_=>.ok true) (qt c) (vw (R a))=.ok (f.map T.int):=by refine jS us tI (λu=>T.int (Ci (jk d (Xs s) (vc u)))) rfl (by lia) (λu C=>⟨_,rfl,rfl,iH (y:=tS s) rfl (gN rfl rfl rfl) (Ef (B:=B) o d u (h.gc u C).gl i.2 s p.len (λq k=>(p.fq q k).1) (by have:=p.wts;lia))⟩) ?_;rw[<-Oq j p.side,aI];rfl
  have m:iD (gW (iy false) (kg j8 (gI (jy (kh [none,some 4] (jh ah) bP (λ_=>.ok true) (qt c))) gM)) bm) (vw (R a))=.ok true:=g9 (gN (x:=tI f) (y:=tI f) (oM D rfl) rfl (by have:=LQ false f f;unfold tI;rw[this];simp))
  exact⟨s,e,p,iB rfl (gP (ρ':=R a) (gY (iH rfl rfl e) rfl) (gP (iF v rfl) (ku (i9 w (i9 m (hW rfl))) rfl)))⟩
def Se(h:∀p∈s,wt p<=n):wts s<=s.length*n:=by
 induction s with
 |nil=>simp[wts]
 |cons q s ih=>
  have e:wts (q::s)=wt q+wts s:=by simp[wts]
  have:=ih λp a=>h p (by simp[a]);have:=h q (by simp);rw[ay,Nat.add_mul];lia
def Nf u (k:Int):jk d X (vc (u.map λx=>k*x))=(k:Rat)*jk d X (vc u):=by have:=qm (d:=d) (X:=X) (vc u) (vc u) (vc (u.map λx=>k*x)) 1 k 0 (λi=>by rw[s9];lia);have b:((1:Int):Rat)=1:=rfl;have a:((0:Int):Rat)=0:=rfl;rw[b,a]at this;grind
def y9.mono(h:y9 d B us)(b:B<=B'):y9 d B' us:=⟨λf a=>(h.gc f a).mono b,h.few,h.pw⟩
structure yT(n:Nat)(sg:LI):Prop where
 len:sg.length=n
 pm:∀x∈sg,x=1\/x = -1
def yT.sgs{n:Nat}{a:LI}(h:yT n a):JM n a:=⟨h.len,λx b=>by rcases h.pm x b with r|r<;>rw[r]<;>decide⟩
def yT.at_{n:Nat}{a:LI}(h:yT n a){i:Nat}(b:i<n):vc a i=1\/vc a i = -1:=by rw[ke a i (by rw[h.len];exact b)];exact h.pm _ (aV _)
def TH{n:Nat}{a:LI}(e:a.length=n){i:Nat}{s:Int}(h:a[i]? = some s):i<n/\vc a i=s:=by obtain⟨d,b⟩:=aa.mp h;exact⟨by lia,by rw[ke a i d,b]⟩
def QZ i ns:zS false (.int i) (tI ns)=.ok (.bl (ns.any (i == ·))):=by
 have e:(ns.map T.int).all lj=true:=cD.mpr λx d=>by obtain⟨y,-,rfl⟩:=aD.mp d;rfl
 have b:vK (.int i) (ns.map T.int)=ns.any (i == ·):=by unfold vK;rw[cB];congr 1;funext a;show FC (T.int a) (T.int i)=(i==a);rw[GV];exact BEq.comm
 show (if lj (T.int i)&&(ns.map T.int).all lj then _ else _)=_;rw[e,b];rfl
def SR:iy true (.str "spot") (.str "spot")=.ok (.bl false):=by
 have:=Mz;unfold iy at this ⊢;split at this
 .rename_i h;rw[aQ h];simp at this;simp[this]
 .cases this
def QC(h:a+b≠0) u:(a+b)*jk d (λj=>(b*X j+a*Z j) / (a+b)) u=b*jk d X u+a*jk d Z u:=by
 unfold jk;have e:pT d (λp=>(u p)*((b*X p+a*Z p) / (a+b)))=(b / (a+b))*pT d (λp=>(u p)*X p)+(a / (a+b))*pT d (λp=>(u p)*Z p):=by rw[<-rE];exact jV _ _ _ λi _=>by grind
 rw[e];grind
end CL
namespace CL
open PySem L2 L3
variable {c:Cs}
def Qj{a:Type}[Inhabited a](l:List a) f k w (h:k<l.length):iP (.lst (l.map f)) (.int (k:Int))=.ok (f (l.getD k w)):=by have e:=FQ (l.map f) k (by rw[aw];exact h);rw[dN]at e;show (match uV (l.map f) k with|some t=>M.ok t|none=>.bad)=_;rw[e,af,ag h];rfl
theorem vE:∀n f,((sm n f:Int):Rat)=pT n λi=>(f i:Rat)
 |0,_=>rfl
 |n+1,f=>by unfold sm pT;rw[<-vE n λi=>f (i+1)];simp
def sR(h:∀x∈u,Bn B x) k:Bn B (vc u k):=by
 by_cases a:k<u.length
 .rw[ke u k a];exact h _ (aV _)
 .rw[rJ u k (by omega)];exact ua
def Ls(d:a.length=n):lV a b=true↔∀k,k<n->∀j,j<k->vc a k*vc b j=vc a j*vc b k:=by unfold lV;simp only[cD,aS,beq_iff_eq,d]
noncomputable def hv(d:Nat)(u P:Vc):Int:=sm d (λi=>u i*P i)-u d*P d
def XP(d:Nat)(P:Vc):Nat->Rat:=λi=>(P i:Rat) / (P d:Rat)
def La(h:0<P d):(hv d u P:Rat)=(P d:Rat)*jk d (XP d P) u:=by
 have b:(P d:Rat)≠0:=λz=>by have:=j3 h;grind
 have e:(P d)*pT d (λi=>(u i)*XP d P i)=pT d λi=>(u i)*(P i):=by have:=rE (P d) 0 d (λi=>(u i)*XP d P i) (λ_=>0);rw[jV d _ (λi=>(u i)*(P i)) λi _=>by unfold XP;grind]at this;grind
 unfold hv jk;have a:((sm d (λi=>u i*P i)-u d*P d:Int):Rat)=pT d (λi=>(u i)*(P i))-(u d)*(P d):=by rw[eP,vE,eO];rw[jV d _ (λi=>(u i)*(P i)) λi _=>eO _ _]
 rw[a];grind
def R5(h:0<P d):kJ (hv d u P)=Ci (jk d (XP d P) u):=KB h (La h)
def Tv(h:∀i,g*z i=a*x i+b*y i):g*hv d z P=a*hv d x P+b*hv d y P:=by
 unfold hv;rw[gq,gq,gq,<-mC,<-mC,<-mC];have e:sm d (λi=>g*(z i*P i))=sm d (λi=>a*(x i*P i))+sm d (λi=>b*(y i*P i)):=by rw[mC a,mC b,<-uX];exact ko d _ _ λi _=>by have:=h i;grind
 rw[e];grind
def N7(h:∀i,g*R i=a*P i+b*Q i):g*hv d u R=a*hv d u P+b*hv d u Q:=by
 unfold hv;rw[gq,gq,gq,<-mC,<-mC,<-mC];have e:sm d (λi=>g*(u i*R i))=sm d (λi=>a*(u i*P i))+sm d (λi=>b*(u i*Q i)):=by rw[mC a,mC b,<-uX];exact ko d _ _ λi _=>by have:=h i;grind
 rw[e];grind
noncomputable def sk(p i:Nat):Nat:=if i<p then i else i+1
def QA p i:sk (p+1) (i+1)=sk p i+1:=by unfold sk;split<;>split<;>lia
theorem GI:∀d p f,p<=d->pT (d+1) f=pT d (λi=>f (sk p i))+f p
 |0,0,f,_=>by unfold pT pT;grind
 |d+1,0,f,_=>by
  rw[pT];have:(λi=>f (sk 0 i))=λi=>f (i+1):=funext λi=>by simp[sk]
  rw[this];grind
 |d+1,p+1,f,h=>by
  rw[pT,GI d p (λi=>f (i+1)) (by lia)];have:pT (d+1) (λi=>f (sk (p+1) i))=f 0+pT d (λi=>f (sk p i+1)):=by rw[pT];congr 1;exact jV d _ _ λi _=>by rw[QA]
  rw[this];grind
def UY d p f (h:p<=d):sm (d+1) f=sm d (λi=>f (sk p i))+f p:=by have:=GI d p (λi=>(f i)) h;rw[<-vE,<-vE]at this;exact_mod_cast this
def R6(h:p<=d):sk p d=d+1:=by unfold sk;rw[aR (by lia)]
def Mt(h:p<=d) X u:jk (d+1) X u=jk d (λi=>X (sk p i)) (λi=>u (sk p i))+(u p:Rat)*X p:=by unfold jk;rw[GI d p _ h];dsimp only;rw[R6 h];grind
def QL(h:p<=d) u P:hv (d+1) u P=hv d (λi=>u (sk p i)) (λi=>P (sk p i))+u p*P p:=by unfold hv;rw[UY d p _ h];dsimp only;rw[R6 h];lia
def On(d:Nat)(us:LL)(s:LI)(X:Nat->Rat):Prop:=∀i,i<us.length->0<(vc s i:Rat)*jk d X (vc (us.getD i []))
def Rz(d:Nat)(us:LL)(s:LI):Prop:=∃X,On d us s X
def Rx(d:Nat)(us:LL)(u s:LI):Prop:=∃X,jk d X (vc u)=0/\On d us s X
def Rb(h:On d us s X)(k:On d us s Y)(a:0<=jk d X (vc u))(b:jk d Y (vc u)<=0):Rx d us u s:=by
 by_cases q:jk d X (vc u)=0
 .exact⟨X,q,h⟩
 by_cases p:jk d Y (vc u)=0
 .exact⟨Y,p,k⟩
 have o:0<jk d X (vc u):=by grind
 have C:0 < -jk d Y (vc u):=by grind
 generalize F:jk d X (vc u)=A at *;generalize I:-jk d Y (vc u)=B at *;have f:A+B≠0:=by grind
 have n:0<A+B:=by grind
 have g:=λw=>QC (d:=d) (X:=X) (Z:=Y) f w;refine⟨λj=>(B*X j+A*Y j) / (A+B),?_,λi l=>?_⟩
 .have:=g (vc u);have e:(A+B)*jk d (λj=>(B*X j+A*Y j) / (A+B)) (vc u)=0:=by grind
  rcases Rat.mul_eq_zero.mp e with z|z
  .exact absurd z f
  .exact z
 .have D:=h i l;have r:=k i l;have:=g (vc (us.getD i []));generalize jk d (λj=>(B*X j+A*Y j) / (A+B)) (vc (us.getD i []))=Z at *;generalize jk d X (vc (us.getD i []))=x at *;generalize jk d Y (vc (us.getD i []))=y at *;have E:=eQ C D;have H:=eQ o r;generalize (vc s i)=v at *;have e:(A+B)*(v*Z)=B*(v*x)+A*(v*y):=by rw[show (A+B)*(v*Z)=v*((A+B)*Z) by grind,this];grind
  have m:0<(A+B)*(v*Z):=by rw[e];grind
  refine fK (c:=A+B) ?_ (by grind);rw[gw];exact m
theorem KY:∀d f,(∀i,i<d->Bn N (f i))->Bn (N+d) (sm d f)
 |0,_,_=>ua
 |d+1,f,h=>by rw[sm];exact ((h 0 (by lia)).add (KY d (λi=>f (i+1)) λi a=>h (i+1) (by lia))).mono (by lia)
def Q3{B M d:Nat}(a:∀x∈u,Bn B x)(b:∀x∈P,Bn M x):Bn (B+M+d+1) (hv d (vc u) (vc P)):=((KY d _ λi _=>(sR a i).mul (sR b i)).sub ((sR a d).mul (sR b d))).mono (by lia)
def Qr(h:N<=20000) a b (g:a.length<=100) (f:∀x∈a,Bn N x) (hb:∀x∈b,Bn N x):vJ c [tI a,tI b]=.ok (.int (Tc a b)):=by
 have sz:1000<sizeLine:=by decide
 have e:kh [none,none] (m7 bv) a0 (λ_=>.ok true) (LX c) (vw (i6 2 [tI a,tI b]))=.ok (((a.zip b).map λp=>p.1*p.2).map T.int):=jS (a.zip b) (λp=>T.tup [.int p.1,.int p.2]) (λp=>T.int (p.1*p.2)) (nT rfl rfl rfl rfl) (by rw[dY];lia) (λp d=>⟨_,rfl,rfl,gN rfl rfl (iJ ((f _ (aW d).1).ok (hb _ (aW d).2) (by lia) (by lia)))⟩) (by rw[aI];rfl)
 exact iB rfl (hW (oM e (Gc _)))
theorem Ho:∀d a b,a.length=d->b.length=d->Tc a b=sm d λi=>vc a i*vc b i
 |0,[],[],_,_=>rfl
 |d+1,x::a,y::b,ha,hb=>by show x*y+Tc a b=_;rw[Ho d a b (by simpa using ha) (by simpa using hb)];rfl
def AW(h:u.length=d+1)(a:i<d):vc u.dropLast i=vc u i:=by rw[ke _ i (by simp;lia),ke _ i (by lia),List.getElem_dropLast]
def Gx(h:u.length=d+1):iP (tI u) (.int (-1))=.ok (.int (vc u d)):=by
 have a:u≠[]:=λz=>by rw[z]at h;simp at h
 have e:u.getLast? = some (vc u d):=by rw[List.getLast?_eq_some_getLast a,ke u d (by lia),List.getLast_eq_getElem];simp[h]
 simp[tI,tU,JS,a,e]
def DI(h:u.length=d+1)(a:f ρ=.ok (tI u)):j7 f (λ_=>.ok none) (jo (pU (λi=>.int (-i)) ab)) ρ=.ok (tI u.dropLast):=by
 have:=Ke a λz=>by have:=congrArg List.length z;simp at this;rw[this]at h;simp at h
 rw[<-List.map_dropLast]at this;exact this
def Kv(r:B<=20000)(q:B'<=20000)(p:d<=50)(a:u.length=d+1)(j:P.length=d+1)(o:∀x∈u,Bn B x)(l:∀x∈P,Bn B' x)(m:f ρ=.ok (tI u))(n:g ρ=.ok (tI P)) :
  gS (gI (j7 f (λ_=>.ok none) (jo (pU (λi=>.int (-i)) ab))) (gI (j7 g (λ_=>.ok none) (jo (pU (λi=>.int (-i)) ab))) gM)) (vJ c) ρ=.ok (.int (sm d λi=>vc u i*vc P i)):=by
 have h:u.dropLast.length=d:=by simp[a]
 have e:P.dropLast.length=d:=by simp[j]
 refine iH (DI a m) (DI j n) ((Qr (N:=max B B') (by lia) _ _ (by lia) (λx b=>(o x (gx _ b)).mono (by lia)) λx b=>(l x (gx _ b)).mono (by lia)).trans ?_);rw[Ho d _ _ h e];congr 2;exact ko d _ _ λi k=>by rw[AW a k,AW j k]
def uT{d B M:Nat}(i:B<=20000)(g:M<=20000)(h:d<=50)(b:u.length=d+1)(f:P.length=d+1)(e:∀x∈u,Bn B x)(a:∀x∈P,Bn M x):lu c [tI u,tI P]=.ok (.int (hv d (vc u) (vc P))):=iB rfl (hW (gN (Kv i g h b f e a rfl rfl) (gN (gN rfl (pM rfl) (Gx b)) (gN rfl (pM rfl) (Gx f)) (iJ ((sR e d).ok (sR a d) (by lia) (by lia)))) (oq _ _)))
def wo(row:LI)(p:Nat):LI:=row.take p++row.drop (p+1)
def Ku(h:p<row.length):(wo row p).length+1=row.length:=by unfold wo;simp;lia
def Nn(h:p<row.length) i:vc (wo row p) i=vc row (sk p i):=by
 unfold wo sk;rw[tN,bR,dC (by lia)];by_cases a:i<p
 .rw[aQ a,aQ a,ke _ i (by simp;lia),ke _ i (by lia),gy]
 .rw[aR a,aR a,Eu];congr 1;lia
def K9(h:x∈wo row p):x∈row:=(ai.mp h).elim d8 fY
def rh row (p:Nat) (e:p<row.length) (f:row.length<=100):jR c [tI row,.int (p:Int)]=.ok (tI (wo row p)):=by have a:=sS (fe:=gJ 0) (fd:=gJ 1) (ρ:=vw (i6 2 [tI row,.int (p:Int)])) rfl rfl (by rw[aw];lia);have b:=Mf (fe:=gJ 0) (fd:=gW jF ah ab) (d:=p+1) (ts:=row.map T.int) (ρ:=vw (i6 2 [tI row,.int (p:Int)])) rfl (gN rfl rfl (by rw[jw];simp)) (by lia) (by intro z;have:=congrArg List.length z;simp at this;subst this;simp at e);rw[<-dc]at a;rw[<-de]at b;exact iB rfl (hW (gN (x:=tI (row.take p)) (y:=tI (row.drop (p+1))) a b (sU _ _ (by simp;lia))))
structure Gp(d M:Nat)(P:LI):Prop where
 len:P.length=d+1
 bn:∀x∈P,Bn M x
 pos:0<vc P d
def zf i:xE [.int i]=.ok (.int (i.natAbs:Int)):=by show M.ok (T.int (if i<0 then -i else i))=_;congr 2;split<;>lia
def Gy(h:Bn N x):Bn N (x.natAbs:Int):=by unfold Bn at *;simpa using h
def EH{d B M:Nat}(hB:B<=2000)(hM:M<=5000)(R:d<=50)(hu:u.length=d+2)(q:∀x∈u,Bn B x)(hp:p<=d)(e:Gp d M P) :
  ∃Q g,ng c [tI u,.int (p:Int),tI P]=.ok (tI Q)/\Q.length=d+2/\(∀x∈Q,Bn (B+M+d+1) x)/\0<g/\(∀i,g*vc Q (sk p i)=((vc u p).natAbs:Int)*vc P i)/\g*vc Q p = -kJ (vc u p)*hv d (λi=>vc u (sk p i)) (vc P):=by
 have sz:1000<sizeLine:=by decide
 have v:=kz u p (by lia);have D:=sR q p;have wl:=Ku (row:=u) (p:=p) (by lia);have m:∀x∈wo u p,Bn B x:=λx j=>q x (K9 j);have N:vc (wo u p)=λi=>vc u (sk p i):=funext λi=>Nn (by lia) i;have l:=uT (c:=c) (d:=d) (B:=B) (M:=M) (by lia) (by lia) R (by lia) e.len m e.bn;have k:=Q3 (d:=d) m e.bn;rw[N]at l k;generalize hH:hv d (λi=>vc u (sk p i)) (vc P)=h at *;have H:=xB (vc u p);have bs:Bn 1 (-kJ (vc u p)):=by unfold Bn;lia
 have f:Bn (B+M+d+1) (-kJ (vc u p)*h):=by
  have:=H;unfold Bn at k ⊢;rw[aY];have b:(-kJ (vc u p)).natAbs<=1:=by lia
  exact cg (aN (fT _ b) (by lia)) k
 let a:LI:=P.map λx=>((vc u p).natAbs:Int)*x;have E:a.length=d+1:=by simp[a,e.len]
 have n:∀x∈a,Bn (B+M+d+1) x:=λx j=>by obtain⟨y,hy,rfl⟩:=aD.mp j;exact ((Gy D).mul (e.bn y hy)).mono (by lia)
 have r:∀i,vc a i=((vc u p).natAbs:Int)*vc P i:=s9 P _;let row:LI:=(a.take p++[-kJ (vc u p)*h])++a.drop p;have rl:row.length=d+2:=by simp[row,E];lia
 have F:∀x∈row,Bn (B+M+d+1) x:=λx j=>by
  rcases ai.mp j with z|z
  .rcases ai.mp z with z|z
   .exact n x (d8 z)
   .rw[aj.mp z];exact f
  .exact n x (fY z)
 obtain⟨g,Y,Z,U,yl,w,J⟩:=xm (c:=c) (B+M+d+1) (by lia) row (by lia) F;have s:∀i,vc row i=if i<p then vc a i else if i=p then -kJ (vc u p)*h else vc a (i-1):=λi=>by
  show vc ((a.take p++[-kJ (vc u p)*h])++a.drop p) i=_;have C:(a.take p).length=p:=by rw[bR];lia
  rw[tN,tN,aT,C,b6];by_cases b:i<p
  .rw[aQ (by lia),aQ b,aQ b,ke _ i (by rw[C];exact b),ke _ i (by lia),gy]
  .by_cases A:i=p
   .subst A;rw[aQ (by lia),aR b,aR b,aQ rfl,fS];rfl
   .rw[aR (by lia),aR b,aR A,Eu];congr 1;lia
 refine⟨Y,g,?_,by lia,J,Z,λi=>?_,?_⟩
 .let S (x3 K L:Option W):En:=[some (.p (tI u)),some (.p (.int (p:Int))),some (.p (tI P)),x3,K,L];have X:kh [none,some 3] (jh bf) bP (λ_=>.ok true) (xO c) (nQ (S (some (.p (.int ((vc u p).natAbs:Int)))) (some (.p (.int (-kJ (vc u p)*h)))) none))=.ok (a.map T.int):=
   jS P T.int (λx=>T.int (((vc u p).natAbs:Int)*x)) rfl (by have:=e.len;lia) (λx j=>⟨_,rfl,rfl,gN rfl rfl (iJ ((Gy D).ok (e.bn x j) (by lia) (by lia)))⟩) (by simp[a])
  have o:=sS (fe:=gJ 5) (fd:=gJ 1) (d:=p) (ts:=a.map T.int) (ρ:=vw (S (some (.p (.int ((vc u p).natAbs:Int)))) (some (.p (.int (-kJ (vc u p)*h)))) (some (.p (tI a))))) rfl rfl (by rw[aw];lia);have I:j7 bq (jo ah) (λ_=>.ok none) (vw (S (some (.p (.int ((vc u p).natAbs:Int)))) (some (.p (.int (-kJ (vc u p)*h)))) (some (.p (tI a)))))=.ok (tI (a.drop p)):=by have:j7 bq (jo ah) (λ_=>.ok none) (vw (S (some (.p (.int ((vc u p).natAbs:Int)))) (some (.p (.int (-kJ (vc u p)*h)))) (some (.p (tI a)))))=.ok (.tup (qJ (a.map T.int) (some (p:Int)) none)):=rfl;rw[this,xC,<-de];rfl
  rw[<-dc]at o;exact iB rfl (gP (ρ':=S (some (.p (.int ((vc u p).natAbs:Int)))) none none) (gY (mZ (gN rfl rfl v) (zf _)) rfl) (gP (ρ':=S (some (.p (.int ((vc u p).natAbs:Int)))) (some (.p (.int (-kJ (vc u p)*h)))) none) (gY (gN (pM (oO (gN rfl rfl v) (rY _))) (iH (iH rfl rfl (rh u p (by lia) (by lia))) rfl l) (iJ (bs.ok k (by lia) (by lia)))) rfl) (gP (ρ':=S (some (.p (.int ((vc u p).natAbs:Int)))) (some (.p (.int (-kJ (vc u p)*h)))) (some (.p (tI a)))) (gY (oM X (by simp;rfl)) rfl) (hW (oO (gN (x:=tI (a.take p++[-kJ (vc u p)*h])) (y:=tI (a.drop p)) (gN (x:=tI (a.take p)) (y:=tI [-kJ (vc u p)*h]) o (Fs rfl) (sU _ _ (by simp;lia))) I (sU _ _ (by simp;lia))) U)))))
 .rw[<-w,s];unfold sk;by_cases b:i<p
  .rw[aQ b,aQ b];exact r i
  .rw[aR b,aR (by lia),aR (by lia)];exact r i
 .rw[<-w,s,aR (by lia),aQ rfl]
def Kj i j:A4 [.int i,.int j]=.ok (.int (max i j)):=by simp;split<;>lia
def OX{a m:Int}(b:0<=a)(d:0<m):a<(a.fdiv m+1)*m/\0<=a.fdiv m/\a.fdiv m<=a:=by rw[Int.fdiv_eq_ediv_of_nonneg _ (by lia)];exact⟨Int.lt_ediv_add_one_mul_self a d,Int.ediv_nonneg b (by lia),Int.ediv_le_self _ b⟩
def BS(hB:B<=2000)(hM:N<=5000)(E:2*B+N+d+3<=8000)(L:d<=50){us:LL}(H:∀w∈us,w.length=d+1/\∀x∈w,Bn B x)(hn:us.length<=100)(n:u.length=d+1)(C:∀x∈u,Bn B x)(b:Gp d N P)(F:∀w∈us,hv d (vc w) (vc P)≠0)(hs:s = -1\/s=1) :
  ∃Q g o,lD c [.lst (us.map tI),tI u,tI P,.int s]=.ok (tI Q)/\Q.length=d+1/\(∀x∈Q,Bn (2*B+N+d+3) x)/\0<g/\1<=o/\(∀i,i<d->g*vc Q i=o*vc P i+s*vc u i)/\g*vc Q d=o*vc P d/\
   ∀w∈us,((sm d λi=>vc w i*vc u i).natAbs:Int)<o*((hv d (vc w) (vc P)).natAbs:Int):=by
 have sz:1000<sizeLine:=by decide
 let S (o:Int) (j f x7:Option W):En:=[some (.p (.lst (us.map tI))),some (.p (tI u)),some (.p (tI P)),some (.p (.int s)),some (.p (.int o)),j,f,x7];obtain⟨ρ',e',o,j,f,rfl,o1,r,v⟩:=jP (m:=j6 5) (g:=wc c) tI
  (λk X=>∃o j f,X=S o j f none/\1<=o/\Bn (2*B+d+1) o/\∀w∈us.take k,((sm d λi=>vc w i*vc u i).natAbs:Int)<o*((hv d (vc w) (vc P)).natAbs:Int)) us 0 (S 1 none none none)
  ⟨1,none,none,rfl,by decide,(by unfold Bn;exact aE (by decide:(1:Int).natAbs<2 ^ 1) (dh (by decide) (by lia))),λw hw=>by simp at hw⟩ (by
   rintro k w X Z ⟨o,j,f,rfl,o1,r,v⟩;rw[aG]at v ⊢;have hw:=au Z;obtain⟨U,wb⟩:=H w hw;have dt:gS (gI (j7 bq (λ_=>.ok none) (jo (pU (λi=>.int (-i)) ab))) (gI (j7 ah (λ_=>.ok none) (jo (pU (λi=>.int (-i)) ab))) gM)) (vJ c) (nQ (S o (some (.p (tI w))) f none))=.ok (.int (sm d λi=>vc w i*vc u i)):=Kv (B:=B) (B':=B) (by lia) (by lia) L U n wb C rfl rfl;have la:=uT (c:=c) (d:=d) (B:=B) (M:=N) (by lia) (by lia) L U b.len wb b.bn;have hb:=Q3 (d:=d) wb b.bn;have h0:=F w hw;have sb:Bn (2*B+d) (sm d λi=>vc w i*vc u i):=(KY d _ λi _=>(sR wb i).mul (sR C i)).mono (by lia);generalize hh:hv d (vc w) (vc P)=h at *;generalize I:(sm d λi=>vc w i*vc u i)=st at *;obtain⟨f1,f2,f3⟩:=OX (a:=(st.natAbs:Int)) (m:=(h.natAbs:Int)) (by lia) (by lia);generalize l:(st.natAbs:Int).fdiv (h.natAbs:Int)=q at *;refine⟨_,S (max o (q+1)) (some (.p (tI w))) (some (.p (.int (st.natAbs:Int)))) none,rfl,.inl (gP (ρ':=S o (some (.p (tI w))) (some (.p (.int (st.natAbs:Int)))) none) (gY (mZ dt (zf _)) rfl) (gY ?_ rfl)),max o (q+1),_,_,rfl,by lia,?_,?_⟩
   .have e1:gW jF (gW pD dd (kg xE (gI (gS (gI bq bc) (lu c)) gM))) ab (nQ (S o (some (.p (tI w))) (some (.p (.int (st.natAbs:Int)))) none))=.ok (.int (q+1)):=gN (gN rfl (mZ (iH rfl rfl la) (zf _)) ((mL (by lia) ((Gy hb).noPy (by lia))).trans (by rw[l]))) rfl (jw _ _);simp only[kg,gI,gM,e1,M.bind_ok];exact Kj o (q+1)
   .have:Bn (2*B+d+1) (q+1):=by unfold Bn at sb ⊢;rw[dy];lia
    unfold Bn at *;lia
   .intro z Y;rw[jJ us k w Z]at Y;rcases ai.mp Y with y|y
    .have:=v z y;refine gz this (aJ (by lia) (by lia))
    .rw[aj.mp y,I,hh];have hm:(q+1)*(h.natAbs:Int)<=max o (q+1)*(h.natAbs:Int):=aJ (by lia) (by lia);exact gz f1 hm)
 rw[aG,dM]at v;let e:LI:=(P.dropLast.zip u.dropLast).map λq=>o*q.1+s*q.2;have l1:P.dropLast.length=d:=by simp[b.len]
 have l2:u.dropLast.length=d:=by simp[n]
 have A:e.length=d:=by simp[e,b.len,n]
 have K:Bn 1 s:=by rcases hs with rfl|rfl<;>(unfold Bn;decide)
 have pv:∀i,i<d->vc e i=o*vc P i+s*vc u i:=λi D=>by rw[<-AW b.len D,<-AW n D,ke _ i (by lia),ke _ i (by lia),ke _ i (by lia)];simp[e]
 have pb:∀x∈e,Bn (2*B+N+d+3) x:=λx J=>by obtain⟨q,l,rfl⟩:=aD.mp J;obtain⟨q1,q2⟩:=aW l;exact ((r.mul (b.bn _ (gx _ q1))).add (K.mul (C _ (gx _ q2)))).mono (by lia)
 have lb:Bn (2*B+N+d+3) (o*vc P d):=(r.mul (sR b.bn d)).mono (by lia);obtain⟨g,ys,hg,el,yl,R,yb⟩:=xm (c:=c) (2*B+N+d+3) E (e++[o*vc P d]) (by simp[A];lia) λx J=>(ai.mp J).elim (pb x) λz=>by rw[aj.mp z];exact lb
 have e7:kh [none,none,some 4,some 3] (m7 (gI (j7 bf (λ_=>.ok none) (jo (pU (λi=>.int (-i)) ab))) (gI (j7 ah (λ_=>.ok none) (jo (pU (λi=>.int (-i)) ab))) gM))) a0 (λ_=>.ok true) (vT c) (nQ (S o j f none))=.ok (e.map T.int):=jS (P.dropLast.zip u.dropLast) (λq=>T.tup [.int q.1,.int q.2]) (λq=>T.int (o*q.1+s*q.2)) (nT (DI b.len rfl) rfl (DI n rfl) rfl) (by rw[dY];lia) (λq l=>⟨_,rfl,rfl,gN (gN rfl rfl (iJ (r.ok (b.bn _ (gx _ (aW l).1)) (by lia) (by lia)))) (gN rfl rfl (iJ (K.ok (C _ (gx _ (aW l).2)) (by lia) (by lia)))) (jw _ _)⟩) (by simp only[e,aI];rfl)
 refine⟨ys,g,o,iB rfl (gP (ρ':=S 1 none none none) (gY rfl rfl) (gP (jK rfl e') (gP (ρ':=S o j f (some (.p (.lst (e.map T.int))))) (gY (iV e7) rfl) (hW (oO (gN (x:=tI e) (y:=tI [o*vc P d]) (mZ (t:=.lst (e.map T.int)) rfl (by simp;rfl)) (Fs (gN rfl (gN rfl (pM rfl) (Gx b.len)) (iJ (r.ok (sR b.bn d) (by lia) (by lia))))) (sU _ _ (by simp[A];lia))) el))))),by rw[yl];simp[A],yb,hg,o1,λi D=>?_,?_,v⟩
 .rw[<-R,tN,aQ (by lia),pv i D]
 .rw[<-R,tN,aR (by lia),A,fS];rfl
def yE(g:0<a)(hb:0<b)(e:a*x=b*y):kJ x=kJ y:=by
 have d:∀{p q z w:Int},0<p->0<q->p*z=q*w->0<w->0<z:=λ{p q z w} hp hq e hw=>by
  have f:0<p*z:=by rw[e];exact aX hq hw
  exact gA f hp |> λh=>h
 have j:a * -x=b * -y:=by rw[cV,cV,e]
 unfold kJ;by_cases f:0<x
 .rw[aQ f,aQ (d hb g e.symm f)]
 .rw[aR f,aR λz=>f (d g hb e z)];by_cases i:x<0
  .rw[aQ i,aQ (by have:=d hb g j.symm (by lia);lia)]
  .rw[aR i,aR λz=>i (by have:=d g hb j (by lia);lia)]
noncomputable def iL:Nat->LL
 |0=>[[]]
 |n+1=>(iL n).flatMap λs=>[s++[-1],s++[1]]
theorem pN:∀{n} {s},s∈iL n->s.length=n/\∀x∈s,x = -1\/x=1
 |0,s,h=>by rw[aj.mp h];exact⟨rfl,λ_ z=>nomatch z⟩
 |n+1,s,h=>by
  obtain⟨r,hr,a⟩:=fG.mp h;obtain⟨e,b⟩:=pN hr;have go:∀v:Int,(v = -1\/v=1)->(r++[v]).length=n+1/\∀x∈r++[v],x = -1\/x=1:=λv hv=>⟨by simp[e],λx d=>(ai.mp d).elim (b x) λz=>by rw[aj.mp z];exact hv⟩;simp only[aF,c9,or_false]at a;rcases a with rfl|rfl
  .exact go _ (.inl rfl)
  .exact go _ (.inr rfl)
theorem Dz:∀n:Nat,(iL n).length=2 ^ n
 |0=>rfl
 |n+1=>by rw[iL,List.length_flatMap];have:(iL n).map (λs=>([s++[-1],s++[1]]:LL).length)=(iL n).map λ_=>2:=fC λ_ _=>rfl;rw[this,List.map_const',List.sum_replicate_nat,Dz n,dy]
def CJ(h:s∈iL n)(d:i<n):vc s i=1\/vc s i = -1:=by obtain⟨b,a⟩:=pN h;rw[ke s i (by lia)];exact (a _ (aV _)).symm
def qO(p:LI×LI):T:=.tup [tI p.1,tI p.2]
structure Gu(d B:Nat)(u:LI):Prop where
 len:u.length=d+1
 bn:∀x∈u,Bn B x
 ne:∃i,vc u i≠0
def IZ(p:Prop):Bool:=@decide p (Classical.propDecidable p)
@[simp] theorem GU:IZ p=true↔p:=@decide_eq_true_iff p (Classical.propDecidable p)
def PQ(h:p):IZ p=true:=GU.mpr h
def S7(h:¬p):IZ p=false:=by
 cases e:IZ p with
 |false=>rfl
 |true=>exact absurd (GU.mp e) h
def flt(n:Nat)(p:LI->Prop):LL:=(iL n).filter λs=>IZ (p s)
def Iq(h:∀s∈iL n,p s↔q s):flt n p=flt n q:=gB λs a=>by rw[show p s=q s from propext (h s a)]
def vZ:s∈flt n p↔s∈iL n/\p s:=by simp[flt]
def Ee(h:∀s,¬p s):flt n p=[]:=f9.mpr λs _=>by simp[h s]
def vC n p:(flt n p).length<=2 ^ n:=by rw[<-Dz];exact fE _ _
structure Qf(d N:Nat)(us:LL)(L:List (LI×LI)):Prop where
 fst:L.map Prod.fst=flt us.length (Rz d us)
 gp:∀p∈L,Gp d N p.2
 sg:∀p∈L,∀i,i<us.length->kJ (hv d (vc (us.getD i [])) (vc p.2))=vc p.1 i
def M4(b:0<vc P d)(h:∀i,i<us.length->kJ (hv d (vc (us.getD i [])) (vc P))=vc s i)(f:∀i,i<us.length->vc s i=1\/vc s i = -1):On d us s (XP d (vc P)):=λi a=>by
 have e:=h i a;rw[R5 b]at e;generalize jk d (XP d (vc P)) (vc (us.getD i []))=v at *;unfold Ci at e;rcases f i a with q|q<;>rw[q]at e ⊢
 .have o:((1:Int):Rat)=1:=rfl;rw[o];split at e
  .grind
  .split at e<;>cases e
 .have o:((-1:Int):Rat) = -1:=rfl;rw[o];split at e
  .cases e
  .split at e
   .grind
   .cases e
def vQ{us:LL}(a:us.length=n)(f:LI->LI)(b:i<n):(us.map f).getD i []=f (us.getD i []):=by rw[af,av,ag (by lia),af,ag (by lia)];rfl
def v5{us:LL}(a:i<us.length):us.getD i []∈us:=by rw[af,ag a];exact aV _
def Q4{a b:Int}(i:0<a)(hb:0<b)(e:(a:Rat)*x=(b:Rat)*y)(h:0<v*y):0<v*x:=by
 have j:=j3 i;have g:=j3 hb;have d:a*(v*x)=b*(v*y):=by grind
 have f:0<a*(v*x):=by rw[d];exact eQ g h
 refine fK (c:=a) ?_ (by grind);rw[gw];exact f
def HV(A:p<=d)(C:vc u p≠0)(f:LI->LI)(n:∀w∈us,vc (f w) p=0/\p<(f w).length/\∃g s b:Int,0<g/\0<s/\∀i,g*vc (f w) i=s*vc w i+b*vc u i) s:Rz d (us.map λw=>wo (f w) p) s↔Rx (d+1) us u s:=by
 have x:∀X:Nat->Rat,∀w∈us,jk (d+1) X (vc (f w))=jk d (λi=>X (sk p i)) (vc (wo (f w) p)):=λX w hw=>by obtain⟨D,B,-⟩:=n w hw;rw[Mt A,D,show vc (wo (f w) p)=λi=>vc (f w) (sk p i) from funext λi=>Nn B i];grind
 constructor
 .rintro⟨X,m⟩;let Y:Nat->Rat:=λj=>if j=p then -jk d X (λi=>vc u (sk p i)) / (vc u p:Rat) else X (if j<p then j else j-1)
  have y:(λi=>Y (sk p i))=X:=funext λi=>by
   show (if sk p i=p then _ else X (if sk p i<p then sk p i else sk p i-1))=X i;unfold sk;by_cases q:i<p
   .rw[aQ q,aR (by lia),aQ q]
   .rw[aR q,aR (by lia),aR (by lia)];congr 1
  have E:(vc u p:Rat)≠0:=λz=>C (by exact_mod_cast z);have k:jk (d+1) Y (vc u)=0:=by
   rw[Mt A,y];have:Y p = -jk d X (λi=>vc u (sk p i)) / (vc u p:Rat):=by show (if p=p then _ else _)=_;rw[aQ rfl]
   rw[this];grind
  refine⟨Y,k,λi h=>?_⟩;have hw:=v5 h;obtain⟨-,-,g,a,b,r,o,e⟩:=n _ hw;have v:=m i (by simpa using h);rw[vQ rfl _ h]at v;have t:=x Y _ hw;rw[y]at t;rw[<-t]at v;have l:=qm (d:=d+1) (X:=Y) _ _ _ g a b e;rw[k]at l;exact Q4 o r (by grind) v
 .rintro⟨X,k,m⟩;refine⟨λi=>X (sk p i),λi h=>?_⟩;rw[aw]at h;have hw:=v5 h;obtain⟨-,-,g,a,b,r,o,e⟩:=n _ hw;rw[vQ rfl _ h,<-x X _ hw];have l:=qm (d:=d+1) (X:=X) _ _ _ g a b e;rw[k]at l;exact Q4 r o (by grind) (m i h)
def zO(n:p<=d)(C:vc u p≠0)(k:0<g0)(A:∀i,g0*vc Q (sk p i)=((vc u p).natAbs:Int)*vc P i)(m:g0*vc Q p = -kJ (vc u p)*hv d (λi=>vc u (sk p i)) (vc P)) :
  hv (d+1) (vc u) (vc Q)=0/\(vc r p=0->p<r.length->(∃g s b:Int,0<g/\0<s/\∀i,g*vc r i=s*vc w i+b*vc u i)->kJ (hv (d+1) (vc w) (vc Q))=kJ (hv d (vc (wo r p)) (vc P))):=by
 have B:0<((vc u p).natAbs:Int):=by lia
 have f:∀x:Vc,g0*hv d x (λi=>vc Q (sk p i))=((vc u p).natAbs:Int)*hv d x (vc P):=λx=>by
  have:=N7 (d:=d) (u:=x) (P:=vc P) (Q:=vc P) (R:=λi=>vc Q (sk p i)) (g:=g0) (a:=((vc u p).natAbs:Int)) (b:=0) λi=>by rw[A i];lia
  lia
 have z:hv (d+1) (vc u) (vc Q)=0:=by
  have e:=QL n (vc u) (vc Q);have j:=f λi=>vc u (sk p i);have y:=GX (vc u p);generalize hv d (λi=>vc u (sk p i)) (vc P)=h at *;have:g0*hv (d+1) (vc u) (vc Q)=0:=by rw[e,dS,j,show g0*(vc u p*vc Q p)=vc u p*(g0*vc Q p) by grind,m,<-y];grind
  rcases dP.mp this with q|q
  .lia
  .exact q
 refine⟨z,λr0 rl ⟨g,a,b,hg,ha,e⟩=>?_⟩;have l:=Tv (d:=d+1) (P:=vc Q) e;rw[z]at l;have v:=QL n (vc r) (vc Q);rw[r0]at v;have o:=funext λi=>Nn rl i;rw[o];have j:=f λi=>vc r (sk p i);rw[<-yE k B j];refine yE ha hg ?_;rw[show hv d (λi=>vc r (sk p i)) (λi=>vc Q (sk p i))=hv (d+1) (vc r) (vc Q) by lia];lia
abbrev nI(k:Nat):T:=.int (k:Int)
def Jl(h:f ρ=.ok (.tup ts)):sW (gI f gM) ρ=.ok (oN ts):=by simp only[sW,gI,gM,h,M.bind_ok];rfl
def Ij(h:f ρ=.ok (.lst ts)):sW (gI f gM) ρ=.ok (oN ts):=by simp only[sW,gI,gM,h,M.bind_ok];rfl
def RH ns:xY [tI ns]=.ok (.bl (ns.any λx=>x != 0)):=by simp only[tI,xY,v9,Ga];rw[cB];rfl
def OJ(h:f ρ=.ok (.bl b)):DF f ρ=.ok (.bl (!b)):=by simp only[DF,iD,h,M.bind_ok]
theorem Ce(hB:B<=2000)(hN:N<=5000)(hd:d<=50)(I:∀w∈us,Gu d B w)(hn:us.length<=8)(hu:Gu d B u) FR
  (hFR:∀d',d=d'+1->∀vs:LL,vs.length=us.length->(∀w∈vs,Gu d' (2*B+1) w)->∃L:List (LI×LI),FR [.lst (vs.map tI),.int (d':Int)]=.ok (.lst (L.map qO))/\Qf d' N vs L) :
  ∃C:List (LI×LI),md c FR [.lst (us.map tI),tI u]=.ok (C.map qO)/\C.map Prod.fst=flt us.length (Rx d us u)/\∀q∈C,Gp d (B+N+d+1) q.2/\hv d (vc u) (vc q.2)=0/\(∀i,i<us.length->kJ (hv d (vc (us.getD i [])) (vc q.2))=vc q.1 i)/\∃i,i<d/\vc u i≠0:=by
 have sz:1000<sizeLine:=by decide
 have ul:=hu.len;let S (x2 x3 x4:Option W):En:=[some (.p (.lst (us.map tI))),some (.p (tI u)),x2,x3,x4];let Z:List (Int×Nat):=u.dropLast.zipIdx.filter λq=>q.1 != 0;have hZ:∀q∈Z,q.2<d/\vc u q.2=q.1/\q.1≠0:=λq o=>by
  obtain⟨H,v⟩:=aU.mp o;obtain⟨x,k⟩:=q;have n:=gC.mp H;have hk:k<d:=by have:=(aa.mp n).1;simp at this;lia
  refine⟨hk,?_,by simpa using v⟩;rw[<-AW ul hk,ke _ k (by simp;lia)];have:=aa.mp n;exact this.2
 have e2:kh [none,none] (sW (gI (j7 ah (λ_=>.ok none) (jo (pU (λi=>.int (-i)) ab))) gM)) a0 dm (vY c FR) (nQ (S none none none))=.ok (Z.map λq=>nI q.2):=by refine nO u.dropLast.zipIdx (λq=>T.tup [.int (q.2:Int),.int q.1]) (λq=>nI q.2) (λq=>q.1 != 0) ((Jl (DI ul rfl)).trans (by rw[t8])) (by simp;lia) (λq o=>⟨_,rfl,g9 (gN rfl rfl (by rw[lq];rfl)),λ_=>rfl⟩) rfl
 have c2:iD (gW (iy false) bf cb) (vw (S (some (.p (.lst (Z.map λq=>nI q.2)))) none none))=.ok Z.isEmpty:=by refine g9 (gN (x:=.lst (Z.map λq=>nI q.2)) (y:=.lst []) rfl (by simp) ((ym false _ (sN _ _ λ_ _=>rfl) (aN (sT _ 0 _ λ_ _=>aK _) (by decide))).trans ?_));cases Z<;>rfl
 have st:∀{g:En->O} {ts:List T},_=O.rf ts->md c FR [.lst (us.map tI),tI u]=.ok ts:=λ{g ts} h=>nG rfl (gP (ρ':=S (some (.p (.lst (Z.map λq=>nI q.2)))) none none) (gY (iV e2) rfl) h);cases m:Z with
 |nil=>
  have z0:∀i,i<d->vc u i=0:=λi l=>aO λne=>by have:(vc u i,i)∈Z:=aU.mpr ⟨gC.mpr (by rw[ag (by simp;lia),<-AW ul l,ke _ i (by simp;lia)]),by simpa using ne⟩;rw[m]at this;exact nomatch this
  have hd0:vc u d≠0:=by
   obtain⟨i,l⟩:=hu.ne;rcases cH i d with h|h|h
   .exact absurd (z0 i h) l
   .rw[<-h];exact l
   .exact absurd (rJ u i (by lia)) l
  refine⟨[],st (g:=iN) (MB (i9 (c2.trans (by rw[m];rfl)) (oo (by simp))) rfl),(Ee λs ⟨X,hX,_⟩=>?_).symm,λ_ h=>nomatch h⟩;rw[oB z0]at hX;have z:(vc u d:Rat)=0:=by grind
  exact hd0 (by exact_mod_cast z)
 |cons z0 Zr=>
  obtain⟨x,p⟩:=z0;obtain⟨hpd,hpx,hx0⟩:=hZ (x,p) (by rw[m];simp);dsimp only at hpd hpx hx0;obtain⟨d',rfl⟩:∃d',d=d'+1:=⟨d-1,by lia⟩;have h0:vc u p≠0:=by rw[hpx];exact hx0
  obtain⟨f,J⟩:=n8 (P:=λ(w r:LI)=>jr c [tI w,tI u,.int (p:Int)]=.ok (tI r)/\r.length=w.length/\(∀x∈r,Bn (2*B+1) x)/\vc r p=0/\∃g s b:Int,0<g/\0<s/\∀i,g*vc r i=s*vc w i+b*vc u i) us λw hw=>by have wl:=(I w hw).len;obtain⟨r,H,v,n,A,g,s,b,F,K,h7,-⟩:=vU (c:=c) B B w u p (by lia) (by lia) (by lia) (by lia) (I w hw).bn hu.bn h0;exact⟨r,H,v,λx D=>(n x D).mono (by lia),A,g,s,b,F,K,h7⟩
  have U:∀w∈us,(f w).length=d'+2:=λw hw=>by rw[(J w hw).2.1,(I w hw).len]
  let a:LL:=us.map λw=>wo (f w) p;have ti:=HV (d:=d') (p:=p) (by lia) (us:=us) h0 f λw hw=>⟨(J w hw).2.2.2.1,by have:=U w hw;lia,(J w hw).2.2.2.2⟩;have e4:kh [none,some 3,some 1] fm bP (λ_=>.ok true) (we c FR) (nQ (S (some (.p (.lst (Z.map λq=>nI q.2)))) (some (.p (nI p))) none))=.ok (a.map tI):=jS us tI (λw=>tI (wo (f w) p)) rfl (by lia) (λw hw=>⟨_,rfl,rfl,iH (kr rfl rfl rfl (J w hw).1) rfl (rh _ p (by have:=U w hw;lia) (by have:=U w hw;lia))⟩) (by simp[a])
  let S4:En:=S (some (.p (.lst (Z.map λq=>nI q.2)))) (some (.p (nI p))) (some (.p (.lst (a.map tI))));have e5:iD (kg xY (gI (jy (kh [none] (jh bi) bP (λ_=>.ok true) (vA c FR))) gM)) (vw S4)=.ok ((a.map λt=>!(t.any λx=>x != 0)).any id):=by refine g9 (oM (ts:=(a.map λt=>!(t.any λx=>x != 0)).map T.bl) ?_ (BQ _));exact jS a tI (λt=>T.bl (!(t.any λx=>x != 0))) rfl (by simp[a];lia) (λt Y=>⟨_,rfl,rfl,OJ (mZ (t:=tI t) rfl (RH t))⟩) (by simp)
  have st4:∀{ts:List T},_=O.rf ts->md c FR [.lst (us.map tI),tI u]=.ok ts:=λ{ts} h=>st (g:=iN) (gP (iF (c2.trans (by rw[m];rfl)) rfl) (gP (ρ':=S (some (.p (.lst (Z.map λq=>nI q.2)))) (some (.p (nI p))) none) (gY (t:=nI p) (gN (x:=.lst (Z.map λq=>nI q.2)) (y:=.int 0) rfl rfl (by rw[m];exact QV _ _)) rfl) (gP (ρ':=S4) (gY (iV e4) rfl) h)));cases hA:(a.map λt=>!(t.any λx=>x != 0)).any id with
  |true=>
   obtain⟨b,hb,hb2⟩:=dZ.mp hA;obtain⟨t,Y,rfl⟩:=aD.mp hb;obtain⟨w,hw,rfl⟩:=aD.mp Y;obtain⟨i,l,hiw⟩:=gD hw;have az:∀j,vc (wo (f w) p) j=0:=λj=>aO λne=>by
    have:((wo (f w) p).any λx=>x != 0)=true:=by
     by_cases hj:j<(wo (f w) p).length
     .exact dZ.mpr ⟨vc (wo (f w) p) j,by rw[ke _ j hj];exact aV _,by simpa using ne⟩
     .exact absurd (rJ _ j (by lia)) ne
    rw[this]at hb2;cases hb2
   refine⟨[],st4 (MB (i9 (e5.trans (by rw[hA])) (oo (by simp))) rfl),(Ee λs hs=>?_).symm,λ_ h=>nomatch h⟩;obtain⟨X,hX⟩:=(ti s).mpr hs;have:=hX i (by simpa using l);rw[vQ rfl _ l,af,ag l,Option.getD_some,hiw,oB λj _=>az j,az]at this;simp at this
  |false=>
   have gtr:∀t∈a,Gu d' (2*B+1) t:=λt Y=>by
    obtain⟨w,hw,rfl⟩:=aD.mp Y;have wl:=Ku (row:=f w) (p:=p) (by have:=U w hw;lia);have:=bH.mp hA _ (aD.mpr ⟨_,Y,rfl⟩);refine⟨by have:=U w hw;lia,λx D=>(J w hw).2.2.1 x (K9 D),?_⟩;have t1:((wo (f w) p).any λx=>x != 0)=true:=by simpa using this
    obtain⟨x,D,hx2⟩:=dZ.mp t1;obtain⟨j,hj,e⟩:=gD D;exact⟨j,by rw[ke _ j hj,e];simpa using hx2⟩
   obtain⟨L,eL,hL⟩:=hFR d' rfl a (by simp[a]) gtr;obtain⟨Q,hQ⟩:=n8 (P:=λ(q:LI×LI) (r:LI×Int)=>ng c [tI u,.int (p:Int),tI q.2]=.ok (tI r.1)/\r.1.length=d'+2/\(∀x∈r.1,Bn (B+N+(d'+1)+1) x)/\0<r.2/\(∀i,r.2*vc r.1 (sk p i)=((vc u p).natAbs:Int)*vc q.2 i)/\r.2*vc r.1 p = -kJ (vc u p)*hv d' (λi=>vc u (sk p i)) (vc q.2)) L λq o=>by obtain⟨R,g,H,v,n,A,F,K⟩:=EH (c:=c) (d:=d') (B:=B) (M:=N) hB hN (by lia) (by lia) hu.bn (p:=p) (by lia) (hL.gp q o);exact⟨(R,g),H,v,λx D=>(n x D).mono (by lia),A,F,K⟩
   have Ll:L.length<=256:=by
    have H:=congrArg List.length hL.fst;have v:=vC a.length (Rz d' a);have n:a.length<=8:=by simpa[a] using hn
    have A:2 ^ a.length<=2 ^ 8:=dh (by decide) n;rw[aw]at H;lia
   refine⟨L.map λq=>(q.1,(Q q).1),st4 (gP (iF (e5.trans (by rw[hA])) rfl) (oo (jS L qO (λq=>qO (q.1,(Q q).1)) (tO (iH (x:=.lst (a.map tI)) (y:=.int (d':Int)) rfl (gN (x:=.int ((d'+2:Nat):Int)) (y:=.int 2) (mZ (t:=tI u) rfl (by simp[tI,ul];lia)) rfl (by rw[oq];congr 2;lia)) eL)) (by lia) (λq o=>⟨_,rfl,rfl,nS rfl (kr rfl rfl rfl (hQ q o).1)⟩) (by rw[aI];rfl)))),?_,λq o=>?_⟩
   .rw[aI];show L.map Prod.fst=_;rw[hL.fst,show a.length=us.length by simp[a]];exact Iq λs _=>ti s
   .obtain⟨q0,E,rfl⟩:=aD.mp o;obtain⟨-,v,n,A,F,K⟩:=hQ q0 E;have gp0:=hL.gp q0 E;dsimp only;refine⟨⟨v,n,?_⟩,(zO (w:=u) (r:=u) (by lia) h0 A F K).1,λi l=>?_,p,by lia,h0⟩
    .have:=F d';rw[R6 (by lia)]at this;have h7:0<((vc u p).natAbs:Int)*vc q0.2 d':=aX (by lia) gp0.pos;rw[<-this]at h7;exact gA h7 A
    .have hw:=v5 l;rw[(zO (w:=us.getD i []) (r:=f (us.getD i [])) (by lia) h0 A F K).2 (J _ hw).2.2.2.1 (by have:=U _ hw;lia) (J _ hw).2.2.2.2];have:=hL.sg q0 E i (by simpa[a] using l);rwa [vQ rfl _ l]at this
def KP kvs k j v:pK (tH kvs k v) j=if j=k then some v else pK kvs j:=by
 have get:∀l:List (LI×T),(l.find? λd=>decide (d.1=j)).map (·.2)=pK l j:=λ_=>rfl;unfold tH;by_cases h:(kvs.any λd=>decide (d.1=k))=true
 .rw[aQ h];induction kvs with
  |nil=>simp at h
  |cons a l ih=>
   unfold pK at ih ⊢;rw[bI,List.find?_cons,List.find?_cons];by_cases e:a.1=k
   .rw[aQ e];by_cases b:j=k
    .rw[aQ b];simp[e,b]
    .rw[aR b];have i:¬a.1=j:=λz=>b (z▸e);simp only[i,decide_false];by_cases f:(l.any λd=>decide (d.1=k))=true
     .rw[ih f,aR b]
     .have:l.map (λd=>if d.1=k then (d.1,v) else d)=l:=by
       conv=>rhs;rw[<-List.map_id l]
       refine fC λq g=>aR λz=>f (dZ.mpr ⟨q,g,by simpa using z⟩)
      rw[this]
   .rw[aR e];have f:(l.any λd=>decide (d.1=k))=true:=by simpa[e] using h
    by_cases b:a.1=j
    .have:¬j=k:=λz=>e (b.trans z);simp[b,this]
    .simp only[b,decide_false];exact ih f
 .rw[aR h];unfold pK;rw[List.find?_append];by_cases b:j=k
  .subst b;have:=List.find?_eq_none.mpr λq g z=>h (dZ.mpr ⟨q,g,z⟩);rw[this];simp
  .rw[aR b];have:¬k=j:=λz=>b z.symm;simp[this]
theorem A3:∀b kvs j,(pK (vL kvs b) j=pK kvs j/\j∉b.map Prod.fst)\/∃t,pK (vL kvs b) j=some t/\(j,t)∈b
 |[],_,_=>.inl ⟨rfl,λh=>nomatch h⟩
 | (k,v)::b,kvs,j=>by
  rcases A3 b (tH kvs k v) j with⟨a,e⟩|⟨t,a,e⟩
  .rw[KP]at a;by_cases d:j=k
   .rw[aQ d]at a;exact .inr ⟨v,a,by rw[d];simp⟩
   .rw[aR d]at a;exact .inl ⟨a,by simp[d];simpa using e⟩
  .exact .inr ⟨t,a,by simp[e]⟩
theorem BB:∀C:List (LI×LI),Ae (C.map qO)=some (C.map λq=>(q.1,tI q.2))
 |[]=>rfl
 |q::C=>by rw[bI];show (kc (q.1.map T.int)).bind _=_;rw[tQ,Option.bind_some,BB C];rfl
def Tj(C:List (LI×LI)) s:(pK (vL [] (C.map λq=>(q.1,tI q.2))) s=none/\s∉C.map Prod.fst)\/∃q∈C,q.1=s/\pK (vL [] (C.map λq=>(q.1,tI q.2))) s=some (tI q.2):=by
 rcases A3 (C.map λq=>(q.1,tI q.2)) [] s with⟨b,a⟩|⟨t,b,a⟩
 .exact .inl ⟨b,by rw[aI]at a;exact a⟩
 .obtain⟨q,d,e⟩:=aD.mp a;cases e;exact .inr ⟨q,d,rfl,b⟩
def NG n p:flt (n+1) p=(iL n).flatMap λs=>[s++[-1],s++[1]].filter λs=>IZ (p s):=by unfold flt;rw[iL,List.filter_flatMap]
def J1(h:∀s∈iL n,¬p s->∀v,¬q (s++[v])):flt (n+1) q=(flt n p).flatMap λs=>[s++[-1],s++[1]].filter λs=>IZ (q s):=by
 rw[NG];unfold flt;generalize iL n=l at *;induction l with
 |nil=>rfl
 |cons a l ih=>
  rw[gE,ih λs d=>h s (by simp[d])];by_cases b:p a
  .have e:(a::l).filter (λs=>IZ (p s))=a::l.filter λs=>IZ (p s):=gF (by simpa using b);rw[e,gE]
  .have e:(a::l).filter (λs=>IZ (p s))=l.filter λs=>IZ (p s):=gG (by simpa using b);rw[e];simp[h a (by simp) b]
section
variable {d:Nat}{us:LL}{u s:LI}
def tT i:(us++[u]).getD i []=if i<us.length then us.getD i [] else if i=us.length then u else []:=by
 rw[af,af];by_cases h:i<us.length
 .rw[aQ h,List.getElem?_append_left h]
 .rw[aR h,List.getElem?_append_right (by lia)];by_cases a:i=us.length
  .rw[aQ a,a,fS];rfl
  .rw[aR a,List.getElem?_eq_none (by simp;lia)];rfl
def vj(b:s.length=n) v i:vc (s++[v]) i=if i<n then vc s i else if i=n then v else 0:=by
 rw[tN,b];by_cases h:i<n
 .rw[aQ h,aQ h]
 .rw[aR h,aR h];by_cases a:i=n
  .rw[aQ a,a,fS];rfl
  .rw[aR a];exact rJ _ _ (by simp;lia)
def Cd(b:s.length=us.length)(v:Int) X:On d (us++[u]) (s++[v]) X↔On d us s X/\0<(v:Rat)*jk d X (vc u):=by
 constructor
 .intro h;refine⟨λi a=>?_,?_⟩
  .have:=h i (by simp;lia);rwa [tT,aQ a,vj b,aQ a]at this
  .have:=h us.length (by simp);rwa [tT,aR (by lia),aQ rfl,vj b,aR (by lia),aQ rfl]at this
 .rintro⟨f,e⟩ i a;rw[tT,vj b];by_cases q:i<us.length
  .rw[aQ q,aQ q];exact f i q
  .have:i=us.length:=by simp at a;lia
   rw[aR q,aR q,aQ this,aQ this];exact e
def HI(b:s.length=us.length)(h:∀i,i<us.length->kJ (hv d (vc (us.getD i [])) (vc P))=vc s i)(a:kJ (hv d (vc u) (vc P))=v):∀i,i<(us++[u]).length->kJ (hv d (vc ((us++[u]).getD i [])) (vc P))=vc (s++[v]) i:=λi e=>by
 rw[tT,vj b];by_cases q:i<us.length
 .rw[aQ q,aQ q];exact h i q
 .have:i=us.length:=by simp at e;lia
  rw[aR q,aR q,aQ this,aQ this];exact a
end
def Qp(k:0<g)(j:1<=o)(h:s = -1\/s=1)(f:∀i,i<d->g*vc Q i=o*vc P i+s*vc u i)(b:g*vc Q d=o*vc P d) :
  g*hv d (vc w) (vc Q)=o*hv d (vc w) (vc P)+s*sm d λi=>vc w i*vc u i:=by
 unfold hv;have e:g*sm d (λi=>vc w i*vc Q i)=o*sm d (λi=>vc w i*vc P i)+s*sm d (λi=>vc w i*vc u i):=by rw[<-mC,<-uX];exact ko d _ _ λi a=>by have:=f i a;grind
 rw[gq,e,show g*(vc w d*vc Q d)=vc w d*(g*vc Q d) by grind,b];grind
theorem Q7:∀(d:Nat) (f:Nat->Int),0<=sm d (λi=>f i*f i)/\((∃i,i<d/\f i≠0)->0<sm d λi=>f i*f i)
 |0,_=>⟨eD _,λ⟨_,h,_⟩=>nomatch h⟩
 |d+1,f=>by
  obtain⟨e,a⟩:=Q7 d λi=>f (i+1);have b:∀x:Int,0<=x*x/\(x≠0->0<x*x):=λx=>by
   rcases fJ x 0 with h|h|h
   .have:=Int.mul_pos_of_neg_of_neg h h;exact⟨by lia,λ_=>this⟩
   .subst h;exact⟨by decide,λz=>absurd rfl z⟩
   .have:=aX h h;exact⟨by lia,λ_=>this⟩
  rw[sm];have q:=b (f 0);refine⟨by lia,λ⟨i,hi,hf⟩=>?_⟩;cases i with
  |zero=>have:=q.2 hf;lia
  |succ i=>have:=a ⟨i,by lia,hf⟩;lia
def Ni(e:1<=o)(h:(b.natAbs:Int)<o*(a.natAbs:Int))(d:s = -1\/s=1):kJ (o*a+s*b)=kJ a:=by
 unfold kJ;rcases fJ a 0 with q|q|q
 .have:o*a.natAbs = -(o*a):=by rw[show a.natAbs = -a by lia,cV]
  rw[aR (by lia),aQ (by lia),aR (by lia),aQ q]
 .subst q;simp at h;lia
 .have:o*a.natAbs=o*a:=by rw[show a.natAbs=a by lia]
  rw[aQ (by lia),aQ q]
def HM(hB:B<=2000)(hN:N<=5000)(hd:d<=50)(h2:3*B+N+2*d+4<=N2)(hN2:N2<=5000)(hus:∀w∈us,Gu d B w)(hn:us.length<=8)(hu:Gu d B u) FR
  (hFR:∀d',d=d'+1->∀vs:LL,vs.length=us.length->(∀w∈vs,Gu d' (2*B+1) w)->∃L:List (LI×LI),FR [.lst (vs.map tI),.int (d':Int)]=.ok (.lst (L.map qO))/\Qf d' N vs L) (hL:Qf d N2 us L) :
  ∃L':List (LI×LI),lK c FR [.lst (L.map qO),.lst (us.map tI),tI u]=.ok (L'.map qO)/\Qf d N2 (us++[u]) L'/\L'.length=L.length+(flt us.length (Rx d us u)).length:=by
 have sz:1000<sizeLine:=by decide
 obtain⟨C,eC,hC,hCp⟩:=Ce (c:=c) hB hN hd hus hn hu FR hFR;have Ll:L.length<=256:=by have h1:=congrArg List.length hL.fst;have h2:=vC us.length (Rz d us);have h4:2 ^ us.length<=2 ^ 8:=dh (by decide) hn;rw[aw]at h1;lia
 have rw_:∀q∈L,q.1∈iL us.length/\Rz d us q.1:=λq I=>vZ.mp (by rw[<-hL.fst];exact aD.mpr ⟨q,I,rfl⟩);let R:List (LI×T):=vL [] (C.map λq=>(q.1,tI q.2));let D:T:=.dic R;let S (G:List (LI×LI)) (E n a:Option W):En:=[some (.p (.lst (L.map qO))),some (.p (.lst (us.map tI))),some (.p (tI u)),some (.p D),some (.o (G.map qO)),E,n,a];let Ok (q:LI×LI):Prop:=Gp d N2 q.2/\∀i,i<(us++[u]).length->kJ (hv d (vc ((us++[u]).getD i [])) (vc q.2))=vc q.1 i;let A:LI->Bool:=λs=>IZ (Rx d us u s);let two:LI->LL:=λs=>[s++[-1],s++[1]].filter λs=>IZ (Rz d (us++[u]) s);have hin:∀(s:LI) (b:Bool) (G:List (LI×LI)) (n a:Option W),(pK R s).isSome=b->iD (gW (GM false) bq bm) (vw (S G (some (.p (tI s))) n a))=.ok b:=λs b G n a h=>g9 (gN (x:=tI s) (y:=D) rfl rfl (by show (match kc (s.map T.int) with|some ns=>M.ok (T.bl (if false then !(pK R ns).isSome else (pK R ns).isSome))|none=>M.bad)=_;rw[tQ];simp[h]))
 have app:∀(G:List (LI×LI)) (q:LI×LI) (E n a:Option W) {f:Pe->M T},G.length<=600->f (nQ (S G E n a))=.ok (qO q)->rj 4 (ju f) (S G E n a)=.nx (S (G++[q]) E n a):=λG q E n a {f} hG h=>wU (us:=G.map qO) rfl h (by rw[aw];lia) (by simp[S]);obtain⟨ρ',e',G,E,n,a,rfl,g1,g2,g3⟩:=jP (m:=kX 2 (iI (j6 5) (iI (j6 6) kZ))) (g:=qZ c FR) qO
  (λk ρ=>∃(G:List (LI×LI)) (E n a:Option W),ρ=S G E n a/\G.map Prod.fst=((L.take k).map Prod.fst).flatMap two/\(∀q∈G,Ok q)/\G.length=k+(((L.take k).map Prod.fst).filter A).length) L 0 (S [] none none none) ⟨[],none,none,none,rfl,rfl,(λ_ h=>nomatch h),rfl⟩ (by
   rintro k ⟨s,P⟩ ρ hk ⟨G,E,n,a,rfl,g1,g2,g3⟩;rw[aG]at g1 g3 ⊢;have hm:=au hk;have hkl:=(aa.mp hk).1;have g4:G.length<=2*k:=by have:=fE A ((L.take k).map Prod.fst);simp only[aw,bR]at this;lia
   have ck:(((L.take (k+1)).map Prod.fst).filter A).length=(((L.take k).map Prod.fst).filter A).length+if A s then 1 else 0:=by rw[jJ L k _ hk,aZ,fF,aT];cases h:A s<;>simp[h]
   obtain⟨r1,X0,hX0⟩:=rw_ _ hm;have K:=hL.gp _ hm;have sg:=hL.sg _ hm;dsimp only at r1 K sg hX0;have sl:=(pN r1).1;have F:=M4 K.pos sg λi j=>CJ r1 j;have rx:s∈C.map Prod.fst↔Rx d us u s:=by rw[hC,vZ];exact⟨λz=>z.2,λz=>⟨r1,z⟩⟩
   have tk:((L.take (k+1)).map Prod.fst).flatMap two=((L.take k).map Prod.fst).flatMap two++two s:=by rw[jJ L k _ hk];simp
   refine⟨S G (some (.p (tI s))) (some (.p (tI P))) a,?_⟩;rcases Tj C s with⟨v0,v1⟩|⟨q,I,rfl,v1⟩
   .have H:¬Rx d us u s:=λz=>v1 (rx.mpr z);have h0:hv d (vc u) (vc P)≠0:=λz=>H ⟨XP d (vc P),by
     have e:=La (u:=vc u) K.pos;rw[z]at e;have:=j3 K.pos;rcases Rat.mul_eq_zero.mp e.symm with q|q
     .grind
     .exact q,F⟩
    have la:=uT (c:=c) (d:=d) (B:=B) (M:=N2) (by lia) (by lia) hd hu.len K.len hu.bn K.bn;have hs:=Mr (hv d (vc u) (vc P));generalize hh:hv d (vc u) (vc P)=h at *;have one:kJ h = -1\/kJ h=1:=by have:=xB h;have:=(hs.2 h0).2.2;lia
    have r:0<((kJ h:Int):Rat)*jk d (XP d (vc P)) (vc u):=by
     have z:∀i,i < [u].length->i=0:=λi j=>by simpa using j
     have:=M4 (us:=[u]) (s:=[kJ h]) K.pos (λi j=>by rw[z i j];show kJ (hv d (vc u) (vc P))=_;rw[hh];rfl) λi j=>by rw[z i j];exact one.symm
     exact this 0 (by simp)
    have rz1:Rz d (us++[u]) (s++[kJ h]):=⟨_,(Cd sl _ _).mpr ⟨F,r⟩⟩;have rz2:∀v:Int,(v = -1\/v=1)->v≠kJ h->¬Rz d (us++[u]) (s++[v]):=λv l Z ⟨Y,hY⟩=>by
     obtain⟨y1,y2⟩:=(Cd sl _ _).mp hY;have:v = -kJ h:=by rcases one with q|q<;>rw[q]at Z ⊢<;>lia
     rw[this]at y2;have c1:((-kJ h:Int):Rat) = -((kJ h:Int):Rat):=by simp
     rw[c1]at y2;rcases one with q|q
     .rw[q]at r y2;have o:((-1:Int):Rat) = -1:=rfl;rw[o]at r y2;exact H (Rb y1 F (by grind) (by grind))
     .rw[q]at r y2;have o:((1:Int):Rat)=1:=rfl;rw[o]at r y2;exact H (Rb F y1 (by grind) (by grind))
    have tw:two s=[s++[kJ h]]:=by
     show List.filter _ [s++[-1],s++[1]]=_;rcases one with q|q<;>rw[q]at rz1 rz2 ⊢
     .rw[gF (by simpa using rz1),gG (by simpa using rz2 1 (.inr rfl) (by decide))];rfl
     .rw[gG (by simpa using rz2 (-1) (.inl rfl) (by decide)),gF (by simpa using rz1)];rfl
    refine⟨S (G++[(s++[kJ h],P)]) (some (.p (tI s))) (some (.p (tI P))) a,rfl,.inl (iF (hin s false G _ _ (by rw[show pK R s=none from v0];rfl)) (app G (s++[kJ h],P) _ _ _ (by lia) (nS (gN (x:=tI s) (y:=tI [kJ h]) rfl (Fs (oO (iH rfl rfl la) (rY h))) (sU _ _ (by simp;lia))) rfl))),_,_,_,_,rfl,?_,?_,by rw[ck,show A s=false from S7 H,aT,g3];simp;lia⟩
    .rw[aZ,g1,tk,tw];rfl
    .intro z hz;rcases ai.mp hz with y|y
     .exact g2 z y
     .rw[aj.mp y];exact⟨K,HI sl sg (by rw[hh])⟩
   .obtain⟨cp,cz,cs,ci⟩:=hCp q I;have Z:∀w∈us,hv d (vc w) (vc q.2)≠0:=λw hw z=>by obtain⟨i,j,e⟩:=gD hw;have:=cs i j;rw[af,ag j,Option.getD_some,e,z]at this;rcases CJ r1 j with y|y<;>rw[y]at this<;>cases this
    have J:∀v:Int,(v = -1\/v=1)->∃Q:LI,lD c [.lst (us.map tI),tI u,tI q.2,.int v]=.ok (tI Q)/\Ok (q.1++[v],Q):=λv l=>by
     obtain⟨Q,g,o,f1,f2,f3,f4,f5,f6,f7,f8⟩:=BS (c:=c) (d:=d) (B:=B) (N:=B+N+d+1) hB (by lia) (by lia) hd (λw hw=>⟨(hus w hw).len,(hus w hw).bn⟩) (by lia) hu.len hu.bn cp Z l;have pos:0<vc Q d:=by have h7:0<o*vc q.2 d:=aX (by lia) cp.pos;rw[<-f7]at h7;exact gA h7 f4
     have of:=λw=>Qp (w:=w) f4 f5 l f6 f7;refine⟨Q,f1,⟨f2,λx hx=>(f3 x hx).mono (by lia),pos⟩,HI sl (λi j=>?_) ?_⟩
     .have hw:=v5 j;rw[<-cs i j,yE f4 (by decide:(0:Int)<1) ((of _).trans (dJ _).symm)];exact Ni f5 (f8 _ hw) l
     .rw[yE f4 (by decide:(0:Int)<1) ((of _).trans (dJ _).symm),cz];have:=(Q7 d (vc u)).2 ci;generalize sm d (λi=>vc u i*vc u i)=m at this;unfold kJ;rcases l with rfl|rfl
      .rw[aR (by lia),aQ (by lia)]
      .rw[aQ (by lia)]
    obtain⟨Q1,f1,o1⟩:=J (-1) (.inl rfl);obtain⟨Q2,f2,o2⟩:=J 1 (.inr rfl);have rzo:∀(v:Int) (Q:LI),(v = -1\/v=1)->Ok (q.1++[v],Q)->Rz d (us++[u]) (q.1++[v]):=λv Q l o=>⟨_,M4 o.1.pos o.2 λi j=>by
     rw[vj sl];by_cases y:i<us.length
     .rw[aQ y];exact CJ r1 y
     .have:i=us.length:=by simp at j;lia
      rw[aR y,aQ this];exact l.symm⟩
    have tw:two q.1=[q.1++[-1],q.1++[1]]:=by show List.filter _ [q.1++[-1],q.1++[1]]=_;rw[gF (by simpa using rzo _ _ (.inl rfl) o1),gF (by simpa using rzo _ _ (.inr rfl) o2)];rfl
    have gt:MQ D (tI q.1)=.ok (tI q.2):=by show (match kc (q.1.map T.int) with|some ns=>(match pK R ns with|some t=>M.ok t|none=>M.bad)|none=>M.bad)=_;rw[tQ];dsimp only;rw[show pK R q.1=some (tI q.2) from v1]
    have U:∀(G:List (LI×LI)) (v:Int) (Q:LI),G.length<=600->lD c [.lst (us.map tI),tI u,tI q.2,.int v]=.ok (tI Q)->n9 c FR (S G (some (.p (tI q.1))) (some (.p (tI P))) (some (.p (.int v))))=.nx (S (G++[(q.1++[v],Q)]) (some (.p (tI q.1))) (some (.p (tI P))) (some (.p (.int v)))):=λG v Q hG hf=>app G (q.1++[v],Q) _ _ _ hG (nS (gN (x:=tI q.1) (y:=tI [v]) rfl (Fs rfl) (sU _ _ (by simp;lia))) (Lr rfl rfl (gN (x:=D) (y:=tI q.1) rfl rfl gt) rfl hf))
    have lp:jU (j6 7) (n9 c FR) [T.int (-1),T.int 1] (S G (some (.p (tI q.1))) (some (.p (tI P))) a)=.nx (S ((G++[(q.1++[-1],Q1)])++[(q.1++[1],Q2)]) (some (.p (tI q.1))) (some (.p (tI P))) (some (.p (.int 1)))):=by have s1:j6 7 (T.int (-1)) (S G (some (.p (tI q.1))) (some (.p (tI P))) a)=some (S G (some (.p (tI q.1))) (some (.p (tI P))) (some (.p (.int (-1))))):=rfl;have s2:j6 7 (T.int 1) (S (G++[(q.1++[-1],Q1)]) (some (.p (tI q.1))) (some (.p (tI P))) (some (.p (.int (-1)))))=some (S (G++[(q.1++[-1],Q1)]) (some (.p (tI q.1))) (some (.p (tI P))) (some (.p (.int 1)))):=rfl;rw[jU,s1];dsimp only;rw[U G (-1) Q1 (by lia) f1];dsimp only;rw[jU,s2];dsimp only;rw[U _ 1 Q2 (by simp;lia) f2];rfl
    refine⟨_,rfl,.inl (i9 (hin q.1 true G _ _ (by rw[show pK R q.1=some (tI q.2) from v1];rfl)) (jK (Ag (nS (pM rfl) rfl)) lp)),_,_,_,_,rfl,?_,?_,by rw[ck,show A q.1=true from PQ (rx.mp (aD.mpr ⟨q,I,rfl⟩)),aT,aT,g3];simp;lia⟩
    .rw[aZ,aZ,g1,tk,tw,b5];rfl
    .intro z hz;rcases ai.mp hz with y|y
     .rcases ai.mp y with y|y
      .exact g2 z y
      .rw[aj.mp y];exact o1
     .rw[aj.mp y];exact o2)
 rw[aG,dM]at g1 g3;refine⟨G,nG rfl (gP (ρ':=[some (.p (.lst (L.map qO))),some (.p (.lst (us.map tI))),some (.p (tI u)),some (.p D),none,none,none,none]) (gY (mZ (iV (xr rfl rfl eC)) (by show (match Ae (C.map qO) with|some ps=>M.ok (T.dic (vL [] ps))|none=>M.bad)=_;rw[BB])) rfl) (gP (ρ':=S [] none none none) (nY (ts:=[]) (by simp) rfl) (gP (jK (tO rfl) e') rfl))),⟨?_,λq I=>(g2 q I).1,λq I=>(g2 q I).2⟩,?_⟩
 .rw[g1,hL.fst,aT,b6];exact (J1 λs hs np v ⟨X,hX⟩=>np ⟨X,((Cd (pN hs).1 _ _).mp hX).1⟩).symm
 .rw[g3,hL.fst];congr 2;unfold flt;rw[List.filter_filter];refine gB λs _=>?_;by_cases h:Rx d us u s
  .have h2:Rz d us s:=let ⟨X,_,z⟩:=h;⟨X,z⟩;simp[A,h,h2]
  .simp[A,h]
noncomputable def Pw:Nat->Nat->Nat
 |0,B=>3*B+4
 |d+1,B=>3*B+Pw d (2*B+1)+2*(d+1)+4
theorem QU:∀d B,d<=8->Pw d B+3*(B+1)<=6*((B+1)*2 ^ d)+20*d+4
 |0,B,_=>by unfold Pw;simp;lia
 |d+1,B,h=>by
  have a:=QU d (2*B+1) (by lia);have e:(2*B+1+1)*2 ^ d=(B+1)*2 ^ (d+1):=by rw[dy,show 2*B+1+1=(B+1)*2 by lia,Nat.mul_assoc,b9 2]
  rw[e]at a;generalize (B+1)*2 ^ (d+1)=q at *;unfold Pw;lia
def tz(a:d<=4)(h:(B+1)*2 ^ d<=800):Pw d B<=5000/\B<=2000:=by have:=QU d B (by lia);have:(B+1)*1<=(B+1)*2 ^ d:=fj _ (dI d);lia
def OE(h:f ρ=.ok x):lstM (gI f gM) ρ=.ok [x]:=by
 have:1<=sizeLine:=by decide
 simp[h,this]
theorem vB:∀n d B us,d<n->d<=4->(B+1)*2 ^ d<=800->us.length<=8->(∀u∈us,Gu d B u)->
  ∃L:List (LI×LI),mw c n [.lst (us.map tI),.int (d:Int)]=.ok (.lst (L.map qO))/\Qf d (Pw d B) us L
 |0,d,B,us,h,_,_,_,_=>absurd h (dg _)
 |n+1,d,B,us,hdn,hd,hB,hn,hus=>by
  have sz:1000<sizeLine:=by decide
  obtain⟨R,P⟩:=tz hd hB;obtain⟨N,n1,n2,n3⟩:∃N,3*B+N+2*d+4<=Pw d B/\N<=5000/\∀b,d=b+1->∀o:LL,o.length<=8->(∀w∈o,Gu b (2*B+1) w)->∃L:List (LI×LI),mw c n [.lst (o.map tI),.int (b:Int)]=.ok (.lst (L.map qO))/\Qf b N o L:=by
   cases d with
   |zero=>exact⟨0,by unfold Pw;lia,by decide,λb h=>nomatch h⟩
   |succ d=>
    have e:(2*B+1+1)*2 ^ d=(B+1)*2 ^ (d+1):=by rw[dy,show 2*B+1+1=(B+1)*2 by lia,Nat.mul_assoc,b9 2]
    have q:=tz (d:=d) (by lia) (by rw[e];exact hB);refine⟨Pw d (2*B+1),bJ (by rw[Pw]),q.1,λb h o H E=>?_⟩;cases h;exact vB n d (2*B+1) o (by lia) (by lia) (by rw[e];exact hB) H E
  let S (L:List (LI×LI)) (A s:Option W):En:=[some (.p (.lst (us.map tI))),some (.p (.int (d:Int))),some (.p (.lst (L.map qO))),A,s];let P0:LI:=List.replicate d 0++[1];have X:vc P0 d=1:=by show vc (List.replicate d 0++[1]) d=1;rw[tN,bS,aR (by lia),fS];rfl
  have Q:Qf d (Pw d B) [] [([],P0)]:=by
   refine⟨?_,λq J=>?_,λq J i F=>nomatch F⟩
   .have:([]:LI)∈flt 0 (Rz d []):=vZ.mpr ⟨by simp[iL],λ_=>0,λi F=>nomatch F⟩;have l:=vC 0 (Rz d []);show [[]]=flt 0 (Rz d []);revert this l;generalize flt 0 (Rz d [])=f;intro this l;match f,this,l with
    |[a],h,_=>rw[aj.mp h]
    |_::_::_,_,l=>simp at l
   .rw[aj.mp J];refine⟨by simp[P0],λx C=>?_,by rw[X];decide⟩;have Y:Bn 1 x:=by
     rcases ai.mp C with z|z
     .rw[bg z];unfold Bn;decide
     .rw[aj.mp z];unfold Bn;decide
    exact Y.mono (by lia)
  obtain⟨ρ',e',L,A,s,rfl,v⟩:=jP (m:=kX 2 c4) (g:=DG c (mw c n)) (λp:LI×Nat=>T.tup [.int (p.2:Int),tI p.1])
   (λk K=>∃(L:List (LI×LI)) (A s:Option W),K=S L A s/\Qf d (Pw d B) (us.take k) L) us.zipIdx 0 (S [([],P0)] none none) ⟨_,none,none,rfl,Q⟩ (by
    rintro k ⟨u,j⟩ K r ⟨L,A,s,rfl,v⟩;rw[aG]at v ⊢;obtain⟨hku,rfl⟩:us[k]? = some u/\k=j:=by
     rw[List.getElem?_zipIdx]at r;cases C:us[k]? with
     |none=>rw[C]at r;cases r
     |some z=>rw[C]at r;simp at r;exact⟨by rw[r.1],r.2⟩
    have hkl:=(aa.mp hku).1;obtain⟨I,U,D,-⟩:=HM (c:=c) P n2 (by lia) n1 R (us:=us.take k) (λw hw=>hus w (d8 hw)) (by simp;lia) (hus u (au hku)) (mw c n) (λb h o h1 Z=>n3 b h o (by rw[h1];simp;lia) Z) v;refine⟨_,S I (some (.p (.int (k:Int)))) (some (.p (tI u))),rfl,.inl (gY (iV (B0 rfl (Br (d:=k) (ts:=us.map tI) rfl rfl) rfl (by rw[<-dc];exact U))) rfl),I,_,_,rfl,by rw[jJ us k u hku];exact D⟩)
  rw[aG,fU,dM]at v;refine⟨L,iB rfl (gP (ρ':=S [([],P0)] none none) (gY (iV (OE (nS (by simp;rfl) (gN (x:=tI (List.replicate d 0)) (y:=tI [1]) (UP d (by lia) rfl) (Fs rfl) (sU _ _ (by simp;lia)))))) rfl) (gP (jK ((Ij rfl).trans (by rw[t8])) e') (hW rfl))),v⟩
def HR(h:GC d B u):Gu d B u:=⟨h.gl.1,h.gl.2,let ⟨p,_,q⟩:=h.re;⟨p,q⟩⟩
abbrev Dl(d:Nat)(cs:LL):LL:=flt cs.length (Rz d cs)
def He{cs:LL}(h:cs.length<=8):(Dl d cs).length<=256:=aN (vC _ _) (dh (by decide) h)
def Je{cs:LL}(g:1<=d/\d<=3)(i:∀u∈cs,GC d 90 u)(b:cs.length<=8):∃L:List (LI×LI),mw c 5 [.lst (cs.map tI),.int (d:Int)]=.ok (.lst (L.map qO))/\Qf d 5000 cs L/\L.length<=256:=by
 have a:(90+1)*2 ^ d<=800:=by have:2 ^ d<=2 ^ 3:=dh (by decide) g.2;lia
 obtain⟨L,e,h⟩:=vB 5 d 90 cs (by lia) (by lia) a b λu k=>HR (i u k);have:=(tz (by lia) a).1;refine⟨L,e,⟨h.fst,λp a=>⟨(h.gp p a).len,λx j=>((h.gp p a).bn x j).mono this,(h.gp p a).pos⟩,h.sg⟩,?_⟩;have f:=congrArg List.length h.fst;rw[aw]at f;rw[f];exact He b
def FA{cs:LL}(a:1<=d/\d<=3)(b:∀u∈cs,GC d 90 u)(f:cs.length<=8):uf c [mq c d cs]=.ok ((Dl d cs).map tI):=by
 have sz:1000<sizeLine:=by decide
 obtain⟨L,e,h,i⟩:=Je a b f;rw[show Dl d cs=L.map Prod.fst from h.fst.symm];exact nG rfl (oo (jS L qO (λq=>tI q.1) (tO (iH (iV (yA d cs rfl)) (yt d cs rfl) e)) (by lia) (λq g=>⟨_,rfl,rfl,rfl⟩) (by rw[aI];rfl)))
def LS(f:us.length=n)(h:s∈iL n):On d us s X↔vq us d s X:=by
 have b:=(pN h).1;constructor
 .intro a i v hv;obtain⟨j,e⟩:=TH b hv;have:=a i (by lia);rw[e]at this;exact⟨λz=>by rw[z]at this;simp at this,λ_=>this⟩
 .intro a i g;have:=a i (vc s i) (by rw[ke s i (by lia)];exact ag _);exact this.2 (by rcases CJ h (i:=i) (by lia) with q|q<;>rw[q]<;>decide)
def Nd ns (a b:Nat) (u:b<=7):∃(d:Nat) (cs:LL),lR c [.scr ns,.int (a:Int),.int b]=.ok (.tup [.int d,.lst (cs.map tI)])/\(1<=d/\d<=3)/\y9 d 84 cs/\cs.length<=b:=by
 obtain⟨v,i,-⟩:=rX ns a;obtain⟨j,l,n⟩:=lH (c:=c) v 0 3 (by decide) (by decide) (by decide) (by decide);obtain⟨h,q,g⟩:=lH (c:=c) v 1 (b+1) (by lia) (by lia) (by decide) (by decide);obtain⟨d,hd⟩:∃d:Nat,1+dr c v 0 3=(d:Int):=⟨(1+dr c v 0 3).toNat,by lia⟩;obtain⟨m,hmm⟩:∃d:Nat,dr c v 1 (b+1)=(d:Int):=⟨(dr c v 1 (b+1)).toNat,by lia⟩;have e:1<=d/\d<=3:=by lia
 rw[hmm]at h g;let R (m:Nat):En:=[some (.p (.scr ns)),some (.p (.int (a:Int))),some (.p (.int b)),some (.p (.int v)),some (.p (.int d)),some (.p (.int m))];obtain⟨f,hm',e5⟩:∃f:Nat,f<=b/\(lS (iD (gW (iy false) bi em)) (setO 5 (ju (kg vS (gI bq (gI (cM (.int 5)) gM))))) iN) (R m)=.nx (R f):=by
  by_cases k:d=3
  .refine⟨min m 5,by lia,i9 (g9 (gN rfl rfl (by rw[jj,k];rfl))) (gY ?_ rfl)⟩;show kg vS _ _=_;have:vS [.int (m:Int),.int 5]=.ok (.int ((min m 5:Nat):Int)):=by simp[vS];lia
   simpa[kg,gI,gM,R] using this
  .exact⟨m,by lia,iF (g9 (gN rfl rfl (by rw[jj];simp;lia))) rfl⟩
 obtain⟨cs,o,r,s⟩:=xR ns (a+1) d f e (by lia);refine⟨d,cs,iB rfl (gP (gY (iH rfl rfl i) rfl) (gP (gY (gN rfl (kr rfl rfl rfl j) (by rw[jw,hd])) rfl) (gP (gY (kr rfl rfl (gN rfl rfl (jw _ _)) h) rfl) (gP e5 (hW (nS rfl (iV (wD rfl (gN rfl rfl (by rw[jw];simp)) rfl rfl o)))))))),e,r,by lia⟩
section
variable {d:Nat}{cs:LL}{th:T}
def Oa(b:1<=d/\d<=3)(a:y9 d 84 cs):uf c [mq c d cs]=.ok ((Dl d cs).map tI):=FA b (λu e=>(a.gc u e).mono (by decide)) (by have:=a.few;omega)
def HN:s∈Dl d cs↔s∈iL cs.length/\∃X,vq cs d s X:=by rw[vZ];exact⟨λ⟨a,X,hX⟩=>⟨a,X,(LS rfl a).mp hX⟩,λ⟨a,X,hX⟩=>⟨a,X,(LS rfl a).mpr hX⟩⟩
def Kc(h:s∈iL n):yT n s:=⟨(pN h).1,λx a=>((pN h).2 x a).symm⟩
end
def vO(us:LL)(p:Nat×Int):LI:=(wr us p.1).map λx=>p.2*x
section
variable {us:LL}{d:Nat}{sg:LI}
def N4 p i:vc (vO us p) i=p.2*vc (wr us p.1) i:=s9 _ _ _
def rH(a:yT us.length sg){p:Nat×Int}(b:p∈(List.range us.length).zip sg):p.1<us.length/\(p.2=1\/p.2 = -1):=by have h:=aW (show (p.1,p.2)∈(List.range us.length).zip sg from b);exact⟨aS.mp h.1,a.pm _ h.2⟩
def Wv{s:Int}(h:s=1\/s = -1):s.natAbs<=1:=by lia
def Cg(i:us.length<=7)(h:d<=3)(b:∀u∈us,u.length=d+1)(a:yT us.length sg):nj c [mq c d us,tI sg]=.ok (((List.range us.length).zip sg).map λp=>tI (vO us p)):=by
 have sz:1000<sizeLine:=by decide
 have j:=a.len;refine nG rfl (oo (jS ((List.range us.length).zip sg) (λp=>.tup [tI (wr us p.1),.int p.2]) _ (nT (l:=List.range us.length) (m:=sg) (f:=λk=>tI (wr us k)) (g:=T.int) (iV (B1 (iV (yA d us rfl)) (tm us (by lia) λr hr=>by have:=b r hr;lia))) ?_ rfl rfl) (by rw[dY,fX];lia) (λp e=>⟨_,rfl,rfl,iH rfl rfl (uo _ _ (Wv (rH a e).2) (by rw[xv us d _ (rH a e).1 b];lia))⟩) rfl));rw[Da,aI];rfl
def Dp(d a:Nat):List Nat:=(List.range d).filter λk=>!(k==a)
def qV{k a:Nat}:k∈Dp d a↔k<d/\k≠a:=by unfold Dp;simp
def HZ(b:d<=3)(a:Nat):lZ c [.int (d:Int),.int (a:Int)]=.ok ((Dp d a).map λ(k:Nat)=>T.int (k:Int)):=by
 have sz:1000<sizeLine:=by decide
 refine nG rfl (oo (nO (List.range d) (λ(k:Nat)=>T.int (k:Int)) (λ(k:Nat)=>T.int (k:Int)) (λk=>!(k==a)) (oJ d (by lia) rfl) (by rw[fX];lia) (λk _=>⟨_,rfl,g9 (gN rfl rfl (by rw[lq,show ((k:Int)==(a:Int))=(k==a) by rw[Bool.eq_iff_iff];simp;lia])),λ_=>rfl⟩) rfl))
def LN(a:yT us.length sg)(f:Nat×Int->LI){j:Nat}(e:j<us.length):(((List.range us.length).zip sg).map f).getD j []=f (j,vc sg j):=by
 have g:=a.len;have b:j<((List.range us.length).zip sg).length:=by rw[dY,fX];lia
 rw[af,av,ag b,List.getElem_zip,fN,ke sg j (by lia)];rfl
def Rc(k:∀u∈us,u.length=d+1)(e:yT us.length sg){f:Nat×Int->LI}(h:∀p,p.1<us.length->(f p).length=d+1+us.length/\∀i,i≠d->vc (f p) i=p.2*vc (wr us p.1) i):Jv d us.length (List.range us.length) [] (((List.range us.length).zip sg).map f):=by
 have n:=e.len;have b:(((List.range us.length).zip sg).map f).length=us.length:=by rw[aw,dY,fX];lia
 have l:∀j,j<us.length->(List.range us.length).getD j 0=j:=λj a=>by rw[af,List.getElem?_range a];rfl
 refine⟨by rw[b,fX],eK,λi g=>aS.mp g,λr hr=>?_,λj a=>?_,λj a i _ g=>?_⟩
 .obtain⟨p,m,rfl⟩:=aD.mp hr;exact (h p (rH e m).1).1
 .rw[b]at a;rw[LN e f a,l j a,(h (j,vc sg j) a).2 _ (by lia),xV us d j a k,aR (by lia),aQ (by lia)];have:=e.pm (vc sg j) (by rw[ke sg j (by lia)];exact aV _);simp only;lia
 .rw[b]at a;rw[l j a]at g;rw[LN e f a,(h (j,vc sg j) a).2 _ (by lia),Tf us d j a k i g];simp
def DK(b:∀u∈us,u.length=d+1){p:Nat×Int}(a:p.1<us.length):(vO us p).length=d+1+us.length:=by unfold vO;rw[aw,xv us d p.1 a b]
def KG(a:∀u∈us,u.length=d+1)(b:yT us.length sg):Jv d us.length (List.range us.length) [] (((List.range us.length).zip sg).map (vO us)):=Rc a b λp e=>⟨DK a e,λi _=>N4 p i⟩
def QT(f:y9 d 90 us)(a:yT us.length sg):∀r∈((List.range us.length).zip sg).map (vO us),r.length=d+1+us.length/\∀i∈r,Bn 90 i:=λr hr=>by obtain⟨p,b,rfl⟩:=aD.mp hr;refine⟨DK (λu e=>(f.gc u e).gl.1) (rH a b).1,λx g=>?_⟩;obtain⟨y,h,rfl⟩:=aD.mp g;exact GT (Wv (rH a b).2) (Mv (by decide) us p.1 (rH a b).1 (λu e=>(f.gc u e).gl.2) y h)
def KN(a:Nat)(e:a<d):(Dp d a).length<=d-1:=by
 have h:((Dp d a)++[a]).Nodup:=by rw[fW];exact⟨eK.sublist fV,by simp,λx b y f=>by rw[aj.mp f];exact (qV.mp b).2⟩
 have:=tY h (m:=List.range d) λx b=>by
  rcases ai.mp b with q|q
  .exact aS.mpr (qV.mp q).1
  .rw[aj.mp q];exact aS.mpr e
 simp at this;lia
end
section
variable {us:LL}{d:Nat}{sg:LI}
def KA{a:List (LL)}(h:a.getLast? = some G):iP (.lst (a.map λg=>T.lst (g.map tI))) (.int (-1))=.ok (.lst (G.map tI)):=by obtain⟨l,rfl⟩:=List.getLast?_eq_some_iff.mp h;rw[aZ];exact Dd _ _
def Kb(hd:1<=d/\d<=3)(hg:y9 d 90 us)(o:yT us.length sg)(hX:∃X,vq us d sg X):∃s,n6 c [mq c d us,tI sg]=.ok (.tup [.str "spot",tS s]):=by
 have sz:1000<sizeLine:=by decide
 have hn:=hg.few;have sl:=o.len;have U:∀u∈us,u.length=d+1:=λu hu=>(hg.gc u hu).gl.1;obtain⟨X,hX⟩:=hX;generalize E:((List.range us.length).zip sg).map (vO us)=G;have C:=KG U o;rw[E]at C;have gl:G.length=us.length:=by rw[<-E,aw,dY,fX];lia
 have n3:∀d,d<4->Nb 90 d<=8000:=by decide
 obtain⟨ls,e9,hy,hbl⟩:=vg (c:=c) d (d+1+us.length) 90 (by lia) (by lia) G (by lia) (by rw[<-E];exact QT hg o) [] (by decide) (List.range d) (by simp;lia) (λa ha=>by have:=aS.mp ha;lia) (by rw[fX];exact n3 d (by lia));obtain⟨-,Gl,la1,H,Z,D⟩:=zQ (sb:=true) C hy [] rfl C.g0 C.gen0 (λ_=>False) (λ_ _ _ z=>z.elim);have pos:∀j,j<us.length->0<jk d X (vc (G.getD j [])):=λj B=>by obtain⟨hv,n⟩:sg[j]? = some (vc sg j)/\vc sg j≠0:=⟨by rw[ke sg j (by lia)];exact ag _,by have:=o.at_ B;lia⟩;rw[<-E,LN o _ B];unfold vO;rw[Nf];have:=(hX j _ hv).2 n;rwa [wA (y:=vc (us.getD j [])) λk hk=>by rw[xV us d j B U,aQ (by lia)]]
 have neg:∀r∈Gl,vc r d<0:=λr hr=>by
  obtain⟨-,t,K,s,hs',e⟩:=D r hr;have q:=(t5 (d:=d) (X:=X) G.length (λj=>vc (G.getD j [])) t λj B=>fR (by exact_mod_cast K.nn j) (eR (pos j (by lia)))).2 (by obtain⟨j,B⟩:=K.ne;have jl:j<G.length:=Nat.lt_of_not_le λz=>B (K.out j z);exact⟨j,jl,eQ (j3 (by have:=K.nn j;lia)) (pos j (by lia))⟩)
  have l:=qR (d:=d) (X:=X) e;rw[<-l,oB λp n=>Z r hr p (.inr (aS.mpr n))]at q;refine Int.not_le.mp λz=>?_;have z':(0:Rat)<=(vc r d:Rat):=by exact_mod_cast z
  have s0:(0:Rat)<(s:Rat):=j3 hs';have:=fR (eR s0) z';grind
 have ew:=tm (c:=c) us (by lia) (λr hr=>by have:=U r hr;lia);rw[Da]at ew;let vs:T:=.lst (((List.range us.length).map (wr us)).map tI);let R (J P N Y Q L b:Option W):En:=[some (.p (.lst (us.map tI))),some (.p (.int (d:Int))),some (.p (tI sg)),some (.p vs),J,P,N,Y,Q,L,b];have zo:∀J P N Y Q L b,m7 (gI bm bc) (nQ (R J P N Y Q L b))=.ok (((List.range us.length).zip sg).map λp=>T.tup [tI (wr us p.1),.int p.2]):=λJ P N Y Q L b=>nT (x:=vs) (y:=tI sg) (l:=List.range us.length) (m:=sg) (f:=λk=>tI (wr us k)) (g:=T.int) rfl (by show M.ok _=_;rw[aI];rfl) rfl rfl
 have zl:((List.range us.length).zip sg).length<sizeLine:=by rw[dY,fX];lia
 have nz:∀p∈(List.range us.length).zip sg,p.2≠0:=λp n=>by have:=(rH o n).2;lia
 have lc1:kh [none,none] fy a0 fI (mE c) (nQ (R none none none none none none none))=.ok []:=nO _ _ (λp=>tI (wr us p.1)) (λp=>p.2==0) (zo _ _ _ _ _ _ _) zl (λp n=>⟨_,rfl,g9 (gN rfl rfl (jj _ _)),λ_=>rfl⟩) (by rw[f9.mpr λp n=>by simpa using nz p n];rfl)
 let v:Option W:=some (.p (.tup [.lst [],.lst []]));let w:Option W:=some (.p .non);let A:Option W:=some (.p (.lst []));let S:Option W:=some (.p (.lst (G.map tI)));let xq:Option W:=some (.p (.lst ((List.range d).map λ(j:Nat)=>T.int (j:Int))));let xl:Option W:=some (.p (.lst (ls.map λg=>T.lst (g.map tI))));have lc2:kh [none,none,some 6] fy a0 dm (mD c) (nQ (R v w A none none none none))=.ok (G.map tI):=nO _ _ (λp=>tI (vO us p)) (λp=>p.2 != 0) (zo _ _ _ _ _ _ _) zl (λp n=>⟨_,rfl,g9 (gN rfl rfl (lq _ _)),λ_=>iH (x:=tI (vO us p)) (y:=.lst []) (iH rfl rfl (uo _ _ (Wv (rH o n).2) (by rw[xv us d p.1 (rH o n).1 U];lia))) rfl rfl⟩) (by rw[List.filter_eq_self.mpr λp n=>by simpa using nz p n,<-E,aI];rfl)
 have e8:lO c [.lst [],.int (d:Int)]=.ok ((List.range d).map λ(j:Nat)=>T.int (j:Int)):=by
  have h3:d=1\/d=2\/d=3:=by lia
  rcases h3 with rfl|rfl|rfl<;>rfl
 obtain⟨ρ,e,b,rfl⟩:=ug (m:=j6 10) (g:=kU c) tI (λρ=>∃b:Option W,ρ=R v w A S xq xl b) Gl _ ⟨none,rfl⟩ (by rintro r hr ρ ⟨b,rfl⟩;have hix:iP (tI r) (.int (d:Int))=.ok (.int (vc r d)):=kz r d (by have:=(D r hr).1;lia);have:=neg r hr;exact⟨_,_,rfl,.inl (iF (g9 (gN (gN rfl rfl hix) rfl (by rw[tZ,aB (by lia)]))) rfl),_,rfl⟩)
 have F:∀d,d<4->∀i,i<d->Nb 90 (d-1-i)+Sb 90 d d i+21<=3900:=by decide
 have lr:(List.range d).length=d:=fX;obtain⟨s,p1,-⟩:=sv (c:=c) C 90 (by decide) (by lia) hy (by lia) (λa ha=>aS.mp ha) eK hbl (λ_=>False) (λ_ _ _ z=>z.elim) (λp n=>.inr (aS.mpr n)) (λG' h r hr=>by rw[H]at h;cases h;exact neg r hr) (λi I=>by rw[lr]at I ⊢;have:=F d (by lia) i I;lia) 3900 (by decide) (λi I=>by rw[lr]at I ⊢;exact F d (by lia) i I);refine⟨s,iB rfl (gP (yH (iH rfl rfl (pC d us hn sg o.sgs))) (hW (kr (iV (yA d us rfl)) (yt d us rfl) rfl ?_)))⟩;refine iB rfl (gP (ρ':=R none none none none none none none) (gY (iV (B1 rfl ew)) rfl) (gP (ρ':=R v none none none none none none) (gY (iH (iV lc1) rfl rfl) rfl) (gP (ρ':=R v w none none none none none) (gY (iH (gN rfl rfl rfl) rfl rfl) rfl) (gP (ρ':=R v w none none none none none) (iF (g9 (gN rfl rfl rfl)) rfl) (gP (ρ':=R v w A none none none none) (gY (gN rfl rfl rfl) rfl) (gP (ρ':=R v w A S none none none) (gY (iV lc2) rfl) (gP (ρ':=R v w A S xq none none) (gY (iV (xr rfl rfl e8)) rfl) (gP (ρ':=R v w A S xq xl none) (gY (iV (wD rfl rfl rfl rfl e9)) rfl) (gP (jK (tO (gN rfl rfl (KA H))) e) (hW (nS rfl (iH (x:=.lst []) rfl (iV (B0 rfl rfl (J3 d (by lia) rfl) p1)) rfl))))))))))))
def IL(f:1<=d/\d<=3)(b:y9 d 90 us)(a:yT us.length sg)(j:∃X,vq us d sg X):nL c [mq c d us,tI sg]=.ok .non:=by
 obtain⟨s,e⟩:=Kb (c:=c) f b a j;have i:iD (gW (zS false) ac ah) (vw (i6 2 [mq c d us,tI sg]))=.ok false:=g9 (gN rfl rfl (by rw[QZ];congr 2;exact bH.mpr λx h=>by rcases a.pm x h with r|r<;>rw[r]<;>decide))
 have g:iD (gW (iy true) (gW iP (gS bv (n6 c)) ac) (cM (.str "spot"))) (vw (i6 2 [mq c d us,tI sg]))=.ok false:=g9 (gN (gN (iH rfl rfl e) rfl rfl) rfl SR);refine QK rfl (gP (yH (iH rfl rfl (pC d us b.few sg a.sgs))) (iF ?_ rfl));simp only[L3.rV,i,g,M.bind_ok];rfl
end
theorem FF:∀L:List Rat,L≠[]->∃m∈L,∀l∈L,l<=m
 |[],h=>absurd rfl h
 |[x],_=>⟨x,by simp,λl a=>by rw[aj.mp a];exact gh⟩
 |x::y::L,_=>by
  obtain⟨m,b,h⟩:=FF (y::L) (by simp);by_cases q:x<=m
  .exact⟨m,bz _ b,λl a=>by rcases aF.mp a with rfl|a;exact q;exact h l a⟩
  .exact⟨x,bx ..,λl a=>by
    rcases aF.mp a with rfl|a
    .exact gh
    .have:=h l a;grind⟩
def Sf(L H:List Rat)(h:∀l∈L,∀u∈H,l<u):∃v,(∀l∈L,l<v)/\∀u∈H,v<u:=by
 have e:∀H:List Rat,H≠[]->∃m∈H,∀u∈H,m<=u:=λH k=>by obtain⟨m,f,q⟩:=FF (H.map λx=>-x) (by simpa using k);obtain⟨x,o,rfl⟩:=aD.mp f;exact⟨x,o,λu d=>by have:=q (-u) (aD.mpr ⟨u,d,rfl⟩);grind⟩
 by_cases a:L=[]
 .subst a;by_cases b:H=[]
  .subst b;exact⟨0,⟨(λ_ q=>nomatch q),(λ_ q=>nomatch q)⟩⟩
  .obtain⟨m,_,q⟩:=e H b;exact⟨m-1,⟨(λ_ q=>nomatch q),λu d=>by have:=q u d;grind⟩⟩
 .obtain⟨m,f,q⟩:=FF L a;by_cases b:H=[]
  .subst b;exact⟨m+1,⟨λl g=>by have:=q l g;grind,(λ_ q=>nomatch q)⟩⟩
  .obtain⟨j,i,n⟩:=e H b;have:=h m f j i;exact⟨(m+j) / 2,λl g=>by have:=q l g;grind,λu d=>by have:=n u d;grind⟩
def wK(r:LI):jk d (λ_=>(0:Rat)) (vc r) = -(vc r d:Rat):=by unfold jk;rw[jV d _ (λ_=>0) λi _=>by grind,yY];grind
def GK{x y:Rat}(h:0<x*y)(a:0<x):0<y:=by refine fK (c:=x) ?_ (eR a);rwa [gw]
def HS.head{d k j:Nat}{G:LL}{a:List Nat}{b:List (LL)}(h:HS d k j G a b):b[0]? = some G:=by cases h<;>rfl
theorem RA{d n:Nat}{ss Q:List Nat}{s:LL}(h:Jv d n ss Q s){f:List Nat}{A:List (LL)}(U:HS d Q.length 0 s f A)(I:∀a∈f,a<d){X:Nat->Rat}(hX:∀Gl,A.getLast? = some Gl->∀r∈Gl,0<jk d X (vc r)) :
  ∃Y,(∀p,p∉f->Y p=X p)/\∀r∈s,0<jk d Y (vc r):=by
 obtain⟨at_,Gl,E,F,-,-⟩:=zQ (sb:=true) h U [] rfl h.g0 h.gen0 (λ_=>False) (λ_ _ _ z=>z.elim);have C:∀k,k<=f.length->∃Y,(∀p,p∉f->Y p=X p)/\∀G,A[f.length-k]? = some G->∀r∈G,0<jk d Y (vc r):=λk=>by
  induction k with
  |zero=>exact λ_=>⟨X,λ_ _=>rfl,λG L=>by rw[cI,E]at L;cases L;exact hX Gl F⟩
  |succ k ih=>
   intro hk;obtain⟨Y,H,B⟩:=ih (by lia);have Z:f.length-(k+1)<f.length:=by lia
   obtain⟨G,G2,q1,R,q3,q4⟩:=at_ _ _ (ag Z);rw[show f.length-(k+1)+1=f.length-k by lia]at R;have pos:=B G2 R;have K:f[f.length-(k+1)]∈f:=aV _;generalize f[f.length-(k+1)]=a at *;have ad:=I a K;let e:LI->Rat:=λr=>Y a-jk d Y (vc r) / (vc r a:Rat);obtain⟨v,v1,v2⟩:=Sf ((G.filter λr=>decide (0<vc r a)).map e) ((G.filter λr=>decide (vc r a<0)).map e) (λl hl u hu=>by
    obtain⟨x,J,rfl⟩:=aD.mp hl;obtain⟨y,i,rfl⟩:=aD.mp hu;obtain⟨J,D⟩:=aU.mp J;obtain⟨i,P⟩:=aU.mp i;simp only[decide_eq_true_eq]at D P;have q:0 < -(vc y a:Rat)*jk d Y (vc x)+(vc x a:Rat)*jk d Y (vc y):=q4 Y (λr hr=>pos r hr) x J y i D P;have a1:(0:Rat)<(vc x a:Rat):=j3 D;have j:(0:Rat) < -(vc y a:Rat):=by have:=j3 (show 0 < -vc y a by lia);simpa using this
    show Y a-jk d Y (vc x) / (vc x a:Rat)<Y a-jk d Y (vc y) / (vc y a:Rat);generalize jk d Y (vc x)=e1 at *;generalize jk d Y (vc y)=e2 at *;generalize (vc x a:Rat)=u at *;generalize (vc y a:Rat)=w at *;have m:=eQ a1 j;refine fK (c:=u * -w) ?_ (eR m);have u0:u≠0:=by grind
    have N:w≠0:=by grind
    have g:u * -w*(Y a-e1 / u)=u * -w*Y a-(-w*e1):=by grind
    have t2:u * -w*(Y a-e2 / w)=u * -w*Y a+u*e2:=by grind
    rw[g,t2];grind)
   refine⟨λq=>if q=a then v else Y q,λp S=>by show ite _ _ _=_;rw[aR λ(z:p=a)=>S (z▸K)];exact H p S,λG' o r hr=>?_⟩
   rw[q1]at o;cases o;rw[tR ad];rcases fJ (vc r a) 0 with q|q|q
   .have b:=v2 (e r) (aD.mpr ⟨r,aU.mpr ⟨hr,by simpa using q⟩,rfl⟩);have j:(0:Rat) < -(vc r a:Rat):=by have:=j3 (show 0 < -vc r a by lia);simpa using this
    change v<Y a-jk d Y (vc r) / (vc r a:Rat) at b;generalize jk d Y (vc r)=e1 at *;generalize (vc r a:Rat)=w at *;have N:w≠0:=by grind
    have t:=eQ j (show 0<Y a-e1 / w-v by grind);have g:-w*(Y a-e1 / w-v)=e1+w*(v-Y a):=by grind
    rwa [g]at t
   .rw[q];have:=pos r (q3 r hr q);have g:jk d Y (vc r)+((0:Int):Rat)*(v-Y a)=jk d Y (vc r):=by simp;grind
    rwa [g]
   .have b:=v1 (e r) (aD.mpr ⟨r,aU.mpr ⟨hr,by simpa using q⟩,rfl⟩);have j:(0:Rat)<(vc r a:Rat):=j3 q;change Y a-jk d Y (vc r) / (vc r a:Rat)<v at b;generalize jk d Y (vc r)=e1 at *;generalize (vc r a:Rat)=w at *;have N:w≠0:=by grind
    have t:=eQ j (show 0<v-(Y a-e1 / w) by grind);have g:w*(v-(Y a-e1 / w))=e1+w*(v-Y a):=by grind
    rwa [g]at t
 obtain⟨Y,H,B⟩:=C f.length (aK _);exact⟨Y,H,B s (by rw[fS];exact U.head)⟩
section
variable {us:LL}{d:Nat}{sg:LI}
def Eg(b:∀u∈us,u.length=d+1){X:Nat->Rat}{j:Nat}{s:Int}(a:j<us.length):jk d X (vc (vO us (j,s)))=(s:Rat)*jk d X (vc (us.getD j [])):=by unfold vO;rw[Nf];congr 1;exact wA λk e=>by rw[xV us d j a b,aQ (by lia)]
def JV(e:∀u∈us,u.length=d+1)(b:yT us.length sg){X:Nat->Rat}:vq us d sg X↔∀r∈((List.range us.length).zip sg).map (vO us),0<jk d X (vc r):=by
 constructor
 .intro h r hr;obtain⟨⟨j,s⟩,f,rfl⟩:=aD.mp hr;obtain⟨a,hv⟩:=zA.mp f;rw[Eg e a];exact (h j s hv).2 (by have:=b.pm s (au hv);lia)
 .intro h j s hv;have a:j<us.length:=by rw[<-b.len];exact (aa.mp hv).1
  refine⟨λz=>absurd (b.pm s (au hv)) (by lia),λ_=>?_⟩;rw[<-Eg e a];exact h _ (aD.mpr ⟨_,zA.mpr ⟨a,hv⟩,rfl⟩)
structure WG(us:LL)(d:Nat)(sg:LI)(a:Nat)(lo hi:Option (Int×Int)):Prop where
 fq:∀p,lo=some p\/hi=some p->Fq p/\Bn 390 p.1/\Bn 390 p.2
 lo_:∀p,lo=some p->∀X,vq us d sg X->qv p<X a
 hi_:∀p,hi=some p->∀X,vq us d sg X->X a<qv p
 ex:∀z,(∀p,lo=some p->qv p<z)->(∀p,hi=some p->z<qv p)->∃X,vq us d sg X/\X a=z
def RX(hd:1<=d/\d<=3)(L:y9 d 90 us)(B:yT us.length sg)(n:∃X,vq us d sg X):∃f:Nat->Option (Int×Int)×Option (Int×Int),zq c [mq c d us,tI sg]=.ok ((List.range d).map λa=>.tup [oT (f a).1,oT (f a).2])/\∀a,a<d->WG us d sg a (f a).1 (f a).2:=by
 have sz:1000<sizeLine:=by decide
 have hn:=L.few;have sl:=B.len;have hl:∀u∈us,u.length=d+1:=λu hu=>(L.gc u hu).gl.1;have sr:∀X,vq us d sg X↔_:=λX=>JV (X:=X) hl B;generalize v:((List.range us.length).zip sg).map (vO us)=iL at sr;have hr:∀r∈iL,r.length=d+1+us.length/\∀i∈r,Bn 90 i:=by rw[<-v];exact QT L B
 have e0:nj c [mq c d us,tI sg]=.ok (iL.map tI):=(Cg hn hd.2 hl B).trans (by rw[<-v,aI];rfl);have C:=KG hl B;rw[v]at C;let m:List (Int×Int):=List.replicate d (0,1);have X0:∀q,Xs m q=0:=λq=>by
  unfold Xs;have:m.getD q (0,1)=(0,1):=by show (List.replicate d ((0,1):Int×Int)).getD q (0,1)=(0,1);rw[af,List.getElem?_replicate];split<;>rfl
  rw[this,Wa]
 let ρ:Nat->Pe:=λa=>[some (.int (a:Int)),some (.lst (m.map fr)),some (.lst (iL.map tI)),some (.int (d:Int))];obtain⟨f,hf⟩:=n8 (P:=λ(a:Nat) (p:Option (Int×Int)×Option (Int×Int))=>Nc c (ρ a)=.ok (.tup [oT p.1,oT p.2])/\WG us d sg a p.1 p.2) (List.range d) λa S=>by
  have A:=aS.mp S;have ol:=KN (d:=d) a A;have nb:Nb 90 (Dp d a).length<=363:=aN (CD 90 (show (Dp d a).length<=2 by lia)) (by decide);obtain⟨ls,e,ly,bn⟩:=vg (c:=c) d (d+1+us.length) 90 (by lia) (by lia) iL (by rw[<-v];simp;lia) hr [] (by decide) (Dp d a) (by lia) (λx D=>by have:=(qV.mp D).1;lia) (by lia);obtain⟨-,Gl,gm,la,lz,lt⟩:=zQ (sb:=true) C ly [] rfl C.g0 C.gen0 (λ_=>False) (λ_ _ _ z=>z.elim);have gb:=bn _ _ gm;have val:∀r∈Gl,∀X:Nat->Rat,jk d X (vc r)=(vc r a:Rat)*X a-(vc r d:Rat):=λr hr X=>by
   have F:=tR (d:=d) A (λ_=>(0:Rat)) (X a) (vc r);have e2:jk d (λ_=>(0:Rat)) (vc r) = -(vc r d:Rat):=wK r;have e3:jk d (λq=>if q=a then X a else 0) (vc r)=jk d X (vc r):=by
    unfold jk;rw[jV d _ (λp=>(vc r p:Rat)*X p) λp k=>?_];dsimp only;by_cases q:p=a
    .subst q;rw[aQ rfl]
    .rw[aR q,lz r hr p (.inr (qV.mpr ⟨k,q⟩))];simp
   rw[<-e3,F,e2];grind
  have o:∀X,vq us d sg X->∀r∈Gl,0<jk d X (vc r):=λX n r hr=>by
   obtain⟨-,t,J,s,hs',e⟩:=lt r hr;have pos:=(sr X).mp n;have pj:∀j,j<iL.length->0<jk d X (vc (iL.getD j [])):=λj I=>pos _ (by rw[af,ag I];exact aV _);have q:=(t5 (d:=d) (X:=X) iL.length (λj=>vc (iL.getD j [])) t λj I=>fR (by exact_mod_cast J.nn j) (eR (pj j I))).2 (by obtain⟨j,I⟩:=J.ne;have jl:j<iL.length:=Nat.lt_of_not_le λz=>I (J.out j z);exact⟨j,jl,eQ (j3 (by have:=J.nn j;lia)) (pj j jl)⟩)
   rw[<-qR (d:=d) (X:=X) e]at q;exact GK q (j3 hs')
  obtain⟨lo,hi,ee,en⟩:=zG (c:=c) d a 363 (d+1+us.length) (by lia) A (by lia) (by decide) m (by simp[m]) (λp k=>by rw[bg k];exact⟨by decide,by decide⟩) (by
   have Z:wt (0,1)=1:=by decide
   have:wts m=d:=by simp[m,wts,Z]
   lia) Gl λr H=>⟨(gb r H).1,λx D=>((gb r H).2 x D).mono nb⟩
  have wd:wts m<=3:=by
   have Z:wt (0,1)=1:=by decide
   have:wts m=d:=by simp[m,wts,Z]
   lia
  have K:∀r∈Gl,vc r a≠0->∀x:Rat,jk d (λq=>if q=a then x else 0) (vc r)=(vc r a:Rat)*(x-qS d (Xs m) a r):=λr hr h0 x=>by
   rw[val r hr];unfold qS;rw[val r hr,X0,aQ rfl];have:(vc r a:Rat)≠0:=by exact_mod_cast h0
   generalize (vc r a:Rat)=w at *;grind
  have E:∀r∈Gl,∀X:Nat->Rat,jk d (λq=>if q=a then X a else 0) (vc r)=jk d X (vc r):=λr hr X=>by rw[val r hr,val r hr,aQ rfl]
  have el:lB c [.lst (iL.map tI),.int (d:Int),.int (a:Int)]=.ok (.lst (ls.map λg=>T.lst (g.map tI))):=iB rfl (hW (iV (wD rfl rfl (iV (xr rfl rfl (HZ hd.2 a))) (iV (ts:=[]) rfl) e)));refine⟨(lo,hi),kr (gN (y:=.int (-1)) (kr rfl rfl rfl el) rfl (KA la)) rfl rfl ee,λp k=>?_,λp k X n=>?_,λp k X n=>?_,λz h1 h2=>?_⟩
  .rcases k with k|k
   .obtain⟨r,-,-,-,U⟩:=en.lo2 p k;obtain⟨b0,b1,R⟩:=en.l p k;exact⟨⟨b0,U⟩,b1.mono (by lia),R.mono (by lia)⟩
   .obtain⟨r,-,-,-,U⟩:=en.hi2 p k;obtain⟨b0,b1,R⟩:=en.h p k;exact⟨⟨b0,U⟩,b1.mono (by lia),R.mono (by lia)⟩
  .obtain⟨r,hr,p1,F,-⟩:=en.lo2 p k;have q:=o X n r hr;rw[<-E r hr X,K r hr (by lia),<-F]at q;have:=j3 p1;generalize (vc r a:Rat)=w at *;have:=GK q this;grind
  .obtain⟨r,hr,p1,F,-⟩:=en.hi2 p k;have q:=o X n r hr;rw[<-E r hr X,K r hr (by lia),<-F]at q;have Q:(0:Rat) < -(vc r a:Rat):=by have:=j3 (show 0 < -vc r a by lia);simpa using this
   generalize (vc r a:Rat)=w at *;have:=GK (x:=-w) (y:=qv p-X a) (by rw[show -w*(qv p-X a)=w*(X a-qv p) by grind];exact q) Q;grind
  .obtain⟨X1,N⟩:=n;obtain⟨Y,y1,y2⟩:=RA C ly (λx D=>(qV.mp D).1) (X:=λq=>if q=a then z else 0) λG v r hr=>by
    rw[la]at v;cases v;rcases fJ (vc r a) 0 with q|q|q
    .obtain⟨p,k,le⟩:=en.hi1 r hr q;have b:=h2 p k;rw[K r hr (by lia)];have Q:(0:Rat) < -(vc r a:Rat):=by have:=j3 (show 0 < -vc r a by lia);simpa using this
     generalize (vc r a:Rat)=w at *;generalize qS d (Xs m) a r=e at *;have t:=eQ Q (show 0<e-z by grind);have t1:-w*(e-z)=w*(z-e):=by grind
     rwa [t1]at t
    .have:=o X1 N r hr;rw[val r hr,q]at this ⊢;simp at this ⊢;grind
    .obtain⟨p,k,le⟩:=en.lo1 r hr q;have b:=h1 p k;rw[K r hr (by lia)];exact eQ (j3 q) (by grind)
   exact⟨Y,(sr Y).mpr y2,by rw[y1 a λz=>(qV.mp z).2 rfl];exact aQ rfl⟩
 exact⟨f,nG rfl (gP (yH (iH rfl rfl (IL hd L B n))) (gP (gY (yt d us rfl) rfl) (gP (gY (iV (xr rfl rfl e0)) rfl) (gP (gY (t:=.lst (m.map fr)) (J3 d (by lia) rfl) rfl) (oo (jS (List.range d) (λ(a:Nat)=>T.int (a:Int)) _ (oJ d (by lia) rfl) (by rw[fX];lia) (λa A=>⟨ρ a,rfl,rfl,(hf a A).1⟩) rfl)))))),λa A=>(hf a (aS.mpr A)).2⟩
end
def oI(d j:Nat)(p:Int×Int):LI:=((List.range d).map λk=>p.2*(if k=j then 1 else 0))++[p.1]
def Ep d j p:(oI d j p).length=d+1:=by simp[oI]
def uc(a:j<d) p k:vc (oI d j p) k=if k=j then p.2 else if k=d then p.1 else 0:=by
 unfold oI;rw[tN,aw,fX];by_cases h:k<d
 .rw[aQ h];unfold vc;rw[af,av,List.getElem?_range h];show p.2*(if k=j then 1 else 0)=_;by_cases q:k=j
  .rw[aQ q,aQ q,bD]
  .rw[aR q,aR q,aR (by lia),dO]
 .rw[aR h,aR (by lia)];by_cases q:k=d
  .subst q;rw[aQ rfl,fS];rfl
  .rw[aR q,show k-d=(k-d-1)+1 by lia];rfl
def Oc(a:j<d)(b:p.2≠0)(e:Bn B p.1)(g:Bn B p.2):GC d B (oI d j p):=by
 refine⟨⟨Ep d j p,λx f=>?_⟩,j,a,by rw[uc a,aQ rfl];exact b⟩;rcases ai.mp f with h|h
 .obtain⟨k,-,rfl⟩:=aD.mp h;split
  .rw[bD];exact g
  .rw[dO];exact ua
 .rw[aj.mp h];exact e
def L5(a:j<d)(X:Nat->Rat)(p:Int×Int)(e:0<p.2):jk d X (vc (oI d j p))=(p.2:Rat)*(X j-qv p):=by
 have b:=tR (d:=d) a (λ_=>(0:Rat)) (X j) (vc (oI d j p));rw[wK _]at b;have f:jk d (λq=>if q=j then X j else 0) (vc (oI d j p))=jk d X (vc (oI d j p)):=by
  unfold jk;rw[jV d _ (λq=>(vc (oI d j p) q:Rat)*X q) λq g=>?_];dsimp only;by_cases z:q=j
  .subst z;rw[aQ rfl]
  .rw[aR z,uc a,aR z,aR (by lia)];simp
 rw[<-f,b,uc a,aR (by lia),aQ rfl,uc a,aQ rfl];have:=j3 e;unfold qv;grind
def IP{d j:Nat}(b:d<=3)(p:Int×Int):nE c [.int (d:Int),.int (j:Int),fr p]=.ok (tI (oI d j p)):=by
 have sz:1000<sizeLine:=by decide
 have a:kh [none,some 2,some 1] (lE bo) bP (λ_=>.ok true) (uE c) (vw (i6 3 [.int (d:Int),.int (j:Int),fr p]))=.ok (((List.range d).map λk=>p.2*(if k=j then 1 else 0)).map T.int):=by
  refine jS (List.range d) (λ(k:Nat)=>T.int (k:Int)) (λk=>T.int (p.2*(if k=j then 1 else 0))) (oJ d (by lia) rfl) (by simp;lia) (λk _=>⟨_,rfl,rfl,?_⟩) (by rw[aI];rfl);refine gN (x:=.int p.2) (y:=.int (if k=j then 1 else 0)) rfl (mZ (gN rfl rfl (jj _ _)) ?_) (iJ (rA (by split<;>decide)));show M.ok (T.int _)=_;by_cases q:k=j
  .rw[aQ q,show ((k:Int)==(j:Int))=true by simp[q]];rfl
  .rw[aR q,show ((k:Int)==(j:Int))=false by simp;lia];rfl
 exact iB rfl (hW (mZ (LA (iV a) (Ib rfl) (by simp;lia)) (by simp[oI,tI])))
section
variable {us:LL}{d:Nat}{sg:LI}
def Sd(s:Int)(x:Rat):Prop:=(s=0->x=0)/\(s≠0->0<(s:Rat)*x)
def Rn(h:0<k):Sd s (k*x)↔Sd s x:=by
 have e:k≠0:=by grind
 refine⟨λ⟨a,b⟩=>⟨λz=>?_,λz=>?_⟩,λ⟨a,b⟩=>⟨λz=>by rw[a z];grind,λz=>?_⟩⟩
 .have:=a z;grind
 .have:=b z;exact GK (x:=k) (y:=(s:Rat)*x) (by rw[show k*((s:Rat)*x)=(s:Rat)*(k*x) by grind];exact this) h
 .have:=eQ h (b z);rwa [show k*((s:Rat)*x)=(s:Rat)*(k*x) by grind]at this
def JW(e:sg.length=us.length){X:Nat->Rat}:vq (us++[u]) d (sg++[s]) X↔vq us d sg X/\Sd s (jk d X (vc u)):=by
 constructor
 .intro h;refine⟨λi v hv=>?_,?_⟩
  .have a:=(aa.mp hv).1;have:=h i v (by rw[List.getElem?_append_left a];exact hv);rwa [af,List.getElem?_append_left (by lia),<-af]at this
  .have:=h sg.length s (by simp);rwa [af,e,List.getElem?_append_right (aK _),fS]at this
 .rintro⟨h,b⟩ i v hv;by_cases a:i<sg.length
  .rw[List.getElem?_append_left a]at hv;have:=h i v hv;rwa [af,List.getElem?_append_left (by lia),<-af]
  .rw[List.getElem?_append_right (by lia)]at hv;have f:i-sg.length=0:=by have:=(aa.mp hv).1;simp at this;lia
   rw[f]at hv;cases hv;rw[af,show i=us.length by lia,List.getElem?_append_right (aK _),fS];exact b
def ON(a:yT n sg)(s:Int):(zer (n+1) (sg++[s])).length<=1:=by
 have nd:(zer (n+1) (sg++[s])).Nodup:=(eK).sublist (((fV).map Prod.fst).trans (pZ _ _));have:=tY nd (m:=[n]) λx e=>by
  obtain⟨f,b⟩:=rQ.mp e;by_cases q:x<n
  .rw[List.getElem?_append_left (by rw[a.len];exact q)]at b;have:=a.pm 0 (au b);lia
  .simp;lia
 simpa using this
def UV d (p:d<=3):Bg d 460 10000 5300 1:=by
 have f:∀k,k<2->460+k*(Pq 460 k+1)<=8000:=by decide
 have n:Pq 460 1<=8000:=by decide
 have l:∀d,d<4->∀k,k<2->∀m,m<4->k+m<=d->Nb (Ns 460 k) m<=8000:=by decide
 have b:∀d,d<4->∀k,k<2->∀m,m<4->k+m<=d->∀i,i<m->Nb (Ns 460 k) (m-1-i)+Sb (Ns 460 k) d m i+21<=5300:=by decide
 have a:∀d,d<4->∀k,k<2->∀m,m<4->k+m<=d->1<=k->Pq 460 k+Sb (Ns 460 k) d m m+2<=5300:=by decide
 have j:∀d,d<4->∀k,k<2->∀m,m<4->k+m<=d->Sb (Ns 460 k) d m m+k*(Pq 460 k+Sb (Ns 460 k) d m m+21)<=10000:=by decide
 refine⟨⟨by decide,λk e=>f k (by lia),n⟩,by decide,λk m h o=>⟨b d (by lia) k (by lia) m (by lia) h,λe=>a d (by lia) k (by lia) m (by lia) h (by lia)⟩,λk m h o=>⟨l d (by lia) k (by lia) m (by lia) h,λi g=>?_,λe=>?_,j d (by lia) k (by lia) m (by lia) h⟩⟩
 .have:=b d (by lia) k (by lia) m (by lia) h i g;lia
 .have:=a d (by lia) k (by lia) m (by lia) h (by lia);lia
theorem ur(hd:1<=d/\d<=3)(hg:y9 d 84 us)(h6:us.length<=6)(E:yT us.length sg)(C:∃X,vq us d sg X){j:Nat}(L:j<d)(p:Int×Int)(hp:0<p.2)(b1:Bn 460 p.1)(b2:Bn 460 p.2)(s:Int)(Z:s.natAbs<=1) :
    ∃b:Bool,j9 c [.int (d:Int),.lst (us.map tI),tI sg,.int (j:Int),fr p,.int s]=.ok (.bl b)/\(b=true↔∃X,vq us d sg X/\Sd s (X j-qv p)):=by
  have sz:1000<sizeLine:=by decide
  have gm:GC d 460 (oI d j p):=Oc L (by lia) b1 b2;have Q:∀u∈us,GC d 460 u:=λu Q=>⟨(hg.gc u Q).gl.mono (by decide),(hg.gc u Q).re⟩;let R (B x8 S:Option W):En:=[some (.p (.int (d:Int))),some (.p (.lst (us.map tI))),some (.p (tI sg)),some (.p (.int (j:Int))),some (.p (fr p)),some (.p (.int s)),some (.p (tI (oI d j p))),B,x8,S];have e6:∀{r:O},(gZ (tJ (lE (gI gk gM)) (j6 7) (qF c)) _) (R none none none)=r->vX c (i6 10 [.int (d:Int),.lst (us.map tI),tI sg,.int (j:Int),fr p,.int s])=r:=λ{r} h=>gP (gY (kr rfl rfl rfl (IP hd.2 p)) rfl) h
  have er:lE (gI gk gM) (vw (R none none none))=.ok ((List.range us.length).map λ(k:Nat)=>T.int (k:Int)):=oJ us.length (by lia) (mZ rfl (by simp));have main:=sJ (m:=j6 7) (g:=qF c) (λ(k:Nat)=>T.int (k:Int))
    (λi ρ=>∃B:Option W,ρ=R B none none/\∀k,k<i->lV (oI d j p) (us.getD k [])=false)
    (λt=>∃b:Bool,t=.bl b/\(b=true↔∃X,vq us d sg X/\Sd s (X j-qv p))) (List.range us.length) 0 (R none none none) ⟨none,rfl,λk hk=>by lia⟩ (by
      rintro i k ρ hi ⟨B,rfl,o⟩;rw[aG]at o ⊢;have ik:k=i/\i<us.length:=by rw[aa]at hi;obtain⟨a,b⟩:=hi;simp at a b;exact⟨b.symm,a⟩
      obtain⟨rfl,P⟩:=ik;have um:us.getD k []∈us:=(by rw[af,ag P];exact aV P);have K:=hg.gc _ um;generalize H:us.getD k []=u at um K;have uk:(us.map tI)[k]? = some (tI u):=by rw[av,ag P,<-H,af,ag P];rfl
      have iu:∀{ρ:Pe},ρ[1]? = some (some (.lst (us.map tI)))->ρ[7]? = some (some (.int (k:Int)))->gW iP ah im ρ=.ok (tI u):=λ{ρ} Z h2=>gN (x:=.lst (us.map tI)) (y:=.int (k:Int)) (by simp[gJ,Z]) (by simp[gJ,h2]) (GS _ _ _ uk);have hc:iD (gS (gI dd (gI (gW iP ah im) gM)) (kQ c)) (vw (R (some (.p (.int (k:Int)))) none none))=.ok (lV (oI d j p) u):=g9 (iH rfl (iu rfl rfl) (xQ (c:=c) (d+1) 460 _ u gm.gl.1 K.gl.1 (by lia) (by decide) gm.gl.2 λx hx=>(K.gl.2 x hx).mono (by decide)))
      cases A:lV (oI d j p) u with
      |false=>
        refine⟨_,rfl,.inl ⟨_,iF (hc.trans (by rw[A])) rfl,_,rfl,λk' hk'=>?_⟩⟩;by_cases q:k'<k
        . exact o k' q
        . rw[show k'=k by lia,H];exact A
      |true=>
        have eq:=(Ls (Ep d j p)).mp A;have J:∀q,q<d->q≠j->vc u q=0:=λq D U=>by
          have h:=uc L p;rcases eF q j with l|l
          . have:=eq j (by lia) q l
            rw[h,h,aQ rfl,aR U,aR (by lia),dR]at this
            exact rR (g:=p.2) (by lia) this
          . have:=eq q (by lia) j (by lia)
            rw[h,h,aQ rfl,aR U,aR (by lia),dR]at this
            exact rR (g:=p.2) (by lia) this.symm
        have las:vc u d*p.2=p.1*vc u j:=by have h:=uc L p;have:=eq d (by lia) j L;rw[h,h,aQ rfl,aR (by lia),aQ rfl]at this;grind
        have uj:vc u j≠0:=λz=>by
          obtain⟨q,D,U⟩:=K.re;by_cases e:q=j
          . exact U (e▸z)
          . exact U (J q D e)
        have ev:∀X:Nat->Rat,jk d X (vc u)=(vc u j:Rat)*(X j-qv p):=λX=>by
          have e1:=tR (d:=d) L (λ_=>(0:Rat)) (X j) (vc u);rw[wK _]at e1;have e3:jk d (λq=>if q=j then X j else 0) (vc u)=jk d X (vc u):=by
            unfold jk;rw[jV d _ (λq=>(vc u q:Rat)*X q) λq D=>?_];dsimp only;by_cases z:q=j
            . subst z;rw[aQ rfl]
            . rw[aR z,J q D z];simp
          rw[<-e3,e1];have p0:=j3 hp;have l2:(vc u d:Rat)*(p.2:Rat)=(p.1:Rat)*(vc u j:Rat):=by exact_mod_cast las
          unfold qv;grind
        obtain⟨t,ht⟩:∃t,sg[k]? = some t:=⟨_,ag (by rw[E.len];exact P)⟩;have t1:=E.pm t (au ht);have F:∀X,vq us d sg X->0<(t:Rat)*((vc u j:Rat)*(X j-qv p)):=λX C=>by have:=(C k t ht).2 (by lia);rwa [H,ev]at this
        let N:LI:=(u.take d).filter λx=>x != 0;have hN:N=[vc u j]:=by
          have e1:u.take d=(List.range d).map (vc u):=by refine fM (by have:=K.gl.1;simp;lia) λi Z h2=>?_;simp at Z;rw[gy,dN,fN,ke u i (by lia)]
          show (u.take d).filter _=_;rw[e1,List.filter_map];have e2:(List.range d).filter ((λx=>x != 0) ∘ vc u)=(List.range d).filter λk=>k==j:=gB λq D=>by
            have D:=aS.mp D;show (vc u q != 0)=(q==j);by_cases z:q=j
            . subst z;simp[uj]
            . rw[J q D z];simp[z]
          rw[e2];have h3:d=1\/d=2\/d=3:=by lia
          rcases h3 with rfl|rfl|rfl
          . rw[show j=0 by lia];rfl
          . have:j=0\/j=1:=by lia
            rcases this with rfl|rfl<;>rfl
          . have:j=0\/j=1\/j=2:=by lia
            rcases this with rfl|rfl|rfl<;>rfl
        have e8:kh [none] (jh (j7 (gW iP ah im) (λ_=>.ok none) (jo ap))) bP dL (qC c) (nQ (R (some (.p (.int (k:Int)))) none none))=.ok (N.map T.int):=nO (u.take d) T.int T.int (λx=>x != 0) (by have:=sS (fe:=gW iP ah im) (fd:=gJ 0) (ts:=u.map T.int) (d:=d) (ρ:=nQ (R (some (.p (.int (k:Int)))) none none)) (iu rfl rfl) rfl (by rw[aw,K.gl.1];lia);rw[dc];exact Ag this) (by rw[bR];lia) (λx _=>⟨_,rfl,g9 (gN rfl rfl (lq _ _)),λ_=>rfl⟩) rfl
        have e9:gW BY (gW iP (jy (kh [none] (jh (j7 (gW iP ah im) (λ_=>.ok none) (jo ap))) bP dL (qC c))) ac) ac (nQ (R (some (.p (.int (k:Int)))) none none))=.ok (.bl (decide (0<vc u j))):=gN (gN (x:=.lst (N.map T.int)) (y:=.int 0) (iV e8) rfl (by rw[hN];rfl)) rfl (uh _ _)
        let s':Int:=if 0<vc u j then s else -s
        have e10:T9 (iD (gJ 8)) bq (pU (λi=>.int (-i)) bq) (vw (R (some (.p (.int (k:Int)))) (some (.p (.bl (decide (0<vc u j))))) none))=.ok (.int s'):=by
          show _=M.ok (T.int (if 0<vc u j then s else -s));by_cases z:0<vc u j
          . rw[aQ z,aC z];rfl
          . rw[aR z,aB z];rfl
        have e11:gW iP bf im (vw (R (some (.p (.int (k:Int)))) (some (.p (.bl (decide (0<vc u j))))) none))=.ok (.int t):=gN (x:=tI sg) (y:=.int (k:Int)) rfl rfl (by have:=kz sg k (by rw[E.len];exact P);rw[this];congr 2;rw[af,ht];rfl)
        refine⟨_,rfl,.inr ⟨.bl (t==s'),i9 (hc.trans (by rw[A])) (gP (ρ':=R (some (.p (.int (k:Int)))) (some (.p (.bl (decide (0<vc u j))))) none) (gY e9 rfl) (hW (gN e11 e10 (jj _ _)))),_,rfl,?_⟩⟩;rw[beq_iff_eq];have cs:s=0\/s=1\/s = -1:=by lia
        have c1:((1:Int):Rat)=1:=rfl;have c2:((-1:Int):Rat) = -1:=rfl;have wj:0<vc u j\/0 < -(vc u j):=by lia
        constructor
        . intro h
          obtain⟨X,C⟩:=C
          refine⟨X,C,λz=>?_,λ_=>?_⟩
          . exfalso
            change t=if 0<vc u j then s else -s at h
            rw[z]at h
            simp at h
            lia
          . have v:=F X C
            change t=if 0<vc u j then s else -s at h
            rcases wj with w|w
            . rw[aQ w]at h
              rw[h]at v
              exact GK (x:=(vc u j:Rat)) (by rw[show (vc u j:Rat)*((s:Rat)*(X j-qv p))=(s:Rat)*((vc u j:Rat)*(X j-qv p)) by grind];exact v) (j3 w)
            . rw[aR (by lia)]at h
              rw[h]at v
              have I:(0:Rat) < -(vc u j:Rat):=by have:=j3 w;simpa using this
              have cn:((-s:Int):Rat) = -(s:Rat):=by simp
              rw[cn]at v
              exact GK (x:=-(vc u j:Rat)) (by rw[show -(vc u j:Rat)*((s:Rat)*(X j-qv p)) = -(s:Rat)*((vc u j:Rat)*(X j-qv p)) by grind];exact v) I
        . rintro⟨X,C,a,b⟩
          have v:=F X C
          show t=if 0<vc u j then s else -s
          rcases cs with rfl|cs
          . rw[a rfl]at v
            exfalso
            rw[show (t:Rat)*((vc u j:Rat)*0)=0 by grind]at v
            exact Rat.lt_irrefl v
          . have b:=b (by lia)
            generalize X j-qv p=x at *
            rcases wj with w|w
            . rw[aQ w]
              have I:=j3 w
              rcases t1 with rfl|rfl<;>rcases cs with rfl|rfl<;>first
                |rfl
                | (exfalso
                   rw[c1]at *;rw[c2]at *
                   have:=eQ I b
                   grind)
            . rw[aR (by lia)]
              have I:(0:Rat) < -(vc u j:Rat):=by have:=j3 w;simpa using this
              rcases t1 with rfl|rfl<;>rcases cs with rfl|rfl<;>first
                |rfl
                | (exfalso
                   rw[c1]at *;rw[c2]at *
                   have:=eQ I b
                   grind)
                | (exfalso
                   rw[c1]at *
                   have:=eQ I b
                   grind)
                | (exfalso
                   rw[c2]at *
                   have:=eQ I b
                   grind))
  rcases main with⟨ρ,e,B,rfl,o⟩|⟨t,e,b,rfl,hb⟩
  . rw[aG,fX]at o
    have pw:y9 d 460 (us++[oI d j p]):=⟨λf hf=>by
        rcases ai.mp hf with q|q
        . exact Q f q
        . rw[aj.mp q];exact gm,by simp;lia,eg.mpr ⟨hg.pw,fz _ _,λf hf f' hf'=>by
        rw[aj.mp hf',Ab (by rw[(Q f hf).gl.1,gm.gl.1])];obtain⟨k,hk⟩:=dF.mp hf;have:=o k (aa.mp hk).1;rwa [af,hk]at this⟩⟩
    have hs':JM (us++[oI d j p]).length (sg++[s]):=⟨by simp[E.len],λx hx=>by
      rcases ai.mp hx with q|q
      . exact E.sgs.one x q
      . rw[aj.mp q];exact Z⟩
    have e9:jy (yQ ah (jy (lstM ir))) (nQ (R B none none))=.ok (.lst ((us++[oI d j p]).map tI)):=by rw[aZ];exact LA rfl (Ib rfl) (by simp;lia)
    let S:Option W:=some (.p (.lst ((us++[oI d j p]).map tI)))
    have i1:gS (gI ap (gI (gJ 9) gM)) (jg c) (vw (R B none S))=.ok (mq c d (us++[oI d j p])):=iH rfl rfl (C1 d 460 _ hd (by decide) pw)
    have i2:gW jF bf (jX ib) (vw (R B none S))=.ok (tI (sg++[s])):=gN (x:=tI sg) (y:=.tup [.int s]) rfl (Fs rfl) (by have:=E.len;simp[tI,jF];lia)
    have run:∀b:Bool,lF c [mq c d (us++[oI d j p]),.lst ((us++[oI d j p]).map tI),.int d,tI (sg++[s])]=.ok (.bl b)->j9 c [.int (d:Int),.lst (us.map tI),tI sg,.int (j:Int),fr p,.int s]=.ok (.bl b):=λb hb=>iB rfl (e6 (gP (oU er e) (gP (ρ':=R B none S) (gY e9 rfl) (hW (Lr i1 rfl rfl i2 hb)))))
    have Y:∀X,vq (us++[oI d j p]) d (sg++[s]) X↔vq us d sg X/\Sd s (X j-qv p):=λX=>by rw[JW E.len,L5 L X p hp,Rn (j3 hp)]
    rcases ML (c:=c) (by decide) (by decide) d (UV d hd.2) _ hd pw _ hs' (λn _ h=>aN h (by rw[aT];exact ON E s)) with⟨ws,-,pa,eh⟩|⟨sp,-,q,eh⟩
    . exact⟨false,run _ eh,(λz=>nomatch z),λ⟨X,h⟩=>(NT hs' ((Y X).mpr h) pa).elim⟩
    . exact⟨true,run _ eh,λ_=>⟨Xs sp,(Y _).mp q.side⟩,λ_=>rfl⟩
  . exact⟨b,iB rfl (e6 (ku (t:=.bl b) (oU er e) rfl)),hb⟩
end
section
variable {us:LL}{d:Nat}{sg:LI}
def OD{g S:Int}{X:Nat->Rat}{x u:Vc}(h:∀k,k<d->(S:Rat)*X k=(g:Rat)*(u k:Rat)):(S:Rat)*jk d X x=(g:Rat)*(j4 d x u:Rat)-(S:Rat)*(x d:Rat):=by
 have b:=rE (S:Rat) 0 d (λp=>(x p:Rat)*X p) λ_=>0;have f:=rE (g:Rat) 0 d (λp=>((x p*u p:Int):Rat)) λ_=>0;unfold jk j4;rw[vE];have e:=jV d (λp=>(S:Rat)*((x p:Rat)*X p)+0*0) (λp=>(g:Rat)*((x p*u p:Int):Rat)+0*0) λk a=>by have:=h k a;rw[eO];grind
 grind
end
def Vs{a b e g x y z w:Int}(d:x≠y)(f:x≠z)(i:y≠z)(k:x≠w)(m:y≠w)(n:z≠w)(h:∀t,t=x\/t=y\/t=z\/t=w->a+b*t+e*(t*t)+g*(t*t*t)=0):b=0/\e=0/\g=0:=by
 have r:∀t,t=x\/t=y\/t=z->t≠w->(b+e*w+g*(w*w))+(e+g*w)*t+g*(t*t)=0:=λt o p=>by have s:=h t (by grind);have q:=h w (by simp);exact rR (show t-w≠0 by lia) (by grind)
 obtain⟨l,j,rfl⟩:=F6 d f i (r x (by simp) k) (r y (by simp) m) (r z (by simp) n);simp only[dR,dU]at l j;subst j;exact⟨by lia,rfl,rfl⟩
theorem NC(m:Nat)(q:LI->Nat->Bool):∀(cs:LL) (l:List Nat),l.Nodup->(∀f∈cs,∀r:List Nat,r.Nodup->(∀x∈r,q f x=true)->r.length<=m)->m*cs.length<l.length->∃k∈l,∀f∈cs,q f k=false
 |[],l,_,_,h=>by
  cases l with
  |nil=>simp at h
  |cons k r=>exact⟨k,bx ..,λf j=>nomatch j⟩
 |f::cs,l,hl,hq,h=>by
  have s:=hq f (bx ..) (l.filter (q f)) (hl.filter _) λx n=>(aU.mp n).2;have e:=List.length_eq_countP_add_countP (q f) (l:=l);rw[eJ,eJ]at e;obtain⟨k,o,i⟩:=NC m q cs (l.filter λx=>!q f x) (hl.filter _) (λg d=>hq g (bz _ d)) (by
   have p:(l.filter λx=>!q f x).length=(l.filter λa=>decide ¬(q f a=true)).length:=by congr 2;funext a;cases q f a<;>rfl
   rw[ay,Nat.mul_succ]at h;lia)
  have b:=aU.mp o;refine⟨k,b.1,λg d=>?_⟩;rcases aF.mp d with rfl|d
  .simpa using b.2
  .exact i g d
def NL(t:Int):LI:=[t,t*t,t*t*t]
def QS(d:Nat)(t:Int)(f:LI):Int:=j4 d (vc f) (vc (NL t))-1000*vc f d
section
variable {us:LL}{d:Nat}
def Qi(s:1<=d/\d<=3)(q:y9 d 84 us)(t:Int){f:LI}(o:f∈us)(r:List Nat)(hr:r.Nodup)(h:∀x∈r,QS d (t+x) f=0):r.length<=3:=by
 match r with
 |[]=>exact bL _
 |[_]=>simp
 |[_,_]=>simp
 |[_,_,_]=>simp
 |x::y::z::w::r=>
  exfalso;simp only[bO,aF,not_or]at hr;obtain⟨p,v,i⟩:=(q.gc f o).re;have e:∀t,QS d t f = -1000*vc f d+vc f 0*t+(if 2<=d then vc f 1 else 0)*(t*t)+(if 3<=d then vc f 2 else 0)*(t*t*t):=λt=>by
   have m:d=1\/d=2\/d=3:=by lia
   unfold QS j4;rcases m with rfl|rfl|rfl<;>simp[sm,NL,vc]<;>grind
  obtain⟨l,j,k⟩:=Vs (x:=t+x) (y:=t+y) (z:=t+z) (w:=t+w) (a:=-1000*vc f d) (b:=vc f 0) (e:=if 2<=d then vc f 1 else 0) (g:=if 3<=d then vc f 2 else 0) (by lia) (by lia) (by lia) (by lia) (by lia) (by lia) (by intro u n;rw[<-e];rcases n with rfl|rfl|rfl|rfl<;>exact h _ (by simp))
  have:p=0\/p=1\/p=2:=by lia
  rcases this with rfl|rfl|rfl
  .exact i l
  .rw[aQ (by lia)]at j;exact i j
  .rw[aQ (by lia)]at k;exact i k
def M7 t b (hb:0<b) (i:Bn 8000 b):∃p,kG c [.int t,.int b]=.ok (fr p)/\Fq p/\p.1.natAbs<=t.natAbs/\p.2.natAbs<=b.natAbs/\p.1*b=t*p.2:=by
 have a:b≠0:=by lia
 have j:=Cu.Kh t b a;have h:=Cu.Tu t b a;have g:Cu.G t b≠0:=by lia
 have e:∀x:Int,Builtin.divisionGoesByPylong x (Cu.G t b)=false:=λx=>by refine Bn.noPy (n:=8000) ?_ (by decide);unfold Bn at *;refine cg ?_ i;lia
 have f:=Cu.EN t b a;rw[aR (by lia)]at f;exact⟨(t.fdiv (Cu.G t b),b.fdiv (Cu.G t b)),iB rfl (gP (gY (iH rfl rfl (uA t b)) rfl) (hW (nS (gN rfl rfl (mL g (e t))) (gN rfl rfl (mL g (e b)))))),⟨f.pos,f.one⟩,vI (Cu.pJ t b) g,vI (Cu.nq t b) g,f.is⟩
def Qc(x:Rat):(Ci x=0->x=0)/\(Ci x≠0->0<(Ci x:Rat)*x):=by
 unfold Ci;by_cases h:0<x
 .rw[aQ h];exact⟨λz=>absurd z (by decide),λ_=>by simpa using h⟩
 .rw[aR h];by_cases a:x<0
  .rw[aQ a];exact⟨λz=>absurd z (by decide),λ_=>by rw[show ((-1:Int):Rat) = -1 from rfl];grind⟩
  .rw[aR a];exact⟨λ_=>by grind,λz=>absurd rfl z⟩
end
def M6{cs:LL}(o:1<=d/\d<=3)(k:∀u∈cs,GC d 90 u)(j:cs.length<=8)(n:GC d 90 u):(Dl d (cs++[u])).length=(Dl d cs).length+(flt cs.length (Rx d cs u)).length:=by
 let c:Cs:=⟨0,0,0,0,0,0,0,0,0,0,0,0,0⟩;have g:(90+1)*2 ^ d<=800:=by have:2 ^ d<=2 ^ 3:=dh (by decide) o.2;lia
 obtain⟨f,rfl⟩:∃f,d=f+1:=⟨d-1,by lia⟩;have e:(2*90+1+1)*2 ^ f=(90+1)*2 ^ (f+1):=by rw[dy];lia
 obtain⟨L,-,l⟩:=vB (c:=c) 5 (f+1) 90 cs (by lia) (by lia) g j λw hw=>HR (k w hw);obtain⟨s,-,i,p⟩:=HM (c:=c) (N2:=Pw (f+1) 90) (by decide) (tz (d:=f) (by lia) (by rw[e];exact g)).1 (by lia) (bJ (by rw[Pw])) (tz (by lia) g).1 (λw hw=>HR (k w hw)) j (HR n) (mw c 5) (λr h m v q=>by cases h;exact vB 5 f (2*90+1) m (by lia) (by lia) (by rw[e];exact g) (by lia) q) l
 have a:=congrArg List.length l.fst;have b:=congrArg List.length i.fst;rw[aw]at a b;show (flt (cs++[u]).length (Rz (f+1) (cs++[u]))).length=(flt cs.length (Rz (f+1) cs)).length+_;rw[<-a,<-b];exact p
def P5 d:(Dl d []).length=1:=by have h:([])∈Dl d []:=vZ.mpr ⟨by simp[iL],λ_=>0,λi a=>nomatch a⟩;have l:=vC 0 (Rz d []);have:=fL h;have b:(Dl d []).length<=2 ^ 0:=l;lia
abbrev Wg(d:Nat)(cs:LL)(k:Nat):Nat:=(flt (cs.take k).length (Rx d (cs.take k) (cs.getD k []))).length
def JQ{cs:LL}(f:1<=d/\d<=3)(b:∀u∈cs,GC d 90 u)(h:cs.length<=7)(a:k<cs.length):(Dl d (cs.take (k+1))).length=(Dl d (cs.take k)).length+Wg d cs k:=by
 have e:cs.take (k+1)=cs.take k++[cs.getD k []]:=by rw[jJ cs k cs[k] (ag a),af,ag a];rfl
 rw[e];exact M6 f (λu g=>b u (d8 g)) (by simp;lia) (b _ (v5 a))
def QG{cs:LL}(b:1<=d/\d<=3)(a:y9 d 84 cs):0<(Dl d cs).length:=by
 have h:∀k,k<=cs.length->0<(Dl d (cs.take k)).length:=λk=>by
  induction k with
  |zero=>intro _;rw[List.take_zero,P5];decide
  |succ k ih=>intro f;rw[JQ b (λu e=>(a.gc u e).mono (by decide)) a.few (by omega)];have:=ih (by omega);omega
 have:=h cs.length (aK _);rwa [dM]at this
def BI(g:f1 ρ=.ok x1)(f:f2 ρ=.ok x2)(d:f3 ρ=.ok x3)(a:f4 ρ=.ok x4)(b:f5 ρ=.ok x5)(e:f6 ρ=.ok x6)(hr:F [x1,x2,x3,x4,x5,x6]=.ok t):gS (gI f1 (gI f2 (gI f3 (gI f4 (gI f5 (gI f6 gM)))))) F ρ=.ok t:=by simp only[gS,gI,gM,g,f,d,a,b,e,hr,M.bind_ok];rfl
def Jc ns (a b:Nat) (e:b<=7):∃(d:Nat) (cs:LL),lR c [.scr ns,.int (a:Int),.int b]=.ok (.tup [.int d,.lst (cs.map tI)])/\(1<=d/\d<=3)/\y9 d 84 cs/\cs.length<=b:=Nd ns a b e
def Sg{p q:Int×Int}{s N:Int}(a:0<p.2)(b:0<q.2)(h:q.1*(p.2*N)=(p.1*N-s*p.2)*q.2):(N:Rat)*(qv p-qv q)=(s:Rat):=by
 have p0:=j3 a;have d:=j3 b;have e:(q.1:Rat)*((p.2:Rat)*(N:Rat))=((p.1:Rat)*(N:Rat)-(s:Rat)*(p.2:Rat))*(q.2:Rat):=by exact_mod_cast h
 unfold qv;grind
section
variable {us:LL}{d:Nat}{sg:LI}
theorem Ma(C:1<=d/\d<=3)(I:y9 d 84 us)(E:us.length<=6)(F:yT us.length sg)(g:∃X,vq us d sg X){j:Nat}(H:j<d)(o:Option (Int×Int))(s:Int)(B:s=1\/s = -1)(fq:∀p,o=some p->Fq p/\Bn 390 p.1/\Bn 390 p.2)(Q:∀p,o=some p->∀X,vq us d sg X->0<(s:Rat)*(qv p-X j))(L:∀v:Rat,(∀p,o=some p->0<(s:Rat)*(qv p-v))->∃X,vq us d sg X/\0<(s:Rat)*(X j-v)) :
  oX c [.int (d:Int),.lst (us.map tI),tI sg,.int (j:Int),oT o,.int s]=.ok (.bl true):=by
 have A:s.natAbs<=1:=by lia
 have K:s≠0:=by lia
 cases o with
 |none=>
  have J:rq (.int 10) (.int 30)=.ok (.int 1000000000000000000000000000000):=by simp[rq,l8]
  obtain⟨b,e,hb⟩:=ur (c:=c) C I E F g H (s*1000000000000000000000000000000,1) (show (0:Int)<1 by decide) (by rcases B with rfl|rfl<;>exact Bn.mono (m:=100) (show _<_ by decide +kernel) (by decide)) ((Fi (n:=0)).mono (n:=460) (by decide)) s A;obtain⟨X,g,hv⟩:=L (qv (s*1000000000000000000000000000000,1)) λp z=>nomatch z;have bt:b=true:=hb.mpr ⟨X,g,λz=>absurd z K,λ_=>hv⟩;subst bt;exact iB rfl (ku (t:=.bl true) (i9 (g9 (gN rfl rfl rfl)) (hW (gN (BI rfl rfl rfl rfl (nS (gN rfl (gN rfl rfl J) (iJ (qN (by rcases B with rfl|rfl<;>decide)))) rfl) rfl e) rfl rfl))) rfl)
 |some p=>
  have u:rq (.int 10) (.int 20)=.ok (.int 100000000000000000000):=by simp[rq,l8]
  obtain⟨f,D,r⟩:=fq p rfl;have i:Bn 67 100000000000000000000:=show _<_ by decide +kernel
  have k1:=D.mul i;have P:=r.mul i;have k3:Bn 390 (s*p.2):=GT A r;obtain⟨x,ex,hx⟩:=ur (c:=c) C I E F g H p f.pos (D.mono (by decide)) (r.mono (by decide)) s A;obtain⟨y,Y,hy⟩:=ur (c:=c) C I E F g H p f.pos (D.mono (by decide)) (r.mono (by decide)) 0 (by decide);have x0:x=false:=gH.mpr λz=>by obtain⟨X,g,h⟩:=hx.mp z;have a:=Q p rfl X g;have b:=h.2 K;grind
  have U:y=false:=gH.mpr λz=>by obtain⟨X,g,h⟩:=hy.mp z;have a:=Q p rfl X g;have b:=h.1 rfl;grind
  subst x0 U;have bp:0<p.2*100000000000000000000:=aX f.pos (by decide);obtain⟨q,R,l,l1,S,ql⟩:=M7 (c:=c) (p.1*100000000000000000000-s*p.2) (p.2*100000000000000000000) bp (P.mono (by decide));have c1:Bn 460 q.1:=cg l1 ((k1.sub (k3.mono (n:=457) (by decide))).mono (by decide));have c2:Bn 460 q.2:=cg S (P.mono (by decide));obtain⟨w,ew,hw⟩:=ur (c:=c) C I E F g H q l.pos c1 c2 s A;have k:=Sg f.pos l.pos ql;have n0:(0:Rat)<((100000000000000000000:Int):Rat):=j3 (by decide);have ss:(s:Rat)*(s:Rat)=1:=by
   have m1:((-1:Int):Rat) = -1:=rfl;have Z:((1:Int):Rat)=1:=rfl;rcases B with rfl|rfl
   .rw[Z];grind
   .rw[m1];grind
  obtain⟨X,g,hv⟩:=L (qv q) λp' e=>by cases e;refine GK (x:=((100000000000000000000:Int):Rat)) ?_ n0;generalize ((100000000000000000000:Int):Rat)=N at *;rw[show N*((s:Rat)*(qv p-qv q))=(s:Rat)*(N*(qv p-qv q)) by grind,k,ss];decide
  have wt:w=true:=hw.mpr ⟨X,g,λz=>absurd z K,λ_=>hv⟩;subst wt;refine iB rfl (gP (iF (g9 (gN rfl rfl rfl)) rfl) (gP (iF (qw (g9 (oO rfl (yL p f))) rfl) rfl) (gP (iF (g9 (gN (BI rfl rfl rfl rfl rfl rfl ex) rfl rfl)) rfl) (gP (iF (g9 (gN (BI rfl rfl rfl rfl rfl rfl Y) rfl rfl)) rfl) (gP (gY (iH (gN (gN (gN rfl rfl rfl) (gN rfl rfl u) (iJ (D.ok i (by decide) (by decide)))) (gN rfl (gN rfl rfl rfl) (iJ (qN (by rcases B with rfl|rfl<;>decide)))) rfl) (gN (gN rfl rfl rfl) (gN rfl rfl u) (iJ (r.ok i (by decide) (by decide)))) R) rfl) (hW (gN (BI rfl rfl rfl rfl rfl rfl ew) rfl rfl)))))))
def A2(H:1<=d/\d<=3)(L:y9 d 84 us)(h6:us.length<=6)(Q:yT us.length sg)(i:∃X,vq us d sg X):lP c [.int (d:Int),.lst (us.map tI),tI sg]=.ok (.bl true):=by
 have sz:1000<sizeLine:=by decide
 obtain⟨f,eb,hf⟩:=RX (c:=c) H (L.mono (by decide)) Q i;let B:List T:=(List.range d).map λa=>.tup [oT (f a).1,oT (f a).2];have bl:B.length=d:=by simp[B]
 have Z:∀{ρ:Pe},ρ[0]? = some (some (.int (d:Int)))->ρ[1]? = some (some (.lst (us.map tI)))->ρ[2]? = some (some (tI sg))->jO (gI (gS bv (jg c)) bc) (zq c) ρ=.ok B:=λ{ρ} h1 h2 h3=>xr (iH (x:=.int (d:Int)) (y:=.lst (us.map tI)) (by simp[gJ,h1]) (by simp[gJ,h2]) (C1 d 84 us H (by decide) L)) (by simp[gJ,h3]) eb
 let R (B:List T) (n:Option W):En:=[some (.p (.int (d:Int))),some (.p (.lst (us.map tI))),some (.p (tI sg)),some (.o B),n];have C:∀n,kg kH gn (vw (R B n))=.ok (.int (d:Int)):=λn=>mZ (t:=.lst B) rfl (by simp[bl]);obtain⟨ρ,e,n,rfl⟩:=ug (m:=j6 4) (g:=sO c) (λ(k:Nat)=>T.int (k:Int)) (λρ=>∃n,ρ=R B n) (List.range d) (R B none) ⟨_,rfl⟩ (by
  rintro a Y ρ ⟨n,rfl⟩;have J:=aS.mp Y;have E:=hf a J;have ix:∀{ρ:Pe},ρ[3]? = some (some (.lst B))->ρ[4]? = some (some (.int (a:Int)))->gW iP bm bi ρ=.ok (.tup [oT (f a).1,oT (f a).2]):=λ{ρ} h1 h2=>gN (x:=.lst B) (y:=.int (a:Int)) (by simp[gJ,h1]) (by simp[gJ,h2]) (GS _ _ _ (by simp[B,List.getElem?_range J]));obtain⟨K,j⟩:=i;have lh:∀p r,(f a).1=some p->(f a).2=some r->qv p<qv r:=λp r h hr=>by have:=E.lo_ p h K j;have:=E.hi_ r hr K j;grind
  have U:((-1:Int):Rat) = -1:=rfl;have P:((1:Int):Rat)=1:=rfl;have lo:=Ma (c:=c) H L h6 Q ⟨K,j⟩ J (f a).1 (-1) (.inr rfl) (λp h=>E.fq p (.inl h)) (λp h X i=>by have:=E.lo_ p h X i;rw[U];grind) (λv hv=>by
   obtain⟨z,D,I⟩:=Sf (match (f a).1 with|some p=>[qv p]|none=>[]) (v::match (f a).2 with|some p=>[qv p]|none=>[]) (by
    cases A:(f a).1 with
    |none=>exact λ_ z=>nomatch z
    |some p=>
     intro l s u q;rw[aj.mp s];rcases aF.mp q with rfl|q
     .have:=hv p A;rw[U]at this;grind
     .cases w:(f a).2 with
      |none=>rw[w]at q;exact nomatch q
      |some r=>rw[w]at q;rw[aj.mp q];exact lh p r A w)
   obtain⟨X,i,N⟩:=E.ex z (λp h=>D _ (by rw[h];exact aj.mpr rfl)) (λp h=>I _ (by rw[h];simp));exact⟨X,i,by have:=I v (by simp);rw[U,N];grind⟩)
  have hi:=Ma (c:=c) H L h6 Q ⟨K,j⟩ J (f a).2 1 (.inl rfl) (λp h=>E.fq p (.inr h)) (λp h X i=>by have:=E.hi_ p h X i;rw[P];grind) (λv hv=>by
   obtain⟨z,D,I⟩:=Sf (v::match (f a).1 with|some p=>[qv p]|none=>[]) (match (f a).2 with|some p=>[qv p]|none=>[]) (by
    cases w:(f a).2 with
    |none=>exact λ_ _ _ z=>nomatch z
    |some r=>
     intro l s u q;rw[aj.mp q];rcases aF.mp s with rfl|s
     .have:=hv r w;rw[P]at this;grind
     .cases A:(f a).1 with
      |none=>rw[A]at s;exact nomatch s
      |some p=>rw[A]at s;rw[aj.mp s];exact lh p r A w)
   obtain⟨X,i,N⟩:=E.ex z (λp h=>D _ (by rw[h];simp)) (λp h=>I _ (by rw[h];exact aj.mpr rfl));exact⟨X,i,by have:=D v (by simp);rw[P,N];grind⟩)
  let S:Pe:=vw (R B (some (.p (.int (a:Int)))));have F:=ix (ρ:=S) rfl rfl;refine⟨_,R B (some (.p (.int (a:Int)))),rfl,.inl (gP (iF (zx (qw (b:=true) (g9 ?_) rfl) (g9 (gN (x:=.int 2) (mZ F rfl) rfl rfl))) rfl) (iF (zx (qw (b:=true) (g9 (BI rfl rfl rfl rfl (gN (y:=.int 0) F rfl rfl) rfl lo)) rfl) (qw (b:=true) (g9 (BI rfl rfl rfl rfl (gN (y:=.int 1) F rfl rfl) rfl hi)) rfl)) rfl)),_,rfl⟩;show pE "tuple" (gW iP bm bi) S=_;simp only[pE,F,M.bind_ok];rfl)
 exact iB rfl (gP (ρ':=R B none) (nY (Z rfl rfl rfl) rfl) (gP (iF (zx (qw (b:=true) (g9 rfl) rfl) (g9 (gN (C none) rfl (by simp)))) rfl) (gP (oU (oJ d (by lia) rfl) e) (gP (ρ':=R (B++[.non]) n) (wU (us:=B) rfl rfl (by lia) rfl) (hW (gN (x:=.int (d:Int)) (y:=.int (d:Int)) (mZ (t:=.lst B) (iV (Z rfl rfl rfl)) (by simp[bl])) rfl (by rw[jj];simp)))))))
def BO ns:∃(d:Nat) (us:LL) (sg:LI),lg c [.scr ns]=.ok (.tup [.int (d:Int),.lst (us.map tI),tI sg])/\(1<=d/\d<=3)/\y9 d 84 us/\us.length<=6/\yT us.length sg/\∃X,vq us d sg X:=by
 have sz:1000<sizeLine:=by decide
 obtain⟨m,I,-⟩:=rX (c:=c) ns 12;obtain⟨ed,d0,d1⟩:=lH (c:=c) m 0 3 (by decide) (by decide) (by decide) (by decide);obtain⟨et,t0,t1⟩:=lH (c:=c) m 1 (10 ^ 4) (by decide) (by decide) (by decide) (by decide);obtain⟨d,hd⟩:∃d:Nat,1+dr c m 0 3=(d:Int):=⟨(1+dr c m 0 3).toNat,by lia⟩;have J:1<=d/\d<=3:=by lia
 obtain⟨us,eu,Z,h7⟩:=xR (c:=c) ns 13 d 6 J (by decide);generalize ht:1+dr c m 1 (10 ^ 4)=t at *;refine⟨d,us,?_⟩;obtain⟨k0,Y,hq⟩:=NC 3 (λf k=>QS d (t+k) f==0) us ((List.range 22).map (· + 1)) (by decide) (λf B r hr h=>Qi J Z t B r hr λx F=>by simpa using h x F) (by simp;lia);obtain⟨D,Q,rfl⟩:=aD.mp Y;have hk1':=aS.mp Q;let S (j:Int) (sg:LI) (o:Option W):En:=[some (.p (.scr ns)),some (.p (.int (d:Int))),some (.p (.lst (us.map tI))),some (.p (.int j)),some (.p (tI sg)),o];obtain⟨b,e,j,sg,o,rfl,gd⟩:=nZ (c:=iD (gW (zS false) ac bi)) (g:=p9 c)
  (λb=>∃(i:Nat) (sg:LI) (o:Option W),b=S (t+i) sg o/\i<=D+1/\(i=D+1->0∉sg)/\(0∉sg->yT us.length sg/\∃X,vq us d sg X)) (λb=>match b with|_::_::_::some (.p (.int j))::_=>(t+(D+1:Nat)-j).toNat|_=>0)
  (λb=>∃j sg o,b=S j sg o/\yT us.length sg/\∃X,vq us d sg X) (by
   rintro b ⟨i,sg,o,rfl,hi,h1,h2⟩;have H:iD (gW (zS false) ac bi) (vw (S (t+i) sg o))=.ok (sg.any λx=>0==x):=g9 (gN rfl rfl (QZ 0 sg));by_cases K:0∈sg
   .have lt:i≠D+1:=λz=>h1 z K;have C:Bn 20 (t+((i+1:Nat):Int)):=show _<1048576 by lia
    generalize R:t+((i+1:Nat):Int)=y at C;have N:=C.mul C;have b3:=N.mul C;obtain⟨E,A⟩:=n8 (P:=λ(k:Nat) (p:Int×Int)=>kG c [.int (vc (NL y) k),.int 1000]=.ok (fr p)/\Fq p/\p.1.natAbs<=(vc (NL y) k).natAbs/\p.2.natAbs<=(1000:Int).natAbs/\p.1*1000=vc (NL y) k*p.2) (List.range d) λk _=>M7 _ 1000 (by decide) (show _<_ by decide +kernel);let a:=(List.range d).map E;have l3:∀{b:Pe},b[1]? = some (some (.int y))->jy (lstM (gI ah (gI (gW jE ah ah) (gI (gW jE (gW jE ah ah) ah) gM)))) b=.ok (.lst ((NL y).map .int)):=λ{b} h=>by
     have v:gJ 1 b=.ok (.int y):=by simp[gJ,h]
     have v2:gW jE ah ah b=.ok (.int (y*y)):=gN v v (iJ (C.ok C (by decide) (by decide)));have v3:gW jE (gW jE ah ah) ah b=.ok (.int (y*y*y)):=gN v2 v (iJ (N.ok C (by decide) (by decide)));have hz:3<=sizeLine:=by lia
     simp only[jy,lstM,gI,gM,v,v2,v3,M.bind_ok,De,ay,cE,hz,if_true];rfl
    have e1:kh [none,some 3] (lE bd) bP (λ_=>.ok true) (qd c) (nQ (S y sg o))=.ok (a.map fr):=jS (List.range d) (λ(k:Nat)=>T.int (k:Int)) (λk=>fr (E k)) (oJ d (by lia) rfl) (by simp;lia) (λk s=>⟨_,rfl,rfl,iH (gN (l3 rfl) rfl (Qj (NL y) T.int k 0 (by have:=aS.mp s;show k<3;lia))) rfl (A k s).1⟩) (by simp[a])
    have w:wts a<=200000:=aN (Se (n:=60) λp U=>by
     obtain⟨k,s,rfl⟩:=aD.mp U;obtain⟨-,-,q1,q2,-⟩:=A k s;have k3:k=0\/k=1\/k=2:=by have:=aS.mp s;lia
     have bb:Bn 60 (vc (NL y) k):=by
      rcases k3 with rfl|rfl|rfl
      .exact C.mono (by decide)
      .exact N.mono (by decide)
      .exact b3
     exact eS.mpr ⟨Be (cg q1 bb) (by decide),Be (cg q2 (by decide)) (by decide)⟩) (by simp[a];lia)
    let l:=us.map λf=>Ci (jk d (Xs a) (vc f));have e2:kh [none,some 5] (jh bf) bP (λ_=>.ok true) (qq c) (nQ (S y sg (some (.p (tS a)))))=.ok (l.map T.int):=jS us tI (λf=>T.int (Ci (jk d (Xs a) (vc f)))) (tO rfl) (by lia) (λf B=>⟨_,rfl,rfl,iH rfl rfl (Ef (by decide) d f (Z.gc f B).gl J.2 a (by simp[a]) (λp U=>by obtain⟨k,s,rfl⟩:=aD.mp U;exact (A k s).2.1) w)⟩) (by simp[l])
    have val:∀f,(1000:Rat)*jk d (Xs a) (vc f)=(QS d y f:Rat):=λf=>by
     have:=OD (d:=d) (g:=1) (S:=1000) (X:=Xs a) (x:=vc f) (u:=vc (NL y)) λk s=>by
      obtain⟨-,fq,-,-,q⟩:=A k (aS.mpr s);have p0:=j3 fq.pos;have q':((E k).1:Rat)*1000=(vc (NL y) k:Rat)*((E k).2:Rat):=by exact_mod_cast q
      unfold Xs qv;rw[af,av,List.getElem?_range s];show ((1000:Int):Rat)*(((E k).1:Rat) / ((E k).2:Rat))=((1:Int):Rat)*_;grind
     unfold QS;rw[eP,eO];grind
    refine .inr ⟨H.trans (by rw[dZ.mpr ⟨0,K,by decide⟩]),S y l (some (.p (tS a))),.inl (gP (ρ':=S y sg o) (gY (gN rfl rfl (by rw[jw,<-R];congr 2;lia)) rfl) (gP (ρ':=S y sg (some (.p (tS a)))) (gY (oM e1 rfl) rfl) (gY (oM e2 rfl) rfl))),⟨i+1,l,_,by rw[R],by lia,λz L=>?_,λL=>⟨⟨by simp[l],λx F=>?_⟩,Xs a,λi v hv=>?_⟩⟩,?_⟩
    .obtain⟨f,B,q⟩:=aD.mp L;have:=hq f B;rw[<-z,R]at this;have v:=val f;unfold Ci at q;have z0:jk d (Xs a) (vc f)=0:=by grind
     rw[z0]at v;have:QS d y f=0:=by exact_mod_cast (show ((QS d y f:Int):Rat)=((0:Int):Rat) by grind)
     simp_all
    .obtain⟨f,B,rfl⟩:=aD.mp F;have:Ci (jk d (Xs a) (vc f))≠0:=λz=>L (aD.mpr ⟨f,B,z⟩);unfold Ci at this ⊢;grind
    .obtain⟨f,B,rfl⟩:∃f,us[i]? = some f/\Ci (jk d (Xs a) (vc f))=v:=by simpa[l] using hv
     rw[af,B];exact Qc _
    .show (t+(D+1:Nat)-y).toNat<(t+(D+1:Nat)-(t+(i:Int))).toNat;lia
   .exact .inl ⟨H.trans (by rw[bH.mpr λx F=>by simpa using λz:0=x=>K (z▸F)]),_,sg,o,rfl,h2 K⟩)
  400 (S t [0] none) ⟨0,[0],none,by simp[S],bL _,λz=>by lia,λz=>absurd (by simp) z⟩ (by show (t+(D+1:Nat)-t).toNat<400;lia)
 exact⟨sg,iB rfl (gP (ρ':=[some (.p (.scr ns)),some (.p (.int (d:Int))),none,none,none,none]) (gY (gN rfl (kr (iH rfl rfl I) rfl rfl ed) (by rw[jw,hd])) rfl) (gP (ρ':=[some (.p (.scr ns)),some (.p (.int (d:Int))),some (.p (.lst (us.map tI))),none,none,none]) (gY (iV (wD rfl rfl rfl rfl eu)) rfl) (gP (ρ':=[some (.p (.scr ns)),some (.p (.int (d:Int))),some (.p (.lst (us.map tI))),some (.p (.int t)),none,none]) (gY (gN rfl (kr (iH rfl rfl I) rfl rfl et) (by rw[jw,ht])) rfl) (gP (ρ':=S t [0] none) (gY (Fs rfl) rfl) (gP e (hW (V1 rfl rfl rfl))))))),J,Z,h7,gd⟩
end
def I0 ns:vH c [.scr ns]=.ok (.bl true):=by
 have sz:1000<sizeLine:=by decide
 obtain⟨d,a,ed,l,n,h4⟩:=Jc (c:=c) ns 0 4 (by decide);have i0:=C1 (c:=c) d 84 a l (by decide) n;have N:=Oa (c:=c) l n;have C:=QG l n;have nl:(Dl d a).length<=256:=He (by lia);have u:∀s∈Dl d a,yT a.length s/\∃X,vq a d s X:=λs o=>⟨Kc (HN.mp o).1,(HN.mp o).2⟩;generalize hL:Dl d a=L at *;let R (H h I:Option W):En:=[some (.p (.scr ns)),some (.p (.int (d:Int))),some (.p (.lst (a.map tI))),some (.p (.lst (L.map tI))),H,h,I];let f (k:Nat):Nat:=(match iM c [.scr ns,.int ((6+k:Nat):Int)] with|.ok (.int v)=>dr c v 0 (L.length:Int)|_=>0).toNat;have j:∀k:Nat,k<4->(∃v,iM c [.scr ns,.int (6+(k:Int))]=.ok (.int v)/\iC c [.int v,.int 0,.int (L.length:Int)]=.ok (.int (f k:Int)))/\f k<L.length:=λk r=>by
  obtain⟨v,B,-⟩:=rX (c:=c) ns (6+k);obtain⟨q1,Q,q3⟩:=lH (c:=c) v 0 (L.length:Int) (by lia) (by lia) (by decide) (by decide);have e:f k=(dr c v 0 (L.length:Int)).toNat:=by show (match iM c [.scr ns,.int ((6+k:Nat):Int)] with|.ok (.int v)=>dr c v 0 (L.length:Int)|_=>0).toNat=_;rw[B]
  refine⟨⟨v,by simpa using B,by rw[q1,e,cG Q]⟩,by lia⟩
 let P:List Nat:=(List.range 4).map f;have E:kh [none,some 0,some 3] (lE (gI ia gM)) bP (λ_=>.ok true) (Bq c) (nQ (R none none none))=.ok (P.map λ(k:Nat)=>T.int (k:Int)):=by refine jS (List.range 4) (λ(k:Nat)=>T.int (k:Int)) (λk=>T.int (f k:Int)) (oJ 4 (by lia) rfl) (by simp;lia) (λk r=>?_) (by rw[aI];rfl);obtain⟨⟨v,h1,h2⟩,-⟩:=j k (aS.mp r);exact⟨_,rfl,rfl,kr (iH rfl (gN rfl rfl (jw _ _)) h1) rfl (mZ (t:=.lst (L.map tI)) rfl (by simp)) h2⟩
 have Y:jh (gW jF bi (j7 bi (λ_=>.ok none) (jo ab))) (nQ (R (some (.p (.lst (P.map λ(k:Nat)=>T.int (k:Int))))) none none))=.ok ((P++P.take 1).map λ(k:Nat)=>T.int (k:Int)):=rfl;obtain⟨z,e,h,rfl⟩:=ug (m:=j6 5) (g:=Bf c) (λ(k:Nat)=>T.int (k:Int)) (λz=>∃h,z=R (some (.p (.lst (P.map λ(k:Nat)=>T.int (k:Int))))) h none) (P++P.take 1) (R (some (.p (.lst (P.map λ(k:Nat)=>T.int (k:Int))))) none none) ⟨_,rfl⟩ (by
  rintro k r z ⟨h,rfl⟩;have D:k<L.length:=by
   have:k∈P:=by
    rcases ai.mp r with q|q
    .exact q
    .exact d8 q
   obtain⟨i,S,rfl⟩:=aD.mp this;exact (j i (aS.mp S)).2
  obtain⟨J,F⟩:=u _ (aV D);exact⟨_,_,rfl,.inl (iF (qw (b:=true) (g9 (kr rfl rfl (gN (x:=.lst (L.map tI)) (y:=.int (k:Int)) rfl rfl (GS _ _ _ (by rw[av,ag D];rfl))) (A2 l n (by lia) J F))) rfl) rfl),_,rfl⟩)
 obtain⟨d',U,sg,eo,w,A,Z,o,K⟩:=BO (c:=c) ns;refine iB rfl (gP (ρ':=[some (.p (.scr ns)),some (.p (.int (d:Int))),some (.p (.lst (a.map tI))),none,none,none,none]) (Le (kr rfl rfl rfl ed) rfl) (gP (ρ':=R none none none) (gY (iV (B1 (iH rfl rfl i0) N)) rfl) (gP (gY (iV E) rfl) (gP (jK Y e) (gP (Le (oO rfl eo) rfl) (hW (kr rfl rfl rfl (A2 w A Z o K))))))))
end CL
namespace K33
open PySem L2 L3 CL
def iX(i:Nat):Stmt:=PySem.Challenge.pw_cutlands_k33_boxes.main.body.getD i (.Pass ⟨0,0,0,0⟩)
structure Er(c:Cs)(K:W.Frag)(mg:Str->Option Value):Prop where
 here:True
 cl_Cutting:AQ K c.Cutting
 na_Cutting_own_cuts:nA K c.Cutting "own_cuts"
 na_Cutting_own_dims:nA K c.Cutting "own_dims"
 mk_Cutting:W.makesIn K c.Cutting=true
 kp_Cutting:W.keepIn K (.ref c.Cutting)=true
 mg_Cutting:mg "Cutting" = some (.ref c.Cutting)
 k_MOST_CUTS:∃t,mg "MOST_CUTS" = some (.int 7 t)
 k_MOST_DIMS:∃t,mg "MOST_DIMS" = some (.int 3 t)
def U9{K:W.Frag}{h:Heap}{a:Str->Option Value}{aCutting:Addr}{tMOST_CUTS tMOST_DIMS:_}(X:K.In h)(G:h.Ns mainGlobals a)(e:W.nsIn K mainGlobals "Cutting" = some (some (.ref aCutting)))(b:W.plainGet K aCutting Str.empty=true)(g:W.hasDictIn K aCutting=true)(i:W.plainOver K aCutting=true)(f:W.findIn K (.ref aCutting) "__setattr__" = some (some (.builtin "object.__setattr__")))(own_cuts:W.findIn K (.ref aCutting) "own_cuts" = some none)(own_dims:W.findIn K (.ref aCutting) "own_dims" = some none)(d:W.makesIn K aCutting=true)(c:W.keepIn K (.ref aCutting)=true)(uMOST_CUTS:W.nsIn K mainGlobals "MOST_CUTS" = some (some (.int 7 tMOST_CUTS)))(uMOST_DIMS:W.nsIn K mainGlobals "MOST_DIMS" = some (some (.int 3 tMOST_DIMS))):Er ⟨aCutting,0,0,0,0,0,0,0,0,0,0,0,0⟩ K a:=⟨trivial,⟨b,g,i,f⟩,own_cuts,own_dims,d,c,W.mg_of X G e,⟨_,W.mg_of X G uMOST_CUTS⟩,⟨_,W.mg_of X G uMOST_DIMS⟩⟩
def Vw{K:W.Frag}{a g:Addr}{m q:Str}{st:Stmt}{j kV d k b n:Value}{f h:Option Addr}{c:Array (Option Value)}(gf:W.findIn K (.ref a) m=some (some (.ref g)))(i:W.isFn K (.ref g)=true)(l:K.lookup g=some ⟨j,f,.func (W.fnOf m q (kW st) (jv st) (hU st) .none kV d k h b n),c⟩)(o:W.codeIn K b q=true)(e:W.keepIn K (.ref g)=true):mJ K a m q st:=⟨_,_,E4 l o e,gf,i,e⟩
set_option hygiene false in
local macro_rules|`('x')=>`(by repeat' first|(refine' gL ?_ ?_)|(refine' gU ?_)|(exact iw)|(refine' iY _ nd ?_)|(refine' iR ?_ ?_ ?_)|(refine' jb ?_)|(refine' yR _ nd ?_)|(refine' nH ?_)|(refine' Lz ?_)|(exact yz)|(refine' qT _ nd ?_)|(exact gR _)|(exact iz)|(refine' gQ ?_ ?_)|(exact ij)|(refine' Dr ?_ ?_)|(refine' jL (by assumption) hr ?_)|(refine' qG ?_ ?_)|(refine' pO ?_)|(refine' rB hr ?_ ?_)|(refine' F7 hr ?_ ?_)|(refine' mP ?_)|(refine' pW ?_)|(refine' mF ?_ ?_)|(refine' lY ?_)|(refine' oj ?_ ?_)|(refine' nK ?_)|(refine' iq (jc (K:=K)) ka (by rfl) B.len kb ?_)|(refine' iO vh v7 ?_ ?_)|(refine' iO wu vW ?_ ?_)|(refine' iO Du Dt ?_ ?_)|(refine' iO zm zN ?_ ?_)|(refine' iO rN rD ?_ ?_)|(refine' iO Ao zW ?_ ?_)|(exact zZ)|(exact mR)|(exact Lm)|(refine' qD ?_)|(refine' wy ?_ ?_)|(refine' CS ?_ ?_)|(refine' Gj ?_)|(refine' TL ?_ ?_)|(refine' HQ ?_ ?_)|(refine' DD ?_ ?_ ?_)|(exact Np)|(refine' Lf ?_)|(refine' ml "tuple" (by decide) B.isinstance B.tuple jx ?_)|(refine' ml "list" (by decide) B.isinstance B.list mQ ?_)|(refine' ml "int" (by decide) B.isinstance B.int uP ?_)|(refine' ml "bool" (by decide) B.isinstance B.bool B4 ?_)|(refine' jq (jt (K:=K)) jW (by rfl) B.tuple jx ?_)|(refine' jq ue yD (by rfl) B.int uP ?_)|(refine' iq oz sY (by rfl) B.abs sP ?_)|(refine' iq (pk (K:=K) rfl) wJ (by rfl) B.all w6 ?_)|(refine' jA ?_)|(refine' rW (by assumption) hr ?_)|(refine' nV (mY (K:=K)) pB (by rfl) B.list mQ ?_)|(refine' zd ?_)|(refine' Ft ?_ ?_)|(refine' KF ?_ ?_)|(refine' uY ?_ ?_)|(refine' tP ?_)|(refine' zX ?_))
section
variable {P:Program}{w:World}{K:W.Frag}{mg:Str->Option Value}{base:Heap}{c:Cs}(Z:Zx P w K mg base)(B:Bs mg)(ER:Er c K mg)
include Z B ER
theorem o0(D:gX K mg "is_whole" (iX 10)):CP Z "is_whole" 1 (iT c):=jQ Z 0 (iT c) ["thing"] ["thing"] rfl D λnd hX hr=>⟨_,(gU (jb (uY (ml "int" (by decide) B.isinstance B.int uP (gR 0)) (tP (zX (ml "bool" (by decide) B.isinstance B.bool B4 (gR 0)))))))⟩
theorem o1(D:gX K mg "sign_of" (iX 12)):CP Z "sign_of" 1 (kD c):=jQ Z 0 (kD c) ["number"] ["number"] rfl D λnd hX hr=>⟨_,(gL (iR (iO wu vW (gR 0) iz) 'x' iw) (gL (iR (iO vh v7 (gR 0) iz) 'x' iw) 'x'))⟩
theorem o2(D:gX K mg "common_divisor" (iX 13)):CP Z "common_divisor" 1 (jI c):=jQ Z 0 (jI c) ["one","other","rest"] ["one","other"] rfl D λnd hX hr=>⟨_,(gL (zJ (λρ=>match ρ with|_::some (.p (.int j))::_=>j.natAbs+1|_=>0) PassesOwn.never 'x' 'x') (gU (jb (iq oz sY (by rfl) B.abs sP 'x'))))⟩
theorem o3(D:gX K mg "dot" (iX 14)):CP Z "dot" 1 (vJ c):=jQ Z 0 (vJ c) ["numbers","others"] ["numbers","others"] rfl D λnd hX hr=>⟨_,(gU (jb (iq (xu (K:=K) rfl) FP (by rfl) B.sum Fg (gQ (jA (jz ["one","other"] [none,none] hX (mB B.zip 'x') (λnd hX=>⟨(mV 2 rfl (iG (i8 0 nd) (iG (i8 1 nd) kj))),iZ, 'x'⟩))) ij))))⟩
theorem o4(D:gX K mg "less" (iX 23)):CP Z "less" 1 (lT c):=jQ Z 0 (lT c) ["one","other"] ["one","other"] rfl D λnd hX hr=>⟨_,(gU (jb (qr vh v7 'x' 'x')))⟩
theorem o5(D:gX K mg "floor_of" (iX 24)):CP Z "floor_of" 1 (mm c):=jQ Z 0 (mm c) ["one"] ["one"] rfl D λnd hX hr=>⟨_, 'x'⟩
theorem o6(D:gX K mg "ceiling_of" (iX 25)):CP Z "ceiling_of" 1 (lJ c):=jQ Z 0 (lJ c) ["one"] ["one"] rfl D λnd hX hr=>⟨_, 'x'⟩
theorem o7(D:gX K mg "weighted" (iX 27)):CF Z "weighted" 1 (m9 c):=q8 Z 0 (m9 c) ["cuts","rows","k","cut","weights"] ["cuts"] rfl D λnd hX hr=>⟨_,(gL 'x' (gL (jN PassesOwn.never rfl (CG B.enumerate 'x') (pL 2 rfl (jf (ja 2 nd) (jf (ja 3 nd) mh))) (gL (qT 4 nd (KF 'x' (iq (jc (K:=K)) ka (by rfl) B.len kb 'x'))) (gL (yp 4 (pv 4) (gR 2) iz) (gU (Nv 1 (pv 1) (qG (gR 3) (jq (jt (K:=K)) jW (by rfl) B.tuple jx 'x'))))))) (gU (sZ 1 (pv 1)))))⟩
theorem o8(D:gX K mg "free_places" (iX 31)):CF Z "free_places" 1 (lO c):=q8 Z 0 (lO c) ["pivots","dims","taken"] ["pivots","dims"] rfl D λnd hX hr=>⟨_,(gL (iY 2 nd (jA (jz ["place","pivot"] [none,none] hX (iQ (gR 0)) (λnd hX=>⟨(mV 2 rfl (iG (i8 0 nd) (iG (i8 1 nd) kj))),iZ,(gR 0)⟩)))) (gU (nH (jz ["place","taken"] [none,some 2] hX (xw.pim (lI B.range 'x')) (λnd hX=>⟨(i8 0 nd),(lL (iO (Iw (K:=K)) (Kl true) (gR 0) (gR 1) (by rfl))),(gR 0)⟩)))))⟩
theorem o9(D:gX K mg "turned" (iX 37)):CP Z "turned" 1 (nr c):=jQ Z 0 (nr c) ["row","sign"] ["row","sign"] rfl D λnd hX hr=>⟨_,(gU (jb (jq (jt (K:=K)) jW (by rfl) B.tuple jx (gQ (jA (jz ["number","sign"] [none,some 1] hX (iQ (gR 0)) (λnd hX=>⟨(i8 0 nd),iZ, 'x'⟩))) ij))))⟩
theorem WM(D:gX K mg "without_place" (iX 50)):CP Z "without_place" 1 (jR c):=jQ Z 0 (jR c) ["row","place"] ["row","place"] rfl D λnd a hr=>⟨_, 'x'⟩
theorem WY(D:gX K mg "other_places" (iX 59)):CF Z "other_places" 1 (lZ c):=q8 Z 0 (lZ c) ["dims","place"] ["dims","place"] rfl D λnd a hr=>⟨_,(gU (nH (jz ["other","place"] [none,some 1] a (xw.pim (lI B.range 'x')) (λnd a=>⟨(i8 0 nd),(lL 'x'),(gR 0)⟩))))⟩
theorem W2(D:gX K mg "first_place" (iX 68)):CP Z "first_place" 1 (mM c):=jQ Z 0 (mM c) ["cut","place"] ["cut"] rfl D λnd b hr=>⟨_,(gL (iY 1 nd iz) (gL (zJ (λa=>match a with|some (.p (.tup ts))::_=>ts.length+1|_=>0) PassesOwn.never 'x' 'x') 'x'))⟩
theorem Xq(D:mJ K c.Cutting "dims" "Cutting.dims" (qi (iX 73) 1)):lU P w K mg base c.Cutting "dims" 1 (yc K (jC c)):=QM Z 0 (jC c) ["self"] ["self"] rfl ER.cl_Cutting D λnd a hr=>⟨_,(gU (jb (F9 rfl ER.cl_Cutting ER.na_Cutting_own_dims (gR 0))))⟩
theorem XS(D:mJ K c.Cutting "cuts" "Cutting.cuts" (qi (iX 73) 2)):lU P w K mg base c.Cutting "cuts" 1 (Dw K (jD c)):=TR Z 0 (jD c) ["self"] ["self"] rfl ER.cl_Cutting D λnd a hr=>⟨_,(gU (nH (nV (mY (K:=K)) pB (by rfl) B.list mQ (gQ (F9 rfl ER.cl_Cutting ER.na_Cutting_own_cuts (gR 0)) ij))))⟩
theorem Xl(D:mJ K c.Cutting "many" "Cutting.many" (qi (iX 73) 3)):lU P w K mg base c.Cutting "many" 1 (yc K (k9 c)):=QM Z 0 (k9 c) ["self"] ["self"] rfl ER.cl_Cutting D λnd a hr=>⟨_,(gU (jb (iq (jc (K:=K)) ka (by rfl) B.len kb (gQ (F9 rfl ER.cl_Cutting ER.na_Cutting_own_cuts (gR 0)) ij))))⟩
theorem W7(D:gX K mg "_law_cell_at" (iX 75)):CP Z "_law_cell_at" 1 (iM c):=jQ Z 0 (iM c) ["_law_script","_law_k"] ["_law_script","_law_k"] rfl D λnd a hr=>⟨_,(gL (iR (iO vh v7 (gR 1) (iq (jc (K:=K)) ka (by rfl) B.len kb 'x')) 'x' iw) 'x')⟩
theorem WL(D:gX K mg "_law_draw" (iX 76)):CP Z "_law_draw" 1 (iC c):=jQ Z 0 (iC c) ["_law_cell","_law_k","_law_bound","_law_left","_law_j","_law_stir"] ["_law_cell","_law_k","_law_bound"] rfl D λnd a hr=>⟨_,(gL (iR (iO Du Dt (gR 0) (uW iz iz)) (gL 'x' (gL (qI PassesOwn.never rfl (lI B.range 'x') (ja 4 nd) 'x') 'x')) iw) 'x')⟩
theorem WK(D:gX K mg "_law_whole" (iX 77)):CP Z "_law_whole" 1 (iT c):=jQ Z 0 (iT c) ["_law_found"] ["_law_found"] rfl D λnd a hr=>⟨_,(gU (jb (uY (ml "int" (by decide) B.isinstance B.int uP (gR 0)) (tP (zX (ml "bool" (by decide) B.isinstance B.bool B4 (gR 0)))))))⟩
theorem W4(D:gX K mg "_law_common" (iX 78)):CP Z "_law_common" 1 (kK c):=jQ Z 0 (kK c) ["_law_one","_law_other"] ["_law_one","_law_other"] rfl D λnd b hr=>⟨_,(gL (iY 0 nd (iq oz sY (by rfl) B.abs sP 'x')) (gL (iY 1 nd (iq oz sY (by rfl) B.abs sP 'x')) (gL (zJ (λa=>match a with|_::some (.p (.int j))::_=>j.natAbs+1|_=>0) PassesOwn.never (iO wu vW (gR 1) iz) (gU (P8 (i:=0) (j:=1) rfl nd rfl rfl (by decide) rfl rfl 'x' (by rfl)))) 'x')))⟩
theorem XB(D:gX K mg "_law_same" (iX 81)):CP Z "_law_same" 1 (kQ c):=jQ Z 0 (kQ c) ["_law_one","_law_other","_law_k","_law_j"] ["_law_one","_law_other"] rfl D λnd a hr=>⟨_,(gL (qI PassesOwn.never rfl (lI B.range (gQ (iq (jc (K:=K)) ka (by rfl) B.len kb 'x') ij)) (ja 2 nd) (gU (qI PassesOwn.never rfl (lI B.range 'x') (ja 3 nd) 'x'))) 'x')⟩
theorem WQ(D:gX K mg "_law_side" (iX 84)):CP Z "_law_side" 1 (lG c):=jQ Z 0 (lG c) ["_law_cut_here","_law_spot","_law_top","_law_bottom","_law_number","_law_part"] ["_law_cut_here","_law_spot"] rfl D λnd a hr=>⟨_,(gL 'x' (gL (iY 3 nd iz) (gL (jN PassesOwn.never rfl (mB B.zip 'x') (pL 2 rfl (jf (ja 4 nd) (jf (ja 5 nd) mh))) 'x') (gU (jb (CS (jq ue yD (by rfl) B.int uP (gQ (qr wu vW (gR 2) iz) ij)) (jq ue yD (by rfl) B.int uP (gQ (qr vh v7 (gR 2) iz) ij))))))))⟩
theorem WN(D:gX K mg "_law_none" (iX 86)):CP Z "_law_none" 1 (mU c):=jQ Z 0 (mU c) ["_law_cuts_here","_law_dims","_law_signs","_law_weights","_law_weight","_law_sign","_law_totals","_law_pushing"] ["_law_cuts_here","_law_dims","_law_signs","_law_weights"] rfl D λnd a hr=>⟨_,(gL (jN PassesOwn.never rfl (mB B.zip 'x') (pL 2 rfl (jf (ja 4 nd) (jf (ja 5 nd) mh))) (gU (iR (iO vh v7 'x' iz) 'x' iw))) (gL (qE ["_law_k","_law_weights","_law_cuts_here"] [none,some 3,some 0] 6 nd a (xw.pim (lI B.range 'x')) (λnd a=>⟨(i8 0 nd),iZ,(iq (xu (K:=K) rfl) FP (by rfl) B.sum Fg (gQ (jA (jz ["_law_weight","_law_cut_here","_law_k"] [none,none,some 0] a (mB B.zip 'x') (λnd a=>⟨(mV 2 rfl (iG (i8 0 nd) (iG (i8 1 nd) kj))),iZ, 'x'⟩))) ij))⟩) oG) (gL 'x' (gL (qE ["_law_weight","_law_sign"] [none,none] 7 nd a (mB B.zip 'x') (λnd a=>⟨(mV 2 rfl (iG (i8 0 nd) (iG (i8 1 nd) kj))),(lL 'x'),(gR 0)⟩) oG) (gU (jb (Ve (qr wu vW 'x' iz) (tP (uY (Ba hr 'x' iz) (tP (QX hr (gR 7) (jA (zd ij)))))))))))))⟩
theorem WS(D:gX K mg "_law_cut_at" (iX 90)):CP Z "_law_cut_at" 1 (nE c):=jQ Z 0 (nE c) ["_law_dims","_law_j","_law_place"] ["_law_dims","_law_j","_law_place"] rfl D λnd a hr=>⟨_,(gU (jb (jq (jt (K:=K)) jW (by rfl) B.tuple jx (gQ (jA (Ft (jA (jz ["_law_k","_law_place","_law_j"] [none,some 2,some 1] a (xw.pim (lI B.range 'x')) (λnd a=>⟨(i8 0 nd),iZ,(wy 'x' (jq ue yD (by rfl) B.int uP (gQ (Ba hr (gR 0) (gR 2)) ij)))⟩))) 'x')) ij))))⟩
theorem W5(D:gX K mg "lowest" (iX 15))(b:CP Z "common_divisor" 1 (jI c)):CP Z "lowest" 2 (nN c):=jQ Z 1 (nN c) ["row","divisor","number"] ["row"] rfl D λnd a hr=>⟨_,(gL (iY 1 nd iz) (gL (jN PassesOwn.never rfl (iQ (gR 0)) (ja 2 nd) 'x') (gL 'x' (gU (jb (jq (jt (K:=K)) jW (by rfl) B.tuple jx (gQ (jA (jz ["number","divisor"] [none,some 1] a (iQ (gR 0)) (λnd a=>⟨(i8 0 nd),iZ, 'x'⟩))) ij)))))))⟩
theorem XC(D:gX K mg "made" (iX 18))(b:CP Z "common_divisor" 1 (jI c)):CP Z "made" 2 (r6 c):=jQ Z 1 (r6 c) ["top","bottom","divisor"] ["top","bottom"] rfl D λnd a hr=>⟨_,(gL 'x' (gL 'x' (gL (iR (iO vh v7 (gR 1) iz) 'x' iw) 'x')))⟩
theorem WW(D:gX K mg "is_signs" (iX 35))(b:CP Z "is_whole" 1 (iT c)):CP Z "is_signs" 2 (pG c):=jQ Z 1 (pG c) ["many","thing"] ["many","thing"] rfl D λnd a hr=>⟨_,(gL (iR (pW (mF (mP (pO (ml "tuple" (by decide) B.isinstance B.tuple jx (gR 1)))) (lY (rB hr (iq (jc (K:=K)) ka (by rfl) B.len kb 'x') (gR 0))))) 'x' iw) (gU (jb (iq (pk (K:=K) rfl) wJ (by rfl) B.all w6 (gQ (jA (jz ["sign"] [none] a (iQ (gR 1)) (λnd a=>⟨(i8 0 nd),iZ,(uY 'x' (tP (DT zm zN zm zN (Gj iz) (gR 0) iz)))⟩))) ij)))))⟩
theorem W6(D:gX K mg "whole_between" (iX 41))(a:CP Z "floor_of" 1 (mm c))(d:CP Z "less" 1 (lT c))(e:CP Z "ceiling_of" 1 (lJ c)):CP Z "whole_between" 2 (kC c):=jQ Z 1 (kC c) ["low","high","whole"] ["low","high"] rfl D λnd b hr=>⟨_,(gL (iY 2 nd iz) (gL (iR (pW (oj (iO rN rD (gR 0) mR) (nK (iO Du Dt 'x' iz)))) 'x' (gU (iR (pW (oj (iO rN rD (gR 1) mR) (nK (iO zm zN 'x' iz)))) 'x' iw))) (gL (iR (pW (oj (iO rN rD (gR 0) mR) (nK 'x'))) 'x' iw) (gL (iR (pW (oj (iO rN rD (gR 1) mR) (nK 'x'))) 'x' iw) 'x'))))⟩
theorem Xv(D:gX K mg "paper_of_noughts" (iX 44))(a:CP Z "turned" 1 (nr c))(d:CP Z "sign_of" 1 (kD c)):CP Z "paper_of_noughts" 2 (jH c):=jQ Z 1 (jH c) ["rests","dims","rest"] ["rests","dims"] rfl D λnd b hr=>⟨_,(gL (jN PassesOwn.never rfl (iQ (gR 0)) (ja 2 nd) (gU (iR 'x' (gU (jb (jA (nV (mY (K:=K)) pB (by rfl) B.list mQ 'x')))) iw))) 'x')⟩
theorem Xu(D:gX K mg "left_at" (iX 48))(b:CP Z "dot" 1 (vJ c)):CP Z "left_at" 2 (lu c):=jQ Z 1 (lu c) ["cut","point"] ["cut","point"] rfl D λnd a hr=>⟨_, 'x'⟩
theorem W9(D:gX K mg "land_rows" (iX 58))(e:CP Z "turned" 1 (nr c))(d:CF Z "weighted" 1 (m9 c))(a:lU P w K mg base c.Cutting "cuts" 1 (Dw K (jD c))):CF Z "land_rows" 2 (nj c):=q8 Z 1 (nj c) ["cutting","signs"] ["cutting","signs"] rfl D λnd b hr=>⟨_,(gU (nH (jz ["row","sign"] [none,none] b (mB B.zip (gQ (jA (rW d hr (gQ (jA (E7 a hr (gR 0))) ij))) 'x')) (λnd b=>⟨(mV 2 rfl (iG (i8 0 nd) (iG (i8 1 nd) kj))),iZ, 'x'⟩))))⟩
theorem WX(D:gX K mg "is_dims" (iX 65))(b:CP Z "is_whole" 1 (iT c)):CP Z "is_dims" 2 (ph c):=jQ Z 1 (ph c) ["thing"] ["thing"] rfl D λnd a hr=>⟨_,(gU (jb (uY 'x' (tP (DT zm zN zm zN iz (gR 0) (Ed 3 ER.k_MOST_DIMS))))))⟩
theorem Xn(D:gX K mg "is_cut" (iX 67))(b:CP Z "is_whole" 1 (iT c)):CP Z "is_cut" 2 (qQ c):=jQ Z 1 (qQ c) ["dims","thing"] ["dims","thing"] rfl D λnd a hr=>⟨_,(gL (iR (pW (mF (mP (pO (ml "tuple" (by decide) B.isinstance B.tuple jx (gR 1)))) (lY (rB hr (iq (jc (K:=K)) ka (by rfl) B.len kb 'x') 'x')))) 'x' iw) (gL (iR (mP (pO (iq (pk (K:=K) rfl) wJ (by rfl) B.all w6 (gQ (jA (jz ["number"] [none] a (iQ (gR 1)) (λnd a=>⟨(i8 0 nd),iZ, 'x'⟩))) ij)))) 'x' iw) (gU (jb (iq (tW (K:=K) rfl) Ct (by rfl) B.any Cf (gQ (jA (jz ["number"] [none] a (iQ 'x') (λnd a=>⟨(i8 0 nd),iZ,(QX hr (gR 0) iz)⟩))) ij))))))⟩
theorem Xw(D:gX K mg "same_spots" (iX 69))(b:CP Z "first_place" 1 (mM c)):CP Z "same_spots" 2 (nC c):=jQ Z 1 (nC c) ["one","other","place"] ["one","other"] rfl D λnd a hr=>⟨_,(gL 'x' (gU (jb (iq (pk (K:=K) rfl) wJ (by rfl) B.all w6 (gQ (jA (jz ["mine","theirs","other","place","one"] [none,none,some 1,some 2,some 0] a (mB B.zip 'x') (λnd a=>⟨(mV 2 rfl (iG (i8 0 nd) (iG (i8 1 nd) kj))),iZ,(Ba hr 'x' 'x')⟩))) ij)))))⟩
theorem XY(D:gX K mg "_law_lowest" (iX 79))(a:CP Z "_law_common" 1 (kK c)):CP Z "_law_lowest" 2 (kG c):=jQ Z 1 (kG c) ["_law_top","_law_bottom","_law_share"] ["_law_top","_law_bottom"] rfl D λnd b hr=>⟨_, 'x'⟩
theorem Xy(D:gX K mg "_law_is_fraction" (iX 80))(b:CP Z "_law_whole" 1 (iT c))(a:CP Z "_law_common" 1 (kK c)):CP Z "_law_is_fraction" 2 (jM c):=jQ Z 1 (jM c) ["_law_found"] ["_law_found"] rfl D λnd d hr=>⟨_,(gL (iR (pW (mF (mP (pO (ml "tuple" (by decide) B.isinstance B.tuple jx (gR 0)))) (mF (rB hr (iq (jc (K:=K)) ka (by rfl) B.len kb 'x') iz) (mF 'x' (lY 'x'))))) 'x' iw) (gU (jb (uY (qr wu vW 'x' iz) (tP (Ba hr 'x' iz))))))⟩
theorem XD(D:gX K mg "_law_cut" (iX 82))(b:CP Z "_law_draw" 1 (iC c)):CP Z "_law_cut" 2 (oZ c):=jQ Z 1 (oZ c) ["_law_cell","_law_dims","_law_ahead","_law_numbers_here","_law_c","_law_way","_law_far"] ["_law_cell","_law_dims","_law_ahead"] rfl D λnd a hr=>⟨_,(gL (qE ["_law_j","_law_cell"] [none,some 0] 3 nd a (xw.pim (lI B.range 'x')) (λnd a=>⟨(i8 0 nd),iZ, 'x'⟩) GZ) (gL (iR 'x' (gU (yp 3 (pv 3) 'x' 'x')) iw) (gL 'x' (gL 'x' (gL (iR 'x' (gU (qT 3 nd (nV (mY (K:=K)) pB (by rfl) B.list mQ (gQ (DD (Dr (gR 2) (jL b hr (gQ (gR 0) (gQ iz (gQ (iq (jc (K:=K)) ka (by rfl) B.len kb 'x') ij))))) Np (Lf (gR 1))) ij)))) iw) (gL (iR 'x' (gU (yR 4 nd (iq (xu (K:=K) rfl) FP (by rfl) B.sum Fg (gQ (jA (jz ["_law_number","_law_part"] [none,none] a (mB B.zip 'x') (λnd a=>⟨(mV 2 rfl (iG (i8 0 nd) (iG (i8 1 nd) kj))),iZ, 'x'⟩))) ij)))) iw) (gL (iR 'x' (gL (iY 6 nd (wy (qG iz (jL b hr (gQ (gR 0) (gQ iz (gQ (uW iz iz) ij))))) (Dr (jA (zd (gQ iz (gQ iz (gQ (uW iz iz) ij))))) 'x'))) (gL (qE ["_law_number","_law_far"] [none,some 6] 3 nd a (iQ (gR 3)) (λnd a=>⟨(i8 0 nd),iZ, 'x'⟩) OB) 'x')) iw) (gU (jb (jq (jt (K:=K)) jW (by rfl) B.tuple jx 'x'))))))))))⟩
theorem WH(D:gX K mg "_law_numbers" (iX 87))(b:CP Z "_law_whole" 1 (iT c)):CP Z "_law_numbers" 2 (kR c):=jQ Z 1 (kR c) ["_law_found","_law_many"] ["_law_found","_law_many"] rfl D λnd a hr=>⟨_,(gL (iR (pW (mF (mP (pO (ml "list" (by decide) B.isinstance B.list mQ (gR 0)))) (lY (rB hr (iq (jc (K:=K)) ka (by rfl) B.len kb 'x') (gR 1))))) 'x' iw) (gU (jb (iq (pk (K:=K) rfl) wJ (by rfl) B.all w6 (gQ (jA (jz ["_law_one"] [none] a (iQ (gR 0)) (λnd a=>⟨(i8 0 nd),iZ, 'x'⟩))) ij)))))⟩
theorem WV(D:gX K mg "cleared" (iX 16))(a:CP Z "lowest" 2 (nN c))(d:CP Z "sign_of" 1 (kD c)):CP Z "cleared" 3 (jr c):=jQ Z 2 (jr c) ["row","other","place","often","other_often"] ["row","other","place"] rfl D λnd b hr=>⟨_,(gL 'x' (gL (iY 3 nd (iq oz sY (by rfl) B.abs sP 'x')) (gL 'x' (gU (jb (jL a hr (gQ (jq (jt (K:=K)) jW (by rfl) B.tuple jx (gQ (jA (jz ["mine","theirs","often","other_often"] [none,none,some 3,some 4] b (mB B.zip 'x') (λnd b=>⟨(mV 2 rfl (iG (i8 0 nd) (iG (i8 1 nd) kj))),iZ, 'x'⟩))) ij)) ij)))))))⟩
theorem XW(D:gX K mg "minus" (iX 20))(a:CP Z "made" 2 (r6 c)):CP Z "minus" 3 (vx c):=jQ Z 2 (vx c) ["one","other"] ["one","other"] rfl D λnd b hr=>⟨_, 'x'⟩
theorem XN(D:gX K mg "times" (iX 21))(a:CP Z "made" 2 (r6 c)):CP Z "times" 3 (vN c):=jQ Z 2 (vN c) ["one","other"] ["one","other"] rfl D λnd b hr=>⟨_, 'x'⟩
theorem XX(D:gX K mg "over" (iX 22))(a:CP Z "made" 2 (r6 c)):CP Z "over" 3 (sI c):=jQ Z 2 (sI c) ["one","other"] ["one","other"] rfl D λnd b hr=>⟨_, 'x'⟩
theorem W8(D:gX K mg "check_signs" (iX 36))(b:CP Z "is_signs" 2 (pG c))(a:lU P w K mg base c.Cutting "many" 1 (yc K (k9 c))):CP Z "check_signs" 3 (kM c):=jQ Z 2 (kM c) ["cutting","thing"] ["cutting","thing"] rfl D λnd d hr=>⟨_,(gU (iR (mP (pO (jL b hr (gQ (C2 a hr (gR 0)) 'x')))) (gU yz) iw))⟩
theorem XI(D:gX K mg "one_between" (iX 42))(d:CP Z "whole_between" 2 (kC c))(f:CP Z "floor_of" 1 (mm c)):CP Z "one_between" 3 (kS c):=jQ Z 2 (kS c) ["low","high","floors","whole","floor","rest","over_rest","found"] ["low","high"] rfl D λnd g hr=>⟨_,(gL (iR (pW (oj (iO rN rD (gR 0) mR) (nK 'x'))) 'x' iw) (gL 'x' (gL 'x' (gL (zJ (λe=>match e with|some (.p (.tup [_,.int a]))::some (.p (.tup [_,.int b]))::_=>a.natAbs+b.natAbs+2|_=>1) PassesOwn.never (iO Ao zW (gR 3) mR) (gL 'x' (gL (pF 2 (pv 2) (gR 4)) (gL 'x' (gL (iY 6 nd (Q8 'x' mR 'x')) 'x'))))) (gL 'x' (gL (TM 2 (jN PassesOwn.never rfl (HP B.reversed 'x') (ja 4 nd) 'x')) 'x'))))))⟩
theorem Xj(D:gX K mg "point_off" (iX 49))(a:CP Z "lowest" 2 (nN c))(e:CP Z "dot" 1 (vJ c))(d:CP Z "left_at" 2 (lu c)):CP Z "point_off" 3 (lD c):=jQ Z 2 (lD c) ["ahead","cut","point","sign","often","other","step","parts"] ["ahead","cut","point","sign"] rfl D λnd b hr=>⟨_,(gL (iY 4 nd iz) (gL (jN PassesOwn.never rfl (iQ (gR 0)) (ja 5 nd) (gL (iY 6 nd (iq oz sY (by rfl) B.abs sP 'x')) (gU (iY 4 nd (iq (Jf rfl) Ou (by rfl) B.max R3 (gQ (gR 4) (gQ (qG (HQ (gR 6) (iq oz sY (by rfl) B.abs sP 'x')) iz) ij))))))) (gL (qE ["part","number","often","sign"] [none,none,some 4,some 3] 7 nd b (mB B.zip 'x') (λnd b=>⟨(mV 2 rfl (iG (i8 0 nd) (iG (i8 1 nd) kj))),iZ, 'x'⟩) oG) (gU (jb (jL a hr (gQ (qG (jq (jt (K:=K)) jW (by rfl) B.tuple jx 'x') 'x') ij)))))))⟩
theorem Xp(D:gX K mg "point_on" (iX 51))(d:CP Z "lowest" 2 (nN c))(e:CP Z "left_at" 2 (lu c))(f:CP Z "sign_of" 1 (kD c))(b:CP Z "without_place" 1 (jR c)):CP Z "point_on" 3 (ng c):=jQ Z 2 (ng c) ["cut","place","point","often","part","others"] ["cut","place","point"] rfl D λnd a hr=>⟨_,(gL (iY 3 nd (iq oz sY (by rfl) B.abs sP 'x')) (gL 'x' (gL (iY 5 nd (jq (jt (K:=K)) jW (by rfl) B.tuple jx (gQ (jA (jz ["number","often"] [none,some 3] a (iQ (gR 2)) (λnd a=>⟨(i8 0 nd),iZ, 'x'⟩))) ij))) 'x')))⟩
theorem XH(D:gX K mg "can_stand" (iX 71))(d:CP Z "is_cut" 2 (qQ c))(b:CP Z "same_spots" 2 (nC c)):CP Z "can_stand" 3 (nh c):=jQ Z 2 (nh c) ["dims","ahead","thing"] ["dims","ahead","thing"] rfl D λnd a hr=>⟨_,(gL (iR (pW (mF (iO Du Dt (iq (jc (K:=K)) ka (by rfl) B.len kb 'x') (Ed 7 ER.k_MOST_CUTS)) (lY 'x'))) 'x' iw) (gU (jb (zX (iq (tW (K:=K) rfl) Ct (by rfl) B.any Cf (gQ (jA (jz ["cut","thing"] [none,some 2] a (iQ (gR 1)) (λnd a=>⟨(i8 0 nd),iZ, 'x'⟩))) ij))))))⟩
theorem W0(D:gX K mg "_law_cuts" (iX 83))(d:CP Z "_law_cut" 2 (oZ c))(b:CP Z "_law_cell_at" 1 (iM c))(e:CP Z "_law_same" 1 (kQ c)):CF Z "_law_cuts" 3 (m8 c):=q8 Z 2 (m8 c) ["_law_script","_law_at","_law_dims","_law_many","_law_found","_law_k","_law_cut_here"] ["_law_script","_law_at","_law_dims","_law_many"] rfl D λnd a hr=>⟨_,(gL 'x' (gL (qI PassesOwn.never rfl (lI B.range 'x') (ja 5 nd) (gL 'x' (gU (iR (F7 hr (jA (jz ["_law_other","_law_cut_here"] [none,some 6] a (iQ (gR 4)) (λnd a=>⟨(i8 0 nd),(lL 'x'),(gR 0)⟩))) (jA (zd ij))) (gU (pF 4 (pv 4) (gR 6))) iw)))) (gU (sZ 4 (pv 4)))))⟩
theorem Xo(D:gX K mg "_law_is_spot" (iX 85))(b:CP Z "_law_is_fraction" 2 (jM c)):CP Z "_law_is_spot" 3 (kf c):=jQ Z 2 (kf c) ["_law_found","_law_dims"] ["_law_found","_law_dims"] rfl D λnd a hr=>⟨_,(gL (iR (pW (mF (mP (pO (ml "tuple" (by decide) B.isinstance B.tuple jx (gR 0)))) (lY (rB hr (iq (jc (K:=K)) ka (by rfl) B.len kb 'x') (gR 1))))) 'x' iw) (gU (jb (iq (pk (K:=K) rfl) wJ (by rfl) B.all w6 (gQ (jA (jz ["_law_part"] [none] a (iQ (gR 0)) (λnd a=>⟨(i8 0 nd),iZ, 'x'⟩))) ij)))))⟩
theorem XE(D:gX K mg "settled" (iX 28))(a:CP Z "cleared" 3 (jr c)):CP Z "settled" 4 (mx c):=jQ Z 3 (mx c) ["row","pivots","place","pivot"] ["row","pivots"] rfl D λnd b hr=>⟨_,(gL (jN PassesOwn.never rfl (iQ (gR 1)) (pL 2 rfl (jf (ja 2 nd) (jf (ja 3 nd) mh))) 'x') 'x')⟩
theorem Xi(D:gX K mg "with_pivot" (iX 29))(b:CP Z "cleared" 3 (jr c)):CF Z "with_pivot" 4 (mz c):=q8 Z 3 (mz c) ["pivots","row","place"] ["pivots","row","place"] rfl D λnd a hr=>⟨_,(gU (nH (Ft (jA (jz ["other_place","pivot","row","place"] [none,none,some 1,some 2] a (iQ (gR 0)) (λnd a=>⟨(mV 2 rfl (iG (i8 0 nd) (iG (i8 1 nd) kj))),iZ, 'x'⟩))) 'x')))⟩
theorem WO(D:gX K mg "left_for" (iX 32))(a:CP Z "minus" 3 (vx c))(b:CP Z "times" 3 (vN c)):CP Z "left_for" 4 (l5 c):=jQ Z 3 (l5 c) ["row","parts","left","number","part"] ["row","parts"] rfl D λnd d hr=>⟨_,(gL (iY 2 nd (qD (gQ (Dr (gR 0) (iq (jc (K:=K)) ka (by rfl) B.len kb 'x')) 'x'))) (gL (jN PassesOwn.never rfl (mB B.zip 'x') (pL 2 rfl (jf (ja 3 nd) (jf (ja 4 nd) mh))) 'x') 'x'))⟩
theorem WU(D:gX K mg "shadow" (iX 38))(b:CP Z "cleared" 3 (jr c)):CF Z "shadow" 4 (tF c):=q8 Z 3 (tF c) ["rows","dims","place","most","told","row","one","other","joined"] ["rows","dims","place","most"] rfl D λnd a hr=>⟨_,(gL (KD 4 nd) (gL (jN PassesOwn.never rfl (iQ (gR 0)) (ja 5 nd) (gU (iR 'x' (gU (Dq 4 hr (pv 4) (gR 5) zZ)) iw))) (gL (jN PassesOwn.never rfl (iQ (jA (jz ["row","place"] [none,some 2] a (iQ (gR 0)) (λnd a=>⟨(i8 0 nd),(lL (iO wu vW 'x' iz)),(gR 0)⟩)))) (ja 6 nd) (gU (jN PassesOwn.never rfl (iQ (jA (jz ["row","place"] [none,some 2] a (iQ (gR 0)) (λnd a=>⟨(i8 0 nd),(lL (iO vh v7 'x' iz)),(gR 0)⟩)))) (ja 7 nd) (gL 'x' (gU (iR (iO zm zN (iq (jc (K:=K)) ka (by rfl) B.len kb (gQ (jA (jz ["weight"] [none] a (iQ 'x') (λnd a=>⟨(i8 0 nd),(lL 'x'),(gR 0)⟩))) ij)) (gR 3)) (gU (Dq 4 hr (pv 4) (gR 8) zZ)) iw)))))) (gU (LM 4 rfl B.list (pv 4))))))⟩
theorem XM(D:gX K mg "checked_cuts" (iX 72))(b:CP Z "is_dims" 2 (ph c))(a:CP Z "can_stand" 3 (nh c)):CP Z "checked_cuts" 4 (lx c):=jQ Z 3 (lx c) ["dims","things","ahead","thing"] ["dims","things"] rfl D λnd d hr=>⟨_,(gL (iR (pW (mF 'x' (lY (mP (pO (ml "list" (by decide) B.isinstance B.list mQ (gR 1))))))) (gU yz) iw) (gL 'x' (gL (jN PassesOwn.never rfl (iQ (gR 1)) (ja 3 nd) (gL 'x' (gU (pF 2 (pv 2) (jq (jt (K:=K)) jW (by rfl) B.tuple jx 'x'))))) (gU (jb (jq (jt (K:=K)) jW (by rfl) B.tuple jx 'x'))))))⟩
theorem XG(D:gX K mg "_law_drawn" (iX 89))(a:CP Z "_law_cell_at" 1 (iM c))(d:CP Z "_law_draw" 1 (iC c))(b:CF Z "_law_cuts" 3 (m8 c)):CP Z "_law_drawn" 4 (lR c):=jQ Z 3 (lR c) ["_law_script","_law_at","_law_most","_law_cell","_law_dims","_law_many"] ["_law_script","_law_at","_law_most"] rfl D λnd e hr=>⟨_,(gL 'x' (gL 'x' (gL 'x' (gL (iR 'x' (gU (iY 5 nd (iq (Jy rfl) OC (by rfl) B.min Tw 'x'))) iw) 'x'))))⟩
theorem Xf(D:gX K mg "_law_one_land" (iX 94))(e:CF Z "_law_cuts" 3 (m8 c))(b:CP Z "_law_draw" 1 (iC c))(d:CP Z "_law_cell_at" 1 (iM c))(f:CP Z "_law_lowest" 2 (kG c))(g:CP Z "_law_side" 1 (lG c)):CP Z "_law_one_land" 4 (lg c):=jQ Z 3 (lg c) ["_law_script","_law_dims","_law_cuts_here","_law_top","_law_signs","_law_place"] ["_law_script"] rfl D λnd a hr=>⟨_,(gL 'x' (gL 'x' (gL (iY 3 nd (qG iz (jL b hr (gQ 'x' (gQ iz (gQ (uW iz iz) ij)))))) (gL 'x' (gL (zJ (λ_=>400) PassesOwn.never (iO (Mu (K:=K)) (Kl false) iz (gR 4) (by rfl)) (gL 'x' (gL (iY 5 nd (jq (jt (K:=K)) jW (by rfl) B.tuple jx (gQ (jA (jz ["_law_j","_law_top"] [none,some 3] a (xw.pim (lI B.range 'x')) (λnd a=>⟨(i8 0 nd),iZ, 'x'⟩))) ij))) (gU (iY 4 nd (jq (jt (K:=K)) jW (by rfl) B.tuple jx (gQ (jA (jz ["_law_cut_here","_law_place"] [none,some 5] a (iQ (gR 2)) (λnd a=>⟨(i8 0 nd),iZ, 'x'⟩))) ij))))))) 'x')))))⟩
theorem XR(D:gX K mg "pivots_and_rests" (iX 30))(b:CP Z "settled" 4 (mx c))(d:CF Z "with_pivot" 4 (mz c)):CP Z "pivots_and_rests" 5 (ki c):=jQ Z 4 (ki c) ["rows","dims","pivots","rests","row","left","places"] ["rows","dims"] rfl D λnd a hr=>⟨_,(gL 'x' (gL 'x' (gL (jN PassesOwn.never rfl (iQ (gR 0)) (ja 4 nd) (gL 'x' (gL (qE ["place","left"] [none,some 5] 6 nd a (xw.pim (lI B.range 'x')) (λnd a=>⟨(i8 0 nd),(lL 'x'),(gR 0)⟩) oG) (gU (iR 'x' (gU (pF 3 (pv 3) (gR 5))) 'x'))))) 'x')))⟩
theorem Xr(D:gX K mg "filled" (iX 33))(a:CP Z "over" 3 (sI c))(b:CP Z "left_for" 4 (l5 c)):CP Z "filled" 5 (sG c):=jQ Z 4 (sG c) ["pivots","parts","spot","place","pivot"] ["pivots","parts"] rfl D λnd d hr=>⟨_,(gL (qT 2 nd (nV (mY (K:=K)) pB (by rfl) B.list mQ 'x')) (gL (jN PassesOwn.never rfl (iQ (gR 0)) (pL 2 rfl (jf (ja 3 nd) (jf (ja 4 nd) mh))) (gU (yp 2 (pv 2) (gR 3) 'x'))) (gU (jb (jq (jt (K:=K)) jW (by rfl) B.tuple jx 'x')))))⟩
theorem W1(D:gX K mg "shadows" (iX 39))(a:CF Z "shadow" 4 (tF c)):CF Z "shadows" 5 (og c):=q8 Z 4 (og c) ["rows","dims","places","pivots","layers","place","most"] ["rows","dims","places","pivots"] rfl D λnd b hr=>⟨_,(gL 'x' (gL (jN PassesOwn.never rfl (iQ (gR 2)) (ja 5 nd) (gL (yR 6 nd (qG (qG (iq (jc (K:=K)) ka (by rfl) B.len kb 'x') iz) (iq (jc (K:=K)) ka (by rfl) B.len kb 'x'))) (gU (Jg 4 (pv 4) 'x')))) (gU (sZ 4 (pv 4)))))⟩
theorem Xx(D:gX K mg "ends_at" (iX 40))(a:CP Z "over" 3 (sI c))(b:CP Z "left_for" 4 (l5 c))(e:CP Z "less" 1 (lT c)):CP Z "ends_at" 5 (ni c):=jQ Z 4 (ni c) ["rows","place","parts","low","high","row","end"] ["rows","place","parts"] rfl D λnd d hr=>⟨_,(gL (iY 3 nd mR) (gL (iY 4 nd mR) (gL (jN PassesOwn.never rfl (iQ (gR 0)) (ja 5 nd) (gU (iR 'x' (gL 'x' (gL (iR (pW (oj (iO wu vW 'x' iz) (nK (pW (mF (iO Ao zW (gR 3) mR) (lY 'x')))))) 'x' iw) (gU (iR (pW (oj (iO vh v7 'x' iz) (nK (pW (mF (iO Ao zW (gR 4) mR) (lY 'x')))))) 'x' iw)))) iw))) 'x')))⟩
theorem XF(D:mJ K c.Cutting "__init__" "Cutting.__init__" (qi (iX 73) 0))(a:CP Z "checked_cuts" 4 (lx c)):DW P w K mg base "Cutting" c.Cutting 5 (C7 K c.Cutting (jg c)):=Wf Z 4 (jg c) ["self","dims","cuts"] rfl ER.cl_Cutting ER.na_Cutting_own_cuts ER.na_Cutting_own_dims ER.mk_Cutting ER.kp_Cutting ER.mg_Cutting D λhr=>Wl rfl (pv 0) (jL a hr (gQ (gR 1) (gQ (gR 2) ij))) (pv 0) (gR 1)
theorem WI(D:gX K mg "parts_within" (iX 43))(a:CP Z "ends_at" 5 (ni c))(b:CP Z "one_between" 3 (kS c)):CF Z "parts_within" 6 (kY c):=q8 Z 5 (kY c) ["layers","places","parts","chosen","number","place","ends"] ["layers","places","parts"] rfl D λnd d hr=>⟨_,(gL (qT 3 nd (nV (mY (K:=K)) pB (by rfl) B.list mQ 'x')) (gL (jN PassesOwn.never rfl (HP B.reversed (gQ (jA (UZ rfl B.list B.enumerate 'x')) ij)) (pL 2 rfl (jf (ja 4 nd) (jf (ja 5 nd) mh))) (gL 'x' (gU (yp 3 (pv 3) (gR 5) 'x')))) (gU (sZ 3 (pv 3)))))⟩
theorem W3(D:gX K mg "layers_down_to" (iX 60))(a:CF Z "shadows" 5 (og c))(b:CF Z "other_places" 1 (lZ c)):CP Z "layers_down_to" 6 (lB c):=jQ Z 5 (lB c) ["rows","dims","place"] ["rows","dims","place"] rfl D λnd d hr=>⟨_, 'x'⟩
theorem Xh(D:gX K mg "parts_or_weights" (iX 45))(j:CF Z "weighted" 1 (m9 c))(b:CP Z "pivots_and_rests" 5 (ki c))(h:CP Z "paper_of_noughts" 2 (jH c))(k:CF Z "free_places" 1 (lO c))(e:CF Z "shadows" 5 (og c))(d:CP Z "settled" 4 (mx c))(f:CP Z "filled" 5 (sG c))(i:CP Z "turned" 1 (nr c))(g:CF Z "parts_within" 6 (kY c)):CP Z "parts_or_weights" 7 (jG c):=jQ Z 6 (jG c) ["cuts","dims","signs","rows","found","paper","pivots","sided","places","layers","row"] ["cuts","dims","signs"] rfl D λnd a hr=>⟨_,(gL 'x' (gL (iY 4 nd (jL b hr (gQ (jA (jz ["row","sign"] [none,none] a (mB B.zip 'x') (λnd a=>⟨(mV 2 rfl (iG (i8 0 nd) (iG (i8 1 nd) kj))),(lL 'x'),(gR 0)⟩))) 'x'))) (gL 'x' (gL (iR (iO rN rD (gR 5) mR) 'x' iw) (gL 'x' (gL (qE ["row","sign","pivots"] [none,none,some 6] 7 nd a (mB B.zip 'x') (λnd a=>⟨(mV 2 rfl (iG (i8 0 nd) (iG (i8 1 nd) kj))),(lL 'x'), 'x'⟩) oG) (gL 'x' (gL 'x' (gL (jN PassesOwn.never rfl (iQ 'x') (ja 10 nd) (gU (iR (iO Du Dt 'x' iz) (gU (jb (qD (gQ Lm (gQ (jA (nV (mY (K:=K)) pB (by rfl) B.list mQ 'x')) ij))))) iw))) 'x')))))))))⟩
theorem XU(D:gX K mg "held" (iX 46))(e:CP Z "check_signs" 3 (kM c))(d:CP Z "parts_or_weights" 7 (jG c))(a:lU P w K mg base c.Cutting "cuts" 1 (Dw K (jD c)))(b:lU P w K mg base c.Cutting "dims" 1 (yc K (jC c))):CP Z "held" 8 (n6 c):=jQ Z 7 (n6 c) ["cutting","signs"] ["cutting","signs"] rfl D λnd f hr=>⟨_,(gL 'x' (gU (jb (jL d hr (gQ (jA (E7 a hr (gR 0))) (gQ (C2 b hr (gR 0)) 'x'))))))⟩
theorem Xd(D:gX K mg "check_land" (iX 56))(b:CP Z "check_signs" 3 (kM c))(a:CP Z "held" 8 (n6 c)):CP Z "check_land" 9 (nL c):=jQ Z 8 (nL c) ["cutting","signs"] ["cutting","signs"] rfl D λnd d hr=>⟨_,(gL 'x' (gU (iR (pW (mF (iO (Mu (K:=K)) (Kl false) iz (gR 1) (by rfl)) (lY 'x'))) (gU yz) iw)))⟩
theorem XJ(D:gX K mg "_law_held" (iX 88))(d:CP Z "held" 8 (n6 c))(e:CP Z "_law_is_spot" 3 (kf c))(a:CP Z "_law_numbers" 2 (kR c))(g:CP Z "_law_none" 1 (mU c))(f:CP Z "_law_side" 1 (lG c)):CP Z "_law_held" 9 (lF c):=jQ Z 8 (lF c) ["_law_cutting","_law_cuts_here","_law_dims","_law_signs","_law_found"] ["_law_cutting","_law_cuts_here","_law_dims","_law_signs"] rfl D λnd b hr=>⟨_,(gL 'x' (gL (iR (pW (mF (mP (pO (ml "tuple" (by decide) B.isinstance B.tuple jx (gR 4)))) (lY (rB hr (iq (jc (K:=K)) ka (by rfl) B.len kb 'x') iz)))) 'x' iw) (gL (iR 'x' (gU (iR (F7 hr (jq (jt (K:=K)) jW (by rfl) B.tuple jx (gQ (jA (jz ["_law_cut_here","_law_found"] [none,some 4] b (iQ (gR 1)) (λnd b=>⟨(i8 0 nd),iZ, 'x'⟩))) ij)) (gR 3)) 'x' iw)) iw) (gL (iR (pW (oj 'x' (oj (pO (jL a hr (gQ 'x' (gQ (iq (jc (K:=K)) ka (by rfl) B.len kb 'x') ij)))) (nK 'x')))) 'x' iw) 'x'))))⟩
theorem Xt(D:gX K mg "box" (iX 61))(f:CP Z "check_land" 9 (nL c))(a:lU P w K mg base c.Cutting "dims" 1 (yc K (jC c)))(g:CF Z "land_rows" 2 (nj c))(d:CP Z "ends_at" 5 (ni c))(e:CP Z "layers_down_to" 6 (lB c)):CF Z "box" 10 (zq c):=q8 Z 9 (zq c) ["cutting","signs","dims","rows","noughts"] ["cutting","signs"] rfl D λnd b hr=>⟨_,(gL 'x' (gL (iY 2 nd (C2 a hr (gR 0))) (gL 'x' (gL 'x' (gU (nH (jz ["place","noughts","rows","dims"] [none,some 4,some 3,some 2] b (xw.pim (lI B.range 'x')) (λnd b=>⟨(i8 0 nd),iZ, 'x'⟩))))))))⟩
theorem Xm(D:gX K mg "_law_beyond" (iX 91))(e:CP Z "_law_cut_at" 1 (nE c))(a:CP Z "_law_held" 9 (lF c))(f:CP Z "_law_same" 1 (kQ c))(b:DW P w K mg base "Cutting" c.Cutting 5 (C7 K c.Cutting (jg c))):CP Z "_law_beyond" 10 (j9 c):=jQ (hb:=λ_ _ _ _ _ _ _ _ _ _ _ _=>rfl) Z 9 (j9 c) ["_law_dims","_law_cuts_here","_law_signs","_law_j","_law_place","_law_sign","_law_cut_here","_law_k","_law_other_way","_law_more"] ["_law_dims","_law_cuts_here","_law_signs","_law_j","_law_place","_law_sign"] rfl D λnd d hr=>⟨_,(gL 'x' (gL (qI PassesOwn.never rfl (lI B.range (gQ (iq (jc (K:=K)) ka (by rfl) B.len kb 'x') ij)) (ja 7 nd) (gU (iR 'x' (gL (iY 8 nd (qr wu vW (Dr (jA (jz ["_law_number"] [none] d (iQ 'x') (λnd d=>⟨(i8 0 nd),(lL 'x'),(gR 0)⟩))) iz) iz)) (gU (jb (Ba hr 'x' (Q8 (pO (gR 8)) (gR 5) (Gj (gR 5))))))) iw))) (gL 'x' (gU (jb (jL a hr (gQ (Hs b hr 'x') 'x')))))))⟩
theorem XO(D:gX K mg "_law_end" (iX 92))(a:CP Z "_law_lowest" 2 (kG c))(d:CP Z "_law_is_fraction" 2 (jM c))(b:CP Z "_law_beyond" 10 (j9 c)):CP Z "_law_end" 11 (oX c):=jQ (hb:=λ_ _ _ _ _ _ _ _ _ _ _ _=>rfl) Z 10 (oX c) ["_law_dims","_law_cuts_here","_law_signs","_law_j","_law_end_here","_law_sign","_law_near"] ["_law_dims","_law_cuts_here","_law_signs","_law_j","_law_end_here","_law_sign"] rfl D λnd e hr=>⟨_,(gL (iR (iO Ao zW (gR 4) mR) (gU (jb (qr Mg J5 (jL b hr (gQ (gR 0) (gQ (gR 1) (gQ (gR 2) (gQ (gR 3) (gQ (qD (gQ (wy (gR 5) (uW iz iz)) 'x')) 'x')))))) zZ))) iw) (gL 'x' (gL (iR (iO AS Bd 'x' zZ) 'x' iw) (gL (iR (iO AS Bd 'x' zZ) 'x' iw) (gL (iY 6 nd (jL a hr (gQ (CS (wy 'x' (uW iz iz)) 'x') (gQ (wy 'x' (uW iz iz)) ij)))) (gU (jb (qr Mg J5 'x' zZ))))))))⟩
theorem Xe(D:gX K mg "_law_right" (iX 93))(b:CF Z "box" 10 (zq c))(a:DW P w K mg base "Cutting" c.Cutting 5 (C7 K c.Cutting (jg c)))(d:CP Z "_law_end" 11 (oX c)):CP Z "_law_right" 12 (lP c):=jQ Z 11 (lP c) ["_law_dims","_law_cuts_here","_law_signs","_law_found","_law_j"] ["_law_dims","_law_cuts_here","_law_signs"] rfl D λnd e hr=>⟨_,(gL (qT 3 nd (rW b hr (gQ (Hs a hr 'x') 'x'))) (gL (iR (pW (mF (mP (pO (ml "list" (by decide) B.isinstance B.list mQ (gR 3)))) (lY (rB hr (iq (jc (K:=K)) ka (by rfl) B.len kb 'x') (gR 0))))) 'x' iw) (gL (qI PassesOwn.never rfl (lI B.range 'x') (ja 4 nd) (gL (iR (pW (mF (mP (pO (ml "tuple" (by decide) B.isinstance B.tuple jx 'x'))) (lY (rB hr (iq (jc (K:=K)) ka (by rfl) B.len kb 'x') iz)))) 'x' iw) 'x')) (gL (pF 3 (pv 3) mR) (gU (jb (Ba hr (iq (jc (K:=K)) ka (by rfl) B.len kb (gQ (jA (rW b hr (gQ (Hs a hr 'x') 'x'))) ij)) (gR 0))))))))⟩
theorem WJ{k:Nat}{e:List T->M T}(D:gX K mg "crossings" (iX 52))(b:CP Z "without_place" k (jR c))(g:CP Z "cleared" k (jr c))(d:CP Z "point_on" k (ng c))(f:CP Z "cells" k e):CF Z "crossings" (k+1) (md c e):=q8 Z k (md c e) ["ahead","cut","places","place","traces"] ["ahead","cut"] rfl D λnd a hr=>⟨_,(gL (qE ["place","number"] [none,none] 2 nd a (CG B.enumerate 'x') (λnd a=>⟨(mV 2 rfl (iG (i8 0 nd) (iG (i8 1 nd) kj))),(lL 'x'),(gR 0)⟩) oG) (gL 'x' (gL 'x' (gL (qE ["other","place","cut"] [none,some 3,some 1] 4 nd a (iQ (gR 0)) (λnd a=>⟨(i8 0 nd),iZ,(jL b hr (gQ (jL g hr 'x' (aK _)) 'x') (aK _))⟩) oG) (gL (iR (pO (iq (tW (K:=K) rfl) Ct (by rfl) B.any Cf (gQ (jA (jz ["trace"] [none] a (iQ (gR 4)) (λnd a=>⟨(i8 0 nd),iZ,(zX (iq (tW (K:=K) rfl) Ct (by rfl) B.any Cf 'x'))⟩))) ij))) 'x' iw) (gU (nH (jz ["signs","point","cut","place"] [none,none,some 1,some 3] a (iQ (jL f hr (gQ (gR 4) (gQ (CS (iq (jc (K:=K)) ka (by rfl) B.len kb 'x') iz) ij)) (aK _))) (λnd a=>⟨(mV 2 rfl (iG (i8 0 nd) (iG (i8 1 nd) kj))),iZ,(qD (gQ (gR 0) (gQ (jL d hr 'x' (aK _)) ij)))⟩)))))))))⟩
theorem WZ{k:Nat}{b:List T->M T}(D:gX K mg "with_one_more" (iX 53))(a:CF Z "crossings" k (md c b))(e:CP Z "point_off" k (lD c))(f:CP Z "sign_of" k (kD c))(d:CP Z "left_at" k (lu c)):CF Z "with_one_more" (k+1) (lK c b):=q8 Z k (lK c b) ["found","ahead","cut","crossed","grown","signs","point","sign"] ["found","ahead","cut"] rfl D λnd g hr=>⟨_,(gL (iY 3 nd (jq (Fp rfl (WR hr)) Py (by rfl) B.dict PJ (gQ (jA (rW a hr 'x' (aK _))) ij))) (gL 'x' (gL (jN PassesOwn.never rfl (iQ (gR 0)) (pL 2 rfl (jf (ja 5 nd) (jf (ja 6 nd) mh))) (gU (iR (QB hr (gR 5) (gR 3)) (gU (jN PassesOwn.never rfl (iQ 'x') (ja 7 nd) (gU (pF 4 (pv 4) (qD (gQ 'x' (gQ (jL e hr (gQ (gR 1) (gQ (gR 2) (gQ (Tg hr (gR 3) (gR 5)) 'x'))) (aK _)) ij))))))) (gU (pF 4 (pv 4) (qD (gQ (qG (gR 5) (qD (gQ (jL f hr (gQ (jL d hr 'x' (aK _)) ij) (aK _)) ij))) 'x'))))))) (gU (sZ 4 (pv 4))))))⟩
theorem Xg{k m:Nat}(D:gX K mg "cells" (iX 54))(a:CF Z "with_one_more" k (lK c (mw c m))):CP Z "cells" (k+1) (mw c (m+1)):=jQ Z k (mw c (m+1)) ["cuts","dims","found","k","cut"] ["cuts","dims"] rfl D λnd b hr=>⟨_,(gL (iY 2 nd (jA (zd (gQ (qD (gQ (qD ij) (gQ (qG (Oh 'x' (gR 1)) 'x') ij))) ij)))) (gL (jN PassesOwn.never rfl (CG B.enumerate 'x') (pL 2 rfl (jf (ja 3 nd) (jf (ja 4 nd) mh))) (gU (iY 2 nd (jA (rW a hr 'x' (aK _)))))) 'x'))⟩
theorem oR(D_crossings:gX K mg "crossings" (iX 52))(D_with_one_more:gX K mg "with_one_more" (iX 53))(D_cells:gX K mg "cells" (iX 54))(O10:CP Z "without_place" 3 (jR c))(O38:CP Z "cleared" 3 (jr c))(O45:CP Z "point_on" 3 (ng c))(O44:CP Z "point_off" 3 (lD c))(O1:CP Z "sign_of" 3 (kD c))(O29:CP Z "left_at" 3 (lu c)):∀m:Nat,CP Z "cells" (3+3*m) (mw c m)
 |0=>Va (k:=2) ["cuts","dims","found","k","cut"] ["cuts","dims"] rfl D_cells
 |m+1=>by have IH:=oR D_crossings D_with_one_more D_cells O10 O38 O45 O44 O1 O29 m;exact Xg Z B ER (k:=3+3*m+2) D_cells (WZ Z B ER (k:=3+3*m+1) D_with_one_more (WJ Z B ER (k:=3+3*m) D_crossings (O10.mono (by omega)) (O38.mono (by omega)) (O45.mono (by omega)) IH) (O44.mono (by omega)) (O1.mono (by omega)) (O29.mono (by omega)))
theorem XT(D:gX K mg "lands" (iX 55))(b:CP Z "cells" 18 (mw c 5))(a:lU P w K mg base c.Cutting "cuts" 1 (Dw K (jD c)))(d:lU P w K mg base c.Cutting "dims" 1 (yc K (jC c))):CF Z "lands" 19 (uf c):=q8 Z 18 (uf c) ["cutting"] ["cutting"] rfl D λnd e hr=>⟨_,(gU (nH (jz ["signs","point"] [none,none] e (iQ (jL b hr (gQ (jA (E7 a hr (gR 0))) (gQ (C2 d hr (gR 0)) ij)))) (λnd e=>⟨(mV 2 rfl (iG (i8 0 nd) (iG (i8 1 nd) kj))),iZ,(gR 0)⟩))))⟩
theorem oL{f:Addr}{fd:FuncData}(D:NN K "law" "law" (iX 95) f fd)(j:CP Z "_law_drawn" 4 (lR c))(a:CF Z "lands" 19 (uf c))(h:CP Z "_law_one_land" 4 (lg c))(i:CP Z "_law_right" 12 (lP c))(d:DW P w K mg base "Cutting" c.Cutting 5 (C7 K c.Cutting (jg c)))(b:CP Z "_law_draw" 1 (iC c))(g:CP Z "_law_cell_at" 1 (iM c)):pR P w K mg base Av 20 f fd ["_law_script"] (yc K (vH c)):=UE Z 19 (vH c) ["_law_script","_law_dims","_law_cuts_here","_law_some","_law_places","_law_k","_law_signs"] ["_law_script"] rfl D λnd e hr=>⟨_,(gL (GQ 'x' (pL 2 rfl (jf (ja 1 nd) (jf (ja 2 nd) mh)))) (gL (iY 3 nd (jA (rW a hr (gQ (Hs d hr 'x') ij)))) (gL (qE ["_law_k","_law_script","_law_some"] [none,some 0,some 3] 4 nd e (xw.pim (lI B.range 'x')) (λnd e=>⟨(i8 0 nd),iZ,(jL b hr (gQ 'x' (gQ iz (gQ (iq (jc (K:=K)) ka (by rfl) B.len kb 'x') ij))))⟩) oG) (gL (jN PassesOwn.never rfl (iQ 'x') (ja 5 nd) 'x') (gL (GQ 'x' (pL 3 rfl (jf (ja 1 nd) (jf (ja 2 nd) (jf (ja 6 nd) mh))))) 'x')))))⟩
end
def RN{l:W.OpenLaw}{w:World}{K:W.Frag}{h:Heap}{b:Str->Option Value}{c:Cs}{fa f:Addr}{oc kV L pm o ct:Value}{od an:Option Addr}{osl:Array (Option Value)}(X:K.In h)(G:h.Ns mainGlobals b)(hfa:b "law" = some (.ref fa))
  (a:W.nsIn K mainGlobals "law" = some (some (.ref f))) (lk:K.lookup f=some ⟨oc,od,.func (W.fnOf "law" "law" (kW (iX 95)) (jv (iX 95)) (hU (iX 95)) .none kV L pm an o ct),osl⟩) (cc:W.codeIn K o "law" = true) (kk:W.keepIn K (.ref f)=true)
  (B:Bs b) (ER:Er c K b) (LF:∀ns:LI,(vH c) [.scr ns]=.ok (.bl true)) (D0:gX K b "is_whole" (iX 10)) (D1:gX K b "sign_of" (iX 12)) (D2:gX K b "common_divisor" (iX 13)) (D3:gX K b "dot" (iX 14)) (D4:gX K b "less" (iX 23)) (D5:gX K b "floor_of" (iX 24)) (D6:gX K b "ceiling_of" (iX 25)) (D7:gX K b "weighted" (iX 27)) (D8:gX K b "free_places" (iX 31)) (D9:gX K b "turned" (iX 37)) (D10:gX K b "without_place" (iX 50)) (D11:gX K b "other_places" (iX 59)) (D12:gX K b "first_place" (iX 68)) (D13:gX K b "_law_cell_at" (iX 75)) (D14:gX K b "_law_draw" (iX 76)) (D15:gX K b "_law_whole" (iX 77)) (D16:gX K b "_law_common" (iX 78)) (D17:gX K b "_law_same" (iX 81)) (D18:gX K b "_law_side" (iX 84)) (D19:gX K b "_law_none" (iX 86)) (D20:gX K b "_law_cut_at" (iX 90)) (D21:gX K b "lowest" (iX 15)) (D22:gX K b "made" (iX 18)) (D23:gX K b "is_signs" (iX 35)) (D24:gX K b "whole_between" (iX 41)) (D25:gX K b "paper_of_noughts" (iX 44)) (D26:gX K b "left_at" (iX 48)) (D27:gX K b "land_rows" (iX 58)) (D28:gX K b "is_dims" (iX 65)) (D29:gX K b "is_cut" (iX 67)) (D30:gX K b "same_spots" (iX 69)) (D31:gX K b "_law_lowest" (iX 79)) (D32:gX K b "_law_is_fraction" (iX 80)) (D33:gX K b "_law_cut" (iX 82)) (D34:gX K b "_law_numbers" (iX 87)) (D35:gX K b "cleared" (iX 16)) (D36:gX K b "minus" (iX 20)) (D37:gX K b "times" (iX 21)) (D38:gX K b "over" (iX 22)) (D39:gX K b "check_signs" (iX 36)) (D40:gX K b "one_between" (iX 42)) (D41:gX K b "point_off" (iX 49)) (D42:gX K b "point_on" (iX 51)) (D43:gX K b "can_stand" (iX 71)) (D44:gX K b "_law_cuts" (iX 83)) (D45:gX K b "_law_is_spot" (iX 85)) (D46:gX K b "settled" (iX 28)) (D47:gX K b "with_pivot" (iX 29)) (D48:gX K b "left_for" (iX 32)) (D49:gX K b "shadow" (iX 38)) (D50:gX K b "checked_cuts" (iX 72)) (D51:gX K b "_law_drawn" (iX 89)) (D52:gX K b "_law_one_land" (iX 94)) (D53:gX K b "pivots_and_rests" (iX 30)) (D54:gX K b "filled" (iX 33)) (D55:gX K b "shadows" (iX 39)) (D56:gX K b "ends_at" (iX 40)) (D57:gX K b "parts_within" (iX 43)) (D58:gX K b "layers_down_to" (iX 60)) (D59:gX K b "parts_or_weights" (iX 45)) (D60:gX K b "held" (iX 46)) (D61:gX K b "check_land" (iX 56)) (D62:gX K b "_law_held" (iX 88)) (D63:gX K b "box" (iX 61)) (D64:gX K b "_law_beyond" (iX 91)) (D65:gX K b "_law_end" (iX 92)) (D66:gX K b "_law_right" (iX 93)) (D67:gX K b "cells" (iX 54)) (D68:gX K b "crossings" (iX 52)) (D69:gX K b "lands" (iX 55)) (D70:gX K b "with_one_more" (iX 53)) (M0:mJ K c.Cutting "dims" "Cutting.dims" (qi (iX 73) 1)) (M1:mJ K c.Cutting "cuts" "Cutting.cuts" (qi (iX 73) 2)) (M2:mJ K c.Cutting "many" "Cutting.many" (qi (iX 73) 3)) (M3:mJ K c.Cutting "__init__" "Cutting.__init__" (qi (iX 73) 0)) :
  ∃fd:FuncData,(∀(s:Shared) (v:Value),BindsTo s fd ⟨[v],[]⟩ [("_law_script",v)])/\∀d:Heap,K.In d->d.Ns mainGlobals b->pR l.prog w K b d Av 20 fa fd ["_law_script"] (LH K):=by
 have e:=hfa.symm.trans (W.mg_of X G a);cases e;refine⟨W.fnOf "law" "law" (kW (iX 95)) (jv (iX 95)) (hU (iX 95)) .none kV L pm an o ct,?bnd,λd _ _=>?main⟩
 case main=>have Z:Zx l.prog w K b d:=⟨trivial⟩;have O0:=o0 Z B ER D0;have R:=o1 Z B ER D1;have O2:=o2 Z B ER D2;have O3:=o3 Z B ER D3;have O4:=o4 Z B ER D4;have O5:=o5 Z B ER D5;have O6:=o6 Z B ER D6;have O7:=o7 Z B ER D7;have O8:=o8 Z B ER D8;have O9:=o9 Z B ER D9;have D:=WM Z B ER D10;have O11:=WY Z B ER D11;have O12:=W2 Z B ER D12;have r:=Xq Z B ER M0;have m:=XS Z B ER M1;have O15:=Xl Z B ER M2;have i:=W7 Z B ER D13;have g:=WL Z B ER D14;have A:=WK Z B ER D15;have x:=W4 Z B ER D16;have y:=XB Z B ER D17;have H:=WQ Z B ER D18;have O22:=WN Z B ER D19;have O23:=WS Z B ER D20;have n:=W5 Z B ER D21 O2;have p:=XC Z B ER D22 O2;have O26:=WW Z B ER D23 O0;have O27:=W6 Z B ER D24 O5 O4 O6;have O28:=Xv Z B ER D25 O9 R;have q:=Xu Z B ER D26 O3;have O30:=W9 Z B ER D27 O9 O7 m;have O31:=WX Z B ER D28 O0;have O32:=Xn Z B ER D29 O0;have O33:=Xw Z B ER D30 O12;have E:=XY Z B ER D31 x;have z:=Xy Z B ER D32 A x;have Y:=XD Z B ER D33 g;have O37:=WH Z B ER D34 A;have j:=WV Z B ER D35 n R;have O39:=XW Z B ER D36 p;have O40:=XN Z B ER D37 p;have Q:=XX Z B ER D38 p;have P:=W8 Z B ER D39 O26 O15;have O43:=XI Z B ER D40 O27 O5;have O44:=Xj Z B ER D41 n O3 q;have O45:=Xp Z B ER D42 n q R D;have O46:=XH Z B ER D43 O32 O33;have F:=W0 Z B ER D44 Y i y;have S:=Xo Z B ER D45 z;have J:=XE Z B ER D46 j;have O50:=Xi Z B ER D47 j;have C:=WO Z B ER D48 O39 O40;have O52:=WU Z B ER D49 j;have O53:=XM Z B ER D50 O31 O46;have O54:=XG Z B ER D51 i g F;have U:=Xf Z B ER D52 F g i E H;have O56:=XR Z B ER D53 J O50;have O57:=Xr Z B ER D54 Q C;have I:=W1 Z B ER D55 O52;have u:=Xx Z B ER D56 Q C O4;have k:=XF Z B ER M3 O53;have O61:=WI Z B ER D57 u O43;have O62:=W3 Z B ER D58 I O11;have O63:=Xh Z B ER D59 O7 O56 O28 O8 I J O57 O9 O61;have N:=XU Z B ER D60 P O63 m r;have O65:=Xd Z B ER D61 P N;have O66:=XJ Z B ER D62 N S O37 O22 H;have O67:=Xt Z B ER D63 O65 r O30 u O62;have O68:=Xm Z B ER D64 O23 O66 y k;have O69:=XO Z B ER D65 E z O68;have O70:=Xe Z B ER D66 O67 k O69;have O71:=oR Z B ER D68 D70 D67 (D.mono (by decide)) (j.mono (by decide)) (O45.mono (by decide)) (O44.mono (by decide)) (R.mono (by decide)) (q.mono (by decide)) 5;have O73:=XT Z B ER D69 O71 m r;exact (oL Z B ER (E4 (st:=iX 95) lk cc kk) O54 O73 U O70 k g i).imp (KQ λns _ _=>LF ns)
 case bnd=>exact λs v=>.of_eq rfl
end K33
namespace PySem.Challenge.cw_cutlands_k33_boxes_holds
def tw18079003223731451916:0=0:=rfl
def tw11102481170005554239:0=0:=rfl
def tw9713824086067586491:0=0:=rfl
def tw8691998376604333863:0=0:=rfl
def tw7971882831919734313:0=0:=rfl
def tw244076191264205222:0=0:=rfl
def tw2111000230816901574:0=0:=rfl
def tw12973006211872892231:0=0:=rfl
def tw4264193643234931822:0=0:=rfl
def tw7632927837893549522:0=0:=rfl
def tw16003210304537831206:0=0:=rfl
def tw2189305633232506432:0=0:=rfl
def tw15996920331891666898:0=0:=rfl
def tw11258434785366979554:0=0:=rfl
def tw9467352656738630071:0=0:=rfl
def tw16828982691063326685:0=0:=rfl
def tw4173536562512478552:0=0:=rfl
def tw2692327899478055106:0=0:=rfl
def tw17944733582922237075:0=0:=rfl
def tw11321816772193417157:0=0:=rfl
def tw6160501333749530698:0=0:=rfl
def tw5927205913244802930:0=0:=rfl
def tw7151813270549500158:0=0:=rfl
def tw4107527584486795520:0=0:=rfl
def tw933448344902016140:0=0:=rfl
def tw1471706022344133848:0=0:=rfl
def tw3010080065503107115:0=0:=rfl
def tw14128807843238672849:0=0:=rfl
def tw17853467466314970623:0=0:=rfl
def tw7857437544421920028:0=0:=rfl
def tw16363153335137983661:0=0:=rfl
def tw17460895900600142507:0=0:=rfl
def tw2516708499785936490:0=0:=rfl
def tw9830795089404788580:0=0:=rfl
def tw11491089439053553840:0=0:=rfl
def tw13790739283069283672:0=0:=rfl
def tw4424081206083499097:0=0:=rfl
def tw14933323746851120987:0=0:=rfl
def tw5401039188934822877:0=0:=rfl
def tw9397148968818177391:0=0:=rfl
def tw521717852007991741:0=0:=rfl
def tw5030454387406720119:0=0:=rfl
def tw4453829572858921598:0=0:=rfl
def tw292006563217187030:0=0:=rfl
def tw11865067682423314519:0=0:=rfl
def tw12786849347022445325:0=0:=rfl
def tw1093583017915022062:0=0:=rfl
def tw8796561197395165448:0=0:=rfl
def tw18445071185264912469:0=0:=rfl
def tw5755908110945659945:0=0:=rfl
def tw18308465446458859392:0=0:=rfl
def tw12113565950006667064:0=0:=rfl
def tw10174729943834948614:0=0:=rfl
def tw857351853814547297:0=0:=rfl
def tw9671394083836176604:0=0:=rfl
def tw10154931356124336173:0=0:=rfl
def tw14234485899018310380:0=0:=rfl
def tw10822209177752348825:0=0:=rfl
def tw8925956079987478106:0=0:=rfl
def tw4230348460067200110:0=0:=rfl
def tw10314531596510932245:0=0:=rfl
def tw11592226943883091730:0=0:=rfl
def tw10592000876802326985:0=0:=rfl
def tw949650130981773152:0=0:=rfl
def tw3222636460655121373:0=0:=rfl
def tw10641244379803267601:0=0:=rfl
def tw7102855263052677365:0=0:=rfl
def tw619451849466306832:0=0:=rfl
def tw9147065308548761483:0=0:=rfl
def tw15290421491867542933:0=0:=rfl
def tw1840025881880308523:0=0:=rfl
def tw3655422746455648597:0=0:=rfl
def tw3281128738711435330:0=0:=rfl
def tw12066446566825573583:0=0:=rfl
def tw15837717793590908726:0=0:=rfl
def tw10659432138465819524:0=0:=rfl
def tw14032984917552247075:0=0:=rfl
def tw3738234448645715960:0=0:=rfl
def tw15798563314762997533:0=0:=rfl
def tw4937772294449798038:0=0:=rfl
def tw4540826624955434333:0=0:=rfl
def tw1650886354711664728:0=0:=rfl
def tw8520275577687057931:0=0:=rfl
def tw13607832425144666529:0=0:=rfl
def tw13693087738152029018:0=0:=rfl
def tw7938751785421922650:0=0:=rfl
def tw14265176987460648134:0=0:=rfl
def tw14494380673060267101:0=0:=rfl
def tw1893099272814686135:0=0:=rfl
def tw4538277621035279026:0=0:=rfl
def tw2516113748970969740:0=0:=rfl
def tw18367590562727434807:0=0:=rfl
def tw4955292000264606905:0=0:=rfl
def tw14128347631810794296:0=0:=rfl
def tw1828253541887770860:0=0:=rfl
def tw13246452945449166666:0=0:=rfl
def tw17626272986601808111:0=0:=rfl
def tw1087475248241411053:0=0:=rfl
def tw14520048746279582185:0=0:=rfl
def tw9373255056605068263:0=0:=rfl
def tw16566100746926169261:0=0:=rfl
def tw1281020030943618209:0=0:=rfl
def tw6665431629673388946:0=0:=rfl
def tw367277652342177011:0=0:=rfl
def tw2473488274350742355:0=0:=rfl
def tw6072446896045946700:0=0:=rfl
def tw6171991112599192308:0=0:=rfl
def tw13577769690959227539:0=0:=rfl
def tw260196903400751871:0=0:=rfl
def tw12673930337157211577:0=0:=rfl
def tw4311683305984682518:0=0:=rfl
def tw296445205540613375:0=0:=rfl
def tw3774593883485991944:0=0:=rfl
def tw7957682708919121844:0=0:=rfl
def tw16073694294309399879:0=0:=rfl
def tw9934865194994682401:0=0:=rfl
def tw15678320093858516495:0=0:=rfl
def tw12072076615677559307:0=0:=rfl
def tw14215695956356630368:0=0:=rfl
def tw18031212505362239711:0=0:=rfl
def tw1311986984030766941:0=0:=rfl
def tw13772250706526026192:0=0:=rfl
def tw6847170494368639683:0=0:=rfl
def tw15444225518047293182:0=0:=rfl
def tw7941491790228710288:0=0:=rfl
def tw13662584806560217359:0=0:=rfl
def tw10647371560773307681:0=0:=rfl
def tw13262817113123488653:0=0:=rfl
def tw17826086948381769237:0=0:=rfl
def tw8823373613264354205:0=0:=rfl
def tw14405748009650498535:0=0:=rfl
def tw166619352874252281:0=0:=rfl
def tw9760645322370757645:0=0:=rfl
def tw9827400018595282157:0=0:=rfl
def tw18270024733873095703:0=0:=rfl
def tw5943802924355483977:0=0:=rfl
def tw16919579006730607153:0=0:=rfl
def tw9930094675074448228:0=0:=rfl
def tw12051934856407037170:0=0:=rfl
def tw9776758163070405655:0=0:=rfl
def tw13311916480671672897:0=0:=rfl
def tw14890920020725159804:0=0:=rfl
def tw17401037503634761822:0=0:=rfl
def tw4370302970405732043:0=0:=rfl
def tw14295732302717253462:0=0:=rfl
def tw3482214353232092318:0=0:=rfl
def tw16408225246593501209:0=0:=rfl
def tw16091201902258503508:0=0:=rfl
def tw898501187184082349:0=0:=rfl
def tw3199096285900764107:0=0:=rfl
def tw18211642709957811505:0=0:=rfl
def tw16846121994446010280:0=0:=rfl
def tw6792337940962239568:0=0:=rfl
def tw17622278973130720843:0=0:=rfl
def tw280335803239391972:0=0:=rfl
def tw3544854838736849156:0=0:=rfl
def tw17476911296919484330:0=0:=rfl
def tw10951919041423940149:0=0:=rfl
def tw10981088919833724348:0=0:=rfl
def tw3504872737452170555:0=0:=rfl
def tw15512219693723204214:0=0:=rfl
def tw15687581142680878441:0=0:=rfl
def tw2603712097066164783:0=0:=rfl
def tw5986161321147155144:0=0:=rfl
def tw4769172311862668322:0=0:=rfl
def tw11016303707751557841:0=0:=rfl
def tw9034123755223235026:0=0:=rfl
def tw13701717370193140651:0=0:=rfl
def tw15415914818429630860:0=0:=rfl
def tw2882571659841269557:0=0:=rfl
def tw8248648130520861984:0=0:=rfl
def tw16023433363317318658:0=0:=rfl
def tw16824344856780035090:0=0:=rfl
def tw2852442145083144730:0=0:=rfl
def tw5791679341344427342:0=0:=rfl
def tw3923639801974643441:0=0:=rfl
def tw10893878829763846493:0=0:=rfl
def tw10461513174408727547:0=0:=rfl
def tw15182784460242920239:0=0:=rfl
def tw3289391465128043741:0=0:=rfl
def tw8297066884351462332:0=0:=rfl
def tw13857012932288768790:0=0:=rfl
def tw7434454569526671096:0=0:=rfl
def tw18010221541910222810:0=0:=rfl
def tw7244349061925402368:0=0:=rfl
def tw13998173917515627585:0=0:=rfl
def tw12207147642546045749:0=0:=rfl
def tw6472984392844301126:0=0:=rfl
def tw4257226099913407769:0=0:=rfl
def tw15941266841085714642:0=0:=rfl
def tw507673315101324204:0=0:=rfl
def tw10858242373964389874:0=0:=rfl
def tw17983064059814318684:0=0:=rfl
def tw16495303101974339337:0=0:=rfl
def tw11914027553707933728:0=0:=rfl
def tw10946479861732045416:0=0:=rfl
def tw18147582502690790726:0=0:=rfl
def tw10968316004810686254:0=0:=rfl
def tw12293576096237867619:0=0:=rfl
def tw15166861101427856107:0=0:=rfl
def tw16633446610264188132:0=0:=rfl
end PySem.Challenge.cw_cutlands_k33_boxes_holds
open PySem PySem.W PyProof.Rows
set_option Elab.async true
theorem PySem.Challenge.cw_cutlands_k33_boxes_holds : PySem.Challenge.rw_cutlands_k33_boxes.Holds := by
 w_on;o_law;k_head;(case hw=>w_witness2);k_fill;refine L3.UW (l:=PySem.Challenge.rw_cutlands_k33_boxes) (k:=20) (x:= "_law_script") rfl ⟨rfl,by decide,by decide⟩ rfl (λw h Y=>PySem.W.kIn_of Y) ?F
 case F=>intro w mg fa h KX G hmg;refine' K33.RN KX G hmg ?a ?l ?c ?k ?B ?E (λns=>CL.I0 ns) ?_ ?_ ?_ ?_ ?_ ?_ ?_ ?_ ?_ ?_ ?_ ?_ ?_ ?_ ?_ ?_ ?_ ?_ ?_ ?_ ?_ ?_ ?_ ?_ ?_ ?_ ?_ ?_ ?_ ?_ ?_ ?_ ?_ ?_ ?_ ?_ ?_ ?_ ?_ ?_ ?_ ?_ ?_ ?_ ?_ ?_ ?_ ?_ ?_ ?_ ?_ ?_ ?_ ?_ ?_ ?_ ?_ ?_ ?_ ?_ ?_ ?_ ?_ ?_ ?_ ?_ ?_ ?_ ?_ ?_ ?_ ?_ ?_ ?_ ?_;(case a=>k_is);(case l=>k_is);(case c=>k_is);(case k=>k_is);(case B=>constructor<;>(apply mg_none_of KX G;k_is));(case E=>apply K33.U9 KX G<;>first | k_is | k_exc | decide);all_goals first | (apply L2.S2 KX G<;>k_is) | (apply K33.Vw<;>first | k_is | k_exc | decide)
