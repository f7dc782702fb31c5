import PyProof.Rows.All
import Wide.All
import OpenK.AllK
import Wide.FinOn
import Lean
import PyProof.EqAt
import PyProof.EqKinds
import PyProof.TupleCall
import PyProof.P3Eq
import PyProof.NeData
import PyProof.ConsumeWalk
import PyProof.Rows.SumAny
import PyProof.ZipIter
import PyProof.Rows.ZipGen
import PyProof.Rows.SeqMore
import PyProof.FactsAll.tuple
import PyProof.WalksMore
import PyProof.EnumMake
import PyProof.EnumFor
import PyProof.Rows.MinMaxN
import KE.KDictList
import KE.KRevIter
import KE.KItemsList
import PyProof.Rows.SortWalk
import PyProof.Rows.SetFrom
import PyProof.SetRoads
import PyProof.StrLoop
import PyProof.StrWalks
import PyProof.StrCalls2
import PyProof.StrLawsTight
import PyProof.StrLawsReplace
import PyProof.SliceStr2
import PyProof.StrOps
import PyProof.Rows.DictRows
import KE.KIntText
import PyProof.AttrMissHeap
import KE.KDictOf
import PyProof.ExcInit
import PyProof.ExcClass3
import PyProof.InstStoreFacts
import PyProof.Rows.ChunkEnd
import KE.KSortTup
import PyProof.SetKind
import PyProof.SetScanFacts
import PyProof.TupleKey
import PyProof.IsRules
import KE.KDictSum
import KE.KLam
import PySem.Challenge.RW_cutlands_k58_whole_rows_turned
set_option bootstrap.genMatcherCode false
set_option maxRecDepth 100000
set_option maxHeartbeats 0
set_option linter.all false
noncomputable section
set_option compiler.extract_closed false
set_option hygiene false
abbrev Vq:=PySem.Value
abbrev Sq:=PySem.Shared
abbrev LI:=List Int
abbrev LL:=List LI
section
open PySem
def ae:=@List.getElem?_eq_some_iff
def af:=@Heap.get?_push_of_some
def ag:=@List.getD_eq_getElem?_getD
def ai:=@List.getElem?_eq_getElem
def aj:=@List.mem_append
def ak:=@List.mem_singleton
def ao:=@wpAny_pure
def aq:=@wpAny_bind
def ar:=@List.getElem?_set_ne
def au:=@Heap.get?_push_size
def av:=@List.mem_of_getElem?
def aw:=@List.getElem?_map
def ax:=@List.length_map
def ay:=@List.mem_append_left
def aA:=@List.length_cons
def aB:=@Int.le_of_lt
def aC:=@decide_eq_false
def aD:=@decide_eq_true
def aE:=@List.mem_map
def aF:=@Nat.lt_of_lt_of_le
def aG:=@List.mem_cons
def aH:=@Nat.zero_add
def aI:=@Bool.false_ne_true
def aJ:=@List.map_map
def aK:=@Int.mul_le_mul_of_nonneg_right
def aL:=@Nat.le_refl
def aM:=@Heap.lt_size
def aN:=@Nat.ne_of_lt
def aO:=@Nat.le_trans
def aP:=@Classical.byContradiction
def aR:=@if_pos
def aS:=@if_neg
def aT:=@List.mem_range
def aU:=@List.length_append
def aV:=@List.mem_filter
def aW:=@List.getElem_mem
def aX:=@List.of_mem_zip
def aY:=@Int.mul_pos
def aZ:=@Int.natAbs_mul
def a9:=@List.map_append
def ba:=@Nat.lt_irrefl
def bg:=@Nat.le_of_lt
def bh:=@List.filterMap_cons
def bj:=@List.mem_cons_self
def bx:=@List.mem_cons_of_mem
def bz:=@Array.append_assoc
def bA:=@Array.length_toList
def bB:=@Nat.ne_of_gt
def bC:=@Bool.false_and
def bD:=@List.mem_filterMap
def bE:=@List.mem_append_right
def bF:=@List.size_toArray
def bG:=@List.any_eq_false
def bH:=@Array.mem_toList_iff
def bI:=@List.append_nil
def bJ:=@List.nodup_cons
def bK:=@Option.isSome_iff_exists
def bL:=@List.length_take
def bM:=@List.length_replicate
def bN:=@Int.toNat_natCast
def bO:=@Int.ediv_one
def bQ:=@List.filterMap_map
def bR:=@List.length_drop
def bS:=@Bool.and_eq_true
def bT:=@List.reverse_cons
def bU:=@List.replicate_succ
def bV:=@List.flatten_cons
def bW:=@List.append_assoc
def bX:=@List.foldl_cons
def bY:=@List.length_singleton
def bZ:=@Nat.succ_mul
def b5:=@List.nil_append
def b6:=@Nat.mul_comm
def b7:=@List.map_nil
def b8:=@List.map_cons
def b9:=@Nat.le_of_eq
def cf:=@Nat.lt_of_le_of_lt
def cg:=@Bool.false_eq_true
def cj:=@List.lookup_cons
def cm:=@Nat.le_of_succ_le
def cn:=@Nat.lt_succ_self
def cq:=@Nat.lt_succ_of_lt
def cu:=@Option.isSome_some
def cw:=@Nat.le_add_right
def cx:=@Nat.le_succ_of_le
def cy:=@Nat.le_succ
def cA:=@Nat.zero_le
def cB:=@List.range_succ_eq_map
def cC:=@List.any_cons
def cD:=@List.take_of_length_le
def cE:=@List.all_eq_true
def cF:=@List.length_nil
def cG:=@Option.isSome_map
def cH:=@Nat.lt_trans
def cI:=@Option.map_eq_some_iff
def cJ:=@List.nodup_nil
def cK:=@Int.toNat_of_nonneg
def cL:=@List.range_succ
def cN:=@List.filterMap_append
def cO:=@List.take_succ
def cP:=@List.length_reverse
def cQ:=@List.map_congr_left
def cR:=@Array.getD_eq_getD_getElem?
def cS:=@Array.mem_of_getElem?
def cT:=@List.ext_getElem
def cU:=@List.pairwise_append
def cV:=@List.range_eq_range'
def cW:=@List.mem_range'_1
def cX:=@List.pairwise_iff_getElem
def cY:=@Nat.not_lt_zero
def cZ:=@List.getElem_map
def c5:=@Nat.lt_trichotomy
def c6:=@Nat.sub_self
def c7:=@Nat.le_of_lt_succ
def c8:=@Nat.mod_lt
def c9:=@Nat.succ_pos
def dc:=@Nat.pow_succ
def de:=@Nat.pow_le_pow_right
def dg:=@List.any_eq_true
def dh:=@List.take_left'
def dw:=@List.perm_middle
def dy:=@List.filterMap_cons_some
def dz:=@Array.forIn_toList
def dA:=@Bool.not_true
def dB:=@List.take_append_drop
def dC:=@List.map_singleton
def dD:=@List.not_mem_nil
def dE:=@List.length_eq_zero_iff
def dF:=@List.pairwise_singleton
def dG:=@Nat.eq_zero_or_pos
def dH:=@List.pairwise_map
def dI:=@Int.gcd_dvd_left
def dJ:=@Int.gcd_dvd_right
def dM:=@Int.dvd_mul_of_dvd_left
def dN:=@Int.fmod_nonneg_of_pos
def dO:=@Int.fmod_lt_of_pos
def dP:=@Int.natAbs_natCast
def dQ:=@Int.gcd_pos_of_ne_zero_right
def dR:=@Int.mul_assoc
def dS:=@Int.mul_comm
def dU:=@Int.mul_fdiv_cancel_left
def dW:=@Int.mul_neg
def dX:=@List.drop_eq_getElem_cons
def dY:=@List.mem_nil_iff
def dZ:=@List.map_take
def d6:=@List.map_drop
def d7:=@Int.natAbs_neg
def d8:=@Int.sub_eq_add_neg
def d9:=@Nat.min_eq_left
def ef:=@List.drop_of_length_le
def ei:=@List.dropLast_eq_take
def eA:=@List.pairwise_cons
def eD:=@List.perm_ext_iff_of_nodup
def eE:=@List.mem_zipIdx
def eG:=@Nat.two_pow_pos
def eI:=@Int.mul_le_mul_of_nonneg_left
def eJ:=@Int.mul_zero
def eK:=@Int.dvd_trans
def eN:=@Int.one_mul
def eO:=@Int.zero_mul
def eP:=@Int.add_zero
def eQ:=@Int.zero_add
def eR:=@Int.mul_ne_zero
def eS:=@Int.mul_add
def eT:=@Int.mul_eq_zero
def eU:=@Int.neg_mul
def eV:=@Int.mul_sub
def eW:=@List.take_length
def eX:=@Nat.mul_le_mul_left
def eY:=@Int.eq_of_mul_eq_mul_left
def e8:=@List.length_erase_of_mem
def fg:=@List.mem_of_mem_erase
def fj:=@List.zip_cons_cons
def fq:=@Int.lt_trichotomy
def fu:=@Rat.lt_of_mul_lt_mul_left
def fw:=@Rat.le_of_lt
def fx:=@List.map_reverse
def fy:=@Rat.intCast_mul
def fz:=@Rat.mul_pos
def fB:=@List.dropLast_subset
def fC:=@List.getElem_take
def fE:=@List.mem_of_mem_take
def fF:=@List.mem_of_mem_drop
def fG:=@Int.lt_of_lt_of_le
def fH:=@Int.pos_of_mul_pos_right
def fJ:=@List.mem_flatMap
def fK:=@List.length_flatMap
def fL:=@List.filter_congr
def fM:=@List.filter_eq_nil_iff
def fN:=@List.length_filter_le
def fO:=@List.mem_zipIdx_iff_getElem?
def fP:=@List.getElem_of_mem
def fQ:=@List.eq_nil_or_concat
def fR:=@List.concat_eq_append
def fS:=@List.singleton_append
def fT:=@List.flatMap_cons
def fU:=@List.filter_cons_of_pos
def fV:=@List.filter_cons_of_neg
def fW:=@List.filter_filter
def fX:=@Rat.mul_le_mul_of_nonneg_right
def fY:=@Rat.not_lt
def fZ:=@Rat.mul_le_mul_of_nonneg_left
def f9:=@Rat.one_mul
def gc:=@List.mem_reverse
def gf:=@List.drop_eq_nil_of_le
def gh:=@List.reverse_perm
def gj:=@Nat.add_sub_cancel
end
set_option Elab.async false
namespace L2
open PySem PySem.Spec PyProof.Rows
abbrev mW:=Sum Int Str
noncomputable def we:mW->Value->Bool
 |.inl k,v=>Value.isInt k v
 |.inr x,v=>Value.isStrOf x v
def PP(w:World):mW->Int
 |.inl k=>hashInt k
 |.inr x=>hashStr w x
theorem i7:∀{k} {v},we k v=true->(∃i t,k=Sum.inl i/\v=Value.int i t)\/(∃x t,k=Sum.inr x/\v=Value.str x t)
 |.inl i,v,h=>by obtain⟨t,e⟩:=Value.isInt_shape h;exact .inl ⟨i,t,rfl,e⟩
 |.inr x,v,h=>by obtain⟨t,e⟩:=Value.isStrOf_shape h;exact .inr ⟨x,t,rfl,e⟩
def C2 i t:we (.inl i) (.int i t)=true:=by simp[we,Value.isInt]
def DE x t:we (.inr x) (.str x t)=true:=by simp[we,Value.isStrOf]
def LB a b:decide ((Sum.inl a:mW)=Sum.inl b)=(a==b):=by
 by_cases e:a=b
 .subst e;simp
 .have h:¬(Sum.inl a:mW)=Sum.inl b:=λq=>e (Sum.inl.inj q);rw[aC h];exact (beq_eq_false_iff_ne.mpr e).symm
def KY a b:decide ((Sum.inr a:mW)=Sum.inr b)=decide (a=b):=by
 by_cases e:a=b
 .subst e;simp
 .have h:¬(Sum.inr a:mW)=Sum.inr b:=λq=>e (Sum.inr.inj q);rw[aC h,aC e]
def LM a b:decide ((Sum.inl a:mW)=Sum.inr b)=false:=aC (λq=>nomatch q)
def KC a b:decide ((Sum.inr a:mW)=Sum.inl b)=false:=aC (λq=>nomatch q)
noncomputable def kR(prog:Program)(w:World):PySem.KeyKind prog w mW where
 is:=we
 hash:=PP w
 inj:=λv a b f d=>by
  rcases i7 f with⟨i,t,rfl,rfl⟩|⟨x,t,rfl,rfl⟩
  .rcases i7 d with⟨j,u,rfl,e⟩|⟨y,u,rfl,e⟩
   .injection e with c _;rw[c]
   .exact nomatch e
  .rcases i7 d with⟨j,u,rfl,e⟩|⟨y,u,rfl,e⟩
   .exact nomatch e
   .injection e with c _;rw[c]
 byValue:=λk v h=>by rcases i7 h with⟨i,t,rfl,rfl⟩|⟨x,t,rfl,rfl⟩<;>rfl
 pyHash:=λhv h=>by
  rcases i7 hv with⟨i,t,rfl,rfl⟩|⟨x,t,rfl,rfl⟩
  .exact wpAny_pyHash_int h
  .exact wpAny_pyHash_str h
 eqBool:=λg hv h=>by
  rcases i7 g with⟨i,t,rfl,rfl⟩|⟨x,t,rfl,rfl⟩
  .rcases i7 hv with⟨j,u,rfl,rfl⟩|⟨y,u,rfl,rfl⟩
   .rw[LB]at h;exact wpAny_eqBool_int h
   .rw[LM]at h;exact SeqAt.EqAt.int_str i t y u _ _ _ _ h
  .rcases i7 hv with⟨j,u,rfl,rfl⟩|⟨y,u,rfl,rfl⟩
   .rw[KC]at h;exact SeqAt.EqAt.str_int x t j u _ _ _ _ h
   .rw[KY]at h;exact wpAny_eqBool_str h
 «strs»:=λk x t v h=>by
  rcases i7 h with⟨i,u,rfl,e⟩|⟨y,u,rfl,e⟩
  .exact nomatch e
  .injection e with c _;subst c;cases v<;>rfl
def yg prog w i t:(kR prog w).is (.inl i) (.int i t)=true:=C2 i t
def yf prog w x t:(kR prog w).is (.inr x) (.str x t)=true:=DE x t
end L2
namespace L2
open PySem PySem.Spec PyProof.Rows
inductive V where
 |non|bl (b:Bool)|int (i:Int)|str (x:Str)|byt (b:Array UInt8)|flt (b:UInt64)|ref (a:Addr)|ty (n:String)
 deriving DecidableEq
def iD:V->Value->Prop
 |.non,u=>u=Value.none
 |.bl b,u=>u=Value.bool b
 |.int i,u=>∃t,u=Value.int i t
 |.str x,u=>∃t,u=Value.str x t
 |.byt b,u=>∃t,u=Value.bytes b t
 |.flt b,u=>∃t,u=Value.float b t
 |.ref a,u=>u=Value.ref a
 |.ty n,u=>u=Value.type n
abbrev gZ:List V->List Value->Prop:=Paired iD
def gZ.length(r:gZ xs us):xs.length=us.length:=Paired.length r
theorem gZ.get:∀{a:List V} {us:List Vq} {i:Nat} {x:V},gZ a us->a[i]? = some x->∃u,us[i]? = some u/\iD x u
 |_,_,_,_,.nil,e=>by simp at e
 |_,_,0,_,.cons r _,e=>by simp at e;subst e;exact⟨_,rfl,r⟩
 |_,_,i+1,x,.cons _ t,e=>by obtain⟨u,b,c⟩:=gZ.get t (by simpa using e);exact⟨u,by simpa using b,c⟩
theorem gZ.set(r:iD x u):∀{xs} {us} i,gZ xs us->gZ (xs.set i x) (us.set i u)
 |_,_,_,.nil=>.nil
 |_,_,0,.cons _ t=>.cons r t
 |_,_,i+1,.cons q t=>.cons q (gZ.set r i t)
theorem gZ.append:∀{xs ys} {us ws},gZ xs us->gZ ys ws->gZ (xs++ys) (us++ws)
 |_,_,_,_,.nil,s=>s
 |_,_,_,_,.cons r t,s=>.cons r (gZ.append t s)
theorem gZ.take:∀{xs} {us} n,gZ xs us->gZ (xs.take n) (us.take n)
 |_,_,0,_=>.nil
 |_,_,_+1,.nil=>.nil
 |_,_,n+1,.cons r t=>.cons r (gZ.take n t)
theorem gZ.drop:∀{xs} {us} n,gZ xs us->gZ (xs.drop n) (us.drop n)
 |_,_,0,r=>r
 |_,_,_+1,.nil=>.nil
 |_,_,n+1,.cons _ t=>gZ.drop n t
def sV:Option V->Option Value->Prop
 |some v,some u=>iD v u
 |none,none=>True
 |_,_=>False
def KV{a:Type}:List (a×V)->List (a×Value)->Prop:=Paired λ(p:a×V) (q:a×Value)=>p.1=q.1/\iD p.2 q.2
def kV:mW->V
 |.inl i=>.int i
 |.inr x=>.str x
inductive HO where
 |lst (xs:List V)
 |tup (xs:List V)
 |dK (kvs:List (mW×V))|dT (kvs:List (List mW×V))
 |set (S:Int->Bool) (n:Nat)
 |ins (C dx:Addr) (fs:List (Str×V))
 |own (x:Addr)
 |xd (fs:List (Str×V))
 |met (f x:Addr)
 |rng (lo hi:Int)
 |frz (o:Obj) (u:HO)
 |tbl (q:Str) (ps:Array Vq)
 |ext (φ:Heap->Prop)
abbrev Hp:=Addr->Option HO
noncomputable def jn(H:Hp)(a:Addr)(o:HO):Hp:=λb=>if b=a then some o else H b
def gJ:jn H a o a=some o:=by unfold jn;rw[aR rfl]
def gL(h:b≠a):jn H a o b=H b:=by unfold jn;rw[aS h]
def N3{H:Hp}(h:H a=some o)(h':H b=some u)(d:o≠u):a≠b:=by intro e;subst e;rw[h]at h';exact d (Option.some.inj h')
def gW{H:Hp}(h:H a=some o)(h':H b=none):a≠b:=by intro e;subst e;rw[h]at h';cases h'
section
variable (P:Program)(w:World)
def sj(h:Heap)(a:Addr)(items:Array Vq):Prop:=∃o,h.get? a=some o/\o.cls=.type "tuple" /\∃n,o.data=.seq items n/\o.dict=none
def sj.tup(x:sj h a items):IsTup h a items:=let ⟨o,e,c,n,d,_⟩:=x;⟨o,e,c,n,d⟩
def sj.new(h:Heap) items:sj (h.push {cls:=.type "tuple",data:=.seq items}) h.objs.size items:=⟨_,au _ rfl,rfl,_,rfl,rfl⟩
def B0:List Vq->List Value
 |_::_::c::r=>c::B0 r
 |_=>[]
def jK(H:Hp)(h:Heap)(a:Addr):HO->Prop
 |.lst c=>c.length<=sizeLine/\∃(gF:List Vq) (n:Nat),gZ c gF/\h.get? a=some {cls:=.type "list",data:=.seq gF.toArray n}
 |.tup c=>c.length<=sizeLine/\∃gF:List Vq,gZ c gF/\sj h a gF.toArray
 |.dK kvs=>kvs.length<=sizeLine/\(a==sysModules)=false/\∃vs,KV kvs vs/\h.DictOf (kR P w) a vs
 |.dT kvs=>kvs.length<=sizeLine/\(a==sysModules)=false/\∃c:List (List mW×Addr×Value),
   Paired (λ(p:List mW×V) (q:List mW×Addr×Value)=>p.1=q.1/\H q.2.1=some (.tup (p.1.map kV))/\iD p.2 q.2.2) kvs c/\
   ∃o es ep,h.get? a=some o/\o.ExactDict/\o.data=.dict es ep/\es.toList=c.map (entryOfKey (tupleKind (kR P w)))/\(c.map (·.1)).Nodup
 |.set S n=>h.SetOf (intKind P w) a S n
 |.ins C dx fs=>H dx=some (.own a)/\fs.length<=1000/\dx≠a/\h.get? a=some (W.instObj C dx)/\
   ∃d,h.Ns1 dx d/\(∀f,sV (fs.lookup f) (d f))/\PySem.Within d (fs.map (·.1))
 |.own _=>∃o,h.get? a=some o
 |.xd fs=>∃d,h.Ns1 a d/\∀f,sV (fs.lookup f) (d f)
 |.rng lo hi=>∃t u v,h.get? a=some {cls:=.type "range",data:=.fields #[.int lo t,.int hi u,.int 1 v]}
 |.frz o u=>h.get? a=some o/\jK H h a u
 |.tbl q ps=>h.get? a=some {cls:=.none,data:=.fields ps}/\TriplesOk ps.toList/\∀v∈B0 ps.toList,∃b,v=.ref b/\H b=some (.own a)/\h.CodeRec (.ref b) q
 |.met f x=>h.get? a=some (W.methodObj (.ref f) (.ref x))
 |.ext φ=>φ h/\(∃o,h.get? a=some o)/\∀g e:Heap,φ g->(∀o,g.get? a=some o->e.get? a=some o)->φ e
def oS(H:Hp)(h:Heap):Prop:=∀a o,H a=some o->jK P w H h a o
end
section
variable {P:Program}{w:World}{H H':Hp}{h h':Heap}{a:Addr}{o:HO}
def jK.lt(x:jK P w H h a o):a<h.objs.size:=by
 cases o with
 |lst xs=>obtain⟨_,_,_,_,e⟩:=x;exact aM e
 |tup xs=>obtain⟨_,_,_,p⟩:=x;exact (sj.tup p).lt
 |dK kvs=>obtain⟨_,_,_,_,o,_,_,e,_⟩:=x;exact aM e
 |dT kvs=>obtain⟨_,_,_,_,o,_,_,e,_⟩:=x;exact aM e
 |set S n=>obtain⟨o,_,_,_,e,_⟩:=x;exact aM e
 |ins C dx fs=>obtain⟨_,_,_,e,_⟩:=x;exact aM e
 |own y=>obtain⟨_,e⟩:=x;exact aM e
 |xd fs=>obtain⟨_,⟨_,_,_,e,_⟩,_⟩:=x;exact aM e
 |rng lo hi=>obtain⟨_,_,_,e⟩:=x;exact aM e
 |frz ob u=>obtain⟨e,_⟩:=x;exact aM e
 |tbl q ps=>exact aM x.1
 |met f y=>exact aM (x)
 |ext φ=>obtain⟨_,⟨_,e⟩,_⟩:=x;exact aM e
theorem Paired.mapP{F G:α->β->Prop}:∀{l₁} {l₂},Paired F l₁ l₂->(∀a b,F a b->G a b)->Paired G l₁ l₂
 |_,_,.nil,_=>.nil
 |_,_,.cons r t,f=>.cons (f _ _ r) (Paired.mapP t f)
def Paired.imp'{F G:α->β->Prop}(f:∀a b,F a b->G a b){c:List α}{l₂:List β}(r:Paired F c l₂):Paired G c l₂:=Paired.mapP r f
theorem jK.stay(x:jK P w H h a o)(k:∀b u,(b=a\/H b=some (.own a))->h.get? b=some u->h'.get? b=some u)
  (E:∀b,H b=some (.own a)->H' b=some (.own a)) (K:∀b l,H b=some (.tup l)->H' b=some (.tup l)):jK P w H' h' a o:=by
 induction o with
 |lst l=>obtain⟨z,gF,n,r,e⟩:=x;exact⟨z,gF,n,r,k _ _ (.inl rfl) e⟩
 |tup l=>obtain⟨z,gF,r,g,e,c⟩:=x;exact⟨z,gF,r,g,k _ _ (.inl rfl) e,c⟩
 |dK kvs=>obtain⟨z,y,A,r,g,j,i,e,c⟩:=x;exact⟨z,y,A,r,g,j,i,k _ _ (.inl rfl) e,c⟩
 |dT kvs=>obtain⟨z,y,l,r,g,j,i,e,c⟩:=x;exact⟨z,y,l,Paired.mapP r λp q z=>⟨z.1,K _ _ z.2.1,z.2.2⟩,g,j,i,k _ _ (.inl rfl) e,c⟩
 |set S n=>obtain⟨g,j,i,t,e,c⟩:=x;exact⟨g,j,i,t,k _ _ (.inl rfl) e,c⟩
 |ins C dx fs=>obtain⟨d,z,ne,e,m,⟨s,j,i,B,c⟩,r⟩:=x;exact⟨E _ d,z,ne,k _ _ (.inl rfl) e,m,⟨s,j,i,k _ _ (.inr d) B,c⟩,r⟩
 |own y=>obtain⟨g,e⟩:=x;exact⟨g,k _ _ (.inl rfl) e⟩
 |xd fs=>obtain⟨m,⟨s,j,i,e,c⟩,r⟩:=x;exact⟨m,⟨s,j,i,k _ _ (.inl rfl) e,c⟩,r⟩
 |rng lo hi=>obtain⟨t,u,v,e⟩:=x;exact⟨t,u,v,k _ _ (.inl rfl) e⟩
 |frz g u ih=>obtain⟨e,q⟩:=x;exact⟨k _ _ (.inl rfl) e,ih q⟩
 |tbl q ps=>obtain⟨e,t,L⟩:=x;refine⟨k a _ (.inl rfl) e,t,λv hv=>?_⟩;obtain⟨b,I,D,c,o,A,F,J,B,N⟩:=L v hv;cases J;exact⟨_,I,E _ D,_,o,A,F,rfl,k _ _ (.inr D) B,N⟩
 |met f y=>have e:=x;exact k a _ (.inl rfl) e
 |ext φ=>obtain⟨p,⟨o,e⟩,st⟩:=x;exact⟨st _ _ p λo q=>k _ _ (.inl rfl) q,⟨o,k _ _ (.inl rfl) e⟩,st⟩
def oS.lt(x:oS P w H h)(e:H a=some o):a<h.objs.size:=(x a o e).lt
def oS.fresh(x:oS P w H h)(e:h.objs.size<=a):H a=none:=by
 cases q:H a with
 |none=>rfl
 |some u=>exact absurd (aF (x.lt q) e) (ba _)
def oS.kept(x:oS P w H h)(k:∀b u,h.get? b=some u->h'.get? b=some u):oS P w H h':=λa o e=>(x a o e).stay (λb u _ q=>k b u q) (λ_ q=>q) λ_ _ q=>q
def oS.laid(x:oS P w H h)(k:∀b u,h.get? b=some u->h'.get? b=some u)(g:h.objs.size<=a)(new:jK P w (jn H a o) h' a o):oS P w (jn H a o) h':=λb u e=>by
 have f:=x.fresh g;by_cases d:b=a
 .subst d;rw[gJ]at e;cases e;exact new
 .rw[gL d]at e;exact (x b u e).stay (λc v _ q=>k c v q) (λc q=>by rw[gL (gW q f)];exact q) λc i q=>by rw[gL (gW q f)];exact q
end
def Rd(H:Hp)(a:Addr)(u:HO):Prop:=H a=some u\/∃o,H a=some (.frz o u)
def Rd.ok(r:Rd H a u)(x:oS P w H h):jK P w H h a u:=by
 rcases r with r|⟨o,r⟩
 .exact x a u r
 .obtain⟨_,q⟩:=x a _ r;exact q
def NC:Option HO->Prop
 |some (.lst _)=>True
 |some (.dK _)=>True
 |some (.dT _)=>True
 |some (.set _ _)=>True
 |some (.ins _ _ _)=>True
 |some (.ext _)=>True
 |_=>False
section
variable {P:Program}{w:World}{H:Hp}{h h':Heap}{x e:Addr}{o':HO}
def oS.write(ok:oS P w H h)(i:NC (H x))(n:e=x\/H e=some (.own x))(k:∀b u,b≠e->h.get? b=some u->h'.get? b=some u)(m:∃u,h'.get? e=some u)
  (new:jK P w (jn H x o') h' x o'):oS P w (jn H x o') h':=λb u q=>by
 have d:∀c y,H c=some (.own y)->c≠x:=λc y r z=>by subst z;rw[r]at i;exact i
 have f:∀c j,H c=some (.tup j)->c≠x:=λc j r z=>by subst z;rw[r]at i;exact i
 by_cases l:b=x
 .subst l;rw[gJ]at q;cases q;exact new
 .rw[gL l]at q;by_cases a:b=e
  .have o:H b=some (.own x):=by
    rcases n with z|z
    .exact absurd (a.trans z) l
    .rw[a];exact z
   rw[q]at o;cases o;obtain⟨v,hv⟩:=m;exact⟨v,by rw[a];exact hv⟩
  .refine (ok b u q).stay (λc v g r=>k c v ?_ r) (λc r=>by rw[gL (d c b r)];exact r) λc j r=>by rw[gL (f c j r)];exact r
   rcases g with rfl|g
   .exact a
   .rintro rfl;rcases n with z|z
    .exact d c b g z
    .rw[g]at z;cases z;exact l rfl
end
structure Un(fs ex:List Addr)(H H':Hp)(h h':Heap):Prop where
 keep:∀b o,h.get? b=some o->H b=none->b∉fs->b∉ex->h'.get? b=some o
 slot:∀b o,h.get? b=some o->H b=none->b∈fs->b∉ex->∃sl,h'.get? b=some {o with slots:=sl}
 free:∀b o,h.get? b=some o->H b=none->b∉ex->H' b=none
 there:∀b o,h.get? b=some o->b∉ex->∃o',h'.get? b=some o'
 tups:∀b xs,H b=some (.tup xs)->H' b=some (.tup xs)
 frzs:∀b o u,H b=some (.frz o u)->H' b=some (.frz o u)
 tbls:∀b q ps,H b=some (.tbl q ps)->∃more,H' b=some (.tbl q (ps++more))
section
variable {fs fs' ex ex':List Addr}{H H1 H2:Hp}{h h1 h2 h':Heap}{a x e:Addr}{o:HO}
def Un.any(u:Un fs ex H H1 h h1)(q:h.get? b=some ob)(n:H b=none)(c:b∉ex):∃f,h1.get? b=some {ob with slots:=f}:=by
 by_cases d:b∈fs
 .exact u.slot b ob q n d c
 .exact⟨ob.slots,u.keep b ob q n d c⟩
def Un.kept(k:∀b u,h.get? b=some u->h'.get? b=some u):Un fs ex H H h h':=⟨λb c q _ _ _=>k b c q,λb c q _ _ _=>⟨c.slots,k b c q⟩,λ_ _ _ n _=>n,λb c q _=>⟨c,k b c q⟩,λ_ _ q=>q,λ_ _ _ q=>q,λ_ _ d q=>⟨#[],by rw[q];simp⟩⟩
def Un.refl:Un fs ex H H h h:=Un.kept λ_ _ q=>q
def Un.laid(k:∀b u,h.get? b=some u->h'.get? b=some u)(f:h.objs.size<=a)(c:H a=none):Un fs ex H (jn H a o) h h' where
 keep:=λb u q _ _ _=>k b u q
 slot:=λb u q _ _ _=>⟨u.slots,k b u q⟩
 free:=λb u q n _=>by rw[gL (aN (aF (aM q) f))];exact n
 there:=λb u q _=>⟨u,k b u q⟩
 tups:=λb d q=>by rw[gL (gW q c)];exact q
 frzs:=λb u d q=>by rw[gL (gW q c)];exact q
 tbls:=λb _ g q=>⟨#[],by rw[gL (gW q c),q];simp⟩
def Un.write(d:NC (H x))(l:e=x\/H e=some (.own x))(k:∀b u,b≠e->h.get? b=some u->h'.get? b=some u)(f:∃u,h'.get? e=some u):Un fs ex H (jn H x o) h h':=by
 have i:∀b,H b=none->b≠x:=λb n z=>by subst z;rw[n]at d;exact d
 have j:∀b,H b=none->b≠e:=λb n z=>by
  subst z;rcases l with r|r
  .exact i b n r
  .rw[n]at r;cases r
 have g:∀b u,H b=some u->¬NC (some u)->b≠x:=λb u q p z=>by subst z;rw[q]at d;exact p d
 refine⟨λb u q n _ _=>k b u (j b n) q,λb u q n _ _=>⟨u.slots,k b u (j b n) q⟩,λb u q n _=>by rw[gL (i b n)];exact n,λb u q _=>?_,
  λb m q=>by rw[gL (g b _ q λz=>z)];exact q,λb u m q=>by rw[gL (g b _ q λz=>z)];exact q,λb _ s q=>⟨#[],by rw[gL (g b _ q λz=>z),q];simp⟩⟩
 by_cases c:b=e
 .subst c;exact f
 .exact⟨u,k b u c q⟩
end
noncomputable def PB(h:Heap)(H:Hp):List Addr:=(List.range h.objs.size).filter λa=>(H a).isSome
def EE(h:Heap)(H:Hp):Heap:=W.hideAll h (PB h H)
def CK h H:(EE h H).objs.size=h.objs.size:=W.hideAll_size _ _
def Eb(e:h.get? b=some o)(n:H b=none):(EE h H).get? b=some o:=W.hideAll_get _ e λa=>by have q:=(aV.mp a).2;rw[n]at q;simp at q
def Js(e:(EE h H).get? b=some o):h.get? b=some o/\H b=none:=by
 have a:=W.of_hideAll (PB h H) e;refine⟨a,?_⟩;cases q:H b with
 |none=>rfl
 |some x=>have c:b∈PB h H:=aV.mpr ⟨aT.mpr (aM a),by simp[q]⟩;have z:(EE h H).get? b=none:=W.hideAll_none (PB h H) c;rw[z]at e;cases e
end L2
namespace L2
open PySem PySem.Spec PyProof.Rows
structure Mod(K:W.Frag)(mg:Str->Option Value)(base:Heap):Prop where
 kin:K.In base
 glob:base.Ns mainGlobals mg
 blt:∃mb,base.Ns builtinsNs mb/\∀x:Str,x≠ "__name__" ->mb x=bootBuiltins x
 nolimit:base.NoLimit
def EF(a:Heap)(H:Hp):Prop:=∀c P b,(c,P)∈a.life.ids->a.CodeRec (.ref c) b->∃d,H P=some (.tbl (b++ ".<locals>.<lambda>") d)
structure Cx where
 prog:Program
 w:World
 K:W.Frag
 mg:Str->Option Value
 base:Heap
 A:Around
 N:List Str
 s₀:Sq
 H₀:Hp
 env:Env
 outer:List Env
 stack:List Env
 ex:List Addr
 fn:Str->Bool
 calm:Bool
 pn:List (Addr×Obj)
 xe:Vq->Shared->Prop
noncomputable def C5(l:List Env):List Addr:=l.filterMap (·.frame)
abbrev Cx.fs(X:Cx):List Addr:=C5 X.outer
def OI(a:Scope)(x:Str):Prop:=a.names.lookup x=some .local\/a.names.lookup x=some .cell\/a.names.lookup x=some .free
def DJ(a:Scope)(x:Str):Prop:=a.names.lookup x=some .local\/a.names.lookup x=some .cell
def Qa(a:Env)(h:Heap)(m:Str->Option Value)(x:Str)(u:Vq):Prop:=(a.kindOf x=some .local/\m x=some u)\/((a.kindOf x=some .cell\/a.kindOf x=some .free)/\∃c,a.cells.lookup x=some c/\h.IsCell c (some u))
structure Cx.Ok(X:Cx):Prop where
 mod:Mod X.K X.mg X.base
 kind:X.env.scope.kind=.function
 glob:X.env.globals=mainGlobals
 blt:X.env.builtins=builtinsNs
 above:X.s₀.heap.objs.size<=X.env.locals
 inj:∀x y c,X.env.cells.lookup x=some c->X.env.cells.lookup y=some c->x=y
 has:∀x,(X.env.kindOf x=some .cell\/X.env.kindOf x=some .free)->∃c,X.env.cells.lookup x=some c
 cab:∀x c,X.fn x=true->X.env.cells.lookup x=some c->X.s₀.heap.objs.size<=c
 hd:X.calm=true->X.A.handled=none
 frames:X.A.frames=some X.stack
 stk:X.stack=X.outer\/(X.stack=X.env::X.outer/\X.env.frame=some X.env.locals)
 exf:∀b∈X.ex,b≠X.env.locals/\∀x c,X.env.cells.lookup x=some c->c≠b
 bs:∀b o,X.base.get? b=some o->X.s₀.heap.get? b=some o/\X.H₀ b=none
 bsz:X.base.objs.size<=X.s₀.heap.objs.size
 noex:∀b o,X.base.get? b=some o->b∉X.ex
 exfs:∀b∈X.ex,b∉X.fs
 funs:X.s₀.heap.FunFrames X.base X.outer
 frf:∀b∈X.fs,X.H₀ b=none
 tab:EF X.base X.H₀
structure gM(X:Cx)(gq:List (Addr×Obj))(σ:List (Option V))(H:Hp)(s:Sq):Prop where
 ok:X.Ok
 os:s.os=X.s₀.os
 bare:AllBare s.gens
 base:Un X.fs X.ex X.H₀ H X.s₀.heap s.heap
 loc:∃m,s.heap.Ns X.env.locals m/\∀(i:Nat) (x:Str) (v:V),X.N[i]? = some x->σ[i]? = some (some v)->OI X.env.scope x->∃u,iD v u/\Qa X.env s.heap m x u
 cell:∀x c,X.env.cells.lookup x=some c->∃v,s.heap.IsCell c v
 free:H X.env.locals=none
 freeC:∀x c,X.env.cells.lookup x=some c->H c=none
 pin:∀p∈X.pn++gq,s.heap.get? p.1=some p.2/\H p.1=none/\p.1≠X.env.locals/\p.1∉X.fs/\∀v,p.2.data≠.cell v
 hok:oS X.prog X.w H s.heap
 len:σ.length=X.N.length
section
variable {X:Cx}{gq:List (Addr×Obj)}{σ:List (Option V)}{H H':Hp}{s:Sq}{h':Heap}
def Cx.Ok.nofr(ok:X.Ok)(e:X.base.get? b=some o):b∉X.fs:=λa=>by have:=(ok.funs.mem a).1;rw[e]at this;cases this
def gM.bs(I:gM X gq σ H s):∀b o,X.base.get? b=some o->s.heap.get? b=some o/\H b=none:=λb o e=>⟨I.base.keep b o (I.ok.bs b o e).1 (I.ok.bs b o e).2 (I.ok.nofr e) (I.ok.noex b o e),I.base.free b o (I.ok.bs b o e).1 (I.ok.bs b o e).2 (I.ok.noex b o e)⟩
def gM.tab(I:gM X gq σ H s):EF X.base H:=λc P d a b=>let ⟨ps,e⟩:=I.ok.tab c P d a b;let ⟨more,q⟩:=I.base.tbls _ _ ps e;⟨ps++more,q⟩
def gM.bk(I:gM X gq σ H s):∀b o,X.base.get? b=some o->s.heap.get? b=some o:=λb o e=>(I.bs b o e).1
def gM.mod(I:gM X gq σ H s):Mod X.K X.mg X.base:=I.ok.mod
def gM.kIn(I:gM X gq σ H s):X.K.In s.heap:=I.ok.mod.kin.keeps I.bk
def gM.lt(I:gM X gq σ H s):X.env.locals<s.heap.objs.size:=let ⟨_,hn,_⟩:=I.loc;hn.lt
def gM.sz(I:gM X gq σ H s):X.s₀.heap.objs.size<=s.heap.objs.size:=aO I.ok.above (bg I.lt)
def gM.nofs(I:gM X gq σ H s)(h:s.heap.objs.size<=a):a∉X.fs:=λb=>by obtain⟨_,o,c,_⟩:=I.ok.funs.mem b;exact absurd (aF (aM c) (aO I.sz h)) (ba _)
def gM.cne(I:gM X gq σ H s):∀x c,X.env.cells.lookup x=some c->c≠X.env.locals:=λx c e z=>by obtain⟨v,o,d,hd⟩:=I.cell x c e;obtain⟨m,⟨g,f,h,b,a,_⟩,_⟩:=I.loc;rw[z,b]at d;cases d;rw[a]at hd;cases hd
def gM.funs(I:gM X gq σ H s):s.heap.FunFrames X.base X.outer:=by
 have all:∀(l:List Env),(∀b∈C5 l,b∈X.fs)->X.s₀.heap.FunFrames X.base l->s.heap.FunFrames X.base l:=by
  intro l;induction l with
  |nil=>intro _ _;trivial
  |cons env r ih=>intro f g;obtain⟨j,⟨L,o,a,h,i,hd⟩,hr⟩:=g;have c:=f L (by unfold C5;rw[bh,a];exact bj);obtain⟨k,e⟩:=I.base.slot L o i (I.ok.frf L c) c λz=>I.ok.exfs L z c;exact⟨j,⟨L,_,a,h,e,hd⟩,ih (λb d=>f b (by unfold C5;rw[bh,a];exact bx _ d)) hr⟩
 exact all X.outer (λ_ d=>d) I.ok.funs
def gM.stack(I:gM X gq σ H s):s.heap.FunFrames X.base X.stack:=by
 rcases I.ok.stk with e|⟨e,a⟩
 .rw[e];exact I.funs
 .rw[e];obtain⟨m,b,_⟩:=I.loc;refine .cons (by rw[I.ok.kind];decide) a b ?_ I.funs;exact Heap.get?_none_of_le (aO I.ok.bsz I.ok.above)
def gM.stkSub(I:gM X gq σ H s):∀b∈C5 X.stack,b∈X.env.locals::X.fs:=λb a=>by
 rcases I.ok.stk with e|⟨e,c⟩
 .rw[e]at a;exact bx _ a
 .rw[e]at a;unfold C5 at a;rw[bh,c]at a;exact a
def gM.stkFree(I:gM X gq σ H s):∀b∈C5 X.stack,H b=none:=λb a=>by
 rcases aG.mp (I.stkSub b a) with e|a
 .rw[e];exact I.free
 .obtain⟨_,o,c,_⟩:=I.ok.funs.mem a;exact I.base.free b o c (I.ok.frf b a) λz=>I.ok.exfs b z a
def gM.step{ch:List Addr}(I:gM X gq σ H s)
  (h:∀b∈ch,(b∈X.ex\/X.s₀.heap.objs.size<=b)/\b≠X.env.locals/\(∀x c,X.env.cells.lookup x=some c->c≠b)/\∀p∈X.pn++gq,p.1≠b)
  (keep:∀b o,b≠X.env.locals->b∉X.fs->b∉ch->s.heap.get? b=some o->H b=none->h'.get? b=some o)
  (slot:∀b o,b≠X.env.locals->b∈X.fs->b∉ch->s.heap.get? b=some o->H b=none->∃Y,h'.get? b=some {o with slots:=Y}) (f:∀b o,b∉ch->s.heap.get? b=some o->H b=none->H' b=none)
  (D:∀b o,b∉ch->s.heap.get? b=some o->∃N,h'.get? b=some N)
  (J:∀b B,H b=some (.tup B)->H' b=some (.tup B)) (K:∀b o u,H b=some (.frz o u)->H' b=some (.frz o u)) (Q:∀b q R,H b=some (.tbl q R)->∃L,H' b=some (.tbl q (R++L)))
  (ns:∀m,s.heap.Ns X.env.locals m->h'.Ns X.env.locals m) (U:oS X.prog X.w H' h') (hg:AllBare g') :
  gM X gq σ H' {s with heap:=h',gens:=g',drawn:=d',toks:=t'}:=by
 have F:∀b o,X.s₀.heap.get? b=some o->b≠X.env.locals:=λb o e=>aN (aF (aM e) I.ok.above);have A:∀b o,X.s₀.heap.get? b=some o->b∉X.ex->b∉ch:=λb o e a C=>by
  rcases (h b C).1 with z|z
  .exact a z
  .exact absurd (aF (aM e) z) (ba _)
 have g:∀x c,X.env.cells.lookup x=some c->∀v,s.heap.IsCell c v->h'.IsCell c v:=λx c e v ⟨o,E,hd⟩=>by
  have j:c∉ch:=λz=>(h c z).2.2.1 x c e rfl;by_cases Z:c∈X.fs
  .obtain⟨Y,q⟩:=slot c o (I.cne x c e) Z j E (I.freeC x c e);exact⟨_,q,hd⟩
  .exact⟨o,keep c o (I.cne x c e) Z j E (I.freeC x c e),hd⟩
 refine⟨I.ok,I.os,hg,⟨λb o e n C a=>?_,λb o e n C a=>?_,λb o e n a=>?_,λb o e a=>?_,λb B e=>J b B (I.base.tups b B e),λb o B e=>K b o B (I.base.frzs b o B e),λb _ R e=>?_⟩,?_,λx c e=>?_,?_,λx c e=>?_,λp hp=>?_,U,I.len⟩
 .exact keep b o (F b o e) C (A b o e a) (I.base.keep b o e n C a) (I.base.free b o e n a)
 .obtain⟨Y,y⟩:=I.base.slot b o e n C a;obtain⟨S,P⟩:=slot b _ (F b o e) C (A b o e a) y (I.base.free b o e n a);exact⟨S,P⟩
 .obtain⟨N,y⟩:=I.base.there b o e a;exact f b N (A b o e a) y (I.base.free b o e n a)
 .obtain⟨N,y⟩:=I.base.there b o e a;exact D b N (A b o e a) y
 .obtain⟨m1,y⟩:=I.base.tbls b _ R e;obtain⟨m2,P⟩:=Q b _ _ y;exact⟨m1++m2,by rw[P,bz]⟩
 .obtain⟨m,hn,hl⟩:=I.loc;refine⟨m,ns m hn,λi x v y P e3=>?_⟩;obtain⟨u,r,l⟩:=hl i x v y P e3;refine⟨u,r,?_⟩;rcases l with l|⟨k,c,e,z⟩
  .exact .inl l
  .exact .inr ⟨k,c,e,g x c e _ z⟩
 .obtain⟨v,z⟩:=I.cell x c e;exact⟨v,g x c e v z⟩
 .obtain⟨m,⟨o,_,_,E,_⟩,_⟩:=I.loc;exact f _ o (λz=>(h _ z).2.1 rfl) E I.free
 .obtain⟨v,o,E,hd⟩:=I.cell x c e;exact f c o (λz=>(h c z).2.2.1 x c e rfl) E (I.freeC x c e)
 .obtain⟨e,n,ne,nf,d⟩:=I.pin p hp;have j:p.1∉ch:=λz=>(h p.1 z).2.2.2 p hp rfl;exact⟨keep p.1 p.2 ne nf j e n,f p.1 p.2 j e n,ne,nf,d⟩
def gM.un(I:gM X gq σ H s)(u:Un X.fs [] H H' s.heap h')(f:oS X.prog X.w H' h'):gM X gq σ H' {s with heap:=h',toks:=t'}:=by obtain⟨m,⟨o,q,l,h,r⟩,_⟩:=id I.loc;obtain⟨x,j⟩:=u.any h I.free (by simp);exact I.step (ch:=[]) (λ_ z=>nomatch z) (λb o _ c _ e n=>u.keep b o e n c (by simp)) (λb o _ c _ e n=>u.slot b o e n c (by simp)) (λb o _ e n=>u.free b o e n (by simp)) (λb o _ e=>u.there b o e (by simp)) u.tups u.frzs u.tbls (λp i=>by obtain⟨v,d,g,a,k⟩:=i;rw[h]at a;cases a;exact⟨_,d,g,j,k⟩) f I.bare
def gM.call(I:gM X gq σ H s)(u:Un (C5 X.stack) ch H H' s.heap h')(i:oS X.prog X.w H' h')(y:AllBare g')
  (d:∀b∈ch,(b∈X.ex\/X.s₀.heap.objs.size<=b)/\b≠X.env.locals/\(∀x c,X.env.cells.lookup x=some c->c≠b)/\∀p∈X.pn++gq,p.1≠b) :
  gM X gq σ H' {s with heap:=h',gens:=g',drawn:=d',toks:=t'}:=by
 obtain⟨m,⟨o,C,A,k,r⟩,_⟩:=id I.loc;obtain⟨E,g⟩:=u.any k I.free λz=>(d _ z).2.1 rfl;exact I.step d (λb o g q a e n=>u.keep b o e n (λz=>(aG.mp (I.stkSub b z)).elim g q) a) (λb o _ _ a e n=>u.any e n a) (λb o a e n=>u.free b o e n a) (λb o a e=>u.there b o e a) u.tups u.frzs u.tbls (λB l=>by obtain⟨D,h,j,f,v⟩:=l;rw[k]at f;cases f;exact⟨_,h,j,g,v⟩) i y
def gM.turned(I:gM X gq σ H s)(k:∀b o,b≠it->s.heap.get? b=some o->h'.get? b=some o)(i:H it=none)(f:it≠X.env.locals)
  (B:it∈X.ex\/X.s₀.heap.objs.size<=it) (A:∀x c,X.env.cells.lookup x=some c->c≠it) (h:∀p∈X.pn++gq,p.1≠it):gM X gq σ H {s with heap:=h',toks:=t'}:=by
 have d:∀b u,H b=some u->b≠it:=λb u e z=>by rw[z,i]at e;cases e
 refine I.step (ch:=[it]) (λb w=>?_) (λb o _ _ a e _=>k b o (λz=>a (by simp[z])) e) (λb o _ _ a e _=>⟨o.slots,k b o (λz=>a (by simp[z])) e⟩) (λ_ _ _ _ n=>n)
  (λb o a e=>⟨o,k b o (λz=>a (by simp[z])) e⟩) (λ_ _ e=>e) (λ_ _ _ e=>e) (λb _ C e=>⟨#[],by rw[e];simp⟩) (λm g=>?_) (λb u e=>?_) I.bare
 .have e:b=it:=by simpa using w
  subst e;exact⟨B,f,A,h⟩
 .obtain⟨o,l,j,y,r⟩:=g;exact⟨o,l,j,k _ o (Ne.symm f) y,r⟩
 .refine (I.hok b u e).stay (λc v a q=>k c v ?_ q) (λ_ q=>q) λ_ _ q=>q;rcases a with z|z
  .rw[z];exact d b u e
  .exact d c _ z
def gM.tok(I:gM X gq σ H s) t:gM X gq σ H {s with toks:=t}:=I.un Un.refl I.hok
def gM.kept(I:gM X gq σ H s)(k:∀b u,s.heap.get? b=some u->h'.get? b=some u):gM X gq σ H {s with heap:=h',toks:=t'}:=I.un (Un.kept k) (I.hok.kept k)
def gM.laid(I:gM X gq σ H s)(k:∀b u,s.heap.get? b=some u->h'.get? b=some u)(c:s.heap.objs.size<=a)(new:jK X.prog X.w (jn H a o) h' a o) :
  gM X gq σ (jn H a o) {s with heap:=h',toks:=t'}:=I.un (Un.laid k c (I.hok.fresh c)) (I.hok.laid k c new)
def gM.write(I:gM X gq σ H s)(d:NC (H x))(c:e=x\/H e=some (.own x))(k:∀b u,b≠e->s.heap.get? b=some u->h'.get? b=some u)(a:∃u,h'.get? e=some u)
  (new:jK X.prog X.w (jn H x o) h' x o):gM X gq σ (jn H x o) {s with heap:=h',toks:=t'}:=I.un (Un.write d c k a) (I.hok.write d c k a new)
def gM.weak(I:gM X gq σ H s)(a:σ'.length=σ.length)(w:∀(i:Nat) v,σ'[i]? = some (some v)->σ[i]? = some (some v)):gM X gq σ' H s:=⟨I.ok,I.os,I.bare,I.base,let ⟨m,hn,hl'⟩:=I.loc;⟨m,hn,λi x v b d c=>hl' i x v b (w i v d) c⟩,I.cell,I.free,I.freeC,I.pin,I.hok,a.trans I.len⟩
def gM.pins_of(I:gM X gq σ H s)(h:∀p∈pins',s.heap.get? p.1=some p.2/\H p.1=none/\p.1≠X.env.locals/\p.1∉X.fs/\∀v,p.2.data≠.cell v):gM X pins' σ H s:=⟨I.ok,I.os,I.bare,I.base,I.loc,I.cell,I.free,I.freeC,λp a=>(aj.mp a).elim (λz=>I.pin p (ay _ z)) (h p),I.hok,I.len⟩
def zC{N:List Str}(d:N.Nodup){i j:Nat}(a:N[i]? = some x)(b:N[j]? = some x):i=j:=by obtain⟨f,c⟩:=ae.mp a;obtain⟨g,e⟩:=ae.mp b;exact (List.getElem_inj d).mp (c.trans e.symm)
def vH{M:Model}{A:Around}{E:Vq->Shared->Prop}{i:Nat}{x:Str}{v:V}{u:Vq}{Q:Unit->Shared->Prop}(I:gM X gq σ H s)(hN:X.N.Nodup)(U:X.N[i]? = some x)(B:DJ X.env.scope x)(r:iD v u)
  (h:∀s',gM X gq (σ.set i (some v)) H s'->(∃a,Heap.SameBut a s.heap s'.heap/\(a=X.env.locals\/X.env.cells.lookup x=some a))->Q () s') (hf:X.fn x=true\/X.env.scope.names.lookup x=some .local:=by first|exact .inl rfl|exact .inr rfl|assumption):wpAny M A (storeName X.env x u) Q E s:=by
 obtain⟨m,hn,hl⟩:=id I.loc;have R:(X.env.scope.kind==.class||(X.env.scope.kind==.module&&X.env.locals != X.env.globals))=false:=by rw[I.ok.kind];rfl
 have F:i<σ.length:=by rw[I.len];exact (ae.mp U).1
 have cne:=I.cne;have tracked:∀{a:Addr} {h':Heap},(∃o,s.heap.get? a=some o/\H a=none)->Heap.SameBut a s.heap h'->oS X.prog X.w H h':=λ{a h'} ha f b ob e=>by
  obtain⟨_,_,C⟩:=ha;refine (I.hok b ob e).stay (λc w' l q=>(f.2 c ?_).trans q) (λ_ q=>q) λ_ _ q=>q;rintro rfl;rcases l with rfl|l
  .rw[C]at e;cases e
  .rw[C]at l;cases l
 rcases B with J|J
 .refine wpAny_storeName_local J hn (λh' hn' f=>?_) R;obtain⟨oL,_,_,hoL,_⟩:=id hn;refine h _ ⟨I.ok,I.os,I.bare,⟨λb o e n K B=>?_,λb o e n K B=>?_,I.base.free,λb o e B=>?_,I.base.tups,I.base.frzs,I.base.tbls⟩,⟨_,hn',λj y v' g D e3=>?_⟩,λy c e=>?_,I.free,I.freeC,λp hp=>?_,tracked ⟨oL,hoL,I.free⟩ f,by simpa using I.len⟩ ⟨_,f,.inl rfl⟩
  .exact (f.2 b (aN (aF (aM e) I.ok.above))).trans (I.base.keep b o e n K B)
  .obtain⟨sl,g⟩:=I.base.slot b o e n K B;exact⟨sl,(f.2 b (aN (aF (aM e) I.ok.above))).trans g⟩
  .obtain⟨o',g⟩:=I.base.there b o e B;exact⟨o',(f.2 b (aN (aF (aM e) I.ok.above))).trans g⟩
  .by_cases P:j=i
   .subst P;rw[U]at g;cases g;rw[List.getElem?_set_self F]at D;cases D;exact⟨u,r,.inl ⟨J,by simp⟩⟩
   .rw[ar (Ne.symm P)]at D;obtain⟨u',r',q⟩:=hl j y v' g D e3;refine⟨u',r',?_⟩;rcases q with⟨k,e⟩|⟨k,c,e,z⟩
    .refine .inl ⟨k,?_⟩;have:y≠x:=λe=>P (zC hN g (e▸U));simp[this,e]
    .exact .inr ⟨k,c,e,z.sameBut f (cne y c e)⟩
  .obtain⟨w',z⟩:=I.cell y c e;exact⟨w',z.sameBut f (cne y c e)⟩
  .obtain⟨e,n,ne,nf,d⟩:=I.pin p hp;exact⟨(f.2 p.1 ne).trans e,n,ne,nf,d⟩
 .have L:X.fn x=true:=by
   rcases hf with z|z
   .exact z
   .rw[z]at J;cases J
  obtain⟨c,l⟩:=I.ok.has x (.inl J);obtain⟨w',z⟩:=I.cell x c l;refine wpAny_storeName_cell I.ok.kind J l z (λh' Z f=>?_);obtain⟨oc,S,hocd⟩:=id z;refine h {s with heap:=h'} ⟨I.ok,I.os,I.bare,⟨λb o e n K B=>?_,λb o e n K B=>?_,I.base.free,λb o e B=>?_,I.base.tups,I.base.frzs,I.base.tbls⟩,⟨m,hn.sameBut f (Ne.symm (cne x c l)),λj y v' g D e3=>?_⟩,λy c' e=>?_,I.free,I.freeC,λp hp=>?_,tracked ⟨oc,S,I.freeC x c l⟩ f,by simpa using I.len⟩ ⟨c,f,.inr l⟩
  .exact (f.2 b (aN (aF (aM e) (I.ok.cab x c L l)))).trans (I.base.keep b o e n K B)
  .obtain⟨sl,g⟩:=I.base.slot b o e n K B;exact⟨sl,(f.2 b (aN (aF (aM e) (I.ok.cab x c L l)))).trans g⟩
  .obtain⟨o',g⟩:=I.base.there b o e B;exact⟨o',(f.2 b (aN (aF (aM e) (I.ok.cab x c L l)))).trans g⟩
  .by_cases P:j=i
   .subst P;rw[U]at g;cases g;rw[List.getElem?_set_self F]at D;cases D;exact⟨u,r,.inr ⟨.inl J,c,l,Z⟩⟩
   .rw[ar (Ne.symm P)]at D;obtain⟨u',r',q⟩:=hl j y v' g D e3;refine⟨u',r',?_⟩;rcases q with q|⟨k,c',e,z'⟩
    .exact .inl q
    .refine .inr ⟨k,c',e,z'.sameBut f ?_⟩;rintro rfl;exact P (zC hN g (I.ok.inj _ _ _ e l▸U))
  .by_cases Y:c'=c
   .subst Y;exact⟨_,Z⟩
   .obtain⟨w2,z2⟩:=I.cell y c' e;exact⟨w2,z2.sameBut f Y⟩
  .obtain⟨e,n,ne,nf,d⟩:=I.pin p hp;refine⟨(f.2 p.1 ?_).trans e,n,ne,nf,d⟩;intro q;rw[q,S]at e;have q':=Option.some.inj e;exact d w' (by rw[<-q'];exact hocd)
def qK{M:Model}{A:Around}{E:Vq->Shared->Prop}{i:Nat}{x:Str}{v:V}{u:Vq}{Q:Unit->Shared->Prop}(I:gM X gq σ H s)(f:X.N.Nodup)(d:X.N[i]? = some x)(b:DJ X.env.scope x)(r:iD v u)
  (h:∀a,gM X gq (σ.set i (some v)) H a->Q () a) (c:X.fn x=true\/X.env.scope.names.lookup x=some .local:=by first|exact .inl rfl|exact .inr rfl|assumption):wpAny M A (storeName X.env x u) Q E s:=
 vH I f d b r (λa e _=>h a e) c
def gM.call'(I:gM X gq σ H s)(g:s'.os=s.os)(u:Un (C5 X.stack) ch H H' s.heap s'.heap)(d:oS X.prog X.w H' s'.heap)(f:AllBare s'.gens)
  (a:∀b∈ch,(b∈X.ex\/X.s₀.heap.objs.size<=b)/\b≠X.env.locals/\(∀x c,X.env.cells.lookup x=some c->c≠b)/\∀p∈X.pn++gq,p.1≠b):gM X gq σ H' s':=by
 obtain⟨h',h,j,k,i⟩:=s';have e:=g;subst e;exact I.call u d f a
end
abbrev XK:=Value->Option Addr->Hp->Prop
abbrev St:=List (Option V)
abbrev VK:=V->Hp->Prop
abbrev TE:=St->Hp->VK->Prop
abbrev TT:=St->Hp->(Bool->Hp->Prop)->Prop
abbrev TA:=St->Hp->(List V->Hp->Prop)->Prop
structure rq where
 nx:St->Hp->Prop
 rt:VK
 bk:St->Hp->Prop:=λ_ _=>False
 ct:St->Hp->Prop:=λ_ _=>False
abbrev TS:=rq->St->Hp->Prop
def EP(X:Cx)(c:List (Addr×Obj))(b:St)(Q:VK)(u:Vq)(d:Sq):Prop:=∃v a,gM X c b a d/\iD v u/\Q v a
def TP(X:Cx)(d:List (Addr×Obj))(c:St)(Q:Bool->Hp->Prop)(b:Bool)(e:Sq):Prop:=∃a,gM X d c a e/\Q b a
def AP(X:Cx)(d:List (Addr×Obj))(c:St)(Q:List V->Hp->Prop)(us:List Vq)(e:Sq):Prop:=∃b a,gM X d c a e/\gZ b us/\Q b a
def SP(X:Cx)(c:List (Addr×Obj))(D:rq)(f:Flow)(d:Sq):Prop:=
 match f with
 |.next=>∃a b,gM X c a b d/\D.nx a b
 |.brk=>∃a b,gM X c a b d/\D.bk a b
 |.cont=>∃a b,gM X c a b d/\D.ct a b
 |.ret u=>∃v a b,gM X c a b d/\iD v u/\D.rt v b
def PE(X:Cx)(e:Expr)(t:TE):Prop:=∀(b:List (Addr×Obj)) (s:Sq) (a:St) (H:Hp) (Q:VK),gM X b a H s->t a H Q->wpAny (model X.prog X.w) X.A (eval e X.env) (EP X b a Q) X.xe s
def PT(X:Cx)(e:Expr)(t:TT):Prop:=∀(b:List (Addr×Obj)) (s:Sq) (a:St) (H:Hp) (Q:Bool->Hp->Prop),gM X b a H s->t a H Q->wpAny (model X.prog X.w) X.A (isTrue e X.env (eval e X.env)) (TP X b a Q) X.xe s
def PW(X:Cx)(e:Expr)(t:TT):Prop:=∀(a:Sem Vq) (c:List (Addr×Obj)) (s:Sq) (b:St) (H:Hp) (Q:Bool->Hp->Prop),gM X c b H s->t b H Q->wpAny (model X.prog X.w) X.A (isTrue e X.env a) (TP X c b Q) X.xe s
def PW.pt(h:PW X e t):PT X e t:=h _
def PA(X:Cx)(es:List Expr)(t:TA):Prop:=∀(pos:Pos) (b:List (Addr×Obj)) (s:Sq) (a:St) (H:Hp) (Q:List V->Hp->Prop),gM X b a H s->t a H Q->wpAny (model X.prog X.w) X.A (spliced (backTo pos (starEach es X.env))) (AP X b a Q) X.xe s
def PS(X:Cx)(st:Stmt)(t:TS):Prop:=∀(b:List (Addr×Obj)) (s:Sq) (a:St) (H:Hp) (D:rq),gM X b a H s->t D a H->wpAny (model X.prog X.w) X.A (exec st X.env) (SP X b D) X.xe s
def zL(X:Cx)(st:List Stmt)(t:TS):Prop:=∀(b:List (Addr×Obj)) (s:Sq) (a:St) (H:Hp) (D:rq),gM X b a H s->t D a H->wpAny (model X.prog X.w) X.A (execs st X.env) (SP X b D) X.xe s
def jw{b:Type}{t:Sem b}{Q c:b->Shared->Prop}{M:Model}{A:Around}{E:Vq->Shared->Prop}{s:Sq}(h:wpAny M A t Q E s)(d:∀a s,Q a s->c a s):wpAny M A t c E s:=wpAny_mono h d λ_ _ x=>x
end L2
namespace L2
open PySem PySem.Spec PyProof.Rows
section
variable {X:Cx}
def qX(i:Nat):TE:=λa H Q=>∃v,a[i]? = some (some v)/\Q v H
def tC(v:V):TE:=λ_ H Q=>Q v H
def Nk(p:X.N[i]? = some x)(hv:OI X.env.scope x)(hd:(x==("__debug__" : Str))=false:=by decide)(f:(x==("__classdict__" : Str))=false:=by decide):PE X (.Name x pos) (qX i):=by
 intro o s q H Q I h;obtain⟨v,e,h⟩:=h;obtain⟨m,n,j⟩:=I.loc;obtain⟨u,r,l⟩:=j i x v p e hv;have b:EP X o q Q u s:=⟨v,H,I,r,h⟩;rcases l with⟨d,k⟩|⟨d,c,g,a⟩
 .exact wpAny_Name (wpAny_loadName_local I.ok.kind d n k b) hd
 .rcases d with d|d
  .exact wpAny_Name (wpAny_loadName_cell I.ok.kind d g a b) hd
  .exact wpAny_Name (wpAny_loadName_free I.ok.kind d g a b f) hd
def Nq{i j pos}:PE X (.Constant (.int i) j pos) (tC (.int i)):=λ_ _ _ H _ I h=>wpAny_Constant_int ⟨.int i,H,I.tok _,⟨_,rfl⟩,h⟩
def Of{b j pos}:PE X (.Constant (.bool b) j pos) (tC (.bl b)):=λ_ _ _ H _ I h=>Constant_bool ⟨.bl b,H,I,rfl,h⟩
def Lg{j pos}:PE X (.Constant .none j pos) (tC .non):=λ_ _ _ H _ I h=>Constant_none ⟨.non,H,I,rfl,h⟩
def Gl(X:Cx)(x:Str):Prop:=X.env.kindOf x=some .globalImplicit
def BS(I:gM X gq σ H s)(b:Gl X x)(a:X.mg x=some u)(h:Q u s)
  (hd:(x==("__debug__" : Str))=false:=by decide):wpAny (model X.prog X.w) X.A (eval (.Name x pos) X.env) Q E s:=
 Calls.Name_function_global I.ok.kind b (Calls.loadGlobal_global (by rw[I.ok.glob];exact I.mod.glob.keeps I.bk) a h) hd
def mZ(I:gM X gq σ H s)(c:Gl X x)(a:X.mg x=none)(hv:bootBuiltins x=some u)(h:Q u s)
  (e:x≠ "__name__" :=by decide) (hd:(x==("__debug__" : Str))=false:=by decide):wpAny (model X.prog X.w) X.A (eval (.Name x pos) X.env) Q E s:=by
 obtain⟨f,b,d⟩:=I.mod.blt;exact Calls.Name_function_global I.ok.kind c (Calls.loadGlobal_builtin (by rw[I.ok.glob];exact I.mod.glob.keeps I.bk) a (by rw[I.ok.blt];exact b.keeps I.bk) ((d x e).trans hv) h) hd
def Jo(b:Gl X x)(a:X.mg x=some u)(r:iD v u)(hd:(x==("__debug__" : Str))=false:=by decide):PE X (.Name x pos) (tC v):=λ_ _ _ H _ I h=>BS I b a ⟨v,H,I,r,h⟩ hd
def Ie(b:Gl X x)(a:X.mg x=none)(hv:bootBuiltins x=some u)(r:iD v u)(c:x≠ "__name__" :=by decide)(hd:(x==("__debug__" : Str))=false:=by decide):PE X (.Name x pos) (tC v):=λ_ _ _ H _ I h=>mZ I b a hv ⟨v,H,I,r,h⟩ c hd
variable {a b:Expr}{ta tb:TE}{pos:Pos}
def tB(t:TE):TT:=λd H Q=>t d H λx e=>∃c,x=.bl c/\Q c e
def L7(h:PE X e t)(g:∀c,isTrue e X.env c=(do let v <-c;standAt e.pos;holding [v] (truthy v)):=by intro _;rfl):PT X e (tB t):=by intro i s f H Q I hw;refine isTrue_plain (jw (h i s f H _ I hw) λv s1 ⟨x,H1,I1,r1,q1⟩=>?_) (g _);obtain⟨d,rfl,q⟩:=q1;cases r1;exact wpAny_truthy_bool ⟨H1,I1,q⟩
variable {tA tB':TT}{jD:List Expr}
def MD(t u:TT):TT:=λd H Q=>t d H λc e=>if c=true then u d e Q else Q false e
def PR(t u:TT):TT:=λd H Q=>t d H λc e=>if c=true then Q true e else u d e Q
def KF(t:TT):TT:=λd H Q=>t d H λc e=>Q (!c) e
def JY(g:PT X a tA):PW X (.BoolOp .And [a] pos) tA:=by
 intro j f s d H Q I h;refine isTrue_and (jw (g f s d H Q I h) λc i e=>?_);cases c with
 |true=>exact isTrue_and_nil e
 |false=>exact e
def MJ(g:PT X a tA):PW X (.BoolOp .Or [a] pos) tA:=by
 intro j f s d H Q I h;refine isTrue_or (jw (g f s d H Q I h) λc i e=>?_);cases c with
 |false=>exact isTrue_or_nil e
 |true=>exact e
def LR(i:PT X a tA)(g:PW X (.BoolOp .And (b::jD) pos) tB'):PW X (.BoolOp .And (a::b::jD) pos) (MD tA tB'):=by
 intro f e s d H Q I h;refine isTrue_and (jw (i e s d H _ I h) λc s1 ⟨H1,I1,q1⟩=>?_);cases c with
 |true=>exact g f e s1 d H1 Q I1 q1
 |false=>exact⟨H1,I1,q1⟩
def OV(i:PT X a tA)(g:PW X (.BoolOp .Or (b::jD) pos) tB'):PW X (.BoolOp .Or (a::b::jD) pos) (PR tA tB'):=by
 intro f e s d H Q I h;refine isTrue_or (jw (i e s d H _ I h) λc s1 ⟨H1,I1,q1⟩=>?_);cases c with
 |true=>exact⟨H1,I1,q1⟩
 |false=>exact g f e s1 d H1 Q I1 q1
def MP(g:PT X a tA):PT X (.UnaryOp .Not a pos) (KF tA):=by intro f s d H Q I h;exact isTrue_not (g f s d H (λc e=>Q (!c) e) I h)
def G3(ta tb:TE):TE:=λd H Q=>ta d H λx e=>∃c,x=.bl c/\if c=true then tb d e Q else Q (.bl false) e
def GU(ta:TE):TE:=λd H Q=>ta d H λx e=>∃c,x=.bl c/\Q (.bl (!c)) e
def M6{op}(h:PE X a t):PE X (.BoolOp op [a] pos) t:=λd s c H Q I hw=>BoolOp_one (h d s c H Q I hw)
def Mb(i:PE X a ta)(g:PE X (.BoolOp .And (b::jD) pos) tb):PE X (.BoolOp .And (a::b::jD) pos) (G3 ta tb):=by
 intro f s e H Q I h;refine BoolOp_and (jw (i f s e H _ I h) λv s1 ⟨x,H1,I1,r1,d⟩=>?_);obtain⟨c,rfl,d⟩:=d;cases r1;refine wpAny_truthy_bool ?_;cases c with
 |true=>exact g f s1 e H1 Q I1 d
 |false=>exact⟨.bl false,H1,I1,rfl,d⟩
def KL(g:PE X a ta):PE X (.UnaryOp .Not a pos) (GU ta):=by intro f s e H Q I h;refine UnaryOp_ (jw (g f s e H _ I h) λv s1 ⟨x,H1,I1,r1,d⟩=>?_);obtain⟨c,rfl,d⟩:=d;cases r1;exact not_of (wpAny_truthy_bool ⟨.bl (!c),H1,I1,rfl,d⟩)
def PV(t:TT)(ta tb:TE):TE:=λd H Q=>t d H λc e=>if c=true then ta d e Q else tb d e Q
def GV(g:PT X c tA)(j:PE X a ta)(i:PE X b tb):PE X (.IfExp c a b pos) (PV tA ta tb):=by
 intro f s e H Q I h;refine wpAny_IfExp (jw (g f s e H _ I h) λd s1 ⟨H1,I1,q1⟩=>?_);cases d with
 |true=>exact j f s1 e H1 Q I1 q1
 |false=>exact i f s1 e H1 Q I1 q1
end
end L2
namespace L2
open PySem PySem.Spec PyProof.Rows
def kK(K:W.Frag)(H:Hp)(a:Addr)(b:List V):Prop:=
 Rd H a (.lst b)\/
  ∃(o:Obj) (gF:Array Vq) (n:Nat),K.lookup a=some o/\o.cls=.type "list" /\o.dict=none/\o.data=.seq gF n/\gF.size<=sizeLine/\gZ b gF.toList
def lR(K:W.Frag)(H:Hp)(a:Addr)(b:List V):Prop:=
 Rd H a (.tup b)\/
  ∃(o:Obj) (gF:Array Vq) (n:Nat),K.lookup a=some o/\o.cls=.type "tuple" /\o.data=.seq gF n/\gF.size<=sizeLine/\gZ b gF.toList
def P3:Vq->Option V
 |.none=>some .non
 |.bool b=>some (.bl b)
 |.int i _=>some (.int i)
 |.str x _=>some (.str x)
 |.bytes b _=>some (.byt b)
 |.float b _=>some (.flt b)
 |.ref a=>some (.ref a)
 |.type n=>some (.ty n)
 |_=>none
def iD.abs(r:iD x u):P3 u=some x:=by
 cases x with
 |non=>cases r;rfl
 |bl _=>cases r;rfl
 |int _=>obtain⟨t,rfl⟩:=r;rfl
 |str _=>obtain⟨t,rfl⟩:=r;rfl
 |byt _=>obtain⟨t,rfl⟩:=r;rfl
 |flt _=>obtain⟨t,rfl⟩:=r;rfl
 |ref _=>cases r;rfl
 |ty _=>cases r;rfl
def iD.inj(r:iD x u)(q:iD y u):x=y:=Option.some.inj (r.abs.symm.trans q.abs)
theorem gZ.inj:∀{xs ys} {us},gZ xs us->gZ ys us->xs=ys
 |_,_,_,.nil,.nil=>rfl
 |_,_,_,.cons r t,.cons r' t'=>by rw[r.inj r',gZ.inj t t']
section
variable {X:Cx}{gq:List (Addr×Obj)}{σ:St}{H:Hp}{s:Sq}{a:Addr}{xs ys:List V}
def kK.of{K:W.Frag}(h:H a=some (.lst xs)):kK K H a xs:=.inl (.inl h)
def lR.of{K:W.Frag}(h:H a=some (.tup xs)):lR K H a xs:=.inl (.inl h)
def gM.list(I:gM X gq σ H s)(h:kK X.K H a xs):∃gF:List Vq,gZ xs gF/\PlainL s.heap a gF.toArray/\xs.length<=sizeLine:=by
 rcases h with h|⟨o,gF,n,b,c,hd,d,f,r⟩
 .obtain⟨z,gF,n,r,e⟩:=h.ok I.hok;exact⟨gF,r,⟨_,n,e,rfl,rfl,rfl⟩,z⟩
 .refine⟨gF.toList,r,⟨o,n,I.kIn a o b,c,hd,by simpa using d⟩,?_⟩;have e:=r.length;simp only[bA]at e;omega
def gM.tuple(I:gM X gq σ H s)(h:lR X.K H a xs):∃gF:List Vq,gZ xs gF/\IsTup s.heap a gF.toArray/\xs.length<=sizeLine:=by
 rcases h with h|⟨o,gF,n,b,c,d,f,r⟩
 .obtain⟨z,gF,r,p⟩:=h.ok I.hok;exact⟨gF,r,p.tup,z⟩
 .refine⟨gF.toList,r,⟨o,I.kIn a o b,c,n,by simpa using d⟩,?_⟩;have e:=r.length;simp only[bA]at e;omega
def gM.list_inj(I:gM X gq σ H s)(h:kK X.K H a xs)(h':kK X.K H a ys):xs=ys:=by
 obtain⟨gF,r,⟨o,n,e,_,_,d⟩,_⟩:=I.list h;obtain⟨b,i,⟨k,j,c,_,_,f⟩,_⟩:=I.list h';rw[e]at c;cases c;rw[d]at f;injection f with g _;have:gF=b:=by simpa using congrArg Array.toList g
 subst this;exact r.inj i
def gM.tuple_inj(I:gM X gq σ H s)(h:lR X.K H a xs)(h':lR X.K H a ys):xs=ys:=by
 obtain⟨gF,r,⟨o,e,_,n,d⟩,_⟩:=I.tuple h;obtain⟨b,i,⟨k,c,_,j,f⟩,_⟩:=I.tuple h';rw[e]at c;cases c;rw[d]at f;injection f with g _;have:gF=b:=by simpa using congrArg Array.toList g
 subst this;exact r.inj i
end
noncomputable abbrev Cx.wish(X:Cx)(E:Vq->Shared->Prop):Cx:={X with xe:=E}
abbrev Cx.nox(X:Cx):Cx:=X.wish λ_ _=>False
def Cx.Ok.wish{X:Cx}(ok:X.Ok) E:(X.wish E).Ok:=⟨ok.mod,ok.kind,ok.glob,ok.blt,ok.above,ok.inj,ok.has,ok.cab,ok.hd,ok.frames,ok.stk,ok.exf,ok.bs,ok.bsz,ok.noex,ok.exfs,ok.funs,ok.frf,ok.tab⟩
def Cx.Ok.unwish{X:Cx}(ok:(X.wish E).Ok):X.Ok:=⟨ok.mod,ok.kind,ok.glob,ok.blt,ok.above,ok.inj,ok.has,ok.cab,ok.hd,ok.frames,ok.stk,ok.exf,ok.bs,ok.bsz,ok.noex,ok.exfs,ok.funs,ok.frf,ok.tab⟩
section
variable {X:Cx}{gq:List (Addr×Obj)}{σ:St}{H:Hp}{s:Sq}{E:Vq->Shared->Prop}
def gM.wish(I:gM X gq σ H s) E:gM (X.wish E) gq σ H s:=⟨I.ok.wish E,I.os,I.bare,I.base,I.loc,I.cell,I.free,I.freeC,I.pin,I.hok,I.len⟩
def gM.unwish(I:gM (X.wish E) gq σ H s):gM X gq σ H s:=⟨I.ok.unwish,I.os,I.bare,I.base,I.loc,I.cell,I.free,I.freeC,I.pin,I.hok,I.len⟩
def SP.unwish(h:SP (X.wish E) gq D f s'):SP X gq D f s':=by
 cases f with
 |next=>obtain⟨a,b,I,q⟩:=h;exact⟨a,b,I.unwish,q⟩
 |brk=>obtain⟨a,b,I,q⟩:=h;exact⟨a,b,I.unwish,q⟩
 |cont=>obtain⟨a,b,I,q⟩:=h;exact⟨a,b,I.unwish,q⟩
 |ret u=>obtain⟨v,a,b,I,r,q⟩:=h;exact⟨v,a,b,I.unwish,r,q⟩
def zL.nox{st:List Stmt}(h:zL X.nox st t):zL X st t:=λgq s σ H D I hw=>wpAny_mono (h gq s σ H D (I.wish _) hw) (λ_ _ q=>q.unwish) λ_ _ z=>False.elim z
end
section
variable {X:Cx}{st:Stmt}{jD:List Stmt}{t u:TS}{e:Expr}{te:TE}{pos:Pos}
def Fx:TS:=λD a H=>D.nx a H
def L5(t u:TS):TS:=λD a H=>t {D with nx:=u D} a H
def Ji:zL X [] Fx:=λ_ _ a H _ I h=>wpAny_execs_nil ⟨a,H,I,h⟩
def GA(k:PS X st t)(j:zL X jD u):zL X (st::jD) (L5 t u):=by
 intro b s c H D I h;refine wpAny_execs_cons (jw (k b s c H {D with nx:=u D} I h) λf g q=>?_);cases f with
 |next=>obtain⟨a,i,d,q⟩:=q;exact j b g a i D d q
 |ret v=>exact q
 |brk=>exact q
 |cont=>exact q
def HK(c:PS X st t):zL X [st] t:=by
 intro b s a H D I h;refine wpAny_execs_cons (jw (c b s a H D I h) λf d q=>?_);cases f with
 |next=>exact wpAny_execs_nil q
 |ret v=>exact q
 |brk=>exact q
 |cont=>exact q
def gM.quiet(I:gM X gq σ H s):interactive X.env=false:=by simp[interactive,I.ok.kind]
def uk(te:TE):TS:=λD a H=>te a H λ_ b=>D.nx a b
def wZ(b:PE X e te)(hs:swapsWith e none pos.line X.env=pure false:=by rfl):PS X (.Expr e pos) (uk te):=by intro c s a H D I h;exact wpAny_Expr_any (jw (b c s a H _ I h) λv s1 ⟨x,H1,I1,r1,q1⟩=>⟨a,H1,I1,q1⟩) I.quiet hs
def AJ(te:TE):TS:=λD a H=>te a H D.rt
def zM(b:PE X e te):PS X (.Return (some e) pos) (AJ te):=by intro c s a H D I h;exact wpAny_Return_some (jw (b c s a H _ I h) λv s1 ⟨x,H1,I1,r1,q1⟩=>⟨x,a,H1,I1,r1,q1⟩)
def KI(c:TT)(t u:TS):TS:=λD a H=>c a H λb d=>if b=true then t D a d else u D a d
def NP(i:PT X c tc)(k:zL X a t)(j:zL X b u):PS X (.If c a b pos) (KI tc t u):=by
 intro g s f H D I h;refine wpAny_If (jw (i g s f H _ I h) λd s1 ⟨H1,I1,q1⟩=>?_);cases d with
 |true=>exact k g s1 f H1 D I1 q1
 |false=>exact j g s1 f H1 D I1 q1
def zR:TS:=λ_ _ _=>False
def El:PS X st zR:=λ_ _ _ _ _ _ h=>h.elim
end
abbrev TG:=V->St->Hp->(St->Hp->Prop)->Prop
abbrev Hs:=List V->St->Hp->(St->Hp->Prop)->Prop
def PG(X:Cx)(target:Expr)(t:TG):Prop:=
 ∀(c:List (Addr×Obj)) (s:Sq) (b:St) (H:Hp) (v:V) (u:Vq) (Q:St->Hp->Prop),gM X c b H s->iD v u->t v b H Q->
  wpAny (model X.prog X.w) X.A (assign target X.env u) (λ_ e=>∃a d,gM X c a d e/\Q a d) X.xe s
def Nu(X:Cx)(ts:List Expr)(t:Hs):Prop:=
 ∀(c:List (Addr×Obj)) (s:Sq) (b:St) (H:Hp) (e:List V) (f:List Vq) (Q:St->Hp->Prop),gM X c b H s->gZ e f->t e b H Q->
  wpAny (model X.prog X.w) X.A (assignInOrder ((assignEach ts X.env).map (·.2)) f) (λ_ g=>∃a d,gM X c a d g/\Q a d) X.xe s
abbrev OK:=V->V->V->Hp->(Hp->Prop)->Prop
def NX(X:Cx)(t:OK):Prop:=
 ∀(d:List (Addr×Obj)) (s:Sq) (a:St) (H:Hp) (o i v:V) (c b u:Vq) (Q:Hp->Prop),gM X d a H s->iD o c->iD i b->iD v u->t o i v H Q->
  wpAny (model X.prog X.w) X.A (setItem c b u) (λ_ f=>∃e,gM X d a e f/\Q e) X.xe s
section
variable {X:Cx}{pos:Pos}
def j2(i:Nat):TG:=λv a H Q=>Q (a.set i (some v)) H
def B2(d:X.N.Nodup)(e:X.N[i]? = some x)(a:DJ X.env.scope x)(b:X.fn x=true\/X.env.scope.names.lookup x=some .local:=by first|exact .inl rfl|exact .inr rfl|assumption):PG X (.Name x pos) (j2 i):=by intro g s f H v u Q I r h;exact wpAny_assign_Name (qK I d e a r (λj c=>⟨_,H,c,h⟩) b)
def Dp:Hs:=λb a H Q=>b=[]/\Q a H
def uo(t:TG)(u:Hs):Hs:=λd b H Q=>∃v r,d=v::r/\t v b H λa c=>u r a c Q
def A8:Nu X [] Dp:=by intro b s a H c d Q I r h;obtain⟨e,h⟩:=h;subst e;cases r;exact assignInOrder_nil ⟨a,H,I,h⟩
theorem xW(f:PG X e t)(d:Nu X es u)
  (hs:(assignEach (e::es) X.env).map (·.2)=assign e X.env::(assignEach es X.env).map (·.2):=by rfl):Nu X (e::es) (uo t u):=by
 intro a s b H i j Q I r h;obtain⟨v,g,c,h⟩:=h;subst c;cases r with
 |cons r rr=>rw[hs];refine assignInOrder_cons (jw (f a s b H _ _ _ I r h) λ_ s1 ⟨σ1,H1,I1,q1⟩=>?_);exact d a s1 σ1 H1 _ _ Q I1 rr q1
def Da(K:W.Frag)(n:Nat)(t:Hs):TG:=λv c H Q=>∃a b,v=.ref a/\lR K H a b/\b.length=n/\t b c H Q
def Fm(i:X.calm=true)(h:Nu X es t)
  (l:(assignEach es X.env).length=n:=by rfl) (c:(assignEach es X.env).findIdx? (·.1)=none:=by rfl):PG X (.Tuple es k pos) (Da X.K n t):=by
 intro w s y H v u Q I r hw;obtain⟨a,m,q,j,g,hw⟩:=hw;subst q;cases r;obtain⟨gF,d,x,A⟩:=I.tuple j;refine assign_Tuple_tuple (I.ok.hd i) x (by simp[l,<-g,d.length]) c λz f=>?_;have p:=I.kept (t':=s.toks) λb o e=>f b o (aN (aM e)) e;exact h w _ y H m _ Q p (by simpa using d) hw
def Kz(to b:TE)(t:OK):TG:=λv a H Q=>to a H λo c=>b a c λi d=>t o i v d λe=>Q a e
def L9(c:PE X o to)(e:PE X i ti)(hs:NX X t)
  (d:∀v,assign (.Subscript o i pos) X.env v=(do
   let ov <-holding [v] (eval o X.env)
   let iv <-holding [v,ov] (eval i X.env)
   standAt pos
   holding [v,ov,iv] (setItem ov iv v)
   release [v,ov,iv] []):=by intro _;rfl):PG X (.Subscript o i pos) (Kz to ti t):=by
 intro b s a H v u Q I r h;rw[d];refine aq (wpAny_holding (jw (c b s a H _ I h) λov s1 ⟨x,H1,I1,r1,q1⟩=>?_));refine aq (wpAny_holding (jw (e b s1 a H1 _ I1 q1) λiv s2 ⟨y,H2,I2,r2,q2⟩=>?_));refine aq (wpAny_standAt (aq (wpAny_holding (jw (hs b s2 a H2 x y v ov iv u _ I2 r1 r2 r q2) λ_ s3 ⟨H3,I3,q3⟩=>?_))));exact wpAny_release ⟨a,H3,I3,q3⟩
def oM(b:TE)(g:TG):TS:=λD a H=>b a H λx c=>g x a c D.nx
def KN(c:PE X e te)(f:PG X tg g)(hs:swapsWithSole [tg] e pos.line X.env=pure false:=by rfl)(hw:swappedStores [tg] e X.env=pure none:=by rfl)
  (d:(assignEach [tg] X.env).map (·.2)=[assign tg X.env]:=by rfl):PS X (.Assign [tg] e pos) (oM te g):=by
 intro b s a H D I h;refine wpAny_Assign_stores (jw (c b s a H _ I h) λv s1 ⟨x,H1,I1,r1,q1⟩=>?_) hs hw;rw[d];exact jw (f b s1 a H1 x v _ I1 r1 q1) λ_ i q=>q
def AD(j:X.N.Nodup)(k:X.N[i]? = some x)(a:DJ X.env.scope x)(b:PE X e te)(hs:swapsWith e (some (.Name x pos')) pos.line X.env=pure false:=by rfl)(c:X.fn x=true\/X.env.scope.names.lookup x=some .local:=by first|exact .inl rfl|exact .inr rfl|assumption) :
  PS X (.Assign [.Name x pos'] e pos) (oM te (j2 i)):=by
 intro g s d H D I h;refine wpAny_Assign_Name (jw (b g s d H _ I h) λv s1 ⟨y,H1,I1,r1,q1⟩=>?_) hs;exact qK I1 j k a r1 (λl f=>⟨_,H1,f,q1⟩) c
def Nm(i j:Nat)(c:TA):TS:=λD a H=>c a H λd b=>∃v w,d=[v,w]/\D.nx ((a.set i (some v)).set j (some w)) b
theorem M4{kt k2 pt2}(B:X.calm=true)(u:X.N.Nodup)(F:X.N[i]? = some x)(J:X.N[j]? = some y)(f:i≠j)
  (l:X.env.scope.names.lookup x=some .local) (n:X.env.scope.names.lookup y=some .local) (E:PA X [a,b] ta)
  (hw:swappedStores [.Tuple [.Name x px,.Name y py] kt pt] (.Tuple [a,b] k2 pt2) X.env=pure (some [x,y]))
  (hs:swapsWithSole [.Tuple [.Name x px,.Name y py] kt pt] (.Tuple [a,b] k2 pt2) pos.line X.env=pure false:=by rfl) :
  PS X (.Assign [.Tuple [.Name x px,.Name y py] kt pt] (.Tuple [a,b] k2 pt2) pos) (Nm i j ta):=by
 intro r s z H D I h;rw[exec_Assign_arm];refine aq (wpAny_standAt ?_);rw[hs];refine aq (ao ?_);rw[aS (by decide)];refine aq (Tuple_ (jw (E _ r s z H _ I h) λus s1 ⟨vs,H1,I1,r1,g⟩=>?_));obtain⟨v,w,K,g⟩:=g;subst K;obtain⟨d,c,rfl,rv,rw'⟩:∃d c,us=[d,c]/\iD v d/\iD w c:=by
  cases r1 with
  |cons p q=>
   cases q with
   |cons p' q'=>cases q';exact⟨_,_,rfl,p,p'⟩
 refine wpAny_newObj_type ?_ (by show 2<=sizeLine;decide);have L:gM X r z H1 {s1 with heap:=s1.heap.push {cls:=.type "tuple",data:=.seq [d,c].toArray}}:=I1.kept λb o e=>af _ e;rw[hw];refine aq (ao ?_);show wpAny (model X.prog X.w) X.A (do rule "assign.swapped-stores";let items <-unpackItems (.ref s1.heap.objs.size) 2 none;assignInOrder [λv=>bindName X.env y v,λv=>bindName X.env x v] items.reverse;pure Flow.next) _ _ _;refine aq (wpAny_rule (aq (unpackItems_tuple (items:=#[d,c]) (I.ok.hd B) (IsTup.new s1.heap _) λS k=>?_)));have C:=L.kept (t':=s1.toks) λb o e=>k b o (aN (aM e)) e;refine aq (assignInOrder_cons (wpAny_bindName (qK C u J (.inl n) rw' (λQ P=>?_) (.inr n))));refine assignInOrder_cons (wpAny_bindName (qK P u F (.inl l) rv (λR m=>assignInOrder_nil (ao ?_)) (.inr l)));rw[List.set_comm _ _ (Ne.symm f)]at m;exact⟨_,H1,m,g⟩
end
section
variable {X:Cx}{pos:Pos}
def AN(c:TT)(h:TS):TS:=λD a H=>∃W:Nat->St->Hp->Prop,(∃m,W m a H)/\∀m a H,W m a H->
 c a H λb f=>if b=true then ∃N:St->Hp->Prop,(∀d g,N d g->∃e,e<m/\W e d g)/\h {D with nx:=N,ct:=N,bk:=D.nx} a f else D.nx a f
def Fc(z:PassesOwn (model X.prog X.w) X.A X.env X.xe)(B:PT X c tc)(F:zL X body tb):PS X (.While c body [] pos) (AN tc tb):=by
 intro q s P H D I h;obtain⟨W,⟨K,Q⟩,i⟩:=h;refine wpAny_While (codeAny_whileLoop (λn L=>∃g x,gM X q g x L/\W n g x) ?_ K ⟨P,H,I,Q⟩);rintro n E ⟨d,u,J,C⟩;refine wpAny_passesOwn z (jw (B q E d u _ J (i n d u C)) λb s2 ⟨H2,I2,j⟩=>?_);cases b with
 |true=>
  obtain⟨N,y,j⟩:=j;rw[aR rfl];refine wpAny_passesOwn z (jw (F q s2 d H2 _ I2 j) λf R k=>?_);cases f with
  |next=>obtain⟨a,e,l,r⟩:=k;obtain⟨o,m,p⟩:=y a e r;exact⟨o,m,a,e,l,p⟩
  |cont=>obtain⟨a,e,l,r⟩:=k;obtain⟨o,m,p⟩:=y a e r;exact⟨o,m,a,e,l,p⟩
  |brk=>exact k
  |ret v=>exact k
 |false=>rw[aS aI];exact wpAny_execs_nil ⟨d,H2,I2,j⟩
end
structure It where
 go:Nat->Hp->Prop
 yld:Nat->Hp->V->Hp->Prop
 stop:Nat->Hp->Prop
def rA(X:Cx)(a:List (Addr×Obj))(H:Hp)(b:Addr):Prop:=H b=none/\b≠X.env.locals/\b∉X.fs/\(b∈X.ex\/X.s₀.heap.objs.size<=b)/\(∀x c,X.env.cells.lookup x=some c->c≠b)/\∀p∈X.pn++a,p.1≠b
def gM.fpOk(I:gM X gq σ H s)(a:s.heap.objs.size<=b)(f:H' b=none):rA X gq H' b:=by
 refine⟨f,bB (aF I.lt a),I.nofs a,.inr (aO I.sz a),λx c e z=>?_,λp d z=>?_⟩
 .obtain⟨v,q⟩:=I.cell x c e;exact absurd (aF q.lt (by rw[z];exact a)) (ba _)
 .exact absurd (aF (aM (I.pin p d).1) (by rw[z];exact a)) (ba _)
structure AS(P:Program)(w:World)(K:W.Frag)(tg:Expr)(J:It)(fp:List Addr)(it:Addr)(tn:Nat->Heap->Prop):Prop where
 mem:it∈fp
 obj:∀i h,tn i h->∀b∈fp,∃o,h.get? b=some o/\∀v,o.data≠.cell v
 keep:∀i h h',tn i h->(∀b∈fp,∀o,h.get? b=some o->h'.get? b=some o)->tn i h'
 item:∀(X:Cx),X.prog=P->X.w=w->X.K=K->X.calm=true->∀(i:Nat) (gq:List (Addr×Obj)) (s:Sq) (σ:St) (H:Hp) (E:Vq->Shared->Prop),gM X gq σ H s->(∀b∈fp,rA X gq H b)->tn i s.heap->J.go i H->
  wpAny (model P w) X.A (pyNext (.ref it)) (λr s1=>∃u,r=some u/\
   wpAny (model P w) X.A (letOwnedTupleGo tg (.ref it) u) (λ_ s2=>∃x H',gM X gq σ H' s2/\iD x u/\J.yld i H x H'/\tn (i+1) s2.heap/\∀b∈fp,H' b=none) E s1) E s
 done:∀(X:Cx),X.prog=P->X.w=w->X.K=K->X.calm=true->∀(i:Nat) (gq:List (Addr×Obj)) (s:Sq) (σ:St) (H:Hp) (E:Vq->Shared->Prop),gM X gq σ H s->(∀b∈fp,rA X gq H b)->tn i s.heap->J.stop i H->
  wpAny (model P w) X.A (pyNext (.ref it)) (λr s1=>r=none/\gM X gq σ H s1) E s
 self:∀(A:Around) (i:Nat) (s:Sq) (Q:Vq->Shared->Prop) (E:Vq->Shared->Prop),tn i s.heap->Q (.ref it) s->wpAny (model P w) A (pyIter (.ref it)) Q E s
abbrev TI:=St->Hp->(It->Hp->Prop)->Prop
def QB(X:Cx)(e:List (Addr×Obj))(h:St)(i:Expr)(R:It->Hp->Prop)(a:Vq)(g:Sq):Prop:=∃(it:Addr) (d:List Addr) (f:Nat->Heap->Prop) (J:It) (c:Hp),a=.ref it/\gM X e h c g/\AS X.prog X.w X.K i J d it f/\f 0 g.heap/\(∀b∈d,rA X e c b)/\R J c
def PI(X:Cx)(e a:Expr)(f:TI):Prop:=
 ∀(c:List (Addr×Obj)) (s:Sq) (b:St) (H:Hp) (R:It->Hp->Prop),gM X c b H s->f b H R->
  wpAny (model X.prog X.w) X.A (eval a X.env) (λv d=>wpAny (model X.prog X.w) X.A (pyIter v) (QB X c b e R) X.xe d) X.xe s
theorem G6{M:Model}{A:Around}{E:Vq->Shared->Prop}{s:Sq}{b:Expr}{it:Addr}{u:Vq}{o:Obj}{n:String}{vs:Array Vq}{Q:Unit->Shared->Prop}(e:s.heap.get? it=some o)(c:o.cls=.type n)(hd:o.data=.fields vs)
    (d:["enumerate", "zip", "dict_itemiterator", "dict_reverseitemiterator", "odict_iterator", "itertools.zip_longest", "itertools.pairwise"].contains n=false) (a:Q () s):wpAny M A (letOwnedTupleGo b (.ref it) u) Q E s:=by
  unfold letOwnedTupleGo;cases b<;>first
    |exact ao a
    | (cases u<;>first
        |exact ao a
        | (refine aq (wpAny_load e ?_)
           rw[c,hd]
           show wpAny M A (if (["enumerate", "zip", "dict_itemiterator", "dict_reverseitemiterator", "odict_iterator", "itertools.zip_longest", "itertools.pairwise"].contains n&&vs[0]? == some (rawInt _))=true then _ else _) Q E s
           rw[aS (by intro h;rw[d,bC]at h;cases h)]
           exact ao a))
noncomputable def Qd(K:W.Frag)(a:Addr):It:=⟨λi H=>∃b x,kK K H a b/\b[i]? = some x,λi H x c=>c=H/\∀b,kK K H a b->b[i]? = some x,λi H=>∃b,kK K H a b/\b.length<=i⟩
noncomputable def P9(K:W.Frag)(a:Addr):It:=⟨λi H=>∃b x,lR K H a b/\b[i]? = some x,λi H x c=>c=H/\∀b,lR K H a b->b[i]? = some x,λi H=>∃b,lR K H a b/\b.length<=i⟩
noncomputable def Nx(b:Int)(n:Nat):It:=⟨λi _=>i<n,λi H x a=>a=H/\x=.int (b+i),λi _=>n<=i⟩
def Ci{K:W.Frag} a it:AS P w K tg (Qd K a) [it] it (λi h=>h.IsListIter it a i) where
 mem:=by simp
 obj:=λi h st b f=>by
  have e:b=it:=by simpa using f
  subst e;obtain⟨o,e,c,d⟩:=st;exact⟨o,e,λv z=>by rw[d]at z;cases z⟩
 keep:=λi h L st k=>st.at λo e=>k it (by simp) o e
 item:=by intro X F hw A J i Z s σ H E I j st C;subst F hw A;obtain⟨N,x,l,m⟩:=C;obtain⟨gF,n,p,hz⟩:=I.list l;obtain⟨u,hu,ru⟩:=n.get m;obtain⟨r,q,U,D,B,y⟩:=j it (by simp);refine wpAny_pyNext_list_item st p.isList (by simpa using hu) λL g R=>?_;have S:=I.turned (t':=s.toks) (λb o f e=>(R.2 b f).trans e) r q D B y;obtain⟨o,e,c,d⟩:=id g;exact⟨u,rfl,G6 e c d (by decide) ⟨x,H,S,ru,⟨rfl,λys Y=>by rw[I.list_inj Y l];exact m⟩,g,λb f=>(j b f).1⟩⟩
 done:=by intro X F hw A J i Z s σ H E I j st C;subst F hw A;obtain⟨N,l,m⟩:=C;obtain⟨gF,n,p,hz⟩:=I.list l;obtain⟨r,q,U,D,B,y⟩:=j it (by simp);have hl:=n.length;exact wpAny_pyNext_list_end (I.ok.hd J) st p.isList (by simp;omega) λL Q=>⟨rfl,I.turned (λb o f e=>Q b o f e) r q D B y⟩
 self:=λ_ _ _ _ _ st h=>wpAny_pyIter_listiter st h
def AE{K:W.Frag} a it:AS P w K tg (P9 K a) [it] it (λi h=>h.IsTupleIter it a i) where
 mem:=by simp
 obj:=λi h st b f=>by
  have e:b=it:=by simpa using f
  subst e;obtain⟨o,e,c,d⟩:=st;exact⟨o,e,λv z=>by rw[d]at z;cases z⟩
 keep:=λi h L st k=>st.at λo e=>k it (by simp) o e
 item:=by intro X F hw A J i Z s σ H E I j st C;subst F hw A;obtain⟨N,x,l,m⟩:=C;obtain⟨gF,n,p,hz⟩:=I.tuple l;obtain⟨u,hu,ru⟩:=n.get m;obtain⟨r,q,U,D,B,y⟩:=j it (by simp);refine wpAny_pyNext_tuple_item st (p) (by simpa using hu) λL g R=>?_;have S:=I.turned (t':=s.toks) (λb o f e=>(R.2 b f).trans e) r q D B y;obtain⟨o,e,c,d⟩:=id g;exact⟨u,rfl,G6 e c d (by decide) ⟨x,H,S,ru,⟨rfl,λys Y=>by rw[I.tuple_inj Y l];exact m⟩,g,λb f=>(j b f).1⟩⟩
 done:=by intro X F hw A J i Z s σ H E I j st C;subst F hw A;obtain⟨N,l,m⟩:=C;obtain⟨gF,n,p,hz⟩:=I.tuple l;obtain⟨r,q,U,D,B,y⟩:=j it (by simp);have hl:=n.length;exact wpAny_pyNext_tuple_end (I.ok.hd J) st (p) (by simp;omega) λL Q=>⟨rfl,I.turned (λb o f e=>Q b o f e) r q D B y⟩
 self:=λ_ _ _ _ _ st h=>wpAny_pyIter_tupleiter st h
def Am{K:W.Frag} it lo n:AS P w K tg (Nx lo n) [it] it (λi h=>IsRangeIter h it (lo+(i:Nat)*1) ((n:Int)-(i:Nat)) 1) where
 mem:=by simp
 obj:=λi h st b a=>by
  have e:b=it:=by simpa using a
  subst e;exact⟨_,st,λv z=>by have D:=z;cases D⟩
 keep:=λi h r st k=>k it (by simp) _ st
 item:=by intro X x hw m f i y s A H E I d st q;subst x hw m;obtain⟨j,g,L,u,p,l⟩:=d it (by simp);have W:=Walks.range (prog:=X.prog) (w:=X.w) (I.ok.hd f) it lo 1 n;refine W.item i s _ _ q st λv r C hv c B=>?_;obtain⟨t,rfl⟩:=hv;have J:gM X y A H {s with heap:=r,toks:=C}:=I.turned (λb o a e=>B b o (by simpa using a) e) j g u p l;refine⟨_,rfl,G6 c rfl rfl (by decide) ⟨.int (lo+i),H,J,⟨t,?_⟩,⟨rfl,rfl⟩,c,λb a=>(d b a).1⟩⟩;rw[Int.mul_one]
 done:=by intro X x hw m f i y s A H E I d st q;subst x hw m;obtain⟨j,g,L,u,p,l⟩:=d it (by simp);exact wpAny_pyNext_range_end (I.ok.hd f) st (by have:n<=i:=q;omega) λr F=>⟨rfl,I.turned (λb o a e=>F b o a e) j g u p l⟩
 self:=λ_ _ _ _ _ st h=>wpAny_pyIter_rangeiter st h
end L2
namespace L2
open PySem PySem.Spec PyProof.Rows
section
variable {X:Cx}{tg:Expr}
def Fw(K:W.Frag)(e:TE):TI:=λc H R=>e c H λx b=>∃a,x=.ref a/\(∃d,kK K b a d)/\R (Qd K a) b
def Ln(K:W.Frag)(e:TE):TI:=λc H R=>e c H λx b=>∃a,x=.ref a/\(∃d,lR K b a d)/\R (P9 K a) b
def IZ(c:PE X l tl):PI X tg l (Fw X.K tl):=by
 intro g s i H R I h;refine jw (c g s i H _ I h) λv s1 ⟨x,H1,I1,r1,q1⟩=>?_;obtain⟨a,e,⟨k,d⟩,q⟩:=q1;subst e;cases r1;obtain⟨gF,j,p,m⟩:=I1.list d;refine wpAny_pyIter_list p.isList ?_;refine⟨s1.heap.objs.size,[s1.heap.objs.size],_,_,H1,rfl,I1.kept λb o e=>af _ e,Ci a _,⟨_,au _ rfl,rfl,rfl⟩,λb f=>?_,q⟩;have e:b=s1.heap.objs.size:=by simpa using f
 subst e;exact I1.fpOk (aL _) (I1.hok.fresh (aL _))
def Ls(c:PE X l tl):PI X tg l (Ln X.K tl):=by
 intro g s i H R I h;refine jw (c g s i H _ I h) λv s1 ⟨x,H1,I1,r1,q1⟩=>?_;obtain⟨a,e,⟨k,d⟩,q⟩:=q1;subst e;cases r1;obtain⟨gF,j,p,m⟩:=I1.tuple d;refine wpAny_pyIter_tuple (p) ?_;refine⟨s1.heap.objs.size,[s1.heap.objs.size],_,_,H1,rfl,I1.kept λb o e=>af _ e,AE a _,⟨_,au _ rfl,rfl,rfl⟩,λb f=>?_,q⟩;have e:b=s1.heap.objs.size:=by simpa using f
 subst e;exact I1.fpOk (aL _) (I1.hok.fresh (aL _))
def zB{a c:Int}(I:gM X gq σ H s)(j:-(2 ^ 62)<=a)(i:a<2 ^ 62)(k:-(2 ^ 62)<=c)(h:c<2 ^ 62)
  (q:R (Nx a (c-a).toNat) H):wpAny (model X.prog X.w) X.A (pyIter (.ref s.heap.objs.size)) (QB X gq σ tg R) E {s with heap:=s.heap.push {cls:=.type "range",data:=.fields #[.int a t,.int c u,.int 1 v]},toks:=tk}:=by
 refine wpAny_pyIter_range (IsRange.new ..) (small_one j i k h) ?_;have d:gM X gq σ H {s with heap:=s.heap.push {cls:=.type "range",data:=.fields #[.int a t,.int c u,.int 1 v]},toks:=tk}:=I.kept λb o e=>af _ e;refine⟨(s.heap.push {cls:=.type "range",data:=.fields #[.int a t,.int c u,.int 1 v]}).objs.size,[(s.heap.push {cls:=.type "range",data:=.fields #[.int a t,.int c u,.int 1 v]}).objs.size],_,_,H,rfl,
  d.kept λb o e=>af _ e,Am _ a (c-a).toNat,?_,λb g=>?_,q⟩
 .have f:a+((0:Nat):Int)*1=a:=by simp
  have l:(((c-a).toNat:Nat):Int)-((0:Nat):Int)=Builtin.Range.rangeSize a c 1:=by rw[rangeSize_one];split<;>omega
  rw[f,l];exact au _ rfl
 .have e:b=(s.heap.push {cls:=.type "range",data:=.fields #[.int a t,.int c u,.int 1 v]}).objs.size:=by simpa using g
  subst e;exact d.fpOk (aL _) (d.hok.fresh (aL _))
def F8(c:TA):TI:=λa H R=>c a H λd b=>∃j:Int,d=[.int j]/\-(2 ^ 62)<=j/\j<2 ^ 62/\R (Nx 0 j.toNat) b
def FV(c:TA):TI:=λa H R=>c a H λd b=>∃i j:Int,d=[.int i,.int j]/\(-(2 ^ 62)<=i/\i<2 ^ 62/\-(2 ^ 62)<=j/\j<2 ^ 62)/\R (Nx i (j-i).toNat) b
def Cq(i:Gl X "range")(d:X.mg "range" = none)(k:PA X [a] ta)(hs:starEach [a] X.env=[(false,eval a X.env)]:=by rfl):PI X tg (.Call (.Name "range" p) [a] [] pos) (F8 ta):=by
 intro f s c H R I h;refine Call_ (mZ I i d boot_range (PyProof.Rows.callWith_type1 (jw (k pos f s c H _ I h) λus s1 ⟨vs,H1,I1,r1,b⟩=>?_) hs rfl));obtain⟨j,e,b,g,q⟩:=b;subst e;cases r1 with
 |cons r rr=>cases rr;obtain⟨t,rfl⟩:=r;exact call_range_1 (zB I1 (by omega) (by omega) b g (by simpa using q))
def CD(o:Gl X "range")(f:X.mg "range" = none)(k:PA X [a,b] ta)(hs:starEach [a,b] X.env=[(false,eval a X.env),(false,eval b X.env)]:=by rfl)(c:starEach [b] X.env=[(false,eval b X.env)]:=by rfl) :
  PI X tg (.Call (.Name "range" p) [a,b] [] pos) (FV ta):=by
 intro n s u H R I h;refine Call_ (mZ I o f boot_range (PyProof.Rows.callWith_type1 (jw (k pos n s u H _ I h) λus s1 ⟨vs,H1,I1,r1,d⟩=>?_) (by rw[hs,c]) (by rw[c];rfl)));obtain⟨i,j,e,⟨d,l,m,g⟩,q⟩:=d;subst e;cases r1 with
 |cons r rr=>
  cases rr with
  |cons r' rr=>cases rr;obtain⟨t,rfl⟩:=r;obtain⟨v,rfl⟩:=r';exact call_range_2 (zB I1 d l m g q)
def Gj(k:TI)(g:TG)(j:TS):TS:=λD a H=>k a H λJ f=>∃W:Nat->Nat->St->Hp->Prop,(∃m,W 0 m a f)/\∀i m a H,W i m a H->
 (J.stop i H/\D.nx a H)\/(J.go i H/\∃N:St->Hp->Prop,(∀b c,N b c->∃e,e<m/\W (i+1) e b c)/\∀x c,J.yld i H x c->g x a c λd h=>j {D with nx:=N,ct:=N,bk:=D.nx} d h)
noncomputable def uC(a:List Addr)(h:Heap):List (Addr×Obj):=a.filterMap λb=>(h.get? b).map λo=>(b,o)
def m3(a:b∈fp)(e:h.get? b=some o):(b,o)∈uC fp h:=bD.mpr ⟨b,a,by rw[e];rfl⟩
def Co(d:p∈uC fp h):p.1∈fp/\h.get? p.1=some p.2:=by
 obtain⟨b,c,e⟩:=bD.mp d;cases q:h.get? b with
 |none=>rw[q]at e;cases e
 |some o=>rw[q]at e;have a:=Option.some.inj e;subst a;exact⟨c,q⟩
def gM.pinned(I:gM X gq σ H s)(f:∀b∈fp,rA X gq H b)(k:∀b∈fp,∃o,s.heap.get? b=some o/\∀v,o.data≠.cell v):gM X (gq++uC fp s.heap) σ H s:=I.pins_of λp j=>(aj.mp j).elim (λz=>I.pin p (bE _ z)) λz=>by obtain⟨c,e⟩:=Co z;obtain⟨i,h,g,_⟩:=f p.1 c;obtain⟨o,a,d⟩:=k p.1 c;rw[e]at a;cases a;exact⟨e,i,h,g,d⟩
def gM.unpinned(I:gM X (gq++pl) σ H s):gM X gq σ H s:=I.pins_of λp a=>I.pin p (bE _ (ay _ a))
theorem FF(R:PassesOwn (model X.prog X.w) X.A X.env X.xe)(hc:X.calm=true)(hi:PI X tg iter wi)(hg:PG X tg g)(j:zL X body tb)
  (hs:∀x,foldedSetIterable iter X.env x=pure x:=by intro _;rfl):PS X (.For tg iter body [] pos) (Gj wi g tb):=by
 intro C s σ H D I h;refine wpAny_For (jw (hi C s σ H _ I h) λv s1 h1=>jw h1 λitv s2 h2=>?_) hs;obtain⟨it,K,tn,J,H2,e,I2,T,Y,f2,W,⟨m0,w0⟩,L⟩:=h2;subst e;have p:∀{z:Hp},(∀b∈K,z b=none)->∀b∈K,rA X C z b:=λhn b j=>⟨hn b j,(f2 b j).2⟩;refine codeAny_forLoop_any (λn s'=>∃i c z,gM X C c z s'/\tn i s'.heap/\(∀b∈K,z b=none)/\W i n c z) ?_ m0 ⟨0,σ,H2,I2,Y,λb j=>(f2 b j).1,w0⟩;rintro n s3 ⟨i,q,S,I3,F,Q,w3⟩;rcases L i n q S w3 with⟨P,qn⟩|⟨go,N,hN,step⟩
 .refine wpAny_passesOwn R (jw (T.done X rfl rfl rfl hc i C s3 q S X.xe I3 (p Q) F P) λr s4 ⟨hr,I4⟩=>?_);subst hr;exact wpAny_execs_nil ⟨q,S,I4,qn⟩
 .refine wpAny_passesOwn R (jw (T.item X rfl rfl rfl hc i C s3 q S X.xe I3 (p Q) F go) λr s4 ⟨u,hr,h4⟩=>?_);subst hr;refine wpAny_passesOwn R (jw h4 λ_ s5 ⟨x,H5,I5,r5,y5,st5,fr5⟩=>?_);have U:=I5.pinned (p fr5) (T.obj _ _ st5);refine wpAny_passesOwn R (jw (hg _ s5 q H5 x u _ U r5 (step x H5 y5)) λ_ s6 ⟨σ6,H6,I6,q6⟩=>?_);refine wpAny_passesOwn R (jw (j _ s6 σ6 H6 _ I6 q6) λf Z B=>?_);have k:∀{a:St} {y:Hp},gM X (C++uC K s5.heap) a y Z->N a y->∃m,m<n/\∃i c z,gM X C c z Z/\tn i Z.heap/\(∀b∈K,z b=none)/\W i m c z:=λ{a y} l E=>by obtain⟨m',hm,w7⟩:=hN a y E;refine⟨m',hm,i+1,a,y,l.unpinned,T.keep _ _ _ st5 λb j o e=>(l.pin (b,o) (bE _ (bE _ (m3 j e)))).1,λb j=>?_,w7⟩;obtain⟨o,e,d⟩:=T.obj _ _ st5 b j;exact (l.pin (b,o) (bE _ (bE _ (m3 j e)))).2.1
  cases f with
  |next=>obtain⟨a,y,l,E⟩:=B;exact k l E
  |cont=>obtain⟨a,y,l,E⟩:=B;exact k l E
  |brk=>obtain⟨a,y,l,B⟩:=B;exact⟨a,y,l.unpinned,B⟩
  |ret v=>obtain⟨x7,a,y,l,r7,B⟩:=B;exact⟨x7,a,y,l.unpinned,r7,B⟩
end
end L2
namespace L2
open PySem PySem.Spec PyProof.Rows
abbrev R2:=V->V->Hp->VK->Prop
def nu(X:Cx)(f:Vq->Value->Sem Value)(r:R2):Prop:=
 ∀(b:List (Addr×Obj)) (s:Sq) (a:St) (H:Hp) (x y:V) (v u:Vq) (Q:VK),gM X b a H s->iD x v->iD y u->r x y H Q->
  wpAny (model X.prog X.w) X.A (f v u) (EP X b a Q) X.xe s
def PZ(X:Cx)(f:Vq->Sem Value)(r:V->Hp->VK->Prop):Prop:=
 ∀(b:List (Addr×Obj)) (s:Sq) (a:St) (H:Hp) (x:V) (v:Vq) (Q:VK),gM X b a H s->iD x v->r x H Q->
  wpAny (model X.prog X.w) X.A (f v) (EP X b a Q) X.xe s
def kD(X:Cx)(f:Vq)(r:List V->Hp->VK->Prop):Prop:=
 ∀(c:List (Addr×Obj)) (s:Sq) (a:St) (H:Hp) (b:List V) (d:List Vq) (Q:VK),gM X c a H s->gZ b d->r b H Q->
  wpAny (model X.prog X.w) X.A (call f d) (EP X c a Q) X.xe s
def uM(r:R2)(c e:TE):TE:=λa H Q=>c a H λx b=>e a b λy d=>r x y d Q
def PN(r:V->Hp->VK->Prop)(c:TE):TE:=λa H Q=>c a H λx b=>r x b Q
def rI(C:Int->Int->Prop)(g:Int->Int->V):R2:=λx y H Q=>∃i j,x=.int i/\y=.int j/\C i j/\Q (g i j) H
def AX(g:Int->Int->V):R2:=λx y H Q=>∃i j,x=.int i/\y=.int j/\Q (g i j) H
def rU(g:Int->V):V->Hp->VK->Prop:=λx H Q=>∃i,x=.int i/\Q (g i) H
section
variable {X:Cx}{a b c:Expr}{ta tb tc:TE}{pos:Pos}
def MK(m:PE X a ta)(l:PE X b tb){R:V->V->Hp->Prop}(I:gM X gq σ H s)
  (h:ta σ H λx j=>tb σ j λy d=>R x y d) {f:Vq->Value->Sem Value}
  (k:∀v u i x y d,gM X gq σ d i->iD x v->iD y u->R x y d->wpAny (model X.prog X.w) X.A (f v u) Q X.xe i) :
  wpAny (model X.prog X.w) X.A (eval a X.env) (λv e=>wpAny (model X.prog X.w) X.A (eval b X.env) (λu g=>wpAny (model X.prog X.w) X.A (f v u) Q X.xe g) X.xe e) X.xe s:=by
 refine jw (m gq s σ H _ I h) λv s1 ⟨x,j,I1,r1,q1⟩=>?_;refine jw (l gq s1 σ j _ I1 q1) λu i ⟨y,d,I2,r2,q2⟩=>?_;exact k v u i x y d I2 r1 r2 q2
def GE(j:nu X (binaryOp op) r)(f:PE X a ta)(i:PE X b tb):PE X (.BinOp a op b pos) (uM r ta tb):=by intro m s n H Q I h;exact wpAny_BinOp (MK f i I h λv u g x y e l k d q=>j m g n e x y v u Q l k d q)
def OA(f:PZ X (unaryOp op) r)(g:PE X a ta):PE X (.UnaryOp op a pos) (PN r ta):=by intro e s d H Q I h;exact UnaryOp_ (jw (g e s d H _ I h) λv s1 ⟨x,H1,I1,r1,q1⟩=>f e s1 d H1 x v Q I1 r1 q1)
def N5{g:Int->Int->Int}
  (d:∀i j t u s Q E,C i j->Q (.int (g i j) s.toks) {s with toks:=s.toks+1}->wpAny (model X.prog X.w) X.A (f (.int i t) (.int j u)) Q E s) :
  nu X f (rI C λi j=>.int (g i j)):=by
 intro n s o H x y v u Q I l e h;obtain⟨i,j,rfl,rfl,k,q⟩:=h;obtain⟨t,rfl⟩:=l;obtain⟨m,rfl⟩:=e;exact d i j t m s _ _ k ⟨.int (g i j),H,I.tok _,⟨_,rfl⟩,q⟩
def NK{g:Int->Int->Int}
  (d:∀i j t u s Q E,Q (.int (g i j) s.toks) {s with toks:=s.toks+1}->wpAny (model X.prog X.w) X.A (f (.int i t) (.int j u)) Q E s) :
  nu X f (AX λi j=>.int (g i j)):=by
 intro m s n H x y v u Q I k e h;obtain⟨i,j,rfl,rfl,q⟩:=h;obtain⟨t,rfl⟩:=k;obtain⟨l,rfl⟩:=e;exact d i j t l s _ _ ⟨.int (g i j),H,I.tok _,⟨_,rfl⟩,q⟩
def HY{g:Int->Int->Bool}
  (d:∀(i j:Int) (t u:Tok) (s:Sq) (Q:Vq->Shared->Prop) (E:Vq->Shared->Prop),Q (.bool (g i j)) s->wpAny (model X.prog X.w) X.A (f (.int i t) (.int j u)) Q E s) :
  nu X f (AX λi j=>.bl (g i j)):=by
 intro m s n H x y v u Q I k e h;obtain⟨i,j,rfl,rfl,q⟩:=h;obtain⟨t,rfl⟩:=k;obtain⟨l,rfl⟩:=e;exact d i j t l s _ _ ⟨.bl (g i j),H,I,rfl,q⟩
def HU(i j:Int):Prop:=0<=j/\j<=1000000/\i.natAbs<2 ^ 64
def MZ:nu X (binaryOp .Add) (AX λi j=>.int (i+j)):=NK λ_ _ _ _ _ _ _ q=>add_int q
def KZ:nu X (binaryOp .Sub) (AX λi j=>.int (i-j)):=NK λ_ _ _ _ _ _ _ q=>sub_int q
def IT:nu X (binaryOp .Mod) (rI (λ_ j=>j≠0) λi j=>.int (i.fmod j)):=N5 λ_ _ _ _ _ _ _ d q=>mod_int' d q
def LP:nu X (binaryOp .Pow) (rI HU λi j=>.int (i ^ j.toNat)):=N5 λ_ _ _ _ _ _ _ d q=>pow_int_small d.1 d.2.1 d.2.2 q
def KD:nu X (binaryOp .LShift) (rI HU λi j=>.int (i*2 ^ j.toNat)):=N5 λ_ _ _ _ _ _ _ d q=>lshift_int_small d.1 d.2.1 d.2.2 q
def Ra{g:Int->Int}
  (d:∀i t s Q E,Q (.int (g i) s.toks) {s with toks:=s.toks+1}->wpAny (model X.prog X.w) X.A (f (.int i t)) Q E s) :
  PZ X f (rU λi=>.int (g i)):=by
 intro k s j H x v Q I e h;obtain⟨i,rfl,q⟩:=h;obtain⟨t,rfl⟩:=e;exact d i t s _ _ ⟨.int (g i),H,I.tok _,⟨_,rfl⟩,q⟩
def Mh:PZ X (unaryOp .USub) (rU λi=>.int (-i)):=Ra λ_ _ _ _ _ q=>neg_int q
end
section
variable {X:Cx}{a b c:Expr}{ta tb tc:TE}{pos:Pos}
def K4(I:gM X gq σ H s)(q:Q (.bl k) H)(e:k=k'):EP X gq σ Q (.bool k') s:=by subst e;exact⟨.bl k,H,I,rfl,q⟩
def wc:nu X (compareOp .Lt) (AX λi j=>.bl (decide (i<j))):=HY λ_ _ _ _ _ _ _ q=>lt_int q
def uL:nu X (compareOp .LtE) (AX λi j=>.bl (decide (i<=j))):=HY λ_ _ _ _ _ _ _ q=>le_int q
def Bx:nu X (compareOp .Gt) (AX λi j=>.bl (decide (j<i))):=HY λ_ _ _ _ _ _ _ q=>gt_int q
def FD:nu X (compareOp .GtE) (AX λi j=>.bl (decide (j<=i))):=HY λ_ _ _ _ _ _ _ q=>ge_int q
def Fv:nu X (compareOp .Is) (λx y H Q=>y=.non/\Q (.bl (decide (x=.non))) H):=by
 intro g s f H x y v u Q I d e h;obtain⟨rfl,q⟩:=h;cases e;refine is_none_gen (K4 I q ?_);cases x<;>first
  | (cases d;rfl)
  | (obtain⟨t,rfl⟩:=d;rfl)
def tU b (h:op≠.In:=by decide) (f:op≠.NotIn:=by decide):behindInMarks op b=false:=by
 have e:(op==CmpOp.In)=false:=by cases op<;>first|rfl|exact absurd rfl h
 have d:(op==CmpOp.NotIn)=false:=by cases op<;>first|rfl|exact absurd rfl f
 cases b<;>simp[behindInMarks,e,d]
def JC(k:nu X (compareOp op) r)(g:PE X a ta)(j:PE X b tb)(e:behindInMarks op b=false):PE X (.Compare a [op] [b] pos) (uM r ta tb):=by intro n s o H Q I h;exact wpAny_Compare1 (MK g j I h λv u i x y f m l d q=>k n i o f x y v u Q m l d q) e
def rW(t:TE):TT:=λd H Q=>t d H λx e=>∃k,x=.bl k/\Q k e
def Ju(j:nu X (compareOp op) r)(l:PE X a ta)(i:PE X b tb)(g:behindInMarks op b=false):PT X (.Compare a [op] [b] pos) (rW (uM r ta tb)):=by
 intro f s d H Q I h;refine wpAny_isTrue_Compare1 (jw (l f s d H _ I h) λv s1 ⟨x,H1,I1,r1,q1⟩=>jw (i f s1 d H1 _ I1 q1) λu s2 ⟨y,H2,I2,r2,q2⟩=>jw (j f s2 d H2 x y v u _ I2 r1 r2 q2) λc s3 ⟨z,H3,I3,r3,k,e,q3⟩=>?_) g
 subst e;cases r3;exact wpAny_truthy_bool ⟨H3,I3,q3⟩
def sX(r h:R2)(ta tb tc:TE):TE:=λd H Q=>ta d H λx f=>tb d f λy g=>r x y g λz e=>∃k,z=.bl k/\
 (if k=true then tc d e λj i=>h y j i Q else Q (.bl false) e)
theorem GN(n:nu X (compareOp op) r)(i:nu X (compareOp op') r')(o:PE X a ta)(m:PE X b tb)(j:PE X c tc)
  (l:lastMarks [op,op'] [b,c]=false:=by with_unfolding_all rfl):PE X (.Compare a [op,op'] [b,c] pos) (sX r r' ta tb tc):=by
 intro g s f H Q I h;refine Compare_chain (jw (o g s f H _ I h) λv s1 ⟨x,H1,I1,r1,q1⟩=>chain_link (jw (m g s1 f H1 _ I1 q1) λu s2 ⟨y,H2,I2,r2,q2⟩=>jw (n g s2 f H2 x y v u _ I2 r1 r2 q2) λd s3 ⟨z,H3,I3,r3,k,e,q3⟩=>?_)) l
 subst e;cases r3;refine wpAny_truthy_bool ?_;cases k with
 |false=>exact ite_ff ⟨.bl false,H3,I3,rfl,q3⟩
 |true=>exact ite_tt (chain_last (jw (j g s3 f H3 _ I3 q3) λw' s4 ⟨z',H4,I4,r4,q4⟩=>i g s4 f H4 y z' u w' Q I4 r2 r4 q4))
theorem Fe(p:nu X (compareOp op) r)(i:nu X (compareOp op') r')(q:PE X a ta)(o:PE X b tb)(l:PE X c tc)
  (m:lastMarks [op,op'] [b,c]=false:=by with_unfolding_all rfl):PT X (.Compare a [op,op'] [b,c] pos) (rW (sX r r' ta tb tc)):=by
 intro g s f H Q I h;refine isTrue_chain (jw (q g s f H _ I h) λv s1 ⟨x,H1,I1,r1,q1⟩=>test_link (jw (o g s1 f H1 _ I1 q1) λu s2 ⟨y,H2,I2,r2,q2⟩=>jw (p g s2 f H2 x y v u _ I2 r1 r2 q2) λd s3 ⟨z,H3,I3,r3,k,e,q3⟩=>?_)) m
 subst e;cases r3;refine wpAny_truthy_bool ?_;cases k with
 |false=>obtain⟨w,j,n⟩:=q3;cases j;exact ite_ff ⟨H3,I3,n⟩
 |true=>refine ite_tt (test_last (jw (l g s3 f H3 _ I3 q3) λw' s4 ⟨z',H4,I4,r4,q4⟩=>jw (i g s4 f H4 y z' u w' _ I4 r2 r4 q4) λd' s5 ⟨z2,H5,I5,r5,k2,e2,q5⟩=>?_));subst e2;cases r5;exact wpAny_truthy_bool ⟨H5,I5,q5⟩
def xg:(sizeLine:Nat)<2 ^ 63:=by rw[sizeLine_eq];decide
def Az:nu X (binaryOp .Add) (λx y H Q=>∃i j,x=.str i/\y=.str j/\i.length+j.length<=sizeLine/\Q (.str (i++j)) H):=by intro l s m H x y v u Q I e d h;obtain⟨i,j,rfl,rfl,g,q⟩:=h;obtain⟨t,rfl⟩:=e;obtain⟨f,rfl⟩:=d;exact add_str (λf k=>⟨.str (i++j),H,I.tok _,⟨_,rfl⟩,q⟩) g
def oU(r:gZ [x] us):∃u,us=[u]/\iD x u:=by
 cases r with
 |cons r1 r2=>cases r2;exact⟨_,rfl,r1⟩
def F9(r:gZ [x,y] us):∃u d,us=[u,d]/\iD x u/\iD y d:=by
 cases r with
 |cons r1 r2=>
  cases r2 with
  |cons r3 r4=>cases r4;exact⟨_,_,rfl,r1,r3⟩
def lz:kD X (.builtin "abs") (λd H Q=>∃i,d=[.int i]/\Q (.int (if i<0 then -i else i)) H):=by intro g s e H d j Q I r h;obtain⟨i,rfl,q⟩:=h;obtain⟨u,rfl,t,rfl⟩:=oU r;exact call_abs_int λu f=>⟨.int (if i<0 then -i else i),H,I.tok _,⟨_,rfl⟩,q⟩
def v7(f:X.calm=true):kD X (.builtin "max") (λe H Q=>∃i j,e=[.int i,.int j]/\Q (.int (if j>i then j else i)) H):=by
 intro l s p H e m Q I r h;obtain⟨i,j,rfl,q⟩:=h;obtain⟨u,o,rfl,⟨t,rfl⟩,⟨n,rfl⟩⟩:=F9 r;refine max_two_ints (I.ok.hd f) λv g k=>⟨_,H,I.kept k,?_,q⟩;by_cases d:j>i
 .rw[aR d,aR d];exact⟨_,rfl⟩
 .rw[aS d,aS d];exact⟨_,rfl⟩
def Ng(K:W.Frag)(x:V)(H:Hp)(n:Nat):Prop:=
 match x with
 |.str y=>y.length<=sizeLine/\n=y.length
 |.byt y=>y.size<=sizeLine/\n=y.size
 |.ref p=>(∃d,kK K H p d/\n=d.length)\/∃d,lR K H p d/\n=d.length
 |_=>False
def Gx:kD X (.builtin "len") (λf H Q=>∃x n,f=[x]/\Ng X.K x H n/\Q (.int n) H):=by
 intro o s w H f v Q I r h;obtain⟨x,n,rfl,e,q⟩:=h;obtain⟨u,rfl,i⟩:=oU r;have z:=sizeLine_eq;cases x with
 |str y=>obtain⟨t,rfl⟩:=i;obtain⟨hy,d⟩:y.length<=sizeLine/\n=y.length:=e;subst d;exact len_str (by omega) ⟨.int _,H,I.tok _,⟨_,rfl⟩,q⟩
 |byt y=>obtain⟨t,rfl⟩:=i;obtain⟨hy,d⟩:y.size<=sizeLine/\n=y.size:=e;subst d;exact W.len_bytes (by omega) ⟨.int _,H,I.tok _,⟨_,rfl⟩,q⟩
 |ref p=>
  cases i;have d:=e;rcases d with⟨f,g,d⟩|⟨f,g,d⟩
  .subst d;obtain⟨gF,j,k,m⟩:=I.list g;have l:=j.length;exact Calls.call_len_list k.isList (by simp only[bF];omega) ⟨.int f.length,H,I.tok _,⟨_,by simp only[bF];rw[l]⟩,q⟩
  .subst d;obtain⟨gF,j,k,m⟩:=I.tuple g;have l:=j.length;exact len_tuple k (by simp only[bF];omega) ⟨.int f.length,H,I.tok _,⟨_,by simp only[bF];rw[l]⟩,q⟩
 |_=>exact (e).elim
end
end L2
namespace L2
open PySem PySem.Spec PyProof.Rows
structure K6(h:Heap)(x dx C:Addr)(mA:Str->Option Value):Prop where
 obj:h.get? x=some (W.instObj C dx)
 ns:h.Ns1 dx mA
 ne:dx≠x
def Cv{h:Heap}(n:h.Ns1 dx mA):∃c,h.get? dx=some c/\∀name,W.lookIn name c=some (mA name):=by
 obtain⟨o,d,l,g,hd,j,_,f⟩:=n;refine⟨o,g,λname=>?_⟩;have e:=f name;unfold nsFind findBy at e;rw[<-Array.find?_toList]at e;unfold W.lookIn;rw[hd];dsimp only;split
 .rename_i y q;rw[q]at e;exact congrArg some e
 .rename_i q;rw[q]at e;have a:d.toList.any (·.refKey)=false:=by rw[bG];intro y i;obtain⟨z,t,b⟩:=j y (bH.mp i);simp[DictEntry.refKey,b]
  have k:¬d.toList.any (·.refKey)=true:=by rw[a];exact aI
  rw[aS k];exact congrArg some e
def K6.look(I:K6 h x dx C mA):∃a,W.InstAt h x (W.instObj C dx) C (some a)/\∀name,W.lookIn name a=some (mA name):=
 let ⟨a,ho,hl⟩:=Cv I.ns
 ⟨a,⟨I.obj,rfl,rfl,ho⟩,hl⟩
def sV.some_of(r:sV (some v) o):∃u,o=some u/\iD v u:=by
 cases o with
 |none=>exact (r).elim
 |some u=>exact⟨u,rfl,r⟩
section
variable {P:Program}{w:World}{H H':Hp}{h h':Heap}{a C dx:Addr}{fs fs':List (Str×V)}
def HC(c:oS P w H h)(e:H a=some (.ins C dx fs)):∃b,K6 h a dx C b/\(∀f,sV (fs.lookup f) (b f))/\PySem.Within b (fs.map (·.1))/\fs.length<=1000/\H dx=some (.own a):=by obtain⟨d,z,ne,g,b,n,r,q⟩:=(c a _ e);exact⟨b,⟨g,n,ne⟩,r,q,z,d⟩
end
structure Qe(K:W.Frag)(C:Addr):Prop where
 pg:W.plainGet K C Str.empty=true
 hd:W.hasDictIn K C=true
 po:W.plainOver K C=true
 sa:W.findIn K (.ref C) "__setattr__" = some (some (.builtin "object.__setattr__"))
def Qe.get{K:W.Frag}(c:Qe K C) f:W.plainGet K C f=true:=c.pg
section
variable {X:Cx}{gq:List (Addr×Obj)}{σ:St}{H:Hp}{s:Sq}{A:Around}{E:Vq->Shared->Prop}{Q:Vq->Shared->Prop}{c:Vq}{b:Bool}
inductive nW(K:W.Frag)(H:Hp):V->Value->Prop where
 |non:nW K H .non (.type "NoneType")
 |bl (x:Bool):nW K H (.bl x) (.type "bool")
 |int (i:Int):nW K H (.int i) (.type "int")
 |str (x:Str):nW K H (.str x) (.type "str")
 |flt (x:UInt64):nW K H (.flt x) (.type "float")
 |lst {a:Addr} {xs:List V} (e:H a=some (.lst xs)):nW K H (.ref a) (.type "list")
 |frz {a:Addr} {o:Obj} {xs:List V} (e:H a=some (.frz o (.lst xs))):nW K H (.ref a) (.type "list")
 |tup {a:Addr} {xs:List V} (e:H a=some (.tup xs)):nW K H (.ref a) (.type "tuple")
 |dK {a:Addr} {kvs:List (mW×V)} (e:H a=some (.dK kvs)):nW K H (.ref a) (.type "dict")
 |dT {a:Addr} {kvs:List (List mW×V)} (e:H a=some (.dT kvs)):nW K H (.ref a) (.type "dict")
 |ins {a C dx:Addr} {fs:List (Str×V)} (e:H a=some (.ins C dx fs)) (cl:Qe K C) (ha:W.findIn K (.ref C) "__class__" = some (some (.builtin "object.__class__")))
   (hn:W.specialIn K (.builtin "object.__class__") "__get__" = some (some (.builtin "getset_descriptor.__get__"))) (htk:W.takesIn K (.builtin "object.__class__")=some true)
   (hm:W.mroIn K C (.type "object")=some true):nW K H (.ref a) (.ref C)
def Di(I:gM X gq σ H s)(d:iD x u)(ty:nW X.K H x t)(e:W.kitOne X.K t c=some b)(h:∀l,Q (.bool b) {s with toks:=l}) :
  wpAny (model X.prog X.w) A (call (.builtin "isinstance") [u,c]) Q E s:=by
 cases ty with
 |non=>cases (d);exact W.kia_one W.kitx_none I.kIn True.intro e (λz=>nomatch z) h
 |bl y=>cases (d);exact W.kia_one W.kitx_bool I.kIn True.intro e (λz=>nomatch z) h
 |int i=>obtain⟨t,q⟩:=(d);cases q;exact W.kia_one W.kitx_int I.kIn True.intro e (λz=>nomatch z) h
 |str y=>obtain⟨t,q⟩:=(d);cases q;exact W.kia_one W.kitx_str I.kIn True.intro e (λz=>nomatch z) h
 |flt y=>obtain⟨t,q⟩:=(d);cases q;exact W.kia_one W.kitx_float I.kIn True.intro e (λz=>nomatch z) h
 |@lst a j ea=>cases (d);obtain⟨_,_,n,_,f⟩:=(I.hok a _ ea);exact W.kia_one W.kitx_list I.kIn ⟨_,f,rfl⟩ e (λz=>nomatch z) h
 |@frz a ob j ea=>cases (d);obtain⟨_,_,_,n,_,f⟩:=(I.hok a _ ea);exact W.kia_one W.kitx_list I.kIn ⟨_,f,rfl⟩ e (λz=>nomatch z) h
 |@tup a j ea=>cases (d);obtain⟨_,_,_,p⟩:=(I.hok a _ ea);obtain⟨o,f,g,_⟩:=p;exact W.kia_one W.kitx_tuple I.kIn ⟨o,f,g⟩ e (λz=>nomatch z) h
 |@dK a kvs ea=>cases (d);obtain⟨_,_,B,_,p⟩:=(I.hok a _ ea);obtain⟨o,m,k,f,g,_⟩:=p;exact W.kia_one W.kitx_dict I.kIn ⟨o,f,g.1⟩ e (λz=>nomatch z) h
 |@dT a kvs ea=>cases (d);obtain⟨_,_,j,_,o,m,k,f,g,_⟩:=(I.hok a _ ea);exact W.kia_one W.kitx_dict I.kIn ⟨o,f,g.1⟩ e (λz=>nomatch z) h
 |@ins a C dx fs ea cl ha hn htk hm=>cases (d);obtain⟨r,O,_⟩:=HC I.hok ea;obtain⟨v,J,_⟩:=O.look;exact W.kia_one (W.kitx_own (cl.get _) cl.hd ha hn htk hm) I.kIn J e (λz=>nomatch z) h
end
end L2
namespace L2
open PySem PySem.Spec PyProof.Rows
structure jO(k:Nat)(A:Around):Prop where
 hd:A.handled=none
 dp:A.depth+3*k+5<recursionLimit
 un:A.units+16*k+200<cLine
def jO.mono(r:jO k A)(h:j<=k):jO j A:=⟨r.hd,by have:=r.dp;omega,by have:=r.un;omega⟩
def jO.deeper(r:jO (k+1) A) env:jO k (A.deeper env):=⟨r.hd,by have:=r.dp;show A.depth+1+3*k+5<_;omega,by have:=r.un;show A.units+3+16*k+200<_;omega⟩
def jO.depth(r:jO k A):A.depth<recursionLimit:=by have:=r.dp;omega
def jO.units(r:jO k A):A.units+64<cLine:=by have:=r.un;omega
def DI:TA:=λ_ H Q=>Q [] H
def rS(d:TE)(f:TA):TA:=λa H Q=>d a H λx c=>f a c λb e=>Q (x::b) e
section
variable {X:Cx}{e:Expr}{es:List Expr}{te:TE}{t:TA}{pos:Pos}
def xR:PA X [] DI:=λ_ _ _ _ H Q I h=>Calls.spliced_nil ⟨[],H,I,.nil,h⟩
def qw(c:PE X e te)(hr:PA X es t)(hs:starEach (e::es) X.env=(false,eval e X.env)::starEach es X.env:=by rfl):PA X (e::es) (rS te t):=by intro pos b s a H Q I h;rw[hs];refine Calls.spliced_cons (jw (c b s a H _ I h) λu s1 ⟨x,H1,I1,r1,q1⟩=>?_);exact jw (hr pos b s1 a H1 _ I1 q1) λus s2 ⟨xs,H2,I2,r2,q2⟩=>⟨x::xs,H2,I2,.cons r1 r2,q2⟩
def KJ(t:TA):TE:=λc H Q=>t c H λa b=>a.length<=sizeLine/\∀p,b p=none->Q (.ref p) (jn b p (.tup a))
def Ml(t:TA):TE:=λc H Q=>t c H λa b=>a.length<=sizeLine/\∀p,b p=none->Q (.ref p) (jn b p (.lst a))
def Ld{x1}(h:PA X es t):PE X (.Tuple es x1 pos) (KJ t):=by intro d s a H Q I f;refine wpAny_Tuple_spliced (jw (h pos d s a H _ I f) λus s1 ⟨xs,H1,I1,r,z,q⟩=>⟨by rw[<-r.length];exact z,?_⟩);have c:=I1.hok.fresh (aL _);refine⟨.ref s1.heap.objs.size,jn H1 s1.heap.objs.size (.tup xs),I1.laid (λb u e=>af _ e) (aL _) ?_,rfl,q _ c⟩;exact⟨z,us,r,⟨_,au _ rfl,rfl,_,rfl,rfl⟩⟩
def K5(h:PA X es t):PE X (.List es pos) (Ml t):=by intro d s a H Q I f;refine wpAny_List_spliced (jw (h pos d s a H _ I f) λus s1 ⟨xs,H1,I1,r,z,q⟩=>⟨by rw[<-r.length];exact z,?_⟩);have c:=I1.hok.fresh (aL _);refine⟨.ref s1.heap.objs.size,jn H1 s1.heap.objs.size (.lst xs),I1.laid (λb u e=>af _ e) (aL _) ?_,rfl,q _ c⟩;exact⟨z,us,0,r,au _ rfl⟩
end
abbrev Sp:=List V->Hp->VK->XK->Prop
abbrev JM:=List Env->Hp->Shared->XK->Value->Shared->Prop
structure IJ(P:Program)(w:World)(K:W.Frag)(mg:Str->Option Value)(base:Heap)(A:Around)(outer:List Env)(s:Sq)(H:Hp):Prop where
 frames:A.frames=some outer
 mod:Mod K mg base
 bs:∀b o,base.get? b=some o->s.heap.get? b=some o/\H b=none
 bsz:base.objs.size<=s.heap.objs.size
 funs:s.heap.FunFrames base outer
 frf:∀b∈C5 outer,H b=none
 hok:oS P w H s.heap
 bare:AllBare s.gens
 tab:EF base H
def CE(a:List Env)(P:Program)(w:World)(H:Hp)(s:Sq)(Q:VK)(u:Vq)(b:Sq):Prop:=∃v c,b.os=s.os/\AllBare b.gens/\Un (C5 a) [] H c s.heap b.heap/\oS P w c b.heap/\iD v u/\Q v c
def CR(c:JM)(a:List Env)(P:Program)(w:World)(H:Hp)(s:Sq)(Q:VK)(E:XK)(r:Result)(b:Sq):Prop:=
 match r with
 |.ok (.ret u)=>CE a P w H s Q u b
 |.ok _=>False
 |.error e=>c a H s E e b
structure ny(P:Program)(w:World)(K:W.Frag)(mg:Str->Option Value)(base:Heap)(CX:JM)(k:Nat)(f:Addr)(fd:FuncData)(ps:List Str)(sp:Sp):Prop where
 len:∀vs H Q E,sp vs H Q E->vs.length=ps.length
 run:∀(A:Around) (outer:List Env) (s:Sq) (H:Hp) (args:Args) (us:List Vq) (vs:List V) (Q:VK) (E:XK),jO k A->IJ P w K mg base A outer s H->BindsTo s fd args (ps.zip us)->gZ vs us->sp vs H Q E->
  codeAny (model P w) A (.call (.ref f) args) (CR CX outer P w H s Q E) s
def ny.mono{K:W.Frag}(F:ny P w K mg base CX j f fd ps sp)(h:j<=k) :
  ny P w K mg base CX k f fd ps sp:=⟨F.len,λA a s H b d c Q E hr=>F.run A a s H b d c Q E (hr.mono h)⟩
def ny.imp{K:W.Frag}(F:ny P w K mg base CX k f fd ps sp)
  (h:∀vs H Q E,sp' vs H Q E->sp vs H Q E):ny P w K mg base CX k f fd ps sp':=
 ⟨λvs H Q E q=>F.len vs H Q E (h _ _ _ _ q),λA a s H b e vs Q E hr c g hv d=>F.run A a s H b e vs Q E hr c g hv (h _ _ _ _ d)⟩
section
variable {X:Cx}{gq:List (Addr×Obj)}{σ:St}{H:Hp}{s s':Sq}
def gM.env0(I:gM X gq σ H s):IJ X.prog X.w X.K X.mg X.base X.A X.stack s H:=⟨I.ok.frames,I.ok.mod,I.bs,aO I.ok.bsz I.sz,I.stack,I.stkFree,I.hok,I.bare,I.tab⟩
def gM.after(I:gM X gq σ H s)(h:CE X.stack X.prog X.w H s Q u s'):EP X gq σ Q u s':=by obtain⟨v,f,i,a,un,e,r,q⟩:=h;obtain⟨j,g,d,t,c⟩:=s';obtain rfl:c=s.os:=i;exact⟨v,f,I.call un e a (λb z=>absurd z (by simp)),r,q⟩
end
def wy(c:Sp)(a:List V)(E:XK)(t:TA):TE:=λb H Q=>t b H λe d=>c (e++a) d Q E
def vO(K:W.Frag)(fd:FuncData)(c:List Str)(b:List Vq):Prop:=∀(s:Sq) (a:List Vq),K.In s.heap->(a++b).length=c.length->BindsTo s fd ⟨a,[]⟩ (c.zip (a++b))
def vO.all{K:W.Frag}(h:∀us:List Vq,us.length=ps.length->bindArgs fd ⟨us,[]⟩=pure (ps.zip us)):vO K fd ps []:=λs us _ a=>by rw[bI]at a ⊢;exact .of_eq (h us a)
def Ac(c:JM)(X:Cx)(E:XK):Prop:=∀(d:List (Addr×Obj)) (b:St) (H:Hp) (s:Sq) (e:Vq) (a:Sq),gM X d b H s->c X.stack H s E e a->X.xe e a
section
variable {X:Cx}{CX:JM}{k:Nat}{f C:Addr}{fd:FuncData}{ps:List Str}{sp:Sp}{dvs:List V}{ds:List Vq}{E:XK}{x m:Str}{p pos apos:Pos}{e o:Expr}{es:List Expr}{ta:TE}{t:TA}
theorem M8(F:ny X.prog X.w X.K X.mg X.base CX k f fd ps sp)(hr:jO k X.A)(i:vO X.K fd ps ds)(hd:gZ dvs ds)(c:Ac CX X E)
  (I:gM X gq σ H s) (r:gZ vs us) (h:sp (vs++dvs) H Q E):wpAny (model X.prog X.w) X.A (call (.ref f) us) (EP X gq σ Q) X.xe s:=by
 have b:=r.append hd;have d:(us++ds).length=ps.length:=by rw[<-b.length];exact F.len _ _ _ _ h
 refine wpAny_call (codeAny_mono (F.run X.A X.stack s H ⟨us,[]⟩ (us++ds) (vs++dvs) Q E hr I.env0 (i s us I.kIn d) b h) λr g a=>?_);cases r with
 |error e=>exact c gq σ H s e g I a
 |ok fl=>
  cases fl with
  |ret u=>exact I.after a
  |next=>exact False.elim a
  |brk=>exact False.elim a
  |cont=>exact False.elim a
def HR(F:ny X.prog X.w X.K X.mg X.base CX k f fd ps sp)(hr:jO k X.A)(n:Gl X x)(d:X.mg x=some (.ref f))(v:W.keepIn X.K (.ref f)=true)(j:vO X.K fd ps ds)(hd:gZ dvs ds)(c:Ac CX X E)
  (g:PA X (e::es) t) (a:(x==("__debug__" : Str))=false:=by decide) (i:starEach (e::es) X.env=(false,eval e X.env)::starEach es X.env:=by rfl) (b:(backTo pos (starEach es X.env)).any (·.1)=false:=by rfl) :
  PE X (.Call (.Name x p) (e::es) [] pos) (wy sp dvs E t):=by
 intro l s u H Q I h;refine wpAny_Call_Name_kw (BS I n d ?_ a);refine W.callWith_K I.ok.mod.kin v (jw (g pos l s u H _ I h) λus s1 ⟨vs,H1,I1,r,q⟩=>⟨I1.kIn,?_⟩) i b;exact M8 F hr j hd c I1 r q
end
structure kn(N P:List Str)(sc:Scope):Prop where
 kind:sc.kind=.function
 co:sc.isCoroutine=false
 gen:sc.isGenerator=false
 nd:N.Nodup
 pre:N.take P.length=P
 par:∀x∈P,sc.names.lookup x=some .local\/sc.names.lookup x=some .cell
 nofree:∀y∈sc.names,y.2≠.free
theorem wA{kindOf:Str->Option NameKind}:∀{binds} {m},(∀v,(x,v)∉binds)->bindL kindOf binds m x=m x
 |[],_,_=>rfl
 | (n,v)::r,m,h=>by
  unfold bindL;rw[wA λw hw=>h w (bx _ hw)];split
  .have:x≠n:=by rintro rfl;exact h v bj
   simp[this]
  .rfl
theorem vz{kindOf:Str->Option NameKind}:∀{binds} {m},(∀v,(x,v)∉binds)->bindC kindOf binds m x=m x
 |[],_,_=>rfl
 | (n,v)::r,m,h=>by
  unfold bindC;rw[vz λw hw=>h w (bx _ hw)];split
  .rfl
  .have:x≠n:=by rintro rfl;exact h v bj
   simp[this]
theorem wm{kindOf:Str->Option NameKind}:∀{P:List Str} {vs:List Vq} {i:Nat} {m:Str->Option Value},P.Nodup->P[i]? = some x->vs[i]? = some v->kindOf x=some .local->
  bindL kindOf (P.zip vs) m x=some v
 |[],_,_,_,_,h,_,_=>by simp at h
 |_::_,[],_,_,_,_,h,_=>by simp at h
 |p::P,w::vs,0,m,nd,h1,h2,hk=>by simp at h1 h2;subst h1;subst h2;show bindL kindOf ((p,w)::P.zip vs) m p=_;unfold bindL;rw[wA λv hv=>(bJ.mp nd).1 (aX hv).1,aR hk];simp
 |p::P,w::vs,i+1,m,nd,h1,h2,hk=>by unfold bindL;exact wm (bJ.mp nd).2 (by simpa using h1) (by simpa using h2) hk
theorem vV{kindOf:Str->Option NameKind}:∀{P:List Str} {vs:List Vq} {i:Nat} {m:Str->Option Value},P.Nodup->P[i]? = some x->vs[i]? = some v->kindOf x≠some .local->
  bindC kindOf (P.zip vs) m x=some v
 |[],_,_,_,_,h,_,_=>by simp at h
 |_::_,[],_,_,_,_,h,_=>by simp at h
 |p::P,w::vs,0,m,nd,h1,h2,hk=>by simp at h1 h2;subst h1;subst h2;show bindC kindOf ((p,w)::P.zip vs) m p=_;unfold bindC;rw[vz λv hv=>(bJ.mp nd).1 (aX hv).1,aS hk];simp
 |p::P,w::vs,i+1,m,nd,h1,h2,hk=>by unfold bindC;exact vV (bJ.mp nd).2 (by simpa using h1) (by simpa using h2) hk
noncomputable def md(N:List Str)(vs:List V):St:=vs.map some++List.replicate (N.length-vs.length) none
noncomputable def sh(g:JM)(P:Program)(w:World)(K:W.Frag)(mg:Str->Option Value)(base:Heap)(N:List Str)(b:Str)(a:Scope)(f:Addr)(d:Vq)(A:Around)(outer:List Env)(s:Sq)(H:Hp)(E:XK):Cx where
 prog:=P
 w:=w
 K:=K
 mg:=mg
 base:=base
 A:=A.deeper (envOfC b a s.heap.objs.size f d)
 N:=N
 s₀:=s
 H₀:=H
 env:=envOfC b a s.heap.objs.size f d
 outer:=outer
 stack:=envOfC b a s.heap.objs.size f d::outer
 ex:=[]
 calm:=true
 fn:=λ_=>true
 pn:=[]
 xe:=λe i=>wpAny (model P w) (A.deeper (envOfC b a s.heap.objs.size f d)) (leaving (envOfC b a s.heap.objs.size f d) e) (λ_ c=>g outer H s E e c) (λh c=>g outer H s E h c) i
def nF{a:Scope}(h:a.names.lookup x=some .cell):∃c,(cellsFrom n a.names []).lookup x=some c:=by have q:=W.cellsFrom_some a.names n [] (.inl h);exact bK.mp q
theorem CJ{K:W.Frag}
  (S:kn N ps scope) (hd:A.handled=none) (g:IJ P w K mg base A outer s H) (L:vs.length=ps.length) (r:gZ vs us)
  (x:InCallC s s.heap.objs.size (bindL (envOfC qual scope s.heap.objs.size f cd).kindOf (ps.zip us) λ_=>none) (cellsFrom (s.heap.objs.size+1) scope.names []) (bindC (envOfC qual scope s.heap.objs.size f cd).kindOf (ps.zip us) λ_=>none) s1) :
  gM (sh CX P w K mg base N qual scope f cd A outer s H E) [] (md N vs) H s1:=by
 have J:ps.length<=N.length:=by have:=congrArg List.length S.pre;rw[bL]at this;omega
 obtain⟨B,R,rfl,C⟩:=x.done;have j:∀b:Addr,b∉(sh CX P w K mg base N qual scope f cd A outer s H E).ex:=λb z=>absurd (show b∈([]) from z) (by simp);refine⟨⟨g.mod,S.kind,rfl,rfl,aL _,λy z c B d=>?_,λy l=>?_,λy c _ h=>?_,λ_=>hd,Around.frames_deeper g.frames,.inr ⟨rfl,rfl⟩,λb z=>absurd z (j b),g.bs,g.bsz,λb _ _=>j b,λb z=>absurd z (j b),g.funs,g.frf,g.tab⟩,
  rfl,g.bare,Un.kept C,⟨_,x.toInCall.ns,λi y v B d Q=>?_⟩,λy c h=>⟨_,x.cell y c h⟩,g.hok.fresh (aL _),λy c h=>?_,λp n=>absurd (show p∈([]) from n) (by simp),g.hok.kept C,?_⟩
 .exact name_of_addr x.apart (PySem.mem_of_lookup B) (PySem.mem_of_lookup d)
 .have l:=l;rcases l with l|l
  .exact nF l
  .exact absurd rfl (S.nofree _ (PySem.mem_of_lookup l))
 .exact bg (x.above y c (PySem.mem_of_lookup h))
 .have o:i<vs.length:=by
   unfold md at d;by_cases o:i<vs.length
   .exact o
   .rw[List.getElem?_append_right (by simpa using o)]at d;rw[List.getElem?_replicate]at d;split at d<;>cases d
  have I:vs[i]? = some v:=by
   unfold md at d;rw[List.getElem?_append_left (by simpa using o),aw]at d;cases e:vs[i]? with
   |none=>rw[e]at d;cases d
   |some a=>rw[e]at d;cases d;rfl
  obtain⟨u,D,F⟩:=r.get I;have n:ps[i]? = some y:=by rw[<-S.pre,List.getElem?_take_of_lt (by omega)];exact B
  have m:ps.Nodup:=by rw[<-S.pre];exact S.nd.sublist (List.take_sublist _ _)
  refine⟨u,F,?_⟩;rcases S.par y (av n) with k|k
  .exact .inl ⟨k,wm m n D k⟩
  .obtain⟨c,e⟩:=nF k;refine .inr ⟨.inl k,c,e,?_⟩;have q:=x.cell y c e;rw[vV m n D (by show scope.names.lookup y≠_;rw[k];decide)]at q;exact q
 .exact g.hok.fresh (bg (x.above y c (PySem.mem_of_lookup h)))
 .unfold md;show _=N.length;rw[aU,ax,bM];omega
theorem Oe{K:W.Frag}{X kV z Z c U oc:Vq}(lk:K.lookup f=some ⟨oc,od,.func (W.fnOf name qual params body scope X kV z Z an c U),osl⟩)(F:W.codeIn K c qual=true)(S:kn N ps scope)
  (len:∀vs H Q E,sp vs H Q E->vs.length=ps.length)
  (h:∀A a s H vs Q E,jO k (A.deeper (envOfC qual scope s.heap.objs.size f c))->sp vs H Q E->
   ∃t,zL (sh CX P w K mg base N qual scope f c A a s H E) body t/\t {nx:=λ_ g=>Q .non g,rt:=Q} (md N vs) H) :
  ny P w K mg base CX (k+1) f (W.fnOf name qual params body scope X kV z Z an c U) ps sp:=by
 refine⟨len,λA a s H Y us vs Q E hr p hb r m=>?_⟩;have hl:=len _ _ _ _ m;have L:=p.mod.kin.keeps λb o e=>(p.bs b o e).1;have D:=p.mod.nolimit.keeps λb o e=>(p.bs b o e).1;have i:∀y∈ps.zip us,scope.names.lookup y.1=some .local\/(scope.names.lookup y.1=some .cell/\((cellsFrom (s.heap.objs.size+1) scope.names []).lookup y.1).isSome=true):=λ⟨n,v⟩ hy=>by
  rcases S.par n (aX hy).1 with q|q
  .exact .inl q
  .exact .inr ⟨q,W.cellsFrom_some _ _ _ (.inl q)⟩
 refine codeAny_call_function hr.depth (L _ _ lk) rfl S.co S.gen rfl (W.codeRec_of L F) (hb _ _ _ _ ?_);refine wpAny_newFunctionEnv_cells S.kind i λenv he R x=>?_;subst he;refine⟨D.keeps x.toInCall.keep,codeAny_func ?_⟩;obtain⟨t,ht,hq⟩:=h A a s H vs Q E (hr.deeper _) m;have I:gM (sh CX P w K mg base N qual scope f c A a s H E) [] (md N vs) H R:=CJ S hr.hd p hl r x;refine wpAny_mono (ht [] R (md N vs) H _ I hq) (λfl C j=>?_) λe C j=>j;have l:∀{d:St} {g:Hp} {v:V} {u:Vq},gM (sh CX P w K mg base N qual scope f c A a s H E) [] d g C->iD v u->Q v g->CE a P w H s Q u C:=λ{d g v u} J B q=>⟨v,g,J.os,J.bare,J.base,J.hok,B,q⟩
 cases fl with
 |ret u=>obtain⟨v,d,g,J,B,q⟩:=j;exact l J B q
 |next=>obtain⟨d,g,J,q⟩:=j;exact l (v:=V.non) J rfl q
 |brk=>obtain⟨_,_,_,q⟩:=j;exact False.elim q
 |cont=>obtain⟨_,_,_,q⟩:=j;exact False.elim q
end L2
namespace L2
open PySem PySem.Spec PyProof.Rows
section
variable {X:Cx}{x:Str}{p pos:Pos}{e:Expr}{es:List Expr}{t:TA}{id T:String}{r:List V->Hp->VK->Prop}
def Jf(r:List V->Hp->VK->Prop)(t:TA):TE:=λa H Q=>t a H λc b=>r c b Q
def uE(g:kD X (.builtin id) r)(j:Gl X x)(i:X.mg x=none)(hv:bootBuiltins x=some (.builtin id))(l:PA X (e::es) t)(k:x≠ "__name__" :=by decide)(a:(x==("__debug__" : Str))=false:=by decide)
  (f:starEach (e::es) X.env=(false,eval e X.env)::starEach es X.env:=by rfl) (b:(backTo pos (starEach es X.env)).any (·.1)=false:=by rfl):PE X (.Call (.Name x p) (e::es) [] pos) (Jf r t):=by
 intro d s c H Q I h;refine wpAny_Call_Name_kw (mZ I j i hv ?_ k a);exact PyProof.Rows.callWith_builtin1 (jw (l pos d s c H _ I h) λus s1 ⟨vs,H1,I1,r1,q1⟩=>g d s1 c H1 vs us Q I1 r1 q1) f b
def CZ(g:kD X (.type T) r)(j:Gl X x)(i:X.mg x=none)(hv:bootBuiltins x=some (.type T))(l:PA X (e::es) t)(k:x≠ "__name__" :=by decide)(a:(x==("__debug__" : Str))=false:=by decide)
  (f:starEach (e::es) X.env=(false,eval e X.env)::starEach es X.env:=by rfl) (b:(backTo pos (starEach es X.env)).any (·.1)=false:=by rfl):PE X (.Call (.Name x p) (e::es) [] pos) (Jf r t):=by
 intro d s c H Q I h;refine wpAny_Call_Name_kw (mZ I j i hv ?_ k a);exact PyProof.Rows.callWith_type1 (jw (l pos d s c H _ I h) λus s1 ⟨vs,H1,I1,r1,q1⟩=>g d s1 c H1 vs us Q I1 r1 q1) f b
end
end L2
namespace HT
open PySem PyProof.Rows
section
variable {prog:Program}{w:World}{A:Around}{E:Vq->Shared->Prop}{s:Sq}
def cat_tup(r:IsTup s.heap t vs.toArray)(q:IsTup s.heap b ws.toArray)(hv:vs≠[])
  (v:ws=[]->Q (.ref t) s) (u:ws≠[]->Q (.ref s.heap.objs.size) {s with heap:=s.heap.push {cls:=.type "tuple",data:=.seq (vs++ws).toArray}})
  (j:vs.length+ws.length<=sizeLine):wpAny (model prog w) A (binaryOp .Add (.ref t) (.ref b)) Q E s:=by
 obtain⟨⟨cls,l,data,p⟩,h,k,n,hd⟩:=id r;obtain⟨⟨m,g,i,f⟩,a,c,o,d⟩:=id q;simp only at k hd c d;subst k hd c d;have e:vs.toArray++ws.toArray=(vs++ws).toArray:=by simp
 by_cases hw:ws=[]
 .exact concat_meets ⟨_,h,rfl⟩ ⟨_,a,rfl⟩ noFill_tuple_add seq_tuple_add PySem.F.slot_tuple_add PySem.F.entry_tuple_add (PySem.F.args_tuple_add_2 _ _)
   (tuple_addW1 t b vs.toArray ws.toArray n o l g p f (by simpa using hv) (by simp[hw])) ⟨h,a,v hw⟩
 .refine concat_meets ⟨_,h,rfl⟩ ⟨_,a,rfl⟩ noFill_tuple_add seq_tuple_add PySem.F.slot_tuple_add PySem.F.entry_tuple_add (PySem.F.args_tuple_add_2 _ _)
   (tuple_addW2 t b vs.toArray ws.toArray n o l g p f (by simpa using hv) (by simpa using hw) (by rw[bF,bF];exact j)) ⟨h,a,?_⟩
  rw[e];exact u hw
noncomputable def sIx(n d:Nat):Option Int->Nat
 |none=>d
 |some v=>if v<0 then (v+(n:Int)).toNat else min v.toNat n
def sIx_none n d:sIx n d none=d:=rfl
def sIx_nat(n d k:Nat):sIx n d (some (k:Int))=min k n:=by show (if k<0 then (k+(n:Int)).toNat else min (k:Int).toNat n)=min k n;rw[aS (by omega),bN]
def Bf v (n d:Nat):(if v<0 then max (v+(n:Int)) 0 else min v (n:Int))=((sIx n d (some v):Nat):Int):=by
 show (if v<0 then max (v+n) 0 else min v n)=(((if v<0 then (v+n).toNat else min v.toNat n):Nat):Int);by_cases hv:v<0
 .simp only[aR hv];omega
 .simp only[aS hv];omega
def zX lo a (n:Nat):Builtin.Slice.sliceAdjust lo a 1 (n:Int)=(((sIx n 0 lo:Nat):Int),((sIx n n a:Nat):Int)):=by
 have b:¬(1<0):=by omega
 unfold Builtin.Slice.sliceAdjust;simp only[b,if_false];refine Prod.ext ?_ ?_
 .cases lo with
  |none=>rfl
  |some v=>exact Bf v n 0
 .cases a with
  |none=>rfl
  |some v=>exact Bf v n n
def AV(i j:Nat):Builtin.Slice.slicePlaces (i:Int) (j:Int) 1=j-i:=by
 unfold Builtin.Slice.slicePlaces;have a:1>0:=by omega
 simp only[a,if_true,bO];split<;>omega
def pO(p:IsPart v o)(h:Q o s):wpAny (model prog w) A (Builtin.Slice.slicePartIndex v) Q E s:=by
 cases p with
 |none=>exact slicePart_none h
 |int i t=>exact slicePart_int h
def mS{a d:Option Int}{n:Nat}(hs:s.heap.IsSliceOf sl vl vu .none)(g:IsPart vl a)(e:IsPart vu d)
  (h:Q (((sIx n 0 a:Nat):Int),1,sIx n n d-sIx n 0 a) s):wpAny (model prog w) A (Builtin.Slice.sliceApplied (.ref sl) (pure (n:Int))) Q E s:=by
 obtain⟨i,b,f,c⟩:=id hs;unfold Builtin.Slice.sliceApplied Builtin.Slice.sliceFields;refine aq (aq (wpAny_field b c rfl (aq (wpAny_field b c rfl (aq (wpAny_field b c rfl (ao ?_)))))));refine aq (slicePart_none ?_);rw[aS (by decide)];refine aq (pO g (aq (pO e (aq (ao ?_)))));show wpAny _ _ (match Builtin.Slice.sliceAdjust a d 1 n with|(a,d)=>pure (a,(1:Int),Builtin.Slice.slicePlaces a d 1)) _ _ s;rw[zX a d n];show wpAny _ _ (pure (((sIx n 0 a):Int),1,Builtin.Slice.slicePlaces ((sIx n 0 a):Int) ((sIx n n d):Int) 1)) _ _ s;rw[AV];exact ao h
def EO(a:Array Vq)(i k:Nat):((List.range k).filterMap λ(m:Nat)=>a[((i:Int)+(m:Int)*1).toNat]?).toArray=((a.toList.drop i).take k).toArray:=by
 have e:(λ(m:Nat)=>a[(i+(m:Int)*1).toNat]?)=λm=>a[i+m]?:=by
  funext m;have:(i+(m:Int)*1).toNat=i+m:=by omega
  rw[this]
 rw[e];have:=pick_run a i k;rw[bQ]at this;have b:((λx=>a[x]?) ∘ λx=>i+x)=λm=>a[i+m]?:=rfl;rw[b]at this;rw[this]
theorem getItem_tuple_cut{a b:Option Int}(d:IsTup s.heap t items)(hs:s.heap.IsSliceOf sl vl vu .none)(m:IsPart vl a)(l:IsPart vu b)
  (hw:¬(sIx items.size 0 a=0/\sIx items.size items.size b=items.size))
  (h:Q (.ref s.heap.objs.size) {s with heap:=s.heap.push {cls:=.type "tuple",data:=.seq ((items.toList.drop (sIx items.size 0 a)).take (sIx items.size items.size b-sIx items.size 0 a)).toArray}})
  (n:items.size<=sizeLine):wpAny (model prog w) A (getItem (.ref t) (.ref sl)) Q E s:=by
 have c:sizeOk (.seq ((items.toList.drop (sIx items.size 0 a)).take (sIx items.size items.size b-sIx items.size 0 a)).toArray):=by show ((items.toList.drop (sIx items.size 0 a)).take (sIx items.size items.size b-sIx items.size 0 a)).toArray.size<=sizeLine;rw[bF,bL,bR,bA];omega
 obtain⟨k,i,e,j⟩:=id hs;have g:s.TypeIs (.ref sl) "slice" :=⟨k,i,e⟩;unfold getItem;try with_reducible refine wpAny_holding ?_;first|refine aq (ao ?_)|skip
 refine aq (wpAny_sequenceKey d.typeIs (by decide) ?_);refine aq (wpAny_callSpecial?_slot d.typeIs PyProof.Rows.slot_tuple_getitem
  (wpAny_call_entry PyProof.Rows.slot_tuple_getitem d.typeIs entry_tuple_getitem ?_ (args_tuple_getitem _ _)))
 show wpAny _ _ (Builtin.Tuple.tupleItemsOf (.ref t) >>= _) _ _ s;refine aq (tupleItemsOf_ d ?_);refine aq (wpAny_typeOf g ?_);rw[aR (by decide)];refine aq (mS hs m l ?_);have f:¬((((sIx items.size 0 a):Int)==0&&(1:Int)==1&&(sIx items.size items.size b-sIx items.size 0 a)==items.size)=true):=by intro q;rw[bS,bS]at q;have o:=eq_of_beq q.1.1;have p:=eq_of_beq q.2;exact hw ⟨by omega,by omega⟩
 show wpAny _ _ (if (((sIx items.size 0 a):Int)==0&&1==1&&(sIx items.size items.size b-sIx items.size 0 a)==items.size)=true then _ else _) _ _ s;rw[aS f,EO];first
  |exact aq (wpAny_newObj_type (ao ⟨_,rfl,ao h⟩) c)
  |exact aq (wpAny_newObj_type (aq (ao (ao ⟨_,rfl,ao h⟩))) c)
  |exact aq (aq (wpAny_newObj_type (ao (ao ⟨_,rfl,ao h⟩)) c))
  |exact aq (aq (wpAny_newObj_type (ao ⟨_,rfl,ao h⟩) c))
end
end HT
namespace L2
open PySem PySem.Spec PyProof.Rows
abbrev TO:=St->Hp->(Option Int->Hp->Prop)->Prop
def PO(X:Cx)(e:Option Expr)(t:TO):Prop:=
 ∀(b:List (Addr×Obj)) (s:Sq) (a:St) (H:Hp) (Q:Option Int->Hp->Prop),gM X b a H s->t a H Q->
  wpAny (model X.prog X.w) X.A (evalPart e X.env) (λu d=>∃o c,gM X b a c d/\IsPart u o/\Q o c) X.xe s
def A2:TO:=λ_ H Q=>Q none H
def EU(t:TE):TO:=λa H Q=>t a H λx b=>∃i,x=.int i/\Q (some i) b
section
variable {X:Cx}{e:Expr}{te:TE}{lo hi:Option Expr}{tl th:TO}{pos p2:Pos}
def Jg:PO X none A2:=by intro b s a H Q I h;rw[evalPart_none];exact ao ⟨none,H,I,.none,h⟩
def Ba(h:PE X e te):PO X (some e) (EU te):=by intro b s a H Q I hw;rw[evalPart_some];refine jw (h b s a H _ I hw) λu s1 ⟨x,H1,I1,r1,q1⟩=>?_;obtain⟨i,rfl,q⟩:=q1;obtain⟨t,rfl⟩:=r1;exact⟨some i,H1,I1,.int i t,q⟩
def Kp(X:Cx)(r:V->Option Int->Option Int->Hp->VK->Prop):Prop:=
 ∀(d:List (Addr×Obj)) (s:Sq) (a:St) (H:Hp) (x:V) (v f b:Vq) (lo hi:Option Int) (c:Addr) (Q:VK),gM X d a H s->iD x v->s.heap.IsSliceOf c f b .none->IsPart f lo->IsPart b hi->r x lo hi H Q->
  ∃T id,typeLookup (.type T) "__getitem__" = pure (some (.builtin id))/\s.TypeIs v T/\wpAny (model X.prog X.w) X.A (getItem v (.ref c)) (EP X d a Q) X.xe s
def Kp.or(h:Kp X r)(h':Kp X r'):Kp X (λx lo hi H Q=>r x lo hi H Q\/r' x lo hi H Q):=by
 intro d s g H x v j b lo hi i Q I c k f a q;rcases q with q|q
 .exact h d s g H x v j b lo hi i Q I c k f a q
 .exact h' d s g H x v j b lo hi i Q I c k f a q
def Qq(r:V->Option Int->Option Int->Hp->VK->Prop)(te:TE)(tl th:TO):TE:=λa H Q=>te a H λx b=>tl a b λl c=>th a c λu d=>r x l u d Q
def GO(hr:Kp X r)(f:PE X e te)(d:PO X lo tl)(m:PO X hi th):PE X (.Subscript e (.Slice lo hi none p2) pos) (Qq r te tl th):=by intro a s c H Q I h;refine Subscript_ (jw (f a s c H _ I h) λv s1 ⟨x,H1,I1,r1,q1⟩=>?_);refine wpAny_Slice (jw (d a s1 c H1 _ I1 q1) λvl s2 ⟨l,H2,I2,pl,q2⟩=>jw (m a s2 c H2 _ I2 q2) λvu s3 ⟨u,H3,I3,pu,q3⟩=>?_);rw[evalPart_none];refine ao ?_;have g:gM X a c H3 {s3 with heap:=s3.heap.push {cls:=.type "slice",data:=.fields #[vl,vu,.none]}}:=I3.kept λb n q=>af _ q;obtain⟨T,id,k,i,j⟩:=hr a {s3 with heap:=s3.heap.push {cls:=.type "slice",data:=.fields #[vl,vu,.none]}} c H3 x v vl vu l u s3.heap.objs.size Q g r1 (Heap.IsSliceOf.new ..) pl pu q3;exact tail_any i k j (by with_unfolding_all rfl)
noncomputable def Ee(a:List V)(lo hi:Option Int):List V:=(a.drop (HT.sIx a.length 0 lo)).take (HT.sIx a.length a.length hi-HT.sIx a.length 0 lo)
def rT xs lo hi:(Ee xs lo hi).length<=xs.length:=by unfold Ee;rw[bL,bR];omega
def Ov(K:W.Frag):V->Option Int->Option Int->Hp->VK->Prop:=λx lo hi H Q=>∃a b,x=.ref a/\lR K H a b/\
 ¬(HT.sIx b.length 0 lo=0/\HT.sIx b.length b.length hi=b.length)/\∀p,H p=none->Q (.ref p) (jn H p (.tup (Ee b lo hi)))
def Mi:Kp X (Ov X.K):=by
 intro o s u H x v y n lo hi w Q I k m l j h;obtain⟨a,c,rfl,i,hw,q⟩:=h;cases k;obtain⟨gF,r,f,g⟩:=I.tuple i;have d:gF.toArray.size=c.length:=by rw[bF];exact r.length.symm
 refine⟨"tuple",_,PyProof.Rows.slot_tuple_getitem.lookup,f.typeIs,?_⟩;refine HT.getItem_tuple_cut f m l j (by rw[d];exact hw) ?_ (by rw[d];exact g);rw[d];refine⟨.ref s.heap.objs.size,_,I.laid (λb p q=>af _ q) (aL _) ?_,rfl,q _ (I.hok.fresh (aL _))⟩;exact⟨aO (rT c lo hi) g,_,(r.drop (HT.sIx c.length 0 lo)).take (HT.sIx c.length c.length hi-HT.sIx c.length 0 lo),sj.new _ _⟩
def OL(K:W.Frag):R2:=λx y H Q=>∃a b d c,x=.ref a/\y=.ref b/\lR K H a d/\lR K H b c/\d≠[]/\d.length+c.length<=sizeLine/\
 (c=[]->Q (.ref a) H)/\(c≠[]->∀p,H p=none->Q (.ref p) (jn H p (.tup (d++c))))
def gZ.nil_iff(r:gZ xs us):us=[]↔xs=[]:=by
 cases r with
 |nil=>simp
 |cons _ _=>simp
def HN:nu X (binaryOp .Add) (OL X.K):=by intro A s D H x y v u Q I o j h;obtain⟨a,b,r,C,rfl,rfl,k,n,i,g,p,m⟩:=h;cases o;cases j;obtain⟨gF,d,l,_⟩:=I.tuple k;obtain⟨f,c,p2,_⟩:=I.tuple n;refine HT.cat_tup l p2 (λz=>i (d.nil_iff.mp z)) (λz=>⟨.ref a,H,I,rfl,p (c.nil_iff.mp z)⟩) (λz=>?_) (by rw[<-d.length,<-c.length];exact g);refine⟨.ref s.heap.objs.size,_,I.laid (λb B q=>af _ q) (aL _) ?_,rfl,m (λw=>z (c.nil_iff.mpr w)) _ (I.hok.fresh (aL _))⟩;exact⟨by rw[aU];exact g,_,d.append c,sj.new _ _⟩
end
end L2
namespace L2
open PySem PySem.Spec PyProof.Rows
noncomputable def xO(n:Nat)(i:Int):Option Nat:=if 0<=i then (if i<n then some i.toNat else none) else if -(n:Int)<=i then some (i+n).toNat else none
noncomputable def oX{a:Type}(b:List a)(i:Int):Option a:=(xO b.length i).bind λj=>b[j]?
def BF(h:xO n i=some j):seqIndex? i n=some j/\j<n/\-(n:Int)<=i/\i<n:=by
 unfold xO at h;by_cases b:0<=i
 .rw[aR b]at h;by_cases a:i<n
  .rw[aR a]at h;have e:=Option.some.inj h;exact⟨by rw[seqIndex_of b a,e],by omega,by omega,a⟩
  .rw[aS a]at h;cases h
 .rw[aS b]at h;by_cases a:-n<=i
  .rw[aR a]at h;have e:=Option.some.inj h;exact⟨by rw[seqIndex_neg (by omega) a,e],by omega,a,by omega⟩
  .rw[aS a]at h;cases h
def wK{a:List α}{v:α}(h:oX a i=some v):∃j,seqIndex? i a.length=some j/\a[j]? = some v/\j<a.length/\-(a.length:Int)<=i/\i<a.length:=by
 unfold oX at h;cases e:xO a.length i with
 |none=>rw[e]at h;cases h
 |some j=>rw[e]at h;obtain⟨d,c,f,b⟩:=BF e;exact⟨j,d,h,c,f,b⟩
def Gv xs (v:α):oX (xs++[v]) (-1)=some v:=by
 have a:(xs++[v]).length=xs.length+1:=by simp
 have e:xO (xs++[v]).length (-1)=some xs.length:=by unfold xO;rw[a,aS (by decide),aR (by omega)];congr 1;omega
 unfold oX;rw[e];simp
def Bg(b:Expr):Prop:=∀o i,subscripted b false o i=operate [o,i] (getItem o i)
def JI(X:Cx)(r:R2):Prop:=
 ∀(b a:Expr) (d:List (Addr×Obj)) (s:Sq) (c:St) (H:Hp) (x y:V) (v u:Vq) (Q:VK),gM X d c H s->iD x v->iD y u->r x y H Q->
  subscripted a false v u=operate [v,u] (getItem v u)->wpAny (model X.prog X.w) X.A (subscriptTail b a v u) (EP X d c Q) X.xe s
def QS(X:Cx)(id:String)(r:V->List V->Hp->VK->Prop):Prop:=
 ∀(c:List (Addr×Obj)) (s:Sq) (a:St) (H:Hp) (x:V) (b:List V) (v:Vq) (d:List Vq) (Q:VK),gM X c a H s->iD x v->gZ b d->r x b H Q->
  wpAny (model X.prog X.w) X.A (call (.builtin id) (v::d)) (EP X c a Q) X.xe s
section
variable {X:Cx}{a b:Expr}{ta tb:TE}{pos:Pos}
def JI.or(h:JI X r)(h':JI X r'):JI X (λx y H Q=>r x y H Q\/r' x y H Q):=by
 intro d c i s e H x y v u Q I f g q j;rcases q with q|q
 .exact h d c i s e H x y v u Q I f g q j
 .exact h' d c i s e H x y v u Q I f g q j
def NH(hr:JI X r)(e:PE X a ta)(g:PE X b tb)(hs:Bg b):PE X (.Subscript a b pos) (uM r ta tb):=by intro k s l H Q I h;exact Subscript_ (MK e g I h λv u f x y d j i c q=>hr a b k f l d x y v u Q j i c q (hs _ _))
def Ot(K:W.Frag):R2:=λx y H Q=>∃p c i v,x=.ref p/\y=.int i/\kK K H p c/\oX c i=some v/\Q v H
def Oa(K:W.Frag):R2:=λx y H Q=>∃p c i v,x=.ref p/\y=.int i/\lR K H p c/\oX c i=some v/\Q v H
def NW:R2:=λx y H Q=>∃z i c,x=.str z/\y=.int i/\z.length<=sizeLine/\oX z.cps.toList i=some c/\Q (.str ⟨#[c]⟩) H
def Iv:JI X (Ot X.K):=by
 intro l k F s L H x y v u Q I E B h o;obtain⟨p,U,i,z,rfl,rfl,C,D,q⟩:=h;cases E;obtain⟨t,rfl⟩:=B;obtain⟨gF,r,g,Y⟩:=I.list C;obtain⟨j,d,P,R,J,N⟩:=wK D;obtain⟨w,n,f⟩:=r.get P;have A:=r.length;have S:=xg;have c:EP X F L Q w s:=⟨z,H,I,f,q⟩;by_cases m:0<=i
 .have e:i.toNat=j:=by rw[seqIndex_of m N]at d;exact Option.some.inj d
  exact item_listR g.isList m (by omega) (by rw[e];simpa using n) c o
 .have e:(i+gF.toArray.size).toNat=j:=by rw[seqIndex_neg (by omega) J]at d;rw[bF,<-A];exact Option.some.inj d
  exact subscriptTail_builtinR g.isList.typeIs slot_list_getitem.lookup
   (wpAny_getItem_list_neg g.isList (by omega) (by rw[bF]<;>omega) (by omega) (by rw[e];simpa using n) ⟨rfl,c⟩) o
def n6:JI X (Oa X.K):=by
 intro value slice gq s σ H x y v u Q I rx ry h hs;obtain⟨p,xs,i,z,rfl,rfl,hq,he,q⟩:=h;cases rx;obtain⟨t,rfl⟩:=ry;obtain⟨gF,r,pl,hz⟩:=I.tuple hq;obtain⟨j,h1,h2,h3,h4,h5⟩:=wK he;obtain⟨w,ew,rw'⟩:=r.get h2;have hl:=r.length;have hn:=xg;have fin:EP X gq σ Q w s:=⟨z,H,I,rw',q⟩;exact subscriptTail_builtinR pl.typeIs slot_tuple_getitem.lookup
  (getItem_tuple pl (by omega) (by omega) (by rw[bF,<-hl];exact h1) (by simpa using ew) ⟨rfl,fin⟩) hs
def Nh:JI X NW:=by
 intro e d D s F H x y v u Q I m k h A;obtain⟨z,i,c,rfl,rfl,J,l,q⟩:=h;obtain⟨t,rfl⟩:=m;obtain⟨E,rfl⟩:=k;obtain⟨j,f,w,B,o,r⟩:=wK l;have g:z.cps.toList.length=z.length:=by simp[Str.length]
 rw[g]at f o r;have C:=xg;exact tail_any (typeIs_str s z t) slot_str_getitem.lookup (getItem_str (by have n:decide (i < -(2 ^ 63))=false:=aC (by omega);have p:decide (i >= 2 ^ 63)=false:=aC (by omega);rw[n,p,Bool.or_false]) (by rw[f];simpa using w) ⟨.str ⟨#[c]⟩,H,I.tok _,⟨_,rfl⟩,q⟩) A
def Qh(K:W.Frag):R2:=λx y H Q=>Ot K x y H Q\/Oa K x y H Q\/NW x y H Q
def Mj:JI X (Qh X.K):=Iv.or (n6.or Nh)
def AH(gF:List Vq) n j u:Obj.mapSeq (·.setIfInBounds j u) {cls:=.type "list",data:=.seq gF.toArray n}={cls:=.type "list",data:=.seq (gF.set j u).toArray n}:=by simp[Obj.mapSeq]
def gM.lst(I:gM X gq σ H s)(h:H p=some (.lst xs)) :
  ∃gF n,gZ xs gF/\s.heap.get? p=some {cls:=.type "list",data:=.seq gF.toArray n}/\xs.length<=sizeLine:=by
 obtain⟨z,gF,n,r,e⟩:=I.hok p _ h;exact⟨gF,n,r,e,z⟩
def gM.lstUpd{gF c:List Vq}(I:gM X gq σ H s)(h:H p=some (.lst xs))
  (j:s.heap.get? p=some {cls:=.type "list",data:=.seq gF.toArray n}) (d:f {cls:=.type "list",data:=.seq gF.toArray n}={cls:=.type "list",data:=.seq c.toArray n'}) (r:gZ ys c) (g:ys.length<=sizeLine) t :
  gM X gq σ (jn H p (.lst ys)) {s with heap:=s.heap.update p f,toks:=t}:=by
 have e:(s.heap.update p f).get? p=some {cls:=.type "list",data:=.seq c.toArray n'}:=by rw[Heap.get?_update_self f j (by rw[d]<;>rfl),d]
 refine I.write (by rw[h];trivial) (.inl rfl) (λb u i q=>(Heap.get?_update_other _ _ (Ne.symm i)).trans q) ⟨_,e⟩ ?_;exact⟨g,c,n',r,e⟩
def BX:V->V->V->Hp->(Hp->Prop)->Prop:=λo i v H Q=>∃p c k j,o=.ref p/\i=.int k/\H p=some (.lst c)/\xO c.length k=some j/\Q (jn H p (.lst (c.set j v)))
def set_list:NX X BX:=by
 intro C s E H o i v L K u Q I A D y h;obtain⟨p,z,k,j,rfl,rfl,x,B,q⟩:=h;cases A;obtain⟨t,rfl⟩:=D;obtain⟨gF,n,r,e,F⟩:=I.lst x;obtain⟨c,N,l,w⟩:=BF B;have d:=r.length;have J:=xg;have g:gM X C E (jn H p (.lst (z.set j v))) {s with heap:=s.heap.update p (Obj.mapSeq (·.setIfInBounds j u))}:=I.lstUpd x e (AH gF n j u) (r.set y j) (by rw[List.length_set];exact F) s.toks
 by_cases m:0<=k
 .have f:k.toNat=j:=by rw[seqIndex_of m w]at c;exact Option.some.inj c
  exact W.ki_setAt e m (by omega) (by rw[bF,<-d];exact w) (by rw[f];exact⟨_,g,q⟩)
 .have f:(k+gF.toArray.size).toNat=j:=by rw[seqIndex_neg (by omega) l]at c;rw[bF,<-d];exact Option.some.inj c
  exact W.ki_setBack e (by omega) (by rw[bF,<-d];exact l) (by omega) (by rw[f];exact⟨_,g,q⟩)
def wQ lo hi n:(sliceBounds lo hi none n).1=((HT.sIx n 0 lo:Nat):Int)/\(sliceBounds lo hi none n).2.1=((HT.sIx n n hi:Nat):Int)/\(sliceBounds lo hi none n).2.2=1:=by
 refine⟨?_,?_,rfl⟩
 .cases lo with
  |none=>simp[sliceBounds,HT.sIx]
  |some i=>
   simp only[sliceBounds,HT.sIx,Option.getD_none,show 1>0 by decide,if_true];by_cases h:i<0
   .simp only[h,if_true]<;>omega
   .simp only[h,if_false]<;>omega
 .cases hi with
  |none=>simp[sliceBounds,HT.sIx]
  |some i=>
   simp only[sliceBounds,HT.sIx,Option.getD_none,show 1>0 by decide,if_true];by_cases h:i<0
   .simp only[h,if_true]<;>omega
   .simp only[h,if_false]<;>omega
def vb(gF:List Vq) lo hi:slicePick gF.toArray lo hi none=((gF.drop (HT.sIx gF.length 0 lo)).take (HT.sIx gF.length gF.length hi-HT.sIx gF.length 0 lo)).toArray:=by obtain⟨e,d,c⟩:=wQ lo hi gF.toArray.size;unfold slicePick;rw[e,d,c];simp only[sliceRange_one,pick_run,bF]<;>rfl
def NS(K:W.Frag):V->Option Int->Option Int->Hp->VK->Prop:=λx d e H Q=>∃a c,x=.ref a/\kK K H a c/\∀p,H p=none->Q (.ref p) (jn H p (.lst (Ee c d e)))
def JO:Kp X (NS X.K):=by intro p s w H x v z o d e y Q I j n k i h;obtain⟨a,c,rfl,g,q⟩:=h;cases j;obtain⟨gF,r,f,m⟩:=I.list g;have l:=r.length;refine⟨"list",_,slot_list_getitem.lookup,f.isList.typeIs,?_⟩;refine wpAny_getItem_list_slice f.isList n k i .none (by simp) ?_ (by rw[bF]<;>omega);rw[vb,<-l];refine⟨.ref s.heap.objs.size,_,I.laid (λb u q=>af _ q) (aL _) ?_,rfl,q _ (I.hok.fresh (aL _))⟩;exact⟨aO (rT c d e) m,_,0,(r.drop (HT.sIx c.length 0 d)).take (HT.sIx c.length c.length e-HT.sIx c.length 0 d),au _ rfl⟩
def uR:kD X (.type "tuple") (λj H Q=>∃p c,j=[.ref p]/\((kK X.K H p c/\∀l,H l=none->Q (.ref l) (jn H l (.tup c)))\/(lR X.K H p c/\Q (.ref p) H))):=by
 intro w s x H j z Q I r h;obtain⟨p,c,rfl,h⟩:=h;obtain⟨u,rfl,n⟩:=oU r;cases n;rcases h with⟨d,q⟩|⟨d,q⟩
 .obtain⟨gF,f,g,m⟩:=I.list d;have A:=f.length;refine call_tuple_list g.isList (λi y=>?_) (by simp only[bF]<;>omega);have k:=I.kept (t':=s.toks) y;have v:gM X w x (jn H i.objs.size (.tup c)) {s with heap:=i.push {cls:=.type "tuple",data:=.seq gF.toArray}}:=
   k.laid (λb o e=>af _ e) (aL _) (⟨m,gF,f,sj.new _ _⟩)
  exact⟨.ref i.objs.size,_,v,rfl,q _ (k.hok.fresh (aL _))⟩
 .obtain⟨gF,f,g,m⟩:=I.tuple d;exact call_tuple_same g ⟨.ref p,H,I,rfl,q⟩
def Pa(K:W.Frag)(T:String)(x:V)(H:Hp):Prop:=match x with
 |.str _=>T = "str"
 |.int _=>T = "int"
 |.ref p=>(T = "list" /\∃d,kK K H p d)\/(T = "tuple" /\∃o,K.lookup p=some o/\o.cls=.type "tuple" /\o.dict=none)\/
   (T = "dict" /\((∃c,H p=some (.dK c))\/∃c,H p=some (.dT c)))\/(T = "set" /\∃S n,H p=some (.set S n))
 |_=>False
theorem Mz{q:List (Addr×Obj)}{u:St}{H:Hp}{s:Sq}{T:String}{x:V}{v:Vq}(I:gM X q u H s)(r:iD x v)(ty:Pa X.K T x H) :
  s.TypeIs v T/\∀a,v=.ref a->∃j,s.heap.get? a=some j/\j.dict=none:=by
 cases x with
 |str z=>obtain⟨t,rfl⟩:=r;cases (ty);exact⟨typeIs_str s z t,λ_ e=>nomatch e⟩
 |int i=>obtain⟨t,rfl⟩:=r;cases (ty);exact⟨typeIs_int s i t,λ_ e=>nomatch e⟩
 |ref p=>
  cases r;rcases ty with⟨rfl,w,m⟩|⟨rfl,o,d,l,hd⟩|⟨rfl,d⟩|⟨rfl,S,n,d⟩
  .obtain⟨gF,_,k,_⟩:=I.list m;refine⟨k.isList.typeIs,λa e=>?_⟩;cases e;obtain⟨o,n,e,c,hd,_⟩:=k;exact⟨o,e,hd⟩
  .refine⟨⟨o,I.kIn p o d,l⟩,λa e=>?_⟩;cases e;exact⟨o,I.kIn _ o d,hd⟩
  .have z:∃o,s.heap.get? p=some o/\o.ExactDict:=by
    rcases d with⟨g,d⟩|⟨g,d⟩
    .obtain⟨_,_,_,_,o,_,_,e,f,_⟩:=I.hok p _ d;exact⟨o,e,f⟩
    .obtain⟨_,_,_,_,o,_,_,e,f,_⟩:=I.hok p _ d;exact⟨o,e,f⟩
   obtain⟨o,e,f⟩:=z;refine⟨⟨o,e,f.1⟩,λa h=>?_⟩;cases h;exact⟨o,e,f.2.1⟩
  .obtain⟨o,_,_,_,e,f,_⟩:=I.hok p _ d;refine⟨⟨o,e,f.1⟩,λa h=>?_⟩;cases h;exact⟨o,e,f.2.1⟩
 |_=>exact False.elim ty
def Qw(K:W.Frag)(T:String)(r:V->List V->Hp->VK->Prop)(to:TE)(t:TA):TE:=λc H Q=>to c H λx d=>Pa K T x d/\t c d λe f=>r x e f Q
variable {o e:Expr}{es:List Expr}{to:TE}{t:TA}{name:Str}{apos cpos:Pos}{T id:String}{r:V->List V->Hp->VK->Prop}
def J6(u:PlainAttrs T)(slot:Slot T name id)(j:typeOf (.builtin id)=pure (.type "method_descriptor"))(l:QS X id r)(n:PE X o to)(m:PA X (e::es) t)
  (d:attributeBase o name X.env (eval o X.env)=eval o X.env:=by rfl)
  (f:((backTo cpos (starEach (e::es) X.env)).all (λx=>!x.1)&&(backToKw cpos (keywordEach [] X.env)).all (λx=>x.1.isSome)
   && decide ((e::es).length+([]:List Keyword).length+(if ([]:List Keyword).isEmpty then 0 else 1)<30))=true:=by rfl)
  (c:(apos.endLine==cpos.line)=true:=by rfl) (hs:starEach (e::es) X.env=(false,eval e X.env)::starEach es X.env:=by rfl) (hplain:(backTo cpos (starEach es X.env)).any (·.1)=false:=by rfl) :
  PE X (.Call (.Attribute o name apos) (e::es) [] cpos) (Qw X.K T r to t):=by
 intro g s i H Q I h;refine wpAny_Call_method_late d f c rfl (jw (n g s i H _ I h) λv s1 ⟨x,H1,I1,r1,ty,q1⟩=>?_);obtain⟨q,p⟩:=Mz I1 r1 ty;refine⟨T,id,u,slot,j,q,p,?_⟩;have k:=m cpos g s1 i H1 _ I1 q1;rw[hs]at k ⊢;refine Calls.callWith_builtin (by show (false||(backTo cpos (starEach es X.env)).any (·.1))=false;rw[hplain]<;>rfl) (Calls.evalArgs_plain ?_);exact jw k λus s2 ⟨vs,H2,I2,r2,q2⟩=>l g s2 i H2 x vs v us Q I2 r1 r2 q2
end
end L2
namespace L2
open PySem PySem.Spec PyProof.Rows
def Q4(X:Cx)(id:String)(r:V->List V->Hp->VK->Prop):Prop:=
 ∀(c:List (Addr×Obj)) (s:Sq) (a:St) (H:Hp) (x:V) (b:List V) (v:Vq) (d:List Vq) (Q:VK),gM X c a H s->iD x v->gZ b d->r x b H Q->
  wpAny (model X.prog X.w) X.A (call (.builtin id) (v::d)) (EP X c a Q) X.xe s
theorem gZ.one:∀{x} {us},gZ [x] us->∃u,us=[u]/\iD x u
 |_,_,.cons r .nil=>⟨_,rfl,r⟩
def gZ.reverse(h:gZ xs us):gZ xs.reverse us.reverse:=by
 induction h with
 |nil=>exact .nil
 |cons r t ih=>rw[bT,bT];exact gZ.append ih (.cons r .nil)
theorem gZ.rep(h:gZ xs us):∀k:Nat,gZ (List.replicate k xs).flatten (List.replicate k us).flatten
 |0=>.nil
 |k+1=>by rw[bU,bU,bV,bV];exact gZ.append h (gZ.rep h k)
theorem om(gF:List Vq):∀k a,
  List.foldl (λb c=>b++c) a.toArray (List.replicate k gF.toArray)=(a++(List.replicate k gF).flatten).toArray
 |0,a=>by simp
 |k+1,a=>by
  have e:a.toArray++gF.toArray=(a++gF).toArray:=by simp
  have d:(a++gF)++(List.replicate k gF).flatten=a++(List.replicate (k+1) gF).flatten:=by rw[bU,bV,bW]
  rw[<-d,<-om gF k (a++gF),<-e,bU,bX]
section
variable {X:Cx}{gq:List (Addr×Obj)}{σ:St}{H:Hp}{s:Sq}{l b:Addr}{xs ys zs:List V}
def gM.lset{gF a:List Vq}(I:gM X gq σ H s)(d:H l=some (.lst xs))
  (e:s.heap.get? l=some {cls:=.type "list",data:=.seq gF.toArray n}) (c:f gF.toArray=a.toArray) (hv:gZ ys a) (g:ys.length<=sizeLine) :
  gM X gq σ (jn H l (.lst ys)) {s with heap:=s.heap.update l (Obj.mapSeq f),toks:=t'}:=by
 have q:=PySem.IsL.update e f;rw[c]at q;refine I.write (by rw[d];exact trivial) (.inl rfl) (λj u i h=>(Heap.get?_update_other s.heap (Obj.mapSeq f) (Ne.symm i)).trans h) ⟨_,q⟩ ?_;exact⟨g,a,_,hv,q⟩
def gM.lnew(I:gM X gq σ H s)(hv:gZ ys gF)(a:ys.length<=sizeLine) :
  gM X gq σ (jn H s.heap.objs.size (.lst ys)) {s with heap:=s.heap.push {cls:=.type "list",data:=.seq gF.toArray},toks:=t'}:=
 I.laid (λ_ _ q=>af _ q) (aL _) ⟨a,gF,0,hv,au _ rfl⟩
def gM.fresh(I:gM X gq σ H s):H s.heap.objs.size=none:=I.hok.fresh (aL _)
def gM.lstM(I:gM X gq σ H s)(a:H l=some (.lst xs)):xs.length<=sizeLine/\∃gF n,gZ xs gF/\xs.length=gF.length/\s.heap.get? l=some {cls:=.type "list",data:=.seq gF.toArray n}:=by obtain⟨z,gF,n,r,e⟩:=I.hok l _ a;exact⟨z,gF,n,r,r.length,e⟩
def Fq(h:n<=sizeLine):Builtin.List.listTooLong n=false:=by unfold Builtin.List.listTooLong;exact aC (by omega)
end
section
variable {X:Cx}
def wW:V->List V->Hp->VK->Prop:=λx b H Q=>∃l a y,x=.ref l/\b=[y]/\H l=some (.lst a)/\a.length<sizeLine/\Q .non (jn H l (.lst (a++[y])))
def wq:Q4 X "list.append" wW:=by intro i s m H x j v k Q I c b h;obtain⟨l,g,y,rfl,rfl,a,o,q⟩:=h;cases c;obtain⟨u,rfl,d⟩:=b.one;obtain⟨z,gF,n,r,f,e⟩:=I.lstM a;refine call_meets F.slot_list_append ⟨_,e,rfl⟩ F.entry_list_append (F.args_list_append_2 _ _) (PySem.list_append l gF.toArray n u (by rw[bF];omega)) ⟨e,?_⟩;refine⟨.non,_,I.lset a e (by simp) (r.append (.cons d .nil)) ?_,rfl,q⟩;rw[aU,bY];omega
def MX:R2:=λx y H Q=>∃l b a c,x=.ref l/\y=.ref b/\H l=some (.lst a)/\H b=some (.lst c)/\a.length+c.length<=sizeLine/\∀p,H p=none->Q (.ref p) (jn H p (.lst (a++c)))
def Ge:nu X (binaryOp .Add) MX:=by
 intro B s C H x y v u Q I i c h;obtain⟨l,b,A,w,rfl,rfl,d,f,E,q⟩:=h;cases i;cases c;obtain⟨z,gF,n,r,o,e⟩:=I.lstM d;obtain⟨p,a,D,k,m,j⟩:=I.lstM f;refine PySem.P.add_list e j ?_ (by rw[bF,bF];omega);have g:gF.toArray++a.toArray=(gF++a).toArray:=by simp
 rw[g];exact⟨.ref _,_,I.lnew (r.append k) (by rw[aU];omega),rfl,q _ I.fresh⟩
def Ob:R2:=λx y H Q=>∃l k a,x=.ref l/\y=.int k/\H l=some (.lst a)/\-(2 ^ 63)<=k/\k<2 ^ 63/\a.length*k.toNat<=sizeLine/\
 ∀p,H p=none->Q (.ref p) (jn H p (.lst (List.replicate k.toNat a).flatten))
def xh{b:Type}(a:List b) k:(List.replicate k a).flatten.length=k*a.length:=by
 induction k with
 |zero=>simp
 |succ k ih=>rw[bU,bV,aU,ih,bZ,Nat.add_comm]
def Mm:nu X (binaryOp .Mult) Ob:=by
 intro L s N H x y v u Q I B p h;obtain⟨l,k,K,rfl,rfl,w,J,E,j,q⟩:=h;cases B;obtain⟨t,rfl⟩:=p;obtain⟨z,gF,n,r,o,e⟩:=I.lstM w;have D:gF.toArray.size*k.toNat<=sizeLine:=by rw[bF,<-o];exact j
 have c:¬gF.toArray.size*k.toNat>(2 ^ 63-1) / 8:=by
  have:sizeLine<=(2 ^ 63-1) / 8:=by decide
  omega
 have d:¬(!Builtin.List.listFitsIndex k)=true:=by rw[fitsIndex_both J E];exact aI
 have b:¬Builtin.List.listTooLong (gF.toArray.size*k.toNat)=true:=by rw[Fq D];exact aI
 have f:List.foldl (λg i=>g++i) #[] (List.replicate (if gF.toArray.isEmpty=true then 0 else k.toNat) gF.toArray)=(List.replicate k.toNat gF).flatten.toArray:=by
  have A:∀m:Nat,List.foldl (λg i=>g++i) #[] (List.replicate m gF.toArray)=(List.replicate m gF).flatten.toArray:=λm=>by have:=om gF m [];rw[b5]at this;exact this
  rw[A];cases gF with
  |nil=>simp
  |cons a r'=>rw[aS (by simp)]
 refine wpAny_binaryOp_repeat_ref (by decide) ⟨_,e,rfl⟩ (λC=>typeIs_int C k t) noFill_list_mul F.fills_int_mul F.slot_int_rmul repeat_list F.slot_int_index.lookup
  (call_meets F.slot_int_rmul (typeIs_int s k t) F.entry_int_rmul (F.args_int_rmul_2 _ _) (int___rmul___int_list k t l gF.toArray n)
   ⟨e,rfl,⟨_,e,rfl⟩,call_meets F.slot_list_mul ⟨_,e,rfl⟩ F.entry_list_mul (F.args_list_mul_2 _ _) (AutoListH.list___mul___list_int_3 l gF.toArray n k t d c b) ⟨e,?_⟩⟩)
 rw[f];exact⟨.ref _,_,I.lnew (r.rep k.toNat) (by rw[xh,b6];exact j),rfl,q _ I.fresh⟩
end
end L2
namespace Att
open PySem PySem.W PySem.Calls PyProof.Rows
def r6:∀c vs,WellAll P h vs (c.map WData.int)->IntsAre vs c:=by
 intro c;induction c with
 |nil=>intro vs w;rw[b7]at w;cases w;exact .nil
 |cons n c ih=>
  intro vs w;rw[b8]at w;cases w with
  |cons a b=>cases a;exact .cons _ _ (ih _ b)
theorem script_of{l:OpenLaw}(k:l.most=some n)
  (b:l.row.toRowW.claim.pre args=true) (g:WellAll P h vals args) :
  ∃a vs c,vals=[Value.ref a]/\args=[WData.list (c.map WData.int)]/\h.get? a=some {cls:=.type "list",data:=.seq vs.toArray}/\IntsAre vs c/\c.length<=n:=by
 have pF:=(pre_splitW b).1;have i:l.pre.holds [] {args:=args}=true:=(pre_splitW b).2;obtain⟨d,r,rfl,p,o⟩:=hasAllW_cons pF;obtain rfl:=hasAllW_nil o;obtain⟨s,rfl,j⟩:=hasW_list p;obtain⟨c,rfl⟩:=items_int j;have m:c.length<=n:=by
  unfold OpenLaw.pre at i;have e:(WTm.not (.lt (.lit (.int n)) (.len (.arg 0)))).holds [] {args:=[.list (c.map .int)]}=true:=by have e:=(holds_andW i).1;rw[k]at e;exact e
  have f:=condW_of e (w_not (w_lt w_lit (w_len_list (w_arg rfl))));rw[ax]at f;refine Nat.le_of_not_lt λq=>?_;first
   | (rw[aD q']at f;exact absurd f (by decide))
   | (simp at f;omega)
 cases g with
 |cons w1 w2=>
  cases w2;cases w1 with
  |list ho uN=>exact⟨_,_,c,rfl,rfl,ho,r6 c _ uN,m⟩
def post_true(l:OpenLaw) args:l.row.toRowW.claim.post args (.bool true) args=true:=
 postW_of
  (show WShape.has [] (.bool true) .bool=true by first|rfl|decide|simp[WShape.has,WShape.arms,WShape.armsAll])
  (w_eq_bool (w_res rfl) w_lit) rfl
end Att
namespace L2
open PySem PySem.Spec PyProof.Rows
theorem wa:∀{vs} {ns},IntsAre vs ns->gZ (ns.map V.int) vs
 |_,_,.nil=>.nil
 |_,_,.cons n t h=>.cons ⟨t,rfl⟩ (wa h)
def KP(H:Hp):Prop:=∀b,H b=none\/∃o a,H b=some (.frz o (.lst a))
def yT(h:Heap)(H:Hp)(a:List (Addr×Addr)):Heap:=⟨(EE h H).objs,{ids:=a}⟩
theorem Hn{K:W.Frag}
  (KX:K.In s₁.heap) (y:s₁.heap.Ns mainGlobals mg) (f:s₁.heap.Ns builtinsNs mb) (Y:∀x:Str,x≠ "__name__" ->mb x=bootBuiltins x) (D:s₁.heap.NoLimit) (hg:s₁.gens = #[])
  (L:s₁.heap.get? a=some {cls:=.type "list",data:=.seq vs.toArray}) (hi:IntsAre vs ns) (hl:ns.length<=sizeLine) (hr:jO k callerA)
  (F:∀g:Heap,K.In g->g.Ns mainGlobals mg->ny P w K mg g CX k fa fd [x] sp) (p:∀(s:Sq) (u:Vq),BindsTo s fd ⟨[u],[]⟩ [(x,u)])
  (X:∀H:Hp,KP H->kK K H a (ns.map V.int)->sp [.ref a] H (λv _=>v=.bl true) λ_ _ _=>False)
  (S:∀H e i,CX [] H s₁ (λ_ _ _=>False) e i->False) :
  codeAny (model P w) callerA (.call (.ref fa) ⟨[.ref a],[]⟩) (λr i=>r=.ok (.ret (.bool true))/\OldK s₁.heap i.heap/\i.os=s₁.os/\AllBare i.gens) s₁:=by
 have rv:=wa hi;have B:=hi.length;have l:∀H:Hp,KP H->kK K H a (ns.map V.int)->oS P w H s₁.heap->(∀b,H b≠none->b=a)->(H a≠none->K.lookup a=none)->
   codeAny (model P w) callerA (.call (.ref fa) ⟨[.ref a],[]⟩) (λr i=>r=.ok (.ret (.bool true))/\OldK s₁.heap i.heap/\i.os=s₁.os/\AllBare i.gens) s₁:=by
  intro H hO hS E hA hK;have base_of:∀{b:Addr} {o:Obj},s₁.heap.get? b=some o->H b=none->(yT s₁.heap H []).get? b=some o:=λe n=>Eb e n;have U:∀{b:Addr} {o:Obj} {Q:Array DictEntry} {N:Nat},s₁.heap.get? b=some o->o.data=.dict Q N->H b=none:=λ{b o Q N} e d=>by
   cases q:H b with
   |none=>rfl
   |some u=>have R:=hA b (by rw[q];simp);subst R;rw[L]at e;cases e;have d':=d;cases d'
  have j:∀{b:Addr} {m:Str->Option Value},s₁.heap.Ns b m->(yT s₁.heap H []).Ns b m:=λ{b m} ⟨o,Q,N,e,d,r⟩=>⟨o,Q,N,base_of e (U e d),d,r⟩;have I:K.In (yT s₁.heap H []):=λb o e=>base_of (KX b o e) (by
   cases q:H b with
   |none=>rfl
   |some u=>have R:=hA b (by rw[q];simp);subst R;rw[hK (by rw[q];simp)]at e;cases e)
  have hM:Mod K mg (yT s₁.heap H []):=⟨I,j y,⟨mb,j f,Y⟩,let ⟨mc,h1,h2⟩:=D;⟨mc,j h1,h2⟩⟩;have e0:IJ P w K mg (yT s₁.heap H []) callerA [] s₁ H:=⟨rfl,hM,λb o e=>Js e,b9 (CK _ _),trivial,λb f=>absurd (show b∈([]) from f) (by simp),E,.of_eq hg,λc P qn hm=>nomatch (show (c,P)∈([]:List (Addr×Addr)) from hm)⟩;refine codeAny_mono ((F _ I (j y)).run callerA [] s₁ H ⟨[.ref a],[]⟩ [.ref a] [.ref a] _ _ hr e0 (p s₁ (.ref a)) (.cons rfl .nil) (X H hO hS)) λr i h=>?_;cases r with
  |error e=>exact (S H e i h).elim
  |ok fl=>
   cases fl with
   |next=>exact False.elim h
   |brk=>exact False.elim h
   |cont=>exact False.elim h
   |ret u=>
    obtain⟨v,H',os,A,un,J,r',q⟩:=h;have q':=q;subst q';obtain rfl:u=Value.bool true:=r';refine⟨rfl,OldK.of_keep λb o e=>?_,os,A⟩;cases q:H b with
    |none=>exact un.keep b o e q (by intro z;exact absurd (show b∈([]) from z) (by simp)) (by simp)
    |some u=>
     rcases hO b with z|⟨ob,xs,z⟩
     .rw[q]at z;cases z
     .have z2:=un.frzs b ob _ z;obtain⟨e1,_⟩:=E b _ z;obtain⟨e2,_⟩:=J b _ z2;rw[e]at e1;cases e1;exact e2
 cases Z:K.lookup a with
 |some o=>have e:=KX a o Z;rw[L]at e;cases e;refine l (λ_=>none) (λ_=>.inl rfl) (.inr ⟨_,vs.toArray,_,Z,rfl,rfl,rfl,by rw[bF,B];exact hl,by simpa using rv⟩) (λb u z=>by have C:=z;cases C) (λb z=>absurd rfl z) λz=>absurd rfl z
 |none=>
  refine l (λb=>if b=a then some (.frz {cls:=.type "list",data:=.seq vs.toArray} (.lst (ns.map V.int))) else none) (λb=>?_) (.inl (.inr ⟨{cls:=.type "list",data:=.seq vs.toArray},aR rfl⟩)) (λb u z=>?_) (λb z=>?_) λ_=>Z
  .by_cases f:b=a
   .exact .inr ⟨_,_,aR f⟩
   .exact .inl (aS f)
  .by_cases f:b=a
   .have C:=(aR f).symm.trans z;cases C;subst f;exact⟨L,by rw[ax];exact hl,vs,_,rv,L⟩
   .have C:=(aS f).symm.trans z;cases C
  .by_cases f:b=a
   .exact f
   .exact absurd (aS f) z
end L2
namespace L2
open PySem PySem.Spec PyProof.Rows
noncomputable def kM(s:Stmt):Arguments:=match s with
 |.FunctionDef _ a _ _ _ _ _ _ _ _=>a
 |_=>{posonlyargs:=[],args:=[],vararg:=none,kwonlyargs:=[],kw_defaults:=[],kwarg:=none,defaults:=[]}
noncomputable def i9(s:Stmt):List Stmt:=match s with
 |.FunctionDef _ _ b _ _ _ _ _ _ _=>b
 |_=>[]
noncomputable def gO(s:Stmt):Scope:=match s with
 |.FunctionDef _ _ _ _ _ _ sc _ _ _=>sc
 |_=>{kind:=.function,names:=[],isGenerator:=false,isCoroutine:=false}
abbrev Ab:JM:=λ_ _ _ _ _ _=>False
abbrev E0:XK:=λ_ _ _=>False
def OH:Ac Ab X E0:=λ_ _ _ _ _ _ _ h=>h.elim
structure HJ(K:W.Frag)(x qual:Str)(st:Stmt)(f:Addr)(fd:FuncData):Prop where
 ex:∃(oc:Vq) (od:Option Addr) (kV doc pm:Vq) (an:Option Addr) (cdv ct:Vq) (osl:Array (Option Value)),
  fd=W.fnOf x qual (kM st) (i9 st) (gO st) .none kV doc pm an cdv ct/\K.lookup f=some ⟨oc,od,.func fd,osl⟩/\W.codeIn K cdv qual=true
 kp:W.keepIn K (.ref f)=true
section
variable {P:Program}{w:World}{K:W.Frag}{mg:Str->Option Value}{base:Heap}
def HJ.ok{st:Stmt}(F:HJ K x qual st f fd)(S:kn N ps (gO st))(len:∀vs H Q E,sp vs H Q E->vs.length=ps.length)
  (c:∀b A a s H vs Q E,jO k (A.deeper (envOfC qual (gO st) s.heap.objs.size f b))->sp vs H Q E->
   ∃t,zL (sh Ab P w K mg base N qual (gO st) f b A a s H E).nox (i9 st) t/\t {nx:=λ_ g=>Q .non g,rt:=Q} (md N vs) H):ny P w K mg base Ab (k+1) f fd ps sp:=by
 obtain⟨p,n,kV,l,r,m,b,o,j,rfl,i,e⟩:=F.ex;refine Oe i e S len λA a s H vs Q E hr d=>?_;obtain⟨t,h,q⟩:=c b A a s H vs Q E hr d;exact⟨t,h.nox,q⟩
def HJ.binds{st:Stmt}(F:HJ K x qual st f fd)
  (h:∀(kV b e:Vq) (d:Option Addr) (a c:Vq) (us:List Vq),us.length=ps.length->bindArgs (W.fnOf x qual (kM st) (i9 st) (gO st) .none kV b e d a c) ⟨us,[]⟩=pure (ps.zip us)):vO K fd ps []:=by
 obtain⟨k,l,kV,b,e,d,a,c,g,rfl,j,i⟩:=F.ex;exact .all (h kV b e d a c)
def GT{st:Stmt}{kV b e a d:Vq}(l:K.lookup f=some ⟨oc,od,.func (W.fnOf x qual (kM st) (i9 st) (gO st) .none kV b e an a d),osl⟩)
  (c:W.codeIn K a qual=true) (k:W.keepIn K (.ref f)=true):HJ K x qual st f (W.fnOf x qual (kM st) (i9 st) (gO st) .none kV b e an a d):=⟨⟨oc,od,kV,b,e,an,a,d,osl,rfl,l,c⟩,k⟩
end
def Kq(hr:jO k A):A.units+1<cLine:=cf (Nat.add_le_add_left (by decide:1<=64) _) hr.units
section
variable {X:Cx}
def pv i (b:X.N[i]? = some x:=by rfl) (hv:OI X.env.scope x:=by first|exact Or.inl rfl|exact Or.inr (Or.inl rfl)|exact Or.inr (Or.inr rfl)) (hd:(x==("__debug__" : Str))=false:=by decide)
  (a:(x==("__classdict__" : Str))=false:=by decide):PE X (.Name x pos) (qX i):=Nk b hv hd a
end
def Ko(o:HO)(x:Option HO):Prop:=match o with
 |.tbl q ps=>∃a,x=some (.tbl q (ps++a))
 |o=>x=some o
def Ko.of(h:x=some o):Ko o x:=by
 cases o with
 |tbl q ps=>exact⟨#[],by rw[h];simp⟩
 |_=>exact h
def Ko.ne(h:Ko o x):x≠none:=by
 cases o with
 |tbl q ps=>obtain⟨m,e⟩:=h;rw[e];exact λz=>nomatch z
 |_=>have e:x=some _:=h;rw[e];exact λz=>nomatch z
def gS(H a:Hp):Prop:=∀b o,H b=some o->Ko o (a b)
def gS.refl H:gS H H:=λ_ _ h=>.of h
def gS.trans(a:gS H H1)(b:gS H1 H2):gS H H2:=λc o h=>by
 have q:=a c o h;cases o with
 |tbl q ps=>obtain⟨m,e⟩:=q;obtain⟨d,f⟩:=b c _ e;exact⟨m++d,by rw[f,bz]⟩
 |_=>exact b c _ q
def gS.seq{K:W.Frag}(e:gS H H')(h:kK K H a xs):kK K H' a xs:=by
 rcases h with (h|⟨o,h⟩)|h
 .exact .inl (.inl (e _ _ h))
 .exact .inl (.inr ⟨o,e _ _ h⟩)
 .exact .inr h
end L2
namespace L2
open PySem PySem.Spec PyProof.Rows
section
variable {P:Program}{w:World}{H:Hp}{h:Heap}{a:Addr}{o:HO}
def oS.track(ok:oS P w H h)(f:H a=none)(new:jK P w (jn H a o) h a o):oS P w (jn H a o) h:=λb u e=>by
 by_cases d:b=a
 .subst d;rw[gJ]at e;cases e;exact new
 .rw[gL d]at e;refine (ok b u e).stay (λ_ _ _ q=>q) (λc q=>?_) λc g q=>?_
  .rw[gL (gW q f)];exact q
  .rw[gL (gW q f)];exact q
end
def gM.track(I:gM X gq σ H s)(d:H a=none)(j:a∈X.ex\/X.s₀.heap.objs.size<=a)
  (g:a≠X.env.locals) (i:∀x c,X.env.cells.lookup x=some c->c≠a) (h:∀p∈X.pn++gq,p.1≠a) (new:jK X.prog X.w (jn H a o) s.heap a o):gM X gq σ (jn H a o) s:=by
 have J:=I.step (t':=s.toks) (d':=s.drawn) (ch:=[a])
  (λb f=>by
   have e:b=a:=by simpa using f
   subst e;exact⟨j,g,i,h⟩)
  (λ_ _ _ _ _ e _=>e) (λ_ u _ _ _ e _=>⟨u.slots,e⟩)
  (λb u f _ n=>by rw[gL (by simpa using f)];exact n)
  (λ_ u _ e=>⟨u,e⟩)
  (λb l q=>by rw[gL (gW q d)];exact q)
  (λb u v q=>by rw[gL (gW q d)];exact q)
  (λb _ k q=>⟨#[],by rw[gL (gW q d),q];simp⟩)
  (λ_ q=>q) (I.hok.track d new) I.bare
 exact J
noncomputable def lx(a:Env):List (Str×NameKind)->List (Str×Addr)->List (Str×Addr)
 |[],acc=>acc
 | (n,k)::r,acc=>if k==NameKind.free then (match a.cells.lookup n with
  |some c=>lx a r ((n,c)::acc)
  |none=>lx a r acc) else lx a r acc
def pk(h:∀y∈scope.names,y.2=.free->∃c,env.cells.lookup y.1=some c):closureFor scope env=pure (lx env scope.names []):=by
 have all:∀(l:List (Str×NameKind)) b,(∀y∈l,y.2=.free->∃c,env.cells.lookup y.1=some c)->
   (forIn l b λx m=>(if (x.2==NameKind.free)=true then (do
    let a <-cellOf env x.1
    pure (ForInStep.yield ((x.1,a)::m))) else pure (ForInStep.yield m):Sem _))=pure (lx env l b):=by
  intro l;induction l with
  |nil=>intro b _;rfl
  |cons y r ih=>
   intro b i;obtain⟨n,k⟩:=y;rw[List.forIn_cons];by_cases f:(k==NameKind.free)=true
   .obtain⟨c,o⟩:=i (n,k) bj (by simpa using f);have d:=o;have e:cellOf env n=pure c:=by unfold cellOf;rw[d]
    simp only[f,if_true,e,pure_bind];rw[ih _ λy j=>i y (bx _ j)];show pure (lx env r ((n,c)::b))=pure (if (k==NameKind.free)=true then (match env.cells.lookup n with
     |some c=>lx env r ((n,c)::b)
     |none=>lx env r b) else lx env r b)
    rw[aR f,d]
   .have g:(k==NameKind.free)=false:=by simpa using f
    simp only[g,cg,if_false,pure_bind];rw[ih _ λy j=>i y (bx _ j)];show pure (lx env r b)=pure (if (k==NameKind.free)=true then (match env.cells.lookup n with
     |some c=>lx env r ((n,c)::b)
     |none=>lx env r b) else lx env r b)
    rw[aS f]
 have:=all scope.names [] h;unfold closureFor;simp only[pure_bind,bind_pure]at this ⊢;exact this
theorem lg:∀{l} {acc},(∀y d,acc.lookup y=some d->env.cells.lookup y=some d)->(lx env l acc).lookup x=some c->env.cells.lookup x=some c
 |[],acc,ha,h=>ha x c h
 | (n,k)::r,acc,ha,h=>by
  unfold lx at h;by_cases b:(k==NameKind.free)=true
  .rw[aR b]at h;cases e:env.cells.lookup n with
   |none=>rw[e]at h;exact lg ha h
   |some d=>
    rw[e]at h;refine lg (λy d' a=>?_) h;rw[cj]at a;cases q:y==n with
    |true=>rw[q]at a;cases a;rw[beq_iff_eq.mp q];exact e
    |false=>rw[q]at a;exact ha y d' a
  .rw[aS b]at h;exact lg ha h
theorem oo:∀{l} {acc},(∃c,acc.lookup x=some c)->∃c,(lx env l acc).lookup x=some c
 |[],_,h=>h
 | (n,k)::r,acc,h=>by
  unfold lx;by_cases a:(k==NameKind.free)=true
  .rw[aR a];cases e:env.cells.lookup n with
   |none=>exact oo h
   |some d=>
    refine oo ?_;rw[cj];cases q:x==n with
    |true=>exact⟨d,rfl⟩
    |false=>exact h
  .rw[aS a];exact oo h
theorem mE:∀{l} {acc},(x,NameKind.free)∈l->(∃c,env.cells.lookup x=some c)->∃c,(lx env l acc).lookup x=some c
 | (n,k)::r,acc,b,a=>by
  rcases aG.mp b with e|b
  .cases e;obtain⟨c,a⟩:=a;unfold lx;rw[aR (by rfl),a];refine oo ⟨c,?_⟩;rw[cj,beq_self_eq_true]
  .unfold lx;by_cases f:(k==NameKind.free)=true
   .rw[aR f];cases env.cells.lookup n with
    |none=>exact mE b a
    |some d=>exact mE b a
   .rw[aS f];exact mE b a
def qC(h:(relabel scope env).names.lookup x=some .cell\/(relabel scope env).names.lookup x=some .free):(x,NameKind.free)∈scope.names\/scope.names.lookup x=some .cell:=by
 have all:∀(l:List (Str×NameKind)),∀k,(k=NameKind.cell\/k=NameKind.free)->
   (l.map λ(n,k)=>if (k==NameKind.free&&env.scope.kind==.function&&env.kindOf n==some .cell) then (n,NameKind.cell) else (n,k)).lookup x=some k->(x,NameKind.free)∈l\/l.lookup x=some .cell:=by
  intro l;induction l with
  |nil=>intro k _ h;simp at h
  |cons y r ih=>
   intro k c h;obtain⟨n,b⟩:=y;rw[b8]at h;by_cases a:(b==NameKind.free&&env.scope.kind==.function&&env.kindOf n==some .cell)=true
   .have d:b=.free:=by simp only[bS,beq_iff_eq]at a;exact a.1.1
    simp only[a,if_true]at h;rw[cj]at h;cases q:x==n with
    |true=>rw[d,beq_iff_eq.mp q];exact .inl bj
    |false=>
     rw[q]at h;rcases ih k c h with z|z
     .exact .inl (bx _ z)
     .exact .inr (by rw[cj,q];exact z)
   .simp only[a,cg,if_false]at h;rw[cj]at h;cases q:x==n with
    |true=>
     rw[q]at h;have e:b=k:=by simpa using h
     rcases c with rfl|rfl
     .exact .inr (by rw[cj,q,e])
     .rw[e,beq_iff_eq.mp q];exact .inl bj
    |false=>
     rw[q]at h;rcases ih k c h with z|z
     .exact .inl (bx _ z)
     .exact .inr (by rw[cj,q];exact z)
 rcases h with h|h
 .exact all scope.names _ (.inl rfl) h
 .exact all scope.names _ (.inr rfl) h
def xK(h:scope.names.lookup x=some .free):(relabel scope env).names.lookup x=some .cell\/(relabel scope env).names.lookup x=some .free:=by
 have all:∀(l:List (Str×NameKind)),l.lookup x=some .free->
   (l.map λ(n,k)=>if (k==NameKind.free&&env.scope.kind==.function&&env.kindOf n==some .cell) then (n,NameKind.cell) else (n,k)).lookup x=some .cell\/
   (l.map λ(n,k)=>if (k==NameKind.free&&env.scope.kind==.function&&env.kindOf n==some .cell) then (n,NameKind.cell) else (n,k)).lookup x=some .free:=by
  intro l;induction l with
  |nil=>intro h;simp at h
  |cons y r ih=>
   intro h;obtain⟨n,k⟩:=y;rw[b8];rw[cj]at h;cases q:x==n with
   |true=>
    rw[q]at h;have b:k=.free:=by simpa using h
    by_cases a:(k==NameKind.free&&env.scope.kind==.function&&env.kindOf n==some .cell)=true
    .refine .inl ?_;simp only[a,if_true];rw[cj,q]
    .refine .inr ?_;simp only[a,cg,if_false];rw[cj,q,b]
   |false=>
    rw[q]at h;by_cases a:(k==NameKind.free&&env.scope.kind==.function&&env.kindOf n==some .cell)=true
    .simp only[a,if_true];rw[cj,q];exact ih h
    .simp only[a,cg,if_false];rw[cj,q];exact ih h
 exact all scope.names h
def Dg(X:Cx)(b:List Expr)(t:TT):Prop:=
 ∀(d:List (Addr×Obj)) (s:Sq) (a:St) (H:Hp) (Q:Bool->Hp->Prop),gM X d a H s->t a H Q->
  wpAny (model X.prog X.w) X.A (forIn b true λc r=>if r=true then do let ok <-isTrue c X.env (eval c X.env);pure (ForInStep.yield ok) else pure (ForInStep.yield r)) (TP X d a Q) X.xe s
def L1:TT:=λ_ H Q=>Q true H
def JG:Dg X [] L1:=λ_ _ _ H _ I h=>wpAny_tests_nil ⟨H,I,h⟩
def IQ(b:PT X c t):Dg X [c] t:=λd s a H Q I h=>wpAny_tests_one (b d s a H Q I h)
theorem lL:∀a k b,(cellsFrom k a b).lookup x=some c->b.lookup x=some c\/(k<=c/\(x,NameKind.cell)∈a)
 |[],_,_,h=>.inl h
 | (n,kd)::r,k,b,h=>by
  unfold cellsFrom at h;split at h
  .rename_i e;rcases lL r _ _ h with q|⟨q,m⟩
   .rw[cj]at q;cases d:x==n with
    |true=>rw[d]at q;cases q;refine .inr ⟨aL _,?_⟩;rw[beq_iff_eq.mp d,beq_iff_eq.mp e];exact bj
    |false=>rw[d]at q;exact .inl q
   .exact .inr ⟨cm q,bx _ m⟩
  .rcases lL r _ _ h with q|⟨q,m⟩
   .exact .inl q
   .exact .inr ⟨q,bx _ m⟩
theorem lj:∀a k b,(x,NameKind.cell)∉a->(cellsFrom k a b).lookup x=b.lookup x
 |[],_,_,_=>rfl
 | (n,kd)::r,k,b,h=>by
  unfold cellsFrom;have hr:(x,NameKind.cell)∉r:=λz=>h (bx _ z);split
  .rename_i c;rw[lj r _ _ hr,cj];cases d:x==n with
   |true=>exact absurd (by rw[beq_iff_eq.mp d,beq_iff_eq.mp c];exact bj) h
   |false=>rfl
  .exact lj r _ _ hr
theorem mx:∀a k b,(x,NameKind.cell)∈a->(cellsFrom k a b).lookup x=some c->k<=c
 |[],_,_,h,_=>nomatch h
 | (n,kd)::r,k,b,h,e=>by
  unfold cellsFrom at e;by_cases hr:(x,NameKind.cell)∈r
  .split at e
   .exact cm (mx r _ _ hr e)
   .exact mx r _ _ hr e
  .rcases aG.mp h with q|q
   .cases q;rw[aR (by rfl),lj r _ _ hr,cj,beq_self_eq_true]at e;cases e;exact aL _
   .exact absurd q hr
theorem mv:∀d k a,(∀x y c,a.lookup x=some c->a.lookup y=some c->x=y)->(∀x c,a.lookup x=some c->c<k)->
  ∀x y c,(cellsFrom k d a).lookup x=some c->(cellsFrom k d a).lookup y=some c->x=y
 |[],_,_,h,_=>h
 | (n,kd)::r,k,a,h,hl=>by
  unfold cellsFrom;split
  .refine mv r (k+1) ((n,k)::a) (λx y c b e=>?_) λx c b=>?_
   .rw[cj]at b e;cases f:x==n with
    |true=>
     cases g:y==n with
     |true=>rw[beq_iff_eq.mp f,beq_iff_eq.mp g]
     |false=>rw[f]at b;rw[g]at e;cases b;exact absurd (hl _ _ e) (ba _)
    |false=>
     rw[f]at b;cases g:y==n with
     |true=>rw[g]at e;cases e;exact absurd (hl _ _ b) (ba _)
     |false=>rw[g]at e;exact h x y c b e
   .rw[cj]at b;cases f:x==n with
    |true=>rw[f]at b;cases b;exact cn _
    |false=>rw[f]at b;exact cq (hl x c b)
  .exact mv r k a h hl
theorem lO:∀a h b,(cellsFrom h.objs.size a b).lookup x=some c->b.lookup x=some c\/(h.objs.size<=c/\(pushCells h a).IsCell c none)
 |[],_,_,e=>.inl e
 | (n,kd)::r,h,b,e=>by
  unfold cellsFrom at e;unfold pushCells;split at e
  .rename_i d;rw[aR d];have g:(cellsFrom (h.push {cls:=.type "cell",data:=.cell none}).objs.size r ((n,h.objs.size)::b)).lookup x=some c:=by rw[Heap.size_push];exact e
   rcases lO r _ _ g with q|⟨q,m⟩
   .rw[cj]at q;cases f:x==n with
    |true=>rw[f]at q;cases q;exact .inr ⟨aL _,_,pushCells_keeps r _ _ _ (au _ rfl),rfl⟩
    |false=>rw[f]at q;exact .inl q
   .rw[Heap.size_push]at q;exact .inr ⟨cm q,m⟩
  .rename_i d;rw[aS d];exact lO r _ _ e
def rB{M:Model}{A:Around}{E:Vq->Shared->Prop}{s:Sq}{a:Scope}{globals:Addr}{closure:List (Str×Addr)}{e:Str}{d:Option Addr}{c:Vq}{b:Env}{builtins:Addr}{Q:Env->Shared->Prop}
  (j:Q (newEnv a s.heap.objs.size globals (cellsFrom (s.heap.objs.size+1) a.names closure) e d c (some b) builtins) {s with heap:=pushCells (s.heap.push {cls:=.type "dict",data:=.dict #[]}) a.names}) :
  wpAny M A (newFunctionEnv a globals closure [] e d c (some b) builtins) Q E s:=by
 simp only[newFunctionEnv,cu,if_true];refine aq (wpAny_alloc ?_);refine aq (wpAny_layCells _ (λi f h=>by cases g:f==NameKind.cell<;>simp[g]) _ _ _ _ ?_);rw[show ({s with heap:=s.heap.push {cls:=.type "dict",data:=.dict #[]}}:Sq).heap.objs.size=s.heap.objs.size+1 from Heap.size_push ..];rw[List.forIn_nil];exact aq (ao (ao j))
noncomputable def lH(X:Cx)(N:List Str)(a:Scope)(C:Addr)(b:Sq)(H:Hp)(ex:List Addr)(pn:List (Addr×Obj)):Cx:={X with N:=N,s₀:=b,H₀:=H,env:=compEnvC a (cellsFrom (C+1) a.names (lx X.env a.names [])) C X.env,outer:=X.stack,ex:=ex,fn:=λx=>a.names.lookup x==some .cell,pn:=pn,xe:=λ_ _=>False}
noncomputable def pull(b:List (Option Nat))(a:St):St:=b.map fun
 |none=>none
 |some j=>(a[j]?).getD none
def Qy(J:It)(o:List (Option Nat))(g:TG)(k:TT)(l:TE)(p:St)(h:Hp)(Q:VK):Prop:=∃W:Nat->Nat->List V->Hp->Prop,(∃m,W 0 m [] h)/\∀i m d H,W i m d H->
 (J.stop i H/\∀D,H D=none->Q (.ref D) (jn H D (.lst d)))\/
 (J.go i H/\d.length<sizeLine/\∀x f,J.yld i H x f->g x (pull o p) f λa j=>k a j λb e=>if b=true then l a e λy n=>∃c,c<m/\W (i+1) c (d++[y]) n else ∃c,c<m/\W (i+1) c d e)
def Ec(f:List (Option Nat))(e:TI)(g:TG)(d:TT)(b:TE):TE:=λa H Q=>e a H λJ c=>Qy J f g d b a c Q
end L2
namespace L2
open PySem PySem.Spec PyProof.Rows
section
variable {prog:Program}{w:World}{A:Around}{R:Result->Shared->Prop}{s:Sq}
theorem wL{q F j:Expr}{u:List Expr}{d:Scope}{pos:Pos}{it p:Vq}{a:Env}(J:Nat->Shared->Prop)
  (D:∀n s,J n s->wpAny (model prog w) A (pyNext it) (λr b=>match r with
   |none=>R (.ok .next) b
   |some v=>wpAny (model prog w) A (letOwnedTupleGo F it v) (λ_ o=>wpAny (model prog w) A (assign F a v) (λ_ g=>
     wpAny (model prog w) A (forIn u true λc r=>if r=true then do let ok <-isTrue c a (eval c a);pure (ForInStep.yield ok) else pure (ForInStep.yield r)) (λok e=>
      if ok=true then wpAny (model prog w) A (eval q a) (λx f=>wpAny (model prog w) A (call (.builtin "list.append") [p,x]) (λ_ k=>∃m,m<n/\J m k) (λ_ _=>False) f) (λ_ _=>False) e
      else ∃m,m<n/\J m e) (λ_ _=>False) g) (λ_ _=>False) o) (λ_ _=>False) b) (λ_ _=>False) s)
  (n:Nat) (h:J n s):codeAny (model prog w) A (.compLoop (.ListComp q [⟨F,j,u,0⟩] d pos) 0 it p a) R s:=by
 refine codeAny_loop rfl J (λn s H=>?_) n h;show wpAny _ A ((compTurn (.ListComp q [⟨F,j,u,0⟩] d pos) 0 it p a).onRaise (λx=>do noteFrame x a;theTreesLotGoes x)) _ _ s;refine wpAny_noted ?_;rw[compTurn_list];refine aq (wpAny_standAt (aq (wpAny_mono (D n s H) (λr b l=>?_) λ_ _ z=>z.elim)));cases r with
 |none=>exact ao l
 |some v=>
  refine aq (wpAny_mono l (λ_ o B=>?_) λ_ _ z=>z.elim);refine aq (wpAny_mono B (λ_ g C=>aq (wpAny_mono C (λok e i=>?_) λ_ _ z=>z.elim)) λ_ _ z=>z.elim);cases ok with
  |false=>exact ao ⟨rfl,i⟩
  |true=>exact aq (aq (wpAny_mono i (λx f E=>aq (wpAny_mono E (λ_ k y=>ao (ao ⟨rfl,y⟩)) λ_ _ z=>z.elim)) λ_ _ z=>z.elim))
end
def mV(d:List (Option Nat))(g:TG):Prop:=∀x a H Q,g x a H Q->g x a H λb c=>(∀i j:Nat,d[i]? = some (some j)->b[i]? = a[i]?)/\Q b c
def tK(a:ix[k]? = some none):mV ix (j2 k):=λx b H Q h=>by
 refine⟨λi j e=>?_,h⟩;have:k≠i:=by rintro rfl;rw[a]at e;cases e
 rw[ar this]
abbrev vd(us:List Vq):Obj:={cls:=.type "list",data:=.seq us.toArray us.length}
section
variable {X:Cx}{tg elt iter:Expr}{ifs:List Expr}{scope:Scope}{pos:Pos}{N:List Str}{ix:List (Option Nat)}{wi:TI}{g:TG}{tt:TT}{te:TE}
structure yF(X:Cx)(scope:Scope)(N:List Str)(ix:List (Option Nat)):Prop where
 kind:scope.kind=.function
 sep:∀y∈scope.names,y.2=.cell->scope.names.lookup y.1=some .cell
 names:∀y∈scope.names,y.2=.local->scope.names.lookup y.1=some .local
 fre:∀y∈scope.names,y.2=.free->∃c,X.env.cells.lookup y.1=some c
 len:N.length=ix.length
 ix:∀(i j:Nat) (x:Str),N[i]? = some x->ix[i]? = some (some j)->X.N[j]? = some x/\scope.names.lookup x=some .free/\OI X.env.scope x/\X.env.kindOf x≠some .local
def OX(L:yF X scope N ix)(I:gM X gq σ H s)(f:∀b∈fp,rA X gq H b)(i:∀b∈fp,b<s.heap.objs.size) o :
  (lH X N scope (s.heap.objs.size+1) {s with heap:=s.heap.push o} H (s.heap.objs.size::fp) (X.pn++gq)).Ok:=by
 have v:gM X gq σ H {s with heap:=s.heap.push o}:=I.kept λb u e=>af _ e;have sound0:∀x c,(lx X.env scope.names []).lookup x=some c->X.env.cells.lookup x=some c:=λx c e=>lg (λy d z=>by simp at z) e;have cellLt:∀x c,X.env.cells.lookup x=some c->c<s.heap.objs.size:=λx c e=>let ⟨_,q⟩:=I.cell x c e;q.lt;have h:∀x c,(cellsFrom (s.heap.objs.size+1+1) scope.names (lx X.env scope.names [])).lookup x=some c->X.env.cells.lookup x=some c\/s.heap.objs.size+1+1<=c:=λx c e=>by
  rcases lL _ _ _ e with q|⟨q,_⟩
  .exact .inl (sound0 x c q)
  .exact .inr q
 refine⟨I.ok.mod,L.kind,I.ok.glob,I.ok.blt,?_,mv _ _ _ (λx y c j n=>I.ok.inj x y c (sound0 x c j) (sound0 y c n)) (λx c j=>cq (cq (cellLt x c (sound0 x c j)))),λx r=>?_,λx c j n=>?_,I.ok.hd,I.ok.frames,.inl rfl,λb a=>?_,λb u e=>?_,?_,λb u e a=>?_,λb a=>?_,v.stack,I.stkFree,I.tab⟩
 .show (s.heap.push o).objs.size<=s.heap.objs.size+1;rw[Heap.size_push];exact aL _
 .refine bK.mp (W.cellsFrom_some _ _ _ ?_);rcases qC r with k|k
  .exact .inr (bK.mpr (mE k (L.fre _ k rfl)))
  .exact .inl k
 .have l:(scope.names.lookup x==some .cell)=true:=j;have w:scope.names.lookup x=some .cell:=by simpa using l
  show (s.heap.push o).objs.size<=c;rw[Heap.size_push];exact cm (mx _ _ _ (PySem.mem_of_lookup w) n)
 .rcases aG.mp a with rfl|a
  .refine⟨aN (cn _),λx c e z=>?_⟩;rcases h x c e with q|q
   .exact absurd (cellLt x c q) (by rw[z];exact ba _)
   .rw[z]at q;omega
  .refine⟨aN (cq (i b a)),λx c e=>?_⟩;rcases h x c e with q|q
   .exact (f b a).2.2.2.2.1 x c q
   .intro z;rw[z]at q;exact absurd (aO (cw _ 2) q) (Nat.not_le.mpr (i b a))
 .exact⟨af _ (I.bs b u e).1,(I.bs b u e).2⟩
 .show X.base.objs.size<=(s.heap.push o).objs.size;rw[Heap.size_push];exact cx (aO I.ok.bsz I.sz)
 .have m:=aM (I.bs b u e).1;rcases aG.mp a with rfl|a
  .exact ba _ m
  .rcases (f b a).2.2.2.1 with z|z
   .exact I.ok.noex b u e z
   .exact absurd (aF (aM e) (aO I.ok.bsz z)) (ba _)
 .intro z;have p:=I.stkSub b z;rcases aG.mp a with rfl|a
  .rcases aG.mp p with q|q
   .exact absurd I.lt (by rw[<-q];exact ba _)
   .exact I.nofs (aL _) q
  .rcases aG.mp p with q|q
   .exact (f b a).2.1 q
   .exact (f b a).2.2.1 q
end
end L2
namespace L2
open PySem PySem.Spec PyProof.Rows
section
variable {X:Cx}{tg elt iter:Expr}{ifs:List Expr}{scope:Scope}{pos:Pos}{N:List Str}{ix:List (Option Nat)}{wi:TI}{g:TG}{tt:TT}{te:TE}
def zD{i:Nat}(h:(pull ix σ)[i]? = some (some v)):∃j,ix[i]? = some (some j)/\σ[j]? = some (some v):=by
 unfold pull at h;rw[aw]at h;cases e:ix[i]? with
 |none=>rw[e]at h;cases h
 |some k=>
  rw[e]at h;cases k with
  |none=>cases h
  |some j=>
   refine⟨j,rfl,?_⟩;have a:(σ[j]?).getD none=some v:=by simpa using h
   cases q:σ[j]? with
   |none=>rw[q]at a;cases a
   |some z=>rw[q]at a;simpa using a
theorem BB{RR:Vq->Addr->Result->Shared->Prop}{Q:VK}{W:Nat->Nat->List V->Hp->Prop}
  (hc:X.calm=true) (L:yF X scope N ix) (hgk:mV ix g)
  (blk:∀C P H ex pn,PG (lH X N scope C P H ex pn) tg g/\Dg (lH X N scope C P H ex pn) ifs tt/\PE (lH X N scope C P H ex pn) elt te)
  (l:gM X gq σ H2 s2) (T:AS X.prog X.w X.K tg J fp it tn) (st2:tn 0 s2.heap) (f2:∀b∈fp,rA X gq H2 b) (w0:W 0 m0 [] H2)
  (turn:∀i m U H,W i m U H->(J.stop i H/\∀D,H D=none->Q (.ref D) (jn H D (.lst U)))\/
   (J.go i H/\U.length<sizeLine/\∀x s,J.yld i H x s->g x (pull ix σ) s λσ2 H2=>tt σ2 H2 λb H3=>if b=true then te σ2 H3 λy H4=>∃m',m'<m/\W (i+1) m' (U++[y]) H4 else ∃m',m'<m/\W (i+1) m' U H3))
  (fin:∀D C m s Z,Z.heap.Ns C m->rA X gq s C->gM X gq σ s Z->Q (.ref D) s->RR (.ref D) C (.ok .next) Z) :
  wpAny (model X.prog X.w) X.A (newList []) (λacc P=>wpAny (model X.prog X.w) X.A (newFunctionEnv scope X.env.globals (lx X.env scope.names []) [] X.env.qual none .none (some X.env)) (λcenv s₄=>codeAny (model X.prog X.w) X.A (.compStart (.ListComp elt [⟨tg,iter,ifs,0⟩] scope pos) 0 (.ref it) acc {cenv with scope:=relabel scope X.env}) (RR acc cenv.locals) s₄) E P) E s2:=by
 refine wpAny_newObj_type (rB ?_);have hCs:(s2.heap.push {cls:=.type "list",dict:=none,data:=.seq ([]).toArray}).objs.size=s2.heap.objs.size+1:=Heap.size_push ..;generalize S:pushCells ((s2.heap.push {cls:=.type "list",dict:=none,data:=.seq ([]).toArray}).push {cls:=.type "dict",data:=.dict #[]}) scope.names=h₁;rw[hCs];have hns₁:h₁.Ns (s2.heap.objs.size+1) (λ_=>none):=by rw[<-S,<-hCs];exact (Heap.Ns.new _ _).keeps (pushCells_keeps _ _)
 have Y:∀x c,(cellsFrom (s2.heap.objs.size+1+1) scope.names (lx X.env scope.names [])).lookup x=some c->X.env.cells.lookup x=some c\/(s2.heap.objs.size+1+1<=c/\h₁.IsCell c none):=λx c e=>by
  have hs3:((s2.heap.push {cls:=.type "list",dict:=none,data:=.seq ([]).toArray}).push {cls:=.type "dict",data:=.dict #[]}).objs.size=s2.heap.objs.size+1+1:=by rw[Heap.size_push,hCs]
  rw[<-hs3]at e;rcases lO _ _ _ e with q|⟨q,m⟩
  .exact .inl (lg (λy d z=>by simp at z) q)
  .rw[hs3]at q;rw[S]at m;exact .inr ⟨q,m⟩
 have fpObj:=T.obj 0 _ st2;have hlt:∀b∈fp,b<s2.heap.objs.size:=λb h=>let ⟨_,e,_⟩:=fpObj b h;aM e;have ok:=OX L l f2 hlt {cls:=.type "list",dict:=none,data:=.seq ([]).toArray};have DC:s2.heap.objs.size≠s2.heap.objs.size+1:=aN (cn _);have hold:∀b o,(s2.heap.push {cls:=.type "list",dict:=none,data:=.seq ([]).toArray}).get? b=some o->h₁.get? b=some o:=λb o e=>by rw[<-S];exact pushCells_keeps _ _ _ _ (af _ e)
 have old:∀b o,s2.heap.get? b=some o->h₁.get? b=some o:=λb o e=>hold b o (af _ e);have sound:∀x c,(lx X.env scope.names []).lookup x=some c->X.env.cells.lookup x=some c:=λx c e=>lg (λy d z=>by simp at z) e;have cellLt:∀x c,X.env.cells.lookup x=some c->c<s2.heap.objs.size:=λx c e=>let ⟨_,q⟩:=l.cell x c e;q.lt;have hDn:=l.hok.fresh (aL _);have hCn:=l.hok.fresh (cy _);have F:∀p∈X.pn++gq,p.1<s2.heap.objs.size:=λp f=>aM (l.pin p f).1;have hDfs:s2.heap.objs.size∉C5 X.stack:=λz=>by
  rcases aG.mp (l.stkSub _ z) with q|q
  .exact absurd l.lt (by rw[<-q];exact ba _)
  .exact l.nofs (aL _) q
 have I':gM (lH X N scope (s2.heap.objs.size+1) {s2 with heap:=s2.heap.push {cls:=.type "list",dict:=none,data:=.seq ([]).toArray}} H2 (s2.heap.objs.size::fp) (X.pn++gq))
   [(s2.heap.objs.size,vd [])] (pull ix σ) H2 {s2 with heap:=h₁,toks:=s2.toks}:=by
  refine⟨ok,rfl,l.bare,Un.kept hold,⟨_,hns₁,λi x v h1 h2 h3=>?_⟩,λx c e=>?_,hCn,λx c e=>?_,λp f=>?_,l.hok.kept old,?_⟩
  .obtain⟨j,ej,es⟩:=zD h2;obtain⟨q1,q2,q3,q4⟩:=L.ix i j x h1 ej;obtain⟨m,_,hl⟩:=l.loc;obtain⟨u,r,lk⟩:=hl j x v q1 es q3;refine⟨u,r,?_⟩;rcases lk with⟨k,_⟩|⟨k,c,hcl,hv⟩
   .exact absurd k q4
   .obtain⟨c',hc'⟩:=mE (PySem.mem_of_lookup q2) ⟨c,hcl⟩;have:=sound x c' hc';rw[hcl]at this;cases this;have hnc:(x,NameKind.cell)∉scope.names:=λz=>by have:=L.sep _ z rfl;rw[q2]at this;cases this
    refine .inr ⟨?_,c,(lj _ _ _ hnc).trans hc',let ⟨ob,ho,hd⟩:=hv;⟨ob,old c ob ho,hd⟩⟩;exact xK q2
  .rcases Y x c e with q|⟨_,q⟩
   .obtain⟨v,ob,ho,hd⟩:=l.cell x c q;exact⟨v,ob,old c ob ho,hd⟩
   .exact⟨none,q⟩
  .rcases Y x c e with q|⟨q,_⟩
   .exact l.freeC x c q
   .exact l.hok.fresh (aO (cw _ 2) q)
  .rcases aj.mp f with f|f
   .obtain⟨e,n,ne,nf,d⟩:=l.pin p f;refine⟨old _ _ e,n,aN (cq (F p f)),λz=>?_,d⟩;rcases aG.mp (l.stkSub _ z) with q|q
    .exact ne q
    .exact nf q
   .have e:p=(s2.heap.objs.size,vd []):=by simpa using f
    subst e;exact⟨hold _ _ (au _ rfl),hDn,DC,hDfs,λv z=>by cases z⟩
  .unfold pull;rw[ax];exact L.len.symm
 generalize a:lH X N scope (s2.heap.objs.size+1) {s2 with heap:=s2.heap.push {cls:=.type "list",dict:=none,data:=.seq ([]).toArray}} H2 (s2.heap.objs.size::fp) (X.pn++gq)=X' at I';obtain⟨hg,hif,he⟩:=blk (s2.heap.objs.size+1) {s2 with heap:=s2.heap.push {cls:=.type "list",dict:=none,data:=.seq ([]).toArray}} H2 (s2.heap.objs.size::fp) (X.pn++gq);rw[a]at hg hif he;have stat:∀{s:Hp} {R:List Vq},(∀b∈fp,s b=none)->∀b∈fp,rA X' [(s2.heap.objs.size,vd R)] s b:=λ{s R} hn b h=>by
  subst a;obtain⟨_,f1,f2',f3,f4,f5⟩:=f2 b h;refine⟨hn b h,aN (cq (hlt b h)),λz=>?_,.inl (bx _ h),λx c e=>?_,λp f=>?_⟩
  .rcases aG.mp (l.stkSub _ z) with q|q
   .exact f1 q
   .exact f2' q
  .rcases Y x c e with q|⟨q,_⟩
   .exact f4 x c q
   .intro z;rw[z]at q;exact absurd (aO (cw _ 2) q) (Nat.not_le.mpr (hlt b h))
  .rcases aj.mp f with f|f
   .exact f5 p f
   .have e:p=(s2.heap.objs.size,vd R):=by simpa using f
    subst e;exact Ne.symm (aN (hlt b h))
 have loop:codeAny (model X.prog X.w) X.A (.compLoop (.ListComp elt [⟨tg,iter,ifs,0⟩] scope pos) 0 (.ref it) (.ref s2.heap.objs.size) X'.env) (RR (.ref s2.heap.objs.size) (s2.heap.objs.size+1))
   {s2 with heap:=h₁,toks:=s2.toks}:=by
  refine wL (λn Z=>∃i U R s,gM X' [(s2.heap.objs.size,vd R)] (pull ix σ) s Z/\gZ U R/\U.length<=sizeLine/\tn i Z.heap/\(∀b∈fp,s b=none)/\W i n U s) ?_ m0
   ⟨0,[],[],H2,I',.nil,cA _,T.keep _ _ _ st2 λb _ o e=>old b o e,λb h=>(f2 b h).1,w0⟩
  rintro n s3 ⟨i,U,R,H3,I3,rv,hz,st3,fr3,w3⟩;have hcX:X'.calm=true:=by subst a;exact hc
  have hA:X'.A=X.A:=by subst a;rfl
  rcases turn i n U H3 w3 with⟨stop,qn⟩|⟨go,kl,step⟩
  .have hd:=T.done X' (by subst a;rfl) (by subst a;rfl) (by subst a;rfl) hcX i _ s3 _ H3 (λ_ _=>False) I3 (stat fr3) st3 stop;rw[hA]at hd;refine jw hd λr s4 ⟨hr,I4⟩=>?_;subst hr;subst a;obtain⟨m,hn,_⟩:=I4.loc;have hD3:=I4.pin (s2.heap.objs.size,vd R) (bE _ bj);have u1:Un (C5 X.stack) fp H2 H3 s2.heap s4.heap:=by
    have B:=I4.base;have nD:∀b o,s2.heap.get? b=some o->b∉fp->b∉s2.heap.objs.size::fp:=λb o e h z=>by
     rcases aG.mp z with q|q
     .exact absurd (aM e) (by rw[q];exact ba _)
     .exact h q
    exact⟨λb o e n h hx=>B.keep b o (af _ e) n h (nD b o e hx),λb o e n h hx=>B.slot b o (af _ e) n h (nD b o e hx),
     λb o e n hx=>B.free b o (af _ e) n (nD b o e hx),λb o e hx=>B.there b o (af _ e) (nD b o e hx),B.tups,B.frzs,B.tbls⟩
   have I5:=l.call' I4.os u1 I4.hok I4.bare λb h=>let ⟨_,f1,_,f3,f4,f5⟩:=f2 b h;⟨f3,f1,f4,f5⟩;have I6:gM X gq σ (jn H3 s2.heap.objs.size (.lst U)) s4:=I5.track hD3.2.1 (.inr l.sz) (Ne.symm (aN l.lt)) (λx c e z=>absurd (cellLt x c e) (by rw[z];exact ba _))
    (λp f=>aN (F p f)) ⟨hz,R,R.length,rv,hD3.1⟩
   refine fin _ _ m _ s4 hn ⟨?_,?_,?_,.inr (cx l.sz),λx c e z=>?_,λp f=>?_⟩ I6 (qn _ hD3.2.1)
   .rw[gL (Ne.symm DC)];exact I4.free
   .exact Ne.symm (aN (cq l.lt))
   .exact l.nofs (cy _)
   .exact absurd (cellLt x c e) (by rw[z];exact Nat.not_lt.mpr (cy _))
   .exact aN (cq (F p f))
  .have hd:=T.item X' (by subst a;rfl) (by subst a;rfl) (by subst a;rfl) hcX i _ s3 _ H3 (λ_ _=>False) I3 (stat fr3) st3 go;rw[hA]at hd;refine jw hd λr s4 ⟨u,hr,h4⟩=>?_;subst hr;refine jw h4 λ_ s5 ⟨x,H5,I5,r5,y5,st5,fr5⟩=>?_;have I5':=I5.pinned (stat fr5) (T.obj _ _ st5);have hM:model X'.prog X'.w=model X.prog X.w:=by subst a;rfl
   have hE:X'.xe=λ_ _=>False:=by subst a;rfl
   have a6:=hg _ s5 _ H5 x u _ I5' r5 (hgk x _ H5 _ (step x H5 y5));rw[hM,hA,hE]at a6;refine jw a6 λ_ s6 ⟨σ6,H6,I6,agr,q6⟩=>?_;have a7:=hif _ s6 σ6 H6 _ I6 q6;rw[hM,hA,hE]at a7;refine jw a7 λok s7 ⟨H7,I7,q7⟩=>?_;have back:∀{Z:Sq} {s:Hp} {pl:List (Addr×Obj)},gM X' pl σ6 s Z->gM X' pl (pull ix σ) s Z:=λ{Z s pl} I=>by
    refine I.weak ?_ λk v e=>?_
    .have e1:=I.len;have e2:=I3.len;rw[e1,e2]
    .obtain⟨j,ej,_⟩:=zD e;rw[agr k j ej];exact e
   have held:∀{Z:Sq} {s:Hp},gM X' ([(s2.heap.objs.size,vd R)]++uC fp s5.heap) σ6 s Z->tn (i+1) Z.heap/\∀b∈fp,s b=none:=λ{Z s} I=>by refine⟨T.keep _ _ _ st5 λb h o e=>(I.pin (b,o) (bE _ (bE _ (m3 h e)))).1,λb h=>?_⟩;obtain⟨o,e,_⟩:=T.obj _ _ st5 b h;exact (I.pin (b,o) (bE _ (bE _ (m3 h e)))).2.1
   cases ok with
   |false=>rw[aS aI]at q7 ⊢;obtain⟨m',hm,w7⟩:=q7;obtain⟨k1,k2⟩:=held I7;exact⟨m',hm,i+1,U,R,H7,(back I7).unpinned,rv,hz,k1,k2,w7⟩
   |true=>
    rw[aR rfl]at q7 ⊢;have a8:=he _ s7 σ6 H7 _ I7 q7;rw[hM,hA,hE]at a8;refine jw a8 λy s8 ⟨yv,H8,I8,r8,m',hm,w8⟩=>?_;obtain⟨k1,k2⟩:=held I8;have hD8:=I8.pin (s2.heap.objs.size,vd R) (bE _ (ay _ bj));have hl:=rv.length;refine append_at hD8.1 λh9 sb hD9=>?_;have I9:gM X' [] (pull ix σ) H8 s8:=(back I8).pins_of λp f=>by simp at f
    have I10:=I9.turned (t':=s8.toks) (λb o h e=>sb.extBut b o h e) hD8.2.1 hD8.2.2.1 (.inl (by subst a;exact bj))
     (λx c e z=>by
      subst a;rcases Y x c e with q|⟨q,_⟩
      .exact absurd (cellLt x c q) (by rw[z];exact ba _)
      .rw[z]at q;omega) (λp f z=>by
      subst a;rcases aj.mp f with f|f
      .exact absurd (F p f) (by rw[z];exact ba _)
      .simp at f)
    have e9:h9.get? s2.heap.objs.size=some (vd (R++[y])):=by rw[hD9];simp
    refine⟨m',hm,i+1,U++[yv],R++[y],H8,I10.pins_of λp f=>?_,rv.append (.cons r8 .nil),by rw[aU,bY];omega,?_,k2,w8⟩
    .have e:p=(s2.heap.objs.size,vd (R++[y])):=by simpa using f
     subst e;exact⟨e9,hD8.2.1,hD8.2.2.1,hD8.2.2.2.1,λv z=>by cases z⟩
    .exact T.keep _ _ _ k1 λb h o e=>sb.extBut b o (aN (hlt b h)) e
 have loop':=loop;subst a;exact codeAny_compStart_list loop (T.self X.A 0 _ _ _ (T.keep _ _ _ st2 λb _ o e=>old b o e) loop')
def Ou(r:X.calm=true)(A:PI X tg iter wi)(L:yF X scope N ix)(j:mV ix g)
  (k:∀C a H i d,PG (lH X N scope C a H i d) tg g/\Dg (lH X N scope C a H i d) ifs tt/\PE (lH X N scope C a H i d) elt te)
  (hs:∀x,foldedSetIterable iter X.env x=pure x:=by intro _;rfl):PE X (.ListComp elt [⟨tg,iter,ifs,0⟩] scope pos) (Ec ix wi g tt te):=by
 intro K s P H Q I h;rw[eval_ListComp];refine wpAny_comprehension_free rfl hs (pk L.fre) L.kind L.names (jw (A K s P H _ I h) λv Z S=>jw S λp s2 R=>?_);obtain⟨it,fp,U,J,Y,e,F,T,l,B,W,⟨m0,E⟩,c⟩:=R;subst e;refine BB r L j k F T l B E c λD C m w s' u f n q=>?_;refine⟨m,u,λh' z=>⟨.ref D,w,n.turned (λb o y e=>z.extBut b o y e) f.1 f.2.1 f.2.2.2.1 f.2.2.2.2.1 f.2.2.2.2.2,rfl,q⟩⟩
end
end L2
namespace L2
open PySem PySem.Spec PyProof.Rows
structure gG(K:W.Frag)(mg:Str->Option Value)(x:Str)(st:Stmt):Prop where
 ex:∃f fd,HJ K x x st f fd/\mg x=some (.ref f)
def KO{K:W.Frag}{st:Stmt}{kV d g b e:Vq}(X:K.In h)(G:h.Ns mainGlobals mg)
  (a:W.nsIn K mainGlobals x=some (some (.ref f)))
  (l:K.lookup f=some ⟨oc,od,.func (W.fnOf x x (kM st) (i9 st) (gO st) .none kV d g an b e),osl⟩)
  (c:W.codeIn K b x=true) (k:W.keepIn K (.ref f)=true):gG K mg x st:=⟨f,_,GT l c k,W.mg_of X G a⟩
structure kq(P:Program)(w:World)(K:W.Frag)(mg:Str->Option Value)(base:Heap)(x:Str)(k:Nat)(sp:Sp):Prop where
 ex:∃f fd ps,ny P w K mg base Ab k f fd ps sp/\mg x=some (.ref f)/\W.keepIn K (.ref f)=true/\vO K fd ps []
def kq.mono{K:W.Frag}(h:kq P w K mg base x j sp)(d:j<=k):kq P w K mg base x k sp:=
 let ⟨f,fd,ps,F,a,b,c⟩:=h.ex
 ⟨f,fd,ps,F.mono d,a,b,c⟩
def wU{K:W.Frag}{st:Stmt}(D:gG K mg x st)(S:kn N ps (gO st))
  (i:∀(kV d j:Vq) (e:Option Addr) (a g:Vq) (us:List Vq),us.length=ps.length->bindArgs (W.fnOf x x (kM st) (i9 st) (gO st) .none kV d j e a g) ⟨us,[]⟩=pure (ps.zip us))
  (len:∀vs H Q E,sp vs H Q E->vs.length=ps.length)
  (b:∀f a A c s H vs Q E,jO k (A.deeper (envOfC x (gO st) s.heap.objs.size f a))->sp vs H Q E->
   ∃t,zL (sh Ab P w K mg base N x (gO st) f a A c s H E).nox (i9 st) t/\t {nx:=λ_ h=>Q .non h,rt:=Q} (md N vs) H):kq P w K mg base x (k+1) sp:=by
 obtain⟨f,l,F,m⟩:=D.ex;exact⟨f,l,ps,F.ok S len (b f),m,F.kp,F.binds i⟩
section
variable {X:Cx}{x:Str}{k:Nat}{sp:Sp}{e:Expr}{es:List Expr}{t:TA}{p pos:Pos}
def zk(h:kq X.prog X.w X.K X.mg X.base x k sp)(hr:jO k X.A)(l:PA X (e::es) t)(j:Gl X x:=by rfl)
  (d:(x==("__debug__" : Str))=false:=by decide) (i:starEach (e::es) X.env=(false,eval e X.env)::starEach es X.env:=by rfl) (g:(backTo pos (starEach es X.env)).any (·.1)=false:=by rfl) :
  PE X (.Call (.Name x p) (e::es) [] pos) (wy sp [] E0 t):=by
 obtain⟨f,m,n,F,a,b,c⟩:=h.ex;exact HR F hr j a b c .nil OH l d i g
end
def HF:nu X (binaryOp .Mult) (rI (λi j=>PySem.IntMulOk i j) λi j=>.int (i*j)):=N5 λ_ _ _ _ _ _ _ a q=>mul_int q a
def Fd:nu X (binaryOp .FloorDiv) (rI (λi j=>j≠0/\Builtin.divisionGoesByPylong i j=false) λi j=>.int (i.fdiv j)):=N5 λ_ _ _ _ _ _ _ a q=>floordiv_int a.1 q (.inl a.2)
end L2
namespace L2
open PySem PySem.Spec PyProof.Rows PySem.W PySem.Calls
theorem qQ:∀{a:List Addr} {us:List Vq},gZ (a.map V.ref) us->us=a.map Value.ref
 |[],_,.nil=>rfl
 |d::a,u::us,.cons r t=>by have e:=r;rw[e,qQ t];rfl
end L2
namespace L2
open PySem PySem.Spec PyProof.Rows PySem.W
mutual
inductive DV(K:Frag)(H:Hp):V->PyData->Prop
 |non:DV K H .non .none
 |bl (b:Bool):DV K H (.bl b) (.bool b)
 |int (i:Int):DV K H (.int i) (.int i)
 |str (x:Str):DV K H (.str x) (.str x)
 |lst {a:Addr} {xs:List V} {ds:List PyData} (h:kK K H a xs) (hs:yG K H xs ds):DV K H (.ref a) (.list ds)
 |tup {a:Addr} {xs:List V} {ds:List PyData} (h:lR K H a xs) (hs:yG K H xs ds):DV K H (.ref a) (.tuple ds)
inductive yG(K:Frag)(H:Hp):List V->List PyData->Prop
 |nil:yG K H [] []
 |cons {v:V} {d:PyData} {vs:List V} {ds:List PyData} (h:DV K H v d) (hs:yG K H vs ds):yG K H (v::vs) (d::ds)
end
section
variable {X:Cx}{gq:List (Addr×Obj)}{σ:St}{H:Hp}{s:Sq}
mutual
theorem DV.reads(I:gM X gq σ H s):∀{v} {d} {u},DV X.K H v d->iD v u->∃as,Reads s.heap u d as
 |_,_,_,.non,r=>by cases r;exact⟨_,.none⟩
 |_,_,_,.bl b,r=>by cases r;exact⟨_,.bool b⟩
 |_,_,_,.int i,r=>by obtain⟨t,rfl⟩:=r;exact⟨_,.int i t⟩
 |_,_,_,.str x,r=>by obtain⟨t,rfl⟩:=r;exact⟨_,.str x t⟩
 |_,_,_,.lst h hs,r=>by cases r;obtain⟨gF,f,⟨o,n,e,c,hd,g⟩,_⟩:=I.list h;obtain⟨as,a⟩:=yG.reads I hs f;exact⟨_,.list e c g (by simpa using a)⟩
 |_,_,_,.tup h hs,r=>by cases r;obtain⟨gF,f,⟨o,e,c,n,g⟩,_⟩:=I.tuple h;obtain⟨as,a⟩:=yG.reads I hs f;exact⟨_,.tuple e c g (by simpa using a)⟩
theorem yG.reads(I:gM X gq σ H s):∀{vs} {ds} {us},yG X.K H vs ds->gZ vs us->∃as,ReadsAll s.heap us ds as
 |_,_,_,.nil,r=>by cases r;exact⟨_,.nil⟩
 |_,_,_,.cons h hs,r=>by
  cases r with
  |cons r1 r2=>obtain⟨as,a⟩:=DV.reads I h r1;obtain⟨bs,b⟩:=yG.reads I hs r2;exact⟨_,.cons a b⟩
end
def CA(K:Frag)(neg:Bool):R2:=λx y H Q=>∃a b,DV K H x a/\DV K H y b/\(a.canLay0=true/\b.canLay0=true/\a.depth<=100)/\Q (.bl (if neg then !PyData.eqv a b else PyData.eqv a b)) H
def E8(k:X.A.units+200<cLine):nu X (compareOp .Eq) (CA X.K false):=by intro l s m H x y v u Q I e c h;obtain⟨j,n,a,f,⟨i,d,hd⟩,q⟩:=h;obtain⟨as,b⟩:=a.reads I e;obtain⟨bs,g⟩:=f.reads I c;exact SeqAt.eqOverData _ _ _ _ _ _ _ _ _ _ _ _ b g i d (by omega) ⟨.bl _,H,I,rfl,q⟩
def Lu(k:X.A.units+200<cLine):nu X (compareOp .NotEq) (CA X.K true):=by intro l s m H x y v u Q I e c h;obtain⟨j,n,a,f,⟨i,d,hd⟩,q⟩:=h;obtain⟨as,b⟩:=a.reads I e;obtain⟨bs,g⟩:=f.reads I c;exact SeqAt.neOverData _ _ _ _ _ _ _ _ _ _ _ _ b g i d (by omega) ⟨.bl _,H,I,rfl,q⟩
def PJ(hr:jO k A):A.units+200<cLine:=by have:=hr.un;omega
end
end L2
namespace L2
open PySem PySem.Spec PyProof.Rows
theorem yZ:∀{bs:List Bool} {us:List Vq},gZ (bs.map V.bl) us->us=bs.map Value.bool
 |[],_,.nil=>rfl
 |b::bs,u::us,.cons r t=>by have e:=r;rw[e,yZ t];rfl
theorem m9:∀{ns} {us},gZ (ns.map V.int) us->IntsAre us ns
 |[],_,.nil=>.nil
 |n::ns,u::us,.cons r t=>by obtain⟨a,e⟩:=(r);rw[e];exact .cons n a (m9 t)
def Ck{bs:List Bool}:(List.range bs.length).all (λi=>bs.getD i false)=bs.all id:=by
 induction bs with
 |nil=>rfl
 |cons b bs ih=>rw[aA,cB,List.all_cons,List.all_map,List.all_cons,<-ih];rfl
def vQ{bs:List Bool}:(List.range bs.length).any (λi=>bs.getD i false)=bs.any id:=by
 induction bs with
 |nil=>rfl
 |cons b bs ih=>rw[aA,cB,cC,List.any_map,cC,<-ih];rfl
section
variable {X:Cx}
def Cn{bs:List Bool}:TruthOf prog w A (λi v=>(bs.map Value.bool).toArray[i]? = some v) (λi=>bs.getD i false):=λi v s Q E d a=>by
 have e:(bs.map Value.bool)[i]? = some v:=by simpa using d
 rw[aw]at e;cases c:bs[i]? with
 |none=>rw[c]at e;cases e
 |some b=>
  rw[c]at e;cases e;have:bs.getD i false=b:=by rw[ag,c];rfl
  dsimp only at a;rw[this]at a;exact ao a
def GY(g:X.calm=true):kD X (.builtin "all") (λd H Q=>∃(p:Addr) (bs:List Bool),d=[.ref p]/\kK X.K H p (bs.map V.bl)/\Q (.bl (bs.all id)) H):=by
 intro v s x H d w Q I r h;obtain⟨p,bs,rfl,k,q⟩:=h;obtain⟨u,rfl,l⟩:=oU r;cases l;obtain⟨gF,f,a,B⟩:=I.list k;have e:=yZ f;subst e;have c:p<s.heap.objs.size:=by obtain⟨_,e,_⟩:=a.isList;exact aM e
 refine call_all_walk (wpAny_pyIter_list a.isList ⟨s.heap.objs.size,_,_,_,_,_,λi=>bs.getD i false,rfl,Walks.list (A:=X.A.in1) (I.ok.hd g) _ p (aN c) _,⟨⟨_,au _ rfl,rfl,rfl⟩,a.isList.push _⟩,Cn,λy n m=>?_⟩);refine⟨.bl _,H,I.kept (λb o e=>m b o ?_ (af _ e)),rfl,?_⟩
 .intro j;have:=aM e;have z:b=s.heap.objs.size:=by simpa using j
  rw[z]at this;exact ba _ this
 .rw[<-Ck]at q;simpa using q
def GJ(g:X.calm=true):kD X (.builtin "sum") (λb H Q=>∃(p:Addr) (a:LI),b=[.ref p]/\kK X.K H p (a.map V.int)/\Q (.int a.sum) H):=by intro o s w H b v Q I r h;obtain⟨p,a,rfl,i,q⟩:=h;obtain⟨u,rfl,j⟩:=oU r;cases j;obtain⟨gF,f,k,y⟩:=I.list i;have d:=m9 f;obtain⟨b,e⟩:=d.allInts.items;have c:=k.isList;rw[e]at c;refine sum_intListG (I.ok.hd g) c λx n l m=>⟨.int a.sum,H,I.kept m,⟨l,?_⟩,q⟩;rw[preSum_eq,cD (by simp),<-nums_intItems,<-e,show gF.toArray.toList=gF from rfl,d.numsOf]
def Aa:bootBuiltins "all" = some (.builtin "all"):=by decide +kernel
def Ha:bootBuiltins "any" = some (.builtin "any"):=by decide +kernel
def LK:bootBuiltins "sum" = some (.builtin "sum"):=by decide +kernel
end
end L2
namespace L2
open PySem PySem.Spec PyProof.Rows
def jc(b:Bool)(h:Heap)(l:Addr)(a:Array Vq):Prop:=if b=true then h.IsTuple l a else h.IsList l a
def k9(b:Bool)(h:Heap)(it l:Addr)(k:Nat):Prop:=if b=true then h.IsTupleIter it l k else h.IsListIter it l k
noncomputable def tQ(b:Bool):String:=if b=true then "tuple_iterator" else "list_iterator"
def k9.look(x:k9 b h it l k):∃o,h.get? it=some o/\o.cls=.type (tQ b)/\o.data=.fields #[.ref l,.int k 0]:=by
 cases b with
 |true=>exact (x)
 |false=>exact (x)
def k9.of{k:Nat}(x:∃o,h.get? it=some o/\o.cls=.type (tQ b)/\o.data=.fields #[.ref l,.int k 0]):k9 b h it l k:=by
 cases b with
 |true=>exact x
 |false=>exact x
def k9.to(x:k9 b h it l k)(e:∀o,h.get? it=some o->h'.get? it=some o):k9 b h' it l k:=by obtain⟨o,a,q⟩:=x.look;exact .of ⟨o,e o a,q⟩
def jc.look(x:jc b h l xs):∃o n,h.get? l=some o/\o.data=.seq xs n:=by
 cases b with
 |true=>obtain⟨o,a,_,n,hd⟩:=(x);exact⟨o,n,a,hd⟩
 |false=>obtain⟨o,a,_,n,hd⟩:=(x);exact⟨o,n,a,hd⟩
def jc.to(x:jc b h l xs)(e:∀o,h.get? l=some o->h'.get? l=some o):jc b h' l xs:=by
 cases b with
 |true=>obtain⟨o,a,q⟩:=(x);exact⟨o,e o a,q⟩
 |false=>obtain⟨o,a,q⟩:=(x);exact⟨o,e o a,q⟩
section
variable {prog:Program}{w:World}{A:Around}{E:Vq->Shared->Prop}{s:Sq}
theorem JX(d:s.heap.IsTupleIter it l k)(g:s.heap.IsTuple l xs)
  (m:∀x h',xs[k]? = some x->h'.IsTupleIter it l (k+1)->Heap.SameBut it s.heap h'->Q x {s with heap:=h'})
  (f:xs[k]? = none->A.handled=none/\∀h' e,Heap.ExtBut it s.heap h'->(∃o,h'.get? e=some o/\o.cls=.type "StopIteration")->E (.ref e) {s with heap:=h'}) :
  wpAny (model prog w) A (Builtin.SmallTypes.nextOf (.ref it)) Q E s:=by
 obtain⟨p,b,j,a⟩:=id d;obtain⟨q,h,_,n,dl⟩:=g;unfold Builtin.SmallTypes.nextOf;refine aq (wpAny_callSpecial?_slot d.typeIs F.slot_tuple_iterator_next (wpAny_call_entry F.slot_tuple_iterator_next d.typeIs F.entry_tuple_iterator_next ?_ (F.args_tuple_iterator_next_1 _)));show wpAny _ _ (field (.ref it) 0 >>= _) _ _ s;refine aq (wpAny_field b a rfl ?_);have ne:(Value.ref l==Value.none)=false:=rfl;simp only[ne,cg,if_false];refine aq (wpAny_field b a rfl (aq (wpAny_seqItems h dl ?_)));cases c:xs[k]? with
 |some x=>simp only[bN,c];refine aq (wpAny_setField b a (by simp) (ao ⟨x,rfl,ao (m x _ c ?_ (Heap.SameBut.update ..))⟩));refine⟨_,Heap.get?_update_self _ b (Obj.isFreed_of_fields (Obj.data_mapFields a _)),(Obj.cls_mapFields ..).trans j,?_⟩;rw[Obj.data_mapFields a];simp[rawInt]
 |none=>obtain⟨i,f⟩:=f c;simp only[bN,c];refine aq (wpAny_rule (aq (wpAny_setField b a (by simp) ?_)));show wpAny _ _ (newExc (.type "StopIteration") [] >>= _) _ _ _;simp only[newExc,newTuple];refine aq (aq (wpAny_newObj_type (aq (wpAny_of_eq (by first|rfl|(simp only[firstArgMember];rfl)) (wpAny_newObj_type ?_ (by size_fits)))) (by size_fits)));simp only[raiseNew];refine aq (wpAny_handled ?_);rw[show A.in1.handled=none from i];refine aq (ao (wpAny_throw ?_));exact f _ _ (((Heap.SameBut.update ..).extBut.push _).push _) ⟨_,au _ rfl,rfl⟩
theorem sY(j:k9 b s.heap it l k)(h:jc b s.heap l xs)
  (i:∀x h',xs[k]? = some x->k9 b h' it l (k+1)->Heap.SameBut it s.heap h'->Q x {s with heap:=h'})
  (g:xs[k]? = none->A.handled=none/\∀h' e,Heap.ExtBut it s.heap h'->(∃o,h'.get? e=some o/\o.cls=.type "StopIteration")->E (.ref e) {s with heap:=h'}) :
  wpAny (model prog w) A (Builtin.SmallTypes.nextOf (.ref it)) Q E s:=by
 cases b with
 |true=>exact JX j h i g
 |false=>
  have d:=j;have c:=h;cases f:xs[k]? with
  |some x=>exact wpAny_nextOf_list_item d c f λh' a b=>i x h' f a b
  |none=>obtain⟨m,g⟩:=g f;exact wpAny_nextOf_list_end m d c f g
def EZ{z TI TO B H X N:Addr}{Q:Vq->Shared->Prop}(D:ZipApart z TI TO B H X N)
  (L:IsZip s.heap z TI TO .none) (Y:IsPair s.heap TI (.ref B) (.ref H)) (hTO:IsPair s.heap TO a b)
  (h1:k9 b1 s.heap B X k) (h2:k9 b2 s.heap H N k) (hl1:jc b1 s.heap X xs) (hl2:jc b2 s.heap N ys)
  (yes:∀x y h',xs[k]? = some x->ys[k]? = some y->IsZip h' z TI TO (rawInt s.heap.objs.size)->IsPair h' TO x y->k9 b1 h' B X (k+1)->k9 b2 h' H N (k+1)->IsPair h' s.heap.objs.size x y->h'.objs.size=s.heap.objs.size+1->
   (∀c o,c≠z->c≠TO->c≠B->c≠H->s.heap.get? c=some o->h'.get? c=some o)->Q (.ref s.heap.objs.size) {s with heap:=h'})
  (R:xs[k]? = none\/ys[k]? = none->A.handled=none/\∀h' e,(∀c o,c≠z->c≠TO->c≠B->c≠H->s.heap.get? c=some o->h'.get? c=some o)->(∃o,h'.get? e=some o/\o.cls=.type "StopIteration")->E (.ref e) {s with heap:=h'}) :
  wpAny (model prog w) A (Builtin.«zip.__next__» ⟨[.ref z],[]⟩) (λfin s'=>∃v,fin=.done (.ret v)/\Q v s') E s:=by
 have m:∀{h:Heap} {e:Addr} {I:Obj} {f:Vq},IsZip h z TI TO f->h.get? e=some I->I.cls=.type "StopIteration" ->e≠z:=λ{h e I f} q ge ce u=>by subst u;rw[q]at ge;cases ge;simp at ce
 show wpAny _ _ (field (.ref z) 2 >>= λ_=>_) _ _ _;refine aq (wpAny_field L rfl rfl ?_);refine aq (wpAny_field L rfl rfl (aq (wpAny_seqItems Y rfl ?_)));unfold Builtin.SmallTypes.ownedTupleIsFree;refine aq (aq (wpAny_field L rfl rfl (ao ?_)));simp only[if_true];refine aq (wpAny_rule (aq (wpAny_field L rfl rfl (aq (wpAny_setField_rec L (by simp) λg1 y1 J=>?_)))));have z1:=y1;simp only[List.zipIdx_cons,List.zipIdx_nil,List.forIn_cons,List.forIn_nil];refine aq (aq (aq (wpAny_onRaise ?_)));refine aq (sY (h1.to λo e=>J.extBut _ _ D.i1z e) (hl1.to λo e=>J.extBut _ _ D.l1z e) (λx g2 U t2 F=>ao ?_) (λU=>⟨(R (.inl U)).1,λg2 e F ⟨I,ge,ce⟩=>?_⟩))
 .have p2:=F.extBut _ _ D.TOi1 (J.extBut _ _ D.TOz hTO);refine aq (wpAny_seqItems p2 rfl (aq (wpAny_updateSeq_pair p2 λg3 q3 r=>?_)));have p3:=q3;refine aq (wpAny_letGo (ao (aq (aq (wpAny_onRaise ?_)))));have l:∀c o,c≠z->c≠B->c≠TO->s.heap.get? c=some o->g3.get? c=some o:=λc o d i j e=>r.extBut _ _ j (F.extBut _ _ i (J.extBut _ _ d e));refine aq (sY (h2.to λo e=>l _ o D.i2z D.i12.symm D.TOi2.symm e) (hl2.to λo e=>l _ o D.l2z D.l2i1 D.l2TO e) (λy g4 S t4 C=>ao ?_) (λS=>⟨(R (.inr S)).1,λg4 e C ⟨I,ge,ce⟩=>?_⟩))
  .have p4:=C.extBut _ _ D.TOi2 p3;refine aq (wpAny_seqItems p4 rfl (aq (wpAny_updateSeq_pair p4 λn q5 p=>?_)));have p5:IsPair n TO x y:=q5;refine aq (wpAny_letGo (ao (ao (aq (wpAny_seqItems p5 rfl (aq (wpAny_newTuple ?_)))))));have sz:n.objs.size=s.heap.objs.size:=by rw[p.1,C.1,r.1,F.1,J.1]
   have z5:=p.extBut _ _ D.TOz.symm (C.extBut _ _ D.i2z.symm (r.extBut _ _ D.TOz.symm (F.extBut _ _ D.i1z.symm z1)));have Z:∀c o,c≠z->c≠TO->c≠B->c≠H->s.heap.get? c=some o->n.get? c=some o:=λc o d i j K e=>p.extBut _ _ i (C.extBut _ _ K (l c o d j i e));unfold Builtin.SmallTypes.ownedTupleHandOut;refine aq (aq (wpAny_setField_rec (af _ z5) (by simp) λg7 y7 k7=>?_));have z7:=y7;refine wpAny_setField_rec z7 (by simp) λP y8 k8=>?_;have z8:=y8;have up:∀c o,c≠z->(n.push {cls:=.type "tuple",data:=.seq #[x,y]}).get? c=some o->P.get? c=some o:=λc o d e=>k8.extBut _ _ d (k7.extBut _ _ d e);have g:∀c o,c≠z->n.get? c=some o->P.get? c=some o:=λc o d e=>up c o d (af _ e);have p8:=up _ _ (bB (aM z5)) (au _ rfl);have s8:P.objs.size=n.objs.size+1:=by rw[k8.1,k7.1,Heap.size_push]
   rw[sz]at z8 p8 s8;refine ao ⟨_,rfl,?_⟩;rw[sz];have e1:=t2.to λo e=>g _ o D.i1z (p.extBut _ _ D.TOi1.symm (C.extBut _ _ D.i12 (r.extBut _ _ D.TOi1.symm e)));have e2:=t4.to λo e=>g _ o D.i2z (p.extBut _ _ D.TOi2.symm e);exact yes x y P U S z8 (g _ _ D.TOz p5) e1 e2 p8 s8 λc o d i j K e=>g c o d (Z c o d i j K e)
  .have z4:=C _ _ D.i2z.symm (r.extBut _ _ D.TOz.symm (F.extBut _ _ D.i1z.symm z1));refine wpAny_setField_rec z4 (by simp) λn _ p=>(R (.inr S)).2 n e (λc o d i j K q=>p.extBut _ _ d (C _ _ K (l c o d j i q))) ⟨I,p.extBut _ _ (m z4 ge ce) ge,ce⟩
 .have z2:=F _ _ D.i1z.symm z1;refine wpAny_setField_rec z2 (by simp) λg3 _ r=>(R (.inl U)).2 g3 e (λc o d i j K q=>r.extBut _ _ d (F _ _ j (J.extBut _ _ d q))) ⟨I,r.extBut _ _ (m z2 ge ce) ge,ce⟩
def yu{z TI TO d f h g:Addr}(D:ZipApart z TI TO d f h g)
  (r:IsZip s.heap z TI TO .none) (j:IsPair s.heap TI (.ref d) (.ref f)) (m:IsPair s.heap TO a b)
  (N:k9 b1 s.heap d h k) (L:k9 b2 s.heap f g k) (i:jc b1 s.heap h xs) (n:jc b2 s.heap g ys)
  (l:∀x y h',xs[k]? = some x->ys[k]? = some y->IsZip h' z TI TO (rawInt s.heap.objs.size)->IsPair h' TO x y->k9 b1 h' d h (k+1)->k9 b2 h' f g (k+1)->IsPair h' s.heap.objs.size x y->h'.objs.size=s.heap.objs.size+1->
   (∀c o,c≠z->c≠TO->c≠d->c≠f->s.heap.get? c=some o->h'.get? c=some o)->Q (some (.ref s.heap.objs.size)) {s with heap:=h'})
  (p:xs[k]? = none\/ys[k]? = none->A.handled=none/\∀h',(∀c o,c≠z->c≠TO->c≠d->c≠f->s.heap.get? c=some o->h'.get? c=some o)->Q none {s with heap:=h'}) :
  wpAny (model prog w) A (pyNext (.ref z)) Q E s:=by
 have ty:s.TypeIs (.ref z) "zip" :=⟨_,r,rfl⟩;unfold pyNext;refine aq (wpAny_attempt (wpAny_callSpecial?_slot ty F.slot_zip_next (wpAny_call_entry F.slot_zip_next ty F.entry_zip_next
  (EZ D r j m N L i n (λx y h' K I B P H u J v C=>ao (l x y h' K I B P H u J v C)) λq=>⟨(p q).1,λh' e hk ⟨o,ho,hc⟩=>?_⟩) (F.args_zip_next_1 _))))
 exact aq (wpAny_isInstance ⟨o,ho,hc⟩ isSubtype_stop (ao ((p q).2 h' hk)))
theorem mN(a:jc b s.heap l xs)
  (h:Q (.ref s.heap.objs.size) {s with heap:=s.heap.push {cls:=.type (tQ b),data:=.fields #[.ref l,.int 0 0]}}):wpAny (model prog w) A (pyIter (.ref l)) Q E s:=by
 cases b with
 |true=>exact wpAny_pyIter_tuple (a) h
 |false=>exact wpAny_pyIter_list (a) h
end
noncomputable abbrev zo(b:Bool)(l:Addr):Obj:={cls:=.type (tQ b),data:=.fields #[.ref l,.int 0 0]}
abbrev zt(x y:Vq):Obj:={cls:=.type "tuple",data:=.seq #[x,y]}
abbrev zz(p q:Addr):Obj:={cls:=.type "zip",data:=.fields #[.none,.bool false,.bool false,.ref p,.ref q]}
noncomputable abbrev xn(b1 b2:Bool)(h:Heap)(l1 l2:Addr):Heap:=
 ((((h.push (zo b1 l1)).push (zo b2 l2)).push (zt (.ref h.objs.size) (.ref (h.push (zo b1 l1)).objs.size))).push (zt .none .none)).push
  (zz ((h.push (zo b1 l1)).push (zo b2 l2)).objs.size (((h.push (zo b1 l1)).push (zo b2 l2)).push (zt (.ref h.objs.size) (.ref (h.push (zo b1 l1)).objs.size))).objs.size)
section
variable {prog:Program}{w:World}{A:Around}{E:Vq->Shared->Prop}{s:Sq}
def Cr b1 b2 l1 l2 xs ys:Meets (Builtin.«zip.__new__» ⟨[.type "zip",.ref l1,.ref l2],[]⟩) (λ_ R s=>jc b1 s.heap l1 xs/\jc b2 s.heap l2 ys/\
  R (.ok (.ret (.ref ((((s.heap.push (zo b1 l1)).push (zo b2 l2)).push (zt (.ref s.heap.objs.size) (.ref (s.heap.push (zo b1 l1)).objs.size))).push (zt .none .none)).objs.size))) {s with heap:=xn b1 b2 s.heap l1 l2}):=by
 refine .of_wp λprog w A R s h=>?_;obtain⟨j,g,d,b,a⟩:=s;obtain⟨i,c,hR⟩:=h;have sz:=sub_zip;have k:=i;have f:jc b2 (Shared.heap ⟨j.push (zo b1 l1),g,d,b,a⟩) l2 ys:=c.to λo e=>af _ e;wp_walk using mN k,mN f;exact⟨_,rfl,hR⟩
def Fg(d:jc b1 s.heap l1 xs)(l:jc b2 s.heap l2 ys)
  (h:∀h',IsZip h' (s.heap.objs.size+4) (s.heap.objs.size+2) (s.heap.objs.size+3) .none->IsPair h' (s.heap.objs.size+2) (.ref s.heap.objs.size) (.ref (s.heap.objs.size+1))->IsPair h' (s.heap.objs.size+3) .none .none->
   k9 b1 h' s.heap.objs.size l1 0->k9 b2 h' (s.heap.objs.size+1) l2 0->h'.objs.size=s.heap.objs.size+5->(∀c o,s.heap.get? c=some o->h'.get? c=some o)->Q (.ref (s.heap.objs.size+4)) {s with heap:=h'}) :
  wpAny (model prog w) A (call (.type "zip") [.ref l1,.ref l2]) Q E s:=by
 refine callType_new F.called_zip (by decide) (F.typeCall_zip_2 _ _) (F.newCall_zip_2 _ _) (λk=>F.args_object_init_3 k _ _) F.entry_zip_new (Cr b1 b2 l1 l2 xs ys) ⟨d,l,?_⟩;generalize f:s.heap.objs.size=n at *;have b:(s.heap.push (zo b1 l1)).objs.size=n+1:=by rw[Heap.size_push,f]
 have j:((s.heap.push (zo b1 l1)).push (zo b2 l2)).objs.size=n+2:=by rw[Heap.size_push,b]
 generalize a:(s.heap.push (zo b1 l1)).push (zo b2 l2)=g2 at *;have r:∀c o,s.heap.get? c=some o->g2.get? c=some o:=λc o e=>by rw[<-a];exact af _ (af _ e)
 have q:g2.get? n=some (zo b1 l1):=by rw[<-a,<-f];exact af _ (au _ rfl)
 have v:g2.get? (n+1)=some (zo b2 l2):=by rw[<-a,<-b];exact au _ rfl
 have g:(g2.push (zt (.ref n) (.ref (n+1)))).objs.size=n+3:=by rw[Heap.size_push,j]
 have i:((g2.push (zt (.ref n) (.ref (n+1)))).push (zt .none .none)).objs.size=n+4:=by rw[Heap.size_push,g]
 have u:xn b1 b2 s.heap l1 l2=((g2.push (zt (.ref n) (.ref (n+1)))).push (zt .none .none)).push (zz (n+2) (n+3)):=by unfold xn;rw[f,b,a,j,g]
 rw[u,b,i];have p:(g2.push (zt (.ref n) (.ref (n+1)))).get? (n+2)=some (zt (.ref n) (.ref (n+1))):=by rw[<-j];exact au _ rfl
 have x:((g2.push (zt (.ref n) (.ref (n+1)))).push (zt .none .none)).get? (n+3)=some (zt .none .none):=by rw[<-g];exact au _ rfl
 have m:(((g2.push (zt (.ref n) (.ref (n+1)))).push (zt .none .none)).push (zz (n+2) (n+3))).get? (n+4)=some (zz (n+2) (n+3)):=by rw[<-i];exact au _ rfl
 have up:∀c o,g2.get? c=some o->(((g2.push (zt (.ref n) (.ref (n+1)))).push (zt .none .none)).push (zz (n+2) (n+3))).get? c=some o:=λc o e=>af _ (af _ (af _ e));exact⟨⟨_,m,rfl⟩,h _ m (af _ (af _ p)) (af _ x) (.of ⟨_,up _ _ q,rfl,rfl⟩) (.of ⟨_,up _ _ v,rfl,rfl⟩) (by rw[Heap.size_push,i]) λc o e=>up c o (r c o e)⟩
end
end L2
namespace L2
open PySem PySem.Spec PyProof.Rows
def gM.turnedL{ch:List Addr}(I:gM X gq σ H s)(k:∀b o,b∉ch->s.heap.get? b=some o->h'.get? b=some o)(f:∀b∈ch,rA X gq H b) :
  gM X gq σ H {s with heap:=h',toks:=t'}:=by
 have d:∀b u,H b=some u->b∉ch:=λb u e z=>by rw[(f b z).1]at e;cases e
 refine I.step (λb j=>let ⟨_,f1,_,f3,f4,f5⟩:=f b j;⟨f3,f1,f4,f5⟩) (λb o _ _ a e _=>k b o a e) (λb o _ _ a e _=>⟨o.slots,k b o a e⟩) (λ_ _ _ _ n=>n)
  (λb o a e=>⟨o,k b o a e⟩) (λ_ _ e=>e) (λ_ _ _ e=>e) (λb _ p e=>⟨#[],by rw[e];simp⟩) (λm g=>?_) (λb u e=>?_) I.bare
 .obtain⟨o,i,h,l,r⟩:=g;exact⟨o,i,h,k _ o (λz=>(f _ z).2.1 rfl) l,r⟩
 .refine (I.hok b u e).stay (λc v a q=>k c v ?_ q) (λ_ q=>q) λ_ _ q=>q;rcases a with z|z
  .rw[z];exact d b u e
  .exact d c _ z
def uO(K:W.Frag)(H:Hp)(b:Bool)(a:Addr)(c:List V):Prop:=if b=true then lR K H a c else kK K H a c
def gM.seqB(I:gM X gq σ H s)(h:uO X.K H b a xs):∃gF:List Vq,gZ xs gF/\jc b s.heap a gF.toArray/\xs.length<=sizeLine:=by
 cases b with
 |true=>obtain⟨gF,r,p,z⟩:=I.tuple (h);exact⟨gF,r,p,z⟩
 |false=>obtain⟨gF,r,p,z⟩:=I.list (h);exact⟨gF,r,p.isList,z⟩
def gM.seqB_inj(I:gM X gq σ H s)(h:uO X.K H b a xs)(h':uO X.K H b a ys):xs=ys:=by
 cases b with
 |true=>exact I.tuple_inj h h'
 |false=>exact I.list_inj h h'
noncomputable def P5(K:W.Frag)(e d:Bool)(f c:Addr):It:=
  ⟨λi H=>∃a b x y,uO K H e f a/\uO K H d c b/\a[i]? = some x/\b[i]? = some y,
   λi H v g=>∃p x y,v=.ref p/\H p=none/\g=jn H p (.tup [x,y])/\(∀a,uO K H e f a->a[i]? = some x)/\∀b,uO K H d c b->b[i]? = some y,
   λi H=>∃a b,uO K H e f a/\uO K H d c b/\(a.length<=i\/b.length<=i)⟩
def Ef{K:W.Frag}{x1}{z TI TO m l l1 l2:Addr}(D:ZipApart z TI TO m l l1 l2) :
  AS P w K (.Tuple elts x1 pos) (P5 K b1 b2 l1 l2) [z,TI,TO,m,l] z (λi h=>IsZip h z TI TO .none/\IsPair h TI (.ref m) (.ref l)/\(∃a b,IsPair h TO a b)/\k9 b1 h m l1 i/\k9 b2 h l l2 i) where
 mem:=by simp
 obj:=λi h st b g=>by
  obtain⟨n,f,⟨a,c,j⟩,r,p⟩:=st;have mem:b=z\/b=TI\/b=TO\/b=m\/b=l:=by simpa using g
  rcases mem with rfl|rfl|rfl|rfl|rfl
  .exact⟨_,n,λv q=>by cases q⟩
  .exact⟨_,f,λv q=>by cases q⟩
  .exact⟨_,j,λv q=>by cases q⟩
  .obtain⟨o,e,_,d⟩:=r.look;exact⟨o,e,λv q=>by rw[d]at q;cases q⟩
  .obtain⟨o,e,_,d⟩:=p.look;exact⟨o,e,λv q=>by rw[d]at q;cases q⟩
 keep:=λi h h' st k=>by obtain⟨n,f,⟨a,c,j⟩,r,p⟩:=st;exact⟨k z (by simp) _ n,k TI (by simp) _ f,⟨a,c,k TO (by simp) _ j⟩,r.to λo e=>k m (by simp) o e,p.to λo e=>k l (by simp) o e⟩
 item:=by
  intro X hP hw hK hc i gq s σ H E I Y st hg;subst hP hw hK;obtain⟨n,f,⟨a,c,j⟩,r,p⟩:=st;obtain⟨xs,ys,x,y,Z,q2,e1,e2⟩:=hg;obtain⟨N,r1,p1,z1⟩:=I.seqB Z;obtain⟨L,r2,p2,z2⟩:=I.seqB q2;obtain⟨u,gu,ru⟩:=r1.get e1;obtain⟨v,gv,rv⟩:=r2.get e2;have C:=I.fpOk (aL _) (I.hok.fresh (aL _));refine yu D n f j r p p1 p2 (λF Q h' A B a1 a2 a3 a4 a5 a6 U=>?_) λq=>?_
  .have eu:F=u:=by
    have:N[i]? = some F:=by simpa using A
    rw[gu]at this;cases this;rfl
   have ev:Q=v:=by
    have:L[i]? = some Q:=by simpa using B
    rw[gv]at this;cases this;rfl
   subst eu;subst ev;refine⟨_,rfl,wpAny_letOwnedTupleGo_zip a1 λS J sb=>?_⟩;have zT:=bB (aM n);have I1:=I.turnedL (t':=s.toks) (ch:=[z,TO,m,l]) (λb o g e=>sb.extBut _ _ (λq=>g (by simp[q])) (U b o (λq=>g (by simp[q])) (λq=>g (by simp[q])) (λq=>g (by simp[q])) (λq=>g (by simp[q])) e))
    (λb g=>Y b (by
     have mem:b=z\/b=TO\/b=m\/b=l:=by simpa using g
     rcases mem with rfl|rfl|rfl|rfl<;>simp))
   have gT:=sb.extBut _ _ zT a5;have I2:gM X gq σ (jn H s.heap.objs.size (.tup [x,y])) {s with heap:=S}:=I1.track C.1 C.2.2.2.1 C.2.1 C.2.2.2.2.1 C.2.2.2.2.2
    ⟨by show 2<=sizeLine;decide,[F,Q],.cons ru (.cons rv .nil),⟨_,gT,rfl,_,rfl,rfl⟩⟩
   have lt:∀{b o},s.heap.get? b=some o->jn H s.heap.objs.size (.tup [x,y]) b=H b:=λ{b o} e=>gL (aN (aM e));refine⟨.ref s.heap.objs.size,_,I2,rfl,⟨_,x,y,rfl,C.1,rfl,λxs' h=>by rw[I.seqB_inj h Z];exact e1,λys' h=>by rw[I.seqB_inj h q2];exact e2⟩,?_,λb g=>?_⟩
   .have k2:∀c o,c≠z->h'.get? c=some o->S.get? c=some o:=λc o c1 e=>sb.extBut _ _ c1 e;exact⟨J,k2 _ _ D.TIz (U _ _ D.TIz D.TITO D.TIi1 D.TIi2 f),⟨_,_,k2 _ _ D.TOz a2⟩,a3.to λo e=>k2 _ o D.i1z e,a4.to λo e=>k2 _ o D.i2z e⟩
   .have mem:b=z\/b=TI\/b=TO\/b=m\/b=l:=by simpa using g
    have R:=(Y b g).1;obtain⟨o1,g1,_⟩:=r.look;obtain⟨o2,g2,_⟩:=p.look;rcases mem with rfl|rfl|rfl|rfl|rfl
    .rw[lt n];exact R
    .rw[lt f];exact R
    .rw[lt j];exact R
    .rw[lt g1];exact R
    .rw[lt g2];exact R
  .exfalso;have m1:N.toArray[i]? = some u:=by simpa using gu
   have m2:L.toArray[i]? = some v:=by simpa using gv
   rcases q with q|q
   .rw[m1]at q;cases q
   .rw[m2]at q;cases q
 done:=by
  intro X hP hw hK hc i gq s σ H E I Y st hg;subst hP hw hK;obtain⟨n,f,⟨a,c,j⟩,r,p⟩:=st;obtain⟨xs,ys,Z,q2,hl⟩:=hg;obtain⟨N,r1,p1,z1⟩:=I.seqB Z;obtain⟨L,r2,p2,z2⟩:=I.seqB q2;have n1:=r1.length;have n2:=r2.length;have fpc:∀b∈[z,TO,m,l],rA X gq H b:=λb g=>Y b (by
   have mem:b=z\/b=TO\/b=m\/b=l:=by simpa using g
   rcases mem with rfl|rfl|rfl|rfl<;>simp)
  refine yu D n f j r p p1 p2 (λF Q h' A B a1 a2 a3 a4 a5 a6 U=>?_) λq=>⟨I.ok.hd hc,λh' U=>⟨rfl,I.turnedL (λb o g e=>U b o (λq=>g (by simp[q])) (λq=>g (by simp[q])) (λq=>g (by simp[q])) (λq=>g (by simp[q])) e) fpc⟩⟩;exfalso;have m1:i<N.length:=by
   have:N[i]? = some F:=by simpa using A
   exact (ae.mp this).1
  have m2:i<L.length:=by
   have:L[i]? = some Q:=by simpa using B
   exact (ae.mp this).1
  omega
 self:=λ_ _ _ _ _ st h=>wpAny_pyIter_zip st.1 h
def Mf:bootBuiltins "zip" = some (.type "zip"):=by decide +kernel
section
variable {X:Cx}
def LN(K:W.Frag)(e d:Bool)(h:TA):TI:=λf H R=>h f H λi b=>∃c a,i=[.ref c,.ref a]/\(∃g,uO K b e c g)/\(∃j,uO K b d a j)/\R (P5 K e d c a) b
def K8{x1}(E:Gl X "zip")(u:X.mg "zip" = none)(v:PA X [a,b] ta)(hs:starEach [a,b] X.env=[(false,eval a X.env),(false,eval b X.env)]:=by rfl)
  (c:starEach [b] X.env=[(false,eval b X.env)]:=by rfl):PI X (.Tuple elts x1 tpos) (.Call (.Name "zip" p) [a,b] [] pos) (LN X.K b1 b2 ta):=by
 intro D s L H R I h;refine Call_ (mZ I E u Mf (PyProof.Rows.callWith_type1 (jw (v pos D s L H _ I h) λJ s1 ⟨vs,H1,I1,r1,f⟩=>?_) (by rw[hs,c]) (by rw[c];rfl)));obtain⟨S,x,rfl,⟨U,f⟩,⟨Y,z⟩,q⟩:=f;obtain⟨u1,Z,rfl,B,F⟩:=F9 r1;cases B;cases F;obtain⟨J,P,k,_⟩:=I1.seqB f;obtain⟨ws,w,l,_⟩:=I1.seqB z;have i:S<s1.heap.objs.size:=by obtain⟨o,n,e,_⟩:=k.look;exact aM e
 have j:x<s1.heap.objs.size:=by obtain⟨o,n,e,_⟩:=l.look;exact aM e
 refine Fg k l λh' r d g y C Q N=>?_;refine wpAny_pyIter_zip r ?_;refine⟨_,_,_,_,H1,rfl,I1.kept N,Ef (zipApart_new i j),⟨r,d,⟨_,_,g⟩,y,C⟩,λb A=>?_,q⟩;have mem:b=s1.heap.objs.size+4\/b=s1.heap.objs.size+2\/b=s1.heap.objs.size+3\/b=s1.heap.objs.size\/b=s1.heap.objs.size+1:=by simpa using A
 have m:s1.heap.objs.size<=b:=by rcases mem with rfl|rfl|rfl|rfl|rfl<;>omega
 exact I1.fpOk m (I1.hok.fresh m)
end
end L2
namespace L2
open PySem PySem.Spec PyProof.Rows
def gS.seqT{K:W.Frag}(e:gS H H')(h:lR K H a xs):lR K H' a xs:=by
 rcases h with (h|⟨o,h⟩)|h
 .exact .inl (.inl (e _ _ h))
 .exact .inl (.inr ⟨o,e _ _ h⟩)
 .exact .inr h
noncomputable def xP(d:List Str)(b a:Scope)(N:List Str)(c:List (Option Nat)):Bool:=
 a.kind==.function&&a.names.all (λy=>!(y.2==NameKind.cell)||a.names.lookup y.1==some .cell)&&a.names.all (λy=>!(y.2==NameKind.local)||a.names.lookup y.1==some .local) &&
 a.names.all (λy=>!(y.2==NameKind.free)||b.names.lookup y.1==some .cell)&&N.length==c.length &&
 (List.range N.length).all (λi=>match c[i]?,N[i]? with
  |some (some j),some x=>d[j]? == some x&&a.names.lookup x==some .free&&b.names.lookup x==some .cell
  |_,_=>true)
def Oo(s:∀x,X.env.scope.names.lookup x=some .cell->∃c,X.env.cells.lookup x=some c)(h:xP X.N X.env.scope scope N ix=true):yF X scope N ix:=by
 unfold xP at h;simp only[bS]at h;obtain⟨⟨⟨⟨⟨r,q⟩,k⟩,m⟩,p⟩,n⟩:=h;refine⟨by simpa using r,λy d e=>?_,λy d e=>?_,λy d e=>?_,by simpa using p,λi j x g o=>?_⟩
 .have:=cE.mp q y d;rw[e]at this;simpa using this
 .have:=cE.mp k y d;rw[e]at this;simpa using this
 .have:=cE.mp m y d;rw[e]at this;exact s _ (by simpa using this)
 .have l:=(ae.mp g).1;have:=cE.mp n i (aT.mpr l);rw[g,o]at this;simp only[bS,beq_iff_eq]at this;obtain⟨⟨a,b⟩,c⟩:=this;exact⟨a,b,.inr (.inl c),λz=>by have f:X.env.scope.names.lookup x=some .local:=z;rw[c]at f;cases f⟩
def GB(L:yF X scope N ix):∀x,(lH X N scope C s₃ H ex pn).env.scope.names.lookup x=some .cell->∃c,(lH X N scope C s₃ H ex pn).env.cells.lookup x=some c:=λx b=>by
 refine bK.mp (W.cellsFrom_some _ _ _ ?_);rcases qC (.inl b) with a|a
 .exact .inr (bK.mpr (mE a (L.fre _ a rfl)))
 .exact .inl a
def uD{K:W.Frag}(w:ix[k]? = some none)(b:ix[l]? = some none):mV ix (Da K 2 (uo (j2 k) (uo (j2 l) Dp))):=by
 rintro x m H Q ⟨a,g,n,d,f,v,r,p,s,o,y,h,q⟩;refine⟨a,g,n,d,f,v,r,p,s,o,y,h,λi j e=>?_,q⟩;have c:k≠i:=by rintro rfl;rw[w]at e;cases e
 have u:l≠i:=by rintro rfl;rw[b]at e;cases e
 rw[ar u,ar c]
end L2
namespace L2
open PySem PySem.Spec PyProof.Rows
def GZ(hN:X.N.Nodup)(hy:X.N[i]? = some y)(E:DJ X.env.scope y)
  (S:X.calm=true) (hi:PI X tg iter wi) (L:yF X scope N ix) (r:mV ix g)
  (u:∀C c H n k,PG (lH X N scope C c H n k) tg g/\Dg (lH X N scope C c H n k) ifs tt/\PE (lH X N scope C c H n k) elt te)
  (F:X.fn y=true\/X.env.scope.names.lookup y=some .local:=by first|exact .inl rfl|exact .inr rfl)
  (l:swapsWith (.ListComp elt [⟨tg,iter,ifs,0⟩] scope pos) (some (.Name y py)) spos.line X.env=pure true:=by rfl)
  (hs:∀x,foldedSetIterable iter X.env x=pure x:=by intro _;rfl):PS X (.Assign [.Name y py] (.ListComp elt [⟨tg,iter,ifs,0⟩] scope pos) spos) (oM (Ec ix wi g tt te) (j2 i)):=by
 intro gq s B H D I h;rw[exec_Assign_Name_used _ _ _ _ l];refine aq (wpAny_standAt (aq ?_));rw[arm_evalThenUse_ListComp];refine aq (jw (wpAny_comprehension_free rfl hs (pk L.fre) L.kind L.names (jw (hi gq s B H _ I h) λv s1 h1=>jw h1 λP s2 h2=>?_)) λ_ s' q=>ao (ao q));obtain⟨it,fp,tn,J,H2,e,I2,T,A,f2,W,⟨m0,w0⟩,d⟩:=h2;subst e;refine BB (Q:=λx R=>j2 i x B R D.nx) S L r u I2 T A f2 w0 d λE0 C m H' s' Y f K q=>?_;refine wpAny_assign_Name (vH (v:=.ref E0) K hN hy E rfl (λs3 U p=>?_) F);obtain⟨a,sb,Z⟩:=p;have ne:C≠a:=by
  rcases Z with z|z
  .rw[z];exact f.2.1
  .exact λw=>f.2.2.2.2.1 y a z w.symm
 exact⟨m,Y.sameBut sb ne,λh' j=>⟨_,H',U.turned (λb o hb e=>j.extBut b o hb e) f.1 f.2.1 f.2.2.2.1 f.2.2.2.2.1 f.2.2.2.2.2,q⟩⟩
end L2
namespace L2
open PySem PySem.Spec PyProof.Rows
section
variable {κ:Type}[DecidableEq κ]
noncomputable def pH(kvs:List (κ×V))(k:κ):Option V:=(kvs.find? λa=>decide (a.1=k)).map (·.2)
noncomputable def rJ(kvs:List (κ×V))(k:κ)(v:V):List (κ×V):=if (kvs.any λa=>decide (a.1=k))=true then kvs.map (λa=>if a.1=k then (a.1,v) else a) else kvs++[(k,v)]
def uK{k:κ}(e:p.1=k):pH (p::r) k=some p.2:=by simp[pH,List.find?_cons,e]
def ux{k:κ}(e:¬p.1=k):pH (p::r) k=pH r k:=by simp[pH,List.find?_cons,e]
theorem yo k:∀kvs:List (κ×V),(kvs.any λa=>decide (a.1=k))=(pH kvs k).isSome
 |[]=>rfl
 |p::r=>by
  rw[cC];by_cases e:p.1=k
  .simp only[uK e,aD e,Bool.true_or,cu]
  .rw[ux e,aC e,Bool.false_or];exact yo k r
def rV kvs (k:κ) v:(rJ kvs k v).length<=kvs.length+1:=by
 unfold rJ;split
 .rw[ax];omega
 .rw[aU,aA,cF];omega
def sV.isSome_eq(r:sV o u):o.isSome=u.isSome:=by
 cases o with
 |none=>cases u with
  |none=>rfl
  |some _=>exact (show False from r).elim
 |some _=>cases u with
  |none=>exact (show False from r).elim
  |some _=>rfl
def KV.val(r:KV kvs vs)(k:κ):sV (pH kvs k) (valueAt vs k):=by
 unfold KV at r;induction r with
 |nil=>exact True.intro
 |@cons p q ps qs h t ih=>
  obtain⟨c,d⟩:=h;by_cases e:p.1=k
  .have a:q.1=k:=c.symm.trans e;have b:valueAt (q::qs) k=some q.2:=by simp[valueAt,List.find?_cons,a]
   rw[uK e,b];exact d
  .have a:¬q.1=k:=λz=>e (c.trans z);have b:valueAt (q::qs) k=valueAt qs k:=by simp[valueAt,List.find?_cons,a]
   rw[ux e,b];exact ih
end
def Hl(r:iD (kV k) u):(kR P w).is k u=true:=by
 cases k with
 |inl i=>obtain⟨t,e⟩:=(show ∃t,u=Value.int i t from r);subst e;exact yg P w i t
 |inr x=>obtain⟨t,e⟩:=(show ∃t,u=Value.str x t from r);subst e;exact yf P w x t
theorem wj:∀{ks} {us},gZ (ks.map kV) us->ItemsAre (kR P w) ks us
 |[],_,r=>by rw[b7]at r;cases r;exact .nil
 |k::ks,_,r=>by
  rw[b8]at r;cases r with
  |cons h t=>exact .cons (Hl h) (wj t)
abbrev KT(H:Hp):List (List mW×V)->List (List mW×Addr×Value)->Prop:=Paired λp q=>p.1=q.1/\H q.2.1=some (.tup (p.1.map kV))/\iD p.2 q.2.2
def KT.val(r:KT H kvs xs) k:sV (pH kvs k) ((atKey xs k).map (·.2)):=by
 induction r with
 |nil=>exact True.intro
 |@cons p q ps qs h t ih=>
  obtain⟨c,_,d⟩:=h;by_cases e:p.1=k
  .have a:q.1=k:=c.symm.trans e;have b:atKey (q::qs) k=some q.2:=by simp[atKey,List.find?_cons,a]
   rw[uK e,b];exact d
  .have a:¬q.1=k:=λz=>e (c.trans z);have b:atKey (q::qs) k=atKey qs k:=by simp[atKey,List.find?_cons,a]
   rw[ux e,b];exact ih
theorem KT.repl(r:KT H kvs xs) k (d:iD y u) :
  KT H (kvs.map λb=>if b.1=k then (b.1,y) else b) (xs.map (putAt k u)):=by
 induction r with
 |nil=>exact .nil
 |@cons p q ps qs h t ih=>
  rw[b8,b8];refine .cons ?_ ih;obtain⟨a,c,f⟩:=h;unfold putAt;by_cases e:p.1=k
  .rw[aR e,aR (a.symm.trans e)];exact⟨a,c,d⟩
  .rw[aS e,aS (λz=>e (a.trans z))];exact⟨a,c,f⟩
def KT.put(r:KT H kvs xs) k (c:H b=some (.tup (k.map kV))) (a:iD y u) :
  KT H (rJ kvs k y) (storedH xs k b u):=by
 have e:(kvs.any λd=>decide (d.1=k))=(atKey xs k).isSome:=by rw[yo,(r.val k).isSome_eq,cG]
 unfold rJ storedH;rw[e];by_cases q:(atKey xs k).isSome=true
 .rw[aR q,aR q];exact r.repl k a
 .rw[aS q,aS q];exact Paired.snoc r ⟨rfl,c,a⟩
def KT.keeps(r:KT H kvs xs)(c:∀b a,H b=some (.tup a)->H' b=some (.tup a)):KT H' kvs xs:=Paired.mapP r λ_ _ z=>⟨z.1,c _ _ z.2.1,z.2.2⟩
section
variable {P:Program}{w:World}{H:Hp}{h:Heap}{a:Addr}
def Km(ok:oS P w H h)(e:Rd H a u):jK P w H h a u:=e.ok ok
def Ez(ok:oS P w H h)(e:Rd H a (.dK kvs)):kvs.length<=sizeLine/\(a==sysModules)=false/\∃vs,KV kvs vs/\h.DictOf (kR P w) a vs:=show jK P w H h a (.dK kvs) from Km ok e
def xG(ok:oS P w H h)(e:H a=some (.tup (ks.map kV))):(tupleKind (kR P w)).is h ks a:=by obtain⟨_,gF,r,o,c,b,n,d,_⟩:=(show jK P w H h a (.tup (ks.map kV)) from ok a _ e);exact⟨o,gF.toArray,n,c,b,d,by simpa using wj r⟩
theorem A7(ok:oS P w H h)(e:Rd H a (.dT kvs)):kvs.length<=sizeLine/\(a==sysModules)=false/\
  ∃c,KT H kvs c/\h.DictOfH (tupleKind (kR P w)) a c:=by
 obtain⟨z,y,c,r,o,g,f,n,k,d,i,j⟩:=(show jK P w H h a (.dT kvs) from Km ok e);refine⟨z,y,c,r,o,g,f,n,k,d,i,λx b=>?_,j⟩;have all:∀{l:List (List mW×V)} {m:List (List mW×Addr×Value)},KT H l m->∀x∈m,(tupleKind (kR P w)).is h x.1 x.2.1:=by
  intro l m q;induction q with
  |nil=>intro x b;exact nomatch b
  |@cons p q ps qs hq t ih=>
   intro x b;rcases aG.mp b with e|b
   .subst e;exact xG ok (by rw[<-hq.1];exact hq.2.1)
   .exact ih x b
 exact all r x b
def Oz(ok:oS P w H h)(e:H a=some (.dT kvs)):kvs.length<=sizeLine/\(a==sysModules)=false/\
  ∃b,KT H kvs b/\h.DictOfH (tupleKind (kR P w)) a b:=A7 ok (.inl e)
end
def xu(H:Hp)(a:Addr)(y:V)(r:Option V):Prop:=(∃c k,Rd H a (.dK c)/\y=kV k/\r=pH c k)\/∃c k b,Rd H a (.dT c)/\y=.ref b/\H b=some (.tup (k.map kV))/\r=pH c k
def xu.t{H:Hp}{a b:Addr}{kvs:List (List mW×V)}{k:List mW}(e:H a=some (.dT kvs))(c:H b=some (.tup (k.map kV))):xu H a (.ref b) (pH kvs k):=.inr ⟨kvs,k,b,.inl e,rfl,c,rfl⟩
section
variable {X:Cx}{gq:List (Addr×Obj)}{σ:St}{H:Hp}{s:Sq}{a:Addr}{y v:V}{u r:Vq}{o:Option V}{A:Around}{E:Vq->Shared->Prop}
def gM.big(I:gM X gq σ H s):sysModules<s.heap.objs.size:=by have h:mainGlobals<s.heap.objs.size:=(I.mod.glob.keeps I.bk).lt;exact cH (by decide) h
def CU(F:A.units+1<cLine)(I:gM X gq σ H s)(g:xu H a y (some v))(q:iD y u)(h:∀f x,gM X gq σ H x->iD v f->Q f x) :
  wpAny (model X.prog X.w) A (getItem (.ref a) u) Q E s:=by
 rcases g with⟨n,k,e,j,l⟩|⟨n,k,b,e,j,C,l⟩
 .subst j;obtain⟨z,hd,D,d,m⟩:=Ez I.hok e;obtain⟨f,hw,c⟩:=sV.some_of (v:=v) (o:=valueAt D k) (by rw[l];exact d.val k);exact wpAny_getItem_of (Hl q) m.mapOf hw (h f _ (I.tok _) c)
 .subst j;cases (show u=Value.ref b from q);obtain⟨z,hd,B,d,m⟩:=A7 I.hok e;obtain⟨f,hw,c⟩:=sV.some_of (v:=v) (o:=(atKey B k).map (·.2)) (by rw[l];exact d.val k);obtain⟨p,J,i⟩:=cI.mp hw;refine wpAny_getItem_heap (tupleKind_room_in1 F) (xG I.hok C) m J ?_;rw[i];exact h f _ (I.tok _) c
def P4(p:A.units+1<cLine)(I:gM X gq σ H s)(g:xu H a y o)(j:iD y u)(h:∀m,gM X gq σ H m->Q (.bool o.isSome) m) :
  wpAny (model X.prog X.w) A (compareOp .In u (.ref a)) Q E s:=by
 rcases g with⟨i,k,e,d,l⟩|⟨i,k,b,e,d,n,l⟩
 .subst d;obtain⟨z,hd,B,c,f⟩:=Ez I.hok e;refine wpAny_in_of (Hl j) hd f.mapOf ?_;rw[<-(c.val k).isSome_eq,<-l];exact h _ (I.tok _)
 .subst d;cases (show u=Value.ref b from j);obtain⟨z,hd,x,c,f⟩:=A7 I.hok e;refine wpAny_in_heap (tupleKind_room_in1 p) (xG I.hok n) hd f ?_;have q:=(c.val k).isSome_eq;rw[cG]at q;rw[<-q,<-l];exact h _ (I.tok _)
def I0(I:gM X gq σ H s)(f:NC (H a))(hs:Heap.SameBut a s.heap h')(c:∃q,h'.get? a=some q)(new:jK X.prog X.w (jn H a ob) h' a ob) :
  gM X gq σ (jn H a ob) {s with heap:=h',toks:=t'}:=
 I.write (x:=a) (e:=a) f (.inl rfl) (λb q d z=>(hs.2 b d).trans z) c new
end
def La(i:Expr):Prop:=∀b a,subscripted i false b a=operate [b,a] (getItem b a)
theorem Ir{T id:String}
  (k:typeLookup (.type T) "__getitem__" = pure (some (.builtin id))) (hs:La slice)
  (h:wpAny (model prog w) A (eval value env) (λo d=>wpAny (model prog w) A (eval slice env) (λi a=>a.TypeIs o T/\wpAny (model prog w) A (getItem o i) Q E a) E d) E s) :
  wpAny (model prog w) A (eval (.Subscript value slice pos) env) Q E s:=by
 refine Subscript_ (wpAny_mono h (λo d f=>wpAny_mono f (λi a b=>?_) λ_ _ x=>x) λ_ _ x=>x);obtain⟨j,b⟩:=b;unfold subscriptTail;refine aq ?_;rw[getitemInPython_of_ne j.not_modules];refine aq (wpAny_specialOf j k ?_);have e:wpAny (model prog w) A (subscripted slice false o i) (λr c=>wpAny (model prog w) A (letTemporaryGo value o r >>= λ_=>pure r) Q E c) E a:=by rw[hs o i];exact wpAny_operating (wpAny_mono b (λr c g=>aq (wpAny_letTemporaryGo (ao g))) λ_ _ x=>x)
 first
  |exact ao (aq e)
  |exact aq (ao (aq e))
  |exact aq e
def zx(I:gM X gq σ H s)(g:xu H a y o):s.TypeIs (.ref a) "dict" :=by
 rcases g with⟨c,k,e,_,_⟩|⟨c,k,b,e,_,_,_⟩
 .obtain⟨_,_,h,_,d⟩:=Ez I.hok e;exact d.typeIs
 .obtain⟨_,_,f,_,d⟩:=A7 I.hok e;exact d.typeIs
def Ew(d ty:TE):TE:=λb H Q=>d b H λx e=>ty b e λy c=>∃a v,x=.ref a/\xu c a y (some v)/\Q v c
section
variable {X:Cx}{o i e value:Expr}{pos pos' tpos:Pos}{td ty tv:TE}
def Jr(j:X.A.units+1<cLine)(k:PE X o td)(l:PE X i ty)(hs:La i):PE X (.Subscript o i pos) (Ew td ty):=by intro d s c H Q I h;refine Ir PySem.F.slot_dict_getitem.lookup hs (jw (k d s c H _ I h) λu s1 ⟨x,H1,I1,rx,q1⟩=>jw (l d s1 c H1 _ I1 q1) λiv s2 ⟨y,H2,I2,ry,a,v,ex,g,q2⟩=>?_);subst ex;obtain rfl:u=Value.ref a:=rx;exact⟨zx I2 g,CU j I2 g ry λn m f b=>⟨v,H2,f,b,q2⟩⟩
end
def E5(h:Heap)(a:sysModules<h.objs.size):jK P w H (h.push {cls:=.type "dict",data:=.dict #[]}) h.objs.size (.dT []):=⟨cA _,beq_eq_false_iff_ne.mpr (Ne.symm (aN a)),[],.nil,_,#[],0,au _ rfl,⟨rfl,rfl,rfl⟩,rfl,rfl,cJ⟩
end L2
namespace L2
open PySem PySem.Spec PyProof.Rows Builtin
def sA:fillsNumberSlot (.type "tuple") "mul" = pure false:=PySem.fillsNumberSlot_seq F.slot_tuple_mul.lookup (by decide +kernel) F.slot_tuple_rmul.lookup (by decide +kernel)
def xH:seqRepeat? (.type "tuple")=pure (some (.builtin "tuple.__mul__")):=by unfold seqRepeat?;rw[PySem.seqSlot_of (name:= "__mul__") F.slot_tuple_mul.lookup (by decide +kernel),PySem.seqSlot_of (name:= "__rmul__") F.slot_tuple_rmul.lookup (by decide +kernel)];rfl
def sW a t l dct gF n sl :
  Meets (Builtin.«int.__rmul__» ⟨[.int a t,.ref l],[]⟩) (λ_ R s=>s.heap.get? l=some ⟨.type "tuple",dct,.seq gF n,sl⟩/\R (.ok (.ret Value.notImplemented)) s):=
 .of_wp λb w A R s h=>by obtain⟨i,g,d,c,f⟩:=s;obtain⟨e,h⟩:=h;wp_walk;exact⟨_,rfl,h⟩
def uP a t l dct gF n sl (F:-(2 ^ 63)<=a) (E:a<2 ^ 63) (m:gF.size*a.toNat<=sizeLine) :
  Meets (Builtin.«tuple.__mul__» ⟨[.ref l,.int a t],[]⟩) (λ_ R s=>s.heap.get? l=some ⟨.type "tuple",dct,.seq gF n,sl⟩/\((gF.isEmpty=true\/a=1)->R (.ok (.ret (.ref l))) s)/\
   (¬(gF.isEmpty=true\/a=1)->a<=0->R (.ok (.ret (.ref s.heap.objs.size))) {s with heap:=s.heap.push {cls:=.type "tuple",data:=.seq #[]}})/\
   (¬(gF.isEmpty=true\/a=1)->0<a->R (.ok (.ret (.ref s.heap.objs.size))) {s with heap:=s.heap.push {cls:=.type "tuple",data:=.seq ((List.replicate a.toNat gF).foldl (·++·) #[])}})):=
 .of_wp λk w A R s h=>by
  obtain⟨H,g,d,D,C⟩:=s;obtain⟨y,q,v,x⟩:=h;have u:¬(decide (a < -2 ^ 63)||decide (a >= 2 ^ 63))=true:=by simp;omega
  wp_walk;rw[aS u];wp_walk;by_cases b:gF.isEmpty=true\/a=1
  .rw[aR (by rcases b with c|c<;>simp[c])];wp_walk;exact⟨_,rfl,q b⟩
  .rw[aS (by intro z;exact b (by simpa using z))];by_cases f:a<=0
   .rw[aR (by simp[f])];wp_walk;exact⟨_,rfl,v b f⟩
   .have p:¬gF.isEmpty=true:=λz=>b (.inl z);have B:gF.size*a<=sizeLine:=by
     have:((gF.size*a.toNat:Nat):Int)<=sizeLine:=by exact_mod_cast m
     rw[Int.natCast_mul,cK (by omega)]at this;exact this
    have I:(sizeLine:Int)=2 ^ 24:=by decide
    rw[aS (by simp[f,p]),aS (by omega)];rw[aS (by simp[Tuple.tupleTooMany];omega)];have r:(List.foldl (λi j=>i++j) #[] (List.replicate a.toNat gF)).size<=sizeLine:=by
     have e:=om gF.toList a.toNat [];simp only[b5]at e;have o:List.foldl (λi j=>i++j) #[] (List.replicate a.toNat gF)=(List.replicate a.toNat gF.toList).flatten.toArray:=by simpa using e
     rw[o,bF,xh,b6];simpa using m
    wp_walk;exact⟨_,rfl,x b (by omega)⟩
section
variable {X:Cx}
def Fj:R2:=λx y H Q=>∃l k a,x=.ref l/\y=.int k/\H l=some (.tup a)/\-(2 ^ 63)<=k/\k<2 ^ 63/\a.length*k.toNat<=sizeLine/\((a=[]\/k=1)->Q (.ref l) H)/\
 (¬(a=[]\/k=1)->∀p,H p=none->Q (.ref p) (jn H p (.tup (List.replicate k.toNat a).flatten)))
def JQ:nu X (binaryOp .Mult) Fj:=by
 intro Z s σ H x y v u Q I J C h;obtain⟨l,k,g,rfl,rfl,D,Y,U,p,A,j⟩:=h;cases J;obtain⟨t,rfl⟩:=C;obtain⟨gF,r,⟨⟨c,d,dt,m⟩,e,E,n,hd⟩,_⟩:=I.tuple (lR.of D);subst E;subst hd;have B:=r.length;have R:gF.toArray.size*k.toNat<=sizeLine:=by rw[bF,<-B];exact p
 have i:gF.toArray.isEmpty=true↔g=[]:=by
  cases r with
  |nil=>simp
  |cons _ _=>simp
 have a:(gF.toArray.isEmpty=true\/k=1)↔(g=[]\/k=1):=by rw[i]
 have f:List.foldl (λK P=>K++P) #[] (List.replicate k.toNat gF.toArray)=(List.replicate k.toNat gF).flatten.toArray:=by have:=om gF k.toNat [];rw[b5]at this;exact this
 have fr:=I.fresh;refine wpAny_binaryOp_repeat_ref (by decide) ⟨_,e,rfl⟩ (λN=>typeIs_int N k t) sA F.fills_int_mul F.slot_int_rmul xH F.slot_int_index.lookup
  (call_meets F.slot_int_rmul (typeIs_int s k t) F.entry_int_rmul (F.args_int_rmul_2 _ _) (sW k t l d gF.toArray n m)
   ⟨e,rfl,⟨_,e,rfl⟩,call_meets F.slot_tuple_mul ⟨_,e,rfl⟩ F.entry_tuple_mul (F.args_tuple_mul_2 _ _) (uP k t l d gF.toArray n m Y U R) ⟨e,λz=>?_,λz w=>?_,λz w=>?_⟩⟩)
 .exact⟨.ref l,H,I,rfl,A (a.mp z)⟩
 .have S:k.toNat=0:=by omega
  have q:=j (λy=>z (a.mpr y)) s.heap.objs.size fr;rw[S]at q;exact⟨.ref _,_,I.laid (o:=.tup []) (λb L q=>af _ q) (aL _) ⟨cA _,[],.nil,sj.new _ _⟩,rfl,q⟩
 .rw[f];refine⟨.ref _,_,I.laid (o:=.tup (List.replicate k.toNat g).flatten) (λb L q=>af _ q) (aL _) ⟨?_,_,r.rep k.toNat,sj.new _ _⟩,rfl,j (λy=>z (a.mpr y)) _ fr⟩;rw[xh,b6];exact p
def yi:V->Option Bool
 |.bl b=>some b
 |.int i=>some (i != 0)
 |_=>none
def ly:List V->Option (List Bool)
 |[]=>some []
 |v::vs=>(yi v).bind λb=>(ly vs).bind λr=>some (b::r)
theorem vI:∀{vs} {bs} {us} {i} {u},ly vs=some bs->gZ vs us->us[i]? = some u->∃v,iD v u/\yi v=some (bs.getD i false)
 |[],_,_,_,_,_,.nil,e=>by simp at e
 |v::vs,bs,_,i,u,h,.cons r t,e=>by
  cases hv:yi v with
  |none=>simp[ly,hv]at h
  |some b=>
   cases hr:ly vs with
   |none=>simp[ly,hv,hr]at h
   |some r'=>
    simp[ly,hv,hr]at h;subst h;cases i with
    |zero=>simp at e;subst e;exact⟨v,r,by simpa using hv⟩
    |succ i=>obtain⟨d,a,c⟩:=vI hr t (by simpa using e);exact⟨d,a,by simpa using c⟩
theorem wH:∀{vs} {bs},ly vs=some bs->vs.length=bs.length
 |[],_,h=>by cases h;rfl
 |v::vs,bs,h=>by
  cases hv:yi v with
  |none=>simp[ly,hv]at h
  |some b=>
   cases hr:ly vs with
   |none=>simp[ly,hv,hr]at h
   |some r'=>simp[ly,hv,hr]at h;subst h;simp[wH hr]
def tJ(h:ly vs=some bs)(r:gZ vs us):TruthOf prog w A (λi v=>us.toArray[i]? = some v) (λi=>bs.getD i false):=λi u s Q E e a=>by
 obtain⟨v,d,c⟩:=vI h r (by simpa using e);dsimp only at a;cases v with
 |bl b=>
  cases d;have:b=bs.getD i false:=by simpa[yi] using c
  rw[<-this]at a;exact wpAny_truthy_bool a
 |int n=>
  obtain⟨t,rfl⟩:=d;have:(n != 0)=bs.getD i false:=by simpa[yi] using c
  rw[<-this]at a;exact PyProof.Rows.truthy_int a
 |_=>simp[yi]at c
def Cw(l:X.calm=true):kD X (.builtin "any") (λm H Q=>∃p vs bs,m=[.ref p]/\(kK X.K H p vs\/lR X.K H p vs)/\ly vs=some bs/\Q (.bl (bs.any id)) H):=by
 intro C s E H m D Q I r h;obtain⟨p,vs,bs,rfl,g,c,q⟩:=h;obtain⟨u,rfl,w⟩:=oU r;cases w;have x:=wH c;rcases g with g|g
 .obtain⟨gF,f,d,B⟩:=I.list g;have n:=f.length;have a:p<s.heap.objs.size:=by obtain⟨_,e,_⟩:=d.isList;exact aM e
  refine call_any_walk (wpAny_pyIter_list d.isList ⟨s.heap.objs.size,_,_,_,_,_,λi=>bs.getD i false,rfl,Walks.list (A:=X.A.in1) (I.ok.hd l) _ p (aN a) _,⟨⟨_,au _ rfl,rfl,rfl⟩,d.isList.push _⟩,tJ c f,λy v k=>?_⟩);refine⟨.bl _,H,I.kept (λb o e=>k b o (λj=>?_) (af _ e)),rfl,?_⟩
  .have lt:=aM e;have z:b=s.heap.objs.size:=by simpa using j
   rw[z]at lt;exact ba _ lt
  .rw[<-vQ]at q;have:gF.toArray.size=bs.length:=by rw[bF];omega
   rw[this];exact q
 .obtain⟨gF,f,d,B⟩:=I.tuple g;have n:=f.length;have a:p<s.heap.objs.size:=by obtain⟨_,e,_⟩:=d;exact aM e
  have pt:=d;refine call_any_walk (wpAny_pyIter_tuple pt ⟨s.heap.objs.size,_,_,_,_,_,λi=>bs.getD i false,rfl,Walks.tuple (A:=X.A.in1) (I.ok.hd l) _ p (aN a) _,⟨⟨_,au _ rfl,rfl,rfl⟩,pt.push _⟩,tJ c f,λy v k=>?_⟩);refine⟨.bl _,H,I.kept (λb o e=>k b o (λj=>?_) (af _ e)),rfl,?_⟩
  .have lt:=aM e;have z:b=s.heap.objs.size:=by simpa using j
   rw[z]at lt;exact ba _ lt
  .rw[<-vQ]at q;have:gF.toArray.size=bs.length:=by rw[bF];omega
   rw[this];exact q
end
end L2
namespace L2
open PySem PySem.Spec PyProof.Rows
section
variable {prog:Program}{w:World}{A:Around}{E:Vq->Shared->Prop}{s:Sq}
def Dd{i:Nat}{Q:Vq->Shared->Prop}(r:IsEnum s.heap e it i old)(hi:k9 b s.heap it l i)(U:jc b s.heap l xs)(hne:e≠it)
  (y:∀x h',xs[i]? = some x->IsEnumOut h' e it ((i:Int)+1) x s.heap.objs.size->k9 b h' it l (i+1)->h'.get? s.heap.objs.size=some {cls:=.type "tuple",data:=.seq #[.int i s.toks,x]}->h'.objs.size=s.heap.objs.size+1->
   (∀c o,c≠e->c≠it->s.heap.get? c=some o->h'.get? c=some o)->Q (.ref s.heap.objs.size) {s with heap:=h',toks:=s.toks+1})
  (Y:xs[i]? = none->A.handled=none/\∀h' x,Heap.ExtBut it s.heap h'->(∃o,h'.get? x=some o/\o.cls=.type "StopIteration")->E (.ref x) {s with heap:=h'}) :
  wpAny (model prog w) A (Builtin.«enumerate.__next__» ⟨[.ref e],[]⟩) (λB s'=>∃v,B=.done (.ret v)/\Q v s') E s:=by
 obtain⟨P,g,d,F,os⟩:=s;show wpAny _ _ (field (.ref e) 2 >>= λ_=>_) _ _ _;refine aq (wpAny_field r rfl rfl (aq (sY hi U (λx g1 R t1 k1=>?_) Y)));have h:=k1;have z1:=(h.2 e hne).trans r;refine aq (wpAny_field z1 rfl rfl ?_);refine aq (wpAny_field z1 rfl rfl ?_);refine aq (wpAny_mkInt (aq (wpAny_setField_rec z1 (by simp) λg2 X D=>?_)));have z2:=X;refine aq (wpAny_setField_rec z2 (by simp) λj y3 n=>?_);have z3:=y3;refine aq (wpAny_newTuple ?_);have sz:j.objs.size=P.objs.size:=by have a:=n.1;have c:=D.1;have u:=h.1;dsimp only at a c u;omega
 have z:IsEnum (j.push {cls:=.type "tuple",data:=.seq #[.int i F,x]}) e it (i+1) old:=af _ z3;have el:=aM r;have C:∀c o,c≠e->c≠it->P.get? c=some o->j.get? c=some o:=λc o f p q=>n.extBut c o f (D.extBut c o f (h.extBut c o p q));unfold Builtin.SmallTypes.ownedTupleIsFree;refine aq (aq (wpAny_field z rfl rfl (ao ?_)));simp only[if_true];refine aq (wpAny_rule (aq (wpAny_field z rfl rfl (aq (wpAny_setField_rec z (by simp) λg5 y5 N=>?_)))));have S:=y5;unfold Builtin.SmallTypes.ownedTupleHandOut;refine aq (aq (wpAny_setField_rec S (by simp) λg6 y6 J=>?_));have Z:=y6;refine wpAny_setField_rec Z (by simp) λm y7 K=>?_;have I:=y7;have up:∀c o,c≠e->(j.push {cls:=.type "tuple",data:=.seq #[.int i F,x]}).get? c=some o->m.get? c=some o:=λc o f q=>K.extBut c o f (J.extBut c o f (N.extBut c o f q));have k:∀c o,c≠e->j.get? c=some o->m.get? c=some o:=λc o f q=>up c o f (af _ q);have H:=up _ _ (by rw[sz];exact bB el) (au _ rfl);have L:m.objs.size=j.objs.size+1:=by have a:=K.1;have c:=J.1;have u:=N.1;dsimp only at a c u;rw[Heap.size_push]at u;omega
 refine aq (wpAny_letGo (ao ⟨_,rfl,?_⟩));rw[sz]at I H L ⊢;exact y x m R I (t1.to λo q=>k it o (Ne.symm hne) (n.extBut it o (Ne.symm hne) (D.extBut it o (Ne.symm hne) q))) H L λc o f p q=>k c o f (C c o f p q)
def vA{i:Nat}(f:IsEnum s.heap e it i old)(k:k9 b s.heap it l i)(g:jc b s.heap l xs)(hne:e≠it)
  (a:∀x h',xs[i]? = some x->IsEnumOut h' e it ((i:Int)+1) x s.heap.objs.size->k9 b h' it l (i+1)->h'.get? s.heap.objs.size=some {cls:=.type "tuple",data:=.seq #[.int i s.toks,x]}->h'.objs.size=s.heap.objs.size+1->
   (∀c o,c≠e->c≠it->s.heap.get? c=some o->h'.get? c=some o)->Q (some (.ref s.heap.objs.size)) {s with heap:=h',toks:=s.toks+1})
  (d:xs[i]? = none->A.handled=none/\∀h',Heap.ExtBut it s.heap h'->Q none {s with heap:=h'}):wpAny (model prog w) A (pyNext (.ref e)) Q E s:=by
 have ty:s.TypeIs (.ref e) "enumerate" :=⟨_,f,rfl⟩;unfold pyNext;refine aq (wpAny_attempt (wpAny_callSpecial?_slot ty F.slot_enumerate_next (wpAny_call_entry F.slot_enumerate_next ty F.entry_enumerate_next
  (Dd f k g hne (λx h' p n j r m h=>ao (a x h' p n j r m h)) λq=>⟨(d q).1,λh' x hk ⟨o,ho,hc⟩=>?_⟩) (F.args_enumerate_next_1 _))))
 exact aq (wpAny_isInstance ⟨o,ho,hc⟩ isSubtype_stop (ao ((d q).2 h' hk)))
noncomputable abbrev eo(b:Bool)(l:Addr):Obj:={cls:=.type (tQ b),data:=.fields #[.ref l,.int 0 0]}
abbrev en(p:Addr):Obj:={cls:=.type "enumerate",data:=.fields #[.none,.bool false,.ref p,rawInt 0,.none,.none]}
def Af b l xs:Meets (Builtin.«enumerate.__new__» ⟨[.type "enumerate",.ref l],[]⟩) (λ_ R s=>jc b s.heap l xs/\
  R (.ok (.ret (.ref (s.heap.push (eo b l)).objs.size))) {s with heap:=(s.heap.push (eo b l)).push (en s.heap.objs.size)}):=by
 refine .of_wp λprog w A R s h=>?_;obtain⟨m,g,d,j,i⟩:=s;obtain⟨f,hR⟩:=h;have e:=sub_enumerate;have a:=f;obtain⟨o,n,k,hd⟩:=a.look;wp_walk using mN a;refine wpAny_stack_any λst=>ao ?_;split
 .rename_i c _ _ _ _ _;cases (c==Value.type "enumerate")
  .wp_walk using mN a;exact⟨_,rfl,hR⟩
  .wp_walk using mN a;exact⟨_,rfl,hR⟩
 .wp_walk using mN a;exact⟨_,rfl,hR⟩
def CV(f:jc b s.heap l xs)
  (h:∀h',IsEnum h' (s.heap.objs.size+1) s.heap.objs.size 0 .none->k9 b h' s.heap.objs.size l 0->h'.objs.size=s.heap.objs.size+2->(∀c o,s.heap.get? c=some o->h'.get? c=some o)->Q (.ref (s.heap.objs.size+1)) {s with heap:=h'}) :
  wpAny (model prog w) A (call (.type "enumerate") [.ref l]) Q E s:=by
 refine callType_new F.called_enumerate (by decide) (F.typeCall_enumerate_1 _) (F.newCall_enumerate_1 _) (λd=>F.args_object_init_2 d _) F.entry_enumerate_new (Af b l xs) ⟨f,?_⟩;have e:(s.heap.push (eo b l)).objs.size=s.heap.objs.size+1:=Heap.size_push ..;have a:=au (s.heap.push (eo b l)) (o:=en s.heap.objs.size) rfl;rw[e]at a;rw[e];exact⟨⟨_,a,rfl⟩,h _ a (.of ⟨_,af _ (au _ rfl),rfl,rfl⟩) (by rw[Heap.size_push,e]) λc o q=>af _ (af _ q)⟩
end
noncomputable def P8(K:W.Frag)(b:Bool)(l:Addr):It:=
  ⟨λi H=>∃a x,uO K H b l a/\a[i]? = some x,
   λi H v c=>∃p x,v=.ref p/\H p=none/\c=jn H p (.tup [.int i,x])/\∀a,uO K H b l a->a[i]? = some x,
   λi H=>∃a,uO K H b l a/\a.length<=i⟩
def C9{K:W.Frag}{x1}(hne:e≠it) :
  AS P w K (.Tuple elts x1 pos) (P8 K b l) [e,it] e (λi h=>(∃a,IsEnum h e it i a)/\k9 b h it l i) where
 mem:=by simp
 obj:=λi h st c C=>by
  obtain⟨⟨a,g⟩,j⟩:=st;have mem:c=e\/c=it:=by simpa using C
  rcases mem with rfl|rfl
  .exact⟨_,g,λv q=>by cases q⟩
  .obtain⟨o,q,_,d⟩:=j.look;exact⟨o,q,λv q'=>by rw[d]at q';cases q'⟩
 keep:=λi h S st k=>by obtain⟨⟨a,g⟩,j⟩:=st;exact⟨⟨a,k e (by simp) _ g⟩,j.to λo q=>k it (by simp) o q⟩
 item:=by
  intro X U hw L C i gq s σ H E I B st Q;subst U hw L;obtain⟨⟨a,g⟩,j⟩:=st;obtain⟨xs,x,F,e1⟩:=Q;obtain⟨A,N,J,z1⟩:=I.seqB F;obtain⟨u,gu,ru⟩:=N.get e1;have p:=I.fpOk (aL _) (I.hok.fresh (aL _));refine vA g j J hne (λr S n a1 a2 Z a4 D=>?_) λq=>?_
  .have eu:r=u:=by
    have:A[i]? = some r:=by simpa using n
    rw[gu]at this;cases this;rfl
   subst eu;refine⟨_,rfl,wpAny_letOwnedTupleGo_enum a1 λR y sb=>?_⟩;have m:=sb;have zT:=bB (aM g);have I1:=I.turnedL (t':=s.toks+1) (λb o f q=>m.extBut _ _ (λz=>f (by simp[z])) (D b o (λz=>f (by simp[z])) (λz=>f (by simp[z])) q)) (λb f=>B b f);have gT:=m.extBut _ _ zT Z;have I2:gM X gq σ (jn H s.heap.objs.size (.tup [.int i,x])) {s with heap:=R,toks:=s.toks+1}:=I1.track p.1 p.2.2.2.1 p.2.1 p.2.2.2.2.1 p.2.2.2.2.2
    ⟨by show 2<=sizeLine;decide,[.int i s.toks,r],.cons ⟨_,rfl⟩ (.cons ru .nil),⟨_,gT,rfl,_,rfl,rfl⟩⟩
   have lt:∀{b o},s.heap.get? b=some o->jn H s.heap.objs.size (.tup [.int i,x]) b=H b:=λ{b o} q=>gL (aN (aM q));refine⟨.ref s.heap.objs.size,_,I2,rfl,⟨_,x,rfl,p.1,rfl,λxs' h=>by rw[I.seqB_inj h F];exact e1⟩,?_,λb f=>?_⟩
   .exact⟨⟨_,y⟩,a2.to λo q=>m.extBut _ o (Ne.symm hne) q⟩
   .have mem:b=e\/b=it:=by simpa using f
    have Y:=(B b f).1;obtain⟨o1,g1,_⟩:=j.look;rcases mem with rfl|rfl
    .rw[lt g];exact Y
    .rw[lt g1];exact Y
  .exfalso;have m1:A.toArray[i]? = some u:=by simpa using gu
   rw[m1]at q;cases q
 done:=by
  intro X U hw L C i gq s σ H E I B st Q;subst U hw L;obtain⟨⟨a,g⟩,j⟩:=st;obtain⟨xs,F,hl⟩:=Q;obtain⟨A,N,J,z1⟩:=I.seqB F;have n1:=N.length;refine vA g j J hne (λr S n a1 a2 Z a4 D=>?_) λq=>⟨I.ok.hd C,λS D=>⟨rfl,I.turnedL (ch:=[it]) (λb o f q=>D b o (λz=>f (by simp[z])) q) λb f=>B b (by
   have:b=it:=by simpa using f
   simp[this])⟩⟩
  exfalso;have m1:i<A.length:=by
   have:A[i]? = some r:=by simpa using n
   exact (ae.mp this).1
  omega
 self:=λ_ _ _ _ _ st h=>by obtain⟨⟨a,g⟩,_⟩:=st;exact wpAny_pyIter_enum g h
section
variable {X:Cx}
def F7(K:W.Frag)(b:Bool)(e:TA):TI:=λc H R=>e c H λf a=>∃l,f=[.ref l]/\(∃d,uO K a b l d)/\R (P8 K b l) a
def FU{x1}(r:Gl X "enumerate")(f:X.mg "enumerate" = none)(g:PA X [a] ta)(hs:starEach [a] X.env=[(false,eval a X.env)]:=by rfl) :
  PI X (.Tuple elts x1 tpos) (.Call (.Name "enumerate" p) [a] [] pos) (F7 X.K b ta):=by
 intro n s v H R I h;refine Call_ (mZ I r f boot_enumerate (PyProof.Rows.callWith_type1 (jw (g pos n s v H _ I h) λo s1 ⟨vs,H1,I1,r1,c⟩=>?_) hs rfl));obtain⟨l,rfl,⟨z,c⟩,q⟩:=c;obtain⟨u,rfl,m⟩:=oU r1;cases m;obtain⟨o,x,i,_⟩:=I1.seqB c;refine CV i λA d k y w=>?_;refine wpAny_pyIter_enum d ?_;refine⟨_,_,_,_,H1,rfl,I1.kept w,C9 (Nat.succ_ne_self _),⟨⟨_,d⟩,k⟩,λb j=>?_,q⟩;have mem:b=s1.heap.objs.size+1\/b=s1.heap.objs.size:=by simpa using j
 have e:s1.heap.objs.size<=b:=by rcases mem with rfl|rfl<;>omega
 exact I1.fpOk e (I1.hok.fresh e)
end
end L2
namespace HT
open PySem PySem.Spec PyProof.Rows
section
variable {prog:Program}{w:World}{A:Around}{E:Vq->Shared->Prop}{s:Sq}
def getItem_tuple_all{a d:Option Int}(c:IsTup s.heap t items)(hs:s.heap.IsSliceOf sl vl vu .none)(l:IsPart vl a)(i:IsPart vu d)
  (hw:sIx items.size 0 a=0/\sIx items.size items.size d=items.size) (h:Q (.ref t) s):wpAny (model prog w) A (getItem (.ref t) (.ref sl)) Q E s:=by
 obtain⟨k,e,f,j⟩:=id hs;have g:s.TypeIs (.ref sl) "slice" :=⟨k,e,f⟩;unfold getItem;try with_reducible refine wpAny_holding ?_;first|refine aq (ao ?_)|skip
 refine aq (wpAny_sequenceKey c.typeIs (by decide) ?_);refine aq (wpAny_callSpecial?_slot c.typeIs PyProof.Rows.slot_tuple_getitem
  (wpAny_call_entry PyProof.Rows.slot_tuple_getitem c.typeIs entry_tuple_getitem ?_ (args_tuple_getitem _ _)))
 show wpAny _ _ (Builtin.Tuple.tupleItemsOf (.ref t) >>= _) _ _ s;refine aq (tupleItemsOf_ c ?_);refine aq (wpAny_typeOf g ?_);rw[aR (by decide)];refine aq (mS hs l i ?_);have b:(((sIx items.size 0 a):Int)==0&&(1:Int)==1&&(sIx items.size items.size d-sIx items.size 0 a)==items.size)=true:=by rw[hw.1,hw.2];simp
 show wpAny _ _ (if (((sIx items.size 0 a):Int)==0&&1==1&&(sIx items.size items.size d-sIx items.size 0 a)==items.size)=true then _ else _) _ _ s;rw[aR b];refine aq (aq (wpAny_typeOf c.typeIs (ao ?_)));rw[aR (by decide)];refine aq (wpAny_rule ?_);exact ao ⟨_,rfl,ao h⟩
end
end HT
namespace L2
open PySem PySem.Spec PyProof.Rows
section
variable {X:Cx}
def NO(K:W.Frag):V->Option Int->Option Int->Hp->VK->Prop:=λx c d H Q=>∃a b,x=.ref a/\lR K H a b/\(HT.sIx b.length 0 c=0/\HT.sIx b.length b.length d=b.length)/\Q (.ref a) H
def Jx:Kp X (NO X.K):=by
 intro m s o H x v w k n l p Q I f j g e h;obtain⟨a,d,rfl,c,hw,q⟩:=h;cases f;obtain⟨gF,r,b,u⟩:=I.tuple c;have i:gF.toArray.size=d.length:=by rw[bF];exact r.length.symm
 refine⟨"tuple",_,PyProof.Rows.slot_tuple_getitem.lookup,b.typeIs,?_⟩;exact HT.getItem_tuple_all b j g e (by rw[i];exact hw) ⟨.ref a,H,I,rfl,q⟩
end
end L2
namespace L2
open PySem PySem.Spec PyProof.Rows
theorem mM{F:α->β->Prop}:∀{l:List α} {m:List β} {i:Nat} {a:α},Paired F l m->l[i]? = some a->∃b,m[i]? = some b/\F a b
 |_::_,_::_,0,_,.cons h _,e=>by simp at e;subst e;exact⟨_,rfl,h⟩
 |_::_,_::_,i+1,_,.cons _ r,e=>by simpa using mM r (by simpa using e)
end L2
namespace HT
open PySem PySem.Spec PyProof.Rows
section
variable {prog:Program}{w:World}{A:Around}{E:Vq->Shared->Prop}{s:Sq}
def pick_rev(a:Array Vq):((List.range a.size).filterMap λ(m:Nat)=>a[(((a.size:Int)-1)+(m:Int)*(-1)).toNat]?).toArray=a.toList.reverse.toArray:=by
 congr 1;have e:∀n,n<=a.size->(List.range n).filterMap (λ(m:Nat)=>a[((a.size-1)+(m:Int)*(-1)).toNat]?)=(a.toList.reverse).take n:=by
  intro n;induction n with
  |zero=>intro _;simp
  |succ n ih=>
   intro h;have b:n<a.toList.reverse.length:=by simp;omega
   rw[cL,cN,ih (by omega),cO,ai b];congr 1;have k:((a.size-1)+(n:Int)*(-1)).toNat=a.size-1-n:=by omega
   simp only[bh,List.filterMap_nil,k];rw[Array.getElem?_eq_getElem (by omega)];simp
 rw[e a.size (aL _),cD (by simp)]
def rz{n:Nat}(hs:s.heap.IsSliceOf sl .none .none (.int (-1) tk))
  (h:Q ((n:Int)-1,-1,n) s):wpAny (model prog w) A (Builtin.Slice.sliceApplied (.ref sl) (pure (n:Int))) Q E s:=by
 obtain⟨f,a,c,b⟩:=id hs;unfold Builtin.Slice.sliceApplied Builtin.Slice.sliceFields;refine aq (aq (wpAny_field a b rfl (aq (wpAny_field a b rfl (aq (wpAny_field a b rfl (ao ?_)))))));refine aq (pO (.int (-1) tk) ?_);rw[aS (by decide)];refine aq (slicePart_none (aq (slicePart_none (aq (ao ?_)))));have d:Builtin.Slice.slicePlaces (n-1) (-1) (-1)=n:=by
  unfold Builtin.Slice.slicePlaces;by_cases e:n=0
  .subst e;decide
  .rw[aS (by decide),aR (by omega)];have:(n-1 - -1-1) / (- -1)=(n:Int)-1:=by rw[show (- -1)=1 by decide,bO];omega
   rw[this];omega
 show wpAny _ _ (pure ((n:Int)-1,(-1),Builtin.Slice.slicePlaces (n-1) (-1) (-1))) _ _ s;rw[d];exact ao h
theorem getItem_tuple_rev(b:IsTup s.heap t items)(hs:s.heap.IsSliceOf sl .none .none (.int (-1) tk))
  (h:Q (.ref s.heap.objs.size) {s with heap:=s.heap.push {cls:=.type "tuple",data:=.seq items.toList.reverse.toArray}})
  (c:items.size<=sizeLine):wpAny (model prog w) A (getItem (.ref t) (.ref sl)) Q E s:=by
 have a:sizeOk (.seq items.toList.reverse.toArray):=by show items.toList.reverse.toArray.size<=sizeLine;rw[bF,cP,bA];exact c
 obtain⟨j,d,e,i⟩:=id hs;have f:s.TypeIs (.ref sl) "slice" :=⟨j,d,e⟩;unfold getItem;try with_reducible refine wpAny_holding ?_;first|refine aq (ao ?_)|skip
 refine aq (wpAny_sequenceKey b.typeIs (by decide) ?_);refine aq (wpAny_callSpecial?_slot b.typeIs PyProof.Rows.slot_tuple_getitem
  (wpAny_call_entry PyProof.Rows.slot_tuple_getitem b.typeIs entry_tuple_getitem ?_ (args_tuple_getitem _ _)))
 show wpAny _ _ (Builtin.Tuple.tupleItemsOf (.ref t) >>= _) _ _ s;refine aq (tupleItemsOf_ b ?_);refine aq (wpAny_typeOf f ?_);rw[aR (by decide)];refine aq (rz hs ?_);have g:¬((((items.size:Int)-1)==0&&(-1)==1&&items.size==items.size)=true):=by intro q;rw[bS,bS]at q;exact absurd q.1.2 (by decide)
 show wpAny _ _ (if (((items.size:Int)-1)==0&&(-1)==1&&items.size==items.size)=true then _ else _) _ _ s;rw[aS g,pick_rev];first
  |exact aq (wpAny_newObj_type (ao ⟨_,rfl,ao h⟩) a)
  |exact aq (wpAny_newObj_type (aq (ao (ao ⟨_,rfl,ao h⟩))) a)
  |exact aq (aq (wpAny_newObj_type (ao (ao ⟨_,rfl,ao h⟩)) a))
  |exact aq (aq (wpAny_newObj_type (ao ⟨_,rfl,ao h⟩) a))
end
end HT
namespace L2
open PySem PySem.Spec PyProof.Rows
def vh(gF:List Vq):slicePick gF.toArray none none (some (-1))=gF.reverse.toArray:=by
 unfold slicePick;have h:sliceBounds none none (some (-1)) gF.toArray.size=((gF.toArray.size:Int)-1,-1,-1):=by simp[sliceBounds]
 rw[h];have:sliceRange (gF.toArray.size-1) (-1) (-1)=(List.range gF.toArray.size).map λ(m:Nat)=>((gF.toArray.size-1)+(m:Int)*(-1)).toNat:=by
  generalize gF.toArray.size=n;unfold sliceRange;have a:(if (-1)>0 then (if (n:Int)-1 < -1 then (-1-((n:Int)-1) + -1-1) / -1 else 0) else (if (n:Int)-1 > -1 then (n-1 - -1 - -1-1) / (- -1) else 0))=n:=by
   rw[aS (by decide)];by_cases b:n=0
   .subst b;decide
   .rw[aR (by omega),show (- -1)=1 by decide,bO];omega
  simp only[a];rw[bN];refine cQ λk _=>?_;congr 1;omega
 rw[this,bQ];exact HT.pick_rev gF.toArray
section
variable {X:Cx}{e st:Expr}{te ts:TE}{p2 pos:Pos}
def Qt(K:W.Frag):V->Hp->VK->Prop:=λx H Q=>(∃a b,x=.ref a/\kK K H a b/\∀p,H p=none->Q (.ref p) (jn H p (.lst b.reverse)))\/∃a b,x=.ref a/\lR K H a b/\∀p,H p=none->Q (.ref p) (jn H p (.tup b.reverse))
def QE(K:W.Frag)(te ts:TE):TE:=λa H Q=>te a H λx b=>EU ts a b λo c=>o=some (-1)/\Qt K x c Q
def KQ(z:PE X e te)(hs:PE X st ts):PE X (.Subscript e (.Slice none none (some st) p2) pos) (QE X.K te ts):=by
 intro g s j H Q I h;refine Subscript_ (jw (z g s j H _ I h) λv s1 ⟨x,H1,I1,r1,q1⟩=>?_);refine wpAny_Slice ?_;rw[evalPart_none];refine ao ?_;refine ao ?_;refine jw (Ba hs g s1 j H1 (λo n=>o=some (-1)/\Qt X.K x n Q) I1 q1) λvs s2 ⟨o,n,I2,ps,ho,q2⟩=>?_;subst ho;cases ps with
 |int i tk=>
 have d:gM X g j n {s2 with heap:=s2.heap.push {cls:=.type "slice",data:=.fields #[.none,.none,.int (-1) tk]}}:=I2.kept λb u q=>af _ q;have c:({s2 with heap:=s2.heap.push {cls:=.type "slice",data:=.fields #[.none,.none,.int (-1) tk]}}:Sq).heap.IsSliceOf s2.heap.objs.size .none .none (.int (-1) tk):=Heap.IsSliceOf.new ..;have m:∃T id,typeLookup (.type T) "__getitem__" = pure (some (.builtin id))/\({s2 with heap:=s2.heap.push {cls:=.type "slice",data:=.fields #[.none,.none,.int (-1) tk]}}:Sq).TypeIs v T/\wpAny (model X.prog X.w) X.A (getItem v (.ref s2.heap.objs.size)) (EP X g j Q) X.xe {s2 with heap:=s2.heap.push {cls:=.type "slice",data:=.fields #[.none,.none,.int (-1) tk]}}:=by
  generalize ({s2 with heap:=s2.heap.push {cls:=.type "slice",data:=.fields #[.none,.none,.int (-1) tk]}}:Sq)=s4 at d c ⊢;rcases q2 with⟨a,p,rfl,l,q⟩|⟨a,p,rfl,l,q⟩
  .cases r1;obtain⟨gF,r,f,k⟩:=d.list l;have y:=r.length;refine⟨"list",_,slot_list_getitem.lookup,f.isList.typeIs,?_⟩;refine wpAny_getItem_list_slice f.isList c .none .none (.int (-1) tk) (by simp) ?_ (by rw[bF]<;>omega);rw[vh];refine⟨.ref s4.heap.objs.size,_,d.laid (λb u q=>af _ q) (aL _) ?_,rfl,q _ (d.hok.fresh (aL _))⟩;exact⟨by rw[cP];exact k,_,0,r.reverse,au _ rfl⟩
  .cases r1;obtain⟨gF,r,f,k⟩:=d.tuple l;have y:gF.toArray.size=p.length:=by rw[bF];exact r.length.symm
   refine⟨"tuple",_,PyProof.Rows.slot_tuple_getitem.lookup,f.typeIs,?_⟩;refine HT.getItem_tuple_rev f c ?_ (by rw[y];exact k);refine⟨.ref s4.heap.objs.size,_,d.laid (λb u q=>af _ q) (aL _) ?_,rfl,q _ (d.hok.fresh (aL _))⟩;exact⟨by rw[cP];exact k,_,r.reverse,sj.new _ _⟩
 obtain⟨T,id,C,f,B⟩:=m;exact tail_any f C B (by with_unfolding_all rfl)
end
end L2
namespace L2
open PySem PySem.Spec PyProof.Rows
def Jk:typeLookup (.type "list") "keys" = pure none:=by rw[typeLookup_type,builtinLookup_eq_fast];kernel_rfl
def wx:entryFor table "dict.update.loop" = some Builtin.«dict.update.loop»:=entryFor_of_tree (by kernel_rfl)
def oC:plainId "dict.update.loop" = true:=by decide +kernel
def Cz
  (m:s.heap.get? a=some o) (n:o.cls=.type "list") (f:o.data=.seq xs k) (hd:o.dict=none) (v:A.handled=none)
  (h:∀h' p,(∀b l,s.heap.get? b=some l->h'.get? b=some l)->Q none {s with heap:=h',toks:=p}) :
  wpAny (model prog w) A (getAttr? (.ref a) "keys") Q E s:=by
 obtain⟨c,x,z,B⟩:=o;simp only at n f hd;subst n f hd;obtain⟨r,g,d,p,u⟩:=s;have q:∀j,(⟨r,g,d,j,u⟩:Sq).TypeIs (.ref a) "list" :=λ_=>⟨_,m,rfl⟩;have C:=sub_AttributeError;have L:=F.slot_list_getattribute.lookup;have J:=F.slot_list_getattribute.bind (.ref a);have I:=am_list_getattr_none;unfold getAttr? getAttrBy? getAttrBy;(repeat (any_goals (first|assumption|exact q _|((with_reducible show wpAny _ _ (call (Value.builtin "list.__getattribute__") _ _) _ _ _);refine call_meets F.slot_list_getattribute (q _) am_entry_list_getattribute (F.args_list_getattribute_2 _ _) (meets_getattribute_miss_list a xs k B "keys" _ Jk (by decide +kernel) (by size_fits)) ⟨m,v,λh' j e i=>?_⟩)|wp_step)));obtain⟨K,D,H⟩:=i.there;unfold getattributeRaised;(repeat (any_goals (first|assumption|wp_step)));exact h _ _ λb l y=>i.keeps b l y
section
variable {X:Cx}{gq:List (Addr×Obj)}{σ:St}{H:Hp}{s:Sq}
abbrev Pr:=Addr×Addr×List mW×V
def wX(H:Hp)(q:Pr):Prop:=H q.1=some (.tup [.ref q.2.1,q.2.2.2])/\H q.2.1=some (.tup (q.2.2.1.map kV))
noncomputable def q9(kvs:List (List mW×V))(ps:List Pr):List (List mW×V):=ps.foldl (λk q=>rJ k q.2.2.1 q.2.2.2) kvs
def DD(J:A.units<cLine)(I:gM X gq σ H s)(e:H d=some (.dT kvs))(i:H b=some (.tup (k.map kV)))(l:kvs.length<sizeLine)(o:iD v r)
  (h:∀h' t',Heap.SameBut d s.heap h'->gM X gq σ (jn H d (.dT (rJ kvs k v))) {s with heap:=h',toks:=t'}->Q () {s with heap:=h',toks:=t'}):wpAny (model X.prog X.w) A (dictSet d (.ref b) r) Q E s:=by
 obtain⟨z,hd,x,a,B⟩:=Oz I.hok e;have L:x.length<=sizeLine:=by rw[<-Paired.length a];exact z
 have n:(rJ kvs k v).length<=sizeLine:=by have:=rV kvs k v;omega
 refine wpAny_dictSet_heap J (xG I.hok i) B λh' f m=>h h' _ m ?_;obtain⟨q,y,u,g,F,p,C,_,D⟩:=f;refine I0 I (by rw[e];exact True.intro) m ⟨q,g⟩ ⟨n,hd,_,(a.put k i o).keeps λc K j=>?_,q,y,u,g,F,p,C,D⟩;rw[gL (N3 j e (λz=>nomatch z))];exact j
theorem za(hh:A.handled=none)(hu:A.units+1<cLine) :
  ∀a c H kvs s t,gM X gq σ H s->H d=some (.dT kvs)->H l=some (.lst ((c++a).map λq=>.ref q.1))->(∀q∈a,wX H q)->kvs.length+a.length<=sizeLine->
  s.heap.IsListIter it l c.length->rA X gq H it->(∀C,gM X gq σ (jn H d (.dT (q9 kvs a))) C->R (.ok (.ret .none)) C)->
  codeAny (model X.prog X.w) A (.builtin "dict.update.loop" ⟨[.ref d,.ref it,.int (c.length:Int) t,.none],[]⟩) R s
 |[],c,H,kvs,s,t,I,ed,el,_,hz,hit,hf,hR=>by
  obtain⟨gF,E,N,_⟩:=I.list (kK.of el);have Y:=E.length;rw[bI,ax]at Y;obtain⟨f,m,Z,D,B,n⟩:=hf;refine codeAny_builtin wx ?_;rw[Around.under_plainId oC _];refine aq (wpAny_pyNext_list_end hh hit N.isList (by simp[Y]) λh' eb=>?_);have p:=I.turned (t':=s.toks) (λb o J e=>eb b o J e) f m D B n;refine aq (ao (ao (hR _ ?_)));have e:jn H d (.dT (q9 kvs []))=H:=by
   funext b;by_cases q:b=d
   .subst q;rw[gJ,ed];rfl
   .rw[gL q]
  rw[e];exact p
 |q::a,c,H,kvs,s,t,I,ed,el,hp,hz,hit,hf,hR=>by
  obtain⟨gF,E,N,_⟩:=I.list (kK.of el);obtain⟨f,m,Z,D,B,n⟩:=id hf;obtain⟨h1,h2⟩:=hp q (by simp);obtain⟨u,F,ru⟩:=E.get (i:=c.length) (x:=.ref q.1) (by simp);cases (ru);refine codeAny_builtin wx ?_;rw[Around.under_plainId oC _];refine aq (wpAny_pyNext_list_item hit N.isList (by simpa using F) λh' h sb=>?_);have p:=I.turned (t':=s.toks) (λb o J e=>(sb.2 b J).trans e) f m D B n;obtain⟨ks,rk,⟨ot,U,ct,nt,dt⟩,_⟩:=p.tuple (lR.of h1);obtain⟨k,v,rfl,K,P⟩:=F9 rk;cases (K);refine aq (wpAny_holding (aq (wpAny_tryCatch ?_)));unfold Builtin.Dict.pairItems;refine aq (wpAny_typeOf ⟨_,U,ct⟩ ?_);rw[aR (by decide)];refine aq (wpAny_seqItems U dt (ao ?_));have hz':kvs.length+(a.length+1)<=sizeLine:=hz;refine wpAny_holding (DD hu p ed h2 (by omega) P λh2' t2 Q I2=>?_);have j:it≠d:=λz=>by rw[z,ed]at f;cases f
  have ne:∀b o,H b=some o->(∀kvs,o≠.dT kvs)->jn H d (.dT (rJ kvs q.2.2.1 q.2.2.2)) b=some o:=λb o e z=>by rw[gL (λw=>by rw[w,ed]at e;cases e;exact z _ rfl)];exact e
  refine ao ⟨plainId_quiet oC _,?_⟩;have L:=h.extBut Q.extBut j;have g:=za hh hu a (c++[q]) (jn H d (.dT (rJ kvs q.2.2.1 q.2.2.2))) (rJ kvs q.2.2.1 q.2.2.2) _ 0 I2 gJ (by rw[bW];exact ne _ _ el (λ_ z=>nomatch z)) (λr hr=>⟨ne _ _ (hp r (by simp[hr])).1 (λ_ z=>nomatch z),ne _ _ (hp r (by simp[hr])).2 (λ_ z=>nomatch z)⟩) (by have:=rV kvs q.2.2.1 q.2.2.2;omega) (by simpa using L) ⟨by rw[gL j];exact f,m,Z,D,B,n⟩ (λC S=>hR C (by
   have e:∀x y:HO,jn (jn H d x) d y=jn H d y:=λx y=>by
    funext b;by_cases z:b=d
    .subst z;rw[gJ,gJ]
    .rw[gL z,gL z,gL z]
   rw[e]at S;exact S))
  rw[aU]at g;exact g
def AA(P:X.calm=true)(hu:X.A.units+4<cLine):kD X (.type "dict") (λv H Q=>∃l g,v=[.ref l]/\H l=some (.lst (g.map λq=>.ref q.1))/\(∀q∈g,wX H q)/\∀d,H d=none->Q (.ref d) (jn H d (.dT (q9 [] g)))):=by
 intro gq s σ H v us Q I r h;obtain⟨l,g,rfl,L,hp,q⟩:=h;obtain⟨u,rfl,Y⟩:=oU r;cases Y;have D:=I.ok.hd P;refine callType_codes (Q₁:=λi c=>i=.ref s.heap.objs.size/\c={s with heap:=s.heap.push {cls:=.type "dict",data:=.dict #[]}}) F.kt_called_dict (F.kt_typeCall_dict_1 _) F.entry_dict_init (kt_code_dict_new _ ⟨rfl,rfl⟩) ?_;rintro i c ⟨rfl,rfl⟩;have a:=I.hok.fresh (aL s.heap.objs.size);have K:(s.heap.push {cls:=.type "dict",data:=.dict #[]}).get? s.heap.objs.size=some {cls:=.type "dict",data:=.dict #[]}:=au _ rfl;refine⟨⟨_,K,rfl⟩,F.args_dict_init_2 _ _,?_⟩;have B:=I.laid (t':=s.toks) (λ_ _ q=>af _ q) (aL _) (E5 s.heap I.big);have f:jn H s.heap.objs.size (.dT []) l=some (.lst (g.map λq=>.ref q.1)):=by rw[gL (gW L a)];exact L
 obtain⟨gF,rv,Z,J⟩:=B.list (kK.of f);rw[ax]at J;obtain⟨ol,nl,C,E,e3,U⟩:=id Z;unfold Builtin.«dict.__init__»;refine aq ?_;unfold Builtin.Dict.selfAndRest;refine aq (wpAny_notOrdered_dict ⟨_,K,rfl⟩ ?_);refine ao ?_;show wpAny _ _ (Builtin.Dict.updateFrom "dict.__init__" s.heap.objs.size (.ref l) [] .none) _ _ _;unfold Builtin.Dict.updateFrom;refine aq (wpAny_typeOf ⟨_,C,E⟩ ?_);rw[aR (by decide)];refine aq (Cz C E U e3 D λh' w kp=>?_);have j:=B.kept (t':=w) kp;rw[aR (by rfl)];refine aq (wpAny_rule ?_);obtain⟨n,S,k,_⟩:=j.list (kK.of f);refine aq (wpAny_pyIter_list k.isList ?_);have R:gM X gq σ (jn H s.heap.objs.size (.dT [])) {s with heap:=h'.push {cls:=.type "list_iterator",data:=.fields #[.ref l,.int 0 0]},toks:=w}:=j.kept λb o e=>af _ e;refine ao ⟨plainId_quiet oC _,za (A:=X.A.in1) D (by show X.A.units+1+1<_;omega) g [] _ [] _ _ R gJ (by simpa using f) (λr hr=>?_) (by simpa using J) ⟨_,au _ rfl,rfl,rfl⟩ (j.fpOk (aL _) (j.hok.fresh (aL _))) λs' m=>⟨rfl,.ref s.heap.objs.size,_,?_,rfl,q _ a⟩⟩
 .obtain⟨p,N⟩:=hp r hr;exact⟨by rw[gL (gW p a)];exact p,by rw[gL (gW N a)];exact N⟩
 .have e:∀x y:HO,jn (jn H s.heap.objs.size x) s.heap.objs.size y=jn H s.heap.objs.size y:=λx y=>by
   funext b;by_cases z:b=s.heap.objs.size
   .subst z;rw[gJ,gJ]
   .rw[gL z,gL z,gL z]
  rw[e]at m;exact m
end
end L2
namespace L2
open PySem PySem.W PyProof.Rows
section
variable {lt:Nat->Nat->Bool}{n:Nat}{α β:Type}
def rF(lt:Nat->Nat->Bool)(n:Nat):KasT α->(α->Prop)->Prop
 |.ret a,Q=>Q a
 |.ask i j k,Q=>i<n/\j<n/\rF lt n (k (lt i j)) Q
theorem lI{f:α->KasT β}{Q:β->Prop}:∀{t:KasT α},rF lt n t (λa=>rF lt n (f a) Q)->rF lt n (t.bind f) Q
 |.ret _,h=>h
 |.ask i j k,h=>⟨h.1,h.2.1,lI (t:=k (lt i j)) h.2.2⟩
theorem BR{s:Sq}{b:Nat->Nat->(Bool->Shared->Prop)->Shared->Prop}(c:∀i j C,i<n->j<n->C (lt i j) s->b i j C s){Q:α->Shared->Prop}:∀{t:KasT α},rF lt n t (λa=>Q a s)->t.kasWp b Q s
 |.ret _,h=>h
 |.ask i j k,h=>c i j _ h.1 h.2.1 (BR c (t:=k (lt i j)) h.2.2)
structure qR(lt:Nat->Nat->Bool):Prop where
 tr:∀{a b c},lt b a=false->lt c b=false->lt c a=false
 as:∀{a b},lt a b=true->lt b a=false
def qR.ir(o:qR lt)(a:Nat):lt a a=false:=by
 cases h:lt a a with
 |false=>rfl
 |true=>have:=o.as h;rw[h]at this;exact this
abbrev vi(n:Nat)(p:Array Nat):Prop:=p.Perm (List.range n).toArray
def kQ{p:Array Nat}(h:vi n p):p.size=n:=by rw[h.size_eq];simp
def mB{p:Array Nat}(h:vi n p)(a:0<n)(i:Nat):p.getD i 0<n:=by
 rw[cR];cases e:p[i]? with
 |none=>exact a
 |some v=>have:v∈(List.range n).toArray:=h.mem_iff.mp (cS e);simpa using this
def qk{p:Array Nat}{i j:Nat}(a:j<=p.size)(k:Nat):(kas_rev p i j).getD k 0=if i<=k/\k<j then p.getD (i+j-1-k) 0 else p.getD k 0:=by unfold kas_rev;rw[cR,getElem?_mirror_all a];split<;>rw[cR]
def EI{p:Array Nat}{k l:Nat}(c:k<p.size)(d:l<=k)(i:Nat):(bubble p k (k-l)).getD i 0=if i=l then p.getD k 0 else if l<i/\i<=k then p.getD (i-1) 0 else p.getD i 0:=by
 rw[cR,getElem?_bubble c _ (by omega),show k-(k-l)=l by omega];by_cases b:i=l
 .rw[aR b,aR b,cR]
 .rw[aS b,aS b];by_cases a:l<i/\i<=k
  .rw[aR a,aR a,cR]
  .rw[aS a,aS a,cR]
def ue{p:Array Nat}(h:vi n p)(i j:Nat):vi n (kas_rev p i j):=(mirror_perm _ _ _ _).trans h
def DG(lt:Nat->Nat->Bool)(p:Array Nat)(m:Nat):Prop:=∀i j,i<j->j<m->lt (p.getD j 0) (p.getD i 0)=false
def Po(lt:Nat->Nat->Bool)(p:Array Nat)(m:Nat):Prop:=∀i j,i<j->j<m->lt (p.getD i 0) (p.getD j 0)=false
def PX(lt:Nat->Nat->Bool)(p:Array Nat)(m q:Nat):Prop:=∀i j,m<=i+(q+1)->i<m->m<=j+(q+1)->j<m->lt (p.getD i 0) (p.getD j 0)=false
theorem w9(o:qR lt)(l:0<n){p:Array Nat}(r:vi n p){Q:Nat->Prop}:∀f m,1<=m->DG lt p m->(∀g,m<=g->g<=m+f->DG lt p g->(g<m+f->lt (p.getD g 0) (p.getD (g-1) 0)=true)->Q g)->rF lt n (kas_asc p f m) Q
 |0,m,_,hu,q=>q m (aL _) (aL _) hu λh=>absurd h (ba _)
 |f+1,m,h1,hu,q=>by
  refine⟨mB r l _,mB r l _,?_⟩;cases e:lt (p.getD m 0) (p.getD (m-1) 0) with
  |true=>exact q m (aL _) (cw _ _) hu λ_=>e
  |false=>
   refine w9 o l r f (m+1) (by omega) (λi j k v=>?_) λg a b c d=>q g (by omega) (by omega) c λh=>d (by omega);by_cases s:j<m
   .exact hu i j k s
   .obtain rfl:j=m:=by omega
    by_cases u:i=j-1
    .rw[u];exact e
    .exact o.tr (hu i (j-1) (by omega) (by omega)) e
theorem qL(o:qR lt)(u:0<n){Q:Array Nat×Nat×Nat->Prop}:∀f p m q,vi n p->1<=m->m+f<=n->q<m->Po lt p m->PX lt p m q->
  (∀k l r,vi n k->m<=l->l<=m+f->r<l->Po lt k l->PX lt k l r->Q (k,l,r))->rF lt n (kas_desc f p m q) Q
 |0,p,m,q,hp,_,_,hq,hd,he,w=>w p m q hp (aL _) (aL _) hq hd he
 |f+1,p,m,q,hp,h1,hf,hq,hd,he,w=>by
  have one:∀k:Array Nat,PX lt k (m+1) 0:=λk i j a b c d=>by
   obtain rfl:i=m:=by omega
   obtain rfl:j=i:=by omega
   exact o.ir _
  have s:∀i,i<m->lt (p.getD (m-1) 0) (p.getD m 0)=false->lt (p.getD i 0) (p.getD m 0)=false:=λi A e=>by
   by_cases h:i=m-1
   .rw[h];exact e
   .exact o.tr e (hd i (m-1) (by omega) (by omega))
  refine⟨mB hp u _,mB hp u _,?_⟩;cases e:lt (p.getD m 0) (p.getD (m-1) 0) with
  |true=>
   have z:=o.as e;simp only[if_true];by_cases y:q>0
   .rw[aR y];have hr:=qk (p:=p) (i:=m-(q+1)) (j:=m) (by rw[kQ hp];omega);refine qL o u f _ (m+1) 0 (ue hp _ _) (by omega) (by omega) (by omega) (λi j g v=>?_) (one _) λk l r a b c d=>w k l r a (by omega) (by omega) d;rw[hr i,hr j];by_cases x:j=m
    .rw[aS (c:=_/\j<m) (by omega),x];split
     .exact s _ (by omega) z
     .exact s _ (by omega) z
    .split
     .rw[aR (by omega)];exact he _ _ (by omega) (by omega) (by omega) (by omega)
     .split
      .exact hd _ _ (by omega) (by omega)
      .exact hd _ _ (by omega) (by omega)
   .rw[aS y];refine qL o u f p (m+1) 0 hp (by omega) (by omega) (by omega) (λi j g v=>?_) (one _) λk l r a b c d=>w k l r a (by omega) (by omega) d;by_cases x:j=m
    .subst x;exact s i g z
    .exact hd i j g (by omega)
  |false=>
   simp only[cg,if_false];refine⟨mB hp u _,mB hp u _,?_⟩;cases B:lt (p.getD (m-1) 0) (p.getD m 0) with
   |true=>exact w p m q hp (aL _) (by omega) hq hd he
   |false=>
    simp only[cg,if_false];refine qL o u f p (m+1) (q+1) hp (by omega) (by omega) (by omega) (λi j g v=>?_) (λi j a b c d=>?_) λk l r a b c d=>w k l r a (by omega) (by omega) d
    .by_cases x:j=m
     .subst x;exact s i g B
     .exact hd i j g (by omega)
    .by_cases A:i=m
     .subst A;by_cases v:j=i
      .subst v;exact o.ir _
      .exact o.tr (he (i-1) j (by omega) (by omega) (by omega) (by omega)) e
     .by_cases v:j=m
      .subst v;exact o.tr B (he i (j-1) (by omega) (by omega) (by omega) (by omega))
      .exact he i j (by omega) (by omega) (by omega) (by omega)
def yw(o:qR lt)(h:0<n){p:Array Nat}{m:Nat}(f:vi n p)(k:1<=m)(l:m<=n)(hd:Po lt p m){Q:Nat×Array Nat->Prop}(w:∀d e,vi n e->1<=d->d<=n->DG lt e d->Q (d,e)):rF lt n (kas_tail3 m n p) Q:=by refine lI (w9 o h (ue f 0 m) _ m k (λi j g q=>?_) λd a b c _=>w d _ (ue f 0 m) (by omega) (by omega) c);have hr:=qk (p:=p) (i:=0) (j:=m) (by rw[kQ f];omega);rw[hr i,hr j,aR (by omega),aR (by omega)];exact hd _ _ (by omega) (by omega)
def vG(o:qR lt){p:Array Nat}{m:Nat}(r:vi n p)(v:1<=m)(s:m+1<=n)(hd:Po lt p (m+1)){Q:Nat×Array Nat->Prop}(w:∀g h,vi n h->1<=g->g<=n->DG lt h g->Q (g,h)):rF lt n (kas_descPart m n p) Q:=by
 have k:0<n:=by omega
 refine lI (qL o k _ p (m+1) 0 r (by omega) (by omega) (by omega) hd (λi j a b c d=>?_) λh g q a b c d e f=>?_)
 .obtain rfl:i=m:=by omega
  obtain rfl:j=i:=by omega
  exact o.ir _
 .dsimp only;split
  .have hr:=qk (p:=h) (i:=g-(q+1)) (j:=g) (by rw[kQ a];omega);refine yw o k (ue a _ _) (by omega) (by omega) (λi j l u=>?_) w;rw[hr i,hr j];split
   .rw[aR (by omega)];exact f _ _ (by omega) (by omega) (by omega) (by omega)
   .split
    .exact e _ _ (by omega) (by omega)
    .exact e _ _ (by omega) (by omega)
  .exact yw o k a (by omega) (by omega) e w
def Dh(o:qR lt)(r:0<n){p:Array Nat}(f:vi n p){Q:Nat×Array Nat->Prop}(w:∀l q,vi n q->1<=l->l<=n->DG lt q l->Q (l,q)):rF lt n (kas_count n p) Q:=by
 refine lI (w9 o r f _ 1 (aL _) (λi j g h=>by omega) λm a b c d=>?_);split
 .exact w m p f a (by omega) c
 .rename_i hne;have k:m<n:=by have:m≠n:=λz=>hne (by rw[z];exact beq_self_eq_true _);omega
  have e:=o.as (d (by omega));split
  .refine⟨mB f r _,mB f r _,?_⟩;cases s:lt (p.getD 0 0) (p.getD (m-1) 0) with
   |true=>exact w m p f a (by omega) c
   |false=>
    have up:∀i j,i<=j->j<m->lt (p.getD j 0) (p.getD i 0)=false:=λi j g h=>by
     by_cases z:i=j
     .rw[z];exact o.ir _
     .exact c i j (by omega) h
    have all:∀i j,i<m->j<m->lt (p.getD i 0) (p.getD j 0)=false:=λi j u h=>o.tr (o.tr (up j (m-1) (by omega) (by omega)) s) (up 0 i (by omega) u);have hr:=qk (p:=p) (i:=0) (j:=m) (by rw[kQ f];omega);refine vG o (ue f 0 m) a k (λi j g h=>?_) w;rw[hr i,hr j,aR (c:=0<=i/\i<m) (by omega)];by_cases z:j=m
    .rw[aS (by omega),z];exact o.tr e (all _ _ (by omega) (by omega))
    .rw[aR (by omega)];exact all _ _ (by omega) (by omega)
  .refine vG o f a k (λi j g h=>?_) w;obtain rfl:m=1:=by omega
   obtain rfl:i=0:=by omega
   obtain rfl:j=1:=by omega
   exact e
theorem qS(o:qR lt)(h:0<n){p:Array Nat}(g:vi n p){k:Nat}(d:DG lt p k){Q:Nat->Prop}(w:∀l,l<=k->(∀i,i<l->lt (p.getD k 0) (p.getD i 0)=false)->(∀i,l<=i->i<k->lt (p.getD k 0) (p.getD i 0)=true)->Q l) :
  ∀f l r,l<=r->r<=k->r<=l+f->(∀i,i<l->lt (p.getD k 0) (p.getD i 0)=false)->(∀i,r<=i->i<k->lt (p.getD k 0) (p.getD i 0)=true)->rF lt n (kas_place p k f l r) Q
 |0,l,r,h1,h2,h3,a,b=>w l (by omega) a λi j c=>b i (by omega) c
 |f+1,l,r,h1,h2,h3,a,b=>by
  unfold kas_place;split
  .exact w l (by omega) a λi j c=>b i (by omega) c
  .refine⟨mB g h _,mB g h _,?_⟩;cases e:lt (p.getD k 0) (p.getD ((l+r) / 2) 0) with
   |true=>
    refine qS o h g d w f l ((l+r) / 2) (by omega) (by omega) (by omega) a λi j c=>?_;by_cases z:i=(l+r) / 2
    .rw[z];exact e
    .cases y:lt (p.getD k 0) (p.getD i 0) with
     |true=>rfl
     |false=>rw[o.tr (d ((l+r) / 2) i (by omega) c) y]at e;cases e
   |false=>
    refine qS o h g d w f ((l+r) / 2+1) r (by omega) h2 (by omega) (λi j=>?_) b;by_cases z:i=(l+r) / 2
    .rw[z];exact e
    .exact o.tr (d i ((l+r) / 2) (by omega) (by omega)) e
theorem A6(o:qR lt)(q:0<n){Q:Array Nat->Prop}(w:∀g,vi n g->DG lt g n->Q g):∀f p k,vi n p->k+f=n->DG lt p k->rF lt n (kas_bin f p k) Q
 |0,p,k,hp,h,hu=>w p hp (by rw[<-h];exact hu)
 |f+1,p,k,hp,h,hu=>by
  refine lI (qS o q hp hu (λl s a b=>?_) k 0 k (cA _) (aL _) (by omega) (λi e=>by omega) λi e h=>by omega);have m:=EI (p:=p) (k:=k) (l:=l) (by rw[kQ hp];omega) s;refine A6 o q w f _ (k+1) ((bubble_perm _ _ _).trans hp) (by omega) λi j r u=>?_;rw[m i,m j];by_cases e:i=l
  .rw[aR e,aS (by omega),aR (by omega)];exact o.as (b _ (by omega) (by omega))
  .rw[aS e];by_cases d:j=l
   .rw[aR d,aS (by omega)];exact a _ (by omega)
   .rw[aS d];by_cases v:l<i
    .rw[aR (c:=l<j/\j<=k) (by omega),aR (c:=l<i/\i<=k) (by omega)];exact hu _ _ (by omega) (by omega)
    .rw[aS (c:=l<i/\i<=k) (by omega)];split
     .exact hu _ _ (by omega) (by omega)
     .exact hu _ _ (by omega) (by omega)
def Gf(o:qR lt)(c:0<n){Q:Array Nat->Prop}(w:∀p,vi n p->DG lt p n->Q p):rF lt n (kas_sort n) Q:=by
 refine lI (Dh o c (Array.Perm.refl _) λm p b d e a=>?_);dsimp only;split
 .exact A6 o c w _ p _ b (by omega) (by rw[Nat.max_eq_left d];exact a)
 .refine w p b ?_;obtain rfl:m=n:=by omega
  exact a
end
end L2
namespace L2
open PySem PySem.W PyProof.Rows
section
variable {prog:Program}{w:World}{A:Around}{E:Vq->Shared->Prop}{s:Sq}{lt:Nat->Nat->Bool}
structure Lq(prog:Program)(w:World)(A:Around)(s:Sq)(a:Addr)(vs:List Vq)(κ:SortKind)(lt:Nat->Nat->Bool):Prop where
 kind:∀h',(∀b o,b≠a->s.heap.get? b=some o->h'.get? b=some o)->∀Q:SortKind->Shared->Prop,Q κ {s with heap:=h'}->wpAny (model prog w) A (keyKind' vs.toArray) Q (λ_ _=>False) {s with heap:=h'}
 ask:∀h',(∀b o,b≠a->s.heap.get? b=some o->h'.get? b=some o)->∀i j C,i<vs.length->j<vs.length->C (lt i j) {s with heap:=h'}->kas_ask prog w A κ vs i j C {s with heap:=h'}
def qh{a:Addr}{vs:List Vq}{y:SortKind}{n:Nat}{P:Fin->Shared->Prop}(j:s.heap.get? a=some (seqObj "list" vs.toArray n))(K:2<=vs.length)(l:vs.length<64)(o:qR lt)(C:Lq prog w A s a vs y lt)
  (h:∀p:Array Nat,vi vs.length p->DG lt p vs.length->P (.done (.ret .none)) {s with heap:=sortedHeap s.heap a vs (List.toArray (p.toList.map λi=>vs.getD i Value.none))}) :
  wpAny (model prog w) A (Builtin.«list.sort» ⟨[.ref a],[]⟩) P E s:=by
 rw[list_sort_plain];have B:a<s.heap.objs.size:=aM j;refine aq (listItems_at j rfl ?_);refine aq (listUpdate_at j rfl ?_);obtain⟨m,ho1⟩:∃m,(s.heap.update a (Obj.mapSeq λ_=>#[])).get? a=some (seqObj "list" #[] m):=⟨_,get?_update_seq j (λ_=>#[])⟩;refine aq (seqEpoch_at ho1 rfl ?_);refine aq (wpAny_newTuple ?_);refine aq (wpAny_newList ?_);refine wpAny_holding ?_;have g:(((s.heap.update a (Obj.mapSeq λ_=>#[])).push (seqObj "tuple" vs.toArray 0)).push (seqObj "list" #[] 0)).get? a=some (seqObj "list" #[] m):=by rw[Heap.get?_push_ne _ _ _ (by rw[size_push',Heap.size_update];exact aN (cq B)),Heap.get?_push_ne _ _ _ (by rw[Heap.size_update];exact aN B)];exact ho1
 have keep:∀b u,b≠a->s.heap.get? b=some u->(((s.heap.update a (Obj.mapSeq λ_=>#[])).push (seqObj "tuple" vs.toArray 0)).push (seqObj "list" #[] 0)).get? b=some u:=λb u I q=>af _ (af _ (by rw[Heap.get?_update_ne _ _ _ _ I];exact q))
 show wpAny (model prog w) A _ P E {s with heap:=((s.heap.update a (Obj.mapSeq λ_=>#[])).push (seqObj "tuple" vs.toArray 0)).push (seqObj "list" #[] 0)};dsimp only;have f:¬vs.toArray.size<2:=by rw[bF];omega
 rw[aS f,aS f];refine aq (wpAny_mono (C.kind _ keep (λJ d=>J=y/\d={s with heap:=((s.heap.update a (Obj.mapSeq λ_=>#[])).push (seqObj "tuple" vs.toArray 0)).push (seqObj "list" #[] 0)}) ⟨rfl,rfl⟩) ?_ λ_ _ z=>z.elim);rintro κ' d ⟨rfl,rfl⟩;refine aq (wpAny_mono (kat_run (ks:=vs) (vs:=vs) (Q:=λc d=>∃p:Array Nat,vi vs.length p/\DG lt p vs.length/\arrOf c=p.map (kas_item (vs.toArray.zip vs.toArray))/\failedOf c=none/\d={s with heap:=((s.heap.update a (Obj.mapSeq λ_=>#[])).push (seqObj "tuple" vs.toArray 0)).push (seqObj "list" #[] 0)})
  (G:=λp d=>vi vs.length p/\DG lt p vs.length/\d={s with heap:=((s.heap.update a (Obj.mapSeq λ_=>#[])).push (seqObj "tuple" vs.toArray 0)).push (seqObj "list" #[] 0)})
  rfl K l (λp c d L H F r=>⟨p,r.1,r.2.1,H,F,r.2.2⟩) (BR (lt:=lt) (n:=vs.length) (C.ask _ keep) (Gf o (by omega) λp k x=>⟨k,x,rfl⟩))) ?_ λ_ _ z=>z)
 rintro⟨⟨⟩,c⟩ d ⟨p,k,x,v,D,rfl⟩;dsimp only;have e:(arrOf c).map (·.2)=List.toArray (p.toList.map λi=>vs.getD i Value.none):=kat_snds rfl v;refine aq (seqEpoch_at g rfl ?_);refine aq (listUpdate_at g rfl ?_ (hsz2:=?_))
 .rw[D];simp only[bne_self_eq_false,cg,if_false];rw[e];exact ao (h p k x)
 .rw[e,bF,ax,bA,kQ k,sizeLine_eq];omega
def DA{l:Addr}{vs:List Vq}{j:SortKind}{Q:Vq->Shared->Prop}(g:s.heap.IsList l vs.toArray)(u:2<=vs.length)(f:vs.length<64)(o:qR lt)
  (r:∀h',(∀b d,s.heap.get? b=some d->h'.get? b=some d)->Lq prog w A.in1.in1 {s with heap:=h'} (s.heap.objs.size+1) vs j lt)
  (h:∀p:Array Nat,vi vs.length p->DG lt p vs.length->Q (.ref (s.heap.objs.size+1)) {s with heap:=sortedAll s.heap vs (List.toArray (p.toList.map λi=>vs.getD i Value.none))}) :
  wpAny (model prog w) A (call (.builtin "sorted") [.ref l]) Q E s:=by
 refine Calls.call_function_entry kind_sorted plain_sorted entry_sorted (args_sorted1 _) ?_;unfold Builtin.«sorted»;refine aq (m:=checkCount "sorted" 1 1 _) (ao ?_);refine aq (collect_list g ?_);refine aq (wpAny_newList ?_);have c:((s.heap.push (seqObj "list" #[] 0)).update s.heap.objs.size (Obj.mapSeq (·++vs.toArray))).objs.size=s.heap.objs.size+1:=by rw[Heap.size_update,size_push']
 have e:(((s.heap.push (seqObj "list" #[] 0)).update s.heap.objs.size (Obj.mapSeq (·++vs.toArray))).push (seqObj "list" vs.toArray 0)).get? (s.heap.objs.size+1)=some (seqObj "list" vs.toArray 0):=by rw[<-c];exact au _ rfl
 have keep:∀b d,s.heap.get? b=some d->(((s.heap.push (seqObj "list" #[] 0)).update s.heap.objs.size (Obj.mapSeq (·++vs.toArray))).push (seqObj "list" vs.toArray 0)).get? b=some d:=λb d q=>by have a:b<s.heap.objs.size:=aM q;rw[Heap.get?_push_ne _ _ _ (by rw[c];exact aN (cq a)),Heap.get?_update_ne _ _ _ _ (aN a),Heap.get?_push_ne _ _ _ (aN a)];exact q
 show wpAny _ _ _ _ _ {s with heap:=((s.heap.push (seqObj "list" #[] 0)).update s.heap.objs.size (Obj.mapSeq (·++vs.toArray))).push (seqObj "list" vs.toArray 0)};rw[c];refine aq (wpAny_holding (wpAny_call_entry slot_list_sort ⟨_,e,rfl⟩ entry_list_sort (qh (A:=A.in1.in1) e u f o (r _ keep) λp n k=>⟨_,rfl,?_⟩) (args_list_sort _)));exact ao ⟨_,rfl,h p n k⟩
end
end L2
namespace L2
open PySem PySem.Spec PySem.W PyProof.Rows
def iQ:LI->LI->Bool
 |x::xs,y::ys=>if x=y then iQ xs ys else decide (x<y)
 |_,_=>false
theorem oa:∀{a b:LI},iQ a b=true->iQ b a=false
 |[],_,h=>by simp[iQ]at h
 |_::_,[],h=>by simp[iQ]at h
 |x::a,y::b,h=>by
  unfold iQ at h ⊢;by_cases e:x=y
  .rw[aR e]at h;rw[aR e.symm];exact oa h
  .rw[aS e]at h;rw[aS (Ne.symm e)];have:=of_decide_eq_true h;exact aC (by omega)
theorem xv:∀{a b c:LI},a.length=b.length->b.length=c.length->iQ b a=false->iQ c b=false->iQ c a=false
 |[],[],[],_,_,_,_=>rfl
 |x::a,y::b,z::c,h1,h2,p,q=>by
  unfold iQ at p q ⊢;simp only[aA,Nat.add_right_cancel_iff]at h1 h2;by_cases e:y=x
  .rw[aR e]at p;by_cases d:z=y
   .rw[aR d]at q;rw[aR (d.trans e)];exact xv h1 h2 p q
   .rw[aS d]at q;rw[aS (by omega)];rw[<-e];exact q
  .rw[aS e]at p;have p:=of_decide_eq_false p;by_cases d:z=y
   .rw[aS (by omega)];exact aC (by omega)
   .rw[aS d]at q;have q:=of_decide_eq_false q;rw[aS (by omega)];exact aC (by omega)
 |[],_::_,_,h,_,_,_=>by simp at h
 |_::_,[],_,h,_,_,_=>by simp at h
 |[],[],_::_,_,h,_,_=>by simp at h
 |_::_,_::_,[],_,h,_,_=>by simp at h
section
variable {prog:Program}{w:World}{A:Around}{E:Vq->Shared->Prop}{s:Sq}
theorem BA{b:Bool}(g:b=true){Q:Bool->Shared->Prop}:∀{d f:List Vq} {c a:LI} (i:Nat),IntsAre d c->IntsAre f a->c.length=a.length->Q (iQ c a) s->KatLex prog w A b false Q (d.zip f) i s
 |_,_,_,_,i,.nil,.nil,_,h=>h
 |_,_,_,_,i,.nil,.cons _ _ _,hl,_=>by simp at hl
 |_,_,_,_,i,.cons _ _ _,.nil,hl,_=>by simp at hl
 |_,_,_,_,i,.cons n t hx,.cons m u hy,hl,h=>by
  unfold iQ at h;refine kat_cons (wpAny_eqBool_int ?_);by_cases e:n=m
  .rw[aR e]at h;rw[show (n==m)=true from beq_iff_eq.mpr e];exact kat_yes (BA g (i+1) hx hy (by simpa using hl) h)
  .rw[aS e]at h;rw[show (n==m)=false from beq_eq_false_iff_ne.mpr e];refine kat_no ?_;cases z:(b&&i==0) with
   |true=>exact oneLt_int h
   |false=>exact kat_one _ _ (wpAny_lt_int (show W.BoolBack Q (.bool (decide (n<m))) s from h))
def sU(h:Heap)(a:Addr)(v:Vq)(r:LI):Prop:=∃b o gF n,v=.ref b/\b≠a/\h.get? b=some o/\o.cls=.type "tuple" /\o.data=.seq gF n/\IntsAre gF.toList r
def sU.keep{h h':Heap}{a:Addr}{v:Vq}{r:LI}(x:sU h a v r)(k:∀b o,b≠a->h.get? b=some o->h'.get? b=some o):sU h' a v r:=let ⟨b,o,gF,n,e,hb,ho,q⟩:=x;⟨b,o,gF,n,e,hb,k b o hb ho,q⟩
theorem BQ{h:Heap}{a:Addr}{m:Nat}:∀{vs:List Vq} {rs:LL},Paired (sU h a) vs rs->(∀r∈rs,r.length=m+1)->∃fs,KatTups h vs fs/\fs.length=vs.length/\∀f∈fs,∃i t,f=Value.int i t
 |_,_,.nil,_=>⟨[],trivial,rfl,λ_ h=>nomatch h⟩
 |_,_,.cons (b:=r) x t,hm=>by
  obtain⟨fs,y,v,l⟩:=BQ t λr hr=>hm r (bx _ hr);obtain⟨b,o,gF,n,rfl,z,q,k,hd,d⟩:=x;have j:=hm _ bj;have u:gF.toList.length=_:=d.length;obtain⟨f,hf⟩:∃f,gF[0]? = some f:=⟨_,Array.getElem?_eq_getElem (by rw[<-bA,u,j];omega)⟩;refine⟨f::fs,KatTups.cons q k hd hf y,by simp[v],λg c=>?_⟩;rcases aG.mp c with rfl|c
  .obtain⟨p,e⟩:=d.int_at 0 g (by simpa using hf);exact⟨_,p,e⟩
  .exact l g c
def Bo{a:Addr}{vs:List Vq}{rs:LL}{m:Nat}{p:LI}(hv:Paired (sU s.heap a) vs rs)(u:∀r∈rs,r.length=m+1)(h1:1<=vs.length) :
  Lq prog w A s a vs (tuples' (Value.type "int" != Value.type "tuple")) (λi j=>iQ (rs.getD i p) (rs.getD j p)) where
 kind h' k Q q:=by have c:Paired (sU h' a) vs rs:=Paired.mapP hv λv r x=>x.keep k;obtain⟨fs,t,l,h⟩:=BQ c u;refine kat_kind (s:={s with heap:=h'}) t (by omega) (T:=.type "int") (λf K=>?_) (by decide) q;obtain⟨i,tk,rfl⟩:=h f K;exact Looks.of_pure rfl
 ask h' k i j C h hj q:=by
  have c:Paired (sU h' a) vs rs:=Paired.mapP hv λv r x=>x.keep k;obtain⟨r,J,b,o,gF,n,U,_,P,Z,hd,H⟩:=mM c (ai h);obtain⟨B,g,b',o',e,n',y,_,D,X,z,d⟩:=mM c (ai hj);have N:C (iQ r B) {s with heap:=h'}:=by
   have R:rs.getD i p=r:=by rw[ag,J];rfl
   have S:rs.getD j p=B:=by rw[ag,g];rfl
   rw[R,S]at q;exact q
  have F:=u r (av J);have I:=u B (av g);have Y:gF.size=m+1:=by rw[<-bA,H.length,F]
  have L:e.size=m+1:=by rw[<-bA,d.length,I]
  unfold kas_ask;rw[ag,ai h,ag,ai hj];show wpAny (model prog w) A (keyLt' _ vs[i] vs[j]) C _ _;rw[U,y];refine kat_lt (s:={s with heap:=h'}) P hd D z ?_;rw[Y,L,aC (ba _)];exact BA (by decide) 0 H d (by rw[F,I]) N
def Cf{rs:LL}{d:LI}{m:Nat}(f:∀r∈rs,r.length=m)(g:d.length=m):qR λi j=>iQ (rs.getD i d) (rs.getD j d):=by
 have len:∀i,(rs.getD i d).length=m:=λi=>by
  rw[ag];cases e:rs[i]? with
  |none=>exact g
  |some r=>exact f r (av e)
 exact⟨λ{a b c} p q=>xv (by rw[len,len]) (by rw[len,len]) p q,λ{a b} p=>oa p⟩
end
end L2
namespace L2
open PySem PySem.Spec PySem.W PyProof.Rows
section
variable {prog:Program}{w:World}{A:Around}{E:Vq->Shared->Prop}{s:Sq}
def pj{a:Addr}{vs:List Vq}{n:Nat}{P:Fin->Shared->Prop}(d:s.heap.get? a=some (seqObj "list" vs.toArray n))(i:vs.length<2)
  (h:P (.done (.ret .none)) {s with heap:=sortedHeap s.heap a vs vs.toArray}):wpAny (model prog w) A (Builtin.«list.sort» ⟨[.ref a],[]⟩) P E s:=by
 rw[list_sort_plain];have f:a<s.heap.objs.size:=aM d;refine aq (listItems_at d rfl ?_);refine aq (listUpdate_at d rfl ?_);obtain⟨e,ho1⟩:∃e,(s.heap.update a (Obj.mapSeq λ_=>#[])).get? a=some (seqObj "list" #[] e):=⟨_,get?_update_seq d (λ_=>#[])⟩;refine aq (seqEpoch_at ho1 rfl ?_);refine aq (wpAny_newTuple ?_);refine aq (wpAny_newList ?_);refine wpAny_holding ?_;have c:(((s.heap.update a (Obj.mapSeq λ_=>#[])).push (seqObj "tuple" vs.toArray 0)).push (seqObj "list" #[] 0)).get? a=some (seqObj "list" #[] e):=by rw[Heap.get?_push_ne _ _ _ (by rw[size_push',Heap.size_update];exact aN (cq f)),Heap.get?_push_ne _ _ _ (by rw[Heap.size_update];exact aN f)];exact ho1
 show wpAny (model prog w) A _ P E {s with heap:=((s.heap.update a (Obj.mapSeq λ_=>#[])).push (seqObj "tuple" vs.toArray 0)).push (seqObj "list" #[] 0)};dsimp only;have b:vs.toArray.size<2:=by rw[bF];omega
 rw[aR b,aR b];refine aq (ao ?_);rw[StateT.run_pure];refine aq (ao ?_);dsimp only;refine aq (seqEpoch_at c rfl ?_);have g:(arrOf (SortSt.mk' general' (vs.toArray.zip vs.toArray) #[] 7 none)).map (·.2)=vs.toArray:=by show (vs.toArray.zip vs.toArray).map (·.2)=_;apply Array.toList_inj.mp;simp[List.map_snd_zip]
 refine aq (listUpdate_at c rfl ?_ (hsz2:=?_))
 .simp only[bne_self_eq_false,cg,if_false];rw[g];exact ao h
 .rw[g,bF,sizeLine_eq];omega
def AY{l:Addr}{vs:List Vq}{Q:Vq->Shared->Prop}(c:s.heap.IsList l vs.toArray)(d:vs.length<2)(h:Q (.ref (s.heap.objs.size+1)) {s with heap:=sortedAll s.heap vs vs.toArray}):wpAny (model prog w) A (call (.builtin "sorted") [.ref l]) Q E s:=by
 refine Calls.call_function_entry kind_sorted plain_sorted entry_sorted (args_sorted1 _) ?_;unfold Builtin.«sorted»;refine aq (m:=checkCount "sorted" 1 1 _) (ao ?_);refine aq (collect_list c ?_);refine aq (wpAny_newList ?_);have b:((s.heap.push (seqObj "list" #[] 0)).update s.heap.objs.size (Obj.mapSeq (·++vs.toArray))).objs.size=s.heap.objs.size+1:=by rw[Heap.size_update,size_push']
 have a:(((s.heap.push (seqObj "list" #[] 0)).update s.heap.objs.size (Obj.mapSeq (·++vs.toArray))).push (seqObj "list" vs.toArray 0)).get? (s.heap.objs.size+1)=some (seqObj "list" vs.toArray 0):=by rw[<-b];exact au _ rfl
 show wpAny _ _ _ _ _ {s with heap:=((s.heap.push (seqObj "list" #[] 0)).update s.heap.objs.size (Obj.mapSeq (·++vs.toArray))).push (seqObj "list" vs.toArray 0)};rw[b];refine aq (wpAny_holding (wpAny_call_entry slot_list_sort ⟨_,a,rfl⟩ entry_list_sort (pj a d ⟨_,rfl,?_⟩) (args_list_sort _)));exact ao ⟨_,rfl,h⟩
end
def nC{a:Type}(l:List a)(d:a):(List.range l.length).map (λi=>l.getD i d)=l:=by refine cT (by simp) λi c b=>?_;simp[b]
def rQ{a c:Type}{F:a->c->Prop}{l:List a}{m:List c}(h:Paired F l m)(f:a)(g:c){i:Nat}(d:i<l.length):F (l.getD i f) (m.getD i g):=by obtain⟨b,e,q⟩:=mM h (ai d);rw[ag,ai d,ag,e];exact q
theorem pD{b c a:Type}{F:b->c->Prop}(f:a->b)(g:a->c):∀(l:List a),(∀x∈l,F (f x) (g x))->Paired F (l.map f) (l.map g)
 |[],_=>.nil
 |x::l,h=>.cons (h x bj) (pD f g l λy d=>h y (bx _ d))
end L2
namespace L2.Sp
open PySem PySem.SetTable
theorem tH(g:Array Nat)(j:Nat)(hr:∀a b,a<b->b<g.size->g.getD a 0<g.getD b 0):∀(f d c:Nat),c-d<=f->d<=c->c<=g.size->(∀i,i<d->g.getD i 0<j)->(∀i,c<=i->i<g.size->j<=g.getD i 0)->
  (∀i,i<below.go g j f d c->g.getD i 0<j)/\(∀i,below.go g j f d c<=i->i<g.size->j<=g.getD i 0)/\below.go g j f d c<=g.size
 |0,d,c,hf,hl,hs,h1,h2=>by
  have:d=c:=by omega
  subst this;exact⟨h1,h2,hs⟩
 |f+1,d,c,hf,hl,hs,h1,h2=>by
  unfold below.go;by_cases h:d<c
  .rw[aR h];dsimp only;have p:(d+c) / 2<c:=by omega
   have o:d<=(d+c) / 2:=by omega
   have e:g.getD ((d+c) / 2) j=g.getD ((d+c) / 2) 0:=by
    have:(d+c) / 2<g.size:=by omega
    simp[Array.getD,this]
   by_cases l:g.getD ((d+c) / 2) j<j
   .rw[aR l];refine tH g j hr f _ c (by omega) (by omega) hs (λi n=>?_) h2;rw[e]at l;by_cases k:i=(d+c) / 2
    .rw[k];exact l
    .exact cH (hr i _ (by omega) (by omega)) l
   .rw[aS l];refine tH g j hr f d _ (by omega) (by omega) (by omega) h1 λi n m=>?_;rw[e]at l;by_cases k:i=(d+c) / 2
    .rw[k];omega
    .exact aO (by omega) (bg (hr ((d+c) / 2) i (by omega) m))
  .rw[aS h];have:d=c:=by omega
   subst this;exact⟨h1,h2,hs⟩
abbrev xV(α:Type):=Nat->Option α
abbrev Ow:=xV (Int×Value)
section
variable {α:Type}
def PL(m:Nat)(ow:xV α):List (Nat×α):=(List.range (m+1)).filterMap λj=>(ow j).map λe=>(j,e)
def pre(j:Nat)(ow:xV α):List (Nat×α):=(List.range j).filterMap λj=>(ow j).map λe=>(j,e)
def n9(j:Nat)(ow:xV α):pre (j+1) ow=pre j ow++((ow j).map λe=>(j,e)).toList:=by unfold pre;rw[cL,cN];congr 1
def uv{j:Nat}{ow:xV α}:∀p∈pre j ow,p.1<j/\ow p.1=some p.2:=λp a=>by unfold pre at a;obtain⟨i,c,e⟩:=bD.mp a;obtain⟨x,b,rfl⟩:=cI.mp e;exact⟨aT.mp c,b⟩
def JE{j i:Nat}{ow:xV α}{x:α}(a:i<j)(h:ow i=some x):(i,x)∈pre j ow:=by unfold pre;exact bD.mpr ⟨i,aT.mpr a,by rw[h];rfl⟩
theorem pI(ow:xV α):∀j,((pre j ow).map (·.1)).Pairwise (· < ·)
 |0=>List.Pairwise.nil
 |j+1=>by
  rw[n9,a9];refine cU.mpr ⟨pI ow j,?_,λa g b e=>?_⟩
  .cases ow j<;>simp
  .obtain⟨p,f,rfl⟩:=aE.mp g;obtain⟨q,c,rfl⟩:=aE.mp e;have d:=(uv p f).1;cases h:ow j with
   |none=>rw[h]at c;cases c
   |some x=>
    rw[h]at c;have:q=(j,x):=by simpa using c
    rw[this];exact d
theorem nU{a c:Type}{f g:a->Option c}:∀{l:List a},(∀x∈l,f x=g x)->l.filterMap f=l.filterMap g
 |[],_=>rfl
 |x::l,h=>by rw[bh,bh,h x (bj ..),nU λy b=>h y (bx _ b)]
def MU(m j:Nat)(ow:xV α):List (Nat×α):=(List.range' (j+1) (m-j)).filterMap λj=>(ow j).map λe=>(j,e)
def zJ{m j:Nat}(ow:xV α)(a:j<=m):PL m ow=pre j ow++(((ow j).map λe=>(j,e)).toList++MU m j ow):=by rw[<-bW,<-n9];unfold PL pre MU;rw[<-cN];congr 1;rw[cV,cV,show m+1=(j+1)+(m-j) by omega,<-List.range'_append_1];simp
def kG(ow:xV α)(j:Nat)(e:α):xV α:=λi=>if i=j then some e else ow i
def Hc{m j:Nat}{ow:xV α}(b:j<=m)(h:ow j=none)(e:α):PL m ow=pre j ow++MU m j ow/\PL m (kG ow j e)=pre j ow++(j,e)::MU m j ow:=by
 refine⟨by rw[zJ ow b,h];rfl,?_⟩;rw[zJ (kG ow j e) b];have c:pre j (kG ow j e)=pre j ow:=by unfold pre;refine nU λi a=>?_;have:=aT.mp a;unfold kG;rw[aS (by omega)]
 have d:MU m j (kG ow j e)=MU m j ow:=by unfold MU;refine nU λi a=>?_;have:=(cW.mp a).1;unfold kG;rw[aS (by omega)]
 rw[c,d];unfold kG;rw[aR rfl];rfl
end
structure Tb(t:SetTable)(es:Array (Int×Value))(ow:Ow):Prop where
 pl:t.place.toList=(PL t.mask ow).map (·.1)
 es:es.toList=(PL t.mask ow).map (·.2)
 dm:t.dummies = #[]
section
variable {t:SetTable}{es:Array (Int×Value)}{ow:Ow}
def Tb.rise(T:Tb t es ow):∀a b,a<b->b<t.place.size->t.place.getD a 0<t.place.getD b 0:=λa b c d=>by
 have s:=pI ow (t.mask+1);have e:(pre (t.mask+1) ow).map (·.1)=t.place.toList:=T.pl.symm;rw[e]at s;have f:b<t.place.toList.length:=by simpa using d
 have:=(cX.mp s) a b (by omega) f c;simpa[Array.getD,d,cH c d] using this
def Tb.below(T:Tb t es ow)(j:Nat)(u:j<=t.mask+1):below t.place j=(pre j ow).length:=by
 obtain⟨m,l,s⟩:=tH t.place j T.rise t.place.size 0 t.place.size (by omega) (cA _) (aL _) (λi c=>absurd c (cY i)) λi c g=>absurd g (by omega);show below.go t.place j t.place.size 0 t.place.size=_;generalize below.go t.place j t.place.size 0 t.place.size=B at *;have split:∃r,PL t.mask ow=pre j ow++r/\∀p∈r,j<=p.1:=by
  refine⟨(List.range' j (t.mask+1-j)).filterMap λj=>(ow j).map λe=>(j,e),?_,λp n=>?_⟩
  .unfold PL pre;rw[<-cN];congr 1;rw[cV,cV,show t.mask+1=j+(t.mask+1-j) by omega,<-List.range'_append_1];simp
  .obtain⟨i,c,e⟩:=bD.mp n;obtain⟨x,o,rfl⟩:=cI.mp e;exact (cW.mp c).1
 obtain⟨r,e,hr⟩:=split;have f:t.place.toList=(pre j ow).map (·.1)++r.map (·.1):=by rw[T.pl,e,a9]
 have sz:t.place.size=(pre j ow).length+r.length:=by have:=congrArg List.length f;simpa using this
 have k:∀i,i<(pre j ow).length->t.place.getD i 0<j:=λi c=>by
  have d:i<t.place.size:=by omega
  have:t.place.getD i 0=t.place.toList[i]'(by simpa using d):=by simp[Array.getD,d]
  rw[this];simp only[f];rw[List.getElem_append_left (by simpa using c),cZ];exact (uv _ (aW _)).1
 have h:∀i,(pre j ow).length<=i->i<t.place.size->j<=t.place.getD i 0:=λi c d=>by
  have:t.place.getD i 0=t.place.toList[i]'(by simpa using d):=by simp[Array.getD,d]
  rw[this];simp only[f];rw[List.getElem_append_right (by simpa using c),cZ];exact hr _ (aW _)
 rcases c5 B (pre j ow).length with q|q|q
 .have a:=k B q;have b:=l B (aL _) (by omega);omega
 .exact q
 .have a:=m (pre j ow).length q;have b:=h (pre j ow).length (aL _) (by omega);omega
def OG{j:Nat}(d:j<=t.mask):∃r,PL t.mask ow=pre j ow++(((ow j).map λe=>(j,e)).toList++r)/\∀p∈r,j<p.1:=by
 refine⟨(List.range' (j+1) (t.mask-j)).filterMap λj=>(ow j).map λe=>(j,e),?_,λp a=>?_⟩
 .rw[<-bW,<-n9];unfold PL pre;rw[<-cN];congr 1;rw[cV,cV,show t.mask+1=(j+1)+(t.mask-j) by omega,<-List.range'_append_1];simp
 .obtain⟨i,b,e⟩:=bD.mp a;obtain⟨x,c,rfl⟩:=cI.mp e;have:=(cW.mp b).1;omega
def Tb.slot(T:Tb t es ow){j:Nat}(b:j<=t.mask):t.slot j=(match ow j with|some _=>.live (pre j ow).length|none=>.empty)/\(∀x,ow j=some x->es[(pre j ow).length]? = some x):=by
 obtain⟨r,e,hr⟩:=OG (t:=t) (ow:=ow) b;have f:t.place.toList=(pre j ow).map (·.1)++((((ow j).map λe=>(j,e)).toList++r).map (·.1)):=by rw[T.pl,e,a9]
 have d:es.toList=(pre j ow).map (·.2)++((((ow j).map λe=>(j,e)).toList++r).map (·.2)):=by rw[T.es,e,a9]
 have g:t.place[(pre j ow).length]? = ((((ow j).map λe=>(j,e)).toList++r).map (·.1))[0]?:=by rw[<-Array.getElem?_toList,f,List.getElem?_append_right (by simp),ax,c6]
 have c:es[(pre j ow).length]? = ((((ow j).map λe=>(j,e)).toList++r).map (·.2))[0]?:=by rw[<-Array.getElem?_toList,d,List.getElem?_append_right (by simp),ax,c6]
 have hd:has t.dummies j=false:=by rw[T.dm];rfl
 constructor
 .unfold SetTable.slot;dsimp only;rw[T.below j (by omega),g];cases h:ow j with
  |some x=>simp
  |none=>
   have hne:((((none:Option (Int×Value)).map λe=>(j,e)).toList++r).map (·.1))[0]?≠some j:=by
    cases r with
    |nil=>simp
    |cons p r=>have:=hr p (by simp);simp;omega
   rw[aS (by simpa using hne),hd];rfl
 .intro x a;rw[c,a];rfl
end
def AO(m:Nat)(p:Probe):Probe:=
 if p.more>0 then {p with j:=p.j+1,more:=p.more-1} else
 let (i,perturb):=leap m p.i p.perturb
 {p with j:=i,more:=runEnd m i-i,i,perturb}
def at0(m i q:Nat):Probe:={j:=i,more:=runEnd m i-i,i,perturb:=q,dummy:=none}
def st(m:Nat)(h:Int):Nat->Probe
 |0=>at0 m (bits h % (m+1)) (bits h)
 |n+1=>AO m (st m h n)
def lK{m i:Nat}(h:i<=m):i<=runEnd m i/\runEnd m i<=m/\runEnd m i<=i+9:=by unfold runEnd;split<;>omega
structure wX(m:Nat)(p:Probe):Prop where
 i:p.i<=m
 e:p.j+p.more=runEnd m p.i
 d:p.dummy=none
def LX{m i q:Nat}(h:i<=m):wX m (at0 m i q):=⟨h,by have:=lK h;show i+(runEnd m i-i)=runEnd m i;omega,rfl⟩
def KH{m:Nat}{p:Probe}(h:wX m p):wX m (AO m p):=by
 unfold AO;by_cases a:p.more>0
 .rw[aR a];exact⟨h.i,by have:=h.e;show p.j+1+(p.more-1)=runEnd m p.i;omega,h.d⟩
 .rw[aS a];have:(leap m p.i p.perturb).1<=m:=by unfold leap;exact c7 (c8 _ (c9 m))
  have r:=lK this;exact⟨this,by show (leap m p.i p.perturb).1+(runEnd m (leap m p.i p.perturb).1-(leap m p.i p.perturb).1)=runEnd m (leap m p.i p.perturb).1;omega,h.d⟩
theorem FI(m:Nat)(h:Int):∀n,wX m (st m h n)
 |0=>LX (c7 (c8 _ (c9 m)))
 |n+1=>KH (FI m h n)
def rY(m:Nat)(h:Int)(n:Nat):(st m h n).j<=m:=by have k:=FI m h n;have:=lK k.i;have:=k.e;omega
def lp(m:Nat)(h:Int):Nat->Nat×Nat
 |0=>(bits h % (m+1),bits h)
 |k+1=>leap m (lp m h k).1 (lp m h k).2
theorem BE(m:Nat)(h:Int):∀k,(lp m h k).1<=m
 |0=>c7 (c8 _ (c9 m))
 |k+1=>by show (leap m _ _).1<=m;unfold leap;exact c7 (c8 _ (c9 m))
theorem Ad{m:Nat}{h:Int}{n i q:Nat}(b:i<=m)(e:st m h n=at0 m i q):∀r,r<=runEnd m i-i->st m h (n+r)={j:=i+r,more:=runEnd m i-i-r,i,perturb:=q,dummy:=none}
 |0,_=>e
 |r+1,hr=>by have a:=Ad b e r (by omega);show AO m (st m h (n+r))=_;rw[a];unfold AO;rw[aR (show runEnd m i-i-r>0 by omega)];show ({j:=i+r+1,more:=runEnd m i-i-r-1,i,perturb:=q,dummy:=none}:Probe)=_;congr 1
def nk(m:Nat)(h:Int):Nat->Nat
 |0=>0
 |k+1=>nk m h k+(runEnd m (lp m h k).1-(lp m h k).1)+1
theorem Ku(m:Nat)(h:Int):∀k,nk m h k<=10*k
 |0=>aL _
 |k+1=>by have:=Ku m h k;have:=lK (BE m h k);show nk m h k+_+1<=_;omega
theorem xj(m:Nat)(h:Int):∀{a b:Nat},a<b->nk m h a<nk m h b
 |a,b+1,hab=>by
  by_cases e:a=b
  .rw[e];show nk m h b<nk m h b+_+1;omega
  .have:=xj m h (a:=a) (b:=b) (by omega);show _<nk m h b+_+1;omega
theorem FW(m:Nat)(h:Int):∀k,st m h (nk m h k)=at0 m (lp m h k).1 (lp m h k).2
 |0=>rfl
 |k+1=>by have e:=FW m h k;have a:=BE m h k;have r:=lK a;have:=Ad a e (runEnd m (lp m h k).1-(lp m h k).1) (aL _);show AO m (st m h _)=_;rw[this];unfold AO;rw[aS (by simp)];rfl
theorem NN(m:Nat)(h:Int):∀k,(lp m h k).2=bits h / 32 ^ k
 |0=>by simp[lp]
 |k+1=>by show (lp m h k).2 / 32=_;rw[NN m h k,Nat.div_div_eq_div_mul,dc]
def JJ(h:Int):bits h<2 ^ 64:=by unfold bits;have b:=Int.emod_nonneg h (show (2 ^ 64:Int)≠0 by decide);have a:=Int.emod_lt_of_pos h (show (0:Int)<2 ^ 64 by decide);omega
def Ox(m:Nat)(h:Int)(k:Nat)(a:13<=k):(lp m h k).2=0:=by rw[NN];refine Nat.div_eq_of_lt (aF (JJ h) ?_);exact aO (show 2 ^ 64<=32 ^ 13 by decide) (de (by decide) a)
def Qm(m i:Nat):Nat:=(i*5+1) % (m+1)
def gF(m:Nat):Nat->Nat->Nat
 |0,i=>i
 |r+1,i=>gF m r (Qm m i)
theorem qD(m:Nat):∀a b i,gF m (a+b) i=gF m b (gF m a i)
 |0,b,i=>by rw[aH];rfl
 |a+1,b,i=>by rw[Nat.succ_add];exact qD m a b (Qm m i)
def GD(m r i:Nat):gF m (r+1) i=Qm m (gF m r i):=qD m r 1 i
theorem FN(m:Nat)(h:Int):∀r,(lp m h (13+r)).1=gF m r (lp m h 13).1
 |0=>rfl
 |r+1=>by rw[GD,<-FN m h r];show (leap m (lp m h (13+r)).1 (lp m h (13+r)).2).1=_;rw[Ox m h (13+r) (by omega)];rfl
def Ms(m:Nat):Prop:=m=7\/m=31\/m=127
def Oj(m:Nat):Bool:=(gF m (m+1) 0==0)&&(List.range (m+1)).all λj=>(List.range (m+1)).any λr=>gF m r 0==j
def QQ:Oj 7=true:=by decide +kernel
def Ql:Oj 31=true:=by decide +kernel
def Od:Oj 127=true:=by decide +kernel
def Ax{m:Nat}(k:Ms m){i j:Nat}(l:i<=m)(g:j<=m):∃r,r<=m+1/\gF m r i=j:=by
 have ok:Oj m=true:=by
  rcases k with rfl|rfl|rfl
  .exact QQ
  .exact Ql
  .exact Od
 unfold Oj at ok;rw[bS]at ok;have c:gF m (m+1) 0=0:=by simpa using ok.1
 have get:∀j,j<=m->∃r,r<m+1/\gF m r 0=j:=λj g=>by have:=cE.mp ok.2 j (aT.mpr (by omega));obtain⟨r,hr,e⟩:=dg.mp this;exact⟨r,aT.mp hr,by simpa using e⟩
 obtain⟨a,n,f⟩:=get i l;obtain⟨b,o,d⟩:=get j g;by_cases h:a<=b
 .refine⟨b-a,by omega,?_⟩;rw[<-f,<-qD,show a+(b-a)=b by omega,d]
 .refine⟨m+1-a+b,by omega,?_⟩;rw[<-f,<-qD,show a+(m+1-a+b)=(m+1)+b by omega,qD,c,d]
def OW{m:Nat}(b:Ms m)(h:Int){j:Nat}(a:j<=m):∃K,K<turns m/\(st m h (nk m h K)).j=j:=by obtain⟨r,hr,e⟩:=Ax b (BE m h 13) a;refine⟨13+r,by unfold turns;omega,?_⟩;rw[FW m h (13+r)];show (lp m h (13+r)).1=j;rw[FN,e]
theorem Kv{P:Nat->Prop}:∀n,P n->∃k,k<=n/\P k/\∀i,i<k->¬P i
 |0,h=>⟨0,aL _,h,λi b=>absurd b (cY i)⟩
 |n+1,h=>by
  by_cases q:∃k,k<=n/\P k
  .obtain⟨k,d,a⟩:=q;obtain⟨j,c,r⟩:=Kv k a;exact⟨j,by omega,r⟩
  .exact⟨n+1,aL _,h,λi b a=>q ⟨i,by omega,a⟩⟩
structure Oq{α:Type}(m:Nat)(ow:xV α)(h:Int)(N:Nat):Prop where
 lt:N<10*turns m
 lk:∃K,K<turns m/\N<=nk m h K
 no:ow (st m h N).j=none
 bf:∀i,i<N->ow (st m h i).j≠none
def yz{d:Type}{m:Nat}{ow:xV d}(c:Ms m)(h:Int)(a:∃j,j<=m/\ow j=none):∃N,Oq m ow h N:=by obtain⟨j,b,k⟩:=a;obtain⟨K,l,e⟩:=OW c h b;obtain⟨N,f,i,g⟩:=Kv (P:=λn=>ow (st m h n).j=none) (nk m h K) (by rw[e];exact k);have:=Ku m h K;exact⟨N,by omega,⟨K,l,f⟩,i,g⟩
section
variable {t:SetTable}{es:Array (Int×Value)}{ow:Ow}{hashAt:Nat->Int}
theorem yE(T:Tb t es ow)(s:∀i,hashAt i=(es[i]?.map (·.1)).getD 0){h:Int}{N:Nat}(q:ow (st t.mask h N).j=none)(r:∀i,i<N->ow (st t.mask h i).j≠none) :
  ∀(f k:Nat),k<=N->N<k+f->
  (∃n y,k<=n/\n<N/\ow (st t.mask h n).j=some (h,y)/\(∀i,k<=i->i<n->∀x,ow (st t.mask h i).j=some x->x.1≠h)/\
   probe.go t hashAt h f (st t.mask h k)=some (.candidate (st t.mask h n).j (pre (st t.mask h n).j ow).length (st t.mask h (n+1))))\/
  ((∀i,k<=i->i<N->∀x,ow (st t.mask h i).j=some x->x.1≠h)/\probe.go t hashAt h f (st t.mask h k)=some (.empty (st t.mask h N).j none))
 |0,k,hk,hf=>absurd hf (by omega)
 |f+1,k,hk,hf=>by
  have p:=T.slot (rY t.mask h k);by_cases o:k=N
  .subst o;right;refine⟨λi b a=>absurd a (by omega),?_⟩;unfold probe.go;rw[p.1,q];dsimp only;rw[(FI t.mask h k).d]
  .have c:k<N:=by omega
   cases e:ow (st t.mask h k).j with
   |none=>exact absurd e (r k c)
   |some x=>
    have w:=p.2 x e;have v:hashAt (pre (st t.mask h k).j ow).length=x.1:=by rw[s,w];rfl
    have g:probe.go t hashAt h (f+1) (st t.mask h k)=if (x.1==h)=true then some (.candidate (st t.mask h k).j (pre (st t.mask h k).j ow).length (st t.mask h (k+1))) else probe.go t hashAt h f (st t.mask h (k+1)):=by
     conv=>lhs;unfold probe.go
     rw[p.1,e];dsimp only;rw[v];rfl
    by_cases l:x.1=h
    .left;refine⟨k,x.2,aL _,c,?_,λi b a=>absurd a (by omega),?_⟩
     .rw[e,<-l]
     .rw[g,aR (by simpa using l)]
    .rw[g,aS (by simpa using l)];have nk:∀{n:Nat},k+1<=n->(∀i,k+1<=i->i<n->∀x,ow (st t.mask h i).j=some x->x.1≠h)->∀i,k<=i->i<n->∀x,ow (st t.mask h i).j=some x->x.1≠h:=λ{n} _ hn i b a y hy=>by
      by_cases m:i=k
      .rw[m,e]at hy;cases hy;exact l
      .exact hn i (by omega) a y hy
     rcases yE T s q r f (k+1) (by omega) (by omega) with⟨n,y,b,a,u,z,A⟩|⟨b,a⟩
     .exact .inl ⟨n,y,by omega,a,u,nk b z,A⟩
     .exact .inr ⟨nk (by omega) b,a⟩
end
def OJ(m:Nat)(ow:Ow):Prop:=∀j e,j<=m->ow j=some e->∃n,(st m e.1 n).j=j/\∀i,i<n->ow (st m e.1 i).j≠none
def Iy{m:Nat}{ow:Ow}(P:OJ m ow){h:Int}{N:Nat}(F:Oq m ow h N)(x:Vq):OJ m (kG ow (st m h N).j (h,x)):=λj e g d=>by
 have keep:∀i,ow i≠none->kG ow (st m h N).j (h,x) i≠none:=λi f=>by
  unfold kG;split
  .simp
  .exact f
 unfold kG at d;by_cases c:j=(st m h N).j
 .rw[aR c]at d;cases d;exact⟨N,c.symm,λi f=>keep _ (F.bf i f)⟩
 .rw[aS c]at d;obtain⟨n,a,b⟩:=P j e g d;exact⟨n,a,λi f=>keep _ (b i f)⟩
def KU{m:Nat}{ow:Ow}(P:OJ m ow){h:Int}{N:Nat}(F:Oq m ow h N){j:Nat}{y:Vq}(c:j<=m)(e:ow j=some (h,y)):∃n,n<N/\(st m h n).j=j:=by
 obtain⟨n,a,b⟩:=P j (h,y) c e;refine⟨n,?_,a⟩;rcases c5 n N with q|q|q
 .exact q
 .have:=F.no;rw[<-q,a,e]at this;cases this
 .exact absurd F.no (b N q)
def LG{t:SetTable}{es:Array (Int×Value)}{ow:Ow}(T:Tb t es ow){j:Nat}(f:j<=t.mask)(h:ow j=none)(e:Int×Value) :
  Tb (t.put j).1 (insertAt es (t.put j).2 e) (kG ow j e)/\(t.put j).1={t with place:=insertAt t.place (t.put j).2 j}:=by
 obtain⟨b,c⟩:=Hc f h e;have d:(t.put j).2=(pre j ow).length:=T.below j (by omega);have hd:has t.dummies j=false:=by rw[T.dm];rfl
 have a:(t.put j).1={t with place:=insertAt t.place (t.put j).2 j}:=by unfold SetTable.put;dsimp only;rw[hd];rfl
 refine⟨⟨?_,?_,?_⟩,a⟩
 .rw[a];show (insertAt t.place (t.put j).2 j).toList=(PL t.mask (kG ow j e)).map (·.1);rw[SetTable.toList_insertAt,d,T.pl,b,c,a9,a9,dh (by simp),List.drop_left' (by simp)];rfl
 .rw[a];show (insertAt es (t.put j).2 e).toList=(PL t.mask (kG ow j e)).map (·.2);rw[SetTable.toList_insertAt,d,T.es,b,c,a9,a9,dh (by simp),List.drop_left' (by simp)];rfl
 .rw[a];exact T.dm
theorem zO{f:Nat->Bool}:∀(n k:Nat),k<n->f k=true->(∀i,i<k->f i=false)->(List.range n).find? f=some k
 |n,k,hk,h1,h2=>by rw[List.find?_eq_some_iff_append];refine⟨h1,List.range k,List.range' (k+1) (n-k-1),?_,λa b=>by rw[h2 a (aT.mp b)];rfl⟩;rw[cV,cV,show n=k+((n-k-1)+1) by omega,<-List.range'_append_1,List.range'_succ];simp
theorem BP{m:Nat}{owner:Array (Option Nat)}{h:Int}{N:Nat}(w:owner.size=m+1)(l:owner.getD (st m h N).j none=none)(d:∀i,i<N->owner.getD (st m h i).j none≠none) :
  ∀(f k:Nat),nk m h k<=N->(∃K,K<k+f/\N<=nk m h K)->layClean.free m owner f (lp m h k).1 (lp m h k).2=some (st m h N).j
 |0,k,hk,⟨K,hK,hN⟩=>by have:=xj m h (show K<k by omega);omega
 |f+1,k,hk,⟨K,hK,hN⟩=>by
  have n:=BE m h k;have y:=lK n;have e:=FW m h k;have g:∀r,r<=runEnd m (lp m h k).1-(lp m h k).1->(st m h (nk m h k+r)).j=(lp m h k).1+r:=λr hr=>by rw[Ad n e r hr]
  have c:∀j,j<=m->owner.getD j (some 0)=owner.getD j none:=λj A=>by
   have:j<owner.size:=by omega
   simp[Array.getD,this]
  unfold layClean.free;by_cases u:N<=nk m h k+(runEnd m (lp m h k).1-(lp m h k).1)
  .have x:=zO (f:=λq=>(owner.getD ((lp m h k).1+q) (some 0)).isNone) (runEnd m (lp m h k).1+1-(lp m h k).1) (N-nk m h k) (by omega) (by
    have a:=g (N-nk m h k) (by omega);rw[show nk m h k+(N-nk m h k)=N by omega]at a;rw[<-a,c _ (rY m h N),l];rfl) λi s=>by
    have a:=g i (by omega);have:=d (nk m h k+i) (by omega);rw[a]at this;rw[c _ (by rw[<-a];exact rY m h _)];cases b:owner.getD ((lp m h k).1+i) none with
    |none=>exact absurd b this
    |some _=>rfl
   rw[x];dsimp only;have a:=g (N-nk m h k) (by omega);rw[show nk m h k+(N-nk m h k)=N by omega]at a;rw[a]
  .have p:(List.range (runEnd m (lp m h k).1+1-(lp m h k).1)).find? (λq=>(owner.getD ((lp m h k).1+q) (some 0)).isNone)=none:=by
    rw[List.find?_eq_none];intro q b;have b:=aT.mp b;have a:=g q (by omega);have:=d (nk m h k+q) (by omega);rw[a]at this;rw[c _ (by rw[<-a];exact rY m h _)];cases o:owner.getD ((lp m h k).1+q) none with
    |none=>exact absurd o this
    |some _=>simp
   rw[p];dsimp only;have v:nk m h (k+1)<=N:=by show nk m h k+(runEnd m (lp m h k).1-(lp m h k).1)+1<=N;omega
   refine BP w l d f (k+1) v ⟨K,?_,hN⟩;rcases Nat.lt_or_ge k K with q|q
   .omega
   .exfalso;rcases Nat.lt_or_ge K k with z|z
    .have:=xj m h z;omega
    .have:K=k:=by omega
     rw[this]at hN;omega
structure Ly(m:Nat)(hs:LI)(k:Nat)(owner:Array (Option Nat)):Prop where
 sz:owner.size=m+1
 pm:((PL m λj=>owner.getD j none).map (·.2)).Perm (List.range k)
 pt:∀j i,j<=m->owner.getD j none=some i->∃h,hs[i]? = some h/\∃n,(st m h n).j=j/\∀q,q<n->owner.getD (st m h q).j none≠none
theorem zj{a:Type}{ow:xV a}:∀n,(∀j,j<n->ow j≠none)->(pre n ow).length=n
 |0,_=>rfl
 |n+1,h=>by
  rw[n9,aU,zj n λj b=>h j (by omega)];cases e:ow n with
  |none=>exact absurd e (h n (by omega))
  |some x=>simp
def room{a:Type}{m:Nat}{ow:xV a}(h:(PL m ow).length<=m):∃j,j<=m/\ow j=none:=aP λz=>by have:=zj (ow:=ow) (m+1) λj b e=>z ⟨j,by omega,e⟩;have e:PL m ow=pre (m+1) ow:=rfl;rw[e]at h;omega
def Jq{m:Nat}(o:Ms m){hs:LI}{k:Nat}{owner:Array (Option Nat)}(L:Ly m hs k owner)(A:k<=m){h:Int}(w:hs[k]? = some h) :
  ∃j,layClean.free m owner (turns m) (bits h % (m+1)) (bits h)=some j/\Ly m hs (k+1) (owner.setIfInBounds j (some k)):=by
 have z:(PL m λj=>owner.getD j none).length=k:=by have:=L.pm.length_eq;simpa using this
 obtain⟨N,F⟩:=yz o h (room (m:=m) (ow:=λj=>owner.getD j none) (by omega));have fr:=BP L.sz F.no F.bf (turns m) 0 (cA _) (by obtain⟨K,a,b⟩:=F.lk;exact⟨K,by omega,b⟩)
 refine⟨(st m h N).j,fr,?_⟩;have u:=rY m h N;have g:∀i,(owner.setIfInBounds (st m h N).j (some k)).getD i none=kG (λj=>owner.getD j none) (st m h N).j k i:=λi=>by
  have x:=L.sz;unfold kG;by_cases e:i=(st m h N).j
  .rw[aR e,e];have:(st m h N).j<owner.size:=by omega
   simp[Array.getD,this]
  .rw[aS e];simp only[cR,Array.getElem?_setIfInBounds];rw[aS (Ne.symm e)]
 have v:(λi=>(owner.setIfInBounds (st m h N).j (some k)).getD i none)=kG (λj=>owner.getD j none) (st m h N).j k:=funext g;obtain⟨p,r⟩:=Hc (ow:=λj=>owner.getD j none) u F.no k;refine⟨by simp[L.sz],?_,λj i s e=>?_⟩
 .rw[v,r,a9,b8,cL];have l:=L.pm;rw[p,a9]at l;exact (dw).trans (((l.cons k)).trans (List.perm_append_singleton k (List.range k)).symm)
 .have keep:∀q,owner.getD q none≠none->(owner.setIfInBounds (st m h N).j (some k)).getD q none≠none:=λq f=>by
   rw[g];unfold kG;split
   .simp
   .exact f
  rw[g]at e;unfold kG at e;by_cases c:j=(st m h N).j
  .rw[aR c]at e;cases e;exact⟨h,w,N,c.symm,λq f=>keep _ (F.bf q f)⟩
  .rw[aS c]at e;obtain⟨y,a,n,b,d⟩:=L.pt j i s e;exact⟨y,a,n,b,λq f=>keep _ (d q f)⟩
theorem Bi{m:Nat}(d:Ms m){hs:LI}(f:hs.length<=m):∀(a:LI) (k:Nat) (owner:Array (Option Nat)),hs.drop k=a->k+a.length=hs.length->Ly m hs k owner->
  ∃owner',a.foldl (init:=some (owner,k)) (λb h=>do
   let (owner,k) <-b
   let j <-layClean.free m owner (turns m) (bits h % (m+1)) (bits h)
   pure (owner.setIfInBounds j (some k),k+1))=some (owner',hs.length)/\Ly m hs hs.length owner'
 |[],k,owner,_,hk,L=>by
  have:k=hs.length:=by simpa using hk
  subst this;exact⟨owner,rfl,L⟩
 |h::a,k,owner,hd,hk,L=>by
  have i:k<hs.length:=by simp at hk;omega
  have n:hs[k]? = some h:=by have:=congrArg (λl=>l[0]?) hd;simpa using this
  obtain⟨j,e,p⟩:=Jq d L (by omega) n;have c:hs.drop (k+1)=a:=by rw[<-List.drop_drop,hd];rfl
  obtain⟨o,eo,g⟩:=Bi d f a (k+1) _ c (by simp at hk;omega) p;refine⟨o,?_,g⟩;rw[bX];show List.foldl _ ((layClean.free m owner (turns m) (bits h % (m+1)) (bits h)).bind λj=>some (owner.setIfInBounds j (some k),k+1)) a=_;rw[e];exact eo
theorem vY{a:Type}(l:List a):∀n,(List.range n).filterMap (λi=>l[i]?)=l.take n
 |0=>rfl
 |n+1=>by rw[cL,cN,vY l n,cO];congr 1
theorem JF{m:Nat}(Q:Ms m)(es:Array (Int×Value))(X:es.size<=m)(finger r:Nat)(v k:Bool):∃t g ow,laid m finger r v k (es.map (·.1))=some (t,g)/\
  t.mask=m/\t.led=v/\t.plain=k/\Tb t (g.filterMap (es[·]?)) ow/\OJ m ow/\(g.filterMap (es[·]?)).toList.Perm es.toList:=by
 let hs:LI:=es.toList.map (·.1);have y:hs.length=es.size:=by simp[hs]
 have U:Ly m hs 0 (Array.replicate (m+1) none):=by
  have C:∀j,(Array.replicate (m+1) (none:Option Nat)).getD j none=none:=λj=>by rw[cR,Array.getElem?_replicate];split<;>rfl
  refine⟨by simp,?_,λj i H e=>?_⟩
  .have:(PL m λj=>(Array.replicate (m+1) (none:Option Nat)).getD j none)=[]:=by unfold PL;rw[List.filterMap_eq_nil_iff];intro j _;show Option.map _ ((Array.replicate (m+1) (none:Option Nat)).getD j none)=none;rw[C];rfl
   rw[this];exact List.Perm.nil
  .rw[C]at e;cases e
 obtain⟨c,eo,L⟩:=Bi Q (hs:=hs) (by omega) hs 0 _ (by simp) (by simp) U;have z:layClean m (es.map (·.1))=some c:=by
  unfold layClean;rw[<-Array.foldl_toList];have:(es.map (·.1)).toList=hs:=by simp[hs]
  rw[this];have I:=eo;unfold hs at I ⊢;rw[I];rfl
 let f:List (Nat×Nat):=PL m λj=>c.getD j none;have J:(f.map (·.2)).Perm (List.range es.size):=by rw[<-y];exact L.pm
 have lt:∀p∈f,p.2<es.size:=λp w=>aT.mp (J.mem_iff.mp (aE.mpr ⟨p,w,rfl⟩));let ow:Ow:=λj=>(c.getD j none).bind (es[·]?);have o:PL m ow=f.filterMap λp=>(es[p.2]?).map λe=>(p.1,e):=by show (List.range (m+1)).filterMap _=((List.range (m+1)).filterMap _).filterMap _;rw[List.filterMap_filterMap];refine nU λj _=>?_;show ((c.getD j none).bind (es[·]?)).map _=((c.getD j none).map λe=>(j,e)).bind _;cases c.getD j none<;>rfl
 have D:∀p∈f,∃e,es[p.2]? = some e:=λp w=>⟨es[p.2]'(lt p w),by simp[lt p w]⟩;have P:∀l:List (Nat×Nat),(∀p∈l,∃e,es[p.2]? = some e)->(l.filterMap λp=>(es[p.2]?).map λe=>(p.1,e)).map (·.1)=l.map (·.1)/\(l.filterMap λp=>(es[p.2]?).map λe=>(p.1,e)).map (·.2)=(l.map (·.2)).filterMap (es[·]?):=λl=>by
  induction l with
  |nil=>exact λ_=>⟨rfl,rfl⟩
  |cons p l ih=>intro h;obtain⟨e,s⟩:=h p (bj ..);obtain⟨a,b⟩:=ih λq u=>h q (bx _ u);rw[b8,dy (b:=(p.1,e)) (by rw[s];rfl),b8,b8,a,b,b8,dy s];exact⟨rfl,rfl⟩
 obtain⟨S,F⟩:=P f D;have K:((f.map (·.2)).toArray.filterMap (es[·]?)).toList=(PL m ow).map (·.2):=by rw[o,F];simp
 refine⟨_,_,ow,by unfold laid;rw[z];rfl,rfl,rfl,rfl,⟨?_,K,rfl⟩,λj e H s=>?_,?_⟩
 .show (f.map (·.1)).toArray.toList=(PL m ow).map (·.1);rw[o,S]
 .show ∃n,_/\_;cases u:c.getD j none with
  |none=>
   have:ow j=none:=by show (c.getD j none).bind _=none;rw[u];rfl
   rw[this]at s;cases s
  |some i=>
   have R:es[i]? = some e:=by
    have:ow j=es[i]?:=by show (c.getD j none).bind _=_;rw[u];rfl
    rw[<-this];exact s
   obtain⟨h,a,n,b,d⟩:=L.pt j i H u;have N:h=e.1:=by
    have:hs[i]? = some e.1:=by simp[hs,R]
    rw[this]at a;cases a;rfl
   subst N;refine⟨n,b,λq B=>?_⟩;have:=d q B;cases x:c.getD (st m e.1 q).j none with
   |none=>exact absurd x this
   |some i'=>have mem:(st m e.1 q).j<=m:=rY m e.1 q;have:((st m e.1 q).j,i')∈f:=JE (j:=m+1) (by omega) x;obtain⟨Y,A⟩:=D _ this;show (c.getD (st m e.1 q).j none).bind _≠none;rw[x];show es[i']?≠none;rw[A];simp
 .refine List.Perm.trans (List.Perm.of_eq K) ?_;rw[o,F];have E:=J.filterMap (es[·]?);have:(List.range es.size).filterMap (es[·]?)=es.toList:=by have:=vY es.toList es.size;rw[cD (by simp)]at this;rw[<-this];exact nU λi _=>by rw[Array.getElem?_toList]
  rw[this]at E;exact E
end L2.Sp
namespace L2.Sp
open PySem PySem.SetTable
section
variable {prog:Program}{w:World}{A:Around}{E:Vq->Shared->Prop}{s:Sq}
abbrev TK(prog:Program)(w:World)(h:Heap)(ks:LI)(a:Addr):Prop:=IsTupleKey (intKind prog w) h ks a
def yH{ks:LI}{vs:List Vq}(h:ItemsAre (intKind prog w) ks vs):∀v∈vs,∃i t,v=.int i t:=by
 induction h with
 |nil=>intro v hv;cases hv
 |@cons k v' ks vs h1 _ ih=>
  intro v hv;rcases aG.mp hv with rfl|hv
  .obtain⟨t,rfl⟩:=Value.isInt_shape h1;exact⟨k,t,rfl⟩
  .exact ih v hv
def rN{ks:LI}{a:Addr}{Q:Bool->Shared->Prop}(j:TK prog w s.heap ks a)(h:Q false s):wpAny (model prog w) A (ofAClassStatement 8 (.ref a)) Q E s:=by
 have m:=j.typeIs;obtain⟨o,b,n,k,p,hd,l⟩:=j;have c:=yH l;unfold ofAClassStatement;refine aq (wpAny_typeOf m ?_);dsimp only;refine aq (ao ?_);show wpAny _ _ (if (!true)=true then _ else _) Q E s;rw[aS (by decide)];refine aq (wpAny_seqItems k hd ?_);dsimp only;refine aq ?_;show wpAny _ _ (forIn b _ _) _ _ s;rw[<-dz];refine wpAny_forIn_list _ (λf r d=>r.1=none/\d=s/\∀v∈f,∃i t,v=.int i t) _ ?_ ?_ _ _ ⟨rfl,rfl,c⟩
 .rintro v f r d ⟨hr,rfl,g⟩;obtain⟨i,t,rfl⟩:=g v bj;refine aq (wpAny_of_eq (t:=ofAClassStatement 7 (.int i t)) (a:=false) (by unfold ofAClassStatement;rfl) ?_);simp only[cg,if_false];exact ao ⟨rfl,rfl,λu e=>g u (bx _ e)⟩
 .rintro⟨q,x⟩ d ⟨hr,rfl,_⟩;simp only at hr;subst hr;exact ao h
def Ds{ks:LI}{a:Addr}{Q:Bool->Shared->Prop}(j:TK prog w s.heap ks a)(h:Q true s):wpAny (model prog w) A (hashByValue 8 (.ref a)) Q E s:=by
 have m:=j.typeIs;obtain⟨o,b,n,k,p,hd,l⟩:=j;have c:=yH l;unfold hashByValue;refine aq (wpAny_specialOf m F.slot_tuple_hash.lookup ?_);dsimp only;refine aq (wpAny_seqItems k hd ?_);refine aq ?_;show wpAny _ _ (forIn b _ _) _ _ s;rw[<-dz];refine wpAny_forIn_list _ (λf r d=>r.1=none/\d=s/\∀v∈f,∃i t,v=.int i t) _ ?_ ?_ _ _ ⟨rfl,rfl,c⟩
 .rintro v f r d ⟨hr,rfl,g⟩;obtain⟨i,t,rfl⟩:=g v bj;refine aq (wpAny_of_eq (t:=hashByValue 7 (.int i t)) (a:=true) (by unfold hashByValue;rfl) ?_);simp only[dA,cg,if_false];exact ao ⟨rfl,rfl,λu e=>g u (bx _ e)⟩
 .rintro⟨q,x⟩ d ⟨hr,rfl,_⟩;simp only at hr;subst hr;exact ao h
def MY{ks:LI}{a:Addr}{l:List Vq}{Q:Bool->Shared->Prop}(j:TK prog w s.heap ks a)(k:∀y∈l,∃b d,y=.ref b/\TK prog w s.heap d b)(h:Q false s) :
  wpAny (model prog w) A (searchCouldBeSeen (.ref a) l) Q E s:=by
 unfold searchCouldBeSeen;refine aq ?_;refine wpAny_forIn_list _ (λg r f=>r.1=none/\f=s/\∀y∈g,∃b d,y=.ref b/\TK prog w s.heap d b) _ ?_ ?_ _ _ ⟨rfl,rfl,k⟩
 .rintro v g r f ⟨hr,rfl,e⟩;obtain⟨b,d,rfl,i⟩:=e v bj;dsimp only;split
  .exact ao ⟨rfl,rfl,λu c=>e u (bx _ c)⟩
  .refine aq (wpAny_eqIsQuiet_tuple j ?_);simp only[dA,cg,if_false];refine aq (wpAny_eqIsQuiet_tuple i ?_);simp only[dA,cg,if_false];refine aq (rN j ?_);simp only[cg,if_false];refine aq (rN i ?_);simp only[cg,if_false];exact ao ⟨rfl,rfl,λu c=>e u (bx _ c)⟩
 .rintro⟨m,n⟩ f ⟨hr,rfl,_⟩;simp only at hr;subst hr;exact ao h
end
end L2.Sp
namespace L2.Sp
open PySem PySem.SetTable
section
variable {prog:Program}{w:World}
abbrev pF(prog:Program)(w:World)(k:LI):Int:=tupleKeyHash (intKind prog w) k
inductive EK(prog:Program)(w:World)(G:LI->Addr->Prop):List (Int×Value)->LL->Prop
 |nil:EK prog w G [] []
 |cons {k:LI} {a:Addr} {es:List (Int×Value)} {ks:LL}:G k a->EK prog w G es ks->EK prog w G ((pF prog w k,.ref a)::es) (k::ks)
variable {G:LI->Addr->Prop}{es es':List (Int×Value)}{ks:LL}
def EK.perm(K:EK prog w G es ks)(p:es'.Perm es):∃e,EK prog w G es' e/\e.Perm ks:=by
 replace p:=p.symm;induction p generalizing ks with
 |nil=>exact⟨ks,K,.refl _⟩
 |cons x _ ih=>
  cases K with
  |cons a b=>obtain⟨k,c,d⟩:=ih b;exact⟨_::k,.cons a c,d.cons _⟩
 |swap x y l=>
  cases K with
  |cons a b=>
   cases b with
   |cons c d=>exact⟨_,.cons c (.cons a d),.swap ..⟩
 |trans _ _ ih1 ih2=>obtain⟨k,a,b⟩:=ih1 K;obtain⟨f,c,d⟩:=ih2 a;exact⟨f,c,d.trans b⟩
def EK.mem(K:EK prog w G es ks){e:Int×Value}(b:e∈es):∃k a,k∈ks/\e=(pF prog w k,.ref a)/\G k a:=by
 induction K with
 |nil=>cases b
 |@cons k a es ks t _ ih=>
  rcases aG.mp b with rfl|b
  .exact⟨k,a,bj ..,rfl,t⟩
  .obtain⟨c,d,x,y⟩:=ih b;exact⟨c,d,bx _ x,y⟩
def EK.has(K:EK prog w G es ks){k:LI}(b:k∈ks):∃a,(pF prog w k,Value.ref a)∈es/\G k a:=by
 induction K with
 |nil=>cases b
 |@cons k' a es ks t _ ih=>
  rcases aG.mp b with rfl|b
  .exact⟨a,bj ..,t⟩
  .obtain⟨c,x,y⟩:=ih b;exact⟨c,bx _ x,y⟩
def EK.len(K:EK prog w G es ks):es.length=ks.length:=by
 induction K with
 |nil=>rfl
 |cons _ _ ih=>simp[ih]
def EK.keeps{b:LI->Addr->Prop}(K:EK prog w G es ks)(f:∀k a,G k a->b k a):EK prog w b es ks:=by
 induction K with
 |nil=>exact .nil
 |cons t _ ih=>exact .cons (f _ _ t) ih
end
section
variable {prog:Program}{w:World}{A:Around}{E:Vq->Shared->Prop}{s:Sq}
structure TS(prog:Program)(w:World)(G:LI->Addr->Prop)(es:Array (Int×Value))(t:SetTable)(ow:Ow)(ks:LL):Prop where
 tb:Tb t es ow
 pt:OJ t.mask ow
 ms:Ms t.mask
 pl:t.plain=true
 rm:es.size*5<t.mask*3
 ld:t.led=!w.params.followText "set-order"
 ek:EK prog w G es.toList ks
def Tb.szs{t:SetTable}{es:Array (Int×Value)}{ow:Ow}(T:Tb t es ow):t.place.size=es.size:=by have a:=congrArg List.length T.pl;have b:=congrArg List.length T.es;simp only[ax,bA]at a b;omega
def Tb.fit{t:SetTable}{es:Array (Int×Value)}{ow:Ow}(T:Tb t es ow)(h:es.size<=t.mask):t.fits es.size=true:=by
 have a:=T.szs;have d:t.dummies.size=0:=by rw[T.dm];rfl
 unfold SetTable.fits SetTable.fill;rw[a,d];simpa using h
def TS.fit{G:LI->Addr->Prop}{es:Array (Int×Value)}{t:SetTable}{ow:Ow}{ks:LL}(T:TS prog w G es t ow ks):t.fits es.size=true:=T.tb.fit (by have:=T.rm;omega)
def Ms.odd{m:Nat}(h:Ms m):(m % 2==0)=false:=by rcases h with rfl|rfl|rfl<;>rfl
def TS.fst{G:LI->Addr->Prop}{es:Array (Int×Value)}{t:SetTable}{ow:Ow}{ks:LL}(T:TS prog w G es t ow ks)(x:Int):∃N,Oq t.mask ow x N:=by refine yz T.ms x (room ?_);have b:=congrArg List.length T.tb.es;simp only[ax,bA]at b;have:=T.rm;omega
theorem Gn{S:Addr}{o:Obj}{es:Array (Int×Value)}{ep:Nat}{t:SetTable}{ow:Ow}{ks:LL}{k:LI}{a:Addr}{N:Nat}{Q:SetFound->Shared->Prop}(Z:A.units<cLine)
  (C:s.heap.get? S=some o) (hd:o.data=.set es ep t) (T:TS prog w (TK prog w s.heap) es t ow ks) (I:TK prog w s.heap k a) (l:Oq t.mask ow (pF prog w k) N)
  (q1:k∈ks->Q (.there none) s) (R:k∉ks->Q (.free (st t.mask (pF prog w k) N).j false) s) :
  ∀(f n:Nat) (x:Option SetTable.Probe),n<=N->N<n+f->x.getD (t.probeStart (pF prog w k))=st t.mask (pF prog w k) n->
   (∀i,i<n->∀b,ow (st t.mask (pF prog w k) i).j=some (pF prog w k,.ref b)->¬TK prog w s.heap k b)->
   wpAny (model prog w) A (setSearchFrom S (.ref a) (pF prog w k) true f x) Q E s
 |0,n,x,hn,hf,_,_=>absurd hf (by omega)
 |f+1,n,x,hn,hf,hs,no=>by
  unfold setSearchFrom;refine aq (wpAny_setState_of C hd T.fit ?_);dsimp only;have gw:t.gaveWay=false:=T.ms.odd;rw[gw,hs];simp only[cg,if_false];have tn:turns t.mask=t.mask+15:=rfl;generalize g:t.probe _ (pF prog w k) (st t.mask (pF prog w k) n)=met;obtain⟨p,ha,g⟩:∃p:Nat->Int,(∀i,p i=(es[i]?.map (·.1)).getD 0)/\t.probe p (pF prog w k) (st t.mask (pF prog w k) n)=met:=⟨_,λi=>rfl,g⟩;have g:probe.go t p (pF prog w k) (10*turns t.mask) (st t.mask (pF prog w k) n)=met:=g;rcases yE T.tb ha l.no l.bf (10*turns t.mask) n hn (by have:=l.lt;omega) with⟨q,y,L,J,z,h4,X⟩|⟨L,J⟩
  .rw[g]at X;subst X;dsimp only;have Y:=T.tb.slot (rY t.mask (pF prog w k) q);have D:=Y.2 _ z;obtain⟨kb,b,u,eb,v⟩:=T.ek.mem (e:=(pF prog w k,y)) (by rw[bH];exact cS D)
   have ey:y=.ref b:=(Prod.mk.inj eb).2;subst ey;by_cases d:t.led=true
   case' pos=>rw[d];simp only[dA,cg,if_false]
   case' neg=>
    simp only[Bool.not_eq_true]at d;rw[d];simp only[Bool.not_false,if_true];refine aq (MY I (λy hy=>?aa) ?bb)
    case aa=>
     obtain⟨e,h,rfl⟩:=aE.mp hy;obtain⟨k2,b2,_,e2,t2⟩:=T.ek.mem (e:=e) (by rw[bH]at h ⊢;exact (Array.mem_filter.mp h).1)
     exact⟨b2,k2,by rw[e2],t2⟩
    simp only[cg,if_false]
   all_goals
    rw[D]
    dsimp only
    refine aq (wpAny_holding (wpAny_eqBool_tuple Z v I ?_))
    refine aq (wpAny_setState_of C hd T.fit ?_)
    dsimp only
    by_cases e:kb=k
    .rw[aD e];simp only[Bool.and_self,if_true];exact ao (q1 (e▸u))
    .rw[aC e];simp only[Bool.and_false,cg,if_false];have sm:t.sameMemory t.moves t.mask=some true:=by unfold SetTable.sameMemory;simp
     rw[sm];dsimp only;simp only[if_true];rw[Y.1,z];dsimp only;rw[D];dsimp only;refine aq (wpAny_isSame_ref_self (aq (ao ?_)));simp only[if_true];exact Gn Z C hd T I l q1 R f (q+1) _ (by omega) (by omega) rfl λi U b' c K=>by
      by_cases B:i<n
      .exact no i B b' c K
      .by_cases H:i<q
       .exact h4 i (by omega) H _ c rfl
       .have:i=q:=by omega
        subst this;rw[z]at c;cases c;exact e (v.inj K)
  .rw[g]at J;subst J;dsimp only;refine ao (R λF=>?_);obtain⟨b,u,v⟩:=T.ek.has F;rw[T.tb.es]at u;obtain⟨⟨j,e⟩,hp,h⟩:=aE.mp u;obtain⟨p1,r⟩:=uv _ hp;dsimp only at p1 r h;subst h;obtain⟨i,U,P⟩:=KU T.pt l (by omega) r;by_cases m:i<n
   .exact no i m b (by rw[P];exact r) v
   .exact L i (by omega) U _ (by rw[P];exact r) rfl
end
end L2.Sp
namespace L2.Sp
open PySem PySem.SetTable
section
variable {prog:Program}{w:World}{A:Around}{E:Vq->Shared->Prop}{s:Sq}
def QN(prog:Program)(w:World)(G:LI->Addr->Prop)(o:Obj)(ks:LL):Prop:=∃a c t b,o.ExactSet/\o.data=.set a c t/\TS prog w G a t b ks
def SK(prog:Program)(w:World)(G:LI->Addr->Prop)(h:Heap)(S:Addr)(ks:LL):Prop:=∃o,h.get? S=some o/\QN prog w G o ks
def Jn{m n:Nat}(b:Ms m)(d:n*5 >= m*3)(c:(n-1)*5<m*3)(e:n<=70):Ms (sizeAbove (grown n)-1)/\n*5<(sizeAbove (grown n)-1)*3:=by
 have a:∀m∈[7,31,127],∀n,n<71->n*5 >= m*3->(n-1)*5<m*3->((sizeAbove (grown n)-1=7\/sizeAbove (grown n)-1=31\/sizeAbove (grown n)-1=127)/\n*5<(sizeAbove (grown n)-1)*3):=by decide +kernel
 exact a m (by rcases b with rfl|rfl|rfl<;>simp) n (by omega) d c
def uW{b:Type}(a:Array b)(p:Nat)(x:b):(insertAt a p x).toList.Perm (x::a.toList):=by rw[SetTable.toList_insertAt];have:=@dw _ x (a.toList.take p) (a.toList.drop p);rw[dB]at this;exact this
def LW{G:LI->Addr->Prop}{S:Addr}{ks:LL}{k:LI}{a:Addr}{Q:Bool->Shared->Prop}(hu:A.units<cLine)(kt:∀k a,G k a->TK prog w s.heap k a)(hS:SK prog w G s.heap S ks)(F:G k a)(hl:ks.length<70)
  (h:∀h' B,Heap.SameBut S s.heap h'->SK prog w G h' S B->(k∈ks->B=ks)->(k∉ks->B.Perm (k::ks))->∀b,Q b {s with heap:=h'}) :
  wpAny (model prog w) A (setAddHashed S (.ref a) (pF prog w k)) Q E s:=by
 obtain⟨o,D,g,ep,t,ow,C,hd,U⟩:=hS;have hk:=kt _ _ F;have T:TS prog w (TK prog w s.heap) g t ow ks:={U with ek:=U.ek.keeps kt};have hle:g.size=ks.length:=by have:=T.ek.len;simpa using this
 unfold setAddHashed setAddHashedIn;refine wpAny_holding (aq (wpAny_setState_of D hd T.fit ?_));dsimp only;have hb:byScan (.ref a) g=false:=rfl;rw[hb];simp only[cg,if_false];obtain⟨N,P⟩:=T.fst (pF prog w k);have hm:t.mask<=127:=by rcases T.ms with e|e|e<;>omega
 unfold setSearch;refine aq (Gn hu D hd T hk P (λv=>?_) (λv=>?_) 100000 0 none (cA _) (by have:=P.lt;have:turns t.mask=t.mask+15:=rfl;omega) rfl λi hi=>absurd hi (cY i))
 .exact ao (h s.heap ks (Heap.SameBut.refl S s.heap) ⟨o,D,g,ep,t,ow,C,hd,U⟩ (λ_=>rfl) (λq=>absurd v q) false)
 .dsimp only;refine aq (wpAny_setState_of D hd T.fit ?_);dsimp only;have hj:(st t.mask (pF prog w k) N).j<=t.mask:=rY ..;obtain⟨R,P2⟩:=LG T.tb hj P.no (pF prog w k,.ref a);have pp:=Iy T.pt P (.ref a);generalize hj':(st t.mask (pF prog w k) N).j=j at *;have z:(t.put j).1.plain=true:=by rw[P2];exact T.pl
  have p:(t.put j).1.mask=t.mask:=by rw[P2]
  have K:(t.put j).1.led=!w.params.followText "set-order" :=by rw[P2];exact T.ld
  rw[z];simp only[if_true];refine aq (Ds hk ?_);simp only[if_true];have ip:=uW g (t.put j).2 (pF prog w k,Value.ref a);have m:(insertAt g (t.put j).2 (pF prog w k,Value.ref a)).size=g.size+1:=by have:=ip.length_eq;simpa using this
  have rm:=T.rm;refine aq (wpAny_storeSet_of D hd ?_ (fits_of_scanBound (by rw[m];unfold scanBound;omega)));have L:=Heap.SameBut.update s.heap S (Obj.putSet (insertAt g (t.put j).2 (pF prog w k,Value.ref a)) (t.put j).1);have l:=Heap.get?_update_self (f:=Obj.putSet (insertAt g (t.put j).2 (pF prog w k,Value.ref a)) (t.put j).1) D;rw[putSet_of _ _ hd]at l;replace l:=l rfl;generalize s.heap.update S (Obj.putSet (insertAt g (t.put j).2 (pF prog w k,Value.ref a)) (t.put j).1)=h1 at *;obtain⟨Y,K1,K2⟩:=(EK.cons F U.ek).perm ip;generalize hE:insertAt g (t.put j).2 (pF prog w k,Value.ref a)=es1 at *;generalize (t.put j).1=t1 at *;have fl:t1.fill=es1.size:=by
   have d:t1.dummies.size=0:=by rw[R.dm];rfl
   unfold SetTable.fill;rw[R.szs,d];rfl
  simp only[Bool.not_false,Bool.true_and];rw[<-p]at pp;by_cases x:t1.tooFull=true
  .rw[aR x];unfold setRelay;have u:es1.size*5 >= t1.mask*3:=by unfold SetTable.tooFull at x;rw[fl]at x;simpa using x
   obtain⟨m1,m2⟩:=Jn T.ms (n:=g.size+1) (by rw[p,m]at u;exact u) (by simpa using rm) (by omega);have X:Ms (sizeAbove (grown (g.size+1))-1):=m1;have hm2:sizeAbove (grown (g.size+1))-1<=127:=by rcases m1 with e|e|e<;>omega
   have I:t1.fits es1.size=true:=R.fit (by rw[p];omega);refine aq (aq (wpAny_setState_of l rfl I ?_));dsimp only;have hz:¬(sizeAbove (grown (g.size+1))>sizeLine):=by rw[sizeLine_eq];omega
   rw[aS hz];obtain⟨r,c,ow2,l1,l2,l3,l4,l5,l6,l7⟩:=JF X es1 (by omega) t1.finger (t1.movedTo (sizeAbove (grown (g.size+1))-1)) t1.led t1.plain;have lr:t1.relaid (es1.map (·.1)) (grown (g.size+1))=some (r,c):=l1;rw[lr];have y:(c.filterMap (es1[·]?)).size=es1.size:=by have:=l7.length_eq;rwa [bA,bA]at this
   have hre:∀{Z:Array (Int×Value)×SetTable->Shared->Prop},Z (c.filterMap (es1[·]?),r) {s with heap:=h1}->
     wpAny (model prog w) A (if ((c.filterMap (es1[·]?)).size != es1.size)=true then (do unsupported "internal:set-table-lost-an-element";pure (c.filterMap (es1[·]?),r)) else pure (c.filterMap (es1[·]?),r)) Z E {s with heap:=h1}:=λ{Z} hg=>by
    rw[y];simp only[bne_self_eq_false,cg,if_false];exact ao hg
   refine aq (hre ?_);dsimp only;have rm2:(c.filterMap (es1[·]?)).size*5<r.mask*3:=by rw[y,m,l2];exact m2
   refine wpAny_storeSet_of l rfl ?_ (fits_of_scanBound (by rw[y,m];unfold scanBound;omega));have J:=Heap.SameBut.update h1 S (Obj.putSet (c.filterMap (es1[·]?)) r);have H:=Heap.get?_update_self (Obj.putSet (c.filterMap (es1[·]?)) r) l rfl;rw[putSet_of _ _ rfl]at H;generalize h1.update S (Obj.putSet (c.filterMap (es1[·]?)) r)=h2 at *;obtain⟨ks2,J1,J2⟩:=K1.perm l7;exact ao (h h2 ks2 (L.trans J) ⟨_,H,_,_,r,ow2,C,rfl,⟨l5,by rw[l2];exact l6,by rw[l2];exact m1,by rw[l4];exact z,rm2,by rw[l3];exact K,J1⟩⟩ (λq=>absurd q v) (λ_=>J2.trans K2) true)
  .rw[aS x];have u:es1.size*5<t1.mask*3:=by unfold SetTable.tooFull at x;rw[fl]at x;simpa using x
   refine ao (h h1 Y L ⟨_,l,es1,_,t1,_,C,rfl,⟨R,pp,by rw[p];exact T.ms,z,u,K,K1⟩⟩ (λq=>absurd q v) (λ_=>K2) true)
end
end L2.Sp
namespace L2.Sp
open PySem PySem.SetTable PyProof.Rows
def SKx(prog:Program)(w:World)(G:LI->Addr->Prop)(h:Heap)(S:Addr)(l:LL):Prop:=∃a,SK prog w G h S a/\a.Nodup/\∀k,k∈a↔k∈l
section
variable {prog:Program}{w:World}{A:Around}{R:Result->Shared->Prop}{I:Addr}{fp wr:List Addr}{G:Array GenState->Array GenState->Prop}{n:Nat}{P:Nat->Value->Prop}{St:Nat->Shared->Prop}
def SKx.to{G:LI->Addr->Prop}{h h':Heap}{S:Addr}{l:LL}(x:SKx prog w G h S l)(k:∀o,h.get? S=some o->h'.get? S=some o):SKx prog w G h' S l:=let ⟨ks,⟨o,a,b⟩,c⟩:=x;⟨ks,⟨o,k o a,b⟩,c⟩
theorem Df(W:WalksS prog w A.in1 I fp wr G n P St)(S:Addr)(E:S∉fp)(hu:A.units+2<cLine)(N:Heap){G2:LI->Addr->Prop}(g0:∀k a,G2 k a->TK prog w N k a)(ne:∀b o,N.get? b=some o->b≠S/\b∉wr)
  (val:Nat->LI) (D:∀i v,P i v->∃a,v=.ref a/\G2 (val i) a) (u:n<70) :
  ∀(k i:Nat) (s:Sq),n-i=k->i<=n->St i s->(∀b o,N.get? b=some o->s.heap.get? b=some o)->
   SKx prog w G2 s.heap S ((List.range i).map val)->
   (∀c,Moved (S::wr) G s c->SKx prog w G2 c.heap S ((List.range n).map val)->R (.ok (.ret .none)) c)->
   codeAny (model prog w) A (.builtin "set.update.loop" ⟨[.ref S,.ref I],[]⟩) R s:=by
 have B:S∉wr:=λh=>E (W.sub _ h);have f:∀b∈wr,b∈S::wr:=λb u=>bx _ u;intro k;induction k with
 |zero=>
  intro i s hk hi g kp X hR;have d:i=n:=by omega
  subst d;refine codeAny_builtin F.entry_set_update_loop ?_;rw[Around.under_plainId F.plain_set_update_loop _];show wpAny _ A.in1 (pyNext (.ref I) >>= _) _ _ s;refine aq (W.done s _ _ g λc m=>?_);show wpAny _ A.in1 (ret Value.none) _ _ c;exact ao (hR c (m.mono f) (X.to λo Y=>m.heap S _ B Y))
 |succ k ih=>
  intro i s hk hi g kp X hR;have K:i<n:=by omega
  refine codeAny_builtin F.entry_set_update_loop ?_;rw[Around.under_plainId F.plain_set_update_loop _];show wpAny _ A.in1 (pyNext (.ref I) >>= _) _ _ s;refine aq (W.item i s _ _ K g λv c hP H m=>?_);obtain⟨a,rfl,tk⟩:=D i v hP;have j:∀b o,N.get? b=some o->c.heap.get? b=some o:=λb o e=>m.heap b o (ne b o e).2 (kp b o e);obtain⟨ks,Q,nd,Z⟩:=X.to (h':=c.heap) λo Y=>m.heap S _ B Y;have hle:ks.length<70:=by have:=nd.length_le_of_subset (l₂:=(List.range i).map val) λk hk=>(Z k).mp hk;rw[ax,List.length_range]at this;omega
  show wpAny _ A.in1 (holding [Value.ref a] (setAdd S (.ref a)) >>= _) _ _ c;refine aq (wpAny_holding ?_);unfold setAdd;refine wpAny_holding ?_;have tk':TK prog w c.heap (val i) a:=let ⟨o,gF,n,q,r⟩:=g0 _ _ tk;⟨o,gF,n,j _ _ q,r⟩;have C:A.in1.units<cLine:=by show A.units+1<cLine;omega
  refine aq (wpAny_pyHash_tuple C tk' ?_);refine LW (s:={c with toks:=c.toks+((val i).length+1)}) C (λk a x=>let ⟨o,gF,n,q,r⟩:=g0 k a x;⟨o,gF,n,j _ _ q,r⟩) Q tk hle λh' J l y e1 e2 b=>?_;have hSi:SKx prog w G2 h' S ((List.range (i+1)).map val):=by
   by_cases d:val i∈ks
   .obtain rfl:=e1 d;refine⟨J,y,nd,λk'=>?_⟩;rw[cL,a9,aj,<-Z k'];refine⟨.inl,λq=>q.elim id λq=>?_⟩;rw[dC,ak]at q;rw[q];exact d
   .have p:=e2 d;refine⟨J,y,p.nodup_iff.mpr (bJ.mpr ⟨d,nd⟩),λk'=>?_⟩;rw[p.mem_iff,aG,cL,a9,aj,<-Z k',dC,ak];exact Or.comm
  refine ao ⟨plainId_quiet F.plain_set_update_loop _,ih (i+1) _ (by omega) K (W.frame _ c _ _ H (cw _ _) λb u o e=>?_) (λb o e=>?_) hSi λU z L=>?_⟩
  .rw[l.2 b (λh:b=S=>E (by rw[<-h];exact u))];exact e
  .exact (l.2 b (ne b o e).1).trans (j b o e)
  .refine hR U (Moved.trans W.gtrans ((m.mono f).then_heap (cw _ _) λb o u e=>?_) z) L;rw[l.2 b (λh:b=S=>u (by rw[h];exact bj))];exact e
end
section
variable {prog:Program}{w:World}{A:Around}{E:Vq->Shared->Prop}{s:Sq}
def JS(a:Vq){Q₁:Vq->Shared->Prop}
  (h:Q₁ (.ref s.heap.objs.size) {s with heap:=s.heap.push {cls:=.type "set",dict:=none,data:=.set #[] 0 (.fresh 0 0 (!w.params.followText "set-order"))}}) :
  codeAny (model prog w) A (.call (.builtin "set.__new__") ⟨[.type "set",a],[]⟩) (wants Q₁ E) s:=by
 refine codeAny_of_tree ?_;show wpAny _ A.in1 (do checkBuiltinCall "set.__new__" ⟨[.type "set",a],[]⟩;again (.builtin "set.__new__" ⟨[.type "set",a],[]⟩)) _ _ s;refine aq (wpAny_of_eq (F.newCall_set_1 a) (ao ⟨plainId_quiet F.plain_set_new _,codeAny_builtin F.entry_set_new ?_⟩));rw[Around.under_plainId F.plain_set_new _];unfold Builtin.«set.__new__» Builtin.Frozenset.newClass;have b:=sub_set_self;obtain⟨f,g,d,c,e⟩:=s;dsimp only;wp_walk;refine wpAny_askSetting (ao ?_);dsimp only;simp only[newObj];refine aq (wpAny_alloc (ao ?_));exact ao h
theorem set_list{G2:LI->Addr->Prop}{l:Addr}{items:Array Vq}{rs:LL}{Q:Vq->Shared->Prop}
  (hh:A.handled=none) (hu:A.units+8<cLine) (hl:s.heap.IsList l items) (hi:∀i v,items[i]? = some v->∃a,v=.ref a/\G2 (rs.getD i []) a) (g0:∀k a,G2 k a->TK prog w s.heap k a) (hz:items.size=rs.length) (p:items.size<70)
  (h:∀(h':Heap) (L:Nat),SKx prog w G2 h' s.heap.objs.size rs->
   (∀b o,b<s.heap.objs.size->s.heap.get? b=some o->h'.get? b=some o)->Q (.ref s.heap.objs.size) {s with heap:=h',toks:=L}) :
  wpAny (model prog w) A (call (.type "set") [.ref l]) Q E s:=by
 obtain⟨c,tl,hmro⟩:=F.called_set.mro;have hmade:=F.called_set.made;have hsub:=F.called_set.sub;refine wpAny_call (codeAny_of_tree ?_);show wpAny _ _ (callAny (.type "set") _) _ _ _;refine ao ⟨Code.quiet_builtin _ (by decide +kernel),codeAny_builtin F.entry_type_call ?_⟩;rw[Around.under_plain (weight_type_call_type "set" [.ref l] []) rfl];have h1:=F.called_set.notType;have h2:=F.called_set.canCreate;have hct:=F.typeCall_set_1 (.ref l);(repeat (any_goals (first|assumption|wp_step)));obtain⟨d,hld⟩:∃d:Bool,d=!w.params.followText "set-order" :=⟨_,rfl⟩;refine codeAny_mono (JS (.ref l) (E:=E) (Q₁:=λy n=>y=.ref s.heap.objs.size/\n={s with heap:=s.heap.push {cls:=.type "set",dict:=none,data:=.set #[] 0 (.fresh 0 0 d)}}) ⟨rfl,by rw[hld]⟩) λr n hr=>?_;cases r with
 |error e=>exact hr
 |ok fl=>
  cases fl with
  |ret y=>
   obtain⟨rfl,rfl⟩:=hr;have hS:(s.heap.push {cls:=.type "set",dict:=none,data:=.set #[] 0 (.fresh 0 0 d)}).get? s.heap.objs.size=some {cls:=.type "set",dict:=none,data:=.set #[] 0 (.fresh 0 0 d)}:=au _ rfl;have hT:Shared.TypeIs {s with heap:=s.heap.push {cls:=.type "set",dict:=none,data:=.set #[] 0 (.fresh 0 0 d)}} (.ref s.heap.objs.size) "set" :=⟨_,hS,rfl⟩;have hli:=F.called_set.init.lookup;have hbi:=F.called_set.init.bind (.ref s.heap.objs.size);(repeat (any_goals (first|assumption|wp_step)));refine codeAny_mono (codeAny_call_builtin (R:=wants (λr m=>r=.none/\∃h' L,m={s with heap:=h',toks:=L}/\
     SKx prog w G2 h' s.heap.objs.size rs/\
     (∀b o,b<s.heap.objs.size->s.heap.get? b=some o->h'.get? b=some o)) E) F.called_set.init.plain F.entry_set_init (check_set_init_1 hT ?_)) λz m f=>?_
   .obtain⟨ol,D,x,nl,J⟩:=hl;obtain⟨ocls,q,Z,oslots⟩:=ol;simp only at x J;subst x;subst J;have B:(s.heap.push {cls:=.type "set",dict:=none,data:=.set #[] 0 (.fresh 0 0 d)}).get? l=some {cls:=.type "list",dict:=q,data:=.seq items nl,slots:=oslots}:=af _ D;have hsls:=F.sub_list_set;have hslf:=F.sub_list_frozenset;have hne:(Value.type "list" == Value.type "dict")=false:=by decide
    have C:(s.heap.push {cls:=.type "set",dict:=none,data:=.set #[] 0 (.fresh 0 0 d)}).IsList l items:=⟨_,B,rfl,nl,rfl⟩;unfold Builtin.«set.__init__» noKeywords Builtin.Frozenset.updateFrom;generalize N:pyIter=PI;wp_walk;subst N;refine wpAny_pyIter_list C ?_;refine aq (wpAny_runValue ?_);have u:l<s.heap.objs.size:=aM D;have Y:A.in1.in1.in1.handled=none:=by simp[hh]
    have H:l≠(s.heap.push {cls:=.type "set",dict:=none,data:=.set #[] 0 (.fresh 0 0 d)}).objs.size:=by rw[Heap.size_push];exact aN (cq u)
    have X:s.heap.objs.size∉[(s.heap.push {cls:=.type "set",dict:=none,data:=.set #[] 0 (.fresh 0 0 d)}).objs.size,l]:=by rw[Heap.size_push];simp only[aG,ak,dD,or_false,not_or];exact⟨aN (cn _),bB u⟩
    have S:(List.range items.size).map (λi=>rs.getD i [])=rs:=by rw[hz];refine cT (by simp) λi h1 h2=>?_;simp[h2]
    refine Df ((Walks.list Y _ l H items).toS) s.heap.objs.size
     X (by show A.units+2+2<cLine;omega) s.heap g0 (λb o e=>?hne) (λi=>rs.getD i []) hi p (items.size-0) 0 _ (by omega) (cA _)
     ⟨⟨_,au _ rfl,rfl,rfl⟩,(C.push _)⟩ (λb o e=>af _ (af _ e)) ?hS0 ?hR
    case hne=>have p:=aM e;refine⟨aN p,?_⟩;rw[Heap.size_push];simp only[aG,ak,dD,or_false];exact aN (cq p)
    case hS0=>
     have I:((s.heap.push {cls:=.type "set",dict:=none,data:=.set #[] 0 (.fresh 0 0 d)}).push {cls:=.type "list_iterator",data:=.fields #[.ref l,.int 0 0]}).get? s.heap.objs.size
       = some {cls:=.type "set",dict:=none,data:=.set #[] 0 (.fresh 0 0 d)}:=af _ hS
     have hp:PL 7 (λ_=>(none:Option (Int×Value)))=[]:=rfl;refine⟨[],⟨_,I,#[],0,.fresh 0 0 d,λ_=>none,⟨rfl,rfl,rfl⟩,rfl,⟨⟨rfl,rfl,rfl⟩,(λj e _ he=>nomatch he),.inl rfl,rfl,(by show 0*5<7*3;decide),hld,.nil⟩⟩,cJ,λk=>by simp⟩
    case hR=>
     intro s' K g;obtain⟨h',g',d',tk',os'⟩:=s';have eg:g'=s.gens:=K.gens;have ed:d'=s.drawn:=K.drawn;have eo:os'=s.os:=K.os;subst eg;subst ed;subst eo;rw[S]at g;show wpAny _ _ _ _ _ _;refine ao ?_;show wpAny _ _ (ret Value.none) _ _ _;refine ao ⟨rfl,h',tk',rfl,g,λb o p e=>?_⟩;have U:b≠s.heap.objs.size:=aN p;have hb2:b≠(s.heap.push {cls:=.type "set",dict:=none,data:=.set #[] 0 (.fresh 0 0 d)}).objs.size:=by rw[Heap.size_push];exact aN (cq p)
     exact K.heap b o (by simp only[aG,ak,dD,or_false,not_or];exact⟨U,hb2⟩) (af _ (af _ e))
   .cases z with
    |error e=>exact f
    |ok fl₂=>
     cases fl₂ with
     |ret r=>obtain⟨rfl,h',L,rfl,g,P⟩:=f;(repeat (any_goals (first|assumption|wp_step)));exact h _ _ g P
     |_=>exact f.elim
  |_=>exact hr.elim
end
end L2.Sp
namespace L2.Sp
open PySem PySem.SetTable PyProof.Rows
def jV:Slot "set_iterator" "__next__" "set_iterator.__next__" :=
 .of (owner:= "set_iterator") (n:= "__next__") (by rw[typeLookup_type,builtinLookup_eq_fast];kernel_rfl) (by decide +kernel) (by decide +kernel) (by decide +kernel)
  (by first|exact .inl (by decide +kernel)|exact .inr (by decide +kernel)) (by rw[isSubtype_type];kernel_rfl)
def qj:Slot "set_iterator" "__iter__" "set_iterator.__iter__" :=
 .of (owner:= "set_iterator") (n:= "__iter__") (by rw[typeLookup_type,builtinLookup_eq_fast];kernel_rfl) (by decide +kernel) (by decide +kernel) (by decide +kernel)
  (by first|exact .inl (by decide +kernel)|exact .inr (by decide +kernel)) (by rw[isSubtype_type];kernel_rfl)
def ph:entryFor table "set_iterator.__next__" = some Builtin.«set_iterator.__next__»:=entryFor_of_tree (by kernel_rfl)
def uV:entryFor table "set_iterator.__iter__" = some Builtin.«dict_keyiterator.__iter__»:=entryFor_alias (id':= "dict_keyiterator.__iter__") (by kernel_rfl) rfl (by decide +kernel) (by kernel_rfl)
def tj:entryFor table "set.__iter__" = some Builtin.«frozenset.__iter__»:=entryFor_alias (id':= "frozenset.__iter__") (by kernel_rfl) rfl (by decide +kernel) (by kernel_rfl)
def yC:Manifest.owners.lookup (String.ofList ['r', 'o', 't', 'a', 'r', 'e', 't', 'i', '_', 't', 'e', 's'].reverse)=some Manifest.sig_set_iterator:=by kernel_rfl
def p7(a:Vq):argsOk "set_iterator.__next__" ⟨[a],[]⟩:=by unfold argsOk;rw[signature?_of (id:= "set_iterator.__next__") (n:=['_', '_', 't', 'x', 'e', 'n', '_', '_']) (o:=['r', 'o', 't', 'a', 'r', 'e', 't', 'i', '_', 't', 'e', 's']) (by kernel_rfl) yC];kernel_rfl
def xD(a:Vq):argsOk "set_iterator.__iter__" ⟨[a],[]⟩:=by unfold argsOk;rw[signature?_of (id:= "set_iterator.__iter__") (n:=['_', '_', 'r', 'e', 't', 'i', '_', '_']) (o:=['r', 'o', 't', 'a', 'r', 'e', 't', 'i', '_', 't', 'e', 's']) (by kernel_rfl) yC];kernel_rfl
theorem Bc{c:Type}(a:Nat->Nat):∀(n k:Nat) (l:List c) (out:Array c),l.length=n->(pickOrder.go a n k l out).toList.Perm (out.toList++l)
 |0,k,l,out,h=>by have:l=[]:=dE.mp h;subst this;unfold pickOrder.go;simp
 |n+1,k,l,out,h=>by
  have b:a k % l.length<l.length:=c8 _ (by omega);unfold pickOrder.go;rw[ai b];dsimp only;refine (Bc a n (k+1) (l.eraseIdx (a k % l.length)) _ (by rw[List.length_eraseIdx_of_lt b];omega)).trans ?_;rw[Array.toList_push,bW];refine List.Perm.append_left _ ?_;rw[List.eraseIdx_eq_take_drop_succ];have p:=@dw _ l[a k % l.length] (l.take (a k % l.length)) (l.drop (a k % l.length+1));have e:l.take (a k % l.length)++l[a k % l.length]::l.drop (a k % l.length+1)=l:=by rw[List.getElem_cons_drop b,dB]
  rw[e]at p;exact p.symm
def wk(w:World)(S:Addr)(ep:Nat)(es:Array (Int×Value)):Array (Int×Value):=if w.params.followText "set-order" = true then pickOrder (w.params.setOrder S ep) es else es
def xQ{w:World}{S:Addr}{ep:Nat}{es:Array (Int×Value)}:(wk w S ep es).toList.Perm es.toList:=by
 unfold wk;split
 .have:=Bc (w.params.setOrder S ep) es.size 0 es.toList #[] (by simp);rw[b5]at this;exact this
 .exact List.Perm.refl _
end L2.Sp
namespace L2.Sp
open PySem PySem.SetTable PyProof.Rows
def OY{f:Type}{m:Nat}{ow:xV f}{i:Nat}{p:Nat×f}(k:(PL m ow)[i]? = some p):(pre (p.1+1) ow).length=i+1:=by
 obtain⟨r,h⟩:=uv (j:=m+1) p (av k);rw[n9,h,aU];show _+1=_;have c:=zJ ow (j:=p.1) (show p.1<=m by omega);rw[h]at c;have g:(PL m ow)[(pre p.1 ow).length]? = some p:=by rw[c,List.getElem?_append_right (aL _),c6];rfl
 have d:((PL m ow).map (·.1)).Pairwise (· < ·):=pI ow (m+1);have d:=cX.mp d;obtain⟨o,e⟩:=ae.mp k;obtain⟨n,l⟩:=ae.mp g;have a:i<((PL m ow).map (·.1)).length:=by simpa using o
 have b:(pre p.1 ow).length<((PL m ow).map (·.1)).length:=by simpa using n
 rcases c5 i (pre p.1 ow).length with q|q|q
 .have:=d i _ a b q;simp[e,l]at this
 .omega
 .have:=d _ i b a q;simp[e,l]at this
section
variable {prog:Program}{w:World}{A:Around}{E:Vq->Shared->Prop}{s:Sq}{S it:Addr}{es:Array (Int×Value)}{ep:Nat}{t:SetTable}{ow:Ow}{ks:LL}{G2:LI->Addr->Prop}{i:Nat}
def At(w:World)(t:SetTable)(ow:Ow)(a:Int)(i:Nat):Prop:=w.params.followText "set-order" = true\/∃j:Nat,a=j/\j<=t.mask+1/\(pre j ow).length=i
def Jb:At w t ow 0 0:=.inr ⟨0,rfl,cA _,rfl⟩
structure pS(h:Heap)(S:Addr)(es:Array (Int×Value))(ep:Nat)(t:SetTable):Prop where
 ob:∃o,h.get? S=some o/\o.ExactSet/\o.data=.set es ep t
def pS.to{h h':Heap}(x:pS h S es ep t)(k:∀o,h.get? S=some o->h'.get? S=some o):pS h' S es ep t:=let ⟨o,a,r⟩:=x.ob;⟨o,k o a,r⟩
def pS.lt{h:Heap}(x:pS h S es ep t):S<h.objs.size:=let ⟨_,a,_⟩:=x.ob;aM a
def pS.ty(x:pS s.heap S es ep t):s.TypeIs (.ref S) "set" :=let ⟨o,a,c,_⟩:=x.ob;⟨o,a,c.1⟩
theorem IC(x:pS s.heap S es ep t)(T:TS prog w G2 es t ow ks){k:Int}(a:At w t ow k i)(n:i<es.size){Q:Option (Value×Nat)->Shared->Prop}
  (q:∀e c,(wk w S ep es)[i]? = some e->At w t ow (c:Nat) (i+1)->Q (some (e.2,c)) s):wpAny (model prog w) A (setNext S k.toNat i ep) Q E s:=by
 obtain⟨o,m,B,hd⟩:=x.ob;unfold setNext;refine aq (wpAny_setState_of m hd T.fit ?_);dsimp only;unfold setsByText;refine aq (aq (wpAny_askSetting (ao ?_)));show wpAny _ _ (if w.params.followText "set-order" = true then _ else _) _ _ _;have z:=T.pl;by_cases b:w.params.followText "set-order" = true
 .rw[aR b];simp only[bne_self_eq_false,cg,if_false];unfold setWalk;refine aq (aq (wpAny_setState_of m hd T.fit ?_));dsimp only;unfold setsByText;refine aq (aq (wpAny_askSetting (ao ?_)));show wpAny _ _ (if w.params.followText "set-order" = true then _ else _) _ _ _;rw[aR b];refine aq (wpAny_askSetting (ao ?_));have h:pickOrder (w.params.setOrder S ep) es=wk w S ep es:=by unfold wk;rw[aR b]
  show wpAny _ _ (pure (((pickOrder (w.params.setOrder S ep) es)[i]?).map λe=>(e.2,k.toNat))) Q E s;rw[h];have C:(wk w S ep es).size=es.size:=by have:=(xQ (w:=w) (S:=S) (ep:=ep) (es:=es)).length_eq;simpa using this
  have l:(wk w S ep es)[i]? = some (wk w S ep es)[i]:=by rw[Array.getElem?_eq_getElem]
  rw[l];exact ao (q _ _ l (.inl b))
 .rw[aS b];have g:w.params.followText "set-order" = false:=by simpa using b
  have y:t.led=true:=by rw[T.ld,g];rfl
  have h:wk w S ep es=es:=by unfold wk;rw[aS b]
  rcases a with a|⟨j,rfl,v,u⟩
  .exact absurd a b
  .show wpAny _ _ (if (!t.plain&&decide (es.size>1))=true then _ else _) _ _ _;rw[z];simp only[dA,bC,cg,if_false];refine aq (wpAny_of_eq (a:=()) (by show (if (!t.led&&!es.isEmpty)=true then _ else pure ())=pure ();rw[y];rfl) ?_);rw[bN,T.tb.below j v,u];have f:es.toList[i]? = some es[i]:=by simp
   rw[T.tb.es,aw]at f;cases d:(PL t.mask ow)[i]? with
   |none=>rw[d]at f;cases f
   |some p=>
    rw[d]at f;have r:t.place.toList[i]? = some p.1:=by rw[T.tb.pl,aw,d];rfl
    rw[Array.getElem?_toList]at r;rw[r,Array.getElem?_eq_getElem n];dsimp only;refine ao (q es[i] (p.1+1) (by rw[h,Array.getElem?_eq_getElem n]) (.inr ⟨p.1+1,rfl,?_,?_⟩))
    .have:=(uv p (av d)).1;omega
    .exact OY d
end
end L2.Sp
namespace L2.Sp
open PySem PySem.SetTable PyProof.Rows
section
variable {prog:Program}{w:World}{A:Around}{E:Vq->Shared->Prop}{s:Sq}{S it:Addr}{es:Array (Int×Value)}{ep:Nat}{t:SetTable}{ow:Ow}{ks:LL}{G2:LI->Addr->Prop}{i:Nat}
def u0(w:World)(t:SetTable)(ow:Ow)(h:Heap)(it S:Addr)(i n ep:Nat):Prop:=∃o a,h.get? it=some o/\o.cls=.type "set_iterator" /\o.data=.fields #[.int a 0,.int i 0,.ref S,.int n 0,.int ep 0]/\At w t ow a i
def u0.at{h h':Heap}{n:Nat}(x:u0 w t ow h it S i n ep)(e:∀o,h.get? it=some o->h'.get? it=some o):u0 w t ow h' it S i n ep:=let ⟨o,sl,ho,r⟩:=x;⟨o,sl,e _ ho,r⟩
def u0.ty{n:Nat}(x:u0 w t ow s.heap it S i n ep):s.TypeIs (.ref it) "set_iterator" :=let ⟨o,_,ho,c,_⟩:=x;⟨o,ho,c⟩
def Ih(x:pS s.heap S es ep t)(T:TS prog w G2 es t ow ks){Q:Vq->Shared->Prop}
  (q:Q (.ref s.heap.objs.size) {s with heap:=s.heap.push {cls:=.type "set_iterator",data:=.fields #[.int 0 0,.int 0 0,.ref S,.int es.size 0,.int ep 0]}}):wpAny (model prog w) A (pyIter (.ref S)) Q E s:=by
 obtain⟨o,a,c,hd⟩:=x.ob;have b:=T.pl;refine wpAny_pyIter_slot x.ty F.slot_set_iter (wpAny_call_entry F.slot_set_iter x.ty tj ?_ (F.args_set_iter_1 _));unfold Builtin.«frozenset.__iter__»;refine aq (m:=Builtin.Frozenset.slot0 "__iter__" _) (ao ?_);unfold Builtin.Frozenset.sizeOf;refine aq (aq (wpAny_setEntries_of a hd T.fit (ao ?_)));refine aq (m:=setDrawn S) ?_;unfold setDrawn;refine aq (wpAny_setState_of a hd T.fit ?_);dsimp only;unfold setsByText;refine aq (aq (wpAny_askSetting (ao ?_)));show wpAny _ _ (pure (!(w.params.followText "set-order")&&(!t.plain&&decide (es.size>1)))) _ _ _;rw[b];simp only[dA,bC,Bool.and_false];refine ao ?_;simp only[cg,if_false];refine aq (ao ?_);refine aq (wpAny_setEpoch_of a hd T.fit ?_);unfold newFields;refine aq (wpAny_newObj_type (ao ⟨_,rfl, "set_iterator",_,⟨_,au _ rfl,rfl⟩,jV.lookup,?_⟩));simpa[rawInt] using q
def Ig{n:Nat}(x:u0 w t ow s.heap it S i n ep){Q:Vq->Shared->Prop}(q:Q (.ref it) s):wpAny (model prog w) A (pyIter (.ref it)) Q E s:=by refine wpAny_pyIter_slot x.ty qj (wpAny_call_entry qj x.ty uV ?_ (xD _));show wpAny _ _ (ret (.ref it)) _ _ s;exact ao ⟨_,rfl, "set_iterator",_,x.ty,jV.lookup,q⟩
def OB(ne:S≠it)(j:u0 w t ow s.heap it S i es.size ep)(x:pS s.heap S es ep t)(T:TS prog w G2 es t ow ks)(v:i<es.size){Q:Option Vq->Shared->Prop}
  (q:∀h' e,(wk w S ep es)[i]? = some e->u0 w t ow h' it S (i+1) es.size ep->Heap.SameBut it s.heap h'->Q (some e.2) {s with heap:=h'}):wpAny (model prog w) A (pyNext (.ref it)) Q E s:=by
 obtain⟨o,B,a,c,f,h⟩:=id j;obtain⟨y,r,z,p⟩:=x.ob;unfold pyNext;refine aq (wpAny_attempt (wpAny_callSpecial?_slot j.ty jV (wpAny_call_entry jV j.ty ph ?_ (p7 _))));unfold Builtin.«set_iterator.__next__»;refine aq (m:=slotArgs "__next__" 0 _) (ao ?_);refine aq (wpAny_fieldsOf a f ?_);dsimp only;refine aq (wpAny_setEntries_of r p T.fit ?_);simp only[bne_self_eq_false,cg,if_false,bN];refine aq (IC x T h v λe b n d=>?_);dsimp only;refine aq (wpAny_setField a f (by simp) ?_);have k:=Heap.get?_update_self (Obj.mapFields (·.setIfInBounds 0 (rawInt b))) a (Obj.isFreed_of_fields (Obj.data_mapFields f _));have g:=Obj.data_mapFields f (·.setIfInBounds 0 (rawInt b));have l:(Obj.mapFields (·.setIfInBounds 0 (rawInt b)) o).cls=.type "set_iterator" :=(Obj.cls_mapFields ..).trans c;have u:=Heap.SameBut.update s.heap it (Obj.mapFields (·.setIfInBounds 0 (rawInt b)));generalize Obj.mapFields (·.setIfInBounds 0 (rawInt b)) o=o1 at *;generalize s.heap.update it (Obj.mapFields (·.setIfInBounds 0 (rawInt b)))=h1 at *;refine aq (wpAny_setField (s:={s with heap:=h1}) k g (by simp) ?_);refine ao ⟨_,rfl,ao (q _ e n ?_ (u.trans (Heap.SameBut.update ..)))⟩;refine⟨_,b,Heap.get?_update_self _ k (Obj.isFreed_of_fields (Obj.data_mapFields g _)),(Obj.cls_mapFields ..).trans l,?_,d⟩;rw[Obj.data_mapFields g];simp[rawInt]
end
end L2.Sp
namespace L2.Sp
open PySem PySem.SetTable PyProof.Rows
section
variable {prog:Program}{w:World}{A:Around}{E:Vq->Shared->Prop}{s:Sq}{S it:Addr}{es:Array (Int×Value)}{ep:Nat}{t:SetTable}{ow:Ow}{ks:LL}{G2:LI->Addr->Prop}{i:Nat}
def Cg:(wk w S ep es).size=es.size:=by have:=(xQ (w:=w) (S:=S) (ep:=ep) (es:=es)).length_eq;simpa using this
def Hi(x:pS s.heap S es ep t)(T:TS prog w G2 es t ow ks){d:Int}(a:At w t ow d es.size){Q:Option (Value×Nat)->Shared->Prop}
  (q:Q none s):wpAny (model prog w) A (setNext S d.toNat es.size ep) Q E s:=by
 obtain⟨o,f,n,hd⟩:=x.ob;unfold setNext;refine aq (wpAny_setState_of f hd T.fit ?_);dsimp only;unfold setsByText;refine aq (aq (wpAny_askSetting (ao ?_)));show wpAny _ _ (if w.params.followText "set-order" = true then _ else _) _ _ _;have l:=T.pl;by_cases b:w.params.followText "set-order" = true
 .rw[aR b];simp only[bne_self_eq_false,cg,if_false];unfold setWalk;refine aq (aq (wpAny_setState_of f hd T.fit ?_));dsimp only;unfold setsByText;refine aq (aq (wpAny_askSetting (ao ?_)));show wpAny _ _ (if w.params.followText "set-order" = true then _ else _) _ _ _;rw[aR b];refine aq (wpAny_askSetting (ao ?_));have m:pickOrder (w.params.setOrder S ep) es=wk w S ep es:=by unfold wk;rw[aR b]
  show wpAny _ _ (pure (((pickOrder (w.params.setOrder S ep) es)[es.size]?).map λe=>(e.2,d.toNat))) Q E s;rw[m,Array.getElem?_eq_none (by rw[Cg];exact aL _)];exact ao q
 .rw[aS b];have c:w.params.followText "set-order" = false:=by simpa using b
  have k:t.led=true:=by rw[T.ld,c];rfl
  rcases a with a|⟨j,rfl,h,g⟩
  .exact absurd a b
  .show wpAny _ _ (if (!t.plain&&decide (es.size>1))=true then _ else _) _ _ _;rw[l];simp only[dA,bC,cg,if_false];refine aq (wpAny_of_eq (a:=()) (by show (if (!t.led&&!es.isEmpty)=true then _ else pure ())=pure ();rw[k];rfl) ?_);rw[bN,T.tb.below j h,g,Array.getElem?_eq_none (aL _)];exact ao q
def Lm(f:A.handled=none)(j:u0 w t ow s.heap it S es.size es.size ep)(x:pS s.heap S es ep t)(T:TS prog w G2 es t ow ks){Q:Option Vq->Shared->Prop}
  (q:∀h',Heap.ExtBut it s.heap h'->Q none {s with heap:=h'}):wpAny (model prog w) A (pyNext (.ref it)) Q E s:=by
 obtain⟨o,h,a,c,d,b⟩:=id j;obtain⟨l,g,k,e⟩:=x.ob;unfold pyNext;refine aq (wpAny_attempt (wpAny_callSpecial?_slot j.ty jV (wpAny_call_entry jV j.ty ph ?_ (p7 _))));unfold Builtin.«set_iterator.__next__»;refine aq (m:=slotArgs "__next__" 0 _) (ao ?_);refine aq (wpAny_fieldsOf a d ?_);dsimp only;refine aq (wpAny_setEntries_of g e T.fit ?_);simp only[bne_self_eq_false,cg,if_false,bN];refine aq (Hi x T b ?_);dsimp only;refine aq (wpAny_setField a d (by simp) ?_);refine aq ?_;simp only[newExc,newTuple];refine aq (wpAny_newObj_type ?_ (by size_fits));refine aq (wpAny_of_eq (by first|rfl|(simp only[firstArgMember];rfl)) ?_);refine wpAny_newObj_type ?_ (by size_fits);simp only[raiseNew];refine aq (wpAny_handled ?_);rw[show A.in1.handled=none from f];refine aq (ao (wpAny_throw ?_));refine aq (wpAny_isInstance ⟨_,au _ rfl,rfl⟩ isSubtype_stop ?_);exact ao (q _ (((Heap.SameBut.update ..).extBut.push _).push _))
def Ga(g:A.handled=none)(I S:Addr)(ne:S≠I)(T:TS prog w G2 es t ow ks) :
  Walks prog w A I [I,S] [I] es.size (λi v=>∃e,(wk w S ep es)[i]? = some e/\v=e.2) (λi h=>u0 w t ow h I S i es.size ep/\pS h S es ep t) where
 sub:=λb a=>by simp at a;simp[a]
 frame:=λ_ _ _ x k=>⟨x.1.at λo e=>k I (by simp) o e,x.2.to λo e=>k S (by simp) o e⟩
 item:=λi s Q E f x q=>OB ne x.1 x.2 T f λc e d j k=>q _ c s.toks ⟨e,d,rfl⟩ ⟨j,x.2.to λo e=>k.extBut S o ne e⟩ λb o a e=>k.extBut b o (λz=>a (by simp[z])) e
 done:=λs Q E x q=>Lm g x.1 x.2 T λc k=>q c s.toks λb o a e=>k b o (λz=>a (by simp[z])) e
 self:=λ_ _ _ _ x q=>Ig x.1 q
def Gy(c:s.TypeIs (.ref S) "set"){Q:Bool->Shared->Prop}(h:Q false s):wpAny (model prog w) A (Builtin.List.listLengthHint (.ref S)) Q E s:=by unfold Builtin.List.listLengthHint;refine aq (wpAny_specialOf c PySem.F.slot_set_len.lookup ?_);generalize mU:("set.__len__" : String)=id0;wp_delta;rw[show splitId id0=some ("set", "__len__") from by subst mU;decide +kernel];subst mU;refine aq (wpAny_isInstance (T:= "set") (b:=true) c (by rw[isSubtype_type];kernel_rfl) ?_);refine wpAny_ite_split (λa=>absurd a (by decide)) (λ_=>?_);refine wpAny_ite_split (λ_=>?_) (λa=>absurd (by decide +kernel) a);refine aq (wpAny_typeOf c ?_);exact ao h
def Jw(T:TS prog w G2 es t ow ks):W.KdlSrc prog w "set" S S es.size (λi v=>∃e,(wk w S ep es)[i]? = some e/\v=e.2) (λh=>pS h S es ep t) where
 type:=λ_ x=>x.ty
 there:=λ_ x=>⟨x.lt,x.lt⟩
 keep:=λ_ _ x k=>x.to λo e=>k S (.inl rfl) o e
 notList:=by decide
 notTuple:=by decide
 hint:=λ_ _ _ _ x q=>Gy x.ty q
 iter:=λ_ _ a x=>⟨_,_,(λ_ _ q=>Ih x T q),Ga a _ S (aN x.lt) T,⟨⟨_,0,au _ rfl,rfl,rfl,Jb⟩,x.to λo e=>af _ e⟩⟩
theorem collect_set{l:LL}{R:List Vq->Shared->Prop}(D:A.handled=none)(z:SKx prog w G2 s.heap S l)(H:l.length<70)
  (h:∀(h':Heap) (g:Nat) (bs:List Addr) (ks:LL),(∀b o,s.heap.get? b=some o->h'.get? b=some o)->ks.Nodup->(∀k,k∈ks↔k∈l)->Paired (λb k=>G2 k b) bs ks->R (bs.map Value.ref) {s with heap:=h',toks:=g}) :
  wpAny (model prog w) A (collect (.ref S)) R E s:=by
 obtain⟨ks,⟨o,B,es,ep,t,ow,v,hd,T⟩,nd,r⟩:=z;have F:es.size<=sizeLine:=by have a:=T.ek.len;have b:=nd.length_le_of_subset (l₂:=l) λk m=>(r k).mp m;rw[bA]at a;rw[sizeLine_eq];omega
 refine W.kdu_collect (Jw T) D ⟨o,B,v,hd⟩ F λh' g c m d=>?_;obtain⟨n,j,u⟩:=T.ek.perm (xQ (w:=w) (S:=S) (ep:=ep) (es:=es));have e:c.toList=(wk w S ep es).toList.map (·.2):=by
  refine List.ext_getElem? λi=>?_;by_cases q:i<c.size
  .obtain⟨e,y,hv⟩:=d.2 i c[i] (Array.getElem?_eq_getElem q);rw[Array.getElem?_toList,Array.getElem?_eq_getElem q,aw,Array.getElem?_toList,y,hv];rfl
  .have x:c.size=es.size:=d.1;rw[List.getElem?_eq_none (by simp;omega),List.getElem?_eq_none (by simp[Cg];omega)]
 have f:∀{es:List (Int×Value)} {ks:LL},EK prog w G2 es ks->∃bs:List Addr,es.map (·.2)=bs.map Value.ref/\Paired (λb k=>G2 k b) bs ks:=λ{es ks} j=>by
  induction j with
  |nil=>exact⟨[],rfl,.nil⟩
  |@cons k a es ks t _ ih=>obtain⟨bs,e,p⟩:=ih;exact⟨a::bs,by rw[b8,e];rfl,.cons t p⟩
 obtain⟨bs,C,p⟩:=f j;rw[e,C];exact h h' g bs n m (u.nodup_iff.mpr nd) (λk=>(u.mem_iff).trans (r k)) p
end
end L2.Sp
namespace L2
open PySem PySem.Spec PySem.W PyProof.Rows
theorem uH{prog:Program}{w:World}:∀{r:LI} {vs:List Vq},ItemsAre (intKind prog w) r vs->IntsAre vs r
 |_,_,.nil=>.nil
 |_,_,.cons h t=>by obtain⟨a,rfl⟩:=Value.isInt_shape h;exact .cons _ a (uH t)
theorem tF{prog:Program}{w:World}:∀{r:LI} {vs:List Vq},IntsAre vs r->ItemsAre (intKind prog w) r vs
 |_,_,.nil=>.nil
 |_,_,.cons n t h=>.cons (intKind_is _ _ _ _) (tF h)
section
variable {prog:Program}{w:World}{A:Around}{E:Vq->Shared->Prop}{s:Sq}
theorem A0{G:LI->Addr->Prop}{S:Addr}{l:LL}{m:Nat}{Q:Vq->Shared->Prop}(hh:A.handled=none)(hS:Sp.SKx prog w G s.heap S l)(hG:∀k a,G k a->Sp.TK prog w s.heap k a)(hm:∀r∈l,r.length=m)(hl:l.length<64)
  (q:∀(h':Heap) (C:Nat) (L:Addr) (e:Nat) (bs:List Addr) (rs:LL),(∀b o,s.heap.get? b=some o->h'.get? b=some o)->S<L->h'.get? L=some (seqObj "list" (bs.map Value.ref).toArray e)->Paired (λb k=>G k b) bs rs->rs.Nodup->(∀k,k∈rs↔k∈l)->
   rs.Pairwise (λa b=>iQ b a=false)->Q (.ref L) {s with heap:=h',toks:=C}):wpAny (model prog w) A (call (.builtin "sorted") [.ref S]) Q E s:=by
 refine Calls.call_function_entry kind_sorted plain_sorted entry_sorted (args_sorted1 _) ?_;unfold Builtin.«sorted»;refine aq (m:=checkCount "sorted" 1 1 _) (ao ?_);refine aq (Sp.collect_set (A:=A.in1) hh hS (by omega) λd C bs rs R nd Y K=>?_);have D:bs.length=rs.length:=Paired.length K;have lr:rs.length<64:=by have:=nd.length_le_of_subset (l₂:=l) λk hk=>(Y k).mp hk;omega
 refine aq (wpAny_newList ?_ (by rw[ax,D,sizeLine_eq];omega));have g:(d.push (seqObj "list" (bs.map Value.ref).toArray 0)).get? d.objs.size=some (seqObj "list" (bs.map Value.ref).toArray 0):=au _ rfl;show wpAny _ _ _ _ _ {s with heap:=d.push (seqObj "list" (bs.map Value.ref).toArray 0),toks:=C};have J:∀b o,s.heap.get? b=some o->(d.push (seqObj "list" (bs.map Value.ref).toArray 0)).get? b=some o:=λb o e=>af _ (R b o e);have szl:S<d.objs.size:=by obtain⟨_,⟨o,P,_⟩,_⟩:=hS;exact aM (R _ _ P)
 have F:∀(h:List Addr) (f:LL),Paired (λb k=>G k b) h f->f.Perm rs->f.Pairwise (λa b=>iQ b a=false)->
   Q (.ref d.objs.size) {s with heap:=sortedHeap (d.push (seqObj "list" (bs.map Value.ref).toArray 0)) d.objs.size (bs.map Value.ref) (h.map Value.ref).toArray,toks:=C}:=λh f Z pm pw=>by
  obtain⟨e,he⟩:=sortedHeap_at (vs:=bs.map Value.ref) (out:=(h.map Value.ref).toArray) g;refine q _ C d.objs.size e h f (λb o N=>?_) szl he Z (pm.nodup_iff.mpr nd) (λk=>pm.mem_iff.trans (Y k)) pw;have I:=aM (R b o N);rw[sortedHeap_old (aN I) (by rw[size_push'];exact cq I)];exact J b o N
 by_cases u:rs.length<2
 .refine aq (wpAny_holding (wpAny_call_entry slot_list_sort ⟨_,g,rfl⟩ entry_list_sort (pj (A:=A.in1.in1) g (by rw[ax,D];exact u) ⟨_,rfl,?_⟩) (args_list_sort _)));refine ao ⟨_,rfl,F bs rs K (List.Perm.refl _) ?_⟩;match rs,u with
  |[],_=>exact .nil
  |[_],_=>exact dF _ _
 .have c:∀r∈rs,r.length=m:=λr hr=>hm r ((Y r).mp hr);obtain⟨k,hk⟩:∃k,m=k+1:=by
   rcases dG m with z|z
   .exfalso;match rs,u,c,nd with
    |[],u,_,_=>exact u (by simp)
    |[_],u,_,_=>exact u (by simp)
    |a::b::_,_,c,nd=>have ha:=dE.mp ((c a (by simp)).trans z);have N:=dE.mp ((c b (by simp)).trans z);simp[ha,N]at nd
   .exact⟨m-1,by omega⟩
  subst hk;obtain⟨x,hr0⟩:∃x,x∈rs:=by
   match rs,u with
   |[],u=>exact absurd (by simp) u
   |r::_,_=>exact⟨r,bj⟩
  have hv:Paired (sU (d.push (seqObj "list" (bs.map Value.ref).toArray 0)) d.objs.size) (bs.map Value.ref) rs:=by
   have go:∀{B:List Addr} {rs:LL},Paired (λb k=>G k b) B rs->Paired (sU (d.push (seqObj "list" (bs.map Value.ref).toArray 0)) d.objs.size) (B.map Value.ref) rs:=λ{B rs} t=>by
    induction t with
    |nil=>exact .nil
    |cons e t ih=>refine .cons ?_ ih;obtain⟨o,y,n,P,hc,hd,v⟩:=hG _ _ e;exact⟨_,o,y,n,rfl,λz=>absurd (aM (R _ _ P)) (by rw[z];exact ba _),J _ _ P,hc,hd,uH v⟩
   exact go K
  refine aq (wpAny_holding (wpAny_call_entry slot_list_sort ⟨_,g,rfl⟩ entry_list_sort (qh (A:=A.in1.in1) (lt:=λi j=>iQ (rs.getD i x) (rs.getD j x)) g (by rw[ax,D];omega) (by rw[ax,D];exact lr) (Cf c (c x hr0))
   (Bo (s:={s with heap:=d.push (seqObj "list" (bs.map Value.ref).toArray 0),toks:=C}) hv c (by rw[ax,D];omega)) λp U hu=>⟨_,rfl,?_⟩) (args_list_sort _)))
  rw[ax]at U hu;have H:∀i∈p.toList,i<bs.length:=λi v=>by have:i∈(List.range bs.length).toArray:=U.mem_iff.mp (by simpa using v);simpa using this
  have e1:(p.toList.map λi=>(bs.map Value.ref).getD i Value.none)=(p.toList.map λi=>bs.getD i 0).map Value.ref:=by rw[aJ];refine cQ λi v=>?_;have:=H i v;simp[this]
  rw[e1];have pl':p.toList.Perm (List.range bs.length):=by simpa using U.toList
  refine ao ⟨_,rfl,F (p.toList.map λi=>bs.getD i 0) (p.toList.map λi=>rs.getD i x) (pD _ _ _ λi v=>rQ K 0 x (H i v)) ?_ ?_⟩
  .have:=pl'.map λi=>rs.getD i x;rw[D,nC]at this;exact this
  .rw[dH,cX];intro i j v hj X;have hs:p.size=bs.length:=kQ U;have:=hu i j X (by simpa[hs] using hj);rw[cR,cR]at this;simpa[Array.getElem?_eq_getElem (show i<p.size by simpa using v),Array.getElem?_eq_getElem (show j<p.size by simpa using hj)] using this
end
section
variable {X:Cx}
def QC(K:W.Frag)(g:TA):TE:=λi H Q=>g i H λh e=>∃(p:Addr) (bs:List Addr) (f:LL) (m:Nat) (G:Addr->LI->Prop),h=[.ref p]/\kK K e p (bs.map V.ref)/\Paired G bs f/\(∀b r,G b r->e b=some (.tup (r.map V.int)))/\(∀r∈f,r.length=m)/\f.length<64/\
 ∀(l:Addr) (d:List Addr) (c:LL),e l=none->Paired G d c->c.Nodup->(∀k,k∈c↔k∈f)->c.Pairwise (λa b=>iQ b a=false)->Q (.ref l) (jn e l (.lst (d.map V.ref)))
def Eh(x:X.calm=true)(hu:X.A.units+200<cLine)(hg:Gl X "sorted")(z:X.mg "sorted" = none)(C:Gl X "set")(F:X.mg "set" = none)(ha:PA X [a] ta)(hs:starEach [a] X.env=[(false,eval a X.env)]:=by rfl)
  (R:starEach [Expr.Call (.Name "set" p2) [a] [] pos2] X.env=[(false,eval (.Call (.Name "set" p2) [a] [] pos2) X.env)]:=by rfl) :
  PE X (.Call (.Name "sorted" p1) [.Call (.Name "set" p2) [a] [] pos2] [] pos) (QC X.K ta):=by
 intro gq s σ H Q I h;refine wpAny_Call_Name_kw (mZ I hg z (by decide +kernel:bootBuiltins "sorted" = some (.builtin "sorted")) ?_);refine PyProof.Rows.callWith_builtin1 ?_ R rfl;rw[R];refine Calls.spliced_cons (Call_ (mZ I C F (by decide +kernel:bootBuiltins "set" = some (.type "set")) (PyProof.Rows.callWith_type1 (jw (ha pos2 gq s σ H _ I h) λus s1 ⟨vs,H1,I1,r1,q1⟩=>?_) hs rfl)));obtain⟨l,bs,rs,m,G,rfl,hS,Z,hG,z,hl,q⟩:=q1;obtain⟨u,rfl,rx⟩:=oU r1;cases rx;obtain⟨gF,y,pl,hz⟩:=I1.list hS;have e0:=qQ y;subst e0;have S:bs.length=rs.length:=Paired.length Z;have P:∀k a,G a k->Sp.TK X.prog X.w s1.heap k a:=λk a e=>by replace e:=hG _ _ e;obtain⟨_,gF,y,o,ho,x,n,hd,_⟩:=(show jK X.prog X.w H1 s1.heap _ (.tup _) from I1.hok _ _ e);exact⟨o,gF.toArray,n,ho,x,hd,by simpa using tF (m9 y)⟩
 refine Sp.set_list (G2:=λk a=>G a k) (rs:=rs) (I1.ok.hd x) (by omega) pl.isList (λi v hv=>?_) P (by simp[S]) (by simp[S];omega) λY tk j E=>Calls.spliced_nil ?_
 .have c:(bs.map Value.ref)[i]? = some v:=by simpa using hv
  rw[aw]at c;cases g:bs[i]? with
  |none=>rw[g]at c;cases c
  |some b=>rw[g]at c;cases c;obtain⟨r,er,hr⟩:=mM Z g;refine⟨b,rfl,?_⟩;rw[ag,er];exact hr
 .have J:∀b o,s1.heap.get? b=some o->Y.get? b=some o:=λb o e=>E b o (aM e) e;refine A0 (s:={s1 with heap:=Y,toks:=tk}) (m:=m) (I1.ok.hd x) j (λk a e=>let ⟨o,gF,n,q,r⟩:=P k a e;⟨o,gF,n,J _ _ q,r⟩) z hl λh2 D L e d f k2 N p B nd U pw=>?_;have lr:f.length<64:=by have:=nd.length_le_of_subset (l₂:=rs) λk E=>(U k).mp E;omega
  refine⟨.ref L,_,I1.laid (t':=D) (λb o g=>k2 b o (J b o g)) (bg N) (show jK X.prog X.w _ _ _ (.lst (d.map V.ref)) from ⟨?_,d.map Value.ref,e,?_,p⟩),rfl,q L d f (I1.hok.fresh (bg N)) B nd U pw⟩
  .rw[ax,Paired.length B];have:64<=sizeLine:=by decide
   omega
  .clear p B;induction d with
   |nil=>exact .nil
   |cons b l ih=>exact .cons rfl ih
theorem z9:kD X (.builtin "sorted") (λS H Q=>∃(p:Addr) (bs:List Addr) (rs:LL) (m:Nat) (G:Addr->LI->Prop),S=[.ref p]/\kK X.K H p (bs.map V.ref)/\Paired G bs rs/\(∀b r,G b r->H b=some (.tup (r.map V.int)))/\(∀r∈rs,r.length=m)/\(m=0->rs.length<2)/\rs.length<64/\
  ∀(l:Addr) (c:List Addr) (d:LL),H l=none->Paired G c d->d.Perm rs->d.Pairwise (λa b=>iQ b a=false)->Q (.ref l) (jn H l (.lst (c.map V.ref)))):=by
 intro gq s σ H S us Q I r h;obtain⟨p,bs,rs,m,G,rfl,hS,F,hG,N,h0,hl,q⟩:=h;obtain⟨u,rfl,rx⟩:=oU r;cases rx;obtain⟨gF,L,pl,hz⟩:=I.list hS;have e0:=qQ L;subst e0;have y:bs.length=rs.length:=Paired.length F;have B:∀(c:List Addr) (d:LL),c.length=bs.length->Paired G c d->d.Perm rs->d.Pairwise (λa b=>iQ b a=false)->∃v Y,gM X gq σ Y {s with heap:=sortedAll s.heap (bs.map Value.ref) (c.map Value.ref).toArray}/\iD v (.ref (s.heap.objs.size+1))/\Q v Y:=λc d E t pm pw=>by
  obtain⟨e,U⟩:=sortedAll_at s.heap (bs.map Value.ref) (c.map Value.ref).toArray;refine⟨.ref _,_,I.laid (t':=s.toks) (λb o E=>sortedAll_old E) (cy _) (show jK X.prog X.w _ _ _ (.lst (c.map V.ref)) from ⟨?_,c.map Value.ref,e,?_,U⟩),rfl,q _ c d (I.hok.fresh (cy _)) t pm pw⟩
  .rw[ax,E,y];have:64<=sizeLine:=by decide
   omega
  .clear U t pm pw E;induction c with
   |nil=>exact .nil
   |cons b l ih=>exact .cons rfl ih
 by_cases A:rs.length<2
 .refine AY pl.isList (by rw[ax,y];exact A) (B bs rs rfl F (List.Perm.refl _) ?_);match rs,A with
  |[],_=>exact .nil
  |[_],_=>exact dF _ _
 .obtain⟨k,hk⟩:∃k,m=k+1:=⟨m-1,by have:m≠0:=λz=>A (h0 z);omega⟩;subst hk;obtain⟨f,hr0⟩:∃f,f∈rs:=by
   match rs,A with
   |[],A=>exact absurd (by simp) A
   |r::_,_=>exact⟨r,bj⟩
  have hv:∀x,(∀b ob,s.heap.get? b=some ob->x.get? b=some ob)->Paired (sU x (s.heap.objs.size+1)) (bs.map Value.ref) rs:=λx P=>by
   have go:∀{bs:List Addr} {rs:LL},Paired G bs rs->Paired (sU x (s.heap.objs.size+1)) (bs.map Value.ref) rs:=λ{bs rs} t=>by
    induction t with
    |nil=>exact .nil
    |cons e t ih=>refine .cons ?_ ih;obtain⟨_,gF,L,o,Z,hc,n,hd,_⟩:=(show jK X.prog X.w H s.heap _ (.tup _) from I.hok _ _ (hG _ _ e));exact⟨_,o,gF.toArray,n,rfl,λz=>absurd (z▸aM Z) (Nat.not_lt.mpr (cy _)),P _ _ Z,hc,hd,by simpa using m9 L⟩
   exact go F
  refine DA (lt:=λi j=>iQ (rs.getD i f) (rs.getD j f)) pl.isList (by rw[ax,y];omega) (by rw[ax,y];exact hl) (Cf N (N f hr0)) (λx P=>Bo (s:={s with heap:=x}) (hv x P) N (by rw[ax,y];omega)) λp D hu=>?_;rw[ax]at D hu;have C:∀i∈p.toList,i<bs.length:=λi g=>by have:i∈(List.range bs.length).toArray:=D.mem_iff.mp (by simpa using g);simpa using this
  have e1:(p.toList.map λi=>(bs.map Value.ref).getD i Value.none)=(p.toList.map λi=>bs.getD i 0).map Value.ref:=by rw[aJ];refine cQ λi g=>?_;have:=C i g;simp[this]
  rw[e1];have R:p.toList.Perm (List.range bs.length):=by simpa using D.toList
  refine B (p.toList.map λi=>bs.getD i 0) (p.toList.map λi=>rs.getD i f) (by rw[ax,bA,kQ D]) (pD _ _ _ λi g=>rQ F 0 f (C i g)) ?_ ?_
  .have:=R.map λi=>rs.getD i f;rw[y,nC]at this;exact this
  .rw[dH,cX];intro i j g hj J;have hs:p.size=bs.length:=kQ D;have:=hu i j J (by simpa[hs] using hj);rw[cR,cR]at this;simpa[Array.getElem?_eq_getElem (show i<p.size by simpa using g),Array.getElem?_eq_getElem (show j<p.size by simpa using hj)] using this
end
end L2
namespace Cu
noncomputable def G(a b:Int):Int:=(Int.gcd a b:Nat)
def GQ a b:G b (Int.fmod a b)=G a b:=by
 unfold G;have e:=Int.fmod_def a b;rw[e];congr 1;apply Nat.dvd_antisymm
 .apply Int.dvd_gcd
  .have g:=dI b (a-b*Int.fdiv a b);have h:=dJ b (a-b*Int.fdiv a b);have d:=Int.dvd_add h (dM (c:=Int.fdiv a b) g);have f:a-b*Int.fdiv a b+b*Int.fdiv a b=a:=by omega
   rw[f]at d;exact d
  .exact dI b _
 .apply Int.dvd_gcd
  .exact dJ a b
  .exact Int.dvd_sub (dI a b) (dM (dJ a b))
def wC a b (h:b≠0):(Int.fmod a b).natAbs<b.natAbs:=by
 rcases Int.lt_or_gt_of_ne h with c|c
 .have e:=dN (-a) (show 0 < -b by omega);have d:=dO (-a) (show 0 < -b by omega);rw[Int.neg_fmod_neg]at e d;omega
 .have e:=dN a c;have d:=dO a c;omega
def NV a b:G (a.natAbs:Int) (b.natAbs:Int)=G a b:=by unfold G Int.gcd;rw[dP,dP]
def zV a:G a 0=(a.natAbs:Int):=by unfold G;rw[Int.gcd_zero_right]
def tN a b:0<=G a b:=Int.natCast_nonneg _
def zq a b (h:b≠0):0<G a b:=by have:=dQ a h;unfold G;omega
def lU a b:G a b ∣ a:=dI a b
def lu a b:G a b ∣ b:=dJ a b
def Lz a b (h:b≠0):G a b<=(b.natAbs:Int):=by have:=Int.natAbs_dvd_natAbs.mpr (lu a b);have c:=Nat.le_of_dvd (by omega) this;have:=tN a b;omega
structure Qr(t b p q:Int):Prop where
 pos:0<q
 one:G p q=1
 is:p*b=t*q
def uz(i:b≠0)(k:g≠0)(e:g=G t b\/g = - G t b)(hs:0<q)(c:t=g*p)(a:b=g*q):Qr t b p q:=by
 refine⟨hs,?_,?_⟩
 .have d:Int.gcd t b=g.natAbs*Int.gcd p q:=by rw[c,a,Int.gcd_mul_left]
  have h:g.natAbs=Int.gcd t b:=by unfold G at e;omega
  rw[h]at d;have j:=dQ t i;have f:Int.gcd p q=1:=by
   have:Int.gcd t b*1=Int.gcd t b*Int.gcd p q:=by rw[<-d,Nat.mul_one]
   exact (Nat.eq_of_mul_eq_mul_left j this).symm
  unfold G;rw[f];rfl
 .have:p*(g*q)=g*p*q:=by rw[<-dR,dS p g]
  rw[<-a,<-c]at this;exact this
def l9 g p (a:g≠0):Int.fdiv (g*p) g=p:=by exact dU p a
def Fy t b (f:b≠0):Qr t b (Int.fdiv t (if b<0 then-G t b else G t b)) (Int.fdiv b (if b<0 then-G t b else G t b)):=by
 have j:=zq t b f;obtain⟨p,g⟩:=lU t b;obtain⟨q,d⟩:=lu t b;by_cases h:b<0
 .rw[aR h];have k:t=(-G t b)*(-p):=by rw[Int.neg_mul_neg];exact g
  have c:b=(-G t b)*(-q):=by rw[Int.neg_mul_neg];exact d
  have e:Int.fdiv t (-G t b) = -p:=by have:=l9 (-G t b) (-p) (by omega);rw[<-k]at this;exact this
  have i:Int.fdiv b (-G t b) = -q:=by have:=l9 (-G t b) (-q) (by omega);rw[<-c]at this;exact this
  rw[e,i];refine uz f (by omega) (Or.inr rfl) ?_ k c;by_cases a:0 < -q
  .exact a
  .exfalso;have:0<=q:=by omega
   have:=Int.mul_nonneg (aB j) this;omega
 .rw[aS h];have e:Int.fdiv t (G t b)=p:=by have:=l9 (G t b) p (by omega);rw[<-g]at this;exact this
  have i:Int.fdiv b (G t b)=q:=by have:=l9 (G t b) q (by omega);rw[<-d]at this;exact this
  rw[e,i];refine uz f (by omega) (Or.inl rfl) ?_ g d;by_cases a:0<q
  .exact a
  .exfalso;have:0<=-q:=by omega
   have:=Int.mul_nonneg (aB j) this;rw[dW]at this;omega
end Cu
namespace Cu
open PySem PyProof.Rows
open PySem.Builtin.Int (intBits)
def noPy(h:intBits y<=m)(c:m<=8000):PySem.Builtin.divisionGoesByPylong x y=false:=by
 refine PyProof.noPylong_of_log2 ?_;rcases dG y.natAbs with b|a
 .rw[b];decide
 .refine (Nat.log2_lt (bB a)).mpr ?_;exact lt_pow_of_bits h (by omega)
end Cu
namespace L2
open PySem PySem.Spec PyProof.Rows
def E9:kD X (.builtin "isinstance") (λa H Q=>∃x T t b,a=[x,.ty T]/\nW X.K H x t/\W.kitOne X.K t (.type T)=some b/\Q (.bl b) H):=by
 intro d s g H a f Q I r h;obtain⟨x,T,t,b,rfl,ty,e,q⟩:=h;cases r with
 |cons r1 r2=>
  cases r2 with
  |cons r3 r4=>cases r4;cases (r3);exact Di I r1 ty e λc=>⟨.bl b,H,I.tok c,rfl,q⟩
def KB:bootBuiltins "isinstance" = some (.builtin "isinstance"):=by decide +kernel
def nP:bootBuiltins "abs" = some (.builtin "abs"):=by decide +kernel
def An:bootBuiltins "int" = some (.type "int"):=by decide +kernel
def Cc:bootBuiltins "bool" = some (.type "bool"):=by decide +kernel
def jg:bootBuiltins "tuple" = some (.type "tuple"):=by decide +kernel
def ke:bootBuiltins "len" = some (.builtin "len"):=by decide +kernel
end L2
namespace L2
open PySem PySem.W PySem.Spec PyProof.Rows
def Dk{l:W.OpenLaw}{n k:Nat}{q:Program}{i:List Str}{XP:(Str->Option Value)->Heap->Prop}{YP:World->Heap->Prop}{d:DefRec}{K:Params->W.Frag}{X:JM}{sp:W.Frag->Sp}{x:Str}
  (hn:l.most=some n) (I:n<=sizeLine) (Q:d.params.defaults=[]) (hr:jO k callerA)
  (hY:∀(w:World) (h:Heap),YP w h->(K w.params).In h)
  (F:∀(w:World) (m:Str->Option Value) (D:Addr) (h:Heap),(K w.params).In h->h.Ns mainGlobals m->m d.name=some (.ref D)->
   ∃fd:FuncData,(∀(s:Sq) (u:Vq),BindsTo s fd ⟨[u],[]⟩ [(x,u)])/\
    ∀c:Heap,(K w.params).In c->c.Ns mainGlobals m->ny l.prog w (K w.params) m c X k D fd [x] (sp (K w.params)))
  (S:∀(K:W.Frag) (H:Hp) (a:Addr) (p:LI),p.length<=n->(∀z∈p,PySem.Builtin.Int.intBits z<=2 ^ 20)->KP H->kK K H a (p.map V.int)->sp K [.ref a] H (λv _=>v=.bl true) λ_ _ _=>False)
  (N:∀(H:Hp) (s:Sq) (e:Vq) (E:Sq),X [] H s (λ_ _ _=>False) e E->False) :
  W.WalkO q i XP YP l.row.toRowW d [] (λf vs=>PySem.call f vs):=by
 intro w Z A m mb G Y D o pm cd doc dV kV ho hd hcd hD R hg args U as C B hrd J hlo;obtain rfl:dV=.none:=Dflts.none hD Q;obtain rfl:kV=.none:=Dflts.noKw hD;obtain⟨a,vs,p,rfl,rfl,y,j,kl⟩:=Att.script_of hn C J;have hb:∀z∈p,PySem.Builtin.Int.intBits z<=2 ^ 20:=λz hz=>by have h1:=(layW_cons B).1;have L:=layableW_item h1 (WData.int z) (aE.mpr ⟨z,hz,rfl⟩);exact PyData.bits_of_layable (layable_int L)
 have KX:=hY w _ Y;obtain⟨fd,P,hF⟩:=F w m D _ KX G.T.g R;refine enter_call (codeAny_mono (Hn KX G.T.g G.T.b G.T.builtins G.T.nolimit hg y j (aO kl I) hr hF P (λH hO hS=>S _ H a p kl hb hO hS) λH e E=>N H A e E) λr E hq=>?_);obtain⟨rfl,L,h3,h4⟩:=hq;exact⟨.inl ⟨.bool true,.bool true,[],rfl,λ_=>rfl,.bool true,Att.post_true l _,λ_=>⟨List.Pairwise.nil,λ_ hm=>(nomatch hm)⟩⟩,L,h3,h4⟩
end L2
namespace L3
open PySem L2
inductive T where
 |non|bl (b:Bool)|int (i:Int)|str (x:Str)
 |tup (ts:List T)|lst (ts:List T)|scr (ns:LI)
 |obj (C:Addr) (fs:List (Str×T))|emp
 |dic (kvs:List (LI×T))
inductive M(α:Type) where
 |bad|ok (a:α)|er (C:Addr) (n:Option Int)
namespace M
noncomputable def bind{b c:Type}(m:M b)(k:b->M c):M c:=match m with
 |.bad=>.bad
 |.ok a=>k a
 |.er C n=>.er C n
instance:Monad M where
 pure:=.ok
 bind:=M.bind
noncomputable def res{b:Type}(m:M b)(P:b->Prop)(E:Addr->Option Int->Prop):Prop:=match m with
 |.bad=>False
 |.ok a=>P a
 |.er C n=>E C n
def res.unb{m:M α}{k:α->M β}{P:β->Prop}(h:res (m.bind k) P E):res m (λa=>res (k a) P E) E:=by cases m<;>exact h
def res.mono{m:M α}{P b:α->Prop}(h:res m P E)(d:∀a,P a->b a)(c:∀C n,E C n->E' C n):res m b E':=by
 cases m with
 |bad=>exact h
 |ok a=>exact d a h
 |er C n=>exact c C n h
noncomputable def noEr{a:Type}(m:M a):M a:=match m with
 |.er _ _=>.bad
 |m=>m
def res.noEr{m:M α}{P:α->Prop}(h:res m.noEr P E):res m P E':=by
 cases m with
 |bad=>exact h
 |ok a=>exact h
 |er C n=>exact h.elim
@[simp] theorem bind_ok a (k:α->M β):M.bind (.ok a) k=k a:=rfl
@[simp] theorem NF(k:α->M β):M.bind (.bad:M α) k=.bad:=rfl
@[simp] theorem Pn C n (k:α->M β):M.bind (.er C n:M α) k=.er C n:=rfl
noncomputable def NoE{a:Type}(m:M a):Prop:=∀C n,m≠.er C n
def res.ne{m:M α}{P:α->Prop}(h:res m P E)(ne:NoE m):res m P E':=by
 cases m with
 |bad=>exact h
 |ok a=>exact h
 |er C n=>exact absurd rfl (ne C n)
@[simp] theorem Pq(a:α):noEr (.ok a)=.ok a:=rfl
end M
mutual
inductive kj(K:W.Frag)(F:Hp):V->T->Prop
 |non:kj K F .non .non
 |bl (b:Bool):kj K F (.bl b) (.bl b)
 |int (i:Int):kj K F (.int i) (.int i)
 |str (x:Str):kj K F (.str x) (.str x)
 |tup {a:Addr} {xs:List V} {ts:List T} (h:F a=some (.tup xs)) (r:gN K F xs ts):kj K F (.ref a) (.tup ts)
 |lst {a:Addr} {xs:List V} {ts:List T} (h:F a=some (.lst xs)) (r:gN K F xs ts):kj K F (.ref a) (.lst ts)
 |scr {a:Addr} {ns:LI} (h:kK K F a (ns.map V.int)):kj K F (.ref a) (.scr ns)
 |obj {a C dx:Addr} {fs:List (Str×V)} {ts:List (Str×T)} (h:F a=some (.ins C dx fs)) (r:p6 K F fs ts):kj K F (.ref a) (.obj C ts)
 |emp {a:Addr} (h:F a=some (.dK [])):kj K F (.ref a) .emp
 |dic {a:Addr} {xs:List (List mW×V)} {kvs:List (LI×T)} (h:F a=some (.dT xs)) (r:lX K F xs kvs):kj K F (.ref a) (.dic kvs)
inductive gN(K:W.Frag)(F:Hp):List V->List T->Prop
 |nil:gN K F [] []
 |cons {v:V} {t:T} {vs:List V} {ts:List T} (h:kj K F v t) (r:gN K F vs ts):gN K F (v::vs) (t::ts)
inductive p6(K:W.Frag)(F:Hp):List (Str×V)->List (Str×T)->Prop
 |nil:p6 K F [] []
 |cons {x:Str} {v:V} {t:T} {vs:List (Str×V)} {ts:List (Str×T)} (h:kj K F v t) (r:p6 K F vs ts):p6 K F ((x,v)::vs) ((x,t)::ts)
inductive lX(K:W.Frag)(F:Hp):List (List mW×V)->List (LI×T)->Prop
 |nil:lX K F [] []
 |cons {k:LI} {v:V} {t:T} {vs:List (List mW×V)} {ts:List (LI×T)} (h:kj K F v t) (r:lX K F vs ts):lX K F ((k.map Sum.inl,v)::vs) ((k,t)::ts)
end
section
variable {K:W.Frag}{F F':Hp}
mutual
theorem kj.mono(s:gS F F'):∀{v} {t},kj K F v t->kj K F' v t
 |_,_,.non=>.non
 |_,_,.bl b=>.bl b
 |_,_,.int i=>.int i
 |_,_,.str x=>.str x
 |_,_,.tup h r=>.tup (s _ _ h) (gN.mono s r)
 |_,_,.lst h r=>.lst (s _ _ h) (gN.mono s r)
 |_,_,.scr h=>.scr (s.seq h)
 |_,_,.obj h r=>.obj (s _ _ h) (p6.mono s r)
 |_,_,.emp h=>.emp (s _ _ h)
 |_,_,.dic h r=>.dic (s _ _ h) (lX.mono s r)
theorem gN.mono(s:gS F F'):∀{vs} {ts},gN K F vs ts->gN K F' vs ts
 |_,_,.nil=>.nil
 |_,_,.cons h r=>.cons (kj.mono s h) (gN.mono s r)
theorem p6.mono(s:gS F F'):∀{vs} {ts},p6 K F vs ts->p6 K F' vs ts
 |_,_,.nil=>.nil
 |_,_,.cons h r=>.cons (kj.mono s h) (p6.mono s r)
theorem lX.mono(s:gS F F'):∀{vs} {ts},lX K F vs ts->lX K F' vs ts
 |_,_,.nil=>.nil
 |_,_,.cons h r=>.cons (kj.mono s h) (lX.mono s r)
end
theorem gN.length:∀{vs} {ts},gN K F vs ts->vs.length=ts.length
 |_,_,.nil=>rfl
 |_,_,.cons _ r=>by rw[aA,aA,gN.length r]
theorem gN.get:∀{vs:List V} {ts:List T} {i:Nat} {t:T},gN K F vs ts->ts[i]? = some t->∃v,vs[i]? = some v/\kj K F v t
 |_,_,_,_,.nil,e=>by simp at e
 |_,_,0,_,.cons h _,e=>by simp at e;subst e;exact⟨_,rfl,h⟩
 |_,_,i+1,_,.cons _ r,e=>by obtain⟨v,a,h⟩:=gN.get r (by simpa using e);exact⟨v,by simpa using a,h⟩
def gN.at_{i:Nat}(r:gN K F vs ts)(e:vs[i]? = some v):∃t,ts[i]? = some t/\kj K F v t:=by
 have b:i<ts.length:=by rw[<-r.length];exact (ae.mp e).1
 obtain⟨c,a,h⟩:=r.get (ai b);rw[e]at a;cases a;exact⟨_,ai b,h⟩
theorem gN.append:∀{vs us} {ts ss},gN K F vs ts->gN K F us ss->gN K F (vs++us) (ts++ss)
 |_,_,_,_,.nil,q=>q
 |_,_,_,_,.cons h r,q=>.cons h (gN.append r q)
theorem gN.set(q:kj K F v t):∀{vs} {ts} i,gN K F vs ts->gN K F (vs.set i v) (ts.set i t)
 |_,_,_,.nil=>.nil
 |_,_,0,.cons _ r=>.cons q r
 |_,_,i+1,.cons h r=>.cons h (gN.set q i r)
theorem gN.take:∀{vs} {ts} n,gN K F vs ts->gN K F (vs.take n) (ts.take n)
 |_,_,0,_=>.nil
 |_,_,_+1,.nil=>.nil
 |_,_,n+1,.cons h r=>.cons h (gN.take n r)
theorem gN.drop:∀{vs} {ts} n,gN K F vs ts->gN K F (vs.drop n) (ts.drop n)
 |_,_,0,r=>r
 |_,_,_+1,.nil=>.nil
 |_,_,n+1,.cons _ r=>gN.drop n r
theorem gN.rep:∀{vs} {ts} n,gN K F vs ts->gN K F (List.replicate n vs).flatten (List.replicate n ts).flatten
 |_,_,0,_=>.nil
 |_,_,n+1,r=>by rw[bU,bU,bV,bV];exact r.append (gN.rep n r)
theorem gN.ints:∀{vs:List V} {a:LI},gN K F vs (a.map T.int)->vs=a.map V.int
 |_,[],.nil=>rfl
 |_,_::_,.cons h r=>by cases h;rw[gN.ints r];rfl
theorem gN.bls:∀{vs:List V} {a:List Bool},gN K F vs (a.map T.bl)->vs=a.map V.bl
 |_,[],.nil=>rfl
 |_,_::_,.cons h r=>by cases h;rw[gN.bls r];rfl
theorem gN.of_ints:∀(a:LI),gN K F (a.map V.int) (a.map T.int)
 |[]=>.nil
 |n::a=>.cons (.int n) (gN.of_ints a)
end
def BM(h:Ko o (some u))(b:∀q a,u≠.tbl q a):o=u:=by
 cases o with
 |tbl q a=>obtain⟨m,e⟩:=h;exact absurd (Option.some.inj e) (b _ _)
 |_=>exact (Option.some.inj h).symm
def yO{H:Hp}(h:Ko u (H b))(h':H p=none):b≠p:=λz=>h.ne (by rw[z];exact h')
structure Gr(F H F' H':Hp):Prop where
 ff:gS F F'
 fh:gS F' H'
 hh:gS H H'
 nw:∀a,F' a≠none->F a≠none\/H a=none\/∃xs,H a=some (.tup xs)
def Gr.refl(h:gS F H):Gr F H F H:=⟨.refl _,h,.refl _,λ_ h=>.inl h⟩
def iL(h:gS H H')(e:H' a=none):H a=none:=by
 cases q:H a with
 |none=>rfl
 |some o=>exact absurd e (h a o q).ne
def Gr.trans(g:Gr F H F' H')(b:Gr F' H' F'' H''):Gr F H F'' H'':=
 ⟨g.ff.trans b.ff,b.fh,g.hh.trans b.hh,λa d=>by
  rcases b.nw a d with q|q|⟨c,q⟩
  .exact g.nw a q
  .exact .inr (.inl (iL g.hh q))
  .cases z:H a with
   |none=>exact .inr (.inl rfl)
   |some o=>exact .inr (.inr ⟨c,by have k:=g.hh a o z;rw[q]at k;rw[BM k λ_ _ y=>nomatch y]⟩)⟩
def Gr.new(s:gS F H)(h:H p=none):Gr F H (jn F p o) (jn H p o):=by
 have c:=iL s h;refine⟨λb u e=>?_,λb u e=>?_,λb u e=>?_,λb a=>?_⟩
 .rw[gL (gW e c)];exact .of e
 .by_cases q:b=p
  .subst q;rw[gJ]at e ⊢;exact .of e
  .rw[gL q]at e ⊢;exact s b u e
 .rw[gL (gW e h)];exact .of e
 .by_cases q:b=p
  .subst q;exact .inr (.inl h)
  .rw[gL q]at a;exact .inl a
def Gr.new'(s:gS F H)(h:H p=none):Gr F H F (jn H p o):=by
 refine⟨.refl _,λb u e=>?_,λb u e=>?_,λb a=>.inl a⟩
 .rw[gL (yO (s b u e) h)];exact s b u e
 .rw[gL (gW e h)];exact .of e
def Gr.take(g:Gr F0 H0 F H)(h:H p=some o)(c:F p=none)(d:H0 p=none):Gr F0 H0 (jn F p o) H:=by
 refine⟨λb u e=>?_,λb u e=>?_,g.hh,λb a=>?_⟩
 .rw[gL (yO (g.ff b u e) c)];exact g.ff b u e
 .by_cases q:b=p
  .subst q;rw[gJ]at e;cases e;exact .of h
  .rw[gL q]at e;exact g.fh b u e
 .by_cases q:b=p
  .subst q;exact .inr (.inl d)
  .rw[gL q]at a;exact g.nw b a
def my(a:F p=none):gS F (jn F p o):=λb u e=>by rw[gL (gW e a)];exact .of e
abbrev Pe:=List (Option T)
section
variable (K:W.Frag)
def lh(F:Hp)(a:St)(ρ:Pe):Prop:=∀(i:Nat) (t:T),ρ[i]? = some (some t)->∃v,a[i]? = some (some v)/\kj K F v t
def lh.mono{K:W.Frag}(h:lh K F σ ρ)(s:gS F F'):lh K F' σ ρ:=λi t e=>let ⟨v,a,b⟩:=h i t e;⟨v,a,b.mono s⟩
def QL(E:XK)(C:Addr)(n:Option Int)(F H:Hp):Prop:=match n with
 |none=>E (.ref C) none H
 |some i=>∀a,F a=some (.xd [("at",.int i)])->E (.ref C) (some a) H
def kE(E:XK)(F H:Hp)(C:Addr)(n:Option Int):Prop:=∀a b,Gr F H a b->QL E C n a b
def kE.go(h:kE E F H C n)(g:Gr F H F1 H1):kE E F1 H1 C n:=λa c b=>h a c (g.trans b)
def kV(F H:Hp)(Q:VK)(t:T):Prop:=∀v a b,Gr F H a b->kj K a v t->Q v b
def kB(F H:Hp)(Q:Bool->Hp->Prop)(b:Bool):Prop:=∀c a,Gr F H c a->Q b a
def kA(F H:Hp)(Q:List V->Hp->Prop)(ts:List T):Prop:=∀c a b,Gr F H a b->gN K a c ts->Q c b
def kF(F H:Hp)(Q:VK)(ts:List T):Prop:=∀l c a b,Gr F H a b->H l=none->a l=none->b l=some (.lst c)->gN K a c ts->Q (.ref l) b
noncomputable def ME(E:XK)(t:TE)(f:Pe->M T):Prop:=∀F H a b Q,gS F H->lh K F a b->(f b).res (kV K F H Q) (kE E F H)->t a H Q
noncomputable def MT(E:XK)(t:TT)(f:Pe->M Bool):Prop:=∀F H a b Q,gS F H->lh K F a b->(f b).res (kB F H Q) (kE E F H)->t a H Q
noncomputable def MA(E:XK)(t:TA)(f:Pe->M (List T)):Prop:=∀F H a b Q,gS F H->lh K F a b->(f b).res (kA K F H Q) (kE E F H)->t a H Q
noncomputable def MF(E:XK)(t:TE)(f:Pe->M (List T)):Prop:=∀F H a b Q,gS F H->lh K F a b->(f b).res (kF K F H Q) (kE E F H)->t a H Q
end
section
variable {K:W.Frag}{E:XK}{t u ta tb:TE}{f g fa fb:Pe->M T}
def kV.go{t:T}(h:kV K F H Q t)(g:Gr F H F1 H1):kV K F1 H1 Q t:=λv a c b r=>h v a c (g.trans b) r
def kB.go{t:Bool}(h:kB F H Q t)(g:Gr F H F1 H1):kB F1 H1 Q t:=λa c b=>h a c (g.trans b)
def kF.go{t:List T}(h:kF K F H Q t)(g:Gr F H F1 H1):kF K F1 H1 Q t:=λl k e j i a b c d=>h l k e j (g.trans i) (iL g.hh a) b c d
def kV.now{t:T}(h:kV K F H Q t)(s:gS F H)(r:kj K F v t):Q v H:=h v F H (.refl s) r
def kF.of(h:kV K F H Q (.lst ts)):kF K F H Q ts:=λl i c e g d b a r=>h (.ref l) (jn c l (.lst i)) e (g.take a b d) (.lst gJ (r.mono (my b)))
def MF.me{f:Pe->M (List T)}(h:MF K E t f):ME K E t (λρ=>(f ρ).bind λts=>.ok (.lst ts)):=λF H a ρ Q s V r=>h F H a ρ Q s V ((M.res.unb r).mono (λts q=>kF.of q) λ_ _ z=>z)
def ME.run{k:T->M α}{P:α->Prop}(h:ME K E t f)(s:gS F H)(v:lh K F σ ρ)(r:((f ρ).bind k).res P (kE E F H))
  (c:∀x w a b,Gr F H a b->kj K a w x->(k x).res P (kE E a b)->Q w b):t σ H Q:=
 h F H σ ρ Q s v ((M.res.unb r).mono (λx q w a b g d=>c x w a b g d (q.mono (λ_ z=>z) λ_ _ z=>z.go g)) λ_ _ z=>z)
def MT.run{t:TT}{f:Pe->M Bool}{k:Bool->M α}{P:α->Prop}(h:MT K E t f)(s:gS F H)(v:lh K F σ ρ)(r:((f ρ).bind k).res P (kE E F H))
  (c:∀x b a,Gr F H b a->(k x).res P (kE E b a)->Q x a):t σ H Q:=
 h F H σ ρ Q s v ((M.res.unb r).mono (λx q b a g=>c x b a g (q.mono (λ_ z=>z) λ_ _ z=>z.go g)) λ_ _ z=>z)
def MA.run{t:TA}{f:Pe->M (List T)}{k:List T->M α}{P:α->Prop}(h:MA K E t f)(s:gS F H)(v:lh K F σ ρ)(r:((f ρ).bind k).res P (kE E F H))
  (c:∀x w a b,Gr F H a b->gN K a w x->(k x).res P (kE E a b)->Q w b):t σ H Q:=
 h F H σ ρ Q s v ((M.res.unb r).mono (λx q w a b g d=>c x w a b g d (q.mono (λ_ z=>z) λ_ _ z=>z.go g)) λ_ _ z=>z)
@[simp] noncomputable def gy(i:Nat):Pe->M T:=λa=>match a[i]? with
 |some (some t)=>.ok t
 |_=>.bad
def MV:ME K E (qX i) (gy i):=λF H b c Q s V r=>by
 unfold gy at r;split at r
 .rename_i t e;obtain⟨v,a,h⟩:=V i t e;exact⟨v,a,r.now s h⟩
 .exact r.elim
@[simp] noncomputable def cM(t:T):Pe->M T:=λ_=>.ok t
def HQ{t:T}(h:∀F,kj K F v t):ME K E (tC v) (cM t):=λF H a b Q s V r=>kV.now r s (h F)
@[simp] noncomputable def gI(o:T->T->M T)(fa fb:Pe->M T):Pe->M T:=λa=>(fa a).bind λx=>(fb a).bind λy=>o x y
structure MR(K:W.Frag)(r:R2)(o:T->T->M T):Prop where
 ne:∀x y,M.NoE (o x y)
 ok:∀F H v w x y Q,gS F H->kj K F v x->kj K F w y->(o x y).res (kV K F H Q) (λ_ _=>False)->r v w H Q
def Bj(hr:MR K r o)(c:ME K E ta fa)(h:ME K E tb fb):ME K E (uM r ta tb) (gI o fa fb):=λF H A n Q s V q=>by refine c.run s V q λx v p m b i l=>?_;refine h.run b.fh (V.mono b.ff) l λy w j d a k e=>?_;exact hr.ok j d v w x y Q a.fh (i.mono a.ff) k ((e.ne (hr.ne x y)).mono (λ_ z=>z.go (b.trans a)) λ_ _ z=>z)
noncomputable def kh(C:Int->Int->Bool)(g:Int->Int->T):T->T->M T
 |.int i,.int j=>if C i j then .ok (g i j) else .bad
 |_,_=>.bad
def yQ{g:Int->Int->T} x y:M.NoE (kh C g x y):=λa n=>by
 unfold kh;split
 .split<;>exact λz=>nomatch z
 .exact λz=>nomatch z
def kj.int_inv(h:kj K F v (.int i)):v=.int i:=by cases h;rfl
def kj.lst_inv(h:kj K F v (.lst ts)):∃a b,v=.ref a/\F a=some (.lst b)/\gN K F b ts:=by cases h;exact⟨_,_,rfl,‹_›,‹_›⟩
def kj.tup_inv(h:kj K F v (.tup ts)):∃a b,v=.ref a/\F a=some (.tup b)/\gN K F b ts:=by cases h;exact⟨_,_,rfl,‹_›,‹_›⟩
def gN.two(h:gN K F vs [.int i,.int j]):vs=[.int i,.int j]:=by
 cases h with
 |cons h t=>
  cases t with
  |cons h2 t=>cases t;rw[h.int_inv,h2.int_inv]
def tq{g:Int->Int->V}(c:∀i j,Cb i j=true->C i j)(d:∀F i j,kj K F (g i j) (gt i j)):MR K (rI C g) (kh Cb gt):=⟨yQ,λF H v w x y Q s a b q=>by
 unfold kh at q;split at q
 .rename_i i j;rw[a.int_inv,b.int_inv];by_cases h:Cb i j=true
  .rw[aR h]at q;exact⟨i,j,rfl,rfl,c i j h,kV.now q s (d F i j)⟩
  .rw[aS h]at q;exact q.elim
 .exact q.elim⟩
def qF{g:Int->Int->V}(c:∀F i j,kj K F (g i j) (gt i j)):MR K (AX g) (kh (λ_ _=>true) gt):=⟨yQ,λF H v w x y Q s a b q=>by
 unfold kh at q;split at q
 .rw[a.int_inv,b.int_inv];exact⟨_,_,rfl,rfl,kV.now q s (c F _ _)⟩
 .exact q.elim⟩
@[simp] noncomputable def nv(o:Int->T)(fa:Pe->M T):Pe->M T:=λa=>(fa a).bind λx=>match x with
 |.int i=>.ok (o i)
 |_=>.bad
def Og{g:Int->V}(h:∀F i,kj K F (g i) (gt i))(d:ME K E ta fa):ME K E (PN (rU g) ta) (nv gt fa):=λF H l k Q s V q=>by
 refine d.run s V q λx v a c j e b=>?_;cases e<;>first
  |exact b.elim
  |exact⟨_,rfl,b _ a c j (h a _)⟩
@[simp] noncomputable def j4(fa:Pe->M T):Pe->M Bool:=λa=>(fa a).bind λx=>match x with
 |.bl b=>.ok b
 |_=>.bad
def Ia(b:ME K E ta fa):MT K E (tB ta) (j4 fa):=λF H i j Q s V q=>by
 refine b.run s V q λx v e d c h a=>?_;cases h<;>first
  |exact a.elim
  |exact⟨_,rfl,a e d c⟩
def A1(a:ME K E ta fa):MT K E (rW ta) (j4 fa):=Ia a
section
variable {c d:TT}{fc fd:Pe->M Bool}
@[simp] noncomputable def wO(fc fd:Pe->M Bool):Pe->M Bool:=λa=>(fc a).bind λb=>if b then fd a else .ok false
@[simp] noncomputable def Lb(fc fd:Pe->M Bool):Pe->M Bool:=λa=>(fc a).bind λb=>if b then .ok true else fd a
@[simp] noncomputable def qO(fc:Pe->M Bool):Pe->M Bool:=λa=>(fc a).bind λb=>.ok (!b)
def My(l:MT K E c fc)(hd:MT K E d fd):MT K E (MD c d) (wO fc fd):=λF H j k Q s V q=>by
 refine l.run s V q λb h e a i=>?_;cases b with
 |true=>rw[aR rfl];exact hd h e j k Q a.fh (V.mono a.ff) (i.mono (λ_ z=>z.go a) λ_ _ z=>z)
 |false=>rw[aS aI];exact i h e a
def NB(l:MT K E c fc)(hd:MT K E d fd):MT K E (PR c d) (Lb fc fd):=λF H j k Q s V q=>by
 refine l.run s V q λb h e a i=>?_;cases b with
 |true=>rw[aR rfl];exact i h e a
 |false=>rw[aS aI];exact hd h e j k Q a.fh (V.mono a.ff) (i.mono (λ_ z=>z.go a) λ_ _ z=>z)
def Lf(h:MT K E c fc):MT K E (KF c) (qO fc):=λF H k l Q s V q=>by refine h.run s V q λb i e a j=>?_;exact j i e a
@[simp] noncomputable def Qn(fc:Pe->M Bool)(fa fb:Pe->M T):Pe->M T:=λa=>(fc a).bind λb=>if b then fa a else fb a
def OZ(m:MT K E c fc)(l:ME K E ta fa)(n:ME K E tb fb):ME K E (PV c ta tb) (Qn fc fa fb):=λF H e h Q s V q=>by
 refine m.run s V q λb j i a k=>?_;cases b with
 |true=>rw[aR rfl];exact l j i e h Q a.fh (V.mono a.ff) (k.mono (λ_ z=>z.go a) λ_ _ z=>z)
 |false=>rw[aS aI];exact n j i e h Q a.fh (V.mono a.ff) (k.mono (λ_ z=>z.go a) λ_ _ z=>z)
end
@[simp] noncomputable def xi(fa fb:Pe->M T):Pe->M T:=λa=>(j4 fa a).bind λb=>if b then fb a else .ok (.bl false)
@[simp] noncomputable def CG(fa:Pe->M T):Pe->M T:=λa=>(j4 fa a).bind λb=>.ok (.bl (!b))
def HH(j:ME K E ta fa)(k:ME K E tb fb):ME K E (G3 ta tb) (xi fa fb):=λF H h i Q s V q=>by
 refine (Ia j).run s V q λb d c a e=>?_;cases b with
 |true=>rw[aR rfl];exact k d c h i Q a.fh (V.mono a.ff) (e.mono (λ_ z=>z.go a) λ_ _ z=>z)
 |false=>rw[aS aI];exact e _ d c a (.bl _)
def Jd(a:ME K E ta fa):ME K E (GU ta) (CG fa):=λF H i j Q s V q=>by refine (Ia a).run s V q λb e d c h=>?_;exact h _ e d c (.bl _)
@[simp] noncomputable def gn(fa:Pe->M T)(fr:Pe->M (List T)):Pe->M (List T):=λa=>(fa a).bind λx=>(fr a).bind λb=>.ok (x::b)
@[simp] noncomputable def gA:Pe->M (List T):=λ_=>.ok []
def Nj:MA K E DI gA:=λF H a b Q s V q=>q [] F H (.refl s) .nil
def HB{c:TA}{fr:Pe->M (List T)}(d:ME K E ta fa)(hr:MA K E c fr):MA K E (rS ta c) (gn fa fr):=λF H w p Q s V q=>by refine d.run s V q λx v r n a i m=>?_;refine hr.run a.fh (V.mono a.ff) m λo l j e b k h=>?_;exact h (v::l) j e (a.trans b) (.cons (i.mono b.ff) k)
@[simp] noncomputable def yx(ts:List T):M (List T):=if ts.length<=sizeLine then .ok ts else .bad
@[simp] noncomputable def kS(fr:Pe->M (List T)):Pe->M T:=λb=>(fr b).bind λa=>(yx a).bind λa=>.ok (.tup a)
@[simp] noncomputable def lstM(fr:Pe->M (List T)):Pe->M (List T):=λa=>(fr a).bind yx
def Kw{d:TA}{fr:Pe->M (List T)}(hr:MA K E d fr):ME K E (KJ d) (kS fr):=λF H m k Q s V q=>by
 refine hr.run s V q λi n l j b c a=>?_;unfold yx at a;by_cases h:i.length<=sizeLine
 .rw[aR h]at a;refine⟨by rw[c.length];exact h,λp e=>?_⟩;exact a (.ref p) _ _ (b.trans (.new b.fh e)) (.tup gJ (c.mono (Gr.new b.fh e).ff))
 .rw[aS h]at a;exact a.elim
def Ni{e:TA}{fr:Pe->M (List T)}(hr:MA K E e fr):MF K E (Ml e) (lstM fr):=λF H n m Q s V q=>by
 refine hr.run s V q λi k j l b d a=>?_;unfold yx at a;by_cases h:i.length<=sizeLine
 .rw[aR h]at a;refine⟨by rw[d.length];exact h,λp c=>?_⟩;exact a p k j _ (b.trans (.new' b.fh c)) (iL b.hh c) (iL b.fh c) gJ d
 .rw[aS h]at a;exact a.elim
end
end L3
namespace L3
open PySem L2
inductive W where
 |p (t:T)|o (ts:List T)|d (kvs:List (LI×T))
abbrev En:=List (Option W)
@[simp] def Qk:Option W->Option T
 |some (.p t)=>some t
 |_=>none
@[simp] def Rg:Option W->Option T
 |some (.p t)=>some t
 |some (.o ts)=>some (.lst ts)
 |_=>none
@[simp] noncomputable def mU(ρ:En):Pe:=ρ.map Qk
@[simp] noncomputable def vw(ρ:En):Pe:=ρ.map Rg
mutual
@[simp] noncomputable def lf:T->Bool
 |.lst _=>false
 |.scr _=>false
 |.dic _=>false
 |.tup ts=>Kf ts
 |.obj _ fs=>Pz fs
 |_=>true
@[simp] noncomputable def Kf:List T->Bool
 |[]=>true
 |t::ts=>lf t&&Kf ts
noncomputable def Pz:List (Str×T)->Bool
 |[]=>true
 |t::ts=>lf t.2&&Pz ts
end
structure Fz where
 hp:Hp
 lt:List (Nat×Addr×List V)
instance:Coe Fz Hp:=⟨Fz.hp⟩
structure Lv(H0 F H:Hp)(σ:St)(ρ:En)(e:Nat×Addr×List V):Prop where
 h:H e.2.1=some (.lst e.2.2)
 f:F e.2.1=none
 z:H0 e.2.1=none
 d:∀(i:Nat) (ts:List T),ρ[i]? = some (some (.o ts))->σ[i]?≠some (some (.ref e.2.1))
def DR(K:W.Frag)(F:Hp)(a:List (List mW×V))(kvs:List (LI×T)):Prop:=Paired (λ(p:List mW×V) (q:LI×T)=>p.1=q.1.map Sum.inl/\kj K F p.2 q.2) a kvs
def DR.mono(s:gS F F')(h:DR K F xs kvs):DR K F' xs kvs:=Paired.imp' (λ_ _ q=>⟨q.1,q.2.mono s⟩) h
structure Dv(K:W.Frag)(H0 F H:Hp)(σ:St)(ρ:En):Prop where
 at_:∀(i:Nat) kvs,ρ[i]? = some (some (.d kvs))->∃a,σ[i]? = some (some (.ref a))/\F a=none/\H0 a=none/\∃xs,H a=some (.dT xs)/\DR K F xs kvs
 dj:∀(i j:Nat) kvs kvs',ρ[i]? = some (some (.d kvs))->ρ[j]? = some (some (.d kvs'))->i≠j->σ[i]?≠σ[j]?
def Cp{a:Type}{l:List a}{x y:a}(h:(l.set i x)[i]? = some y):y=x:=by
 rw[List.getElem?_set]at h;simp only[if_true]at h;split at h
 .exact (Option.some.inj h).symm
 .cases h
def C3{a:Type}{l:List a}{x y:a}(h:(l.set i x)[j]? = some y):(j=i/\y=x)\/(j≠i/\l[j]? = some y):=by
 by_cases e:j=i
 .subst e;exact .inl ⟨rfl,Cp h⟩
 .rw[ar (λz=>e z.symm)]at h;exact .inr ⟨e,h⟩
def Dv.heap(d:Dv K H0 F H σ ρ)(s:gS F F')(h:∀a b,H a=some (.dT b)->F a=none->F' a=none/\H' a=some (.dT b)):Dv K H0 F' H' σ ρ:=⟨λi c e=>let ⟨a,e1,e2,e3,b,e4,e5⟩:=d.at_ i c e;let ⟨h1,h2⟩:=h a b e4 e2;⟨a,e1,h1,e3,b,h2,e5.mono s⟩,d.dj⟩
def Dv.set(d:Dv K H0 F H σ ρ)(hw:∀kvs,w≠some (.d kvs)):Dv K H0 F H (σ.set i v) (ρ.set i w):=by
 refine⟨λj kvs e=>?_,λj k kvs b e h c=>?_⟩
 .rcases C3 e with⟨rfl,q⟩|⟨f,q⟩
  .exact absurd q.symm (hw kvs)
  .obtain⟨a,l,r⟩:=d.at_ j kvs q;exact⟨a,by rw[ar (λz=>f z.symm)];exact l,r⟩
 .rcases C3 e with⟨rfl,q⟩|⟨f,q⟩
  .exact absurd q.symm (hw kvs)
  .rcases C3 h with⟨rfl,g⟩|⟨m,g⟩
   .exact absurd g.symm (hw b)
   .rw[ar (λz=>f z.symm),ar (λz=>m z.symm)];exact d.dj j k kvs b q g c
def Dv.setR(d:Dv K H0 F H σ ρ)(hw:∀kvs,w≠some (.d kvs)):Dv K H0 F H σ (ρ.set i w):=by
 refine⟨λj kvs e=>?_,λj k kvs a e f b=>?_⟩
 .rcases C3 e with⟨rfl,q⟩|⟨g,q⟩
  .exact absurd q.symm (hw kvs)
  .exact d.at_ j kvs q
 .rcases C3 e with⟨rfl,q⟩|⟨g,q⟩
  .exact absurd q.symm (hw kvs)
  .rcases C3 f with⟨rfl,c⟩|⟨h,c⟩
   .exact absurd c.symm (hw a)
   .exact d.dj j k kvs a q c b
structure Sr(K:W.Frag)(F0:Fz)(H0 F H:Hp)(σ:St)(ρ:En):Prop where
 gr:Gr F0.hp H0 F H
 len:σ.length=ρ.length
 pv:∀(i:Nat) (t:T),ρ[i]? = some (some (.p t))->∃v,σ[i]? = some (some v)/\kj K F v t
 ov:∃ad:Nat->Addr,(∀(i:Nat) (ts:List T),ρ[i]? = some (some (.o ts))->σ[i]? = some (some (.ref (ad i)))/\F (ad i)=none/\H0 (ad i)=none/\∃vs,H (ad i)=some (.lst vs)/\gN K F vs ts)/\
  ∀(i j:Nat) (ts us:List T),ρ[i]? = some (some (.o ts))->ρ[j]? = some (some (.o us))->i≠j->ad i≠ad j
 lv:∀e∈F0.lt,Lv H0 F H σ ρ e
 sl:∀(j:Nat) (l:Addr) (vs:List V),F0.lt.lookup j=some (l,vs)->ρ[j]? = some none->σ[j]? = some (some (.ref l))
 dv:Dv K H0 F H σ ρ
section
variable {K:W.Frag}{F0:Fz}{H0 F H F' H':Hp}{σ:St}{ρ:En}
def Sr.vars(r:Sr K F0 H0 F H σ ρ):lh K F σ (mU ρ):=λi t e=>by
 unfold mU at e;rw[aw]at e;cases q:ρ[i]? with
 |none=>rw[q]at e;cases e
 |some w=>
  rw[q]at e;cases w with
  |none=>cases e
  |some w=>
   cases w with
   |p t'=>cases e;exact r.pv i _ q
   |o ts=>cases e
   |d kvs=>cases e
def Sr.grow(r:Sr K F0 H0 F H σ ρ)(g:Gr F H F' H'):Sr K F0 H0 F' H' σ ρ:=by
 obtain⟨k,s,p⟩:=r.ov;refine⟨r.gr.trans g,r.len,λi t e=>?_,⟨k,λi m e=>?_,p⟩,λe n=>?_,r.sl,r.dv.heap g.ff λa x j l=>⟨?_,g.hh _ _ j⟩⟩
 .obtain⟨v,a,b⟩:=r.pv i t e;exact⟨v,a,b.mono g.ff⟩
 .obtain⟨a,b,c,o,d,q⟩:=s i m e;refine⟨a,?_,c,o,g.hh _ _ d,q.mono g.ff⟩;cases z:F' (k i) with
  |none=>rfl
  |some u=>
   rcases g.nw (k i) (by rw[z];exact λw=>nomatch w) with y|y|⟨_,y⟩
   .exact absurd b y
   .rw[d]at y;cases y
   .rw[d]at y;cases y
 .have L:=r.lv e n;refine⟨g.hh _ _ L.h,?_,L.z,L.d⟩;cases z:F' e.2.1 with
  |none=>rfl
  |some u=>
   rcases g.nw e.2.1 (by rw[z];exact λw=>nomatch w) with y|y|⟨_,y⟩
   .exact absurd L.f y
   .rw[L.h]at y;cases y
   .rw[L.h]at y;cases y
 .cases z:F' a with
  |none=>rfl
  |some u=>
   rcases g.nw a (by rw[z];exact λw=>nomatch w) with y|y|⟨_,y⟩
   .exact absurd l y
   .rw[j]at y;cases y
   .rw[j]at y;cases y
theorem Sr.lend(r:Sr K F0 H0 F H σ ρ):∃k,gS F k/\Gr F0.hp H0 k H/\lh K k σ (vw ρ)/\
  (∀F' H',Gr k H F' H'->∃j,Gr F H j H'/\gS F j/\gS j F'/\(∀a,F' a≠none->j a=none->∃J,F' a=some (.lst J))/\(∀a,F' a≠none->j a=none->H a≠none)):=by
 classical
 obtain⟨L,m,N⟩:=r.ov;let f:Addr->Prop:=λa=>∃i h,ρ[i]? = some (some (.o h))/\L i=a;let k:Hp:=λa=>if f a then H a else F a
 have x:gS F k:=λa o e=>by
  have:¬f a:=by rintro⟨i,h,q,rfl⟩;obtain⟨_,b,_⟩:=m i h q;rw[b]at e;cases e
  show Ko o (if f a then H a else F a);rw[aS this];exact .of e
 have I:gS k H:=λa o e=>by
  by_cases q:f a
  .have n:(if f a then H a else F a)=some o:=e;rw[aR q]at n;exact .of n
  .have n:(if f a then H a else F a)=some o:=e;rw[aS q]at n;exact r.gr.fh a o n
 have B:∀a,f a->k a=H a:=λa q=>aR q;have C:∀a,¬f a->k a=F a:=λa q=>aS q;refine⟨k,x,⟨r.gr.ff.trans x,I,r.gr.hh,λa l=>?_⟩,λi t e=>?_,λF' H' g=>?_⟩
 .by_cases q:f a
  .obtain⟨i,h,e,rfl⟩:=q;exact .inr (.inl (m i h e).2.2.1)
  .rw[C a q]at l;exact r.gr.nw a l
 .unfold vw at e;rw[aw]at e;cases q:ρ[i]? with
  |none=>rw[q]at e;cases e
  |some w=>
   rw[q]at e;cases w with
   |none=>cases e
   |some w=>
    cases w with
    |p t'=>cases e;obtain⟨v,a,b⟩:=r.pv i _ q;exact⟨v,a,b.mono x⟩
    |o h=>cases e;obtain⟨a,b,c,y,d,z⟩:=m i h q;exact⟨_,a,.lst (by rw[B _ ⟨i,h,q,rfl⟩];exact d) (z.mono x)⟩
    |d kvs=>cases e
 .let j:Hp:=λa=>if f a then none else F' a
  have u:∀a,¬f a->j a=F' a:=λa q=>aS q;have E:∀a,f a->j a=none:=λa q=>aR q;have A:gS F j:=λa o e=>by
   have:¬f a:=by rintro⟨i,h,q,rfl⟩;obtain⟨_,b,_⟩:=m i h q;rw[b]at e;cases e
   rw[u a this];exact (x.trans g.ff) _ _ e
  have D:gS j F':=λa o e=>by
   by_cases q:f a
   .rw[E a q]at e;cases e
   .rw[u a q]at e;exact .of e
  refine⟨j,⟨A,D.trans g.fh,g.hh,λa l=>?_⟩,A,D,λa l s=>?_,λa l s=>?_⟩
  .by_cases q:f a
   .exact absurd (E a q) l
   .rw[u a q]at l;rcases g.nw a l with z|z
    .rw[C a q]at z;exact .inl z
    .exact .inr z
  .by_cases q:f a
   .obtain⟨i,h,e,rfl⟩:=id q;obtain⟨_,_,_,y,d,_⟩:=m i h e;exact⟨y,g.ff _ (.lst y) (by rw[B _ q];exact d)⟩
   .rw[u a q]at s;exact absurd s l
  .by_cases q:f a
   .obtain⟨i,h,e,rfl⟩:=id q;obtain⟨_,_,_,y,d,_⟩:=m i h e;rw[d];exact λz=>nomatch z
   .rw[u a q]at s;exact absurd s l
mutual
theorem kj.less(c:gS Fb F)(h:∀a,F a≠none->Fb a=none->∃d,F a=some (.lst d)):∀{v} {t},kj K F v t->lf t=true->kj K Fb v t
 |_,_,.non,_=>.non
 |_,_,.bl b,_=>.bl b
 |_,_,.int i,_=>.int i
 |_,_,.str x,_=>.str x
 |_,_,.tup (a:=a) e r,l=>by
  refine .tup ?_ (gN.less c h r (by simpa[lf] using l));cases q:Fb a with
  |none=>obtain⟨d,z⟩:=h a (by rw[e];exact λz=>nomatch z) q;rw[e]at z;cases z
  |some u=>have k:=c a u q;rw[e]at k;rw[BM k λ_ _ y=>nomatch y]
 |_,_,.lst _ _,l=>by simp[lf]at l
 |_,_,.scr _,l=>by simp[lf]at l
 |_,_,.obj (a:=a) (dx:=dx) e r,l=>by
  refine .obj (dx:=dx) ?_ (p6.less c h r (by simpa[lf] using l));cases q:Fb a with
  |none=>obtain⟨d,z⟩:=h a (by rw[e];exact λz=>nomatch z) q;rw[e]at z;cases z
  |some u=>have k:=c a u q;rw[e]at k;rw[BM k λ_ _ y=>nomatch y]
 |_,_,.dic _ _,l=>by simp[lf]at l
 |_,_,.emp (a:=a) e,l=>by
  refine .emp ?_;cases q:Fb a with
  |none=>obtain⟨d,z⟩:=h a (by rw[e];exact λz=>nomatch z) q;rw[e]at z;cases z
  |some u=>have k:=c a u q;rw[e]at k;rw[BM k λ_ _ y=>nomatch y]
theorem gN.less(b:gS Fb F)(h:∀a,F a≠none->Fb a=none->∃c,F a=some (.lst c)):∀{vs} {ts},gN K F vs ts->Kf ts=true->gN K Fb vs ts
 |_,_,.nil,_=>.nil
 |_,_,.cons q r,l=>by rw[Kf,bS]at l;exact .cons (kj.less b h q l.1) (gN.less b h r l.2)
theorem p6.less(b:gS Fb F)(h:∀a,F a≠none->Fb a=none->∃c,F a=some (.lst c)):∀{vs} {ts},p6 K F vs ts->Pz ts=true->p6 K Fb vs ts
 |_,_,.nil,_=>.nil
 |_,_,.cons q r,l=>by rw[Pz,bS]at l;exact .cons (kj.less b h q l.1) (p6.less b h r l.2)
end
end
end L3
namespace L3
open PySem L2
def kT(K:W.Frag)(F H:Hp)(Q:VK)(ts us:List T):Prop:=∀p l c d a b,Gr F H a b->H l=none->a l=none->H p=none->a p=none->p≠l->b l=some (.lst d)->b p=some (.tup (c++[.ref l]))->gN K a c ts->gN K a d us->Q (.ref p) b
def kT.of(h:kV K F H Q (.tup (ts++[.lst us]))):kT K F H Q ts us:=λp l v k j q g a b c d e f i r s=>by
 have u:=g.take f b a;have n:jn j l (.lst k) p=none:=by rw[gL e];exact d
 have o:gS j (jn j l (.lst k)):=my b;have m:gS (jn j l (.lst k)) (jn (jn j l (.lst k)) p (.tup (v++[.ref l]))):=my n;exact h (.ref p) _ q (u.take i n c) (.tup gJ ((r.mono (o.trans m)).append (.cons (.lst (m _ _ gJ) (s.mono (o.trans m))) .nil)))
inductive O where
 |bad|nx (ρ:En)|rt (t:T)|rf (ts:List T)|rn (ts us:List T)|bk (ρ:En)|ct (ρ:En)|er (C:Addr) (n:Option Int)
section
variable (K:W.Frag)(E:XK)
def kN(d:Fz)(e F:Hp)(D:St->Hp->Prop)(ρ:En):Prop:=∀b c a,gS F b->Sr K d e b c a ρ->D a c
noncomputable def O.res(o:O)(a:Fz)(b F:Hp)(D:rq):Prop:=match o with
 |.bad=>False
 |.nx ρ=>kN K a b F D.nx ρ
 |.rt t=>kV K a.hp b D.rt t
 |.rf ts=>kF K a.hp b D.rt ts
 |.rn ts us=>kT K a.hp b D.rt ts us
 |.bk ρ=>kN K a b F D.bk ρ
 |.ct ρ=>kN K a b F D.ct ρ
 |.er C n=>kE E a.hp b C n
noncomputable def MS(t:TS)(g:En->O):Prop:=∀c d F H a b D,Sr K c d F H a b->(g b).res K E c d F D->t D a H
end
section
variable {K:W.Frag}{E:XK}{t u ta tb:TE}{f fa fb:Pe->M T}{F0:Fz}{H0 F H F1 H1:Hp}{σ:St}{ρ:En}{D:rq}
def kN.go(h:kN K F0 H0 F N ρ)(s:gS F F1):kN K F0 H0 F1 N ρ:=λb c a d r=>h b c a (s.trans d) r
def O.res.go{o:O}(h:o.res K E F0 H0 F D)(s:gS F F1):o.res K E F0 H0 F1 D:=by
 cases o with
 |bad=>exact h
 |nx ρ=>exact kN.go h s
 |rt t=>exact h
 |rf ts=>exact h
 |rn ts us=>exact h
 |bk ρ=>exact kN.go h s
 |ct ρ=>exact kN.go h s
 |er C n=>exact h
noncomputable def O.of{b:Type}(m:M b)(k:b->O):O:=match m with
 |.bad=>.bad
 |.ok a=>k a
 |.er C n=>.er C n
@[simp] theorem O.of_ok(a:α) k:O.of (.ok a) k=k a:=rfl
@[simp] theorem O.of_bad k:O.of (.bad:M α) k=.bad:=rfl
@[simp] theorem O.of_er C n k:O.of (.er C n:M α) k=.er C n:=rfl
def O.res_of{m:M α}{k:α->O}(h:(O.of m k).res K E F0 H0 F D):m.res (λa=>(k a).res K E F0 H0 F D) (kE E F0.hp H0):=by cases m<;>exact h
@[simp] noncomputable def gR(a b:En->O):En->O:=λρ=>match a ρ with
 |.nx ρ'=>b ρ'
 |o=>o
def Mw{t u:TS}(j:MS K E t a)(i:MS K E u b):MS K E (L5 t u) (gR a b):=λF0 H0 F H σ ρ D r q=>by
 refine j F0 H0 F H σ ρ _ r ?_;unfold gR at q;cases e:a ρ with
 |nx ρ'=>rw[e]at q;intro d g c s h;exact i F0 H0 d g c ρ' D h (q.go s)
 |bad=>rw[e]at q;exact q
 |rt t=>rw[e]at q;exact q
 |rf ts=>rw[e]at q;exact q
 |rn ts us=>rw[e]at q;exact q
 |bk ρ=>rw[e]at q;exact q
 |ct ρ=>rw[e]at q;exact q
 |er C n=>rw[e]at q;exact q
@[simp] noncomputable def ji:En->O:=λρ=>.nx ρ
def Jv:MS K E Fx ji:=λF0 H0 F H σ ρ D r q=>q F H σ (.refl _) r
def EA:MS K E zR (λ_=>.bad):=λ_ _ _ _ _ _ _ _ q=>q
def MT.inS(l:MT K E c fc)(r:Sr K F0 H0 F H σ ρ)(q:(O.of (fc (vw ρ)) k).res K E F0 H0 F D)
  (p:∀b a e,gS F a->Sr K F0 H0 a e σ ρ->(k b).res K E F0 H0 a D->Q b e):c σ H Q:=by
 obtain⟨j,s,h,V,d⟩:=r.lend;refine l j H σ (vw ρ) Q h.fh V ((O.res_of q).mono (λb z a e g=>?_) λC n z=>z.go h);obtain⟨m,o,i,_⟩:=d a e g;exact p b m e i (r.grow o) (z.go i)
@[simp] noncomputable def oT(d:Pe->M Bool)(a b:En->O):En->O:=λρ=>.of (d (vw ρ)) λc=>if c then a ρ else b ρ
def Oc{t u:TS}(g:MT K E c fc)(i:MS K E t a)(h:MS K E u b):MS K E (KI c t u) (oT fc a b):=λF0 H0 F H σ ρ D r q=>by
 refine g.inS r q λc j k s e d=>?_;cases c with
 |true=>rw[aR rfl];exact i _ _ _ _ _ _ _ e d
 |false=>rw[aS aI];exact h _ _ _ _ _ _ _ e d
@[simp] noncomputable def iZ(f:Pe->M T):En->O:=λρ=>.of (f (vw ρ)) λt=>.rt t
def KW(h:ME K E t f):MS K E (AJ t) (iZ f):=λF0 H0 F H σ ρ D r q=>by obtain⟨d,e,a,V,c⟩:=r.lend;exact h d H σ (vw ρ) _ a.fh V ((O.res_of q).mono (λb z=>kV.go z a) λC n z=>z.go a)
@[simp] noncomputable def nV(f:Pe->M (List T)):En->O:=λρ=>.of (f (vw ρ)) λt=>.rf t
def HE{f:Pe->M (List T)}(h:MF K E t f):MS K E (AJ t) (nV f):=λF0 H0 F H σ ρ D r q=>by obtain⟨d,e,a,V,c⟩:=r.lend;exact h d H σ (vw ρ) _ a.fh V ((O.res_of q).mono (λb z=>kF.go z a) λC n z=>z.go a)
@[simp] noncomputable def oq(i:Nat):En->O:=λρ=>match ρ[i]? with
 |some (some (.o ts))=>.rf ts
 |_=>.bad
def Dn:MS K E (AJ (qX i)) (oq i):=λF0 H0 F H σ ρ D r q=>by
 unfold oq at q;split at q
 .rename_i g e;obtain⟨h,k,l⟩:=r.ov;obtain⟨a,b,c,j,d,z⟩:=k i g e;exact⟨_,a,q (h i) j F H r.gr c b d z⟩
 .exact q.elim
def qm{a:Type}{l:List a}{x y:a}(h:(l.set i x)[i]? = some y):y=x:=by
 rw[List.getElem?_set]at h;simp only[if_true]at h;split at h
 .exact (Option.some.inj h).symm
 .cases h
def iF{a:Type}{l:List a}{x y:a}(h:(l.set i x)[j]? = some y):(j=i/\y=x)\/(j≠i/\l[j]? = some y):=by
 by_cases e:j=i
 .subst e;exact .inl ⟨rfl,qm h⟩
 .rw[ar (λz=>e z.symm)]at h;exact .inr ⟨e,h⟩
def xM{a:Type}{l:List a}{x:a}(h:i<l.length):(l.set i x)[i]? = some x:=by rw[List.getElem?_set_self h]
def Sr.setP(r:Sr K F0 H0 F H σ ρ)(h:kj K F v x):Sr K F0 H0 F H (σ.set i (some v)) (ρ.set i (some (.p x))):=by
 obtain⟨B,N,J⟩:=r.ov;refine⟨r.gr,by simp[r.len],λj t e=>?_,⟨B,λj m e=>?_,λj k m I e s=>?_⟩,λe A=>?_,λj l C o q=>?_,r.dv.set λ_ z=>nomatch z⟩
 .have y:j<ρ.length:=by simpa using (ae.mp e).1
  rcases iF e with⟨rfl,q⟩|⟨c,q⟩
  .cases q;exact⟨v,xM (by rw[r.len];exact y),h⟩
  .obtain⟨w,a,b⟩:=r.pv j t q;exact⟨w,by rw[ar (λz=>c z.symm)];exact a,b⟩
 .rcases iF e with⟨rfl,q⟩|⟨c,q⟩
  .cases q
  .obtain⟨a,b⟩:=N j m q;exact⟨by rw[ar (λz=>c z.symm)];exact a,b⟩
 .rcases iF e with⟨rfl,q⟩|⟨c,q⟩
  .cases q
  .rcases iF s with⟨rfl,n⟩|⟨P,n⟩
   .cases n
   .exact J j k m I q n
 .have L:=r.lv e A;refine⟨L.h,L.f,L.z,λj m q=>?_⟩;rcases iF q with⟨rfl,g⟩|⟨c,g⟩
  .cases g
  .rw[ar (λz=>c z.symm)];exact L.d j m g
 .rcases iF q with⟨rfl,g⟩|⟨c,g⟩
  .cases g
  .rw[ar (λz=>c z.symm)];exact r.sl j l C o g
def Sr.setO(r:Sr K F0 H0 F H σ ρ)(g:Gr F H F1 H1)(x:H l=none)(Z:F1 l=none)(hv:H1 l=some (.lst vs))(hr:gN K F1 vs ts) :
  Sr K F0 H0 F1 H1 (σ.set i (some (.ref l))) (ρ.set i (some (.o ts))):=by
 have v:=r.grow g;obtain⟨N,A,_⟩:=r.ov;obtain⟨C,Y,h2⟩:=v.ov;have R:∀j m,ρ[j]? = some (some (.o m))->C j≠l:=λj m e z=>by
  obtain⟨a,_⟩:=Y j m e;obtain⟨U,_,_,vs0,S,_⟩:=A j m e;rw[a]at U;have:C j=N j:=by simpa using U
  rw[<-this,z,x]at S;cases S
 refine⟨v.gr,by simp[r.len],λj t e=>?_,⟨λj=>if j=i then l else C j,λj m e=>?_,λj k m X e P p=>?_⟩,λe Q=>?_,λj l' y J q=>?_,v.dv.set λ_ z=>nomatch z⟩
 .rcases iF e with⟨rfl,q⟩|⟨c,q⟩
  .cases q
  .obtain⟨w,a,b⟩:=v.pv j t q;exact⟨w,by rw[ar (λz=>c z.symm)];exact a,b⟩
 .have B:j<ρ.length:=by simpa using (ae.mp e).1
  rcases iF e with⟨rfl,q⟩|⟨c,q⟩
  .cases q;dsimp only;rw[aR rfl];exact⟨xM (by rw[r.len];exact B),Z,iL r.gr.hh x,vs,hv,hr⟩
  .dsimp only;rw[aS c];obtain⟨a,b⟩:=Y j m q;exact⟨by rw[ar (λz=>c z.symm)];exact a,b⟩
 .rcases iF e with⟨rfl,q⟩|⟨c,q⟩
  .rcases iF P with⟨rfl,s⟩|⟨I,s⟩
   .exact absurd rfl p
   .dsimp only;rw[aR rfl,aS I];exact λz=>R k X s z.symm
  .rcases iF P with⟨rfl,s⟩|⟨I,s⟩
   .dsimp only;rw[aS c,aR rfl];exact R j m q
   .dsimp only;rw[aS c,aS I];exact h2 j k m X q s p
 .have L:=v.lv e Q;have L0:=r.lv e Q;refine⟨L.h,L.f,L.z,λj ts q=>?_⟩;rcases iF q with⟨rfl,n⟩|⟨c,n⟩
  .intro z;have z':=qm z;have:e.2.1=l:=by simpa using z'
   rw[<-this,L0.h]at x;cases x
  .rw[ar (λz=>c z.symm)];exact L.d j ts n
 .rcases iF q with⟨rfl,n⟩|⟨c,n⟩
  .cases n
  .rw[ar (λz=>c z.symm)];exact r.sl j l' y J n
@[simp] noncomputable def jx(f:Pe->M T)(ρ:En):M T:=f (mU ρ)
@[simp] noncomputable def vX(f:Pe->M T)(ρ:En):M T:=(f (vw ρ)).bind λt=>if lf t then .ok t else .bad
def ME.inH(h:ME K E t f)(r:Sr K F0 H0 F H σ ρ)(q:(O.of (jx f ρ) k).res K E F0 H0 F D)
  (c:∀x v a b,Gr F H a b->kj K a v x->Sr K F0 H0 a b σ ρ->(k x).res K E F0 H0 a D->Q v b):t σ H Q:=
 h F H σ (mU ρ) Q r.gr.fh r.vars ((O.res_of q).mono (λx z v a b g d=>c x v a b g d (r.grow g) (z.go g.ff)) λC n z=>z.go r.gr)
def ME.inB(h:ME K E t f)(r:Sr K F0 H0 F H σ ρ)(q:(O.of (vX f ρ) k).res K E F0 H0 F D)
  (w:∀x v a b,Gr F H a b->kj K a v x->Sr K F0 H0 a b σ ρ->(k x).res K E F0 H0 a D->Q v b):t σ H Q:=by
 obtain⟨m,y,j,V,d⟩:=r.lend;refine h m H σ (vw ρ) Q j.fh V ((M.res.unb (O.res_of q)).mono (λx z v a b g o=>?_) λC n z=>z.go j);obtain⟨p,l,s,i,c,_⟩:=d a b g;by_cases e:lf x=true
 .rw[aR e]at z;exact w x v p b l (o.less i c e) (r.grow l) (O.res.go z s)
 .rw[aS e]at z;exact z.elim
@[simp] noncomputable def setO(i:Nat)(f:En->M T):En->O:=λρ=>.of (f ρ) λt=>.nx (ρ.set i (some (.p t)))
def Bh(h:ME K E t f):MS K E (oM t (j2 i)) (setO i (jx f)):=λF0 H0 F H σ ρ D r q=>h.inH r q λx v a c g b d e=>e a c _ (.refl _) (d.setP b)
def ID(h:ME K E t f):MS K E (oM t (j2 i)) (setO i (vX f)):=λF0 H0 F H σ ρ D r q=>h.inB r q λx v a c g b d e=>e a c _ (.refl _) (d.setP b)
@[simp] noncomputable def vf(f:Pe->M (List T))(ρ:En):M (List T):=f (mU ρ)
def MF.inH{f:Pe->M (List T)}(h:MF K E t f)(r:Sr K F0 H0 F H σ ρ)(q:(O.of (vf f ρ) k).res K E F0 H0 F D)
  (j:∀ts l vs e i,Gr F H e i->H l=none->e l=none->i l=some (.lst vs)->gN K e vs ts->(k ts).res K E F0 H0 e D->Q (.ref l) i):t σ H Q:=
 h F H σ (mU ρ) Q r.gr.fh r.vars ((O.res_of q).mono (λts z l vs e i g a b c d=>j ts l vs e i g a b c d (z.go g.ff)) λC n z=>z.go r.gr)
@[simp] noncomputable def wY(i:Nat)(f:En->M (List T)):En->O:=λρ=>.of (f ρ) λa=>.nx (ρ.set i (some (.o a)))
def Ip{f:Pe->M (List T)}(h:MF K E t f):MS K E (oM t (j2 i)) (wY i (vf f)):=λF0 H0 F H σ ρ D r q=>h.inH r q λm l n e j g a b c d k=>k e j _ (.refl _) (r.setO g a b c d)
@[simp] noncomputable def wg(f:En->M T):En->O:=λρ=>.of (f ρ) λ_=>.nx ρ
def Ey(h:ME K E t f):MS K E (uk t) (wg (jx f)):=λF0 H0 F H σ ρ D r q=>h.inH r q λx v a b g e c d=>d a b _ (.refl _) c
def Sr.change(r:Sr K F0 H0 F H σ ρ)(e:ρ[i]? = some (some (.o ts)))(hw:gN K F ws us) :
  ∃l vs,σ[i]? = some (some (.ref l))/\H l=some (.lst vs)/\gN K F vs ts/\Sr K F0 H0 F (jn H l (.lst ws)) σ (ρ.set i (some (.o us))):=by
 obtain⟨B,P,A⟩:=r.ov;obtain⟨a,b,c,vs,d,z⟩:=P i ts e;refine⟨B i,vs,a,d,z,⟨r.gr.ff,λp u q=>?_,λp u q=>?_,r.gr.nw⟩,by simp[r.len],λj t q=>?_,⟨B,λj s q=>?_,λj k s y q N m=>?_⟩,λJ R=>?_,λj U n C q=>?_,(r.dv.heap (.refl _) λp xs I _=>⟨by assumption,by rw[gL (λz=>by rw[z,d]at I;cases I)];exact I⟩).setR λ_ z=>nomatch z⟩
 .rw[gL (gW q b)];exact r.gr.fh p u q
 .rw[gL (gW q c)];exact r.gr.hh p u q
 .rcases iF q with⟨rfl,g⟩|⟨x,g⟩
  .cases g
  .exact r.pv j t g
 .rcases iF q with⟨rfl,g⟩|⟨x,g⟩
  .cases g;exact⟨a,b,c,ws,gJ,hw⟩
  .obtain⟨Y,Q,c',n,Z,S⟩:=P j s g;exact⟨Y,Q,c',n,by rw[gL (A j i s ts g e x)];exact Z,S⟩
 .rcases iF q with⟨rfl,g⟩|⟨x,g⟩
  .rcases iF N with⟨rfl,v⟩|⟨X,v⟩
   .exact absurd rfl m
   .exact A j k ts y e v m
  .rcases iF N with⟨rfl,v⟩|⟨X,v⟩
   .exact A j k s ts g e m
   .exact A j k s y g v m
 .have L:=r.lv J R;have hne:J.2.1≠B i:=λw=>L.d i ts e (by rw[w];exact a);refine⟨by rw[gL hne];exact L.h,L.f,L.z,λj s q=>?_⟩;rcases iF q with⟨rfl,g⟩|⟨x,g⟩
  .exact L.d _ ts e
  .exact L.d j s g
 .rcases iF q with⟨rfl,g⟩|⟨x,g⟩
  .cases g
  .exact r.sl j U n C g
@[simp] noncomputable def mR(ρ:En)(i:Nat):M (List T):=match ρ[i]? with
 |some (some (.o ts))=>.ok ts
 |_=>.bad
def uh(h:mR ρ i=.ok ts):ρ[i]? = some (some (.o ts)):=by
 unfold mR at h;split at h
 .rename_i a e;cases h;exact e
 .cases h
@[simp] noncomputable def nA(i:Nat)(f:En->M T):En->O:=λρ=>.of (mR ρ i) λa=>.of (f ρ) λt=>if a.length<sizeLine then .nx (ρ.set i (some (.o (a++[t])))) else .bad
def zu(r:Sr K F0 H0 F H σ ρ)(e:ρ[i]? = some (some (.o ts)))(k:kj K F v x)
  (q:(if ts.length<sizeLine then O.nx (ρ.set i (some (.o (ts++[x])))) else .bad).res K E F0 H0 F D):∃l,σ[i]? = some (some (.ref l))/\wW (.ref l) [v] H λ_ H1=>D.nx σ H1:=by
 by_cases c:ts.length<sizeLine
 .rw[aR c]at q;obtain⟨m,j,_⟩:=r.ov;obtain⟨_,_,_,p,d,z⟩:=j i ts e;obtain⟨l,b,h,g,s,n⟩:=r.change e (z.append (.cons k .nil));have:b=p:=by
   have a:=(j i ts e).1;rw[h]at a;have:l=m i:=by simpa using a
   rw[this,d]at g;cases g;rfl
  subst this;exact⟨l,h,l,b,v,rfl,rfl,g,by rw[z.length];exact c,q F _ _ (.refl _) n⟩
 .rw[aS c]at q;exact q.elim
def IE(K:W.Frag)(i:Nat)(a:TE):TE:=Qw K "list" wW (qX i) (rS a DI)
def HI(p:∀l m H,H l=some (.lst m)->Pa K "list" (.ref l) H)(h:ME K E t f):MS K E (uk (IE K i t)) (nA i (jx f)):=λF0 H0 F H σ ρ D r q=>by
 unfold nA at q;cases e:mR ρ i with
 |bad=>rw[e]at q;exact q.elim
 |er C n=>unfold mR at e;split at e<;>cases e
 |ok ts=>rw[e]at q;have c:=uh e;obtain⟨A,w,_⟩:=r.ov;obtain⟨a,_,_,B,d,_⟩:=w i ts c;refine⟨_,a,p _ _ _ d,?_⟩;refine h.inH r q λx v y z g k s o=>?_;obtain⟨l,j,b⟩:=zu s c k o;rw[a]at j;cases j;exact b
def IU(p:∀l m H,H l=some (.lst m)->Pa K "list" (.ref l) H)(h:ME K E t f):MS K E (uk (IE K i t)) (nA i (vX f)):=λF0 H0 F H σ ρ D r q=>by
 unfold nA at q;cases e:mR ρ i with
 |bad=>rw[e]at q;exact q.elim
 |er C n=>unfold mR at e;split at e<;>cases e
 |ok ts=>rw[e]at q;have c:=uh e;obtain⟨A,w,_⟩:=r.ov;obtain⟨a,_,_,B,d,_⟩:=w i ts c;refine⟨_,a,p _ _ _ d,?_⟩;refine h.inB r q λx v y z g k s o=>?_;obtain⟨l,j,b⟩:=zu s c k o;rw[a]at j;cases j;exact b
@[simp] noncomputable def Dx(i:Nat)(b:En->M T)(f:En->M T):En->O:=λρ=>.of (mR ρ i) λa=>.of (f ρ) λt=>.of (b ρ) λk=>match k with
 |.int k=>match xO a.length k with
  |some j=>.nx (ρ.set i (some (.o (a.set j t))))
  |none=>.bad
 |_=>.bad
theorem Fo{i:Nat}{ts:List T}{x y:T}{v w:V}{l:Addr}(p:Sr K F0 H0 F H σ ρ)(g:ρ[i]? = some (some (.o ts)))(n:σ[i]? = some (some (.ref l)))(s:kj K F v x)(h:kj K F w y)
  (b:(match y with
   |.int k=>match xO ts.length k with
    |some j=>O.nx (ρ.set i (some (.o (ts.set j x))))
    |none=>.bad
   |_=>.bad).res K E F0 H0 F D):BX (.ref l) w v H λA=>D.nx σ A:=by
 cases h with
 |int k=>
  dsimp only at b;cases e:xO ts.length k with
  |none=>rw[e]at b;exact b.elim
  |some j=>
   rw[e]at b;obtain⟨C,r,_⟩:=p.ov;obtain⟨_,_,_,I,d,z⟩:=r i ts g;obtain⟨L,c,q,m,J,B⟩:=p.change g (z.set s j);rw[n]at q;cases q;have:c=I:=by
    have a:=(r i ts g).1;rw[n]at a;have:l=C i:=by simpa using a
    rw[this,d]at m;cases m;rfl
   subst this;exact⟨l,c,k,j,rfl,rfl,m,by rw[z.length];exact e,b F _ _ (.refl _) B⟩
 |_=>exact b.elim
def Nc(h:ME K E t f)(p:ME K E tk fk):MS K E (oM t (Kz (qX i) tk BX)) (Dx i (vX fk) (vX f)):=λF0 H0 F H σ ρ D r q=>by
 unfold Dx at q;cases e:mR ρ i with
 |bad=>rw[e]at q;exact q.elim
 |er C n=>unfold mR at e;split at e<;>cases e
 |ok ts=>rw[e]at q;have c:=uh e;obtain⟨I,s,_⟩:=r.ov;have a:=(s i ts c).1;refine h.inB r q λx v A B g d m k=>⟨_,a,?_⟩;exact p.inB m k λy w J z l b o j=>Fo o c a (d.mono l.ff) b j
end
end L3
namespace L3
open PySem L2
section
variable {K:W.Frag}{E:XK}{t u ta tb:TE}{f fa fb:Pe->M T}{F0:Fz}{H0 F H F1 H1:Hp}{σ:St}{ρ:En}{D:rq}
structure xC(K:W.Frag)(J:It)(gF:List T)(F1:Hp):Prop where
 go:∀i H,gS F1 H->i<gF.length->J.go i H
 stop:∀H,gS F1 H->J.stop gF.length H
 yld:∀(i:Nat) t F H x H',gS F1 F->gS F H->gF[i]? = some t->J.yld i H x H'->∃F',Gr F H F' H'/\kj K F' x t
def kI(K:W.Frag)(F H:Hp)(R:It->Hp->Prop)(gF:List T):Prop:=∀J a b,Gr F H a b->xC K J gF a->R J b
noncomputable def MI(K:W.Frag)(E:XK)(w:TI)(f:Pe->M (List T)):Prop:=∀F H σ ρ R,gS F H->lh K F σ ρ->(f ρ).res (kI K F H R) (kE E F H)->w σ H R
def Q5(K:W.Frag)(F H:Hp)(R:It->Hp->Prop)(gF:List T):Prop:=∀J b a,Gr F H b a->(∀F1,xC K J gF F1)->R J a
noncomputable def Nv(K:W.Frag)(E:XK)(w:TI)(f:Pe->M (List T)):Prop:=∀F H σ ρ R,gS F H->lh K F σ ρ->(f ρ).res (Q5 K F H R) (kE E F H)->w σ H R
def Nv.mi{f:Pe->M (List T)}(h:Nv K E w f):MI K E w f:=λF H σ ρ R s V q=>h F H σ ρ R s V (q.mono (λgF z J a b g i=>z J a b g (i a)) λ_ _ z=>z)
@[simp] noncomputable def Ph(fa:Pe->M T):Pe->M (List T):=λρ=>(fa ρ).bind λx=>match x with
 |.lst ts=>.ok ts
 |.scr ns=>.ok (ns.map T.int)
 |_=>.bad
@[simp] noncomputable def Qz(fa:Pe->M T):Pe->M (List T):=λρ=>(fa ρ).bind λx=>match x with
 |.tup ts=>.ok ts
 |_=>.bad
def B6(hs:kK K F a xs)(r:gN K F xs ts):xC K (Qd K a) ts F where
 go:=λi H s l=>by have e:xs[i]? = some (xs[i]'(by rw[r.length];exact l)):=ai _;exact⟨xs,_,s.seq hs,e⟩
 stop:=λH s=>⟨xs,s.seq hs,by rw[r.length];exact aL _⟩
 yld:=λi t k H x m c d e y=>by obtain⟨rfl,g⟩:=y;have h:=g xs ((c.trans d).seq hs);obtain⟨n,b,j⟩:=r.at_ h;rw[e]at b;cases b;exact⟨k,.refl d,j.mono c⟩
def rh(s:gS F H)(h:F a=some (.tup xs)):lR K H a xs:=lR.of (s _ _ h)
def Np(hs:F a=some (.tup xs))(r:gN K F xs ts):xC K (P9 K a) ts F where
 go:=λi H s l=>by have e:xs[i]? = some (xs[i]'(by rw[r.length];exact l)):=ai _;exact⟨xs,_,rh s hs,e⟩
 stop:=λH s=>⟨xs,rh s hs,by rw[r.length];exact aL _⟩
 yld:=λi t k H x m c d e y=>by obtain⟨rfl,g⟩:=y;have h:=g xs (rh (c.trans d) hs);obtain⟨n,b,j⟩:=r.at_ h;rw[e]at b;cases b;exact⟨k,.refl d,j.mono c⟩
def wN(c:ME K E ta fa):MI K E (Fw K ta) (Ph fa):=λF H σ ρ R s V q=>by
  refine c.run s V q λx v F1 H1 a d b=>?_;cases d<;>first
    |exact b.elim
    | (rename_i h r
       exact⟨_,rfl,⟨_,kK.of (a.fh _ _ h)⟩,b _ F1 H1 a (B6 (kK.of h) r)⟩)
    | (rename_i h
       exact⟨_,rfl,⟨_,a.fh.seq h⟩,b _ F1 H1 a (B6 h (gN.of_ints _))⟩)
def Mn(c:ME K E ta fa):MI K E (Ln K ta) (Qz fa):=λF H σ ρ R s V q=>by
  refine c.run s V q λx v F1 H1 a d b=>?_;cases d<;>first
    |exact b.elim
    | (rename_i h r
       exact⟨_,rfl,⟨_,lR.of (a.fh _ _ h)⟩,b _ F1 H1 a (Np h r)⟩)
def NR:(2:Int) ^ 62=4611686018427387904:=by decide +kernel
def Pg:(2:Int) ^ 63=9223372036854775808:=by decide +kernel
noncomputable def zb(j:Int):Bool:=decide (j.natAbs<4611686018427387904)
def lq(h:zb j=true):-(2 ^ 62)<=j/\j<2 ^ 62:=by rw[NR];have:=of_decide_eq_true h;omega
def lJ(h:j.natAbs<=1000000):zb j=true:=aD (by omega)
noncomputable def uY(a:Int)(n:Nat):List T:=(List.range n).map λ(i:Nat)=>T.int (a+(i:Int))
def Ek F:xC K (Nx lo n) (uY lo n) F where
 go:=λi H s a=>by show i<n;simpa[uY] using a
 stop:=λH s=>by simp[uY,Nx]
 yld:=λi t b H x g d c e y=>by
  obtain⟨rfl,rfl⟩:=y;have a:i<n:=by simpa[uY] using (ae.mp e).1
  have:t=.int (lo+i):=by unfold uY at e;rw[aw,List.getElem?_range a]at e;cases e;rfl
  rw[this];exact⟨b,.refl c,.int _⟩
@[simp] noncomputable def rO(fa:Pe->M (List T)):Pe->M (List T):=λρ=>(fa ρ).bind λa=>match a with
 |[.int j]=>if zb j then .ok (uY 0 j.toNat) else .bad
 |_=>.bad
@[simp] noncomputable def EC(fa:Pe->M (List T)):Pe->M (List T):=λρ=>(fa ρ).bind λa=>match a with
 |[.int i,.int j]=>if zb i&&zb j then .ok (uY i (j-i).toNat) else .bad
 |_=>.bad
def J3{ta:TA}{fa:Pe->M (List T)}(e:MA K E ta fa):Nv K E (F8 ta) (rO fa):=λF H σ ρ R s V q=>by
 refine e.run s V q λi k F1 H1 h g c=>?_;split at c
 .rename_i j;split at c
  .rename_i d;cases g with
   |cons a b=>cases a;cases b;exact⟨j,rfl,(lq d).1,(lq d).2,c _ F1 H1 h Ek⟩
  .exact c.elim
 .exact c.elim
def Jt{ta:TA}{fa:Pe->M (List T)}(g:MA K E ta fa):Nv K E (FV ta) (EC fa):=λF H σ ρ R s V q=>by
 refine g.run s V q λl m F1 H1 k h e=>?_;split at e
 .rename_i i j;split at e
  .rename_i d;cases h with
   |cons a b=>
    cases b with
    |cons b c=>cases a;cases b;cases c;rw[bS]at d;exact⟨i,j,rfl,⟨(lq d.1).1,(lq d.1).2,(lq d.2).1,(lq d.2).2⟩,e _ F1 H1 k Ek⟩
  .exact e.elim
 .exact e.elim
noncomputable def seqB(b:Bool):T->M (List T)
 |.tup ts=>if b then .ok ts else .bad
 |.lst ts=>if b then .bad else .ok ts
 |.scr ns=>if b then .bad else .ok (ns.map T.int)
 |_=>.bad
def xp(r:kj K F v x)(e:seqB b x=.ok ts):∃a c,v=.ref a/\(∀H,gS F H->uO K H b a c)/\gN K F c ts:=by
 cases r<;>try (cases e)
 .rename_i a c d h r;cases b with
  |true=>cases e;exact⟨a,c,rfl,λH s=>by unfold uO;rw[aR rfl];exact lR.of (s _ _ h),r⟩
  |false=>cases e
 .rename_i a c d h r;cases b with
  |true=>cases e
  |false=>cases e;exact⟨a,c,rfl,λH s=>by unfold uO;rw[aS aI];exact kK.of (s _ _ h),r⟩
 .rename_i a g h;cases b with
  |true=>cases e
  |false=>cases e;exact⟨a,_,rfl,λH s=>by unfold uO;rw[aS aI];exact s.seq h,gN.of_ints g⟩
noncomputable def xI(a b:List T):List T:=(a.zip b).map λp=>T.tup [p.1,p.2]
def LJ(m:∀H,gS F H->uO K H b1 l1 xs)(d:gN K F xs ts)(l:∀H,gS F H->uO K H b2 l2 ys)(k:gN K F ys us):xC K (P5 K b1 b2 l1 l2) (xI ts us) F where
 go:=λi H s w=>by
  have a:i<ts.length/\i<us.length:=by simp[xI]at w;omega
  have h:xs[i]? = some (xs[i]'(by rw[d.length];exact a.1)):=ai _;have j:ys[i]? = some (ys[i]'(by rw[k.length];exact a.2)):=ai _;exact⟨xs,ys,_,_,m H s,l H s,h,j⟩
 stop:=λH s=>⟨xs,ys,m H s,l H s,by simp[xI,d.length,k.length];omega⟩
 yld:=λi t L H x N b c e y=>by
  obtain⟨p,B,C,rfl,I,rfl,h,j⟩:=y;obtain⟨q,r,J⟩:=d.at_ (h xs (m H (b.trans c)));obtain⟨n,A,v⟩:=k.at_ (j ys (l H (b.trans c)));have:t=.tup [q,n]:=by unfold xI at e;rw[aw,(List.getElem?_zip_eq_some (z:=(q,n))).mpr ⟨r,A⟩]at e;cases e;rfl
  rw[this];have g:=Gr.new (o:=.tup [B,C]) c I;exact⟨_,g,.tup gJ (.cons ((J.mono b).mono g.ff) (.cons ((v.mono b).mono g.ff) .nil))⟩
noncomputable def Lk(e d:Bool)(fa:Pe->M (List T)):Pe->M (List T):=λρ=>(fa ρ).bind λb=>match b with
 |[x,y]=>(seqB e x).bind λa=>(seqB d y).bind λc=>.ok (xI a c)
 |_=>.bad
def xo:seqB b x≠.er C n:=by cases x<;>cases b<;>exact λz=>nomatch z
def FS{ta:TA}{fa:Pe->M (List T)}(k:MA K E ta fa):MI K E (LN K b1 b2 ta) (Lk b1 b2 fa):=λF H σ ρ R s V q=>by
 refine k.run s V q λz A F1 H1 h m d=>?_;split at d
 .rename_i x y;cases m with
  |cons a b=>
   cases b with
   |cons b c=>
    cases c;cases e:seqB b1 x with
    |bad=>rw[e]at d;exact d.elim
    |er C n=>exact absurd e xo
    |ok ts=>
     rw[e]at d;cases g:seqB b2 y with
     |bad=>simp only[g,M.bind_ok]at d;exact d.elim
     |er C n=>exact absurd g xo
     |ok us=>simp only[g,M.bind_ok]at d;obtain⟨p,o,rfl,i,v⟩:=xp a e;obtain⟨l,r,rfl,j,w⟩:=xp b g;exact⟨p,l,rfl,⟨o,i _ h.fh⟩,⟨r,j _ h.fh⟩,d _ F1 H1 h (LJ i v j w)⟩
 .exact d.elim
def MG(K:W.Frag)(g:TG)(m:T->Pe->Option Pe):Prop:=∀F H σ (ρ:Pe) x t ρ' Q,gS F H->σ.length=ρ.length->lh K F σ ρ->kj K F x t->m t ρ=some ρ'->(∀a,a.length=ρ'.length->lh K F a ρ'->Q a H)->g x σ H Q
def Ol(K:W.Frag)(g:Hs)(m:List T->Pe->Option Pe):Prop:=∀F H σ (ρ:Pe) xs ts ρ' Q,gS F H->σ.length=ρ.length->lh K F σ ρ->gN K F xs ts->m ts ρ=some ρ'->(∀a,a.length=ρ'.length->lh K F a ρ'->Q a H)->g xs σ H Q
@[simp] def j6(i:Nat):T->Pe->Option Pe:=λt ρ=>some (ρ.set i (some t))
def lh.set{ρ:Pe}(V:lh K F σ ρ)(d:σ.length=ρ.length)(h:kj K F v x):lh K F (σ.set i (some v)) (ρ.set i (some x)):=λj t e=>by
 have c:j<ρ.length:=by simpa using (ae.mp e).1
 rcases iF e with⟨rfl,q⟩|⟨c,q⟩
 .cases q;exact⟨v,xM (by rw[d];exact c),h⟩
 .obtain⟨w,a,b⟩:=V j t q;exact⟨w,by rw[ar (λz=>c z.symm)];exact a,b⟩
def Je:MG K (j2 i) (j6 i):=λF H σ ρ x t b Q s a V r e k=>by cases e;exact k _ (by simp[a]) (V.set a r)
@[simp] noncomputable def nY:List T->Pe->Option Pe
 |[],ρ=>some ρ
 |_::_,_=>none
@[simp] def iU(m:T->Pe->Option Pe)(n:List T->Pe->Option Pe):List T->Pe->Option Pe
 |[],_=>none
 |t::ts,ρ=>(m t ρ).bind (n ts)
def HA:Ol K Dp nY:=λF H σ ρ g h d Q s c V r e k=>by
 cases r with
 |nil=>cases e;exact⟨rfl,k σ c V⟩
 |cons a b=>cases e
def EL(p:MG K g m)(o:Ol K gs n):Ol K (uo g gs) (iU m n):=λF H σ ρ y x c Q s l V r e k=>by
 cases r with
 |nil=>cases e
 |cons a b=>
  rename_i v t j d;have e:(m t ρ).bind (n d)=some c:=e;cases q:m t ρ with
  |none=>rw[q]at e;cases e
  |some ρ1=>rw[q]at e;refine⟨v,j,rfl,p F H σ ρ v t ρ1 _ s l V a q λh i w=>?_⟩;exact o F H h ρ1 j d c Q s i w b e k
@[simp] noncomputable def nH(k:Nat)(m:List T->Pe->Option Pe):T->Pe->Option Pe
 |.tup ts,ρ=>if ts.length=k then m ts ρ else none
 |_,_=>none
def Nl(h:Ol K g m):MG K (Da K k g) (nH k m):=λF H σ ρ x t b Q s i V r e q=>by
 cases r with
 |tup hx rs=>
  rename_i a j c;have e:(if c.length=k then m c ρ else none)=some b:=e;by_cases d:c.length=k
  .rw[aR d]at e;exact⟨_,_,rfl,lR.of (s _ _ hx),by rw[rs.length];exact d,h F H σ ρ _ _ b Q s i V rs e q⟩
  .rw[aS d]at e;cases e
 |_=>cases e
noncomputable def Kj(K:W.Frag)(g:TG)(m:T->En->Option En):Prop:=∀F0 H0 F H σ ρ x t a Q,Sr K F0 H0 F H σ ρ->kj K F x t->m t ρ=some a->(∀b,Sr K F0 H0 F H b a->Q b H)->g x σ H Q
noncomputable def Gk(K:W.Frag)(g:Hs)(m:List T->En->Option En):Prop:=∀F0 H0 F H σ ρ c d a Q,Sr K F0 H0 F H σ ρ->gN K F c d->m d ρ=some a->(∀b,Sr K F0 H0 F H b a->Q b H)->g c σ H Q
@[simp] noncomputable def nj(i:Nat):T->En->Option En:=λt ρ=>some (ρ.set i (some (.p t)))
def Hj:Kj K (j2 i) (nj i):=λF0 H0 F H σ ρ x t a Q s r e k=>by cases e;exact k _ (s.setP r)
@[simp] noncomputable def nO:List T->En->Option En
 |[],ρ=>some ρ
 |_::_,_=>none
@[simp] noncomputable def jm(m:T->En->Option En)(n:List T->En->Option En):List T->En->Option En
 |[],_=>none
 |t::ts,ρ=>(m t ρ).bind (n ts)
def EX:Gk K Dp nO:=λF0 H0 F H σ ρ d g c Q s r e k=>by
 cases r with
 |nil=>cases e;exact⟨rfl,k σ s⟩
 |cons a b=>cases e
def CI(o:Kj K g m)(l:Gk K gs n):Gk K (uo g gs) (jm m n):=λF0 H0 F H σ ρ w p c Q s r e k=>by
 cases r with
 |nil=>cases e
 |cons a b=>
  rename_i v t i d;have e:(m t ρ).bind (n d)=some c:=e;cases q:m t ρ with
  |none=>rw[q]at e;cases e
  |some ρ1=>rw[q]at e;refine⟨v,i,rfl,o F0 H0 F H σ ρ v t ρ1 _ s a q λh j=>?_⟩;exact l F0 H0 F H h ρ1 i d c Q j b e k
@[simp] noncomputable def nQ(k:Nat)(m:List T->En->Option En):T->En->Option En
 |.tup ts,ρ=>if ts.length=k then m ts ρ else none
 |_,_=>none
def IA(h:Gk K g m):Kj K (Da K k g) (nQ k m):=λF0 H0 F H σ ρ x t b Q s r e q=>by
 cases r with
 |tup hx rs=>
  rename_i a i c;have e:(if c.length=k then m c ρ else none)=some b:=e;by_cases d:c.length=k
  .rw[aR d]at e;exact⟨_,_,rfl,lR.of (s.gr.fh _ _ hx),by rw[rs.length];exact d,h F0 H0 F H σ ρ _ _ b Q s rs e q⟩
  .rw[aS d]at e;cases e
 |_=>cases e
noncomputable def jP(m:T->En->Option En)(g:En->O):List T->En->O
 |[],ρ=>.nx ρ
 |t::ts,ρ=>match m t ρ with
  |none=>.bad
  |some ρ1=>match g ρ1 with
   |.nx ρ2=>jP m g ts ρ2
   |.ct ρ2=>jP m g ts ρ2
   |.bk ρ2=>.nx ρ2
   |o=>o
theorem Ag{tb:TS}{J:It}(hg:Kj K g m)(hb:MS K E tb gb){G:Hp->Hp->Prop}(R:∀i F H,G F H->i<gF.length->J.go i H)(Y:∀F H,G F H->J.stop gF.length H)(U:∀(i:Nat) t F H x c,G F H->gF[i]? = some t->J.yld i H x c->∃d,Gr F H d c/\kj K d x t)
  (P:∀d c b ρ',gS F1 d->Sr K F0 H0 d c b ρ'->G d c) (r:Sr K F0 H0 F H σ ρ) (s1:gS F1 F)
  (q:(jP m gb gF ρ).res K E F0 H0 F D):∃W:Nat->Nat->St->Hp->Prop,(∃m,W 0 m σ H)/\∀i m σ H,W i m σ H->
 (J.stop i H/\D.nx σ H)\/(J.go i H/\∃N:St->Hp->Prop,(∀b c,N b c->∃Z,Z<m/\W (i+1) Z b c)/\∀x c,J.yld i H x c->g x σ c λQ H2=>tb {D with nx:=N,ct:=N,bk:=D.nx} Q H2):=by
 refine⟨λi k b c=>i<=gF.length/\k=gF.length-i/\∃d ρ',gS F1 d/\Sr K F0 H0 d c b ρ'/\(jP m gb (gF.drop i) ρ').res K E F0 H0 d D,⟨_,cA _,rfl,F,ρ,s1,r,by simpa using q⟩,?_⟩
 rintro i k w I ⟨hi,rfl,L,p,A,B,a⟩
 by_cases h:i<gF.length
 .right;refine⟨R i L I (P _ _ _ _ A B) h,λb c=>∃d ρ',gS F1 d/\Sr K F0 H0 d c b ρ'/\(jP m gb (gF.drop (i+1)) ρ').res K E F0 H0 d D,λb c z=>⟨gF.length-(i+1),by omega,h,rfl,z⟩,λx c y=>?_⟩;have et:=ai h;obtain⟨F3,o,rp⟩:=U i _ L I x c (P _ _ _ _ A B) et y;rw[dX h]at a;unfold jP at a;cases S:m gF[i] p with
  |none=>rw[S]at a;exact a.elim
  |some ρ3=>
   rw[S]at a;refine hg F0 H0 F3 c w p x _ ρ3 _ (B.grow o) rp S λb r'=>?_;refine hb F0 H0 F3 c b ρ3 _ r' ?_;dsimp only at a;cases j:gb ρ3 with
   |bad=>rw[j]at a;exact a.elim
   |nx ρ4=>rw[j]at a;exact λd X v s l=>⟨d,ρ4,(A.trans o.ff).trans s,l,O.res.go a (o.ff.trans s)⟩
   |ct ρ4=>rw[j]at a;exact λd X v s l=>⟨d,ρ4,(A.trans o.ff).trans s,l,O.res.go a (o.ff.trans s)⟩
   |bk ρ4=>rw[j]at a;exact kN.go a o.ff
   |rt t=>rw[j]at a;exact a
   |rf ts=>rw[j]at a;exact a
   |rn ts us=>rw[j]at a;exact a
   |er C n=>rw[j]at a;exact a
 .left;have e:i=gF.length:=by omega
  subst e;refine⟨Y L I (P _ _ _ _ A B),?_⟩;rw[List.drop_length]at a;exact a L I w (.refl _) B
def vU{tb:TS}(o:Kj K g m)(l:MS K E tb gb)(a:xC K J gF F1)(r:Sr K F0 H0 F H σ ρ)(k:gS F1 F)
  (q:(jP m gb gF ρ).res K E F0 H0 F D):∃W:Nat->Nat->St->Hp->Prop,(∃m,W 0 m σ H)/\∀i m σ H,W i m σ H->
 (J.stop i H/\D.nx σ H)\/(J.go i H/\∃N:St->Hp->Prop,(∀c b,N c b->∃h,h<m/\W (i+1) h c b)/\∀x b,J.yld i H x b->g x σ b λd j=>tb {D with nx:=N,ct:=N,bk:=D.nx} d j):=
 Ag (G:=λF H=>gS F1 F/\gS F H) o l (λi F H q n=>a.go i H (q.1.trans q.2) n) (λF H q=>a.stop H (q.1.trans q.2)) (λi t F H x b q e y=>a.yld i t F H x b q.1 q.2 e y) (λ_ _ _ _ s r=>⟨s,r.gr.fh⟩) r k q
@[simp] noncomputable def pV(a:Pe->M (List T))(m:T->En->Option En)(g:En->O):En->O:=λρ=>.of (a (mU ρ)) λgF=>jP m g gF ρ
def Mr{tb:TS}(d:MI K E w fi)(e:Kj K g m)(c:MS K E tb gb):MS K E (Gj w g tb) (pV fi m gb):=λF0 H0 F H σ ρ D r q=>d F H σ (mU ρ) _ r.gr.fh r.vars ((O.res_of q).mono (λgF z J h i b a=>vU e c a (r.grow b) (.refl _) (z.go b.ff)) λC n z=>z.go r.gr)
@[simp] noncomputable def tm(a:Pe->M (List T))(m:T->En->Option En)(g:En->O):En->O:=λρ=>.of (a (vw ρ)) λgF=>jP m g gF ρ
def IS{tb:TS}(p:Nv K E w fi)(s:Kj K g m)(l:MS K E tb gb):MS K E (Gj w g tb) (tm fi m gb):=λF0 H0 F H σ ρ D r q=>by obtain⟨e,v,d,V,a⟩:=r.lend;refine p e H σ (vw ρ) _ d.fh V ((O.res_of q).mono (λgF z J i k h b=>?_) λC n z=>z.go d);obtain⟨j,c,o,_⟩:=a i k h;exact vU s l (b j) (r.grow c) (.refl _) (z.go o)
noncomputable def lA(c:Pe->M Bool)(g:En->O):Nat->En->O
 |0,_=>.bad
 |n+1,ρ=>.of (c (vw ρ)) λb=>if b then (match g ρ with
   |.nx ρ2=>lA c g n ρ2
   |.ct ρ2=>lA c g n ρ2
   |.bk ρ2=>.nx ρ2
   |o=>o) else .nx ρ
def FM{tb:TS}(i:En->Nat)(I:MT K E c fc)(J:MS K E tb gb):MS K E (AN c tb) (λρ=>lA fc gb (i ρ) ρ):=λF0 H0 F H σ ρ D r q=>by
 refine⟨λn g o=>∃d e,gS F d/\Sr K F0 H0 d o g e/\(lA fc gb n e).res K E F0 H0 d D,⟨i ρ,F,ρ,.refl _,r,q⟩,?_⟩;rintro n m N ⟨P,k,y,L,v⟩;cases n with
 |zero=>exact v.elim
 |succ n=>
  unfold lA at v;refine I.inS L v λb A w B x a=>?_;cases b with
  |true=>
   rw[aR rfl]at a ⊢;refine⟨λg o=>∃d e,gS F d/\Sr K F0 H0 d o g e/\(lA fc gb n e).res K E F0 H0 d D,λg o z=>⟨n,cn n,z⟩,?_⟩;refine J F0 H0 A w m k _ x ?_;cases h:gb k with
   |bad=>rw[h]at a;exact a.elim
   |nx ρ4=>rw[h]at a;exact λd p l s j=>⟨d,ρ4,(y.trans B).trans s,j,O.res.go a s⟩
   |ct ρ4=>rw[h]at a;exact λd p l s j=>⟨d,ρ4,(y.trans B).trans s,j,O.res.go a s⟩
   |bk ρ4=>rw[h]at a;exact a
   |rt t=>rw[h]at a;exact a
   |rf ts=>rw[h]at a;exact a
   |rn ts us=>rw[h]at a;exact a
   |er C n=>rw[h]at a;exact a
  |false=>rw[aS aI]at a ⊢;exact a A w m (.refl _) x
@[simp] noncomputable def lZ(a:List (Option Nat))(ρ:Pe):Pe:=a.map fun
 |none=>none
 |some j=>(ρ[j]?).getD none
def lh.pull{ρ:Pe}(V:lh K F σ ρ) ix:lh K F (L2.pull ix σ) (lZ ix ρ):=λi t e=>by
 unfold lZ at e;rw[aw]at e;cases q:ix[i]? with
 |none=>rw[q]at e;cases e
 |some w=>
  rw[q]at e;cases w with
  |none=>cases e
  |some j=>
   have c:(ρ[j]?).getD none=some t:=by simpa using e
   cases z:ρ[j]? with
   |none=>rw[z]at c;cases c
   |some y=>rw[z]at c;have:y=some t:=c;rw[this]at z;obtain⟨v,a,b⟩:=V j t z;refine⟨v,?_,b⟩;unfold L2.pull;rw[aw,q];simp[a]
@[simp] noncomputable def qd(m:T->Pe->Option Pe)(c:Pe->M Bool)(a:Pe->M T)(ρ:Pe)(t:T):M (Option T):=match m t ρ with
 |none=>.bad
 |some ρ1=>(c ρ1).bind λb=>if b then (a ρ1).bind λx=>.ok (some x) else .ok none
noncomputable def nZ(k:T->M (Option T)):List T->M (List T)
 |[]=>.ok []
 |t::ts=>(k t).bind λo=>(nZ k ts).bind λr=>.ok (match o with
  |some x=>x::r
  |none=>r)
def Hu:XK:=λ_ _ _=>False
def Nt:MT K E L1 (λ_=>.ok true):=λF H σ ρ Q s V q=>q F H (.refl s)
theorem EJ{ρ:Pe}(hg:MG K g m)(ht:MT K Hu tt ft)(he:ME K Hu te fe)(V:lh K F1 σ ρ)
  (d:xC K J gF F1) (s:gS F1 H1) (hl:gF.length<sizeLine) (q:(nZ (qd m ft fe (lZ ix ρ)) gF).res (kF K F1 H1 Q) (λ_ _=>False)):Qy J ix g tt te σ H1 Q:=by
 refine⟨λi k P H=>i<=gF.length/\k=gF.length-i/\∃S h,Gr F1 H1 S H/\gN K S P h/\h.length<=i/\(nZ (qd m ft fe (lZ ix ρ)) (gF.drop i)).res (λY=>kF K F1 H1 Q (h++Y)) (λ_ _=>False),
  ⟨_,cA _,rfl,F1,[],.refl s,.nil,cA _,by simpa using q⟩,?_⟩
 rintro i k P B ⟨hi,rfl,X,h,a,A,tl,p⟩;by_cases c:i<gF.length
 .right;refine⟨d.go i B (a.ff.trans a.fh) c,by rw[A.length];omega,λx I y=>?_⟩;have et:=ai c;obtain⟨U,r,rp⟩:=d.yld i _ X B x I a.ff a.fh et y;rw[dX c]at p;unfold nZ at p;have j:=M.res.unb p;unfold qd at j;cases L:m gF[i] (lZ ix ρ) with
  |none=>rw[L]at j;exact j.elim
  |some ρ3=>
   rw[L]at j;have l:=a.trans r;have V3:=(V.mono l.ff).pull ix;refine hg U I _ _ x _ ρ3 _ r.fh (by simp[L2.pull,lZ]) V3 rp L λo hl' V'=>?_;have q4:=M.res.unb j;refine ht U I o ρ3 _ r.fh V' (q4.mono (λb z Z H4 n=>?_) λ_ _ z=>z.elim);cases b with
   |true=>rw[aR rfl]at z ⊢;have q5:=M.res.unb z;refine he Z H4 o ρ3 _ n.fh (V'.mono n.ff) (q5.mono (λx' z' v F5 H5 g5 N=>?_) λ_ _ z=>z.elim);refine⟨gF.length-(i+1),by omega,c,rfl,F5,h++[x'],(l.trans n).trans g5,(A.mono (r.ff.trans (n.ff.trans g5.ff))).append (.cons N .nil),by simp;omega,?_⟩;have R:=M.res.unb z';exact R.mono (λY w=>by rw[bW];exact w) λ_ _ w=>w
   |false=>rw[aS aI]at z ⊢;refine⟨gF.length-(i+1),by omega,c,rfl,Z,h,l.trans n,A.mono (r.ff.trans n.ff),by omega,?_⟩;exact M.res.unb z
 .left;have e:i=gF.length:=by omega
  subst e;rw[List.drop_length]at p;refine⟨d.stop B (a.ff.trans a.fh),λD C=>?_⟩;have j:kF K F1 H1 Q h:=by simpa[nZ,M.res] using p
  exact j D P X _ (a.trans (.new' a.fh C)) (iL a.hh C) (iL a.fh C) gJ A
def Kt(e:MI K E w fi)(i:MG K g m)(h:MT K Hu tt ft)(d:ME K Hu te fe) :
  MF K E (Ec ix w g tt te) (λρ=>(fi ρ).bind λgF=>(if gF.length<sizeLine then nZ (qd m ft fe (lZ ix ρ)) gF else .bad).noEr):=λF H σ ρ Q s V q=>by
 refine e F H σ ρ _ s V ((M.res.unb q).mono (λgF z J j k a b=>?_) λ_ _ z=>z);split at z
 .rename_i c;exact EJ i h d (V.mono a.ff) b a.fh c (z.noEr.mono (λ_ w=>w.go a) λ_ _ w=>w)
 .exact z.elim
end
end L3
namespace L3
open PySem L2
section
variable {K:W.Frag}{E:XK}{t u ta tb:TE}{f fa fb:Pe->M T}{F0:Fz}{H0 F H F1 H1:Hp}{σ:St}{ρ:En}{D:rq}
noncomputable def B9(K:W.Frag)(F:List T->M T):Sp:=λb H Q E=>∃a F0,gS F0 H/\gN K F0 b a/\(F a).res (kV K F0 H Q) (kE E F0 H)
noncomputable def Kb(K:W.Frag)(F:List T->M (List T)):Sp:=λb H Q E=>∃a F0,gS F0 H/\gN K F0 b a/\(F a).res (kF K F0 H Q) (kE E F0 H)
@[simp] noncomputable def gP(fa:Pe->M (List T))(F:List T->M T):Pe->M T:=λρ=>(fa ρ).bind λa=>(F a).noEr
@[simp] noncomputable def il(fa:Pe->M (List T))(F:List T->M (List T)):Pe->M (List T):=λρ=>(fa ρ).bind λa=>(F a).noEr
section
variable {tr:TA}{fr:Pe->M (List T)}{Fn:List T->M T}{Ff:List T->M (List T)}{E':XK}
def E6(c:MA K E tr fr):ME K E (wy (B9 K Fn) [] E' tr) (gP fr Fn):=λF H σ ρ Q s V q=>by refine c.run s V q λb g F1 H1 a e d=>?_;exact⟨b,F1,a.fh,by rw[bI];exact e,(d.mono (λ_ z=>kV.go z a) λ_ _ z=>z).noEr⟩
def FC(c:MA K E tr fr):MF K E (wy (Kb K Ff) [] E' tr) (il fr Ff):=λF H σ ρ Q s V q=>by refine c.run s V q λb g F1 H1 a e d=>?_;exact⟨b,F1,a.fh,by rw[bI];exact e,(d.mono (λ_ z=>kF.go z a) λ_ _ z=>z).noEr⟩
end
@[simp] noncomputable def Qc:O->M T
 |.nx _=>.ok .non
 |.rt t=>.ok t
 |.rf ts=>.ok (.lst ts)
 |.rn ts us=>.ok (.tup (ts++[.lst us]))
 |.er C n=>.er C n
 |_=>.bad
@[simp] noncomputable def Qf:O->M (List T)
 |.rf ts=>.ok ts
 |.er C n=>.er C n
 |_=>.bad
@[simp] noncomputable def jj(n:Nat)(ts:List T):En:=ts.map (λt=>some (W.p t))++List.replicate (n-ts.length) none
@[simp] noncomputable def nr(k n:Nat)(g:En->O):List T->M T:=λa=>if a.length=k then Qc (g (jj n a)) else .bad
@[simp] noncomputable def zH(k n:Nat)(g:En->O):List T->M (List T):=λa=>if a.length=k then Qf (g (jj n a)) else .bad
def wz{n i:Nat}(e:(jj n ts)[i]? = some (some (.d kvs))):False:=by
 unfold jj at e;rw[List.getElem?_append]at e;split at e
 .rw[aw]at e;cases q:ts[i]? with
  |none=>rw[q]at e;cases e
  |some x=>rw[q]at e;cases e
 .rw[List.getElem?_replicate]at e;split at e<;>cases e
def zh(s:gS F H)(r:gN K F vs ts):Sr K ⟨F,[]⟩ H F H (md N vs) (jj N.length ts):=by
 refine⟨.refl s,?_,λi t e=>?_,⟨λ_=>0,λi k e=>?_,λi j k m e=>?_⟩,λ_ g=>(nomatch g),λ_ _ _ h=>(by cases h),⟨λi c e=>(wz e).elim,λi j c d e=>(wz e).elim⟩⟩
 .simp[L2.md,jj,r.length]
 .unfold jj at e;rw[List.getElem?_append]at e;split at e
  .rename_i l;rw[aw]at e;cases q:ts[i]? with
   |none=>rw[q]at e;cases e
   |some x=>rw[q]at e;cases e;obtain⟨v,a,b⟩:=r.get q;refine⟨v,?_,b⟩;unfold L2.md;rw[List.getElem?_append_left (by simpa[r.length] using l),aw,a];rfl
  .rw[List.getElem?_replicate]at e;split at e<;>cases e
 .exfalso;unfold jj at e;rw[List.getElem?_append]at e;split at e
  .rw[aw]at e;cases q:ts[i]? with
   |none=>rw[q]at e;cases e
   |some x=>rw[q]at e;cases e
  .rw[List.getElem?_replicate]at e;split at e<;>cases e
 .exfalso;unfold jj at e;rw[List.getElem?_append]at e;split at e
  .rw[aw]at e;cases q:ts[i]? with
   |none=>rw[q]at e;cases e
   |some x=>rw[q]at e;cases e
  .rw[List.getElem?_replicate]at e;split at e<;>cases e
def FP(h:B9 K (nr k n g) vs H Q E):vs.length=k:=by
 obtain⟨b,F0,s,r,q⟩:=h;unfold nr at q;by_cases a:b.length=k
 .rw[r.length];exact a
 .rw[aS a]at q;exact q.elim
def BZ{t:TS}(i:MS K E t g)(h:B9 K (nr k N.length g) vs H Q E):t {nx:=λ_ b=>Q .non b,rt:=Q} (md N vs) H:=by
 obtain⟨a,F0,s,r,q⟩:=h;unfold nr at q;by_cases c:a.length=k
 .rw[aR c]at q;refine i ⟨F0,[]⟩ H F0 H _ _ _ (zh s r) ?_;cases e:g (jj N.length a) with
  |bad=>rw[e]at q;exact q
  |nx ρ=>rw[e]at q;exact λd b l _ j=>q .non d b j.gr .non
  |rt t=>rw[e]at q;exact q
  |rf a=>rw[e]at q;exact kF.of q
  |rn a us=>rw[e]at q;exact kT.of q
  |bk ρ=>rw[e]at q;exact q.elim
  |ct ρ=>rw[e]at q;exact q.elim
  |er C n=>rw[e]at q;exact q
 .rw[aS c]at q;exact q.elim
def JT(h:Kb K (zH k n g) vs H Q E):vs.length=k:=by
 obtain⟨b,F0,s,r,q⟩:=h;unfold zH at q;by_cases a:b.length=k
 .rw[r.length];exact a
 .rw[aS a]at q;exact q.elim
def G4{t:TS}(c:MS K E t g)(h:Kb K (zH k N.length g) vs H Q E):t {nx:=λ_ d=>Q .non d,rt:=Q} (md N vs) H:=by
 obtain⟨a,F0,s,r,q⟩:=h;unfold zH at q;by_cases b:a.length=k
 .rw[aR b]at q;refine c ⟨F0,[]⟩ H F0 H _ _ _ (zh s r) ?_;cases e:g (jj N.length a) with
  |bad=>rw[e]at q;exact q
  |nx ρ=>rw[e]at q;exact q.elim
  |rt t=>rw[e]at q;exact q.elim
  |rf a=>rw[e]at q;exact q
  |rn a us=>rw[e]at q;exact q.elim
  |bk ρ=>rw[e]at q;exact q.elim
  |ct ρ=>rw[e]at q;exact q.elim
  |er C n=>rw[e]at q;exact q
 .rw[aS b]at q;exact q.elim
end
end L3
namespace L3
open PySem L2 PySem.Spec PyProof.Rows
structure Pm(K:W.Frag)(E:XK)(X:Cx)(e:Expr)(t:TE)(f:Pe->M T):Prop where
 pe:PE X e t
 me:ME K E t f
structure DT(K:W.Frag)(E:XK)(X:Cx)(e:Expr)(t:TE)(f:Pe->M (List T)):Prop where
 pe:PE X e t
 mf:MF K E t f
structure zm(K:W.Frag)(E:XK)(X:Cx)(e:Expr)(t:TT)(f:Pe->M Bool):Prop where
 pt:PT X e t
 mt:MT K E t f
structure Mu(K:W.Frag)(E:XK)(X:Cx)(e:Expr)(t:TT)(f:Pe->M Bool):Prop where
 pw:PW X e t
 mt:MT K E t f
structure zG(K:W.Frag)(E:XK)(X:Cx)(es:List Expr)(t:TA)(f:Pe->M (List T)):Prop where
 pa:PA X es t
 ma:MA K E t f
structure JN(K:W.Frag)(E:XK)(X:Cx)(tg it:Expr)(w:TI)(f:Pe->M (List T)):Prop where
 pi:PI X tg it w
 mi:MI K E w f
structure Ah(K:W.Frag)(E:XK)(X:Cx)(tg it:Expr)(w:TI)(f:Pe->M (List T)):Prop where
 pi:PI X tg it w
 mi:Nv K E w f
structure Nz(K:W.Frag)(X:Cx)(tg:Expr)(g:TG)(m:T->Pe->Option Pe):Prop where
 pg:PG X tg g
 mg:MG K g m
structure Iq(K:W.Frag)(X:Cx)(tg:List Expr)(g:Hs)(m:List T->Pe->Option Pe):Prop where
 pg:Nu X tg g
 mg:Ol K g m
structure NG(K:W.Frag)(X:Cx)(tg:Expr)(g:TG)(m:T->En->Option En):Prop where
 pg:PG X tg g
 mg:Kj K g m
structure HD(K:W.Frag)(X:Cx)(tg:List Expr)(g:Hs)(m:List T->En->Option En):Prop where
 pg:Nu X tg g
 mg:Gk K g m
structure wG(K:W.Frag)(E:XK)(X:Cx)(st:Stmt)(t:TS)(g:En->O):Prop where
 ps:PS X st t
 ms:MS K E t g
structure qV(K:W.Frag)(E:XK)(X:Cx)(sts:List Stmt)(t:TS)(g:En->O):Prop where
 ps:zL X sts t
 ms:MS K E t g
noncomputable def MO(K:W.Frag)(E:XK)(t:TO)(f:Pe->M (Option Int)):Prop:=∀F H a b Q,gS F H->lh K F a b->(f b).res (λo=>∀d c,Gr F H d c->Q o c) (kE E F H)->t a H Q
structure Py(K:W.Frag)(E:XK)(X:Cx)(e:Option Expr)(t:TO)(f:Pe->M (Option Int)):Prop where
 po:PO X e t
 mo:MO K E t f
structure F6(K:W.Frag)(E:XK)(X:Cx)(es:List Expr)(t:TT)(f:Pe->M Bool):Prop where
 pf:Dg X es t
 mt:MT K E t f
section
variable {K:W.Frag}{E:XK}{X:Cx}{a b c e o:Expr}{es:List Expr}{ta tb tc te to:TE}{fa fb fc fe fo:Pe->M T}{tr:TA}{fr:Pe->M (List T)}{pos p p2 apos:Pos}
def gE i (f:X.N[i]? = some x:=by rfl) (hv:OI X.env.scope x:=by first|exact Or.inl rfl|exact Or.inr (Or.inl rfl)|exact Or.inr (Or.inr rfl)) (hd:(x==("__debug__" : Str))=false:=by decide)
  (d:(x==("__classdict__" : Str))=false:=by decide):Pm K E X (.Name x pos) (qX i) (gy i):=⟨pv i f hv hd d,MV⟩
def ig{j pos}:Pm K E X (.Constant (.int i) j pos) (tC (.int i)) (cM (.int i)):=⟨Nq,HQ λ_=>.int i⟩
def NL{b:Bool}{j pos}:Pm K E X (.Constant (.bool b) j pos) (tC (.bl b)) (cM (.bl b)):=⟨Of,HQ λ_=>.bl b⟩
def FL{j pos}:Pm K E X (.Constant .none j pos) (tC .non) (cM .non):=⟨Lg,HQ λ_=>.non⟩
def yp i (d:∃t,X.mg x=some (.int i t)) (f:Gl X x:=by rfl) (hd:(x==("__debug__" : Str))=false:=by decide):Pm K E X (.Name x pos) (tC (.int i)) (cM (.int i)):=let ⟨t,h⟩:=d;⟨Jo f h ⟨t,rfl⟩ hd,HQ λ_=>.int i⟩
def jJ(h:DT K E X e te f):Pm K E X e te (λρ=>(f ρ).bind λts=>.ok (.lst ts)):=⟨h.pe,h.mf.me⟩
def rL(g:nu X (binaryOp op) r)(hr:MR K r m)(d:Pm K E X a ta fa)(f:Pm K E X b tb fb):Pm K E X (.BinOp a op b pos) (uM r ta tb) (gI m fa fb):=⟨GE g d.pe f.pe,Bj hr d.me f.me⟩
def Fi(K:W.Frag):R2:=λx y H Q=>(AX λi j=>.int (i+j)) x y H Q\/(∃i j,x=.str i/\y=.str j/\i.length+j.length<=sizeLine/\Q (.str (i++j)) H)\/MX x y H Q\/
 ∃a b d f,x=.ref a/\y=.ref b/\H a=some (.tup d)/\H b=some (.tup f)/\d.length+f.length<=sizeLine/\(d=[]->Q (.ref b) H)/\(d≠[]->f=[]->Q (.ref a) H)/\(d≠[]->f≠[]->∀p,H p=none->Q (.ref p) (jn H p (.tup (d++f))))
def JH(P:X.K=K:=by rfl):nu X (binaryOp .Add) (Fi K):=by
 subst P;intro i s j H x y v u Q I f d h;rcases h with h|h|h|h
 .exact MZ i s j H x y v u Q I f d h
 .exact Az i s j H x y v u Q I f d h
 .exact Ge i s j H x y v u Q I f d h
 .obtain⟨a,b,q,U,rfl,rfl,n,r,hz,q1,J,S⟩:=h;by_cases g:q=[]
  .subst g;cases f;cases d;obtain⟨gF,R,C,_⟩:=I.tuple (lR.of n);obtain⟨m,r2,p2,_⟩:=I.tuple (lR.of r);cases R;obtain⟨⟨c1,B,e1,D⟩,z,L,A,l⟩:=id C;obtain⟨⟨c2,Y,e2,N⟩,w,k2,Z,k⟩:=id p2;subst L l k2 k;exact concat_meets ⟨_,z,rfl⟩ ⟨_,w,rfl⟩ noFill_tuple_add seq_tuple_add PySem.F.slot_tuple_add PySem.F.entry_tuple_add (PySem.F.args_tuple_add_2 _ _) (tuple_addW0 a b _ _ A Z B Y D N (by simp)) ⟨z,w,⟨.ref b,H,I,rfl,q1 rfl⟩⟩
  .exact HN i s j H _ _ v u Q I f d ⟨a,b,q,U,rfl,rfl,lR.of n,lR.of r,g,hz,λe=>J g e,λe p hp=>S g e p hp⟩
noncomputable def iG:T->T->M T
 |.int i,.int j=>.ok (.int (i+j))
 |.str i,.str j=>if i.length+j.length<=sizeLine then .ok (.str (i++j)) else .bad
 |.lst a,.lst b=>if a.length+b.length<=sizeLine then .ok (.lst (a++b)) else .bad
 |.tup a,.tup b=>if a.length+b.length<=sizeLine then .ok (.tup (a++b)) else .bad
 |_,_=>.bad
def H9 x y:M.NoE (iG x y):=λC n=>by unfold iG;split<;>first|(intro z;cases z;done)|(split<;>intro z<;>cases z)
def JK:MR K (Fi K) iG:=⟨H9,λF H v w x y Q s r l q=>by
 cases r with
 |int i=>
  cases l with
  |int j=>exact .inl ⟨i,j,rfl,rfl,kV.now q s (.int _)⟩
  |_=>exact q.elim
 |str i=>
  cases l with
  |str j=>
   have d:(if i.length+j.length<=sizeLine then M.ok (T.str (i++j)) else M.bad).res (kV K F H Q) (λ_ _=>False):=q;by_cases h:i.length+j.length<=sizeLine
   .rw[aR h]at d;exact .inr (.inl ⟨i,j,rfl,rfl,h,kV.now d s (.str _)⟩)
   .rw[aS h]at d;exact d.elim
  |_=>exact q.elim
 |lst h1 r1=>
  cases l with
  |lst h2 r2=>
   rename_i a m f b n g;have d:(if f.length+g.length<=sizeLine then M.ok (T.lst (f++g)) else M.bad).res (kV K F H Q) (λ_ _=>False):=q;by_cases h:f.length+g.length<=sizeLine
   .rw[aR h]at d;refine .inr (.inr (.inl ⟨a,b,m,n,rfl,rfl,s _ _ h1,s _ _ h2,by rw[r1.length,r2.length];exact h,λp k=>?_⟩));exact d (.ref p) _ _ (.new s k) (.lst gJ ((r1.append r2).mono (Gr.new s k).ff))
   .rw[aS h]at d;exact d.elim
  |_=>exact q.elim
 |tup h1 r1=>
  cases l with
  |tup h2 r2=>
   rename_i a m f b n g;have d:(if f.length+g.length<=sizeLine then M.ok (T.tup (f++g)) else M.bad).res (kV K F H Q) (λ_ _=>False):=q;by_cases h:f.length+g.length<=sizeLine
   .rw[aR h]at d;refine .inr (.inr (.inr ⟨a,b,m,n,rfl,rfl,s _ _ h1,s _ _ h2,by rw[r1.length,r2.length];exact h,λe=>?_,λ_ e=>?_,λ_ _ p k=>?_⟩))
    .subst e;cases r1;exact kV.now d s (.tup h2 r2)
    .subst e;cases r2;exact kV.now d s (.tup h1 (by rw[bI];exact r1))
    .exact d (.ref p) _ _ (.new s k) (.tup gJ ((r1.append r2).mono (Gr.new s k).ff))
   .rw[aS h]at d;exact d.elim
  |_=>exact q.elim
 |_=>exact q.elim⟩
def pK(f:Pm K E X a ta fa)(d:Pm K E X b tb fb)(g:X.K=K:=by rfl):Pm K E X (.BinOp a .Add b pos) (uM (Fi K) ta tb) (gI iG fa fb):=rL (JH g) JK f d
@[simp] noncomputable def zA(fa fb:Pe->M T):Pe->M (List T):=λd=>(fa d).bind λx=>(fb d).bind λy=>match x,y with
 |.lst a,.lst b=>if a.length+b.length<=sizeLine then .ok (a++b) else .bad
 |_,_=>.bad
def DU(n:Pm K E X a ta fa)(r:Pm K E X b tb fb):DT K E X (.BinOp a .Add b pos) (uM MX ta tb) (zA fa fb):=by
 refine⟨GE Ge n.pe r.pe,λF H P L Q s V q=>?_⟩;refine n.me.run s V q λx v N J l B I=>?_;refine r.me.run l.fh (V.mono l.ff) I λy w u z d D j=>?_;cases B with
 |lst h1 t1=>
  cases D with
  |lst h2 t2=>
   rename_i a A i b C k;have g:(if i.length+k.length<=sizeLine then M.ok (i++k) else M.bad).res (kF K F H Q) (kE E u z):=j;by_cases h:i.length+k.length<=sizeLine
   .rw[aR h]at g;refine⟨a,b,A,C,rfl,rfl,d.fh _ _ (d.ff _ _ h1),d.fh _ _ h2,by rw[t1.length,t2.length];exact h,λp m=>?_⟩;have f:=l.trans d;exact g p _ u _ (f.trans (.new' d.fh m)) (iL f.hh m) (iL d.fh m) gJ ((t1.mono d.ff).append t2)
   .rw[aS h]at g;exact g.elim
  |_=>exact j.elim
 |_=>exact j.elim
noncomputable def uX:T->T->M T:=kh (λ_ _=>true) λi j=>.int (i-j)
def AU(f:Pm K E X a ta fa)(d:Pm K E X b tb fb):Pm K E X (.BinOp a .Sub b pos) (uM (AX λi j=>.int (i-j)) ta tb) (gI uX fa fb):=rL KZ (qF λ_ _ _=>.int _) f d
instance {i j:Int}:Decidable (PySem.IntMulOk i j):=inferInstanceAs (Decidable (¬_))
noncomputable def jN:T->T->M T:=kh (λi j=>decide (PySem.IntMulOk i j)) λi j=>.int (i*j)
def AF(f:Pm K E X a ta fa)(d:Pm K E X b tb fb):Pm K E X (.BinOp a .Mult b pos) (uM (rI (λi j=>PySem.IntMulOk i j) λi j=>.int (i*j)) ta tb) (gI jN fa fb):=rL HF (tq (λi j h=>of_decide_eq_true h) λ_ _ _=>.int _) f d
noncomputable def kW:T->T->M T:=kh (λi j=>decide (j≠0)&&!Builtin.divisionGoesByPylong i j) λi j=>.int (i.fdiv j)
def Be(f:Pm K E X a ta fa)(d:Pm K E X b tb fb):Pm K E X (.BinOp a .FloorDiv b pos) (uM (rI (λi j=>j≠0/\Builtin.divisionGoesByPylong i j=false) λi j=>.int (i.fdiv j)) ta tb) (gI kW fa fb):=rL Fd (tq (λi j h=>by simpa using h) λ_ _ _=>.int _) f d
noncomputable def rK:T->T->M T:=kh (λ_ j=>decide (j≠0)) λi j=>.int (i.fmod j)
def Lr(f:Pm K E X a ta fa)(d:Pm K E X b tb fb):Pm K E X (.BinOp a .Mod b pos) (uM (rI (λ_ j=>j≠0) λi j=>.int (i.fmod j)) ta tb) (gI rK fa fb):=rL IT (tq (λi j h=>by simpa using h) λ_ _ _=>.int _) f d
noncomputable def Hy:T->T->M T:=kh (λi j=>decide (0<=j)&&decide (j<=1000000)&&decide (i.natAbs<18446744073709551616)) λi j=>.int (i ^ j.toNat)
def M9(f:Pm K E X a ta fa)(d:Pm K E X b tb fb):Pm K E X (.BinOp a .Pow b pos) (uM (rI HU λi j=>.int (i ^ j.toNat)) ta tb) (gI Hy fa fb):=rL LP (tq (λi j h=>by simp only[bS,decide_eq_true_eq]at h;exact⟨h.1.1,h.1.2,h.2⟩) λ_ _ _=>.int _) f d
def qT(d:Pm K E X a ta fa):Pm K E X (.UnaryOp .USub a pos) (PN (rU λi=>.int (-i)) ta) (nv (λi=>.int (-i)) fa):=⟨OA Mh d.pe,Og (λ_ _=>.int _) d.me⟩
@[simp] noncomputable def Nf(fa fb:Pe->M T):Pe->M (List T):=λd=>(fa d).bind λx=>(fb d).bind λy=>match x,y with
 |.lst a,.int k=>if zb k=true/\a.length*k.toNat<=sizeLine then .ok (List.replicate k.toNat a).flatten else .bad
 |_,_=>.bad
def Ed(n:Pm K E X a ta fa)(r:Pm K E X b tb fb):DT K E X (.BinOp a .Mult b pos) (uM Ob ta tb) (Nf fa fb):=by
 refine⟨GE Mm n.pe r.pe,λF H N J Q s V q=>?_⟩;refine n.me.run s V q λx v L I l B D=>?_;refine r.me.run l.fh (V.mono l.ff) D λy w u z d C j=>?_;cases B with
 |lst h1 t1=>
  cases C with
  |int k=>
   rename_i a A i;have g:(if zb k=true/\i.length*k.toNat<=sizeLine then M.ok (List.replicate k.toNat i).flatten else M.bad).res (kF K F H Q) (kE E u z):=j;by_cases h:zb k=true/\i.length*k.toNat<=sizeLine
   .rw[aR h]at g;refine⟨a,k,A,rfl,rfl,d.fh _ _ (d.ff _ _ h1),by have:=lq h.1;rw[NR]at this;rw[Pg];omega,by have:=lq h.1;rw[NR]at this;rw[Pg];omega,by rw[t1.length];exact h.2,λp m=>?_⟩;have f:=l.trans d;exact g p _ u _ (f.trans (.new' d.fh m)) (iL f.hh m) (iL d.fh m) gJ ((t1.mono d.ff).rep k.toNat)
   .rw[aS h]at g;exact g.elim
  |_=>exact j.elim
 |_=>exact j.elim
def vD(h:Pm K E X e te fe)(f:∀d,isTrue e X.env d=(do let v <-d;standAt e.pos;holding [v] (truthy v)):=by intro _;rfl):zm K E X e (tB te) (j4 fe):=⟨L7 h.pe f,Ia h.me⟩
section
variable {tA tD:TT}{fA fD:Pe->M Bool}{jD:List Expr}
def oF(h:zm K E X a tA fA):zm K E X (.UnaryOp .Not a pos) (KF tA) (qO fA):=⟨MP h.pt,Lf h.mt⟩
def EV(h:Mu K E X a tA fA):zm K E X a tA fA:=⟨PW.pt h.pw,h.mt⟩
def yj(h:zm K E X a tA fA):Mu K E X (.BoolOp .And [a] pos) tA fA:=⟨JY h.pt,h.mt⟩
def sH(h:zm K E X a tA fA):Mu K E X (.BoolOp .Or [a] pos) tA fA:=⟨MJ h.pt,h.mt⟩
def B8(h:zm K E X a tA fA)(h':Mu K E X (.BoolOp .And (b::jD) pos) tD fD):Mu K E X (.BoolOp .And (a::b::jD) pos) (MD tA tD) (wO fA fD):=⟨LR h.pt h'.pw,My h.mt h'.mt⟩
def uA(h:zm K E X a tA fA)(h':Mu K E X (.BoolOp .Or (b::jD) pos) tD fD):Mu K E X (.BoolOp .Or (a::b::jD) pos) (PR tA tD) (Lb fA fD):=⟨OV h.pt h'.pw,NB h.mt h'.mt⟩
def tP{op}(h:Pm K E X a ta fa):Pm K E X (.BoolOp op [a] pos) ta fa:=⟨M6 h.pe,h.me⟩
def tY(h:Pm K E X a ta fa)(h':Pm K E X (.BoolOp .And (b::jD) pos) tb fb):Pm K E X (.BoolOp .And (a::b::jD) pos) (G3 ta tb) (xi fa fb):=⟨Mb h.pe h'.pe,HH h.me h'.me⟩
def AB(h:Pm K E X a ta fa):Pm K E X (.UnaryOp .Not a pos) (GU ta) (CG fa):=⟨KL h.pe,Jd h.me⟩
def OO(h:zm K E X c tA fA)(f:Pm K E X a ta fa)(d:Pm K E X b tb fb):Pm K E X (.IfExp c a b pos) (PV tA ta tb) (Qn fA fa fb):=⟨GV h.pt f.pe d.pe,OZ h.mt f.me d.me⟩
end
def Au(h:nu X (compareOp op) r)(hr:MR K r m)(f:Pm K E X a ta fa)(d:Pm K E X b tb fb)(g:behindInMarks op b=false:=by exact tU _):Pm K E X (.Compare a [op] [b] pos) (uM r ta tb) (gI m fa fb):=⟨JC h f.pe d.pe g,Bj hr f.me d.me⟩
def iY(h:nu X (compareOp op) r)(hr:MR K r m)(f:Pm K E X a ta fa)(d:Pm K E X b tb fb)(g:behindInMarks op b=false:=by exact tU _):zm K E X (.Compare a [op] [b] pos) (rW (uM r ta tb)) (j4 (gI m fa fb)):=⟨Ju h f.pe d.pe g,A1 (Bj hr f.me d.me)⟩
noncomputable def Ks:T->T->M T:=kh (λ_ _=>true) λi j=>.bl (decide (i<j))
noncomputable def B4:T->T->M T:=kh (λ_ _=>true) λi j=>.bl (decide (i<=j))
noncomputable def Mv:T->T->M T:=kh (λ_ _=>true) λi j=>.bl (decide (j<i))
noncomputable def PF:T->T->M T:=kh (λ_ _=>true) λi j=>.bl (decide (j<=i))
def vJ:MR K (AX λi j=>.bl (decide (i<j))) Ks:=qF λ_ _ _=>.bl _
def tW:MR K (AX λi j=>.bl (decide (i<=j))) B4:=qF λ_ _ _=>.bl _
def BC:MR K (AX λi j=>.bl (decide (j<i))) Mv:=qF λ_ _ _=>.bl _
def Fk:MR K (AX λi j=>.bl (decide (j<=i))) PF:=qF λ_ _ _=>.bl _
@[simp] noncomputable def II(m f:T->T->M T)(fa fb fc:Pe->M T):Pe->M T:=λd=>(fa d).bind λx=>(fb d).bind λy=>(m x y).bind λz=>match z with
 |.bl true=>(fc d).bind λw=>f y w
 |.bl false=>.ok (.bl false)
 |_=>.bad
def yS(hr:MR K r m)(f:MR K r' m')(L:ME K E ta fa)(S:ME K E tb fb)(B:ME K E tc fc):ME K E (sX r r' ta tb tc) (II m m' fa fb fc):=λF H σ ρ Q s V q=>by
 refine L.run s V q λx v F1 H1 l Y q1=>?_;refine S.run l.fh (V.mono l.ff) q1 λy w Z N j A R=>?_;refine hr.ok Z N v w x y _ j.fh (Y.mono j.ff) A (((M.res.unb R).ne (hr.ne x y)).mono (λz n v3 U D g P=>?_) λ_ _ z=>z);have d:=(l.trans j).trans g;cases P with
 |bl k=>
  refine⟨k,rfl,?_⟩;cases k with
  |true=>rw[aR rfl];have i:=n.mono (λ_ z=>z) λ_ _ z=>z.go g;refine B.run g.fh (V.mono d.ff) i λu C F4 H4 h I J=>?_;exact f.ok F4 H4 w C y u Q h.fh (A.mono (g.ff.trans h.ff)) I ((J.ne (f.ne y u)).mono (λ_ z=>z.go (d.trans h)) λ_ _ z=>z)
  |false=>rw[aS aI];exact n _ U D d (.bl _)
 |_=>exact n.elim
def yK(k:nu X (compareOp op) r)(hr:MR K r m)(d:nu X (compareOp op') r')(f:MR K r' m')(i:Pm K E X a ta fa)(h:Pm K E X b tb fb)(g:Pm K E X c tc fc)
  (j:lastMarks [op,op'] [b,c]=false:=by with_unfolding_all rfl):Pm K E X (.Compare a [op,op'] [b,c] pos) (sX r r' ta tb tc) (II m m' fa fb fc):=⟨GN k d i.pe h.pe g.pe j,yS hr f i.me h.me g.me⟩
def Cj(k:nu X (compareOp op) r)(hr:MR K r m)(d:nu X (compareOp op') r')(f:MR K r' m')(i:Pm K E X a ta fa)(h:Pm K E X b tb fb)(g:Pm K E X c tc fc)
  (j:lastMarks [op,op'] [b,c]=false:=by with_unfolding_all rfl):zm K E X (.Compare a [op,op'] [b,c] pos) (rW (sX r r' ta tb tc)) (j4 (II m m' fa fb fc)):=⟨Fe k d i.pe h.pe g.pe j,A1 (yS hr f i.me h.me g.me)⟩
mutual
noncomputable def oV:T->Bool
 |.str x=>PyData.canLay0 (.str x)
 |.lst ts=>oK ts
 |.tup ts=>oK ts
 |.scr _=>false
 |.obj _ _=>false
 |.emp=>false
 |.dic _=>false
 |_=>true
noncomputable def oK:List T->Bool
 |[]=>true
 |t::ts=>oV t&&oK ts
end
mutual
def xY:T->PyData
 |.non=>.none
 |.bl b=>.bool b
 |.int i=>.int i
 |.str x=>.str x
 |.lst ts=>.list (sx ts)
 |.tup ts=>.tuple (sx ts)
 |.scr _=>.none
 |.obj _ _=>.none
 |.emp=>.none
 |.dic _=>.none
def sx:List T->List PyData
 |[]=>[]
 |t::ts=>xY t::sx ts
end
mutual
theorem DO{F:Hp}:∀{v:V} {t:T},kj K F v t->oV t=true->DV K F v (xY t)
 |_,_,.non,_=>.non
 |_,_,.bl b,_=>.bl b
 |_,_,.int i,_=>.int i
 |_,_,.str x,_=>.str x
 |_,_,.lst h r,l=>.lst (kK.of h) (Aw r (by simpa[oV] using l))
 |_,_,.tup h r,l=>.tup (lR.of h) (Aw r (by simpa[oV] using l))
 |_,_,.scr _,l=>by simp[oV]at l
 |_,_,.obj _ _,l=>by simp[oV]at l
 |_,_,.emp _,l=>by simp[oV]at l
 |_,_,.dic _ _,l=>by simp[oV]at l
theorem Aw{F:Hp}:∀{vs:List V} {ts:List T},gN K F vs ts->oK ts=true->yG K F vs (sx ts)
 |_,_,.nil,_=>.nil
 |_,_,.cons h r,l=>by rw[oK,bS]at l;exact .cons (DO h l.1) (Aw r l.2)
end
mutual
theorem xx:∀t,oV t=true->(xY t).canLay0=true
 |.non,_=>rfl
 |.bl b,_=>rfl
 |.int i,_=>rfl
 |.str x,h=>by simpa[oV,xY] using h
 |.lst ts,h=>by rw[xY,PyData.canLay0];exact ug ts (by simpa[oV] using h)
 |.tup ts,h=>by rw[xY,PyData.canLay0];exact ug ts (by simpa[oV] using h)
 |.scr _,h=>by simp[oV]at h
 |.obj _ _,h=>by simp[oV]at h
 |.emp,h=>by simp[oV]at h
 |.dic _,h=>by simp[oV]at h
theorem ug:∀ts,oK ts=true->PyData.canLayAll0 (sx ts)=true
 |[],_=>rfl
 |t::ts,h=>by rw[oK,bS]at h;rw[sx,PyData.canLayAll0,xx t h.1,ug ts h.2];rfl
end
noncomputable def A5(x y:T):Bool:=(xY x).eqv (xY y)
noncomputable def t8(a b:List T):Bool:=PyData.eqvAll (sx a) (sx b)
noncomputable def xT(t:T):Nat:=(xY t).depth
noncomputable def pL(ts:List T):Nat:=PyData.depthAll (sx ts)
@[simp] theorem Pi i:xT (.int i)=0:=rfl
@[simp] theorem PQ i:xT (.bl i)=0:=rfl
@[simp] theorem Px i:xT (.str i)=0:=rfl
@[simp] theorem Pf:xT .non=0:=rfl
@[simp] theorem BV ts:xT (.lst ts)=pL ts+1:=by unfold xT pL;rw[xY,PyData.depth]
@[simp] theorem Br ts:xT (.tup ts)=pL ts+1:=by unfold xT pL;rw[xY,PyData.depth]
@[simp] theorem OF:pL []=0:=rfl
@[simp] theorem C1 t ts:pL (t::ts)=max (xT t) (pL ts):=by unfold xT pL;rw[sx,PyData.depthAll]
@[simp] theorem Pu i j:A5 (.int i) (.int j)=(i==j):=rfl
@[simp] theorem Pt i j:A5 (.str i) (.str j)=(i==j):=rfl
def xJ xs ys:A5 (.lst xs) (.lst ys)=t8 xs ys:=by unfold A5 t8;rw[xY,xY,PyData.eqv]
def sF xs ys:A5 (.tup xs) (.tup ys)=t8 xs ys:=by unfold A5 t8;rw[xY,xY,PyData.eqv]
def rD x xs y ys:t8 (x::xs) (y::ys)=(A5 x y&&t8 xs ys):=by unfold A5 t8;rw[sx,sx,PyData.eqvAll]
noncomputable def iP(neg:Bool):T->T->M T:=λx y=>if oV x&&oV y&&decide (xT x<=100) then .ok (.bl (if neg then !A5 x y else A5 x y)) else .bad
mutual
theorem DV.same{F H:Hp}(s:gS F H):∀{v:V} {d:PyData},DV K F v d->DV K H v d
 |_,_,.non=>.non
 |_,_,.bl b=>.bl b
 |_,_,.int i=>.int i
 |_,_,.str x=>.str x
 |_,_,.lst h r=>.lst (s.seq h) (yG.same s r)
 |_,_,.tup h r=>.tup (s.seqT h) (yG.same s r)
theorem yG.same{F H:Hp}(s:gS F H):∀{v:List V} {d:List PyData},yG K F v d->yG K H v d
 |_,_,.nil=>.nil
 |_,_,.cons h r=>.cons (DV.same s h) (yG.same s r)
end
def JD x y:M.NoE (iP neg x y):=λC n=>by unfold iP;split<;>exact λz=>nomatch z
def DM(neg:Bool):MR K (CA K neg) (iP neg):=⟨JD,λF H v w x y Q s a b q=>by
 unfold iP at q;by_cases h:(oV x&&oV y&&decide (xT x<=100))=true
 .rw[aR h]at q;simp only[bS,decide_eq_true_eq]at h;refine⟨xY x,xY y,DV.same s (DO a h.1.1),DV.same s (DO b h.1.2),⟨xx x h.1.1,xx y h.1.2,by exact h.2⟩,?_⟩;exact kV.now q s (.bl _)
 .rw[aS h]at q;exact q.elim⟩
def EY{k:Nat}(hr:jO k X.A)(e:Pm K E X a ta fa)(d:Pm K E X b tb fb)(f:X.K=K:=by rfl)(c:behindInMarks .Eq b=false:=by exact tU _):Pm K E X (.Compare a [.Eq] [b] pos) (uM (CA K false) ta tb) (gI (iP false) fa fb):=Au (f▸E8 (PJ hr)) (DM false) e d c
def Ma{k:Nat}(hr:jO k X.A)(e:Pm K E X a ta fa)(d:Pm K E X b tb fb)(f:X.K=K:=by rfl)(c:behindInMarks .Eq b=false:=by exact tU _):zm K E X (.Compare a [.Eq] [b] pos) (rW (uM (CA K false) ta tb)) (j4 (gI (iP false) fa fb)):=iY (f▸E8 (PJ hr)) (DM false) e d c
def pE{k:Nat}(hr:jO k X.A)(e:Pm K E X a ta fa)(d:Pm K E X b tb fb)(f:X.K=K:=by rfl)(c:behindInMarks .NotEq b=false:=by exact tU _):zm K E X (.Compare a [.NotEq] [b] pos) (rW (uM (CA K true) ta tb)) (j4 (gI (iP true) fa fb)):=iY (f▸Lu (PJ hr)) (DM true) e d c
@[simp] noncomputable def Ex(neg:Bool):T->T->M T:=λx y=>match y with
 |.non=>.ok (.bl (match x with|.non=>!neg|_=>neg))
 |_=>.bad
def IW x y:M.NoE (Ex neg x y):=λC n=>by cases y<;>exact λz=>nomatch z
def FG:MR K (λx y H Q=>y=.non/\Q (.bl (decide (x=.non))) H) (Ex false):=⟨IW,λF H v w x y Q s a b q=>by
 cases b with
 |non=>refine⟨rfl,?_⟩;cases a<;>exact kV.now q s (.bl _)
 |_=>exact q.elim⟩
end
end L3
namespace L3
open PySem L2 PySem.Spec PyProof.Rows
section
variable {K:W.Frag}{E:XK}{X:Cx}{a b c e o tg it:Expr}{es:List Expr}{ta tb tc te to:TE}{fa fb fc fe fo:Pe->M T}{tr:TA}{fr:Pe->M (List T)}{pos p p2 apos:Pos}
def gX:zG K E X [] DI gA:=⟨xR,Nj⟩
def gD(d:Pm K E X e te fe)(hr:zG K E X es tr fr)(hs:starEach (e::es) X.env=(false,eval e X.env)::starEach es X.env:=by rfl):zG K E X (e::es) (rS te tr) (gn fe fr):=⟨qw d.pe hr.pa hs,HB d.me hr.ma⟩
def nJ{x1}(h:zG K E X es tr fr):Pm K E X (.Tuple es x1 pos) (KJ tr) (kS fr):=⟨Ld h.pa,Kw h.ma⟩
def FA(h:zG K E X es tr fr):DT K E X (.List es pos) (Ml tr) (lstM fr):=⟨K5 h.pa,Ni h.ma⟩
structure MC(K:W.Frag)(r:List V->Hp->VK->Prop)(o:List T->M T):Prop where
 ne:∀xs,M.NoE (o xs)
 ok:∀F H vs xs Q,gS F H->gN K F vs xs->(o xs).res (kV K F H Q) (λ_ _=>False)->r vs H Q
structure Qj(K:W.Frag)(r:List V->Hp->VK->Prop)(o:List T->M (List T)):Prop where
 ne:∀xs,M.NoE (o xs)
 ok:∀F H vs xs Q,gS F H->gN K F vs xs->(o xs).res (kF K F H Q) (λ_ _=>False)->r vs H Q
@[simp] noncomputable def j9(o:List T->M T)(fr:Pe->M (List T)):Pe->M T:=λd=>(fr d).bind o
@[simp] noncomputable def Iu(o:List T->M (List T))(fr:Pe->M (List T)):Pe->M (List T):=λd=>(fr d).bind o
def Kh{o:List T->M T}(d:MC K r o)(i:MA K E tr fr):ME K E (Jf r tr) (j9 o fr):=λF H u n Q s V q=>by refine i.run s V q λf l k h g j m=>?_;exact d.ok k h l f Q g.fh j ((m.ne (d.ne f)).mono (λ_ z=>z.go g) λ_ _ z=>z)
def J7{o:List T->M (List T)}(d:Qj K r o)(i:MA K E tr fr):MF K E (Jf r tr) (Iu o fr):=λF H u n Q s V q=>by refine i.run s V q λf l k h g j m=>?_;exact d.ok k h l f Q g.fh j ((m.ne (d.ne f)).mono (λ_ z=>z.go g) λ_ _ z=>z)
section
variable {x:Str}{id T':String}{r:List V->Hp->VK->Prop}{m:List T->M T}{mf:List T->M (List T)}
def gQ(j:kD X (.builtin id) r)(d:MC K r m)(l:Gl X x)(k:X.mg x=none)(hv:bootBuiltins x=some (.builtin id))(h:zG K E X (e::es) tr fr)(n:x≠ "__name__" :=by decide)(f:(x==("__debug__" : Str))=false:=by decide)
  (i:starEach (e::es) X.env=(false,eval e X.env)::starEach es X.env:=by rfl) (g:(backTo pos (starEach es X.env)).any (·.1)=false:=by rfl):Pm K E X (.Call (.Name x p) (e::es) [] pos) (Jf r tr) (j9 m fr):=⟨uE j l k hv h.pa n f i g,Kh d h.ma⟩
def i6(j:kD X (.type T') r)(d:MC K r m)(l:Gl X x)(k:X.mg x=none)(hv:bootBuiltins x=some (.type T'))(h:zG K E X (e::es) tr fr)(n:x≠ "__name__" :=by decide)(f:(x==("__debug__" : Str))=false:=by decide)
  (i:starEach (e::es) X.env=(false,eval e X.env)::starEach es X.env:=by rfl) (g:(backTo pos (starEach es X.env)).any (·.1)=false:=by rfl):Pm K E X (.Call (.Name x p) (e::es) [] pos) (Jf r tr) (j9 m fr):=⟨CZ j l k hv h.pa n f i g,Kh d h.ma⟩
end
@[simp] noncomputable def kc:List T->M T
 |[.lst ts]=>.ok (.int ts.length)
 |[.tup ts]=>.ok (.int ts.length)
 |[.scr ns]=>.ok (.int ns.length)
 |[.str z]=>if z.length<=sizeLine then .ok (.int z.length) else .bad
 |_=>.bad
def Jl xs:M.NoE (kc xs):=λC n=>by unfold kc;split<;>first|(intro z;cases z;done)|(split<;>first|(intro z;cases z;done)|(split<;>intro z<;>cases z))
def ka:MC K (λg H Q=>∃x n,g=[x]/\Ng K x H n/\Q (.int n) H) kc:=⟨Jl,λF H i g Q s r q=>by
 cases r with
 |nil=>exact q.elim
 |cons h t=>
  cases t with
  |cons _ _=>cases h<;>exact q.elim
  |nil=>
   cases h with
   |lst h r=>exact⟨_,_,rfl,.inl ⟨_,kK.of (s _ _ h),rfl⟩,by rw[r.length];exact kV.now q s (.int _)⟩
   |tup h r=>exact⟨_,_,rfl,.inr ⟨_,lR.of (s _ _ h),rfl⟩,by rw[r.length];exact kV.now q s (.int _)⟩
   |scr h=>exact⟨_,_,rfl,.inl ⟨_,s.seq h,rfl⟩,by rw[ax];exact kV.now q s (.int _)⟩
   |str z=>
    have d:(if z.length<=sizeLine then M.ok (T.int z.length) else M.bad).res (kV K F H Q) (λ_ _=>False):=q;by_cases f:z.length<=sizeLine
    .rw[aR f]at d;exact⟨_,z.length,rfl,⟨f,rfl⟩,kV.now d s (.int _)⟩
    .rw[aS f]at d;exact d.elim
   |_=>exact q.elim⟩
@[simp] noncomputable def qo:List T->M T
 |[.int i]=>.ok (.int (if i<0 then -i else i))
 |_=>.bad
def Ik xs:M.NoE (qo xs):=λC n=>by unfold qo;split<;>first|(intro z;cases z;done)|(split<;>first|(intro z;cases z;done)|(split<;>intro z<;>cases z))
def nN:MC K (λd H Q=>∃i,d=[.int i]/\Q (.int (if i<0 then -i else i)) H) qo:=⟨Ik,λF H f d Q s r q=>by
 cases r with
 |nil=>exact q.elim
 |cons h t=>
  cases t with
  |cons _ _=>cases h<;>exact q.elim
  |nil=>
   cases h with
   |int i=>exact⟨i,rfl,kV.now q s (.int _)⟩
   |_=>exact q.elim⟩
@[simp] noncomputable def uc:List T->M T
 |[.int i,.int j]=>.ok (.int (if j>i then j else i))
 |_=>.bad
def DW xs:M.NoE (uc xs):=λC n=>by unfold uc;split<;>first|(intro z;cases z;done)|(split<;>first|(intro z;cases z;done)|(split<;>intro z<;>cases z))
def BW:MC K (λd H Q=>∃i j,d=[.int i,.int j]/\Q (.int (if j>i then j else i)) H) uc:=⟨DW,λF H f d Q s r q=>by
 unfold uc at q;split at q
 .exact⟨_,_,r.two,kV.now q s (.int _)⟩
 .exact q.elim⟩
@[simp] noncomputable def jX:List T->M T
 |[.lst ts]=>.ok (.tup ts)
 |[.tup ts]=>.ok (.tup ts)
 |[.scr ns]=>.ok (.tup (ns.map T.int))
 |_=>.bad
def Ar xs:M.NoE (jX xs):=λC n=>by unfold jX;split<;>first|(intro z;cases z;done)|(split<;>first|(intro z;cases z;done)|(split<;>intro z<;>cases z))
def jF:MC K (λg H Q=>∃p f,g=[.ref p]/\((kK K H p f/\∀l,H l=none->Q (.ref l) (jn H l (.tup f)))\/(lR K H p f/\Q (.ref p) H))) jX:=⟨Ar,λF H i g Q s r q=>by
 cases r with
 |nil=>exact q.elim
 |cons h t=>
  cases t with
  |cons _ _=>cases h<;>exact q.elim
  |nil=>
   cases h with
   |lst h r=>exact⟨_,_,rfl,.inl ⟨kK.of (s _ _ h),λl d=>q (.ref l) _ _ (.new s d) (.tup gJ (r.mono (Gr.new s d).ff))⟩⟩
   |scr h=>exact⟨_,_,rfl,.inl ⟨s.seq h,λl d=>q (.ref l) _ _ (.new s d) (.tup gJ (gN.of_ints _))⟩⟩
   |tup h r=>exact⟨_,_,rfl,.inr ⟨lR.of (s _ _ h),kV.now q s (.tup h r)⟩⟩
   |_=>exact q.elim⟩
def jf:List T->Option (LI)
 |[]=>some []
 |.int i::ts=>(jf ts).bind λr=>some (i::r)
 |_::_=>none
theorem kX:∀{ts} {ns},jf ts=some ns->ts=ns.map T.int
 |[],_,e=>by cases e;rfl
 |t::ts,ns,e=>by
  cases t with
  |int i=>
   cases q:jf ts with
   |none=>simp[jf,q]at e
   |some r=>simp[jf,q]at e;subst e;rw[kX q];rfl
  |_=>cases e
@[simp] theorem qP ns:jf (ns.map T.int)=some ns:=by
 induction ns with
 |nil=>rfl
 |cons n ns ih=>simp[jf,ih]
def oW:List T->Option (List Bool)
 |[]=>some []
 |.bl i::ts=>(oW ts).bind λr=>some (i::r)
 |_::_=>none
theorem vL:∀{ts} {ns},oW ts=some ns->ts=ns.map T.bl
 |[],_,e=>by cases e;rfl
 |t::ts,ns,e=>by
  cases t with
  |bl i=>
   cases q:oW ts with
   |none=>simp[oW,q]at e
   |some r=>simp[oW,q]at e;subst e;rw[vL q];rfl
  |_=>cases e
@[simp] theorem N4 ns:oW (ns.map T.bl)=some ns:=by
 induction ns with
 |nil=>rfl
 |cons n ns ih=>simp[oW,ih]
@[simp] noncomputable def G9:List T->M T
 |[.lst ts]=>match jf ts with
  |some ns=>.ok (.int ns.sum)
  |none=>.bad
 |_=>.bad
def IB xs:M.NoE (G9 xs):=λC n=>by unfold G9;split<;>first|(intro z;cases z;done)|(split<;>first|(intro z;cases z;done)|(split<;>intro z<;>cases z))
def MH:MC K (λg H Q=>∃(p:Addr) (d:LI),g=[.ref p]/\kK K H p (d.map V.int)/\Q (.int d.sum) H) G9:=⟨IB,λF H j g Q s r q=>by
 cases r with
 |nil=>exact q.elim
 |cons h t=>
  cases t with
  |cons _ _=>cases h<;>exact q.elim
  |nil=>
   cases h with
   |lst h r=>
    rename_i a g i;have f:(match jf i with|some d=>M.ok (T.int d.sum)|none=>M.bad).res (kV K F H Q) (λ_ _=>False):=q;cases e:jf i with
    |none=>rw[e]at f;exact f.elim
    |some d=>rw[e]at f;rw[kX e]at r;have:=r.ints;subst this;exact⟨a,d,rfl,kK.of (s _ _ h),kV.now f s (.int _)⟩
   |_=>exact q.elim⟩
@[simp] noncomputable def Cm:List T->M T
 |[.lst ts]=>match oW ts with
  |some ns=>.ok (.bl (ns.all id))
  |none=>.bad
 |_=>.bad
def IF xs:M.NoE (Cm xs):=λC n=>by unfold Cm;split<;>first|(intro z;cases z;done)|(split<;>first|(intro z;cases z;done)|(split<;>intro z<;>cases z))
def Al:MC K (λf H Q=>∃(p:Addr) (bs:List Bool),f=[.ref p]/\kK K H p (bs.map V.bl)/\Q (.bl (bs.all id)) H) Cm:=⟨IF,λF H i f Q s r q=>by
 cases r with
 |nil=>exact q.elim
 |cons h t=>
  cases t with
  |cons _ _=>cases h<;>exact q.elim
  |nil=>
   cases h with
   |lst h r=>
    rename_i a f g;have d:(match oW g with|some ns=>M.ok (T.bl (ns.all id))|none=>M.bad).res (kV K F H Q) (λ_ _=>False):=q;cases e:oW g with
    |none=>rw[e]at d;exact d.elim
    |some ns=>rw[e]at d;rw[vL e]at r;have:=r.bls;subst this;exact⟨a,ns,rfl,kK.of (s _ _ h),kV.now d s (.bl _)⟩
   |_=>exact q.elim⟩
@[simp] noncomputable def Nw:T->String
 |.non=> "NoneType"
 |.bl _=> "bool"
 |.int _=> "int"
 |.str _=> "str"
 |.tup _=> "tuple"
 |.lst _=> "list"
 |.scr _=> "script"
 |.obj _ _=> "object"
 |.emp=> "dict"
 |.dic _=> "table"
@[simp] noncomputable def Om(n:String)(x:T):M T:=match x with
 |.scr _=>.bad
 |.obj _ _=>.bad
 |.dic _=>.bad
 |x=>.ok (.bl (Nw x==n||(n == "int" && Nw x == "bool")))
def N1(r:kj K F v x)(s:gS F H)(f:∀j,x≠.scr j)(g:∀C fs,x≠.obj C fs)(d:∀ks,x≠.dic ks):nW K H v (.type (Nw x)):=by
 cases r with
 |non=>exact .non
 |bl b=>exact .bl b
 |int i=>exact .int i
 |str x=>exact .str x
 |tup h r=>exact .tup (s _ _ h)
 |lst h r=>exact .lst (s _ _ h)
 |scr h=>exact absurd rfl (f _)
 |obj h r=>exact absurd rfl (g _ _)
 |emp h=>exact .dK (s _ _ h)
 |dic h r=>exact absurd rfl (d _)
@[simp] noncomputable def zY(n:String)(fe:Pe->M T):Pe->M T:=λd=>(fe d).bind λx=>Om n x
theorem LA(D:∀t∈["NoneType", "bool", "int", "str", "tuple", "list", "dict"],W.kitOne K (.type t) (.type n)=some (t==n||(n == "int" && t == "bool")))(u:ME K E te fe) :
  ME K E (Jf (λw H Q=>∃x T t b,w=[x,.ty T]/\nW K H x t/\W.kitOne K t (.type T)=some b/\Q (.bl b) H) (rS te (rS (tC (.ty n)) DI))) (zY n fe):=λF H J I Q s V q=>by
 refine u.run s V q λx v B j l A g=>?_;have d:∀b,Om n x=.ok (.bl b)->(∀i,x≠.scr i)->(∀C fs,x≠.obj C fs)->(∀h,x≠.dic h)->b=(Nw x==n||(n == "int" && Nw x == "bool"))->∃f T t b,[v,L2.V.ty n]=[f,.ty T]/\nW K j f t/\W.kitOne K t (.type T)=some b/\Q (.bl b) j:=by
  intro b e r m k y;rw[e]at g;refine⟨v,n,_,b,rfl,N1 A l.fh r m k,?_,g _ B j l (.bl _)⟩;rw[y];refine D _ ?_;cases x with
  |scr i=>exact absurd rfl (r i)
  |obj C fs=>exact absurd rfl (m C fs)
  |dic h=>exact absurd rfl (k h)
  |_=>simp[Nw]
 cases x with
 |scr i=>exact g.elim
 |obj C fs=>exact g.elim
 |dic h=>exact g.elim
 |non=>exact d _ rfl (λ_ z=>nomatch z) (λ_ _ z=>nomatch z) (λ_ z=>nomatch z) rfl
 |bl _=>exact d _ rfl (λ_ z=>nomatch z) (λ_ _ z=>nomatch z) (λ_ z=>nomatch z) rfl
 |int _=>exact d _ rfl (λ_ z=>nomatch z) (λ_ _ z=>nomatch z) (λ_ z=>nomatch z) rfl
 |str _=>exact d _ rfl (λ_ z=>nomatch z) (λ_ _ z=>nomatch z) (λ_ z=>nomatch z) rfl
 |tup _=>exact d _ rfl (λ_ z=>nomatch z) (λ_ _ z=>nomatch z) (λ_ z=>nomatch z) rfl
 |lst _=>exact d _ rfl (λ_ z=>nomatch z) (λ_ _ z=>nomatch z) (λ_ z=>nomatch z) rfl
 |emp=>exact d _ rfl (λ_ z=>nomatch z) (λ_ _ z=>nomatch z) (λ_ z=>nomatch z) rfl
def Jc K:∀n∈["int", "bool", "str", "tuple", "list"],∀t∈["NoneType", "bool", "int", "str", "tuple", "list", "dict"],W.kitOne K (.type t) (.type n)=some (t==n||(n == "int" && t == "bool")):=by intro n f t d;simp only[aG,dY,or_false]at f d;rcases f with rfl|rfl|rfl|rfl|rfl<;>rcases d with rfl|rfl|rfl|rfl|rfl|rfl|rfl<;>rfl
def m6 n (d:n∈["int", "bool", "str", "tuple", "list"]) (g:X.mg "isinstance" = none) (k:X.mg x=none) (m:bootBuiltins x=some (.type n)) (r:Pm K E X e te fe) (v:X.K=K:=by rfl) (i:Gl X "isinstance" :=by rfl) (l:Gl X x:=by rfl)
  (f:x≠ "__name__" :=by decide) (h:(x==("__debug__" : Str))=false:=by decide)
  (s:starEach [e,.Name x p3] X.env=(false,eval e X.env)::starEach [.Name x p3] X.env:=by rfl) (q:starEach [.Name x p3] X.env=(false,eval (.Name x p3) X.env)::starEach [] X.env:=by rfl) (j:(backTo pos (starEach [.Name x p3] X.env)).any (·.1)=false:=by rfl) :
  Pm K E X (.Call (.Name "isinstance" p) [e,.Name x p3] [] pos) (Jf (λu H Q=>∃x T t b,u=[x,.ty T]/\nW K H x t/\W.kitOne K t (.type T)=some b/\Q (.bl b) H) (rS te (rS (tC (.ty n)) DI))) (zY n fe):=by
 subst v;exact⟨uE E9 i g KB (qw r.pe (qw (Ie l k m rfl f h) xR q) s) (by decide) (by decide) s j,LA (Jc X.K n d) r.me⟩
@[simp] noncomputable def kL:T->T->M T
 |.lst ts,.int i=>match oX ts i with
  |some t=>.ok t
  |none=>.bad
 |.tup ts,.int i=>match oX ts i with
  |some t=>.ok t
  |none=>.bad
 |.scr ns,.int i=>match oX ns i with
  |some t=>.ok (.int t)
  |none=>.bad
 |.str z,.int i=>if z.length<=sizeLine then (match oX z.cps.toList i with
  |some c=>.ok (.str ⟨#[c]⟩)
  |none=>.bad) else .bad
 |_,_=>.bad
def Bd(r:gN K F vs ts)(h:oX ts i=some t):∃v,oX vs i=some v/\kj K F v t:=by
 unfold oX at h ⊢;rw[r.length];cases e:xO ts.length i with
 |none=>rw[e]at h;cases h
 |some j=>rw[e]at h;exact r.get h
def qA(f:α->β) l i:oX (l.map f) i=(oX l i).map f:=by
 unfold oX;rw[ax];cases xO l.length i with
 |none=>rfl
 |some j=>simp
def LH x y:M.NoE (kL x y):=λC n=>by unfold kL;split<;>first|(intro z;cases z;done)|(split<;>first|(intro z;cases z;done)|(split<;>intro z<;>cases z))
def Oh:MR K (Qh K) kL:=⟨LH,λF H v w x y Q s d f q=>by
 unfold kL at q;split at q
 .rename_i l i;rw[f.int_inv];obtain⟨a,k,rfl,h,r⟩:=d.lst_inv;split at q
  .rename_i t e;obtain⟨v,g,j⟩:=Bd r e;exact .inl ⟨a,k,i,v,rfl,rfl,kK.of (s _ _ h),g,kV.now q s j⟩
  .exact q.elim
 .rename_i l i;rw[f.int_inv];obtain⟨a,k,rfl,h,r⟩:=d.tup_inv;split at q
  .rename_i t e;obtain⟨v,g,j⟩:=Bd r e;exact .inr (.inl ⟨a,k,i,v,rfl,rfl,lR.of (s _ _ h),g,kV.now q s j⟩)
  .exact q.elim
 .rename_i n i;rw[f.int_inv];cases d with
  |scr h=>
   split at q
   .rename_i t e;exact .inl ⟨_,_,i,.int t,rfl,rfl,s.seq h,by rw[qA,e];rfl,kV.now q s (.int _)⟩
   .exact q.elim
 .rename_i z i;rw[f.int_inv];cases d with
  |str z=>
   split at q
   .rename_i m;split at q
    .rename_i c e;exact .inr (.inr ⟨z,i,c,rfl,rfl,m,e,kV.now q s (.str _)⟩)
    .exact q.elim
   .exact q.elim
 .exact q.elim⟩
def Kg(f:Pm K E X a ta fa)(d:Pm K E X b tb fb)(hs:Bg b:=by intro _ _;rfl)(g:X.K=K:=by rfl):Pm K E X (.Subscript a b pos) (uM (Qh K) ta tb) (gI kL fa fb):=⟨NH (g▸Mj) f.pe d.pe hs,Bj Oh f.me d.me⟩
def Lj:Py K E X none A2 (λ_=>.ok none):=⟨Jg,λF H d f Q s V q=>q F H (.refl s)⟩
@[simp] noncomputable def iM(fe:Pe->M T):Pe->M (Option Int):=λd=>(fe d).bind λx=>match x with
 |.int i=>.ok (some i)
 |_=>.bad
def Mt(h:Pm K E X e te fe):Py K E X (some e) (EU te) (iM fe):=⟨Ba h.pe,λF H l m Q s V q=>by
 refine h.me.run s V q λx v j g f k d=>?_;cases k with
 |int i=>exact⟨i,rfl,d j g f⟩
 |_=>exact d.elim⟩
noncomputable def mO{f:Type}(d:List f)(g h:Option Int):List f:=(d.drop (HT.sIx d.length 0 g)).take (HT.sIx d.length d.length h-HT.sIx d.length 0 g)
def LQ xs lo hi:Ee xs lo hi=mO xs lo hi:=rfl
def gN.cut(r:gN K F vs ts) lo hi:gN K F (mO vs lo hi) (mO ts lo hi):=by unfold mO;rw[r.length];exact (r.drop _).take _
def DZ(f:α->β) l lo hi:mO (l.map f) lo hi=(mO l lo hi).map f:=by unfold mO;rw[ax,dZ,d6]
section
variable {lo hi:Option Expr}{tl th:TO}{fl fh:Pe->M (Option Int)}
def MO.run{k:Option Int->M α}{P:α->Prop}(h:MO K E t f)(s:gS F H)(v:lh K F σ ρ)(r:((f ρ).bind k).res P (kE E F H))
  (j:∀x i d,Gr F H i d->(k x).res P (kE E i d)->Q x d):t σ H Q:=
 h F H σ ρ Q s v ((M.res.unb r).mono (λx q i d g=>j x i d g (q.mono (λ_ z=>z) λ_ _ z=>z.go g)) λ_ _ z=>z)
@[simp] noncomputable def jU(fe:Pe->M T)(fl fh:Pe->M (Option Int)):Pe->M T:=λd=>(fe d).bind λx=>(fl d).bind λl=>(fh d).bind λh=>match x with
 |.tup ts=>.ok (.tup (mO ts l h))
 |.lst ts=>.ok (.lst (mO ts l h))
 |.scr ns=>.ok (.lst ((mO ns l h).map T.int))
 |_=>.bad
def Gq(z:Pm K E X e te fe)(w:Py K E X lo tl fl)(B:Py K E X hi th fh)(I:X.K=K:=by rfl):Pm K E X (.Subscript e (.Slice lo hi none p2) pos) (Qq (λx lo hi H Q=>NS K x lo hi H Q\/(Ov K x lo hi H Q\/NO K x lo hi H Q)) te tl th) (jU fe fl fh):=by
 subst I;refine⟨GO (JO.or (Mi.or Jx)) z.pe w.po B.po,λF H σ U Q s V q=>?_⟩;refine z.me.run s V q λx v Z P m J N=>?_;refine w.mo.run m.fh (V.mono m.ff) N λl Y R j D=>?_;refine B.mo.run j.fh ((V.mono m.ff).mono j.ff) D λu A y d k=>?_;have g:=(m.trans j).trans d;have C:=J.mono (j.ff.trans d.ff);cases C with
 |lst h r=>exact .inl ⟨_,_,rfl,kK.of (d.fh _ _ h),λp i=>k (.ref p) _ _ (g.trans (.new d.fh i)) (.lst gJ ((r.cut l u).mono (Gr.new d.fh i).ff))⟩
 |scr h=>exact .inl ⟨_,_,rfl,d.fh.seq h,λp i=>k (.ref p) _ _ (g.trans (.new d.fh i)) (.lst gJ (by rw[LQ,DZ];exact gN.of_ints _))⟩
 |tup h r=>
  rename_i a S f;have n:(M.ok (T.tup (mO f l u))).res (kV X.K F H Q) (kE E A y):=k;by_cases hw:HT.sIx f.length 0 l=0/\HT.sIx f.length f.length u=f.length
  .have L:mO f l u=f:=by unfold mO;rw[hw.1,hw.2];simp
   rw[L]at n;exact .inr (.inr ⟨_,_,rfl,lR.of (d.fh _ _ h),by rw[r.length];exact hw,n _ A y g (.tup h r)⟩)
  .exact .inr (.inl ⟨_,_,rfl,lR.of (d.fh _ _ h),by rw[r.length];exact hw,λp i=>n (.ref p) _ _ (g.trans (.new d.fh i)) (.tup gJ ((r.cut l u).mono (Gr.new d.fh i).ff))⟩)
 |_=>exact k.elim
end
section
variable {x:Str}{k:Nat}{Fn:List T->M T}{Ff:List T->M (List T)}
def jT(h:kq X.prog X.w X.K X.mg X.base x j (B9 K Fn))(hr:jO k X.A)(g:zG K E X (e::es) tr fr)(l:j<=k:=by decide)(m:Gl X x:=by rfl)
  (d:(x==("__debug__" : Str))=false:=by decide) (i:starEach (e::es) X.env=(false,eval e X.env)::starEach es X.env:=by rfl) (f:(backTo pos (starEach es X.env)).any (·.1)=false:=by rfl) :
  Pm K E X (.Call (.Name x p) (e::es) [] pos) (wy (B9 K Fn) [] E0 tr) (gP fr Fn):=⟨zk (h.mono l) hr g.pa m d i f,E6 g.ma⟩
def pU(h:kq X.prog X.w X.K X.mg X.base x j (Kb K Ff))(hr:jO k X.A)(g:zG K E X (e::es) tr fr)(l:j<=k:=by decide)(m:Gl X x:=by rfl)
  (d:(x==("__debug__" : Str))=false:=by decide) (i:starEach (e::es) X.env=(false,eval e X.env)::starEach es X.env:=by rfl) (f:(backTo pos (starEach es X.env)).any (·.1)=false:=by rfl) :
  DT K E X (.Call (.Name x p) (e::es) [] pos) (wy (Kb K Ff) [] E0 tr) (il fr Ff):=⟨zk (h.mono l) hr g.pa m d i f,FC g.ma⟩
end
def N7(K:W.Frag)(t:TE):TI:=λd H R=>Fw K t d H R\/Ln K t d H R
@[simp] noncomputable def iR(fa:Pe->M T):Pe->M (List T):=λd=>(fa d).bind λx=>match x with
 |.lst ts=>.ok ts
 |.scr ns=>.ok (ns.map T.int)
 |.tup ts=>.ok ts
 |_=>.bad
def MM(g:ME K E ta fa):MI K E (N7 K ta) (iR fa):=λF H f d R s V q=>by
 unfold iR at q;cases e:fa d with
 |bad=>rw[e]at q;exact q.elim
 |er C n=>rw[e]at q;exact .inl (wN g F H f d R s V (by unfold Ph;rw[e];exact q))
 |ok x=>
  rw[e]at q;cases x with
  |lst ts=>exact .inl (wN g F H f d R s V (by unfold Ph;rw[e];exact q))
  |scr ns=>exact .inl (wN g F H f d R s V (by unfold Ph;rw[e];exact q))
  |tup ts=>exact .inr (Mn g F H f d R s V (by unfold Qz;rw[e];exact q))
  |_=>exact q.elim
def ic(d:Pm K E X a ta fa)(i:X.K=K:=by rfl):JN K E X tg a (N7 K ta) (iR fa):=by
 subst i;refine⟨λg s f H R I h=>?_,MM d.me⟩;rcases h with h|h
 .exact IZ d.pe g s f H R I h
 .exact Ls d.pe g s f H R I h
def Ke(K:W.Frag)(ta:TA):TI:=λd H R=>∃g f,LN K g f ta d H R
@[simp] noncomputable def seqT:T->M (List T)
 |.lst ts=>.ok ts
 |.scr ns=>.ok (ns.map T.int)
 |.tup ts=>.ok ts
 |_=>.bad
@[simp] noncomputable def t9(fa:Pe->M (List T)):Pe->M (List T):=λg=>(fa g).bind λf=>match f with
 |[x,y]=>(seqT x).bind λd=>(seqT y).bind λh=>.ok (xI d h)
 |_=>.bad
noncomputable def BU:T->Bool
 |.tup _=>true
 |_=>false
def zW x:seqT x=seqB (BU x) x:=by cases x<;>rfl
def JU(g:MA K E tr fr):MI K E (Ke K tr) (t9 fr):=λF H f d R s V q=>by
 unfold t9 at q;cases e:fr d with
 |bad=>rw[e]at q;exact q.elim
 |er C n=>rw[e]at q;exact⟨true,true,FS g F H f d R s V (by unfold Lk;rw[e];exact q)⟩
 |ok xs=>
  rw[e]at q;match xs,e,q with
  |[],_,q=>exact q.elim
  |[_],_,q=>exact q.elim
  |[x,y],e,q=>refine⟨BU x,BU y,FS g F H f d R s V ?_⟩;unfold Lk;rw[e];have h:((seqT x).bind λi=>(seqT y).bind λj=>M.ok (xI i j)).res (kI K F H R) (kE E F H):=q;rw[zW x,zW y]at h;exact h
  |_::_::_::_,_,q=>exact q.elim
def sJ{x1}(i:X.mg "zip" = none)(f:zG K E X [a,b] tr fr)(l:X.K=K:=by rfl)(k:Gl X "zip" :=by rfl)(hs:starEach [a,b] X.env=[(false,eval a X.env),(false,eval b X.env)]:=by rfl)
  (d:starEach [b] X.env=[(false,eval b X.env)]:=by rfl):JN K E X (.Tuple elts x1 tpos) (.Call (.Name "zip" p) [a,b] [] pos) (Ke K tr) (t9 fr):=by
 subst l;refine⟨λj s g H R I h=>?_,JU f.ma⟩;obtain⟨n,m,h⟩:=h;exact K8 k i f.pa hs d j s g H R I h
def sM(g:X.mg "range" = none)(d:zG K E X [a] tr fr)(f:Gl X "range" :=by rfl)(hs:starEach [a] X.env=[(false,eval a X.env)]:=by rfl):Ah K E X tg (.Call (.Name "range" p) [a] [] pos) (F8 tr) (rO fr):=⟨Cq f g d.pa hs,J3 d.ma⟩
def Iw(g:X.mg "range" = none)(f:zG K E X [a,b] tr fr)(h:Gl X "range" :=by rfl)(hs:starEach [a,b] X.env=[(false,eval a X.env),(false,eval b X.env)]:=by rfl)(d:starEach [b] X.env=[(false,eval b X.env)]:=by rfl) :
  Ah K E X tg (.Call (.Name "range" p) [a,b] [] pos) (FV tr) (EC fr):=⟨CD h g f.pa hs d,Jt f.ma⟩
def Ah.pim(h:Ah K E X tg it w f):JN K E X tg it w f:=⟨h.pi,h.mi.mi⟩
section
variable {x:Str}{g:TG}{gs:Hs}{m:T->Pe->Option Pe}{ms:List T->Pe->Option Pe}{mo:T->En->Option En}{mos:List T->En->Option En}{n:Nat}
def iI i (h:X.N.Nodup) (d:DJ X.env.scope x:=by first|exact Or.inl rfl|exact Or.inr rfl) (j:X.N[i]? = some x:=by rfl) (f:X.fn x=true\/X.env.scope.names.lookup x=some .local:=by first|exact .inl rfl|exact .inr rfl|assumption):Nz K X (.Name x pos) (j2 i) (j6 i):=⟨B2 h j d f,Je⟩
def jQ i (h:X.N.Nodup) (d:DJ X.env.scope x:=by first|exact Or.inl rfl|exact Or.inr rfl) (j:X.N[i]? = some x:=by rfl) (f:X.fn x=true\/X.env.scope.names.lookup x=some .local:=by first|exact .inl rfl|exact .inr rfl|assumption):NG K X (.Name x pos) (j2 i) (nj i):=⟨B2 h j d f,Hj⟩
def kU:Iq K X [] Dp nY:=⟨A8,HA⟩
def pZ:HD K X [] Dp nO:=⟨A8,EX⟩
def ib(f:Nz K X e g m)(d:Iq K X es gs ms)(hs:(assignEach (e::es) X.env).map (·.2)=assign e X.env::(assignEach es X.env).map (·.2):=by rfl):Iq K X (e::es) (uo g gs) (iU m ms):=⟨xW f.pg d.pg hs,EL f.mg d.mg⟩
def ki(f:NG K X e g mo)(d:HD K X es gs mos)(hs:(assignEach (e::es) X.env).map (·.2)=assign e X.env::(assignEach es X.env).map (·.2):=by rfl):HD K X (e::es) (uo g gs) (jm mo mos):=⟨xW f.pg d.pg hs,CI f.mg d.mg⟩
def nh n (f:X.calm=true) (h:Iq K X es gs ms) (j:X.K=K:=by rfl) (i:(assignEach es X.env).length=n:=by rfl) (d:(assignEach es X.env).findIdx? (·.1)=none:=by rfl):Nz K X (.Tuple es k pos) (Da K n gs) (nH n ms):=by subst j;exact⟨Fm f h.pg i d,Nl h.mg⟩
def xq n (f:X.calm=true) (h:HD K X es gs mos) (j:X.K=K:=by rfl) (i:(assignEach es X.env).length=n:=by rfl) (d:(assignEach es X.env).findIdx? (·.1)=none:=by rfl):NG K X (.Tuple es k pos) (Da K n gs) (nQ n mos):=by subst j;exact⟨Fm f h.pg i d,IA h.mg⟩
end
section
variable {elt iter:Expr}{ifs:List Expr}{scope:Scope}{N:List Str}{ix:List (Option Nat)}{wi:TI}{g:TG}{tt:TT}{fi:Pe->M (List T)}{m:T->Pe->Option Pe}{ft:Pe->M Bool}
def g9:F6 K E X [] L1 (λ_=>.ok true):=⟨JG,Nt⟩
def yc(h:zm K E X c t f):F6 K E X [c] t f:=⟨IQ h.pt,h.mt⟩
@[simp] noncomputable def kP(ix:List (Option Nat))(fi:Pe->M (List T))(m:T->Pe->Option Pe)(ft:Pe->M Bool)(fe:Pe->M T):Pe->M (List T):=λd=>(fi d).bind λgF=>(if gF.length<sizeLine then nZ (qd m ft fe (lZ ix d)) gF else .bad).noEr
def OS(l:X.calm=true)(k:JN K E X tg iter wi fi)(L:yF X scope N ix)(j:mV ix g)
  (f:∀C d H i h,Nz K (lH X N scope C d H i h) tg g m/\F6 K Hu (lH X N scope C d H i h) ifs tt ft/\Pm K Hu (lH X N scope C d H i h) elt te fe)
  (hs:∀x,foldedSetIterable iter X.env x=pure x:=by intro _;rfl):DT K E X (.ListComp elt [⟨tg,iter,ifs,0⟩] scope pos) (Ec ix wi g tt te) (kP ix fi m ft fe):=by
 obtain⟨r,q,n⟩:=f 0 X.s₀ X.H₀ [] [];exact⟨Ou l k.pi L j (λC d H i h=>⟨(f C d H i h).1.pg,(f C d H i h).2.1.pf,(f C d H i h).2.2.pe⟩) hs,Kt k.mi r.mg q.mt n.me⟩
end
end
end L3
namespace L3
open PySem L2 PySem.Spec PyProof.Rows
section
variable {K:W.Frag}{E:XK}{X:Cx}{a b c e o tg it:Expr}{es:List Expr}{ta tb tc te to:TE}{fa fb fc fe fo:Pe->M T}{tr:TA}{fr:Pe->M (List T)}{pos pos' p p2 apos:Pos}{st:Stmt}{jD:List Stmt}{t u:TS}{g g':En->O}{ff:Pe->M (List T)}{x:Str}
def iH:qV K E X [] Fx ji:=⟨Ji,Jv⟩
def gH(h:wG K E X st t g):qV K E X [st] t g:=⟨HK h.ps,h.ms⟩
def gz(h:wG K E X st t g)(h':qV K E X jD u g'):qV K E X (st::jD) (L5 t u) (gR g g'):=⟨GA h.ps h'.ps,Mw h.ms h'.ms⟩
def xy:wG K E X st zR (λ_=>.bad):=⟨El,EA⟩
def jZ(h:Pm K E X e te fe):wG K E X (.Return (some e) pos) (AJ te) (iZ fe):=⟨zM h.pe,KW h.me⟩
def mF(h:DT K E X e te ff):wG K E X (.Return (some e) pos) (AJ te) (nV ff):=⟨zM h.pe,HE h.mf⟩
def tO i (h:PE X (.Name x p) (qX i)):wG K E X (.Return (some (.Name x p)) pos) (AJ (qX i)) (oq i):=⟨zM h,Dn⟩
def jB{tc:TT}{fc:Pe->M Bool}(d:zm K E X c tc fc)(h:qV K E X A t g)(h':qV K E X B u g'):wG K E X (.If c A B pos) (KI tc t u) (oT fc g g'):=⟨NP d.pt h.ps h'.ps,Oc d.mt h.ms h'.ms⟩
def ES{tc:TT}{fc:Pe->M Bool}(d:En->Nat)(i:PassesOwn (model X.prog X.w) X.A X.env X.xe)(f:zm K E X c tc fc)(h:qV K E X A t g):wG K E X (.While c A [] pos) (AN tc t) (λρ=>lA fc g (d ρ) ρ):=⟨Fc i f.pt h.ps,FM d f.mt h.ms⟩
section
variable {w:TI}{fi:Pe->M (List T)}{gt:TG}{m:T->En->Option En}{A:List Stmt}
def ll(j:PassesOwn (model X.prog X.w) X.A X.env X.xe)(i:X.calm=true)(h:JN K E X tg it w fi)(f:NG K X tg gt m)(d:qV K E X A t g)(hs:∀x,foldedSetIterable it X.env x=pure x:=by intro _;rfl):wG K E X (.For tg it A [] pos) (Gj w gt t) (pV fi m g):=⟨FF j i h.pi f.pg d.ps hs,Mr h.mi f.mg d.ms⟩
def uJ(j:PassesOwn (model X.prog X.w) X.A X.env X.xe)(i:X.calm=true)(h:Ah K E X tg it w fi)(f:NG K X tg gt m)(d:qV K E X A t g)(hs:∀x,foldedSetIterable it X.env x=pure x:=by intro _;rfl):wG K E X (.For tg it A [] pos) (Gj w gt t) (tm fi m g):=⟨FF j i h.pi f.pg d.ps hs,IS h.mi f.mg d.ms⟩
end
def LD i (A:X.N.Nodup) (q:DJ X.env.scope x)
  (s:X.calm=true) (n:JN K E X tg iter wi fi) (L:yF X scope N ix) (l:mV ix gt)
  (f:∀C d H j h,Nz K (lH X N scope C d H j h) tg gt m/\F6 K Hu (lH X N scope C d H j h) ifs tt ft/\Pm K Hu (lH X N scope C d H j h) elt te fe)
  (v:MF K E (Ec ix wi gt tt te) (kP ix fi m ft fe)->MS K E (oM (Ec ix wi gt tt te) (j2 i)) gm)
  (z:X.N[i]? = some x:=by rfl) (r:X.fn x=true\/X.env.scope.names.lookup x=some .local:=by first|exact .inl rfl|exact .inr rfl)
  (k:swapsWith (.ListComp elt [⟨tg,iter,ifs,0⟩] scope pos) (some (.Name x py)) spos.line X.env=pure true:=by rfl)
  (hs:∀x,foldedSetIterable iter X.env x=pure x:=by intro _;rfl):wG K E X (.Assign [.Name x py] (.ListComp elt [⟨tg,iter,ifs,0⟩] scope pos) spos) (oM (Ec ix wi gt tt te) (j2 i)) gm:=by
 obtain⟨y,w,B⟩:=f 0 X.s₀ X.H₀ [] [];exact⟨GZ A z q s n.pi L l (λC d H j h=>⟨(f C d H j h).1.pg,(f C d H j h).2.1.pf,(f C d H j h).2.2.pe⟩) r k hs,v (Kt n.mi y.mg w.mt B.me)⟩
def iy i (j:X.N.Nodup) (h:Pm K E X e te fe) (d:DJ X.env.scope x:=by first|exact Or.inl rfl|exact Or.inr rfl) (k:X.N[i]? = some x:=by rfl) (hs:swapsWith e (some (.Name x pos')) pos.line X.env=pure false:=by rfl) (f:X.fn x=true\/X.env.scope.names.lookup x=some .local:=by first|exact .inl rfl|exact .inr rfl|assumption) :
  wG K E X (.Assign [.Name x pos'] e pos) (oM te (j2 i)) (setO i (jx fe)):=⟨AD j k d h.pe hs f,Bh h.me⟩
def yt i (j:X.N.Nodup) (h:Pm K E X e te fe) (d:DJ X.env.scope x:=by first|exact Or.inl rfl|exact Or.inr rfl) (k:X.N[i]? = some x:=by rfl) (hs:swapsWith e (some (.Name x pos')) pos.line X.env=pure false:=by rfl) (f:X.fn x=true\/X.env.scope.names.lookup x=some .local:=by first|exact .inl rfl|exact .inr rfl|assumption) :
  wG K E X (.Assign [.Name x pos'] e pos) (oM te (j2 i)) (setO i (vX fe)):=⟨AD j k d h.pe hs f,ID h.me⟩
def yP i (j:X.N.Nodup) (h:DT K E X e te ff) (d:DJ X.env.scope x:=by first|exact Or.inl rfl|exact Or.inr rfl) (k:X.N[i]? = some x:=by rfl) (hs:swapsWith e (some (.Name x pos')) pos.line X.env=pure false:=by rfl) (f:X.fn x=true\/X.env.scope.names.lookup x=some .local:=by first|exact .inl rfl|exact .inr rfl|assumption) :
  wG K E X (.Assign [.Name x pos'] e pos) (oM te (j2 i)) (wY i (vf ff)):=⟨AD j k d h.pe hs f,Ip h.mf⟩
def n8(h:MF K E te ff):MS K E (oM te (j2 i)) (setO i (jx λρ=>(ff ρ).bind λts=>.ok (.lst ts))):=Bh h.me
@[simp] noncomputable def Ii(i j:Nat)(fr:Pe->M (List T)):En->O:=λd=>.of (fr (mU d)) λf=>match f with
 |[x,y]=>.nx ((d.set i (some (.p x))).set j (some (.p y)))
 |_=>.bad
def K9(h:MA K E tr fr):MS K E (Nm i j tr) (Ii i j fr):=λw B F H v m D r q=>by
 refine h F H v (mU m) _ r.gr.fh r.vars ((O.res_of q).mono (λy z A k l f d=>?_) λC n z=>z.go r.gr);have s:=r.grow f;cases d with
 |nil=>exact z.elim
 |cons h1 d=>
  cases d with
  |nil=>exact z.elim
  |cons h2 d=>
   cases d with
   |nil=>exact⟨_,_,rfl,z k l _ f.ff ((s.setP h1).setP h2)⟩
   |cons h3 d=>exact z.elim
def IG{kt k2 pt2}(m:X.calm=true)(n:X.N.Nodup)(q:X.N[i]? = some x)(k:X.N[j]? = some y)(d:i≠j)
  (h:X.env.scope.names.lookup x=some .local) (l:X.env.scope.names.lookup y=some .local) (f:zG K E X [a,b] tr fr)
  (hw:swappedStores [.Tuple [.Name x px,.Name y py] kt pt] (.Tuple [a,b] k2 pt2) X.env=pure (some [x,y]))
  (hs:swapsWithSole [.Tuple [.Name x px,.Name y py] kt pt] (.Tuple [a,b] k2 pt2) pos.line X.env=pure false:=by rfl) :
  wG K E X (.Assign [.Tuple [.Name x px,.Name y py] kt pt] (.Tuple [a,b] k2 pt2) pos) (Nm i j tr) (Ii i j fr):=⟨M4 m n q k d h l f.pa hw hs,K9 f.ma⟩
def Hg(h:H l=some (.lst xs)):Pa K "list" (.ref l) H:=.inl ⟨rfl,_,kK.of h⟩
def qp i (hv:PE X (.Name x p) (qX i)) (m:Pm K E X e te fe) (hs:starEach [e] X.env=(false,eval e X.env)::starEach [] X.env:=by rfl) (n:X.K=K:=by rfl)
  (f:attributeBase (.Name x p) "append" X.env (eval (.Name x p) X.env)=eval (.Name x p) X.env:=by rfl)
  (j:((backTo pos (starEach [e] X.env)).all (λx=>!x.1)&&(backToKw pos (keywordEach [] X.env)).all (λx=>x.1.isSome)&&decide (([e]:List Expr).length+([]:List Keyword).length+(if ([]:List Keyword).isEmpty then 0 else 1)<30))=true:=by rfl)
  (d:(apos.endLine==pos.line)=true:=by rfl) (hplain:(backTo pos (starEach [] X.env)).any (·.1)=false:=by rfl) (k:swapsWith (.Call (.Attribute (.Name x p) "append" apos) [e] [] pos) none pos'.line X.env=pure false:=by rfl) :
  wG K E X (.Expr (.Call (.Attribute (.Name x p) "append" apos) [e] [] pos) pos') (uk (IE K i te)) (nA i (jx fe)):=by
 subst n;exact⟨wZ (J6 PySem.F.plainAttrs_list PySem.F.slot_list_append PySem.F.type_list_append wq hv (qw m.pe xR hs) f j d hs hplain) k,HI (λl q H h=>Hg h) m.me⟩
def Fp i (hv:PE X (.Name x p) (qX i)) (m:Pm K E X e te fe) (hs:starEach [e] X.env=(false,eval e X.env)::starEach [] X.env:=by rfl) (n:X.K=K:=by rfl)
  (f:attributeBase (.Name x p) "append" X.env (eval (.Name x p) X.env)=eval (.Name x p) X.env:=by rfl)
  (j:((backTo pos (starEach [e] X.env)).all (λx=>!x.1)&&(backToKw pos (keywordEach [] X.env)).all (λx=>x.1.isSome)&&decide (([e]:List Expr).length+([]:List Keyword).length+(if ([]:List Keyword).isEmpty then 0 else 1)<30))=true:=by rfl)
  (d:(apos.endLine==pos.line)=true:=by rfl) (hplain:(backTo pos (starEach [] X.env)).any (·.1)=false:=by rfl) (k:swapsWith (.Call (.Attribute (.Name x p) "append" apos) [e] [] pos) none pos'.line X.env=pure false:=by rfl) :
  wG K E X (.Expr (.Call (.Attribute (.Name x p) "append" apos) [e] [] pos) pos') (uk (IE K i te)) (nA i (vX fe)):=by
 subst n;exact⟨wZ (J6 PySem.F.plainAttrs_list PySem.F.slot_list_append PySem.F.type_list_append wq hv (qw m.pe xR hs) f j d hs hplain) k,IU (λl q H h=>Hg h) m.me⟩
def HV i (hv:PE X (.Name x p) (qX i)) (d:Pm K E X b tb fb) (h:Pm K E X e te fe)
  (j:∀v,assign (.Subscript (.Name x p) b p2) X.env v=(do
   let ov <-holding [v] (eval (.Name x p) X.env)
   let iv <-holding [v,ov] (eval b X.env)
   standAt p2
   holding [v,ov,iv] (setItem ov iv v)
   release [v,ov,iv] []):=by intro _;rfl)
  (hs:swapsWithSole [.Subscript (.Name x p) b p2] e pos.line X.env=pure false:=by rfl) (hw:swappedStores [.Subscript (.Name x p) b p2] e X.env=pure none:=by rfl)
  (f:(assignEach [.Subscript (.Name x p) b p2] X.env).map (·.2)=[assign (.Subscript (.Name x p) b p2) X.env]:=by rfl) :
  wG K E X (.Assign [.Subscript (.Name x p) b p2] e pos) (oM te (Kz (qX i) tb BX)) (Dx i (vX fb) (vX fe)):=⟨KN h.pe (L9 hv d.pe set_list j) hs hw f,Nc h.me d.me⟩
def Eu(h:Pm K E X e te fe)(hs:swapsWith e none pos.line X.env=pure false:=by rfl):wG K E X (.Expr e pos) (uk te) (wg (jx fe)):=⟨wZ h.pe hs,Ey h.me⟩
end
section
variable {P:Program}{w:World}{K:W.Frag}{mg:Str->Option Value}{base:Heap}{x:Str}{st:Stmt}{N ps:List Str}{k:Nat}{g:En->O}
def P7(D:gG K mg x st)(S:kn N ps (gO st))
  (i:∀(kV c l:Vq) (d:Option Addr) (b e:Vq) (us:List Vq),us.length=ps.length->bindArgs (W.fnOf x x (kM st) (i9 st) (gO st) .none kV c l d b e) ⟨us,[]⟩=pure (ps.zip us))
  (m:∀(f:Addr) (b:Vq) (A:Around) (a:List Env) (s:Sq) (H:Hp) (E:XK),jO k (A.deeper (envOfC x (gO st) s.heap.objs.size f b))->∃t,qV K E (sh Ab P w K mg base N x (gO st) f b A a s H E).nox (i9 st) t g) :
  kq P w K mg base x (k+1) (B9 K (nr ps.length N.length g)):=
 wU D S i (λj H Q E h=>FP h) λf b A a s H j Q E hr h=>let ⟨t,hp⟩:=m f b A a s H E hr;⟨t,hp.ps,BZ hp.ms h⟩
def Qi(D:gG K mg x st)(S:kn N ps (gO st))
  (i:∀(kV c l:Vq) (d:Option Addr) (b e:Vq) (us:List Vq),us.length=ps.length->bindArgs (W.fnOf x x (kM st) (i9 st) (gO st) .none kV c l d b e) ⟨us,[]⟩=pure (ps.zip us))
  (m:∀(f:Addr) (b:Vq) (A:Around) (a:List Env) (s:Sq) (H:Hp) (E:XK),jO k (A.deeper (envOfC x (gO st) s.heap.objs.size f b))->∃t,qV K E (sh Ab P w K mg base N x (gO st) f b A a s H E).nox (i9 st) t g) :
  kq P w K mg base x (k+1) (Kb K (zH ps.length N.length g)):=
 wU D S i (λj H Q E h=>JT h) λf b A a s H j Q E hr h=>let ⟨t,hp⟩:=m f b A a s H E hr;⟨t,hp.ps,G4 hp.ms h⟩
end
end L3
namespace L3
open PySem L2 PySem.Spec PyProof.Rows
section
variable {K:W.Frag}{E:XK}{X:Cx}{a b c e o tg it:Expr}{es:List Expr}{ta tb tc te to:TE}{fa fb fc fe fo:Pe->M T}{tr:TA}{fr:Pe->M (List T)}{pos p p2 apos:Pos}
@[simp] noncomputable def jb(f:Pe->M (List T)):Pe->M T:=λg=>(f g).bind λd=>.ok (.lst d)
def iC(f:X.K=K:=by rfl):kD X (.builtin "len") (λd H Q=>∃x n,d=[x]/\Ng K x H n/\Q (.int n) H):=f▸Gx
def Do(g:X.calm=true)(h:X.K=K:=by rfl):kD X (.builtin "sum") (λf H Q=>∃(p:Addr) (d:LI),f=[.ref p]/\kK K H p (d.map V.int)/\Q (.int d.sum) H):=h▸GJ g
def qZ(f:X.calm=true)(g:X.K=K:=by rfl):kD X (.builtin "all") (λd H Q=>∃(p:Addr) (bs:List Bool),d=[.ref p]/\kK K H p (bs.map V.bl)/\Q (.bl (bs.all id)) H):=g▸GY f
def vE(f:X.calm=true)(g:X.K=K:=by rfl):kD X (.builtin "any") (λd H Q=>∃p vs bs,d=[.ref p]/\(kK K H p vs\/lR K H p vs)/\ly vs=some bs/\Q (.bl (bs.any id)) H):=g▸Cw f
def iS(g:X.K=K:=by rfl):kD X (.type "tuple") (λf H Q=>∃p d,f=[.ref p]/\((kK K H p d/\∀l,H l=none->Q (.ref l) (jn H l (.tup d)))\/(lR K H p d/\Q (.ref p) H))):=g▸uR
def Ja:T->Option Bool
 |.bl b=>some b
 |.int i=>some (i != 0)
 |_=>none
def oY:List T->Option (List Bool)
 |[]=>some []
 |v::vs=>(Ja v).bind λb=>(oY vs).bind λr=>some (b::r)
theorem xl:∀{vs} {ts},gN K F vs ts->ly vs=oY ts
 |_,_,.nil=>rfl
 |v::vs,t::ts,.cons h r=>by
  have e:yi v=Ja t:=by cases h<;>rfl
  rw[ly,oY,xl r,e]
@[simp] theorem zQ(d:LI):oY (d.map T.int)=some (d.map λn=>n != 0):=by
 induction d with
 |nil=>rfl
 |cons n d ih=>simp[oY,Ja,ih]
@[simp] theorem NA ns:oY (ns.map T.bl)=some ns:=by
 induction ns with
 |nil=>rfl
 |cons n ns ih=>simp[oY,Ja,ih]
@[simp] noncomputable def qx(ts:List T):M T:=match oY ts with
 |some bs=>.ok (.bl (bs.any id))
 |none=>.bad
@[simp] noncomputable def xf:List T->M T
 |[.lst ts]=>qx ts
 |[.tup ts]=>qx ts
 |_=>.bad
def GH ts:M.NoE (qx ts):=λC n=>by unfold qx;split<;>intro z<;>cases z
def Ij xs:M.NoE (xf xs):=λC n=>by unfold xf;split<;>first|exact GH _ C n|(intro z;cases z)
def G8:MC K (λf H Q=>∃p vs bs,f=[.ref p]/\(kK K H p vs\/lR K H p vs)/\ly vs=some bs/\Q (.bl (bs.any id)) H) xf:=⟨Ij,λF H vs f Q s r q=>by
 cases r with
 |nil=>exact q.elim
 |cons h t=>
  cases t with
  |cons _ _=>cases h<;>exact q.elim
  |nil=>
   cases h with
   |lst h r=>
    rename_i a f g;have d:(qx g).res (kV K F H Q) (λ_ _=>False):=q;unfold qx at d;cases e:oY g with
    |none=>rw[e]at d;exact d.elim
    |some bs=>rw[e]at d;exact⟨a,f,bs,rfl,.inl (kK.of (s _ _ h)),by rw[xl r];exact e,kV.now d s (.bl _)⟩
   |tup h r=>
    rename_i a f g;have d:(qx g).res (kV K F H Q) (λ_ _=>False):=q;unfold qx at d;cases e:oY g with
    |none=>rw[e]at d;exact d.elim
    |some bs=>rw[e]at d;exact⟨a,f,bs,rfl,.inr (lR.of (s _ _ h)),by rw[xl r];exact e,kV.now d s (.bl _)⟩
   |_=>exact q.elim⟩
noncomputable def zr:T->T->M T
 |.tup a,.int k=>if zb k=true/\a.length*k.toNat<=sizeLine then .ok (.tup (List.replicate k.toNat a).flatten) else .bad
 |_,_=>.bad
def Ej x y:M.NoE (zr x y):=λC n=>by unfold zr;split<;>first|(split<;>intro z<;>cases z)|(intro z;cases z)
def Io:MR K Fj zr:=⟨Ej,λF H v w x y Q s j m q=>by
 cases j with
 |tup h r=>
  cases m with
  |int k=>
   rename_i a l g;have d:(if zb k=true/\g.length*k.toNat<=sizeLine then M.ok (T.tup (List.replicate k.toNat g).flatten) else M.bad).res (kV K F H Q) (λ_ _=>False):=q;by_cases f:zb k=true/\g.length*k.toNat<=sizeLine
   .rw[aR f]at d;refine⟨a,k,l,rfl,rfl,s _ _ h,by have:=lq f.1;rw[NR]at this;rw[Pg];omega,by have:=lq f.1;rw[NR]at this;rw[Pg];omega,by rw[r.length];exact f.2,λz=>?_,λz p i=>?_⟩
    .have:(List.replicate k.toNat g).flatten=g:=by
      rcases z with z|z
      .subst z;cases r;simp
      .subst z;simp
     rw[this]at d;exact kV.now d s (.tup h r)
    .exact d (.ref p) _ _ (.new s i) (.tup gJ ((r.rep k.toNat).mono (Gr.new s i).ff))
   .rw[aS f]at d;exact d.elim
  |_=>exact q.elim
 |_=>exact q.elim⟩
@[simp] noncomputable def Gm(fa fb:Pe->M T):Pe->M T:=gI zr fa fb
def Jy(f:Pm K E X a ta fa)(d:Pm K E X b tb fb):Pm K E X (.BinOp a .Mult b pos) (uM Fj ta tb) (Gm fa fb):=rL JQ Io f d
noncomputable def nK(d:List T):List T:=(d.zipIdx).map λp=>T.tup [.int (p.2:Int),p.1]
def EB(K:W.Frag)(ta:TA):TI:=λd H R=>∃b,F7 K b ta d H R
@[simp] noncomputable def lY(fa:Pe->M (List T)):Pe->M (List T):=λg=>(fa g).bind λf=>match f with
 |[x]=>(seqT x).bind λd=>.ok (nK d)
 |_=>.bad
def IR{b:Bool}(j:∀H,gS F H->uO K H b l xs)(f:gN K F xs ts):xC K (P8 K b l) (nK ts) F where
 go:=λi H s q=>by
  have d:i<ts.length:=by simpa[nK] using q
  have h:xs[i]? = some (xs[i]'(by rw[f.length];exact d)):=ai _;exact⟨xs,_,j H s,h⟩
 stop:=λH s=>⟨xs,j H s,by simp[nK,f.length]⟩
 yld:=λi t z H x A k m e y=>by
  obtain⟨p,r,rfl,v,rfl,h⟩:=y;obtain⟨u,n,w⟩:=f.at_ (h xs (j H (k.trans m)));have:t=.tup [.int i,u]:=by unfold nK at e;rw[aw,List.getElem?_zipIdx,n]at e;simp at e;exact e.symm
  rw[this];have g:=Gr.new (o:=.tup [.int i,r]) m v;exact⟨_,g,.tup gJ (.cons (.int _) (.cons ((w.mono k).mono g.ff) .nil))⟩
noncomputable def Av(b:Bool)(fa:Pe->M (List T)):Pe->M (List T):=λg=>(fa g).bind λf=>match f with
 |[x]=>(seqB b x).bind λd=>.ok (nK d)
 |_=>.bad
def yI{b:Bool}(j:MA K E tr fr):MI K E (F7 K b tr) (Av b fr):=λF H z w R s V q=>by
 refine j.run s V q λv y m i h k d=>?_;split at d
 .rename_i x;cases k with
  |cons a c=>
   cases c;cases f:seqB b x with
   |bad=>rw[f]at d;exact d.elim
   |er C n=>exact absurd f xo
   |ok ts=>rw[f]at d;obtain⟨r,l,rfl,g,u⟩:=xp a f;exact⟨r,rfl,⟨l,g _ h.fh⟩,d _ m i h (IR g u)⟩
 .exact d.elim
def HM(g:MA K E tr fr):MI K E (EB K tr) (lY fr):=λF H f d R s V q=>by
 unfold lY at q;cases e:fr d with
 |bad=>rw[e]at q;exact q.elim
 |er C n=>rw[e]at q;exact⟨true,yI g F H f d R s V (by unfold Av;rw[e];exact q)⟩
 |ok xs=>
  rw[e]at q;match xs,e,q with
  |[],_,q=>exact q.elim
  |[x],e,q=>refine⟨BU x,yI g F H f d R s V ?_⟩;unfold Av;rw[e];have h:((seqT x).bind λi=>M.ok (nK i)).res (kI K F H R) (kE E F H):=q;rw[zW x]at h;exact h
  |_::_::_,_,q=>exact q.elim
def sI{x1}(g:X.mg "enumerate" = none)(d:zG K E X [a] tr fr)(k:X.K=K:=by rfl)(j:Gl X "enumerate" :=by rfl)(hs:starEach [a] X.env=[(false,eval a X.env)]:=by rfl) :
  JN K E X (.Tuple elts x1 tpos) (.Call (.Name "enumerate" p) [a] [] pos) (EB K tr) (lY fr):=by
 subst k;refine⟨λi s f H R I h=>?_,HM d.ma⟩;obtain⟨b,h⟩:=h;exact FU j g d.pa hs i s f H R I h
end
structure Bs(mg:Str->Option Value):Prop where
 abs:mg "abs" = none
 isinstance:mg "isinstance" = none
 int:mg "int" = none
 bool:mg "bool" = none
 len:mg "len" = none
 range:mg "range" = none
 tuple:mg "tuple" = none
 list:mg "list" = none
 str:mg "str" = none
 all:mg "all" = none
 any:mg "any" = none
 sum:mg "sum" = none
 zip:mg "zip" = none
 max:mg "max" = none
 min:mg "min" = none
 enumerate:mg "enumerate" = none
 reversed:mg "reversed" = none
 set:mg "set" = none
 dict:mg "dict" = none
 sorted:mg "sorted" = none
def w5:bootBuiltins "list" = some (.type "list"):=by decide +kernel
def E2:bootBuiltins "max" = some (.builtin "max"):=by decide +kernel
end L3
namespace L3
open PySem L2
section
variable {α:Type}
theorem vm enc f:∀(l:List α),(∀a∈l,k (enc a)=.ok (some (f a)))->nZ k (l.map enc)=.ok (l.map f)
 |[],_=>rfl
 |a::l,h=>by rw[b8,nZ,h a (by simp),M.bind_ok,vm enc f l λb c=>h b (by simp[c])];rfl
theorem ql enc f p:∀(l:List α),(∀a∈l,k (enc a)=.ok (if p a then some (f a) else none))->nZ k (l.map enc)=.ok ((l.filter p).map f)
 |[],_=>rfl
 |a::l,h=>by
  rw[b8,nZ,h a (by simp),M.bind_ok,ql enc f p l λb d=>h b (by simp[d])];by_cases c:p a=true
  .simp[c]
  .simp[c]
theorem jW enc (P:Nat->En->Prop):∀(l:List α) (k:Nat) (ρ:En),P k ρ->
  (∀i a ρ,l[i]? = some a->P (k+i) ρ->∃d c,m (enc a) ρ=some d/\(g d=.nx c\/g d=.ct c)/\P (k+i+1) c)->∃ρ',jP m g (l.map enc) ρ=.nx ρ'/\P (k+l.length) ρ'
 |[],k,ρ,h,_=>⟨ρ,rfl,h⟩
 |a::l,k,ρ,h,st=>by
  obtain⟨d,c,j,f,o⟩:=st 0 a ρ rfl h;obtain⟨ρ',e,n⟩:=jW enc P l (k+1) c o λi b ρ p q=>by have:=st (i+1) b ρ (by simpa using p) (by rw[show k+(i+1)=k+1+i by omega];exact q);rw[show k+1+i+1=k+(i+1)+1 by omega];exact this
  refine⟨ρ',?_,by rw[aA,show k+(l.length+1)=k+1+l.length by omega];exact n⟩;rw[b8,jP,j];rcases f with f|f<;>(dsimp only;rw[f];exact e)
theorem vZ enc (P:En->Prop):∀(l:List α) (ρ:En),P ρ->
  (∀a∈l,∀ρ,P ρ->∃d c,m (enc a) ρ=some d/\(g d=.nx c\/g d=.ct c)/\P c)->∃ρ',jP m g (l.map enc) ρ=.nx ρ'/\P ρ'
 |[],ρ,h,_=>⟨ρ,rfl,h⟩
 |a::l,ρ,h,st=>by obtain⟨d,c,i,f,k⟩:=st a (by simp) ρ h;obtain⟨ρ',e,j⟩:=vZ enc P l c k λb n ρ o=>st b (by simp[n]) ρ o;refine⟨ρ',?_,j⟩;rw[b8,jP,i];rcases f with f|f<;>(dsimp only;rw[f];exact e)
theorem pG(P:En->Prop)(b:En->Nat)(R:En->Prop)(st:∀ρ,P ρ->(c (vw ρ)=.ok false/\R ρ)\/(c (vw ρ)=.ok true/\∃a,(g ρ=.nx a\/g ρ=.ct a)/\P a/\b a<b ρ)) :
  ∀n ρ,P ρ->b ρ<n->∃ρ',lA c g n ρ=.nx ρ'/\R ρ'
 |0,ρ,_,h=>absurd h (cY _)
 |n+1,ρ,hP,hn=>by
  rcases st ρ hP with⟨e,r⟩|⟨e,a,d,f,j⟩
  .exact⟨ρ,by rw[lA,e];rfl,r⟩
  .obtain⟨ρ',i,r⟩:=pG P b R st n a f (by omega);refine⟨ρ',?_,r⟩;rw[lA,e,O.of_ok,aR rfl];rcases d with d|d<;>(rw[d];exact i)
end
def wJ{g:Type}(l:List g) enc f (o:fi ρ=.ok (l.map enc)) (d:l.length<sizeLine)
  (i:∀a∈l,∃b,m (enc a) (lZ ix ρ)=some b/\ft b=.ok true/\fe b=.ok (f a)):kP ix fi m ft fe ρ=.ok (l.map f):=by
 have h:=vm (k:=qd m ft fe (lZ ix ρ)) enc f l λa c=>by obtain⟨b,e,n,j⟩:=i a c;unfold qd;rw[e];dsimp only;rw[n,M.bind_ok,aR rfl,j];rfl
 unfold kP;rw[o,M.bind_ok,ax,aR d,h];rfl
theorem zZ{g:Type}(l:List g) enc f p (q:fi ρ=.ok (l.map enc)) (d:l.length<sizeLine)
  (i:∀a∈l,∃b,m (enc a) (lZ ix ρ)=some b/\ft b=.ok (p a)/\(p a=true->fe b=.ok (f a))):kP ix fi m ft fe ρ=.ok ((l.filter p).map f):=by
 have h:=ql (k:=qd m ft fe (lZ ix ρ)) enc f p l λa c=>by
  obtain⟨b,e,o,j⟩:=i a c;unfold qd;rw[e];dsimp only;rw[o,M.bind_ok];cases n:p a with
  |true=>rw[aR rfl,aR rfl,j n];rfl
  |false=>rw[aS aI,aS aI]
 unfold kP;rw[q,M.bind_ok,ax,aR d,h];rfl
def i4{d:Type}(l:List d) enc f (g:fi ρ=.ok (l.map enc)) (c:l.length<sizeLine)
  (e:∀a∈l,∃b,m (enc a) (lZ ix ρ)=some b/\ft b=.ok true/\fe b=.ok (f a)) (hr:l.map f=ts):kP ix fi m ft fe ρ=.ok ts:=by rw[<-hr];exact wJ l enc f g c e
def Gi{d:Type}(l:List d) enc f p (g:fi ρ=.ok (l.map enc)) (c:l.length<sizeLine)
  (e:∀a∈l,∃b,m (enc a) (lZ ix ρ)=some b/\ft b=.ok (p a)/\(p a=true->fe b=.ok (f a))) (hr:(l.filter p).map f=ts):kP ix fi m ft fe ρ=.ok ts:=by rw[<-hr];exact zZ l enc f p g c e
def NT lo n:uY lo n=(List.range n).map λ(i:Nat)=>T.int (lo+(i:Int)):=rfl
noncomputable def tI(a:LI):T:=.tup (a.map T.int)
def tL(a:LI):T:=.lst (a.map T.int)
def fr(p:Int×Int):T:=.tup [.int p.1,.int p.2]
noncomputable def tS(s:List (Int×Int)):T:=.tup (s.map fr)
def zU(l:List α)(i:Int)(d:0<=i)(b:i<l.length):∃a,oX l i=some a/\a∈l:=by
 unfold oX xO;rw[aR d,aR b];have c:i.toNat<l.length:=by omega
 exact⟨l[i.toNat],by simp[c],aW _⟩
def ja(h:PySem.IntMulOk i j):jN (.int i) (.int j)=.ok (.int (i*j)):=by simp[jN,kh,h]
def ku(h:j≠0)(a:Builtin.divisionGoesByPylong i j=false):kW (.int i) (.int j)=.ok (.int (i.fdiv j)):=by simp[kW,kh,h,a]
def og(h:j≠0):rK (.int i) (.int j)=.ok (.int (i.fmod j)):=by simp[rK,kh,h]
@[simp] theorem jL i j:iG (.int i) (.int j)=.ok (.int (i+j)):=rfl
@[simp] theorem pQ i j:uX (.int i) (.int j)=.ok (.int (i-j)):=rfl
@[simp] theorem Pd i j:Ks (.int i) (.int j)=.ok (.bl (decide (i<j))):=rfl
@[simp] theorem Pk i j:B4 (.int i) (.int j)=.ok (.bl (decide (i<=j))):=rfl
@[simp] theorem Pl i j:Mv (.int i) (.int j)=.ok (.bl (decide (j<i))):=rfl
@[simp] theorem Pp i j:PF (.int i) (.int j)=.ok (.bl (decide (j<=i))):=rfl
@[simp] theorem km i j:iP false (.int i) (.int j)=.ok (.bl (i==j)):=by simp[iP,oV,sF]
@[simp] theorem zp i j:iP true (.int i) (.int j)=.ok (.bl (!(i==j))):=by simp[iP,oV,sF]
def CW(h:i.natAbs<2 ^ 64):PySem.IntMulOk i j:=IntMulOk.of_left (PyProof.Rows.intBits_le h)
def Bn(n:Nat)(x:Int):Prop:=x.natAbs<2 ^ n
def Bn.mono(h:Bn m x)(a:m<=n):Bn n x:=aF h (de (by decide) a)
def Bn.mul(h:Bn m x)(h':Bn n y):Bn (m+n) (x*y):=by unfold Bn at *;rw[aZ,Nat.pow_add];exact Nat.mul_lt_mul'' h h'
def Bn.add(h:Bn m x)(h':Bn n y):Bn (max m n+1) (x+y):=by have a:Bn (max m n) x:=h.mono (Nat.le_max_left _ _);have b:Bn (max m n) y:=h'.mono (Nat.le_max_right _ _);unfold Bn at *;rw[dc];have:=Int.natAbs_add_le x y;omega
def Bn.neg(h:Bn m x):Bn m (-x):=by unfold Bn at *;rw[d7];exact h
def Bn.sub(h:Bn m x)(h':Bn n y):Bn (max m n+1) (x-y):=by rw[d8];exact h.add h'.neg
def Bn.ok(h:Bn m x)(h':Bn n y)(b:m<=2 ^ 20)(a:n<=2 ^ 20):PySem.IntMulOk x y:=IntMulOk.of_bits (aO (PyProof.Rows.intBits_le h) b) (aO (PyProof.Rows.intBits_le h') a)
def Bn.noPy(h:Bn n y)(a:n<=8000):Builtin.divisionGoesByPylong x y=false:=Cu.noPy (PyProof.Rows.intBits_le h) a
section
variable {a b g:En->O}{ρ ρ':En}{r:O}{fc:Pe->M Bool}{f:Pe->M T}{ff:Pe->M (List T)}{t:T}{ts:List T}{k n i:Nat}
def gB(d:a ρ=.nx ρ')(c:b ρ'=r):gR a b ρ=r:=by unfold gR;rw[d];exact c
def nE(c:a ρ=.rt t)(hr:.rt t=r):gR a b ρ=r:=by unfold gR;rw[c];exact hr
def kz(h:fc (vw ρ)=.ok true)(c:a ρ=r):oT fc a b ρ=r:=by unfold oT;rw[h];exact c
def jv(h:fc (vw ρ)=.ok false)(c:b ρ=r):oT fc a b ρ=r:=by unfold oT;rw[h];exact c
def gK(h:f (mU ρ)=.ok t)(hr:ρ'=ρ.set i (some (.p t))):setO i (jx f) ρ=.nx ρ':=by unfold setO jx;rw[h,hr];rfl
def JZ(h:f (vw ρ)=.ok t)(c:lf t=true)(hr:ρ'=ρ.set i (some (.p t))):setO i (vX f) ρ=.nx ρ':=by unfold setO vX;rw[h,hr];simp[c]
def tT(h:ff (mU ρ)=.ok ts)(hr:ρ'=ρ.set i (some (.o ts))):wY i (vf ff) ρ=.nx ρ':=by unfold wY vf;rw[h,hr];rfl
def AQ(c:ρ[i]? = some (some (.o us)))(h:f (mU ρ)=.ok t)(d:us.length<sizeLine)(hr:ρ'=ρ.set i (some (.o (us++[t])))):nA i (jx f) ρ=.nx ρ':=by unfold nA jx mR;rw[c,h,hr];simp[d]
def J4(e:ρ[i]? = some (some (.o us)))(h:f (vw ρ)=.ok t)(c:lf t=true)(d:us.length<sizeLine)(hr:ρ'=ρ.set i (some (.o (us++[t])))):nA i (vX f) ρ=.nx ρ':=by unfold nA vX mR;rw[e,h,hr];simp[d,c]
def Mg(l:ρ[i]? = some (some (.o us)))(h:f (vw ρ)=.ok t)(d:lf t=true)(e:fk (vw ρ)=.ok (.int j))(c:xO us.length j=some m)(hr:ρ'=ρ.set i (some (.o (us.set m t)))):Dx i (vX fk) (vX f) ρ=.nx ρ':=by unfold Dx vX mR;rw[l,h,e,hr];simp[d,c]
def ij(h:f (vw ρ)=.ok t):iZ f ρ=.rt t:=by unfold iZ;rw[h];rfl
def m7(h:ff (vw ρ)=.ok ts):nV ff ρ=.rf ts:=by unfold nV;rw[h];rfl
def Bt(h:f (mU ρ)=.ok t):wg (jx f) ρ=.nx ρ:=by unfold wg jx;rw[h];rfl
def lB(h:fi (mU ρ)=.ok gF)(c:jP m g gF ρ=r):pV fi m g ρ=r:=by unfold pV;rw[h];exact c
def Bb(h:fi (vw ρ)=.ok gF)(c:jP m g gF ρ=r):tm fi m g ρ=r:=by unfold tm;rw[h];exact c
def i3(c:ts.length=k)(h:g (jj n ts)=.rt t):nr k n g ts=.ok t:=by unfold nr;rw[aR c,h];rfl
def Oi(c:ts.length=k)(h:g (jj n ts)=.nx ρ):nr k n g ts=.ok .non:=by unfold nr;rw[aR c,h];rfl
def nL(c:ts.length=k)(h:g (jj n ts)=.rf us):zH k n g ts=.ok us:=by unfold zH;rw[aR c,h];rfl
end
def JL n:uY 0 n=(List.range n).map λ(i:Nat)=>T.int (i:Int):=by simp[uY]
theorem lW{d:Type} f:∀(l:List d),(∀a∈l,oV (f a)=true)->oK (l.map f)=true
 |[],_=>rfl
 |a::l,h=>by rw[b8,oK,h a (by simp),lW f l λb c=>h b (by simp[c])];rfl
theorem lM{c:Type} f n:∀(l:List c),(∀a∈l,xT (f a)<=n)->pL (l.map f)<=n
 |[],_=>cA _
 |a::l,h=>by rw[b8,C1];have g:=h a (by simp);have e:=lM f n l λb d=>h b (by simp[d]);omega
@[simp] theorem Ny(a:LI):oK (a.map T.int)=true:=lW _ _ λ_ _=>rfl
def Dr(a:LI):pL (a.map T.int)<=0:=lM _ _ _ λ_ _=>aL _
@[simp] theorem LZ ns:oV (tI ns)=true:=by simp[tI,oV]
@[simp] theorem M5 p:oV (fr p)=true:=by simp[fr,oV,oK]
@[simp] theorem LO s:oV (tS s)=true:=by unfold tS;rw[oV];exact lW _ _ λ_ _=>M5 _
def KR ns:xT (tI ns)<=1:=by unfold tI;rw[Br];have:=Dr ns;omega
def KA p:xT (fr p)<=1:=by simp[fr]
def MQ s:xT (tS s)<=2:=by unfold tS;rw[Br];have:=lM fr 1 s λ_ _=>KA _;omega
@[simp] theorem yR(l:LL):oK (l.map tI)=true:=lW _ _ λ_ _=>LZ _
@[simp] theorem NU(l:List (List (Int×Int))):oK (l.map tS)=true:=lW _ _ λ_ _=>LO _
def uj(l:LL):pL (l.map tI)<=1:=lM _ _ _ λ_ _=>KR _
def Hf(l:List (List (Int×Int))):pL (l.map tS)<=2:=lM _ _ _ λ_ _=>MQ _
@[simp] theorem ET l:t8 l []=l.isEmpty:=by cases l<;>rfl
theorem qI{d:Type} f (c:∀a b,A5 (f a) (f b)=true↔a=b):∀(l m:List d),t8 (l.map f) (m.map f)=true↔l=m
 |[],[]=>by simp[rD]
 |[],b::m=>⟨λz=>(nomatch (show false=true from z)),λz=>nomatch z⟩
 |a::l,[]=>by simp[rD]
 |a::l,b::m=>by rw[b8,b8,rD,bS,c a b,qI f c l m];simp
def C6(l m:LI):t8 (l.map T.int) (m.map T.int)=decide (l=m):=by
 have h:=qI T.int (λa b=>by simp[sF]) l m;by_cases e:l=m
 .rw[aD e];exact h.mpr e
 .rw[aC e];cases c:t8 (l.map T.int) (m.map T.int) with
  |false=>rfl
  |true=>exact absurd (h.mp c) e
def pW neg ts (h:oK ts=true) (hd:pL ts<=90):iP neg (.lst ts) (.lst [])=.ok (.bl (if neg then !ts.isEmpty else ts.isEmpty)):=by unfold iP;rw[aR (by simp[oV,h,oK];omega),xJ,ET]
def oJ{a:Type} f (l:List a):nK (l.map f)=l.zipIdx.map λp=>T.tup [.int (p.2:Int),f p.1]:=by unfold nK;rw[List.zipIdx_map,aJ];rfl
def Ea{a b:Type} f (g:b->T) (l:List a) m:xI (l.map f) (m.map g)=(l.zip m).map λp=>T.tup [f p.1,g p.2]:=by unfold xI;rw[List.zip_map,aJ];rfl
theorem xb{d:Type} f:∀(l:List d),(∀a∈l,lf (f a)=true)->Kf (l.map f)=true
 |[],_=>rfl
 |a::l,h=>by rw[b8,Kf,h a (by simp),xb f l λb c=>h b (by simp[c])];rfl
@[simp] theorem N9(a:LI):Kf (a.map T.int)=true:=xb _ _ λ_ _=>rfl
@[simp] theorem Qo ns:lf (tI ns)=true:=by simp[tI]
@[simp] theorem ND p:lf (fr p)=true:=by simp[fr]
@[simp] theorem Pv(s:List (Int×Int)):Kf (s.map fr)=true:=xb _ _ λ_ _=>ND _
@[simp] theorem Qx s:lf (tS s)=true:=by simp[tS]
section
variable {α:Type}{fe fd fl:Pe->M T}{ρ:Pe}{ts:List T}{d k:Nat}
def vM(l:List α)(d:Nat):mO l none (some (d:Int))=l.take d:=by
 unfold mO;rw[HT.sIx_none,HT.sIx_nat,List.drop_zero,Nat.sub_zero];by_cases h:d<=l.length
 .rw[d9 h]
 .rw[Nat.min_eq_right (by omega),cD (aL _),cD (by omega)]
def vR(l:List α)(d:Nat):mO l (some (d:Int)) none=l.drop d:=by
 unfold mO;rw[HT.sIx_none,HT.sIx_nat];by_cases h:d<=l.length
 .rw[d9 h,cD (by simp)]
 .rw[Nat.min_eq_right (by omega),ef (aL _),ef (by omega),List.take_nil]
def Nn n d:HT.sIx n d (some (-1))=n-1:=by unfold HT.sIx;dsimp only;rw[aR (by decide)];omega
def CB(l:List α):mO l none (some (-1))=l.dropLast:=by unfold mO;rw[HT.sIx_none,Nn,List.drop_zero,Nat.sub_zero,ei]
def ym(h:fe ρ=.ok (.tup ts))(hd:fd ρ=.ok (.int (d:Int)))(a:d<=ts.length):jU fe (λ_=>.ok none) (iM fd) ρ=.ok (.tup (ts.take d)):=by simp only[jU,iM,h,hd,M.bind_ok,vM]
def Dw(h:fe ρ=.ok (.lst ts))(hd:fd ρ=.ok (.int (d:Int))):jU fe (λ_=>.ok none) (iM fd) ρ=.ok (.lst (ts.take d)):=by simp only[jU,iM,h,hd,M.bind_ok,vM]
def Gb(h:fe ρ=.ok (.tup ts))(a:ts≠[]):jU fe (λ_=>.ok none) (iM (nv (λi=>.int (-i)) (cM (.int 1)))) ρ=.ok (.tup ts.dropLast):=by have e:iM (nv (λi=>.int (-i)) (cM (.int 1))) ρ=.ok (some (-1)):=rfl;simp only[jU,h,e,M.bind_ok,CB]
def xZ(h:fe ρ=.ok (.tup ts))(hd:fd ρ=.ok (.int (d:Int)))(a:0<d)(b:ts≠[]):jU fe (iM fd) (λ_=>.ok none) ρ=.ok (.tup (ts.drop d)):=by simp only[jU,iM,h,hd,M.bind_ok,vR]
def vC(h:lc ρ=.ok ts)(hr:o [.lst ts]=r):j9 o (gn (jb lc) gA) ρ=r:=by simp only[j9,gn,gA,jb,h,M.bind_ok];exact hr
def nc(h:f ρ=.ok t)(hr:o [t]=r):j9 o (gn f gA) ρ=r:=by simp only[j9,gn,gA,h,M.bind_ok];exact hr
def iq(h:lc ρ=.ok ts):jb lc ρ=.ok (.lst ts):=by simp only[jb,h,M.bind_ok]
def yM(h:fe ρ=.ok (.tup ts)):iR fe ρ=.ok ts:=by simp only[iR,h,M.bind_ok]
def lQ(h:fe ρ=.ok (.lst ts)):iR fe ρ=.ok ts:=by simp only[iR,h,M.bind_ok]
def jI(h:fe ρ=.ok (.bl b)):j4 fe ρ=.ok b:=by simp only[j4,h,M.bind_ok]
def FX(h:fc ρ=.ok b)(hr:(!b)=r):L3.qO fc ρ=.ok r:=by simp only[L3.qO,h,M.bind_ok,hr]
def gC(b:fa ρ=.ok x)(a:fb ρ=.ok y)(hr:o x y=r):gI o fa fb ρ=r:=by simp only[gI,b,a,M.bind_ok];exact hr
def nT(h:f ρ=.ok x)(hr:F [x]=.ok t):gP (gn f gA) F ρ=.ok t:=by simp only[gP,gn,gA,h,hr,M.bind_ok];rfl
def kJ(h:f ρ=.ok x)(a:g ρ=.ok y)(hr:F [x,y]=.ok t):gP (gn f (gn g gA)) F ρ=.ok t:=by simp only[gP,gn,gA,h,a,hr,M.bind_ok];rfl
def vT{f g k:Pe->M T}(h:f ρ=.ok x)(a:g ρ=.ok y)(b:k ρ=.ok z)(hr:F [x,y,z]=.ok t):gP (gn f (gn g (gn k gA))) F ρ=.ok t:=by simp only[gP,gn,gA,h,a,b,hr,M.bind_ok];rfl
def NZ{f g k l:Pe->M T}(h:f ρ=.ok x)(b:g ρ=.ok y)(c:k ρ=.ok z)(a:l ρ=.ok u)(hr:F [x,y,z,u]=.ok t):gP (gn f (gn g (gn k (gn l gA)))) F ρ=.ok t:=by simp only[gP,gn,gA,h,b,c,a,hr,M.bind_ok];rfl
end
section
variable {ρ:Pe}{ts:List T}{F:List T->M (List T)}{f g k l:Pe->M T}{x y z u:T}
def Ae(h:f ρ=.ok x)(hr:F [x]=.ok ts):il (gn f gA) F ρ=.ok ts:=by simp only[il,gn,gA,h,hr,M.bind_ok];rfl
def rC(h:f ρ=.ok x)(a:g ρ=.ok y)(hr:F [x,y]=.ok ts):il (gn f (gn g gA)) F ρ=.ok ts:=by simp only[il,gn,gA,h,a,hr,M.bind_ok];rfl
def DX(h:f ρ=.ok x)(a:g ρ=.ok y)(b:k ρ=.ok z)(hr:F [x,y,z]=.ok ts):il (gn f (gn g (gn k gA))) F ρ=.ok ts:=by simp only[il,gn,gA,h,a,b,hr,M.bind_ok];rfl
def Eg(h:f ρ=.ok x)(b:g ρ=.ok y)(c:k ρ=.ok z)(a:l ρ=.ok u)(hr:F [x,y,z,u]=.ok ts):il (gn f (gn g (gn k (gn l gA)))) F ρ=.ok ts:=by simp only[il,gn,gA,h,b,c,a,hr,M.bind_ok];rfl
end
def tZ{a b:Type}{l:List a}{m:List b}{f:a->T}{g:b->T}(d:fa ρ=.ok x)(c:seqT x=.ok (l.map f))(h:fb ρ=.ok y)(e:seqT y=.ok (m.map g)) :
  t9 (gn fa (gn fb gA)) ρ=.ok ((l.zip m).map λp=>T.tup [f p.1,g p.2]):=by
 rw[<-Ea];simp only[t9,gn,gA,d,h,M.bind_ok,c,e]
end L3
namespace L3
open PySem L2 PySem.Spec PyProof.Rows
section
variable {K:W.Frag}{E:XK}{X:Cx}{a b c e o tg it:Expr}{es:List Expr}{ta tb tc te to:TE}{fa fb fc fe fo:Pe->M T}{tr:TA}{fr:Pe->M (List T)}{pos p p2 apos:Pos}
noncomputable def JP:T->T->M T:=kh (λi j=>decide (0<=j)&&decide (j<=1000000)&&decide (i.natAbs<18446744073709551616)) λi j=>.int (i*2 ^ j.toNat)
def Nb(f:Pm K E X a ta fa)(d:Pm K E X b tb fb):Pm K E X (.BinOp a .LShift b pos) (uM (rI HU λi j=>.int (i*2 ^ j.toNat)) ta tb) (gI JP fa fb):=rL KD (tq (λi j h=>by simp only[bS,decide_eq_true_eq]at h;exact⟨h.1.1,h.1.2,h.2⟩) λ_ _ _=>.int _) f d
end
def E3(K:W.Frag):Sp:=λd H Q _=>∃(a:Addr) (b:LI),d=[.ref a]/\kK K H a (b.map V.int)/\b.length<=63/\(∀z∈b,Builtin.Int.intBits z<=2 ^ 20)/\∀c,Q (.bl true) c
def DQ{K:W.Frag}(h:∀b:LI,b.length<=63->(∀z∈b,Builtin.Int.intBits z<=2 ^ 20)->F [.scr b]=.ok (.bl true)) vs H Q E (z:E3 K vs H Q E):B9 K F vs H Q E:=by obtain⟨a,b,rfl,e,d,f,c⟩:=z;refine⟨[.scr b],H,.refl _,.cons (.scr e) .nil,?_⟩;rw[h b d f];intro v i j g r;cases r;exact c _
def Qb{K:W.Frag}{st:Stmt}(F:HJ K x x st f fd)(S:kn N ps (gO st))
  (c:∀(f:Addr) (b:Vq) (A:Around) (a:List Env) (s:Sq) (H:Hp) (E:XK),jO k (A.deeper (envOfC x (gO st) s.heap.objs.size f b))->∃t,qV K E (sh Ab P w K mg base N x (gO st) f b A a s H E).nox (i9 st) t g) :
  ny P w K mg base Ab (k+1) f fd ps (B9 K (nr ps.length N.length g)):=
 F.ok S (λd H Q E h=>FP h) λb A a s H d Q E hr h=>let ⟨t,hp⟩:=c f b A a s H E hr;⟨t,hp.ps,BZ hp.ms h⟩
def OP{l:W.OpenLaw}{q:Program}{k:Nat}{x:Str}{c:List Str}{XP:(Str->Option Value)->Heap->Prop}{i:World->Heap->Prop}{d:DefRec}{K:Params->W.Frag}(n:l.most=some 63)(hr:jO k callerA)(g:d.params.defaults=[])
  (r:∀(w:World) (h:Heap),i w h->(K w.params).In h)
  (F:∀(w:World) (e:Str->Option Value) (j:Addr) (h:Heap),(K w.params).In h->h.Ns mainGlobals e->e d.name=some (.ref j)->
   ∃fd:FuncData,(∀(s:Sq) (u:Vq),BindsTo s fd ⟨[u],[]⟩ [(x,u)])/\∀b:Heap,(K w.params).In b->b.Ns mainGlobals e->ny l.prog w (K w.params) e b Ab k j fd [x] (E3 (K w.params))) :
  W.WalkO q c XP i l.row.toRowW d [] (λf vs=>PySem.call f vs):=
 L2.Dk n (by decide) g hr r F (λ_ _ a v m p _ o=>⟨a,v,rfl,o,m,p,λ_=>rfl⟩) λ_ _ _ _ z=>z
end L3
namespace L3
open PySem L2 PySem.Spec PyProof.Rows
section
variable {K:W.Frag}{E:XK}{X:Cx}{F0:Fz}{H0 F H:Hp}{σ:L2.St}{ρ:En}{x:Str}{e:Expr}{pos pos' p pd:Pos}
noncomputable def zK(kvs:List (LI×T))(k:LI)(v:T):List (LI×T):=if (kvs.any λa=>decide (a.1=k))=true then kvs.map (λa=>if a.1=k then (a.1,v) else a) else kvs++[(k,v)]
theorem sR:∀{a b:LI},a.map (Sum.inl:Int->mW)=b.map Sum.inl->a=b
 |[],[],_=>rfl
 |[],_::_,h=>nomatch h
 |_::_,[],h=>nomatch h
 |x::a,y::b,h=>by simp only[b8,List.cons.injEq]at h;rw[Sum.inl.inj h.1,sR h.2]
def DR.put(h:DR K F xs kvs) k (r:kj K F v t):DR K F (rJ xs (k.map Sum.inl) v) (zK kvs k t):=by
 have b:(xs.any λa=>decide (a.1=k.map Sum.inl))=kvs.any λa=>decide (a.1=k):=by
  induction h with
  |nil=>rfl
  |cons q _ ih=>
   rename_i x y _ _ _;rw[cC,cC,ih];congr 1;by_cases z:y.1=k
   .rw[aD z,aD (by rw[q.1,z])]
   .rw[aC z,aC (λw=>z (sR (by rw[<-q.1,w])))]
 unfold rJ zK;rw[b];generalize (kvs.any λa=>decide (a.1=k))=bb;split
 .clear b;unfold DR at h ⊢;induction h with
  |nil=>exact .nil
  |cons q _ ih=>
   rename_i x y _ _ _;refine .cons ?_ ih;dsimp only;by_cases z:y.1=k
   .rw[aR (by rw[q.1,z]),aR z];exact⟨q.1,r⟩
   .rw[aS (λw=>z (sR (by rw[<-q.1,w]))),aS z];exact q
 .clear b;unfold DR at h ⊢;induction h with
  |nil=>exact .cons ⟨rfl,r⟩ .nil
  |cons q _ ih=>exact .cons q ih
end
end L3
namespace L3
open PySem L2 PySem.Spec PyProof.Rows
theorem gN.reverse{K:W.Frag}:∀{vs} {ts},gN K F vs ts->gN K F vs.reverse ts.reverse
 |_,_,.nil=>.nil
 |_,_,.cons q r=>by rw[bT,bT];exact (gN.reverse r).append (.cons q .nil)
@[simp] noncomputable def Iz:T->T->M T
 |.tup ts,.int i=>if i = -1 then .ok (.tup ts.reverse) else .bad
 |.lst ts,.int i=>if i = -1 then .ok (.lst ts.reverse) else .bad
 |_,_=>.bad
section
variable {K:W.Frag}{E:XK}{X:Cx}{e st:Expr}{te ts:TE}{fe fs:Pe->M T}{p2 pos:Pos}
def Ap(l:Pm K E X e te fe)(hs:Pm K E X st ts fs)(o:X.K=K:=by rfl):Pm K E X (.Subscript e (.Slice none none (some st) p2) pos) (QE K te ts) (gI Iz fe fs):=by
 subst o;refine⟨KQ l.pe hs.pe,λF H J C Q s V q=>?_⟩;refine l.me.run s V q λx v I A j u w=>?_;refine hs.me.run j.fh (V.mono j.ff) w λy z D B c m b=>?_;have g:=j.trans c;have k:=u.mono c.ff;unfold Iz at b;split at b
 .rename_i ts i;rw[m.int_inv];obtain⟨a,n,rfl,h,r⟩:=k.tup_inv;by_cases d:i = -1
  .rw[aR d]at b;subst d;exact⟨_,rfl,rfl,.inr ⟨_,_,rfl,lR.of (c.fh _ _ h),λp f=>b (.ref p) _ _ (g.trans (.new c.fh f)) (.tup gJ (r.reverse.mono (Gr.new c.fh f).ff))⟩⟩
  .rw[aS d]at b;exact b.elim
 .rename_i ts i;rw[m.int_inv];obtain⟨a,n,rfl,h,r⟩:=k.lst_inv;by_cases d:i = -1
  .rw[aR d]at b;subst d;exact⟨_,rfl,rfl,.inl ⟨_,_,rfl,kK.of (c.fh _ _ h),λp f=>b (.ref p) _ _ (g.trans (.new c.fh f)) (.lst gJ (r.reverse.mono (Gr.new c.fh f).ff))⟩⟩
  .rw[aS d]at b;exact b.elim
 .exact b.elim
end
end L3
namespace L3
open PySem L2 PySem.Spec PyProof.Rows
section
variable {K:W.Frag}{E:XK}{X:Cx}{e:Expr}{es:List Expr}{tr:TA}{fr:Pe->M (List T)}{pos p apos:Pos}{pos':Pos}
def Cy:bootBuiltins "sorted" = some (.builtin "sorted"):=by decide +kernel
end
end L3
namespace L3
open PySem L2 PySem.Spec PyProof.Rows
def K7:Nat->(List Value->Prop)->Prop
 |0,P=>P []
 |k+1,P=>∀v,K7 k λus=>P (v::us)
theorem sP:∀{k} {P},K7 k P->∀us:List Vq,us.length=k->P us
 |0,_,h,[],_=>h
 |k+1,_,h,v::us,e=>sP (h v) us (by simpa using e)
def Pj(X:Cx):Prop:=∀x,X.env.scope.names.lookup x=some .cell->∃c,X.env.cells.lookup x=some c
structure Zx(P:Program)(w:World)(K:W.Frag)(mg:Str->Option Value)(base:Heap):Prop where
 here:True
section
variable {P:Program}{w:World}{K:W.Frag}{mg:Str->Option Value}{base:Heap}
noncomputable abbrev CP(_:Zx P w K mg base)(x:Str)(k:Nat)(F:List T->M T):Prop:=kq P w K mg base x k (B9 K F)
noncomputable abbrev CF(_:Zx P w K mg base)(x:Str)(k:Nat)(F:List T->M (List T)):Prop:=kq P w K mg base x k (Kb K F)
end
section
variable {P:Program}{w:World}{K:W.Frag}{mg:Str->Option Value}{base:Heap}{x m qual:Str}{C:Addr}{st:Stmt}{g:En->O}
noncomputable abbrev Qg(P:Program)(w:World)(K:W.Frag)(mg:Str->Option Value)(base:Heap)(k:Nat)(qual:Str)(st:Stmt)(N:List Str)(g:En->O):Prop:=∀{f:Addr} {cdv:Vq} {A:Around} {outer:List Env} {s:Sq} {H:Hp} {E:XK},N.Nodup->Pj (sh Ab P w K mg base N qual (gO st) f cdv A outer s H E).nox->jO k (A.deeper (envOfC qual (gO st) s.heap.objs.size f cdv))->∃t,qV K E (sh Ab P w K mg base N qual (gO st) f cdv A outer s H E).nox (i9 st) t g
abbrev PU(x qual:Str)(st:Stmt)(ps:List Str):Prop:=∀(kV doc pm:Vq) (an:Option Addr) (cdv ct:Vq),K7 ps.length λus=>bindArgs (W.fnOf x qual (kM st) (i9 st) (gO st) .none kV doc pm an cdv ct) ⟨us,[]⟩=pure (ps.zip us)
def lC(_:Zx P w K mg base) k F N ps (e:F=nr ps.length N.length g) (D:gG K mg x st) (j:Qg P w K mg base k x st N g) (S:kn N ps (gO st):=by constructor<;>first|rfl|decide +kernel)
  (n:PU x x st ps:=by first|exact λ_ _ _ _ _ _ _ _=>rfl|exact λ_ _ _ _ _ _ _=>rfl|exact λ_ _ _ _ _ _ _ _ _=>rfl|exact λ_ _ _ _ _ _ _ _ _ _=>rfl|exact λ_ _ _ _ _ _ _ _ _ _ _=>rfl|exact λ_ _ _ _ _ _=>rfl) :
  kq P w K mg base x (k+1) (B9 K F):=e▸P7 D S (λa b c d e f l i=>sP (n a b c d e f) l i) λ_ _ _ _ _ _ _ r=>j S.nd (λ_ h=>nF h) r
def rR(_:Zx P w K mg base) k F N ps (e:F=zH ps.length N.length g) (D:gG K mg x st) (j:Qg P w K mg base k x st N g) (S:kn N ps (gO st):=by constructor<;>first|rfl|decide +kernel)
  (n:PU x x st ps:=by first|exact λ_ _ _ _ _ _ _ _=>rfl|exact λ_ _ _ _ _ _ _=>rfl|exact λ_ _ _ _ _ _ _ _ _=>rfl|exact λ_ _ _ _ _ _ _ _ _ _=>rfl|exact λ_ _ _ _ _ _ _ _ _ _ _=>rfl|exact λ_ _ _ _ _ _=>rfl) :
  kq P w K mg base x (k+1) (Kb K F):=e▸Qi D S (λa b c d e f l i=>sP (n a b c d e f) l i) λ_ _ _ _ _ _ _ r=>j S.nd (λ_ h=>nF h) r
def NJ(_:Zx P w K mg base) k F N ps (e:F=nr ps.length N.length g) (D:HJ K x x st f fd) (a:Qg P w K mg base k x st N g) (S:kn N ps (gO st):=by constructor<;>first|rfl|decide +kernel) :
  ny P w K mg base Ab (k+1) f fd ps (B9 K F):=e▸Qb D S λ_ _ _ _ _ _ _ r=>a S.nd (λ_ h=>nF h) r
end
section
variable {K:W.Frag}{E:XK}{X:Cx}{tg elt iter:Expr}{ifs:List Expr}{scope:Scope}{wi:TI}{g:TG}{tt:TT}{te:TE}{fe:Pe->M T}{fi:Pe->M (List T)}{m:T->Pe->Option Pe}{ft:Pe->M Bool}{pos:Pos}{x:Str}
noncomputable abbrev QF(K:W.Frag)(X:Cx)(scope:Scope)(N:List Str)(tg elt:Expr)(ifs:List Expr)(g:TG)(tt:TT)(te:TE)(m:T->Pe->Option Pe)(ft:Pe->M Bool)(fe:Pe->M T):Prop:=∀{C s₃ H ex pn},N.Nodup->Pj (lH X N scope C s₃ H ex pn)->Nz K (lH X N scope C s₃ H ex pn) tg g m/\F6 K Hu (lH X N scope C s₃ H ex pn) ifs tt ft/\Pm K Hu (lH X N scope C s₃ H ex pn) elt te fe
def jr N ix (e:Pj X) (f:JN K E X tg iter wi fi) (b:QF K X scope N tg elt ifs g tt te m ft fe) (c:xP X.N X.env.scope scope N ix=true:=by rfl) (a:mV ix g:=by first|exact tK rfl|exact uD rfl rfl) (nd:N.Nodup:=by decide) (d:X.calm=true:=by rfl)
  (hs:∀x,foldedSetIterable iter X.env x=pure x:=by intro _;rfl):DT K E X (.ListComp elt [⟨tg,iter,ifs,0⟩] scope pos) (Ec ix wi g tt te) (kP ix fi m ft fe):=
 let L:=Oo e c
 OS d f L a (λ_ _ _ _ _=>b nd (GB L)) hs
def um N ix i (n:X.N.Nodup) (l:Pj X) (o:JN K E X tg iter wi fi) (b:QF K X scope N tg elt ifs g tt te m ft fe)
  (k:MF K E (Ec ix wi g tt te) (kP ix fi m ft fe)->MS K E (oM (Ec ix wi g tt te) (j2 i)) gm) (f:xP X.N X.env.scope scope N ix=true:=by rfl) (a:mV ix g:=by first|exact tK rfl|exact uD rfl rfl) (nd:N.Nodup:=by decide) (d:DJ X.env.scope x:=by first|exact Or.inl rfl|exact Or.inr rfl) (j:X.calm=true:=by rfl)
  (h:X.N[i]? = some x:=by rfl) (e:X.fn x=true\/X.env.scope.names.lookup x=some .local:=by first|exact .inl rfl|exact .inr rfl)
  (c:swapsWith (.ListComp elt [⟨tg,iter,ifs,0⟩] scope pos) (some (.Name x py)) spos.line X.env=pure true:=by rfl)
  (hs:∀x,foldedSetIterable iter X.env x=pure x:=by intro _;rfl):wG K E X (.Assign [.Name x py] (.ListComp elt [⟨tg,iter,ifs,0⟩] scope pos) spos) (oM (Ec ix wi g tt te) (j2 i)) gm:=
 let L:=Oo l f
 LD i n d j o L a (λ_ _ _ _ _=>b nd (GB L)) k h e c hs
end
end L3
namespace L3
open PySem L2 PySem.Spec PyProof.Rows
section
variable {K:W.Frag}{E:XK}{F H:Hp}{X:Cx}{a b:Expr}{ta tb:TE}{fa fb:Pe->M T}{pos:Pos}
theorem lX.dr:∀{xs} {kvs},lX K F xs kvs->DR K F xs kvs
 |_,_,.nil=>.nil
 |_,_,.cons h r=>.cons ⟨rfl,h⟩ (lX.dr r)
theorem DR.rd:∀{xs} {kvs},DR K F xs kvs->lX K F xs kvs
 |[],_,.nil=>.nil
 | (_,_)::_,_,.cons ⟨e,h⟩ r=>by cases e;exact .cons h (DR.rd r)
noncomputable def lP(kvs:List (LI×T))(k:LI):Option T:=(kvs.find? λc=>decide (c.1=k)).map (·.2)
theorem lX.val k:∀{xs} {kvs},lX K F xs kvs->(lP kvs k=none/\pH xs (k.map Sum.inl)=none)\/∃t v,lP kvs k=some t/\pH xs (k.map Sum.inl)=some v/\kj K F v t
 |_,_,.nil=>.inl ⟨rfl,rfl⟩
 |_,_,.cons (k:=j) (v:=v) (t:=t) h r=>by
  unfold lP pH;by_cases e:j=k
  .subst e;exact .inr ⟨t,v,by simp,by simp,h⟩
  .rw[List.find?_cons_of_neg (by simpa using e),List.find?_cons_of_neg (by simpa using λz=>e (sR z))];exact lX.val k r
def uF:List T->Option (List (LI×T))
 |[]=>some []
 |.tup [.tup ks,v]::r=>(jf ks).bind λc=>(uF r).bind λq=>some ((c,v)::q)
 |_=>none
noncomputable def pY(kvs c:List (LI×T)):List (LI×T):=c.foldl (λk q=>zK k q.1 q.2) kvs
@[simp] noncomputable def xU:List T->M T
 |[.lst ts]=>match uF ts with
  |some ps=>.ok (.dic (pY [] ps))
  |none=>.bad
 |_=>.bad
def GR xs:M.NoE (xU xs):=λC n=>by unfold xU;split<;>first|(intro z;cases z;done)|(split<;>intro z<;>cases z)
theorem GL:∀{vs} {ts} {ps},gN K F vs ts->uF ts=some ps->∃l:List Pr,vs=l.map (λq=>.ref q.1)/\(∀q∈l,wX F q)/\lX K F (l.map λq=>(q.2.2.1,q.2.2.2)) ps
 |_,[],_,.nil,e=>by cases e;exact⟨[],rfl,(λ_ h=>nomatch h),lX.nil⟩
 |_,t::ts,ps,.cons h r,e=>by
  unfold uF at e;split at e
  .rename_i z;cases z
  .rename_i ks v k z;cases z;cases c:jf ks with
   |none=>rw[c]at e;cases e
   |some ns=>
    rw[c]at e;cases d:uF ts with
    |none=>rw[d]at e;cases e
    |some q=>
     rw[d]at e;cases e;obtain⟨l,rfl,f,i⟩:=GL r d;cases h with
     |tup h rs=>
      cases rs with
      |cons h1 rs=>
       cases rs with
       |cons hv rs=>
        cases rs;cases h1 with
        |tup hb rk=>
         rw[kX c]at rk;rename_i a j b m;refine⟨(a,b,ns.map Sum.inl,j)::l,rfl,λq g=>?_,.cons hv i⟩;rcases aG.mp g with rfl|z
         .exact⟨h,by rw[hb,rk.ints,aJ];rfl⟩
         .exact f q z
  .cases e
theorem wD:∀l {xs} {kvs ps},lX K F (l.map λq=>(q.2.2.1,q.2.2.2)) ps->lX K F xs kvs->lX K F (q9 xs l) (pY kvs ps)
 |[],_,_,ps,h,r=>by cases h;exact r
 |q::l,xs,kvs,ps,h,r=>by
  generalize e:(q::l).map (λq:Pr=>(q.2.2.1,q.2.2.2))=m at h;cases h with
  |nil=>cases e
  |cons h1 h2=>rw[b8]at e;obtain⟨c,i⟩:=List.cons.inj e;subst i;have g:=(Prod.mk.inj c).1;have f:=(Prod.mk.inj c).2;rename_i k v t d;show lX K F (q9 (rJ xs q.2.2.1 q.2.2.2) l) (pY (zK kvs k t) d);refine wD l h2 ?_;rw[g,f];exact (r.dr.put _ h1).rd
def Im:MC K (λf H Q=>∃l c,f=[.ref l]/\H l=some (.lst (c.map λq=>.ref q.1))/\(∀q∈c,wX H q)/\∀d,H d=none->Q (.ref d) (jn H d (.dT (q9 [] c)))) xU:=⟨GR,λF H k f Q s r q=>by
 unfold xU at q;split at q
 .split at q
  .rename_i j _ c e;cases r with
   |cons h t=>
    cases t;cases h with
    |lst h r=>obtain⟨l,rfl,g,i⟩:=GL r e;refine⟨_,l,rfl,s _ _ h,λp e=>⟨s _ _ (g p e).1,s _ _ (g p e).2⟩,λd hd=>?_⟩;exact q (.ref d) _ _ (.new s hd) (.dic gJ ((wD l i .nil).mono (Gr.new s hd).ff))
  .exact q.elim
 .exact q.elim⟩
def Jm:bootBuiltins "dict" = some (.type "dict"):=by decide +kernel
def Q6(hr:jO k A):A.units+4<cLine:=by have:=hr.un;omega
noncomputable def zN(neg:Bool):T->T->M T
 |.tup ks,.dic kvs=>match jf ks with
  |some ns=>.ok (.bl (if neg then !(lP kvs ns).isSome else (lP kvs ns).isSome))
  |none=>.bad
 |_,_=>.bad
def MW:R2:=λy x H Q=>∃a o,x=.ref a/\xu H a y o/\Q (.bl o.isSome) H
def Mc(f:X.A.units+1<cLine):nu X (compareOp .In) MW:=by intro i s k H x y v u Q I e d h;obtain⟨a,o,rfl,g,q⟩:=h;cases d;exact P4 f I g e λj c=>⟨.bl _,H,c,rfl,q⟩
def Hz x y:M.NoE (zN neg x y):=λC n=>by unfold zN;split<;>first|(intro z;cases z;done)|(split<;>intro z<;>cases z)
def N8{kvs:List (LI×T)}{c:LI}(s:gS F H)(f:F p=some (.tup vs))(e:gN K F vs (c.map T.int))(hd:F d=some (.dT xs)):xu H d (.ref p) (pH xs (c.map Sum.inl)):=xu.t (s _ _ hd) (by rw[s _ _ f,e.ints,aJ];rfl)
def K3:MR K MW (zN false):=⟨Hz,λF H v w x y Q s e g q=>by
 unfold zN at q;split at q
 .split at q
  .rename_i i kvs _ h f;cases e with
   |tup hp rk=>
    cases g with
    |dic hd rd=>rw[kX f]at rk;refine⟨_,_,rfl,N8 (kvs:=kvs) s hp rk hd,?_⟩;rcases rd.val h with⟨c,d⟩|⟨t,v,c,d,_⟩<;>(rw[c]at q;rw[d];exact kV.now q s (.bl _))
  .exact q.elim
 .exact q.elim⟩
def HG(hr:jO k X.A)(c:Pm K E X a ta fa)(d:Pm K E X b tb fb)(e:behindInMarks .In b=false:=by rfl):zm K E X (.Compare a [.In] [b] pos) (rW (uM MW ta tb)) (j4 (gI (zN false) fa fb)):=iY (Mc (Kq hr)) K3 c d e
noncomputable def DS:T->T->M T
 |.dic kvs,.tup ks=>match jf ks with
  |some ns=>match lP kvs ns with
   |some t=>.ok t
   |none=>.bad
  |none=>.bad
 |_,_=>.bad
def MB(k:ME K E ta fa)(n:ME K E tb fb):ME K E (Ew ta tb) (gI DS fa fb):=λF H L D Q s V q=>by
 refine k.run s V q λx v I C h o B=>?_;refine n.run h.fh (V.mono h.ff) B λy w p l e u c=>?_;have m:=o.mono e.ff;unfold DS at c;split at c
 .split at c
  .rename_i kvs N _ A z;split at c
   .rename_i t d;cases m with
    |dic hd rd=>
     cases u with
     |tup hp rk=>
      rw[kX z]at rk;rcases rd.val A with⟨f,i⟩|⟨J,r,f,i,j⟩
      .rw[f]at d;cases d
      .rw[f]at d;cases d;have g:=N8 (kvs:=kvs) e.fh hp rk hd;rw[i]at g;exact⟨_,r,rfl,g,c _ p l (h.trans e) j⟩
   .exact c.elim
  .exact c.elim
 .exact c.elim
def Md(hr:jO k X.A)(d:Pm K E X a ta fa)(c:Pm K E X b tb fb)(hs:La b:=by intro _ _;rfl):Pm K E X (.Subscript a b pos) (Ew ta tb) (gI DS fa fb):=⟨Jr (Kq hr) d.pe c.pe hs,MB d.me c.me⟩
end
section
variable {P:Program}{w:World}{K:W.Frag}{mg:Str->Option Value}{base:Heap}{x:Str}{st:Stmt}
def OE N ps (e:F=λ_=>.bad) (D:gG K mg x st) (S:kn N ps (gO st):=by constructor<;>first|rfl|decide +kernel)
  (l:PU x x st ps:=by first|exact λ_ _ _ _ _ _ _ _=>rfl|exact λ_ _ _ _ _ _ _=>rfl|exact λ_ _ _ _ _ _ _ _ _=>rfl):kq P w K mg base x (k+1) (B9 K F):=by
 have i:∀g H Q E,¬B9 K F g H Q E:=λg H Q E h=>by subst e;obtain⟨_,_,_,_,_,z⟩:=h
 exact wU D S (λa b c d e f m j=>sP (l a b c d e f) m j) (λg H Q E h=>absurd h (i _ _ _ _)) λ_ _ _ _ _ _ _ _ _ _ h=>absurd h (i _ _ _ _)
end
end L3
namespace L3
open PySem L2 PySem.Spec PyProof.Rows
section
def mj:List T->Option (LL)
 |[]=>some []
 |.tup ts::l=>(jf ts).bind λr=>(mj l).bind λrs=>some (r::rs)
 |_::_=>none
def zf(r:LI):T:=.tup (r.map T.int)
theorem ub:∀{ts:List T} {rs:LL},mj ts=some rs->ts=rs.map zf
 |[],_,e=>by cases e;rfl
 |t::l,rs,e=>by
  unfold mj at e;split at e
  .rename_i h;cases h
  .rename_i ts c h;cases h;cases a:jf ts with
   |none=>rw[a]at e;cases e
   |some r=>
    cases b:mj l with
    |none=>rw[a,b]at e;cases e
    |some rs'=>rw[a,b]at e;cases e;rw[b8,<-ub b,kX a];rfl
  .cases e
theorem rM:∀(r:LI),jf (r.map T.int)=some r
 |[]=>rfl
 |i::r=>by rw[b8];unfold jf;rw[rM r];rfl
theorem rX:∀(rs:LL),mj (rs.map zf)=some rs
 |[]=>rfl
 |r::rs=>by rw[b8];show mj (.tup (r.map T.int)::_)=_;unfold mj;rw[rM,rX rs];rfl
variable {K:W.Frag}{F:Hp}
theorem v9:∀{vs:List V} {rs:LL},gN K F vs (rs.map zf)->∃bs:List Addr,vs=bs.map V.ref/\Paired (λb r=>F b=some (.tup (r.map V.int))) bs rs
 |_,[],.nil=>⟨[],rfl,.nil⟩
 |_,r::rs,.cons h t=>by obtain⟨bs,e,p⟩:=v9 t;obtain⟨a,f,rfl,c,d⟩:=h.tup_inv;rw[d.ints]at c;exact⟨a::bs,by rw[e];rfl,.cons c p⟩
def wu{bs:List Addr}{rs:LL}(h:Paired (λb r=>F b=some (.tup (r.map V.int))) bs rs):gN K F (bs.map V.ref) (rs.map zf):=by
 induction h with
 |nil=>exact .nil
 |cons a _ ih=>exact .cons (.tup a (gN.of_ints _)) ih
end
def CS(r:LI):LL->LL
 |[]=>[r]
 |x::l=>if iQ x r=true then x::CS r l else r::x::l
def j8:LL->LL
 |[]=>[]
 |r::l=>CS r (j8 l)
def ya:LL->LL
 |[]=>[]
 |r::l=>if r∈ya l then ya l else r::ya l
theorem qW(r:LI):∀l,(CS r l).Perm (r::l)
 |[]=>.refl _
 |x::l=>by
  unfold CS;split
  .exact ((qW r l).cons x).trans (.swap ..)
  .exact .refl _
theorem lV:∀l,(j8 l).Perm l
 |[]=>.refl _
 |r::l=>(qW r _).trans ((lV l).cons r)
theorem B3{m:Nat}{r:LI}(hr:r.length=m):∀{l:LL},(∀x∈l,x.length=m)->l.Pairwise (λa b=>iQ b a=false)->(CS r l).Pairwise (λa b=>iQ b a=false)
 |[],_,_=>dF _ _
 |x::l,hl,p=>by
  obtain⟨f,g⟩:=eA.mp p;have e:=hl x (by simp);have d:∀y∈l,y.length=m:=λy c=>hl y (bx _ c);unfold CS;split
  .rename_i h;refine eA.mpr ⟨λy c=>?_,B3 hr d g⟩;rcases aG.mp ((qW r l).mem_iff.mp c) with rfl|c
   .exact oa h
   .exact f y c
  .rename_i h;have h:iQ x r=false:=by simpa using h
   refine eA.mpr ⟨λy c=>?_,p⟩;rcases aG.mp c with rfl|c
   .exact h
   .exact xv (hr.trans e.symm) (e.trans (d y c).symm) h (f y c)
theorem zw{m:Nat}:∀{l:LL},(∀x∈l,x.length=m)->(j8 l).Pairwise (λa b=>iQ b a=false)
 |[],_=>.nil
 |r::l,h=>B3 (h r (by simp)) (λx c=>h x (bx _ ((lV l).mem_iff.mp c))) (zw λx c=>h x (bx _ c))
theorem zy:∀{a b:LI},a.length=b.length->iQ a b=false->iQ b a=false->a=b
 |[],[],_,_,_=>rfl
 |x::a,y::b,h,p,q=>by
  unfold iQ at p q;by_cases e:x=y
  .subst e;rw[aR rfl]at p q;rw[zy (by simpa using h) p q]
  .rw[aS e]at p;rw[aS (Ne.symm e)]at q;simp only[decide_eq_false_iff_not]at p q;omega
def uB{m:Nat}{e rs:LL}(c:∀r∈rs,r.length=m)(h:e.Perm rs)(hs:e.Pairwise (λa b=>iQ b a=false)):e=j8 rs:=by have f:=lV rs;refine List.Perm.eq_of_pairwise (λa b j g i d=>?_) hs (zw c) (h.trans f.symm);exact zy ((c a (h.mem_iff.mp j)).trans (c b (f.mem_iff.mp g)).symm) d i
theorem oI{k:LI}:∀{l:LL},k∈ya l↔k∈l
 |[]=>Iff.rfl
 |r::l=>by
  unfold ya;split
  .rename_i h;rw[oI (l:=l),aG];refine⟨.inr,λz=>z.elim (λz=>?_) id⟩;rw[z];exact oI.mp h
  .rw[aG,aG,oI (l:=l)]
theorem AW:∀(l:LL),(ya l).Nodup
 |[]=>cJ
 |r::l=>by
  unfold ya;split
  .exact AW l
  .rename_i h;exact bJ.mpr ⟨h,AW l⟩
def EM{m:Nat}{c rs:LL}(e:∀r∈rs,r.length=m)(nd:c.Nodup)(d:∀k,k∈c↔k∈rs)(hs:c.Pairwise (λa b=>iQ b a=false)):c=j8 (ya rs):=uB (m:=m) (λr hr=>e r (oI.mp hr)) ((eD nd (AW rs)).mpr λk=>(d k).trans oI.symm) hs
def yq(b:Bool)(rs:LL):Bool:=rs.all (λr=>r.length==(rs.headD []).length)&&decide (rs.length<64)&&(b||(decide (rs.length<2)||decide ((rs.headD []).length≠0)))
def A3{b:Bool}{rs:LL}(h:yq b rs=true):(∀r∈rs,r.length=(rs.headD []).length)/\rs.length<64/\(b=false->(rs.headD []).length=0->rs.length<2):=by unfold yq at h;simp only[bS,Bool.or_eq_true,decide_eq_true_eq,cE,beq_iff_eq]at h;exact⟨h.1.1,h.1.2,λy z=>h.2.elim (λq=>by rw[y]at q;cases q) λq=>q.elim id λq=>absurd z q⟩
noncomputable def mJ(b:Bool)(f:LL->LL):List T->M (List T)
 |[.lst ts]=>match mj ts with
  |some rs=>if yq b rs=true then .ok ((f rs).map zf) else .bad
  |none=>.bad
 |_=>.bad
def yW b f xs:M.NoE (mJ b f xs):=λC n=>by
 unfold mJ;split
 .split
  .split<;>(intro z;cases z)
  .intro z;cases z
 .intro z;cases z
theorem vk{b:Bool}{f:LL->LL}{K:W.Frag}{F:Hp}{vs:List V}{d:List T}{A:List T->Prop}{B:Addr->Option Int->Prop}(r:gN K F vs d)(q:(mJ b f d).res A B) :
  ∃a bs rs,vs=[.ref a]/\F a=some (.lst (bs.map V.ref))/\Paired (λb r=>F b=some (.tup (r.map V.int))) bs rs/\yq b rs=true/\A ((f rs).map zf):=by
 unfold mJ at q;split at q
 .rename_i i;cases r with
  |cons h t=>
   cases t;obtain⟨a,k,rfl,j,g⟩:=h.lst_inv;cases e:mj i with
   |none=>rw[e]at q;exact q.elim
   |some rs=>
    rw[e]at q;dsimp only at q;by_cases c:yq b rs=true
    .rw[aR c]at q;rw[ub e]at g;obtain⟨bs,rfl,p⟩:=v9 g;exact⟨a,bs,rs,rfl,j,p,c,q⟩
    .rw[aS c]at q;exact q.elim
 .exact q.elim
section
variable {K:W.Frag}{E:XK}{X:Cx}{e:Expr}{tr:TA}{fr:Pe->M (List T)}{pos p pos2 p2:Pos}
def Et(K:W.Frag):List V->Hp->VK->Prop:=λg H Q=>∃(p:Addr) (bs:List Addr) (f:LL) (m:Nat) (G:Addr->LI->Prop),g=[.ref p]/\kK K H p (bs.map V.ref)/\Paired G bs f/\(∀b r,G b r->H b=some (.tup (r.map V.int)))/\(∀r∈f,r.length=m)/\(m=0->f.length<2)/\f.length<64/\
  ∀(l:Addr) (d:List Addr) (c:LL),H l=none->Paired G d c->c.Perm f->c.Pairwise (λa b=>iQ b a=false)->Q (.ref l) (jn H l (.lst (d.map V.ref)))
def Gs:Qj K (Et K) (mJ false j8):=⟨yW _ _,λF H v u Q s r q=>by obtain⟨a,bs,n,rfl,o,g,i,q⟩:=vk r q;obtain⟨o1,o2,o3⟩:=A3 i;exact⟨a,bs,n,_,λb r=>F b=some (.tup (r.map V.int)),rfl,kK.of (s _ _ o),g,λb r h=>s _ _ h,o1,o3 rfl,o2,λl k d c f j m=>by rw[<-uB o1 j m]at q;exact q l _ F _ (.new' s c) c (iL s c) gJ (wu f)⟩⟩
def Gg(d:X.mg "sorted" = none)(b:zG K E X [e] tr fr)(f:Gl X "sorted" :=by rfl)(g:X.K=K:=by rfl)
  (c:starEach [e] X.env=(false,eval e X.env)::starEach [] X.env:=by rfl) (a:(backTo pos (starEach [] X.env)).any (·.1)=false:=by rfl):DT K E X (.Call (.Name "sorted" p) [e] [] pos) (Jf (Et K) tr) (Iu (mJ false j8) fr):=⟨uE (g▸z9) f d Cy b.pa (by decide) (by decide) c a,J7 Gs b.ma⟩
def Qu(K:W.Frag):List V->Hp->VK->Prop:=λg H Q=>∃(p:Addr) (bs:List Addr) (f:LL) (m:Nat) (G:Addr->LI->Prop),g=[.ref p]/\kK K H p (bs.map V.ref)/\Paired G bs f/\(∀b r,G b r->H b=some (.tup (r.map V.int)))/\(∀r∈f,r.length=m)/\f.length<64/\
  ∀(l:Addr) (d:List Addr) (c:LL),H l=none->Paired G d c->c.Nodup->(∀k,k∈c↔k∈f)->c.Pairwise (λa b=>iQ b a=false)->Q (.ref l) (jn H l (.lst (d.map V.ref)))
def GG:Qj K (Qu K) (mJ true λrs=>j8 (ya rs)):=⟨yW _ _,λF H u o Q s r q=>by obtain⟨a,bs,rs,rfl,n,g,i,q⟩:=vk r q;obtain⟨o1,o2,o3⟩:=A3 i;exact⟨a,bs,rs,_,λb r=>F b=some (.tup (r.map V.int)),rfl,kK.of (s _ _ n),g,λb r h=>s _ _ h,o1,o2,λl k d c f nd j m=>by rw[<-EM o1 nd j m]at q;exact q l _ F _ (.new' s c) c (iL s c) gJ (wu f)⟩⟩
def FB{k:Nat}(f:X.calm=true)(hr:jO k X.A)(g:X.mg "sorted" = none)(b:X.mg "set" = none)(c:zG K E X [e] tr fr)(h:Gl X "sorted" :=by rfl)(a:Gl X "set" :=by rfl)(i:X.K=K:=by rfl)
  (hs:starEach [e] X.env=[(false,eval e X.env)]:=by rfl) (d:starEach [Expr.Call (.Name "set" p2) [e] [] pos2] X.env=[(false,eval (.Call (.Name "set" p2) [e] [] pos2) X.env)]:=by rfl) :
  DT K E X (.Call (.Name "sorted" p) [.Call (.Name "set" p2) [e] [] pos2] [] pos) (QC K tr) (Iu (mJ true λrs=>j8 (ya rs)) fr):=⟨i▸Eh f (PJ hr) h g a b c.pa hs d,J7 (r:=Qu K) GG c.ma⟩
end
end L3
namespace CL
open PySem L2 L3
structure Cs where
 Cutting:Addr
 Desk:Addr
 CutError:Addr
 NoCutting:Addr
 NoTable:Addr
 NoFraction:Addr
 NoSpot:Addr
 NoSigns:Addr
 NoLand:Addr
 NoFace:Addr
 NoNumber:Addr
 NoText:Addr
 NoDeed:Addr
def qu(c:Cs):En->O:=(gR (setO 2 (jx (gI rK (gy 0) (gy 1))))
  (gR (setO 0 (jx (gy 1)))
  (setO 1 (jx (gy 2)))))
def q8(c:Cs):En->O:=(gR (λρ=>lA (j4 (gI (iP true) (gy 1) (cM (.int 0)))) (qu c) ((λρ=>match ρ with|_::some (.p (.int j))::_=>j.natAbs+1|_=>0) ρ) ρ)
  (iZ (j9 qo (gn (gy 0) gA))))
def gY(c:Cs):List T->M T:=nr 2 3 (q8 c)
def mw(c:Cs):En->O:=(gR (oT (j4 (gI Ks (gy 1) (j9 kc (gn (gy 0) gA)))) (iZ (gI kL (gy 0) (gy 1))) ji)
  (iZ (cM (.int 0))))
def iT(c:Cs):List T->M T:=nr 2 2 (mw c)
def vj(c:Cs):En->O:=(Ii 0 1 (gn (gy 1) (gn (gI rK (gy 0) (gy 1)) gA)))
def xa(c:Cs):En->O:=(gR (setO 0 (jx (j9 qo (gn (gy 0) gA))))
  (gR (setO 1 (jx (j9 qo (gn (gy 1) gA))))
  (gR (λa=>lA (j4 (gI Mv (gy 1) (cM (.int 0)))) (vj c) ((λa=>match a with|_::some (.p (.int j))::_=>j.natAbs+1|_=>0) a) a)
  (iZ (gy 0)))))
def kC(c:Cs):List T->M T:=nr 2 2 (xa c)
def AG(c:Cs):En->O:=(iZ (xi (zY "int" (gy 0)) (CG (zY "bool" (gy 0)))))
def jA(c:Cs):List T->M T:=nr 1 1 (AG c)
def CC(c:Cs):En->O:=(gR (oT (j4 (gI Mv (gy 0) (cM (.int 0)))) (iZ (cM (.int 1))) ji)
  (gR (oT (j4 (gI Ks (gy 0) (cM (.int 0)))) (iZ (nv (λi=>.int (-i)) (cM (.int 1)))) ji)
  (iZ (cM (.int 0)))))
def jE(c:Cs):List T->M T:=nr 1 1 (CC c)
def uT(c:Cs):En->O:=(gR (oT (Lb (qO (j4 (zY "tuple" (gy 0)))) (j4 (gI (iP true) (j9 kc (gn (gy 0) gA)) (cM (.int 2))))) (iZ (cM (.bl false))) ji)
  (gR (oT (Lb (qO (j4 (gP (gn (gI kL (gy 0) (cM (.int 0))) gA) (jA c)))) (qO (j4 (gP (gn (gI kL (gy 0) (cM (.int 1))) gA) (jA c))))) (iZ (cM (.bl false))) ji)
  (iZ (xi (gI PF (gI kL (gy 0) (cM (.int 1))) (cM (.int 1))) (gI (iP false) (gP (gn (gI kL (gy 0) (cM (.int 0))) (gn (gI kL (gy 0) (cM (.int 1))) gA)) (gY c)) (cM (.int 1)))))))
def jG(c:Cs):List T->M T:=nr 1 1 (uT c)
def Dq(c:Cs):En->O:=(iZ (xi (gP (gn (gy 0) gA) (jA c)) (II B4 B4 (cM (.int 1)) (gy 0) (cM (.int 3)))))
def mP(c:Cs):List T->M T:=nr 1 1 (Dq c)
def tV(c:Cs):Pe->M T:=(gP (gn (gy 0) gA) (jG c))
def Dl(c:Cs):En->O:=(gR (oT (Lb (qO (j4 (zY "tuple" (gy 1)))) (j4 (gI (iP true) (j9 kc (gn (gy 1) gA)) (gy 0)))) (iZ (cM (.bl false))) ji)
  (iZ (j9 Cm (gn (jb (kP [none] (iR (gy 1)) (j6 0) (λ_=>.ok true) (tV c))) gA))))
def mL(c:Cs):List T->M T:=nr 2 2 (Dl c)
def zi(c:Cs):En->O:=(setO 3 (jx (gI kW (gy 3) (gy 2))))
def AR(c:Cs):En->O:=(gR (oT (j4 (gI PF (gy 0) (gI Hy (cM (.int 10)) (cM (.int 18))))) (gR (setO 3 (jx (gy 0)))
  (gR (tm (rO (gn (gy 1) gA)) (nj 4) (zi c))
  (iZ (gI rK (gy 3) (gy 2))))) ji)
  (gR (setO 5 (jx (gI rK (gI jN (gI iG (gI iG (gI rK (gy 0) (cM (.int 1000000007))) (gI jN (cM (.int 1009)) (gy 1))) (cM (.int 17))) (cM (.int 69621))) (cM (.int 2147483647)))))
  (gR (setO 5 (jx (gI rK (gI iG (gI iG (gI jN (gy 5) (gy 5)) (gI jN (cM (.int 40503)) (gy 1))) (cM (.int 5))) (cM (.int 2147483629)))))
  (iZ (gI rK (gI kW (gI rK (gI jN (gy 5) (cM (.int 48271))) (cM (.int 2147483647))) (cM (.int 32))) (gy 2))))))
def ia(c:Cs):List T->M T:=nr 3 6 (AR c)
def FZ(c:Cs):Pe->M T:=(gI jN (gy 0) (gy 1))
def OM(c:Cs):En->O:=(iZ (j9 G9 (gn (jb (kP [none,none] (t9 (gn (gy 0) (gn (gy 1) gA))) (nH 2 (iU (j6 0) (iU (j6 1) nY))) (λ_=>.ok true) (FZ c))) gA)))
def qJ(c:Cs):List T->M T:=nr 2 2 (OM c)
def v8(c:Cs):En->O:=(gR (setO 1 (jx (gP (gn (gy 1) (gn (gy 2) gA)) (gY c))))
  (oT (j4 (gI (iP false) (gy 1) (cM (.int 1)))) (iZ (gy 0)) ji))
def Dt(c:Cs):Pe->M T:=(gI kW (gy 0) (gy 1))
def FH(c:Cs):En->O:=(gR (setO 1 (jx (cM (.int 0))))
  (gR (pV (iR (gy 0)) (nj 2) (v8 c))
  (gR (oT (j4 (gI (iP false) (gy 1) (cM (.int 0)))) (iZ (gy 0)) ji)
  (iZ (j9 jX (gn (jb (kP [none,some 1] (iR (gy 0)) (j6 0) (λ_=>.ok true) (Dt c))) gA))))))
def jS(c:Cs):List T->M T:=nr 1 3 (FH c)
def Ao(c:Cs):Pe->M T:=(gI iG (gI jN (gy 2) (gy 0)) (gI jN (gy 3) (gy 1)))
def Dc(c:Cs):En->O:=(gR (oT (j4 (gI (iP false) (gI kL (gy 0) (gy 2)) (cM (.int 0)))) (iZ (gy 0)) ji)
  (gR (setO 3 (jx (j9 qo (gn (gI kL (gy 1) (gy 2)) gA))))
  (gR (setO 4 (jx (gI jN (nv (λi=>.int (-i)) (gI kL (gy 0) (gy 2))) (gP (gn (gI kL (gy 1) (gy 2)) gA) (jE c)))))
  (iZ (gP (gn (j9 jX (gn (jb (kP [none,none,some 3,some 4] (t9 (gn (gy 0) (gn (gy 1) gA))) (nH 2 (iU (j6 0) (iU (j6 1) nY))) (λ_=>.ok true) (Ao c))) gA)) gA) (jS c))))))
def iK(c:Cs):List T->M T:=nr 3 5 (Dc c)
def rZ(c:Cs):En->O:=(gR (wY 4 (vf (Nf (jb (lstM (gn (cM (.int 0)) gA))) (j9 kc (gn (gy 0) gA)))))
  (gR (Dx 4 (vX (gy 2)) (vX (cM (.int 1))))
  (nA 1 (vX (gI iG (gy 3) (j9 jX (gn (gy 4) gA)))))))
def zI(c:Cs):En->O:=(gR (wY 1 (vf (lstM gA)))
  (gR (pV (lY (gn (gy 0) gA)) (nQ 2 (jm (nj 2) (jm (nj 3) nO))) (rZ c))
  (oq 1)))
def kY(c:Cs):List T->M (List T):=zH 1 5 (zI c)
def pA(c:Cs):En->O:=(setO 0 (jx (gP (gn (gy 0) (gn (gy 3) (gn (gy 2) gA))) (iK c))))
def Du(c:Cs):En->O:=(gR (pV (iR (gy 1)) (nQ 2 (jm (nj 2) (jm (nj 3) nO))) (pA c))
  (iZ (gy 0)))
def mH(c:Cs):List T->M T:=nr 2 4 (Du c)
def oQ(c:Cs):Pe->M T:=(kS (gn (gy 0) (gn (gP (gn (gy 1) (gn (gy 2) (gn (gy 3) gA))) (iK c)) gA)))
def wV(c:Cs):En->O:=(nV (zA (jb (kP [none,none,some 1,some 2] (iR (gy 0)) (nH 2 (iU (j6 0) (iU (j6 1) nY))) (λ_=>.ok true) (oQ c))) (jb (lstM (gn (kS (gn (gy 2) (gn (gy 1) gA))) gA)))))
def jY(c:Cs):List T->M (List T):=zH 3 3 (wV c)
def lD(c:Cs):Pe->M T:=(gy 0)
def j3(c:Cs):En->O:=(gR (setO 5 (jx (gP (gn (gy 4) (gn (gy 2) gA)) (mH c))))
  (gR (setO 6 (jx (jb (kP [none,some 5] (rO (gn (gy 1) gA)) (j6 0) (j4 (gI (iP true) (gI kL (gy 1) (gy 0)) (cM (.int 0)))) (lD c)))))
  (oT (j4 (gI (iP false) (gy 6) (jb (lstM gA)))) (nA 3 (jx (gy 5))) (setO 2 (jx (jb (il (gn (gy 2) (gn (gy 5) (gn (gI kL (gy 6) (cM (.int 0))) gA))) (jY c))))))))
def pC(c:Cs):En->O:=(gR (setO 2 (jx (jb (lstM gA))))
  (gR (wY 3 (vf (lstM gA)))
  (gR (pV (iR (gy 0)) (nj 4) (j3 c))
  (iZ (kS (gn (gy 2) (gn (gy 3) gA)))))))
def iB(c:Cs):List T->M T:=nr 2 7 (pC c)
def qg(c:Cs):En->O:=(setO 1 (jx (gI kW (gI jN (gy 1) (gI kL (gy 2) (cM (.int 1)))) (gP (gn (gy 1) (gn (gI kL (gy 2) (cM (.int 1))) gA)) (gY c)))))
def qi(c:Cs):Pe->M T:=(gI jN (gI kL (gy 0) (cM (.int 0))) (gI kW (gy 1) (gI kL (gy 0) (cM (.int 1)))))
def yX(c:Cs):En->O:=(gR (setO 1 (jx (cM (.int 1))))
  (gR (pV (iR (gy 0)) (nj 2) (qg c))
  (iZ (gP (gn (j9 jX (gn (jb (kP [none,some 1] (iR (gy 0)) (j6 0) (λ_=>.ok true) (qi c))) gA)) gA) (jS c)))))
def ju(c:Cs):List T->M T:=nr 1 3 (yX c)
def CQ(c:Cs):En->O:=(iZ (gI uX (gP (gn (jU (gy 0) (λ_=>.ok none) (iM (nv (λi=>.int (-i)) (cM (.int 1))))) (gn (jU (gy 1) (λ_=>.ok none) (iM (nv (λi=>.int (-i)) (cM (.int 1))))) gA)) (qJ c)) (gI jN (gI kL (gy 0) (nv (λi=>.int (-i)) (cM (.int 1)))) (gI kL (gy 1) (nv (λi=>.int (-i)) (cM (.int 1)))))))
def jq(c:Cs):List T->M T:=nr 2 2 (CQ c)
def qf(c:Cs):En->O:=(gR (setO 6 (jx (j9 qo (gn (gP (gn (jU (gy 5) (λ_=>.ok none) (iM (nv (λi=>.int (-i)) (cM (.int 1))))) (gn (jU (gy 1) (λ_=>.ok none) (iM (nv (λi=>.int (-i)) (cM (.int 1))))) gA)) (qJ c)) gA))))
  (setO 4 (jx (j9 uc (gn (gy 4) (gn (gI iG (gI kW (gy 6) (j9 qo (gn (gP (gn (gy 5) (gn (gy 2) gA)) (jq c)) gA))) (cM (.int 1))) gA))))))
def pT(c:Cs):Pe->M T:=(gI iG (gI jN (gy 2) (gy 0)) (gI jN (gy 3) (gy 1)))
def yU(c:Cs):En->O:=(gR (setO 4 (jx (cM (.int 1))))
  (gR (pV (iR (gy 0)) (nj 5) (qf c))
  (gR (setO 7 (jx (jb (kP [none,none,some 4,some 3] (t9 (gn (jU (gy 2) (λ_=>.ok none) (iM (nv (λi=>.int (-i)) (cM (.int 1))))) (gn (jU (gy 1) (λ_=>.ok none) (iM (nv (λi=>.int (-i)) (cM (.int 1))))) gA))) (nH 2 (iU (j6 0) (iU (j6 1) nY))) (λ_=>.ok true) (pT c)))))
  (iZ (gP (gn (gI iG (j9 jX (gn (gy 7) gA)) (kS (gn (gI jN (gy 4) (gI kL (gy 2) (nv (λi=>.int (-i)) (cM (.int 1))))) gA))) gA) (jS c))))))
def jt(c:Cs):List T->M T:=nr 4 8 (yU c)
def sr(c:Cs):En->O:=(iZ (gI iG (jU (gy 0) (λ_=>.ok none) (iM (gy 1))) (jU (gy 0) (iM (gI iG (gy 1) (cM (.int 1)))) (λ_=>.ok none))))
def iz(c:Cs):List T->M T:=nr 2 2 (sr c)
def rP(c:Cs):Pe->M T:=(gI jN (gy 1) (gy 0))
def zS(c:Cs):En->O:=(gR (setO 3 (jx (j9 qo (gn (gI kL (gy 0) (gy 1)) gA))))
  (gR (setO 4 (jx (gI jN (nv (λi=>.int (-i)) (gP (gn (gI kL (gy 0) (gy 1)) gA) (jE c))) (gP (gn (gP (gn (gy 0) (gn (gy 1) gA)) (iz c)) (gn (gy 2) gA)) (jq c)))))
  (gR (setO 5 (jx (j9 jX (gn (jb (kP [none,some 3] (iR (gy 2)) (j6 0) (λ_=>.ok true) (rP c))) gA))))
  (iZ (gP (gn (gI iG (gI iG (jU (gy 5) (λ_=>.ok none) (iM (gy 1))) (kS (gn (gy 4) gA))) (jU (gy 5) (iM (gy 1)) (λ_=>.ok none))) gA) (jS c))))))
def kg(c:Cs):List T->M T:=nr 3 6 (zS c)
def qe(c:Cs)(a:List T->M T):Pe->M T:=(gy 0)
def qc(c:Cs)(a:List T->M T):Pe->M T:=(gP (gn (gP (gn (gy 0) (gn (gy 2) (gn (gy 1) gA))) (iK c)) (gn (gy 1) gA)) (iz c))
def qB(c:Cs)(a:List T->M T):Pe->M T:=(CG (j9 xf (gn (gy 0) gA)))
def xt(c:Cs)(a:List T->M T):Pe->M T:=(kS (gn (gy 0) (gn (gP (gn (gy 2) (gn (gy 3) (gn (gy 1) gA))) (kg c)) gA)))
def zv(c:Cs)(a:List T->M T):En->O:=(gR (setO 2 (jx (jb (kP [none,none] (lY (gn (jU (gy 1) (λ_=>.ok none) (iM (nv (λi=>.int (-i)) (cM (.int 1))))) gA)) (nH 2 (iU (j6 0) (iU (j6 1) nY))) (j4 (gI (iP true) (gy 1) (cM (.int 0)))) (qe c a)))))
  (gR (oT (j4 (gI (iP false) (gy 2) (jb (lstM gA)))) (nV (lstM gA)) ji)
  (gR (setO 3 (jx (gI kL (gy 2) (cM (.int 0)))))
  (gR (setO 4 (jx (jb (kP [none,some 3,some 1] (iR (gy 0)) (j6 0) (λ_=>.ok true) (qc c a)))))
  (gR (oT (j4 (j9 xf (gn (jb (kP [none] (iR (gy 4)) (j6 0) (λ_=>.ok true) (qB c a))) gA))) (nV (lstM gA)) ji)
  (nV (kP [none,none,some 1,some 3] (iR (gP (gn (gy 4) (gn (gI uX (j9 kc (gn (gy 1) gA)) (cM (.int 2))) gA)) a)) (nH 2 (iU (j6 0) (iU (j6 1) nY))) (λ_=>.ok true) (xt c a))))))))
def jM(c:Cs)(a:List T->M T):List T->M (List T):=zH 2 5 (zv c a)
def kZ(c:Cs)(a:List T->M T):En->O:=(nA 4 (jx (kS (gn (gI iG (gy 5) (kS (gn (gy 7) gA))) (gn (gP (gn (gy 1) (gn (gy 2) (gn (gI DS (gy 3) (gy 5)) (gn (gy 7) gA)))) (jt c)) gA)))))
def mT(c:Cs)(a:List T->M T):En->O:=(oT (j4 (gI (zN false) (gy 5) (gy 3))) (pV (iR (kS (gn (nv (λi=>.int (-i)) (cM (.int 1))) (gn (cM (.int 1)) gA)))) (nj 7) (kZ c a)) (nA 4 (jx (kS (gn (gI iG (gy 5) (kS (gn (gP (gn (gP (gn (gy 2) (gn (gy 6) gA)) (jq c)) gA) (jE c)) gA))) (gn (gy 6) gA))))))
def sC(c:Cs)(a:List T->M T):En->O:=(gR (setO 3 (jx (j9 xU (gn (jb (il (gn (gy 1) (gn (gy 2) gA)) (jM c a))) gA))))
  (gR (wY 4 (vf (lstM gA)))
  (gR (pV (iR (gy 0)) (nQ 2 (jm (nj 5) (jm (nj 6) nO))) (mT c a))
  (oq 4))))
def jC(c:Cs)(a:List T->M T):List T->M (List T):=zH 3 8 (sC c a)
def zE(c:Cs)(a:List T->M T):En->O:=(setO 2 (jx (jb (il (gn (gy 2) (gn (jU (gy 0) (λ_=>.ok none) (iM (gy 3))) (gn (gy 4) gA))) (jC c a)))))
def JW(c:Cs)(a:List T->M T):En->O:=(gR (setO 2 (jx (jb (lstM (gn (kS (gn (kS gA) (gn (gI iG (Gm (kS (gn (cM (.int 0)) gA)) (gy 1)) (kS (gn (cM (.int 1)) gA))) gA))) gA)))))
  (gR (pV (lY (gn (gy 0) gA)) (nQ 2 (jm (nj 3) (jm (nj 4) nO))) (zE c a))
  (iZ (gy 2))))
def kr(c:Cs):Nat->List T->M T
 |0=>λ_=>.bad
 |k+1=>nr 2 5 (JW c (kr c k))
def rj(c:Cs):En->O:=(gR (setO 2 (jx (gP (gn (gy 0) (gn (gy 1) gA)) (kC c))))
  (gR (oT (j4 (gI Ks (gy 1) (cM (.int 0)))) (setO 2 (jx (nv (λi=>.int (-i)) (gy 2)))) ji)
  (iZ (kS (gn (gI kW (gy 0) (gy 2)) (gn (gI kW (gy 1) (gy 2)) gA))))))
def iV(c:Cs):List T->M T:=nr 2 3 (rj c)
def n5(c:Cs):Pe->M T:=(gP (gn (gy 1) (gn (gy 0) gA)) (mL c))
def ve(c:Cs):En->O:=(gR (oT (Lb (qO (j4 (gP (gn (gy 0) gA) (mP c)))) (Lb (qO (j4 (zY "list" (gy 1)))) (qO (j4 (II B4 B4 (cM (.int 1)) (j9 kc (gn (gy 1) gA)) (cM (.int 8))))))) (λ_=>.bad) ji)
  (oT (qO (j4 (j9 Cm (gn (jb (kP [none,some 0] (iR (gy 1)) (j6 0) (λ_=>.ok true) (n5 c))) gA)))) (λ_=>.bad) ji))
def je(c:Cs):List T->M T:=nr 2 2 (ve c)
def DB(c:Cs):Pe->M T:=(gI iG (gP (gn (gI iG (gy 0) (kS (gn (kS (gn (cM (.int 1)) (gn (cM (.int 1)) gA))) gA))) gA) (ju c)) (kS (gn (cM (.int 0)) gA)))
def Em(c:Cs):En->O:=(nV (kP [none] (iR (gy 0)) (j6 0) (λ_=>.ok true) (DB c)))
def lT(c:Cs):List T->M (List T):=zH 1 1 (Em c)
def oN(c:Cs):Pe->M T:=(gI jN (gy 1) (gI kL (gy 0) (nv (λi=>.int (-i)) (cM (.int 2)))))
def pJ(c:Cs):En->O:=(nV (kP [none,none] (t9 (gn (gy 0) (gn (gy 1) gA))) (nH 2 (iU (j6 0) (iU (j6 1) nY))) (λ_=>.ok true) (oN c)))
def iW(c:Cs):List T->M (List T):=zH 2 2 (pJ c)
def m5(c:Cs):Pe->M T:=(gI uX (gP (gn (gy 2) (gn (gI iG (gI jN (cM (.int 4)) (gy 3)) (gy 0)) (gn (gI iG (gI jN (cM (.int 2)) (gy 1)) (cM (.int 1))) gA))) (ia c)) (gy 1))
def lE(c:Cs):Pe->M T:=(gP (gn (gy 1) (gn (gI iG (cM (.int 1)) (gP (gn (gy 2) (gn (gI iG (gI iG (cM (.int 20)) (gI jN (cM (.int 3)) (gy 4))) (gy 0)) (gn (gy 3) gA))) (ia c))) gA)) (iV c))
def m8(c:Cs):En->O:=(gR (setO 8 (jx (jb (kP [none,some 4,some 1,some 7] (rO (gn (gy 2) gA)) (j6 0) (λ_=>.ok true) (m5 c)))))
  (gR (setO 9 (jx (j9 jX (gn (jb (kP [none,none,some 0,some 5,some 7] (lY (gn (gy 8) gA)) (nH 2 (iU (j6 0) (iU (j6 1) nY))) (λ_=>.ok true) (lE c))) gA))))
  (gR (oT (wO (j4 (gI (iP false) (gP (gn (gy 0) (gn (gI iG (cM (.int 50)) (gy 7)) (gn (cM (.int 9)) gA))) (ia c)) (cM (.int 1)))) (j4 (gI (iP true) (gy 6) (jb (lstM gA))))) (setO 9 (vX (gI kL (gy 6) (gP (gn (gy 0) (gn (gI iG (cM (.int 60)) (gy 7)) (gn (j9 kc (gn (gy 6) gA)) gA))) (ia c))))) ji)
  (nA 6 (jx (gy 9))))))
def yV(c:Cs):En->O:=(gR (setO 4 (jx (gI kL (jb (lstM (gn (cM (.int 1)) (gn (cM (.int 2)) (gn (cM (.int 3)) (gn (cM (.int 40)) gA)))))) (gP (gn (gy 0) (gn (cM (.int 3)) (gn (cM (.int 4)) gA))) (ia c)))))
  (gR (setO 5 (jx (gI kL (jb (lstM (gn (cM (.int 1)) (gn (cM (.int 1)) (gn (cM (.int 2)) (gn (cM (.int 5)) gA)))))) (gP (gn (gy 0) (gn (cM (.int 4)) (gn (cM (.int 4)) gA))) (ia c)))))
  (gR (wY 6 (vf (lstM gA)))
  (gR (tm (rO (gn (gI iG (cM (.int 1)) (gP (gn (gy 0) (gn (cM (.int 5)) (gn (gy 3) gA))) (ia c))) gA)) (nj 7) (m8 c))
  (oq 6)))))
def i8(c:Cs):List T->M (List T):=zH 4 10 (yV c)
def uS(c:Cs):Pe->M T:=(gy 0)
def wI(c:Cs):En->O:=(gR (wg (jx (gP (gn (gy 0) (gn (gy 1) gA)) (je c))))
  (nV (kP [none,none] (iR (gP (gn (jb (il (gn (gy 1) gA) (lT c))) (gn (gI iG (gy 0) (cM (.int 1))) gA)) (kr c 5))) (nH 2 (iU (j6 0) (iU (j6 1) nY))) (λ_=>.ok true) (uS c))))
def iw(c:Cs):List T->M (List T):=zH 2 2 (wI c)
def jh(c:Cs):Pe->M T:=(Qn (j4 (gI Ks (gy 0) (cM (.int 0)))) (nv (λi=>.int (-i)) (cM (.int 1))) (cM (.int 1)))
def r9(c:Cs):En->O:=(gR (wg (jx (gP (gn (gy 0) (gn (gy 1) gA)) (je c))))
  (gR (setO 2 (jx (jb (il (gn (gy 1) gA) (lT c)))))
  (gR (setO 3 (jx (gI kL (gP (gn (jb (il (gn (gy 2) gA) (kY c))) (gn (gI iG (gy 0) (cM (.int 1))) gA)) (iB c)) (cM (.int 1)))))
  (gR (oT (j4 (gI (iP false) (gy 3) (jb (lstM gA)))) (iZ (cM .non)) ji)
  (gR (setO 4 (jx (jb (il (gn (gy 2) (gn (jU (gI kL (gy 3) (cM (.int 0))) (iM (gI iG (gy 0) (cM (.int 2)))) (λ_=>.ok none)) gA)) (iW c)))))
  (iZ (kS (gn (j9 jX (gn (jb (kP [none] (iR (gy 4)) (j6 0) (λ_=>.ok true) (jh c))) gA)) (gn (gy 4) gA)))))))))
def ie(c:Cs):List T->M T:=nr 2 5 (r9 c)
def rE(c:Cs):En->O:=(gR (setO 3 (jx (gI kW (gI jN (gy 3) (gI iG (gI uX (gy 0) (gy 4)) (cM (.int 1)))) (gy 4))))
  (setO 2 (jx (gI iG (gy 2) (j9 uc (gn (cM (.int 0)) (gn (gy 3) gA)))))))
def si(c:Cs):En->O:=(gR (setO 2 (jx (cM (.int 1))))
  (gR (setO 3 (jx (cM (.int 1))))
  (gR (tm (EC (gn (cM (.int 1)) (gn (gI iG (gy 1) (cM (.int 1))) gA))) (nj 4) (rE c))
  (iZ (gy 2)))))
def i5(c:Cs):List T->M T:=nr 2 5 (si c)
def oZ(c:Cs):Pe->M T:=(nv (λi=>.int (-i)) (gy 0))
def mC(c:Cs):Pe->M T:=(j9 jX (gn (jb (kP [none] (iR (gy 0)) (j6 0) (λ_=>.ok true) (oZ c))) gA))
def mr(c:Cs):Pe->M T:=(gI iG (gy 0) (kS (gn (kS (gn (cM (.int 0)) (gn (cM (.int 1)) gA))) gA)))
def mq(c:Cs):Pe->M T:=(gI Iz (gy 0) (nv (λi=>.int (-i)) (cM (.int 1))))
def mh(c:Cs):Pe->M T:=(jU (gy 0) (λ_=>.ok none) (iM (nv (λi=>.int (-i)) (cM (.int 1)))))
def xS(c:Cs):En->O:=(gR (setO 3 (jx (jb (il (gn (gy 0) (gn (gy 1) gA)) (iw c)))))
  (gR (oT (j4 (gI (iP true) (gI Iz (jb (kP [none] (iR (gy 3)) (j6 0) (λ_=>.ok true) (mC c))) (nv (λi=>.int (-i)) (cM (.int 1)))) (gy 3))) (iZ (cM (.bl false))) ji)
  (gR (oT (j4 (gI Mv (j9 kc (gn (gy 3) gA)) (gI jN (cM (.int 2)) (gP (gn (gI uX (j9 kc (gn (gy 1) gA)) (cM (.int 1))) (gn (gy 0) gA)) (i5 c))))) (iZ (cM (.bl false))) ji)
  (gR (oT (j4 (gI (iP true) (gI (iP false) (j9 kc (gn (gy 3) gA)) (gI JP (cM (.int 1)) (j9 kc (gn (gy 1) gA)))) (gI (Ex false) (gP (gn (gy 0) (gn (gy 1) gA)) (ie c)) (cM .non)))) (iZ (cM (.bl false))) ji)
  (gR (oT (wO (j4 (gI Ks (gy 0) (cM (.int 3)))) (j4 (gI (iP true) (jb (il (gn (gI iG (gy 0) (cM (.int 1))) (gn (jb (kP [none] (iR (gy 1)) (j6 0) (λ_=>.ok true) (mr c))) gA)) (iw c))) (gy 3)))) (iZ (cM (.bl false))) ji)
  (gR (setO 4 (jx (jb (il (gn (gy 0) (gn (gI Iz (gy 1) (nv (λi=>.int (-i)) (cM (.int 1)))) gA)) (iw c)))))
  (gR (oT (j4 (gI (iP true) (jb (Iu (mJ false j8) (gn (jb (kP [none] (iR (gy 4)) (j6 0) (λ_=>.ok true) (mq c))) gA))) (gy 3))) (iZ (cM (.bl false))) ji)
  (gR (setO 5 (jx (jb (il (gn (gy 0) (gn (jb (zA (gy 1) (jb (lstM (gn (gI kL (jb (il (gn (gy 2) (gn (gI iG (gI kW (gy 2) (cM (.int 3))) (cM (.int 7))) (gn (gy 0) (gn (cM (.int 1)) gA)))) (i8 c))) (cM (.int 0))) gA))))) gA)) (iw c)))))
  (iZ (xi (II B4 B4 (j9 kc (gn (gy 3) gA)) (j9 kc (gn (gy 5) gA)) (gI jN (cM (.int 2)) (j9 kc (gn (gy 3) gA)))) (gI (iP false) (jb (Iu (mJ true λa=>j8 (ya a)) (gn (jb (kP [none] (iR (gy 5)) (j6 0) (λ_=>.ok true) (mh c))) gA))) (gy 3))))))))))))
def kH(c:Cs):List T->M T:=nr 3 6 (xS c)
def vt(c:Cs):En->O:=(gR (setO 2 (jx (gP (gn (gy 0) (gn (gI jN (cM (.int 2)) (gy 1)) gA)) (iT c))))
  (gR (setO 3 (jx (gI iG (cM (.int 1)) (gP (gn (gy 2) (gn (cM (.int 2)) (gn (cM (.int 3)) gA))) (ia c)))))
  (oT (qO (j4 (gP (gn (gy 3) (gn (jb (il (gn (gy 2) (gn (gP (gn (gy 0) (gn (gI iG (gI jN (cM (.int 2)) (gy 1)) (cM (.int 1))) gA)) (iT c)) (gn (gy 3) (gn (gI kL (jb (lstM (gn (cM (.int 5)) (gn (cM (.int 5)) (gn (cM (.int 4)) gA))))) (gI uX (gy 3) (cM (.int 1)))) gA)))) (i8 c))) (gn (gy 2) gA))) (kH c)))) (iZ (cM (.bl false))) ji)))
def FQ(c:Cs):En->O:=(gR (pV (iR (jb (lstM (gn (cM (.int 0)) (gn (cM (.int 1)) (gn (cM (.int 0)) gA)))))) (nj 1) (vt c))
  (iZ (cM (.bl true))))
def p9(c:Cs):List T->M T:=nr 1 4 (FQ c)
variable {c:Cs}
def ur ns (k:Nat):∃v,iT c [.scr ns,.int k]=.ok (.int v)/\(v=0\/v∈ns):=by
 by_cases h:(k:Int)<ns.length
 .obtain⟨a,e,b⟩:=zU ns k (by omega) h;exact⟨a,by simp[iT,mw,h,e],.inr b⟩
 .exact⟨0,by simp[iT,mw,h],.inl rfl⟩
def jo(h:i.natAbs<2 ^ 64):jN (.int i) (.int j)=.ok (.int (i*j)):=ja (CW h)
def Jp cell (k:Nat) b (A:0<b) (E:b<2 ^ 62) (J:k<=1000000):∃d,ia c [.int cell,.int (k:Int),.int b]=.ok (.int d)/\0<=d/\d<b:=by
 have f:b≠0:=by omega
 have z:∀x:Int,0<=x.fmod b/\x.fmod b<b:=λx=>⟨dN x A,dO x A⟩;have l:Hy (.int 10) (.int 18)=.ok (.int 1000000000000000000):=by simp[Hy,kh]
 by_cases h:(1000000000000000000:Int)<=cell
 .obtain⟨r,e,v,w,rfl⟩:=jW (m:=nj 4) (g:=setO 3 (jx (gI kW (gy 3) (gy 2)))) (λ(i:Nat)=>T.int (i:Int)) (λ_ r=>∃v w,r=[some (.p (.int cell)),some (.p (.int k)),some (.p (.int b)),some (.p (.int v)),w,none])
   (List.range k) 0 [some (.p (.int cell)),some (.p (.int k)),some (.p (.int b)),some (.p (.int cell)),none,none] ⟨_,_,rfl⟩ (by rintro i a r H ⟨v,w,rfl⟩;have hd:Builtin.divisionGoesByPylong v b=false:=Bn.noPy (n:=62) (by unfold Bn;omega) (by decide);exact⟨_,_,rfl,.inl (gK (by simp[ku f hd];rfl) rfl),_,_,rfl⟩)
  refine⟨v.fmod b,i3 rfl ?_,z v⟩;have o:zb (k:Int)=true:=lJ (by omega);refine nE (kz (by simp[l,h]) (gB (gK (by simp) rfl) (gB (Bb (by simp[o,JL]) e) (ij (by simp[og f]))))) rfl
 .have q:∀x y:Int,0<y->0<=x.fmod y/\x.fmod y<y:=λx y B=>⟨dN x B,dO x B⟩;have I:=q cell 1000000007 (by decide);have D:=q ((cell.fmod 1000000007+1009*k+17)*69621) 2147483647 (by decide);generalize s:((cell.fmod 1000000007+1009*k+17)*69621).fmod 2147483647=s1 at D;have C:=q (s1*s1+40503*k+5) 2147483629 (by decide);generalize u:(s1*s1+40503*k+5).fmod 2147483629=s2 at C;have F:Builtin.divisionGoesByPylong ((s2*48271).fmod 2147483647) 32=false:=Bn.noPy (n:=62) (by unfold Bn;decide) (by decide);refine⟨(((s2*48271).fmod 2147483647).fdiv 32).fmod b,i3 rfl ?_,z _⟩;refine gB (jv (by simp[l,h]) rfl) (gB (gK (t:=.int s1) ?_ rfl) (gB (gK (t:=.int s2) ?_ rfl) (ij ?_)))
  .rw[<-s];simp[og,jo (i:=1009) (j:=k) (by decide),jo (i:=cell.fmod 1000000007+1009*k+17) (j:=69621) (by omega)]
  .rw[<-u];simp[og,jo (i:=40503) (j:=k) (by decide),jo (i:=s1) (j:=s1) (by omega)]
  .simp[og,f,ku (j:=32) (by decide) F,jo (i:=s2) (j:=48271) (by omega)]
def dr(c:Cs)(a k b:Int):Int:=match ia c [.int a,.int k,.int b] with
 |.ok (.int d)=>d
 |_=>0
def lG cell k b (h:0<b) (a:b<2 ^ 62) (i:0<=k) (j:k<=1000000):ia c [.int cell,.int k,.int b]=.ok (.int (dr c cell k b))/\0<=dr c cell k b/\dr c cell k b<b:=by
 obtain⟨d,e,f,g⟩:=Jp cell k.toNat b h a (by omega);rw[cK i]at e;have:dr c cell k b=d:=by unfold dr;rw[e]
 rw[this];exact⟨e,f,g⟩
def Ce(l:LI)(i:Int)(f:0<=i)(d:i<l.length):∃w,kL (.lst (l.map T.int)) (.int i)=.ok (.int w)/\w∈l:=by obtain⟨a,e,b⟩:=zU l i f d;exact⟨a,by simp[qA,e],b⟩
def Hk i:(if i<0 then -i else i)=(i.natAbs:Int):=by split<;>omega
def ko a b:gY c [.int a,.int b]=.ok (.int (Cu.G a b)):=by
 obtain⟨d,e,x,w,rfl,i⟩:=pG (c:=j4 (gI (iP true) (gy 1) (cM (.int 0)))) (g:=gR (setO 2 (jx (gI rK (gy 0) (gy 1)))) (gR (setO 0 (jx (gy 1))) (setO 1 (jx (gy 2)))))
  (λd=>∃x y w,d=[some (.p (.int x)),some (.p (.int y)),w]/\Cu.G x y=Cu.G a b) (λd=>match d with|_::some (.p (.int j))::_=>j.natAbs|_=>0)
  (λd=>∃x w,d=[some (.p (.int x)),some (.p (.int 0)),w]/\Cu.G x 0=Cu.G a b) (by
   rintro d ⟨x,y,w,rfl,h⟩;by_cases f:y=0
   .subst f;exact .inl ⟨by simp,_,_,rfl,h⟩
   .refine .inr ⟨by simp[f],_,.inl (gB (gK (t:=.int (x.fmod y)) (by simp[og f]) rfl) (gB (gK (by simp) rfl) (gK (by simp) rfl))),⟨y,x.fmod y,_,rfl,?_⟩,?_⟩
    .rw[<-h];exact Cu.GQ x y
    .exact Cu.wC x y f)
  (b.natAbs+1) [some (.p (.int a)),some (.p (.int b)),none] ⟨a,b,none,rfl,rfl⟩ (cn _)
 refine i3 rfl (gB e (ij ?_));rw[Cu.zV]at i;simp[Hk,i]
def vg a b:kC c [.int a,.int b]=.ok (.int (Cu.G a b)):=by
 obtain⟨d,e,x,rfl,f,l⟩:=pG (c:=j4 (gI Mv (gy 1) (cM (.int 0)))) (g:=Ii 0 1 (gn (gy 1) (gn (gI rK (gy 0) (gy 1)) gA)))
  (λd=>∃x y:Int,d=[some (.p (.int x)),some (.p (.int y))]/\0<=x/\0<=y/\Cu.G x y=Cu.G a b) (λd=>match d with|_::some (.p (.int j))::_=>j.natAbs|_=>0)
  (λd=>∃x:Int,d=[some (.p (.int x)),some (.p (.int 0))]/\0<=x/\Cu.G x 0=Cu.G a b) (by
   rintro d ⟨x,y,rfl,f,hy0,h⟩;by_cases i:y=0
   .subst i;exact .inl ⟨by simp,_,rfl,f,h⟩
   .have k:0<y:=by omega
    refine .inr ⟨by simp[k],_,.inl (by simp[og i]),⟨y,x.fmod y,rfl,hy0,dN x k,?_⟩,?_⟩
    .rw[<-h];exact Cu.GQ x y
    .exact Cu.wC x y i)
  ((b.natAbs:Int).natAbs+1) [some (.p (.int (a.natAbs:Int))),some (.p (.int (b.natAbs:Int)))] ⟨_,_,rfl,by omega,by omega,Cu.NV a b⟩ (cn _)
 refine i3 rfl (gB (gK (by simp[Hk]) rfl) (gB (gK (t:=.int (b.natAbs:Int)) (by simp[Hk]) rfl) (gB e (ij ?_))));rw[Cu.zV]at l;have:x=Cu.G a b:=by omega
 simp[this]
def ze t b (d:b≠0) (hs:Bn 7000 b):iV c [.int t,.int b]=.ok (fr (t.fdiv (if b<0 then -Cu.G t b else Cu.G t b),b.fdiv (if b<0 then -Cu.G t b else Cu.G t b))):=by
 have i:=Cu.zq t b d;have f:=Cu.Lz t b d;have a:∀x:Int,Builtin.divisionGoesByPylong x (if b<0 then -Cu.G t b else Cu.G t b)=false:=λx=>by refine Bn.noPy (n:=7000) ?_ (by decide);unfold Bn at *;refine cf ?_ hs;split<;>omega
 have e:(if b<0 then -Cu.G t b else Cu.G t b)≠0:=by split<;>omega
 refine i3 rfl (gB (gK (t:=.int (Cu.G t b)) (by simp[vg]) rfl) (gB (ρ':=[some (.p (.int t)),some (.p (.int b)),some (.p (.int (if b<0 then -Cu.G t b else Cu.G t b)))]) ?_ (ij ?_)))
 .by_cases h:b<0
  .exact kz (by simp[h]) (gK (t:=.int (-Cu.G t b)) (by simp) (by simp[h]))
  .exact jv (by simp[h]) (by simp[h])
 .have g:2<=sizeLine:=by decide
  simp[ku e (a t),ku e (a b),g,fr]
structure HZ(p:Int×Int):Prop where
 pos:0<p.2
 one:Cu.G p.1 p.2=1
 b1:Bn 10 p.1
 b2:Bn 10 p.2
 sm:Bn 3 p.2
 st:Bn 6 p.1
def qr{t g:Int}(b:g ∣ t)(a:g≠0):(t.fdiv g).natAbs<=t.natAbs:=by obtain⟨k,rfl⟩:=b;rw[dU k a,aZ];exact Nat.le_mul_of_pos_left _ (by omega)
def Bn.of_le(h:x.natAbs<=m)(a:m<2 ^ n):Bn n x:=cf h a
def IV(t b:Int):Int×Int:=(t.fdiv (Cu.G t b),b.fdiv (Cu.G t b))
def IY t b (a:0<b) (hs:Bn 7000 b):iV c [.int t,.int b]=.ok (fr (IV t b)):=by rw[ze t b (by lia) hs,aS (by lia)];rfl
def CH t b (j:0<b) (h:Bn 6 t) (g:Bn 3 b):HZ (IV t b):=by
 have a:b≠0:=by lia
 have d:=Cu.Fy t b a;rw[aS (by lia)]at d;have i:=Cu.zq t b a;have f:Bn 3 (b.fdiv (Cu.G t b)):=cf (qr (Cu.lu t b) (by lia)) g;have e:Bn 6 (t.fdiv (Cu.G t b)):=cf (qr (Cu.lU t b) (by lia)) h;exact⟨d.pos,d.one,e.mono (by decide),f.mono (by decide),f,e⟩
def vP(d:Nat)(s:List (Int×Int)):Prop:=s.length=d/\∀p∈s,HZ p
def FO cell other wide under (a k:Nat) x3 x8 x9 ss (hd:1<=a/\a<=3) (hk:k<=10) (hw:1<=wide/\wide<=40) (hu:1<=under/\under<=5) (X:ss.length<=10) (L:∀s∈ss,vP a s) :
  ∃s h R,m8 c [some (.p (.int cell)),some (.p (.int other)),some (.p (.int a)),x3,some (.p (.int wide)),some (.p (.int under)),some (.o (ss.map tS)),some (.p (.int k)),x8,x9] =
   .nx [some (.p (.int cell)),some (.p (.int other)),some (.p (.int a)),x3,some (.p (.int wide)),some (.p (.int under)),some (.o ((ss++[s]).map tS)),some (.p (.int k)),h,R]/\vP a s:=by
 have hr:zb (a:Int)=true:=lJ (by lia);have sz:1000<sizeLine:=by decide
 let b:LI:=(List.range a).map λ(j:Nat)=>dr c other (4*k+j) (2*wide+1)-wide;have D:b.length=a:=by simp[b]
 have I:∀t∈b,t.natAbs<=40:=λt J=>by obtain⟨j,g,rfl⟩:=aE.mp J;have u:=aT.mp g;obtain⟨_,Y,Z⟩:=lG (c:=c) other (4*k+j) (2*wide+1) (by lia) (by lia) (by lia) (by lia);lia
 have B:∀j:Nat,j<a->ia c [.int cell,.int (20+3*k+j),.int under]=.ok (.int (dr c cell (20+3*k+j) under))/\0<=dr c cell (20+3*k+j) under/\dr c cell (20+3*k+j) under<under:=λj g=>lG cell _ under (by lia) (by lia) (by lia) (by lia);let d:List (Int×Int):=b.zipIdx.map λp=>IV p.1 (1+dr c cell (20+3*k+p.2) under);have w:vP a d:=by refine⟨by simp[d,D],λp z=>?_⟩;obtain⟨⟨t,j⟩,g,rfl⟩:=aE.mp z;have n:=eE g;obtain⟨_,f,Q⟩:=B j (by lia);dsimp only;refine CH _ _ (by lia) (Bn.of_le (I t ?_) (by decide)) (Bn.of_le (m:=5) (by lia) (by decide));rw[n.2.2];exact aW _
 obtain⟨x,E,F⟩:=lG (c:=c) cell (50+k) 9 (by decide) (by decide) (by lia) (by lia);have C:(kP [none,some 4,some 1,some 7] (rO (gn (gy 2) gA)) (j6 0) (λ_=>.ok true) (m5 c) (mU [some (.p (.int cell)),some (.p (.int other)),some (.p (.int a)),x3,some (.p (.int wide)),some (.p (.int under)),some (.o (ss.map tS)),some (.p (.int k)),x8,x9]))=.ok (b.map T.int):=by
  rw[wJ (List.range a) (λ(j:Nat)=>T.int (j:Int)) (λ(j:Nat)=>T.int (dr c other (4*k+j) (2*wide+1)-wide)) (by simp[hr,JL]) (by simp;lia) λj g=>?_]
  .simp[b]
  .have u:=aT.mp g;obtain⟨e,_,_⟩:=lG (c:=c) other (4*k+j) (2*wide+1) (by lia) (by lia) (by lia) (by lia);exact⟨_,rfl,rfl,by simp[m5,jo (i:=4) (j:=k) (by decide),jo (i:=2) (j:=wide) (by decide),e]⟩
 have K:(kP [none,none,some 0,some 5,some 7] (lY (gn (gy 8) gA)) (nH 2 (iU (j6 0) (iU (j6 1) nY))) (λ_=>.ok true) (lE c) (mU [some (.p (.int cell)),some (.p (.int other)),some (.p (.int a)),x3,some (.p (.int wide)),some (.p (.int under)),some (.o (ss.map tS)),some (.p (.int k)),some (.p (.lst (b.map T.int))),x9]))=.ok (d.map fr):=by
  rw[wJ b.zipIdx (λp=>T.tup [.int (p.2:Int),.int p.1]) (λp=>fr (IV p.1 (1+dr c cell (20+3*k+p.2) under))) (by simp[oJ]) (by simp[D];lia) λp z=>?_]
  .simp[d]
  .obtain⟨t,j⟩:=p;have n:=eE z;obtain⟨e,f,Q⟩:=B j (by lia);have S:=IY (c:=c) t (1+dr c cell (20+3*k+j) under) (by lia) (Bn.of_le (m:=5) (by lia) (aF (by decide:5<2 ^ 10) (de (by decide) (by decide))));exact⟨_,rfl,rfl,by simp[lE,jo (i:=3) (j:=k) (by decide),e,S]⟩
 have dl:=Hf ss;have l:∀s:List (Int×Int),∀h,nA 6 (jx (gy 9)) [some (.p (.int cell)),some (.p (.int other)),some (.p (.int a)),x3,some (.p (.int wide)),some (.p (.int under)),some (.o (ss.map tS)),some (.p (.int k)),h,some (.p (tS s))] =
   .nx [some (.p (.int cell)),some (.p (.int other)),some (.p (.int a)),x3,some (.p (.int wide)),some (.p (.int under)),some (.o ((ss++[s]).map tS)),some (.p (.int k)),h,some (.p (tS s))]:=λs h=>
  AQ (t:=tS s) rfl (by simp) (by simp;lia) (by simp)
 have q:j9 jX (gn (jb (kP [none,none,some 0,some 5,some 7] (lY (gn (gy 8) gA)) (nH 2 (iU (j6 0) (iU (j6 1) nY))) (λ_=>.ok true) (lE c))) gA) (mU [some (.p (.int cell)),some (.p (.int other)),some (.p (.int a)),x3,some (.p (.int wide)),some (.p (.int under)),some (.o (ss.map tS)),some (.p (.int k)),some (.p (.lst (b.map T.int))),x9])=.ok (tS d):=by simp only[j9,gn,gA,jb,K,M.bind_ok];rfl
 by_cases A:dr c cell (50+k) 9=1/\ss≠[]
 .obtain⟨f,hne⟩:=A;have P:=List.length_pos_iff.mpr hne;obtain⟨N,v,y⟩:=lG (c:=c) cell (60+k) ss.length (by lia) (by lia) (by lia) (by lia);obtain⟨s,H,U⟩:=zU ss (dr c cell (60+k) ss.length) v y;refine⟨s,some (.p (.lst (b.map T.int))),some (.p (tS s)),?_,L s U⟩;refine gB (gK (t:=.lst (b.map T.int)) (by simp only[jb,C,M.bind_ok]) rfl) (gB (gK (t:=tS d) q rfl) (gB (kz ?_ (JZ (t:=tS s) ?_ (by simp) rfl)) (l s _)))
  .simp[x,f,pW true (ss.map tS) (by simp) (by lia),hne]
  .simp[N,qA,H]
 .refine⟨d,some (.p (.lst (b.map T.int))),some (.p (tS d)),?_,w⟩;refine gB (gK (t:=.lst (b.map T.int)) (by simp only[jb,C,M.bind_ok]) rfl) (gB (gK (t:=tS d) q rfl) (gB (jv ?_ rfl) (l d _)));by_cases f:dr c cell (50+k) 9=1
  .have r:ss=[]:=by
    by_cases r:ss=[]
    .exact r
    .exact absurd ⟨f,r⟩ A
   subst r;simp[x,f,pW true [] rfl (by decide)]
  .simp[x,f]
def yh cell other (f b:Nat) (hd:1<=f/\f<=3) (hm:1<=b/\b<=9) :
  ∃ss:List (List (Int×Int)),i8 c [.int cell,.int other,.int f,.int b]=.ok (ss.map tS)/\1<=ss.length/\ss.length<=b/\∀s∈ss,vP f s:=by
 obtain⟨S,y,v⟩:=lG (c:=c) cell 3 4 (by decide) (by decide) (by decide) (by decide);obtain⟨R,E,r⟩:=lG (c:=c) cell 4 4 (by decide) (by decide) (by decide) (by decide);obtain⟨Z,Q,J⟩:=lG (c:=c) cell 5 b (by lia) (by lia) (by decide) (by decide);obtain⟨h,I,hw⟩:=Ce [1,2,3,40] _ y v;obtain⟨d,H,L⟩:=Ce [1,1,2,5] _ E r;have x:1<=h/\h<=40:=by simp only[aG,dY,or_false]at hw;lia
 have D:1<=d/\d<=5:=by simp only[aG,dY,or_false]at L;lia
 let n:Nat:=(1+dr c cell 5 b).toNat;have hn:(n:Int)=1+dr c cell 5 b:=cK (by lia);have hr:zb (1+dr c cell 5 b)=true:=lJ (by lia);obtain⟨B,e,ss,A,j,l,rfl,F,k⟩:=jW (m:=nj 7) (g:=m8 c) (λ(i:Nat)=>T.int (i:Int))
  (λi B=>∃(ss:List (List (Int×Int))) (A j l:Option W),B=[some (.p (.int cell)),some (.p (.int other)),some (.p (.int f)),some (.p (.int b)),some (.p (.int h)),some (.p (.int d)),some (.o (ss.map tS)),A,j,l]/\ss.length=i/\∀s∈ss,vP f s)
  (List.range n) 0 [some (.p (.int cell)),some (.p (.int other)),some (.p (.int f)),some (.p (.int b)),some (.p (.int h)),some (.p (.int d)),some (.o []),none,none,none] ⟨[],none,none,none,rfl,rfl,λs hs=>nomatch hs⟩ (by
   rintro i a B w ⟨ss,A,j,l,rfl,F,k⟩;have P:i<n:=by simpa using (ae.mp w).1
   have u:a=i:=by rw[List.getElem?_range P]at w;cases w;rfl
   subst u;obtain⟨s,N,Y,K,U⟩:=FO (c:=c) cell other h d f a (some (.p (.int b))) j l ss hd (by lia) x D (by lia) k;refine⟨_,_,rfl,.inl K,ss++[s],_,N,Y,rfl,by simp;lia,λz X=>?_⟩;rcases aj.mp X with q|q
   .exact k z q
   .rw[ak.mp q];exact U)
 have C:(List.range n).length=n:=by simp
 rw[C]at F;refine⟨ss,nL rfl ?_,by lia,by lia,k⟩;refine gB (gK (t:=.int h) ?_ rfl) (gB (gK (t:=.int d) ?_ rfl) (gB (tT (ts:=[]) (by simp) rfl) (gB (Bb ?_ e) rfl)))
 .have:4<=sizeLine:=by decide
  simp[S,this]at I ⊢;simpa using I
 .have:4<=sizeLine:=by decide
  simp[R,this]at H ⊢;simpa using H
 .simp[Z,hr,JL,n]
noncomputable def jz(x:Int):Int:=if 0<x then 1 else if x<0 then -1 else 0
def oH x:-1<=jz x/\jz x<=1:=by unfold jz;split<;>(try split)<;>lia
def mX x:jE c [.int x]=.ok (.int (jz x)):=by
 unfold jz;by_cases h:0<x
 .rw[aR h];exact i3 rfl (nE (kz (by simp[h]) (ij (by simp))) rfl)
 .rw[aS h];by_cases a:x<0
  .rw[aR a];exact i3 rfl (gB (jv (by simp[h]) rfl) (nE (kz (by simp[a]) (ij (by simp))) rfl))
  .rw[aS a];exact i3 rfl (gB (jv (by simp[h]) rfl) (gB (jv (by simp[a]) rfl) (ij (by simp))))
def BL(bs:List Bool):Cm [.lst (bs.map T.bl)]=.ok (.bl (bs.all id)):=by simp
def Jj(bs:List Bool):xf [.lst (bs.map T.bl)]=.ok (.bl (bs.any id)):=by simp
def QG(a:Int×Int)(p:Int×(Int×Int)):Int×Int:=(a.1*p.2.2+p.1*p.2.1*a.2,a.2*p.2.2)
def Q0(b:List (Int×(Int×Int)))(a:Int):Int:=(b.foldl QG (a,1)).1
def KG(l:List α)(h:l≠[]):oX l (-1)=l.getLast?:=by obtain⟨m,a,rfl⟩:∃m a,l=m++[a]:=⟨l.dropLast,l.getLast h,(List.dropLast_concat_getLast h).symm⟩;rw[L2.Gv];simp
def G1 p (f:0<p.2) (d:Cu.G p.1 p.2=1):jG c [fr p]=.ok (.bl true):=by
 obtain⟨t,u⟩:=p;have a:oX [T.int t,T.int u] 1=some (.int u):=rfl;have b:oX [T.int t,T.int u] 0=some (.int t):=rfl;have w:∀i:Int,jA c [.int i]=.ok (.bl true):=λi=>rfl;refine i3 rfl (gB (jv (by simp[fr]) rfl) (gB (jv (by simp[fr,b,a,w]) rfl) (ij ?_)));have e:1<=u:=by lia
 simp[fr,b,a,e,ko,d]
def tR p (h:HZ p):jG c [fr p]=.ok (.bl true):=G1 p h.pos h.one
def AL d s (h:vP d s) (hd:d<=3):mL c [.int d,tS s]=.ok (.bl true):=by
 have sz:1000<sizeLine:=by decide
 have a:=h.1;have b:kP [none] (iR (gy 1)) (j6 0) (λ_=>.ok true) (tV c) (vw (jj 2 [.int d,tS s]))=.ok ((s.map λ_=>true).map T.bl):=by exact i4 s fr (λ_=>T.bl true) rfl (by lia) (λp e=>⟨_,rfl,rfl,nT rfl (tR p (h.2 p e))⟩) (by simp)
 refine i3 rfl (gB (jv (by simp[tS,a]) rfl) (ij (vC b ?_)));rw[BL];simp
def Ay(d:Nat)(h:1<=d/\d<=3):mP c [.int d]=.ok (.bl true):=by
 have w:jA c [.int d]=.ok (.bl true):=rfl;have b:(1:Int)<=d:=by lia
 have a:(d:Int)<=3:=by lia
 exact i3 rfl (ij (by simp[w,b,a]))
def nG d (ss:List (List (Int×Int))) (hd:1<=d/\d<=3) (g:1<=ss.length/\ss.length<=8) (h:∀s∈ss,vP d s):je c [.int d,.lst (ss.map tS)]=.ok .non:=by
 have sz:1000<sizeLine:=by decide
 have a:kP [none,some 0] (iR (gy 1)) (j6 0) (λ_=>.ok true) (n5 c) (vw (jj 2 [.int d,.lst (ss.map tS)]))=.ok ((ss.map λ_=>true).map T.bl):=by exact i4 ss tS (λ_=>T.bl true) rfl (by lia) (λp f=>⟨_,rfl,rfl,kJ rfl rfl (AL d p (h p f) hd.2)⟩) (by simp)
 have b:(1:Int)<=ss.length:=by lia
 have e:(ss.length:Int)<=8:=by lia
 refine Oi rfl (gB (jv (by simp[Ay d hd,b,e]) rfl) (jv (FX (jI (vC a (BL _))) (by simp)) rfl))
def OU n:(List.replicate n [T.int 0]).flatten=(List.replicate n (0:Int)).map T.int:=by
 induction n with
 |zero=>rfl
 |succ n ih=>rw[bU,bV,ih,bU];rfl
def NI(n:Nat)(d:n<=1000)(h:f ρ=.ok (.int (n:Int))):jb (Nf (jb (lstM (gn (cM (.int 0)) gA))) f) ρ=.ok (.lst ((List.replicate n (0:Int)).map T.int)):=by
 have sz:1000<sizeLine:=by decide
 have hr:zb n=true:=lJ (by lia);have b:1<=sizeLine:=by decide
 have a:n<=sizeLine:=by lia
 simp[h,hr,b,a,OU]
def NY(n:Nat)(d:n<=1000)(h:f ρ=.ok (.int (n:Int))):Gm (kS (gn (cM (.int 0)) gA)) f ρ=.ok (.tup ((List.replicate n (0:Int)).map T.int)):=by
 have sz:1000<sizeLine:=by decide
 have hr:zb n=true:=lJ (by lia);have b:1<=sizeLine:=by decide
 have a:n<=sizeLine:=by lia
 simp[h,zr,hr,b,a,OU]
end CL
namespace CL
open PySem L2 L3
variable {c:Cs}
def Mx:Bn (n+1) 1:=by unfold Bn;rw[dc];have:=eG n;lia
def Q3 a b:kL (fr (a,b)) (.int 0)=.ok (.int a):=rfl
def PM a b:kL (fr (a,b)) (.int 1)=.ok (.int b):=rfl
def nB(k:Nat)(s:List (Int×Int)):Int×Int:=s.getD k (0,1)
def L6(h:vP d s)(b:k<d):kL (tS s) (.int (k:Int))=.ok (fr (nB k s))/\HZ (nB k s):=by
 have a:k<s.length:=by rw[h.1];exact b
 have e:nB k s=s[k]:=by unfold nB;rw[ag,ai a];rfl
 rw[e];refine⟨?_,h.2 _ (aW a)⟩;have:oX (s.map fr) k=some (fr s[k]):=by unfold oX xO;rw[aR (by lia),aR (by simp;lia)];simp[a]
 simp[tS,this]
def ML(a:LI):G9 [.lst (a.map T.int)]=.ok (.int a.sum):=by simp
end CL
namespace L3
open PySem L2
theorem yr{j:Type} enc (P:Nat->En->Prop) (R:T->Prop):∀(l:List j) (k:Nat) (ρ:En),P k ρ->
  (∀i a ρ,l[i]? = some a->P (k+i) ρ->∃d,m (enc a) ρ=some d/\((∃c,g d=.nx c/\P (k+i+1) c)\/∃t,g d=.rt t/\R t))->
  (∃ρ',jP m g (l.map enc) ρ=.nx ρ'/\P (k+l.length) ρ')\/∃t,jP m g (l.map enc) ρ=.rt t/\R t
 |[],k,ρ,h,_=>.inl ⟨ρ,rfl,h⟩
 |a::l,k,ρ,h,st=>by
  obtain⟨d,o,p⟩:=st 0 a ρ rfl h;rw[b8,jP,o];dsimp only;rcases p with⟨c,e,f⟩|⟨t,e,f⟩
  .rw[e];rw[aA,show k+(l.length+1)=k+1+l.length by lia];exact yr enc P R l (k+1) c f λi b ρ n q=>by have:=st (i+1) b ρ (by simpa using n) (by rw[show k+(i+1)=k+1+i by lia];exact q);rw[show k+1+i+1=k+(i+1)+1 by lia];exact this
  .rw[e];exact .inr ⟨t,rfl,f⟩
end L3
namespace CL
open PySem L2 L3
variable {c:Cs}
def G7(S b:Int)(k:0<S)(i:0<b):0<(S*b).fdiv (Cu.G S b)/\S ∣ (S*b).fdiv (Cu.G S b)/\b ∣ (S*b).fdiv (Cu.G S b)/\((S*b).fdiv (Cu.G S b)).natAbs<=(S*b).natAbs:=by
 have h:=Cu.zq S b (by lia);have g:Cu.G S b≠0:=by lia
 obtain⟨u,d⟩:=Cu.lU S b;obtain⟨v,hv⟩:=Cu.lu S b;have a:(S*b).fdiv (Cu.G S b)=u*b:=by
  conv=>lhs;arg 1;rw[d]
  rw[dR];exact dU _ g
 have j:u*b=S*v:=by
  conv=>lhs;rw[hv]
  conv=>rhs;rw[d]
  ac_rfl
 have f:0<u:=by
  refine aP λl=>?_;have e:u<=0:=by lia
  have:=eI e (aB h);rw[<-d,eJ]at this;lia
 refine⟨?_,?_,?_,qr ?_ g⟩
 .rw[a];exact aY f i
 .rw[a,j];exact⟨v,rfl⟩
 .rw[a];exact⟨u,dS _ _⟩
 .exact eK (Cu.lU S b) ⟨b,rfl⟩
def EG(l:List α)(k:Nat) h:oX l (k:Int)=some l[k]:=by unfold oX xO;rw[aR (by lia),aR (by lia)];simp[h]
def Jz(l:LI) k (h:k<l.length):oX l (k:Int)=some (l.getD k 0):=by rw[EG l k h,ag,ai h];rfl
def getD_mem(l:LI) k (h:k<l.length):l.getD k 0∈l:=by rw[ag,ai h];exact aW h
def n6 l (k:Nat) (h:k<l.length):kL (tI l) (.int (k:Int))=.ok (.int (l.getD k 0)):=by simp[tI,qA,Jz l k h]
def Bu x xs:kL (.lst (x::xs)) (.int 0)=.ok x:=by have h:=EG (x::xs) 0 (by simp);have a:oX (x::xs) 0=some x:=h;show (match oX (x::xs) 0 with|some t=>M.ok t|none=>.bad)=_;rw[a]
def Ht(a:Nat)(row b:LI):LI:=(b.zip row).map λp=>row.getD a 0*p.1-b.getD a 0*p.2
def sD a row here (h:row.length=here.length):(Ht a row here).length=here.length:=by simp[Ht,h]
def se(b:List (Nat×LI))(a:LI):LI:=b.foldl (λh p=>Ht p.1 p.2 h) a
def PY(e:f1 ρ=.ok a1)(d:f2 ρ=.ok a2)(a:f3 ρ=.ok a3):jb (lstM (gn f1 (gn f2 (gn f3 gA)))) ρ=.ok (.lst [a1,a2,a3]):=by
 have b:3<=sizeLine:=by decide
 simp only[jb,lstM,gn,gA,e,d,a,M.bind_ok,yx,aA,cF,b,if_true]
def Lx(e:fa ρ=.ok (.lst a))(d:fb ρ=.ok (.lst b))(f:a.length+b.length<=sizeLine):jb (zA fa fb) ρ=.ok (.lst (a++b)):=by simp only[jb,zA,e,d,M.bind_ok];rw[aR f];rfl
def QD n (x:T):(List.replicate n [x]).flatten=List.replicate n x:=by
 induction n with
 |zero=>rfl
 |succ n ih=>rw[bU,bV,ih,bU];rfl
end CL
namespace CL
abbrev Vc:=Nat->Int
inductive Qs(P:Vc->Prop):Vc->Prop
 |of {x:Vc}:P x->Qs P x
 |zero:Qs P λ_=>0
 |lin {x y z:Vc} {s a b:Int}:Qs P x->Qs P y->s≠0->(∀i,s*z i=a*x i+b*y i)->Qs P z
def Qs.sub(h:∀x,P x->Qs P' x)(q:Qs P z):Qs P' z:=by
 induction q with
 |of p=>exact h _ p
 |zero=>exact .zero
 |lin _ _ s e i1 i2=>exact .lin i1 i2 s e
def Qs.mono(h:∀x,P x->P' x)(q:Qs P z):Qs P' z:=q.sub λx p=>.of (h x p)
def Qs.comb a b (c:Qs P x) (d:Qs P y):Qs P λi=>a*x i+b*y i:=.lin (s:=1) c d (by decide) λi=>by rw[eN]
def Lc(P:Vc->Prop)(r:Vc):Vc->Prop:=λx=>P x\/x=r
def Qs.split(q:Qs (Lc P r) z):∃s a y,s≠0/\Qs P y/\∀i,s*z i=y i+a*r i:=by
 induction q with
 |of p=>
  rename_i x;rcases p with p|rfl
  .exact⟨1,0,x,by decide,.of p,λi=>by rw[eN,eO,eP]⟩
  .exact⟨1,1,λ_=>0,by decide,.zero,λi=>by rw[eQ]⟩
 |zero=>exact⟨1,0,λ_=>0,by decide,.zero,λi=>by simp⟩
 |lin _ _ hs e i1 i2=>
  rename_i x y z s a b _ _;obtain⟨c,g,j,o,u,l⟩:=i1;obtain⟨d,f,h,n,k,m⟩:=i2;refine⟨s*(c*d),a*d*g+b*c*f,_,eR hs (eR o n),u.comb (a*d) (b*c) k,λi=>?_⟩;calc s*(c*d)*z i=c*d*(s*z i):=by ac_rfl
   _=c*d*(a*x i+b*y i):=by rw[e]
   _=a*d*(c*x i)+b*c*(d*y i):=by rw[eS];ac_rfl
   _=a*d*(j i+g*r i)+b*c*(h i+f*r i):=by rw[l,m]
   _=a*d*j i+b*c*h i+(a*d*g+b*c*f)*r i:=by simp only[eS,Int.add_mul];ac_rfl
def Nd(P:Vc->Prop)(a:List Nat):Prop:=∀z,Qs P z->(∀p∈a,z p=0)->∀i,z i=0
def Nd.nil:Nd (λ_=>False) []:=λz q _=>by
 induction q with
 |of p=>exact p.elim
 |zero=>exact λ_=>rfl
 |lin _ _ hs e i1 i2=>
  intro i;have:=e i;rw[i1 (λp a=>nomatch a) i,i2 (λp a=>nomatch a) i,eJ,eJ,eP]at this;rcases eT.mp this with z|z
  .exact absurd z hs
  .exact z
def Nd.step(h:Nd P pl)(n:∀q∈pl,r q=0)(l:r p≠0):Nd (Lc P r) (pl++[p]):=λz q c i=>by
 obtain⟨s,a,y,g,k,e⟩:=q.split;have j:∀q∈pl,y q=0:=λq d=>by have:=e q;rw[c q (ay _ d),n q d,eJ,eJ,eP]at this;exact this.symm
 have b:=h y k j;have f:=e p;rw[c p (bE _ (ak.mpr rfl)),b p,eJ,eQ]at f;have m:a=0:=by
  rcases eT.mp f.symm with z|z
  .exact z
  .exact absurd z l
 have:=e i;rw[b i,m,eO,eP]at this;rcases eT.mp this with z|z
 .exact absurd z g
 .exact z
def Nd.less(h:Nd P pl)(a:∀x,P' x->Qs P x):Nd P' pl:=λz q=>h z (q.sub a)
def yn{v r y:Vc}(d:Nd P pl)(hs:s≠0)(c:Qs P y)(e:∀i,r i=s*v i+a*y i)(f:∀p∈pl,r p=0):(∀i,r i=0)↔Qs P v:=by
 constructor
 .intro h;refine .lin (a:=-a) (b:=0) c .zero hs λi=>?_;have:=e i;rw[h i]at this;rw[eJ,eP,eU];lia
 .intro h;refine d r ?_ f;have:=funext e;rw[this];exact h.comb s a c
end CL
namespace CL
open PySem L2 L3
variable {c:Cs}
noncomputable def vc(l:LI):Vc:=λi=>l.getD i 0
def iX l i (h:l.length<=i):vc l i=0:=by unfold vc;rw[ag,List.getElem?_eq_none h];rfl
def iO l i h:vc l i=l[i]:=by unfold vc;rw[ag,ai h];rfl
def Kx a row here (h:row.length=here.length) i:vc (Ht a row here) i=vc row a*vc here i-vc here a*vc row i:=by
 by_cases b:i<here.length
 .rw[iO (Ht a row here) i (by rw[sD a row here h];exact b),iO here i b,iO row i (by lia)];simp[Ht,vc]
 .rw[iX _ i (by rw[sD a row here h];lia),iX here i (by lia),iX row i (by lia),eJ,eJ];rfl
def DK(a:List (Nat×LI)):Vc->Prop:=λx=>∃p∈a,x=vc p.2
def VP(vs:LL):Vc->Prop:=λx=>∃v∈vs,x=vc v
theorem vN m P:∀d b,(∀p∈d,p.2.length=m/\P (vc p.2)/\vc p.2 p.1≠0)->b.length=m->d.Pairwise (λp q=>vc q.2 p.1=0)->
  ∃s y,s≠0/\Qs P y/\(∀i,vc (se d b) i=s*vc b i+1*y i)/\(∀k,vc b k=0->(∀p∈d,vc p.2 k=0)->vc (se d b) k=0)/\∀p∈d,vc (se d b) p.1=0
 |[],b,_,_,_=>⟨1,λ_=>0,by decide,.zero,λi=>by show vc b i=1*vc b i+1*0;lia,λk j _=>j,λp f=>nomatch f⟩
 | (a,row)::d,b,hA,hl,hw=>by
  obtain⟨z,w,o⟩:=hA (a,row) (bj ..);obtain⟨l,v⟩:=eA.mp hw;have g:(Ht a row b).length=m:=by rw[sD a row b (by lia),hl]
  have hv:=Kx a row b (by lia);obtain⟨s,y,x,u,e,z1,n⟩:=vN m P d (Ht a row b) (λp f=>hA p (bx _ f)) g v;refine⟨s*vc row a,_,eR x o,(u.comb 1 (-(s*vc b a)) (.of w)),λi=>?_,λk j f=>?_,λp f=>?_⟩
  .show vc (se d (Ht a row b)) i=_;rw[e i,hv i,eV,d8,eU,dR,dR,eN,eN];lia
  .refine z1 k ?_ λp h=>f p (bx _ h);have:=f (a,row) (bj ..);rw[hv k,j,this,eJ,eJ];rfl
  .rcases aG.mp f with rfl|f
   .refine z1 _ ?_ λq r=>l q r;rw[hv a,dS];lia
   .exact n p f
def xk(vs:LL)(j:Nat):Prop:=Qs (VP (vs.take j)) (vc (vs.getD j []))
structure PD(vs:LL)(m k:Nat)(ah:List (Nat×LI)):Prop where
 bd:∀p∈ah,p.1<m/\p.2.length=m
 nz:∀p∈ah,vc p.2 p.1≠0
 tri:ah.Pairwise (λp q=>vc q.2 p.1=0)
 nd:Nd (DK ah) (ah.map Prod.fst)
 sp:∀v∈vs.take k,Qs (DK ah) (vc v)
 ps:∀p∈ah,Qs (VP (vs.take k)) (vc p.2)
 le:ah.length<=k
 eq:ah.length=k↔∀j,j<k->¬xk vs j
def iJ{a:Type}(l:List a) k v (h:l[k]? = some v):l.take (k+1)=l.take k++[v]:=by rw[cO,h];rfl
def oB{a:Type}(l:List a) k v w (h:l[k]? = some v):l.getD k w=v:=by rw[ag,h];rfl
def VP.succ{vs:LL}(h:vs[k]? = some v) x (q:Qs (VP (vs.take k)) x):Qs (VP (vs.take (k+1))) x:=q.mono λz ⟨w,hw,e⟩=>⟨w,by rw[iJ vs k v h];exact ay _ hw,e⟩
theorem zc{m:Nat}:∀(a:List (Nat×LI)) (v:LI),(∀p∈a,p.2.length=m)->v.length=m->(se a v).length=m
 |[],v,_,h=>h
 |p::a,v,hp,h=>zc a (Ht p.1 p.2 v) (λq b=>hp q (by simp[b])) (by rw[sD _ _ _ (by rw[hp p (by simp),h]),h])
def C0 vs m k ah v (h:PD vs m k ah) (hv:vs[k]? = some v) (C:v.length=m) (r:(se ah v).length=m) :
  ((∀i,vc (se ah v) i=0)->PD vs m (k+1) ah)/\∀j,j<m->vc (se ah v) j≠0->PD vs m (k+1) (ah++[(j,se ah v)]):=by
 obtain⟨s,y,B,u,e,z1,A⟩:=vN m (DK ah) ah v (λp d=>⟨(h.bd p d).2,⟨p,d,rfl⟩,h.nz p d⟩) C h.tri;have l:∀q∈ah.map Prod.fst,vc (se ah v) q=0:=λq g=>by obtain⟨p,d,rfl⟩:=aE.mp g;exact A p d
 have f:=yn h.nd B u e l;have hd:xk vs k↔Qs (DK ah) (vc v):=by unfold xk;rw[oB vs k v [] hv];exact⟨λq=>q.sub λx ⟨w,hw,ex⟩=>by rw[ex];exact h.sp w hw,λq=>q.sub λx ⟨p,d,ex⟩=>by rw[ex];exact h.ps p d⟩
 generalize se ah v=R at *;constructor
 .intro E;have g:=f.mp E;refine⟨h.bd,h.nz,h.tri,h.nd,λw hw=>?_,λp d=>VP.succ hv _ (h.ps p d),by have:=h.le;lia,?_⟩
  .rw[iJ vs k v hv]at hw;rcases aj.mp hw with q|q
   .exact h.sp w q
   .rw[ak.mp q];exact g
  .constructor
   .intro z;have:=h.le;lia
   .intro z;exact absurd (hd.mpr g) (z k (by lia))
 .intro j H hne;have n:¬xk vs k:=λz=>hne (f.mpr (hd.mp z) j);have up:∀x,Qs (DK ah) x->Qs (DK (ah++[(j,R)])) x:=λx q=>q.mono λz ⟨p,d,ez⟩=>⟨p,ay _ d,ez⟩;have hR:Qs (DK (ah++[(j,R)])) (vc R):=.of ⟨(j,R),bE _ (ak.mpr rfl),rfl⟩;refine⟨λp d=>?_,λp d=>?_,?_,?_,λw hw=>?_,λp d=>?_,?_,?_⟩
  .rcases aj.mp d with q|q
   .exact h.bd p q
   .rw[ak.mp q];exact⟨H,r⟩
  .rcases aj.mp d with q|q
   .exact h.nz p q
   .rw[ak.mp q];exact hne
  .refine cU.mpr ⟨h.tri,dF _ _,λp d q g=>?_⟩;rw[ak.mp g];exact A p d
  .rw[a9];refine (Nd.step h.nd l hne).less λx ⟨p,d,ex⟩=>?_;rcases aj.mp d with q|q
   .exact .of (.inl ⟨p,q,ex⟩)
   .rw[ak.mp q]at ex;exact .of (.inr ex)
  .rw[iJ vs k v hv]at hw;rcases aj.mp hw with q|q
   .exact up _ (h.sp w q)
   .rw[ak.mp q];exact .lin (a:=1) (b:=-1) hR (up _ u) B λi=>by rw[e i];lia
  .rcases aj.mp d with q|q
   .exact VP.succ hv _ (h.ps p q)
   .rw[ak.mp q];have I:Qs (VP (vs.take (k+1))) (vc v):=.of ⟨v,by rw[iJ vs k v hv];exact bE _ (ak.mpr rfl),rfl⟩;have D:=u.sub λx ⟨p,d,ex⟩=>by rw[ex];exact VP.succ hv _ (h.ps p d)
    exact .lin (s:=1) I D (by decide) λi=>by rw[eN];exact e i
  .have:=h.le;simp;lia
  .rw[aU,bY];constructor
   .intro z i F;by_cases o:i=k
    .rw[o];exact n
    .exact h.eq.mp (by lia) i (by lia)
   .intro z;rw[h.eq.mpr λi F=>z i (by lia)]
theorem Hq{m:Nat}(vs:LL)(hv:∀v∈vs,v.length=m):∀k,k<=vs.length->∃b,PD vs m k b
 |0,_=>⟨[],(λp a=>nomatch a),(λp a=>nomatch a),List.Pairwise.nil,(λz q=>Nd.nil z (q.mono λx ⟨p,a,_⟩=>nomatch a)),(λv hv=>by simp at hv),(λp a=>nomatch a),aL _,⟨λ_ j f=>absurd f (cY _),λ_=>rfl⟩⟩
 |k+1,h=>by
  obtain⟨b,I⟩:=Hq vs hv k (by lia);have u:=ai (l:=vs) (i:=k) (by lia);have d:=hv _ (aW (l:=vs) (n:=k) (by lia));have e:=zc b (vs[k]'(by lia)) (λp a=>(I.bd p a).2) d;obtain⟨o,r⟩:=C0 vs m k b (vs[k]'(by lia)) I u d e;by_cases z:∃j,j<m/\vc (se b (vs[k]'(by lia))) j≠0
  .obtain⟨j,f,s⟩:=z;exact⟨_,r j f s⟩
  .refine⟨_,o λi=>?_⟩;by_cases g:i<m
   .exact aP λw=>z ⟨i,g,w⟩
   .exact iX _ i (by lia)
def pP(h:f ρ=.ok (.int i)):nv (λi=>.int (-i)) f ρ=.ok (.int (-i)):=by simp only[nv,h,M.bind_ok]
def oE:Bn n 0:=by unfold Bn;exact eG _
def mQ N (E:N<=8000) row (H:row.length<1000) (n:∀x∈row,Bn N x):∃g o,0<g/\jS c [tI row]=.ok (tI o)/\o.length=row.length/\(∀i,vc row i=g*vc o i)/\∀y∈o,Bn N y:=by
 have sz:1000<sizeLine:=by decide
 have main:=yr (m:=nj 2) (g:=v8 c) T.int
  (λk v=>∃(a:Int) (r:Option W),v=[some (.p (tI row)),some (.p (.int a)),r]/\0<=a/\Bn N a/\∀x∈row.take k,a ∣ x)
  (λt=>t=tI row) row 0 _ ⟨0,none,rfl,by decide,oE,λx f=>by simp at f⟩ (by
   rintro i x v d ⟨a,r,rfl,F,u,b⟩;rw[aH]at b ⊢;have s:=av d;refine⟨_,rfl,?_⟩;have w:setO 1 (jx (gP (gn (gy 1) (gn (gy 2) gA)) (gY c))) [some (.p (tI row)),some (.p (.int a)),some (.p (.int x))]=.nx [some (.p (tI row)),some (.p (.int (Cu.G a x))),some (.p (.int x))]:=gK (kJ rfl rfl (ko a x)) rfl;by_cases h:Cu.G a x=1
   .right;exact⟨_,gB w (kz (jI (gC rfl rfl (by rw[km,h];rfl))) (ij rfl)),rfl⟩
   .left;refine⟨_,gB w (jv (jI (gC rfl rfl (by rw[km];simp[h]))) rfl),_,_,rfl,Cu.tN _ _,?_,λz A=>?_⟩
    .by_cases j:x=0
     .rw[j,Cu.zV];exact cf (by lia) u
     .have J:=Cu.Lz a x j;have I:=Cu.tN a x;exact cf (by lia) (n x s)
    .rw[iJ row i x d]at A;rcases aj.mp A with q|q
     .exact eK (Cu.lU a x) (b z q)
     .rw[ak.mp q];exact Cu.lu a x)
 rcases main with⟨D,e,a,r,rfl,F,u,b⟩|⟨t,e,rfl⟩
 .rw[aH,eW]at b;by_cases l:a=0
  .exact⟨1,row,by decide,i3 rfl (gB (gK rfl rfl) (gB (lB rfl e) (nE (kz (jI (gC rfl rfl (by rw[km,l];rfl))) (ij rfl)) rfl))),rfl,λi=>by rw[eN],n⟩
  .refine⟨a,row.map (λx=>x.fdiv a),by lia,i3 rfl (gB (gK rfl rfl) (gB (lB rfl e) (gB (jv (jI (gC rfl rfl (by rw[km];simp[l]))) rfl) (ij ?_)))),by simp,λi=>?_,λy C=>?_⟩
   .exact nc (iq (i4 row T.int (λx=>T.int (x.fdiv a)) rfl (by lia) (λx f=>⟨_,rfl,rfl,gC rfl rfl (ku l (u.noPy E))⟩) (by rw[aJ];rfl))) rfl
   .by_cases d:i<row.length
    .rw[iO row i d,iO _ i (by simpa using d),cZ];obtain⟨q,B⟩:=b _ (aW d);rw[B,dU q l]
    .rw[iX row i (by lia),iX _ i (by simp;lia),eJ]
   .obtain⟨x,f,rfl⟩:=aE.mp C;exact cf (qr (b x f) l) (n x f)
 .exact⟨1,row,by decide,i3 rfl (gB (gK rfl rfl) (nE (lB rfl e) rfl)),rfl,λi=>by rw[eN],n⟩
structure Cl(row other:LI)(a:Nat)(r:LI):Prop where
 len:r.length=row.length
 ex:∃g s b:Int,g≠0/\s≠0/\∀i,g*vc r i=s*vc row i+b*vc other i
 at0:vc r a=0
def tG{g x:Int}(a:g≠0)(h:g*x=0):x=0:=by
 rcases eT.mp h with z|z
 .exact absurd z a
 .exact z
def oD o:jz o*o=(o.natAbs:Int):=by
 unfold jz;split
 .rw[eN];lia
 .split
  .rw[eU,eN];lia
  .rw[eO];lia
def uw N M row other a (v:a<row.length) (C:other.length=row.length) (hs:row.length<1000) (P:N+M+1<=8000) (h:∀x∈row,Bn N x) (m:∀x∈other,Bn M x) (hne:vc other a≠0) :
  ∃r,iK c [tI row,tI other,.int (a:Int)]=.ok (tI r)/\Cl row other a r/\∀x∈r,Bn (N+M+1) x:=by
 have sz:1000<sizeLine:=by decide
 have k:kL (tI row) (.int (a:Int))=.ok (.int (vc row a)):=n6 row a v;have A:kL (tI other) (.int (a:Int))=.ok (.int (vc other a)):=n6 other a (by lia);have z:Bn N (vc row a):=h _ (getD_mem row a v);have D:Bn M (vc other a):=m _ (getD_mem other a (by lia));by_cases q:vc row a=0
 .refine⟨row,i3 rfl (nE (kz (jI (gC (gC rfl rfl k) rfl (by rw[km,q];rfl))) (ij rfl)) rfl),⟨rfl,⟨1,1,0,by decide,by decide,λi=>by lia⟩,q⟩,λx B=>(h x B).mono (by lia)⟩
 .generalize L:vc other a=o at *;generalize R:vc row a=x0 at *;have E:qo [.int o]=.ok (.int (o.natAbs:Int)):=by simp[Hk]
  let w:Int:=-x0*jz o;have F:=oH o;have u:Bn N w:=by
   refine cf ?_ z;show (-x0*jz o).natAbs<=_;rw[aZ,d7];have:(jz o).natAbs<=1:=by lia
   exact aO (eX _ this) (by lia)
  have s:Bn M (o.natAbs:Int):=cf (by lia) D;let b:LI:=(row.zip other).map λp=>(o.natAbs:Int)*p.1+w*p.2;have I:b.length=row.length:=by simp[b,C]
  have l:∀y∈b,Bn (N+M+1) y:=λy K=>by obtain⟨p,f,rfl⟩:=aE.mp K;exact ((s.mul (h _ (aX f).1)).add (u.mul (m _ (aX f).2))).mono (by lia)
  have e:∀i,vc b i=(o.natAbs:Int)*vc row i+w*vc other i:=λi=>by
   by_cases J:i<row.length
   .rw[iO b i (by lia),iO row i J,iO other i (by lia)];simp[b]
   .rw[iX b i (by lia),iX row i (by lia),iX other i (by lia),eJ,eJ];rfl
  obtain⟨g,r,S,Q,H,d,j⟩:=mQ (c:=c) (N+M+1) P b (by lia) l;refine⟨r,i3 rfl (gB (jv (jI (gC (gC rfl rfl k) rfl (by rw[km];simp[q]))) rfl) (gB (gK (t:=.int (o.natAbs:Int)) (nc (gC rfl rfl A) E) rfl) (gB (gK (t:=.int w) ?_ rfl) (ij (nT (x:=tI b) ?_ Q))))),⟨by lia,⟨g,(o.natAbs:Int),w,by lia,by lia,λi=>by rw[<-d i,e i]⟩,?_⟩,j⟩
  .refine gC (x:=.int (-x0)) (y:=.int (jz o)) ?_ (nT (gC rfl rfl A) (mX o)) (ja ((z.neg).ok (n:=2) ?_ (by lia) (by decide)))
   .exact pP (gC rfl rfl k)
   .unfold Bn;show _<4;lia
  .refine nc (t:=.lst (b.map T.int)) (iq (i4 (row.zip other) (λp=>T.tup [.int p.1,.int p.2]) (λp=>T.int ((o.natAbs:Int)*p.1+w*p.2)) (tZ rfl rfl rfl rfl) (by simp;lia) (λp f=>⟨_,rfl,rfl,?_⟩) (by rw[aJ];rfl))) rfl;exact gC (gC rfl rfl (ja (s.ok (h _ (aX f).1) (by lia) (by lia)))) (gC rfl rfl (ja (u.ok (m _ (aX f).2) (by lia) (by lia)))) (jL _ _)
  .refine tG (g:=g) (by lia) ?_;rw[<-d a,e a,L,R];show _ + -x0*jz o*o=_;rw[dR,oD,eU,dS x0];lia
def oP(p:Nat×LI):T:=.tup [.int (p.1:Int),tI p.2]
theorem qE P x1 L M (R:L<1000):∀(pv:List (Nat×LI)) (row:LI) (N:Nat) (h j:Option W),N+pv.length*(M+1)<=8000->row.length=L->(∀x∈row,Bn N x)->(∀p∈pv,p.1<L/\p.2.length=L/\vc p.2 p.1≠0/\(∀x∈p.2,Bn M x)/\P (vc p.2))->pv.Pairwise (λp q=>vc q.2 p.1=0)->
  ∃r o z,jP (nQ 2 (jm (nj 2) (jm (nj 3) nO))) (pA c) (pv.map oP) [some (.p (tI row)),x1,h,j]=.nx [some (.p (tI r)),x1,o,z]/\r.length=L/\(∀x∈r,Bn (N+pv.length*(M+1)) x)/\
   (∃g s y,g≠0/\s≠0/\Qs P y/\∀i,g*vc r i=s*vc row i+1*y i)/\(∀k,vc row k=0->(∀p∈pv,vc p.2 k=0)->vc r k=0)/\∀p∈pv,vc r p.1=0
 |[],row,N,h,j,_,hl,hb,_,_=>⟨row,h,j,rfl,hl,λx m=>(hb x m).mono (by lia),⟨1,1,λ_=>0,by decide,by decide,.zero,λi=>by lia⟩,λk H _=>H,λp b=>nomatch b⟩
 | (a,prow)::pv,row,N,h,j,hN,hl,hb,hA,hw=>by
  obtain⟨h1,h2,S,h4,h5⟩:=hA (a,prow) (bj ..);obtain⟨K,w2⟩:=eA.mp hw;rw[aA,bZ]at hN;obtain⟨B,Z,n,X⟩:=uw N M row prow a (by lia) (by lia) (by lia) (by lia) hb h4 S;obtain⟨d,v,q1,l,D,I⟩:=n.ex;obtain⟨r,o,z,e,w,u,⟨C,f,y,E,F,Y,J⟩,z1,Q⟩:=qE P x1 L M R pv B (N+M+1) (some (.p (.int a))) (some (.p (tI prow))) (by lia) (by rw[n.len,hl]) X (λp b=>hA p (bx _ b)) w2;refine⟨r,o,z,?_,w,λx m=>(u x m).mono (by rw[aA,bZ];lia),⟨d*C,f*v,_,eR l E,eR F D,Qs.comb (f*q1) d (.of h5) Y,λi=>?_⟩,λk H b=>?_,λp b=>?_⟩
  .rw[b8,jP];have v:(nQ 2 (jm (nj 2) (jm (nj 3) nO))) (oP (a,prow)) [some (.p (tI row)),x1,h,j]=some [some (.p (tI row)),x1,some (.p (.int a)),some (.p (tI prow))]:=rfl;rw[v];have f:pA c [some (.p (tI row)),x1,some (.p (.int a)),some (.p (tI prow))]=.nx [some (.p (tI B)),x1,some (.p (.int a)),some (.p (tI prow))]:=gK (vT rfl rfl rfl Z) rfl;dsimp only;rw[f];exact e
  .calc d*C*vc r i=d*(C*vc r i):=by ac_rfl
    _=f*(d*vc B i)+d*y i:=by rw[J i,eN,eS];congr 1;ac_rfl
    _=_:=by rw[I i,eS];simp only[eN,dR,Int.add_assoc]
  .refine z1 k (tG l ?_) λp A=>b p (bx _ A);have:=b (a,prow) (bj ..);rw[I k,H,this,eJ,eJ];rfl
  .rcases aG.mp b with rfl|b
   .exact z1 _ n.at0 λq U=>K q U
   .exact Q p b
def AI P L M N (b:L<1000) (pv:List (Nat×LI)) row (j:N+pv.length*(M+1)<=8000) (a:row.length=L) (f:∀x∈row,Bn N x) (m:∀p∈pv,p.1<L/\p.2.length=L/\vc p.2 p.1≠0/\(∀x∈p.2,Bn M x)/\P (vc p.2)) (hw:pv.Pairwise (λp q=>vc q.2 p.1=0)) :
  ∃r:LI,mH c [tI row,.lst (pv.map oP)]=.ok (tI r)/\r.length=L/\(∀x∈r,Bn (N+pv.length*(M+1)) x)/\
   (∃g s y,g≠0/\s≠0/\Qs P y/\∀i,g*vc r i=s*vc row i+1*y i)/\∀p∈pv,vc r p.1=0:=by
 obtain⟨r,n,o,e,l,k,d,-,h⟩:=qE P (some (.p (.lst (pv.map oP)))) L M b pv row N none none j a f m hw;exact⟨r,i3 rfl (gB (lB rfl e) (ij rfl)),l,k,d,h⟩
noncomputable def sm:Nat->(Nat->Int)->Int
 |0,_=>0
 |n+1,f=>f 0+sm n λi=>f (i+1)
theorem hW:∀n f g,(∀i,i<n->f i=g i)->sm n f=sm n g
 |0,_,_,_=>rfl
 |n+1,f,g,h=>by rw[sm,sm,h 0 (by lia),hW n _ _ λi a=>h (i+1) (by lia)]
theorem pM a b:∀n f g,sm n (λi=>a*f i+b*g i)=a*sm n f+b*sm n g
 |0,_,_=>by simp[sm]
 |n+1,f,g=>by rw[sm,sm,sm,pM a b n (λi=>f (i+1)) λi=>g (i+1),eS,eS];lia
theorem jR a:∀n f,sm n (λi=>a*f i)=a*sm n f
 |0,_=>by simp[sm]
 |n+1,f=>by rw[sm,sm,jR a n λi=>f (i+1),eS]
theorem nq:∀n:Nat,sm n (λ_=>0)=0
 |0=>rfl
 |n+1=>by rw[sm,nq n];rfl
theorem DN:∀(n k:Nat) (f:Nat->Int),k<n->sm n (λi=>(if i=k then 1 else 0)*f i)=f k
 |0,k,f,h=>absurd h (cY _)
 |n+1,0,f,h=>by rw[sm,aR rfl,eN,hW n _ (λ_=>0) (λi _=>by rw[aS (by lia),eO]),nq,eP]
 |n+1,k+1,f,h=>by rw[sm,aS (by lia),eO,eQ,hW n _ (λi=>(if i=k then 1 else 0)*f (i+1)) (λi _=>by simp),DN n k (λi=>f (i+1)) (by lia)]
def hd(m:Nat)(x:Vc):Vc:=λi=>if i<m then x i else 0
def HP(m:Nat)(pv:List (Nat×LI)):Vc->Prop:=λx=>∃p∈pv,x=hd m (vc p.2)
def qU(h:∀i,s*z i=a*x i+b*y i):∀i,s*hd m z i=a*hd m x i+b*hd m y i:=λi=>by
 unfold hd;by_cases d:i<m
 .simp only[d,if_true];exact h i
 .simp only[d,if_false,eJ];rfl
def Qs.hd{pv:List (Nat×LI)}(q:Qs (DK pv) x):Qs (HP m pv) (hd m x):=by
 induction q with
 |of p=>obtain⟨p,a,rfl⟩:=p;exact .of ⟨p,a,rfl⟩
 |zero=>rw[show CL.hd m (λ_=>0)=λ_=>0 from funext λi=>by unfold CL.hd;split<;>rfl];exact .zero
 |lin _ _ hs e i1 i2=>exact .lin i1 i2 hs (qU e)
def De(us:LL)(m:Nat)(x:Vc):Prop:=∀k,k<m->x k=sm us.length λi=>x (m+1+i)*vc (us.getD i []) k
def De.comb(l:g≠0)(f:De us m x)(h:De us m y)(e:∀i,g*z i=a*x i+b*y i):De us m z:=λk d=>by
 have j:g*z k=g*sm us.length λi=>z (m+1+i)*vc (us.getD i []) k:=by rw[<-jR,e k,f k d,h k d,<-pM];refine hW _ _ _ λi _=>?_;rw[<-dR,<-dR,<-dR,e (m+1+i),Int.add_mul]
 exact eY l j
def De.zero:De us m λ_=>0:=λk _=>by rw[hW _ _ (λ_=>0) λi _=>eO _,nq]
def De.qs(h:∀x,P x->De us m x)(q:Qs P z):De us m z:=by
 induction q with
 |of p=>exact h _ p
 |zero=>exact .zero
 |lin _ _ hs e i1 i2=>exact .comb hs i1 i2 e
def Qs.at0(h:∀x,P x->x k=0)(q:Qs P z):z k=0:=by
 induction q with
 |of p=>exact h _ p
 |zero=>rfl
 |lin _ _ hs e i1 i2=>exact tG hs (by rw[e k,i1,i2,eJ,eJ];rfl)
theorem sT:∀(m:Nat) (l:List Nat),l.Nodup->(∀x∈l,x<m)->l.length<=m
 |0,[],_,_=>aL _
 |0,x::l,_,h=>absurd (h x (bj ..)) (cY _)
 |m+1,l,hn,h=>by
  have b:=sT m (l.erase m) (hn.erase m) λx d=>by have q:=(hn.mem_erase_iff).mp d;have:=h x q.2;have:=q.1;lia
  by_cases a:m∈l
  .rw[e8 a]at b;lia
  .rw[List.erase_of_not_mem a]at b;lia
def Pb:Nat->Nat
 |0=>0
 |k+1=>Pb k+(41+k*(Pb k+1))+1
structure C7(us:LL)(m k:Nat)(pv:List (Nat×LI))(rs:LL):Prop where
 el:∀p∈pv,p.1<m/\p.2.length=m+1+us.length/\vc p.2 p.1≠0/\∀x∈p.2,Bn (Pb pv.length) x
 jd:pv.Pairwise (λp q=>vc q.2 p.1=0/\vc p.2 q.1=0)
 nd:Nd (HP m pv) (pv.map Prod.fst)
 sp:∀u∈us.take k,Qs (HP m pv) (vc u)
 ps:∀p∈pv,Qs (VP (us.take k)) (hd m (vc p.2))
 ln:∀p∈pv,De us m (vc p.2)
 tl:∀p∈pv,∀i,k<=i->vc p.2 (m+1+i)=0
 no:rs=[]↔∀j,j<k->¬xk us j
 rg:∀r∈rs,r.length=m+1+us.length/\(∀i,i<m->vc r i=0)/\De us m (vc r)/\(∃i,i<us.length/\vc r (m+1+i)≠0)/\∀x∈r,Bn 7100 x
def C7.nodup{pv:List (Nat×LI)}(h:C7 us m k pv rs):(pv.map Prod.fst).Nodup:=by refine dH.mpr (h.jd.imp_of_mem ?_);intro p q d b a e;have:=(h.el q b).2.2.1;rw[<-e]at this;exact this a.1
def C7.short{pv:List (Nat×LI)}(h:C7 us m k pv rs):pv.length<=m:=by
 have:=sT m _ h.nodup λx a=>by obtain⟨p,b,rfl⟩:=aE.mp a;exact (h.el p b).1
 simpa using this
def C7.room{pv:List (Nat×LI)}(h:C7 us m k pv rs){left:Vc}(i:a<m)(j:∀p∈pv,left p.1=0)(g:left a≠0):pv.length+1<=m:=by
 have:=sT m (a::pv.map Prod.fst) (bJ.mpr ⟨λf=>by obtain⟨p,d,e⟩:=aE.mp f;have:=j p d;rw[e]at this;exact g this,h.nodup⟩) λx b=>by
  rcases aG.mp b with rfl|b
  .exact i
  .obtain⟨p,d,rfl⟩:=aE.mp b;exact (h.el p d).1
 simpa using this
structure ED(us:LL)(m k:Nat)(u row:LI):Prop where
 len:row.length=m+1+us.length
 hed:hd m (vc row)=vc u
 lin:De us m (vc row)
 one:vc row (m+1+k)=1
 off:∀i,k<i->vc row (m+1+i)=0
def BN{pv:List (Nat×LI)}(h:C7 us m k pv rs)(r:us[k]? = some u)(hr:ED us m k u row)(o:g≠0)(hs:s≠0)(l:Qs (DK pv) y)(e:∀i,g*vc left i=s*vc row i+1*y i)(f:∀p∈pv,vc left p.1=0) :
  (∀i,i<m->vc left i=0)↔xk us k:=by
 have d:=yn (v:=vc u) h.nd hs l.hd (by rw[<-hr.hed];exact qU e) (λq b=>by obtain⟨p,a,rfl⟩:=aE.mp b;unfold hd;rw[aR (h.el p a).1,f p a,eJ])
 have n:xk us k↔Qs (HP m pv) (vc u):=by unfold xk;rw[oB us k u [] r];exact⟨λq=>q.sub λx ⟨w,hw,ex⟩=>by rw[ex];exact h.sp w hw,λq=>q.sub λx ⟨p,a,ex⟩=>by rw[ex];exact h.ps p a⟩
 rw[n,<-d];constructor
 .intro z i;unfold hd;split
  .rw[z i (by assumption),eJ]
  .rw[eJ]
 .intro z i j;have:=tG o (z i);unfold hd at this;rw[aR j]at this;exact this
def CT{pv:List (Nat×LI)}(h:C7 us m k pv rs)(j:k<us.length)(d:us[k]? = some u)(hr:ED us m k u row)(n:g≠0)(hs:s≠0)(l:Qs (DK pv) y)(e:∀i,g*vc left i=s*vc row i+1*y i)(C:∀p∈pv,vc left p.1=0)
  (v:left.length=m+1+us.length) (B:∀x∈left,Bn 7100 x) (o:∀i,i<m->vc left i=0):C7 us m (k+1) pv (rs++[left]):=by
 have b:=(BN h d hr n hs l e C).mp o;refine⟨h.el,h.jd,h.nd,λw hw=>?_,λp a=>VP.succ d _ (h.ps p a),h.ln,λp a i D=>h.tl p a i (by lia),?_,λr f=>?_⟩
 .rw[iJ us k u d]at hw;rcases aj.mp hw with q|q
  .exact h.sp w q
  .rw[ak.mp q];unfold xk at b;rw[oB us k u [] d]at b;exact b.sub λx ⟨w,hw,ex⟩=>by rw[ex];exact h.sp w hw
 .constructor
  .intro z;simp at z
  .intro z;exact absurd b (z k (by lia))
 .rcases aj.mp f with q|q
  .exact h.rg r q
  .rw[ak.mp q];refine⟨v,o,.comb n hr.lin (.qs (λx ⟨p,a,ex⟩=>by rw[ex];exact h.ln p a) l) e,⟨k,j,λA=>?_⟩,B⟩;have:=e (m+1+k);rw[A,hr.one,l.at0 (λx ⟨p,a,ex⟩=>by rw[ex];exact h.tl p a k (aL _)),eJ,Int.mul_one,eJ,eP]at this;exact hs this.symm
def Ai{pv:List (Nat×LI)}(h:C7 us m k pv rs)(R:us[k]? = some u)(hr:ED us m k u row)(U:g≠0)(hs:s≠0)(K:Qs (DK pv) y)(e:∀i,g*vc left i=s*vc row i+1*y i)(I:∀p∈pv,vc left p.1=0)
  (hl:left.length=m+1+us.length) (hb:∀x∈left,Bn (41+pv.length*(Pb pv.length+1)) x) (X:a<m) (hz:vc left a≠0) (f:Nat×LI->LI) (C:∀p∈pv,Cl p.2 left a (f p)/\∀x∈f p,Bn (Pb (pv.length+1)) x) :
  C7 us m (k+1) (pv.map (λp=>(p.1,f p))++[(a,left)]) rs:=by
 have hD:¬xk us k:=λz=>hz ((BN h R hr U hs K e I).mpr z a X);have kl:(pv.map (λp=>(p.1,f p))++[(a,left)]).length=pv.length+1:=by simp
 have n:∀{Q:Nat×LI->Prop},(∀p∈pv,Q (p.1,f p))->Q (a,left)->∀p∈pv.map (λp=>(p.1,f p))++[(a,left)],Q p:=λh1 h2 p d=>by
  rcases aj.mp d with q|q
  .obtain⟨S,D,rfl⟩:=aE.mp q;exact h1 S D
  .rw[ak.mp q];exact h2
 have hleftQ:Qs (HP m (pv.map (λp=>(p.1,f p))++[(a,left)])) (hd m (vc left)):=.of ⟨(a,left),bE _ (ak.mpr rfl),rfl⟩;have L:∀p∈pv,Qs (HP m (pv.map (λp=>(p.1,f p))++[(a,left)])) (hd m (vc p.2)):=λp d=>by obtain⟨H,N,E,l,o,B⟩:=(C p d).1.ex;have q:Qs (HP m (pv.map (λp=>(p.1,f p))++[(a,left)])) (hd m (vc (f p))):=.of ⟨(p.1,f p),ay _ (aE.mpr ⟨p,d,rfl⟩),rfl⟩;refine .lin (a:=H) (b:=-E) q hleftQ o (qU λi=>?_);rw[B i,eU];lia
 have up:∀x,Qs (HP m pv) x->Qs (HP m (pv.map (λp=>(p.1,f p))++[(a,left)])) x:=λx q=>q.sub λz ⟨p,d,ez⟩=>by rw[ez];exact L p d
 have Z:Qs (VP (us.take (k+1))) (vc u):=.of ⟨u,by rw[iJ us k u R];exact bE _ (ak.mpr rfl),rfl⟩;have J:∀i,g*hd m (vc left) i=s*vc u i+1*hd m y i:=by rw[<-hr.hed];exact qU e
 have hleftV:Qs (VP (us.take (k+1))) (hd m (vc left)):=.lin Z ((K.hd).sub λx ⟨p,d,ex⟩=>by rw[ex];exact VP.succ R _ (h.ps p d)) U J
 have A:De us m (vc left):=.comb U hr.lin (.qs (λx ⟨p,d,ex⟩=>by rw[ex];exact h.ln p d) K) e;have v:∀i,k+1<=i->vc left (m+1+i)=0:=λi hi=>tG U (by rw[e,hr.off i (by lia),K.at0 (λx ⟨p,d,ex⟩=>by rw[ex];exact h.tl p d i (by lia)),eJ,eJ];rfl)
 refine⟨?_,?_,?_,λw hw=>?_,?_,?_,?_,?_,h.rg⟩
 .rw[kl];refine n (λp d=>?_) ⟨X,hl,hz,λx hx=>(hb x hx).mono (by rw[Pb];lia)⟩;obtain⟨c1,c2⟩:=C p d;obtain⟨q1,q2,q3,-⟩:=h.el p d;refine⟨q1,by rw[c1.len];exact q2,λhc=>?_,c2⟩;obtain⟨H,N,E,l,o,B⟩:=c1.ex;have:=B p.1;dsimp only at hc;rw[hc,I p d,eJ,eJ,eP]at this;exact q3 (tG o this.symm)
 .refine cU.mpr ⟨dH.mpr (h.jd.imp_of_mem ?_),dF _ _,λp d q F=>?_⟩
  .intro p q d F P;obtain⟨g1,s1,b1,hg1,hs1,v1⟩:=(C p d).1.ex;obtain⟨g2,s2,b2,hg2,hs2,v2⟩:=(C q F).1.ex;exact⟨tG hg2 (by rw[v2,P.1,I p d,eJ,eJ];rfl),tG hg1 (by rw[v1,P.2,I q F,eJ,eJ];rfl)⟩
  .obtain⟨S,D,rfl⟩:=aE.mp d;rw[ak.mp F];exact⟨I S D,(C S D).1.at0⟩
 .rw[a9,aJ,show (Prod.fst ∘ λp:Nat×LI=>(p.1,f p))=Prod.fst from rfl];refine (Nd.step (r:=hd m (vc left)) (p:=a) h.nd (λq F=>?_) ?_).less λx ⟨p,d,ex⟩=>?_
  .obtain⟨p,d,rfl⟩:=aE.mp F;unfold hd;rw[aR (h.el p d).1,I p d]
  .unfold hd;rw[aR X];exact hz
  .rw[ex];refine n (Q:=λp=>Qs (Lc (HP m pv) (hd m (vc left))) (hd m (vc p.2))) (λp d=>?_) (.of (.inr rfl)) p d;obtain⟨H,N,E,l,o,B⟩:=(C p d).1.ex;exact .lin (.of (.inl ⟨p,d,rfl⟩)) (.of (.inr rfl)) l (qU B)
 .rw[iJ us k u R]at hw;rcases aj.mp hw with q|q
  .exact up _ (h.sp w q)
  .rw[ak.mp q];exact .lin (a:=g) (b:=-1) hleftQ (up _ K.hd) hs λi=>by rw[J i];lia
 .refine n (λp d=>?_) hleftV;obtain⟨H,N,E,l,o,B⟩:=(C p d).1.ex;exact .lin (VP.succ R _ (h.ps p d)) hleftV l (qU B)
 .refine n (λp d=>?_) A;obtain⟨H,N,E,l,o,B⟩:=(C p d).1.ex;exact .comb l (h.ln p d) A B
 .refine n (λp d i hi=>?_) v;obtain⟨H,N,E,l,o,B⟩:=(C p d).1.ex;exact tG l (by rw[B,h.tl p d i (by lia),v i hi,eJ,eJ];rfl)
 .rw[h.no];constructor
  .intro z j hj;by_cases Y:j=k
   .rw[Y];exact hD
   .exact z j (by lia)
  .intro z j hj;exact z j (by lia)
def Hx(e:fa ρ=.ok (.lst a))(d:fb ρ=.ok (.lst b))(f:a.length+b.length<=sizeLine):zA fa fb ρ=.ok (a++b):=by simp only[zA,e,d,M.bind_ok];rw[aR f]
def OQ(h:f ρ=.ok a):jb (lstM (gn f gA)) ρ=.ok (.lst [a]):=by
 have b:1<=sizeLine:=by decide
 simp only[jb,lstM,gn,gA,h,M.bind_ok,yx,aA,cF,b,if_true]
def AC(h:f ρ=.ok a):kS (gn f gA) ρ=.ok (.tup [a]):=by
 have b:1<=sizeLine:=by decide
 simp only[kS,gn,gA,h,M.bind_ok,yx,aA,cF,b,if_true]
def uZ(h:f ρ=.ok a)(e:g ρ=.ok b):kS (gn f (gn g gA)) ρ=.ok (.tup [a,b]):=by
 have d:2<=sizeLine:=by decide
 simp only[kS,gn,gA,h,e,M.bind_ok,yx,aA,cF,d,if_true]
def L8(h:jb f ρ=.ok (.lst ts)):f ρ=.ok ts:=by
 unfold jb at h;cases d:f ρ with
 |ok us=>rw[d]at h;cases h;rfl
 |bad=>rw[d]at h;cases h
 |er a b=>rw[d]at h;cases h
def B7 a b (h:a.length+b.length<=sizeLine):iG (.tup a) (.tup b)=.ok (.tup (a++b)):=by unfold iG;exact aR h
def mY a b (h:a.length+b.length<=1000):iG (tI a) (tI b)=.ok (tI (a++b)):=by
 have sz:1000<sizeLine:=by decide
 unfold tI;rw[B7 _ _ (by simp;lia),a9]
def uQ(pv:List (Nat×LI)) left (a:Nat) (f:Nat×LI->LI) (g:pv.length<=100) (b:∀p∈pv,iK c [tI p.2,tI left,.int (a:Int)]=.ok (tI (f p))) :
  jY c [.lst (pv.map oP),tI left,.int (a:Int)]=.ok ((pv.map (λp=>(p.1,f p))++[(a,left)]).map oP):=by
 have sz:1000<sizeLine:=by decide
 have d:kP [none,none,some 1,some 2] (iR (gy 0)) (nH 2 (iU (j6 0) (iU (j6 1) nY))) (λ_=>.ok true) (oQ c) (vw (jj 3 [.lst (pv.map oP),tI left,.int a]))=.ok ((pv.map (λp=>(p.1,f p))).map oP):=i4 pv oP (λp=>oP (p.1,f p)) rfl (by lia) (λp e=>⟨_,rfl,rfl,uZ rfl (vT rfl rfl rfl (b p e))⟩) (by rw[aJ];rfl)
 refine nL rfl (m7 ?_);rw[a9];exact Hx (iq d) (OQ (uZ rfl rfl)) (by simp;lia)
def J9:∀k,k<=4->41+k*(Pb k+1)<=7100:=λk a=>by
 have:k=0\/k=1\/k=2\/k=3\/k=4:=by lia
 rcases this with rfl|rfl|rfl|rfl|rfl<;>decide
def LY:∀k,k<=3->Pb k+(41+k*(Pb k+1))+1<=8000:=λk a=>by
 have:k=0\/k=1\/k=2\/k=3:=by lia
 rcases this with rfl|rfl|rfl|rfl<;>decide
def mG{d e:Type}[Inhabited e]{P:d->e->Prop}(l:List d)(h:∀a∈l,∃b,P a b):∃f:d->e,∀a∈l,P a (f a):=⟨λa=>Classical.epsilon λb=>P a b,λa g=>Classical.epsilon_spec (h a g)⟩
theorem Dz(us gU:LL) m (hm:m<=4) (hn:us.length<=8) (hl:gU.length=us.length) (K:∀k u row,us[k]? = some u->gU[k]? = some row->ED us m k u row/\∀x∈row,Bn 41 x) :
  ∃pv rs,iB c [.lst (gU.map tI),.int (m:Int)]=.ok (.tup [.lst (pv.map oP),.lst (rs.map tI)])/\C7 us m us.length pv rs/\rs.length<=8:=by
 have sz:1000<sizeLine:=by decide
 have hrm:zb (m:Int)=true:=lJ (by lia);obtain⟨Y,e,pv,rs,Q,N,J,rfl,d,D⟩:=jW (m:=nj 4) (g:=j3 c) tI
  (λk Y=>∃(pv:List (Nat×LI)) (rs:LL) (Q N J:Option W),Y=[some (.p (.lst (gU.map tI))),some (.p (.int (m:Int))),some (.p (.lst (pv.map oP))),some (.o (rs.map tI)),Q,N,J]/\C7 us m k pv rs/\rs.length<=k)
  gU 0 _ ⟨[],[],none,none,none,rfl,⟨(λp a=>nomatch a),List.Pairwise.nil,(λz q=>Nd.nil z (q.mono λx ⟨p,a,_⟩=>nomatch a)),(λv hv=>by simp at hv),(λp a=>nomatch a),(λp a=>nomatch a),(λp a=>nomatch a),⟨λ_ j Z=>absurd Z (cY _),λ_=>rfl⟩,(λp a=>nomatch a)⟩,aL _⟩ (by
   rintro k row Y hi ⟨pv,rs,Q,N,J,rfl,d,D⟩;rw[aH]at d D ⊢;have L:k<us.length:=by have:=(ae.mp hi).1;lia
   obtain⟨u,hu⟩:∃u,us[k]? = some u:=⟨us[k],ai L⟩;obtain⟨hR,hRb⟩:=K k u row hu hi;have hpl:=d.short;obtain⟨left,el,I,E,⟨g,s,y,hg,hs,hy,ey⟩,h0⟩:=AI (c:=c) (DK pv) (m+1+us.length) (Pb pv.length) 41 (by lia) pv row (aO (J9 _ (by lia)) (by decide)) hR.len hRb (λp a=>by obtain⟨q1,q2,q3,X⟩:=d.el p a;exact⟨by lia,q2,q3,X,p,a,rfl⟩) (d.jd.imp λh=>h.1)
   let n:List Nat:=(List.range m).filter λj=>left.getD j 0 != 0;let R:En:=[some (.p (.lst (gU.map tI))),some (.p (.int (m:Int))),some (.p (.lst (pv.map oP))),some (.o (rs.map tI)),some (.p (tI row)),some (.p (tI left)),some (.p (.lst (n.map λ(j:Nat)=>T.int (j:Int))))];have e4:kP [none,some 5] (rO (gn (gy 1) gA)) (j6 0) (j4 (gI (iP true) (gI kL (gy 1) (gy 0)) (cM (.int 0)))) (lD c) (mU [some (.p (.lst (gU.map tI))),some (.p (.int (m:Int))),some (.p (.lst (pv.map oP))),some (.o (rs.map tI)),some (.p (tI row)),some (.p (tI left)),J])=.ok (n.map λ(j:Nat)=>T.int (j:Int)):=Gi (List.range m) (λ(j:Nat)=>T.int (j:Int)) (λ(j:Nat)=>T.int (j:Int)) (λj=>left.getD j 0 != 0) (by simp[hrm,JL]) (by simp;lia) (λj Z=>⟨_,rfl,jI (gC (gC rfl rfl (n6 left j (by have:=aT.mp Z;lia))) rfl (zp _ _)),λ_=>rfl⟩) rfl
   have F:oK (n.map λ(j:Nat)=>T.int (j:Int))=true:=lW _ _ λ_ _=>rfl;have C:pL (n.map λ(j:Nat)=>T.int (j:Int))<=90:=aO (lM _ 0 _ λ_ _=>aL _) (by decide);have l:j4 (gI (iP false) (gy 6) (jb (lstM gA))) (vw R)=.ok n.isEmpty:=by refine jI (gC (x:=.lst (n.map λ(j:Nat)=>T.int (j:Int))) (y:=.lst []) rfl (by simp) ?_);rw[pW false _ F C];simp
   have pre:∀r,(oT (j4 (gI (iP false) (gy 6) (jb (lstM gA)))) (nA 3 (jx (gy 5))) (setO 2 (jx (jb (il (gn (gy 2) (gn (gy 5) (gn (gI kL (gy 6) (cM (.int 0))) gA))) (jY c)))))) R=r->
     j3 c [some (.p (.lst (gU.map tI))),some (.p (.int (m:Int))),some (.p (.lst (pv.map oP))),some (.o (rs.map tI)),some (.p (tI row)),N,J]=r:=λr hr=>
    gB (gK (t:=tI left) (kJ rfl rfl el) rfl) (gB (gK (t:=.lst (n.map λ(j:Nat)=>T.int (j:Int))) (iq e4) rfl) hr)
   cases w:n with
   |nil=>refine⟨_,_,rfl,.inl (pre _ (kz (by rw[l,w];rfl) (AQ (t:=tI left) rfl rfl (by simp;lia) rfl))),pv,rs++[left],_,_,_,by rw[a9];rfl,CT d L hu hR hg hs hy ey h0 I (λx hx=>(E x hx).mono (J9 _ (by lia))) λi S=>?_,by simp;lia⟩;refine aP λhc=>?_;have:i∈n:=aV.mpr ⟨aT.mpr S,by simpa[vc] using hc⟩;rw[w]at this;exact nomatch this
   |cons B js=>
    have H:B∈n:=by rw[w];exact bj ..
    have A:B<m:=aT.mp (aV.mp H).1;have b:vc left B≠0:=by have:=(aV.mp H).2;simpa[vc] using this
    have U:=d.room A h0 b;obtain⟨f,hf⟩:=mG (P:=λ(p:Nat×LI) (r:LI)=>iK c [tI p.2,tI left,.int (B:Int)]=.ok (tI r)/\Cl p.2 left B r/\∀x∈r,Bn (Pb (pv.length+1)) x) pv λp a=>by obtain⟨q1,q2,q3,X⟩:=d.el p a;exact uw (c:=c) (Pb pv.length) (41+pv.length*(Pb pv.length+1)) p.2 left B (by lia) (by lia) (by lia) (LY _ (by lia)) X E b
    have i0:gI kL (gy 6) (cM (.int 0)) (mU R)=.ok (.int (B:Int)):=gC (x:=.lst (n.map λ(j:Nat)=>T.int (j:Int))) rfl rfl (by rw[w];exact Bu _ _);have e5:=uQ (c:=c) pv left B f (by lia) λp a=>(hf p a).1;exact⟨_,_,rfl,.inl (pre _ (jv (by rw[l,w];rfl) (gK (iq (DX rfl rfl i0 e5)) rfl))),_,rs,_,_,_,rfl,Ai d hu hR hg hs hy ey h0 I E A b f λp a=>(hf p a).2,by lia⟩)
 rw[aH,hl]at d D;exact⟨pv,rs,i3 rfl (gB (gK (t:=.lst []) (by simp) rfl) (gB (tT (ts:=[]) (by simp) rfl) (gB (lB rfl e) (ij (uZ rfl rfl))))),d,by lia⟩
def zd(gU:LL)(w:gU.length<=8)(q:∀r∈gU,r.length<=100):kY c [.lst (gU.map tI)]=.ok ((gU.zipIdx.map λp=>p.1++(List.replicate gU.length (0:Int)).set p.2 1).map tI):=by
 have sz:1000<sizeLine:=by decide
 obtain⟨j,e,l,n,d,rfl⟩:=jW (m:=nQ 2 (jm (nj 2) (jm (nj 3) nO))) (g:=rZ c) (λ(p:LI×Nat)=>T.tup [.int (p.2:Int),tI p.1])
  (λk j=>∃l n d:Option W,j=[some (.p (.lst (gU.map tI))),some (.o (((gU.zipIdx.take k).map λp=>p.1++(List.replicate gU.length (0:Int)).set p.2 1).map tI)),l,n,d])
  gU.zipIdx 0 _ ⟨none,none,none,rfl⟩ (by
   rintro i ⟨r,k⟩ j f ⟨l,n,d,rfl⟩;rw[aH];have a:=av f;have h:=eE a;have v:k<gU.length:=by lia
   have s:=q r (by rw[h.2.2];exact aW _);have u:i<gU.length:=by have:=(ae.mp f).1;simpa using this
   have b:xO ((List.replicate gU.length (0:Int)).map T.int).length (k:Int)=some k:=by unfold xO;rw[aR (by lia),aR (by rw[ax,bM];lia)];simp
   refine⟨_,_,rfl,.inl (gB (tT (L8 (NI gU.length (by lia) (nc rfl (by simp)))) rfl) (gB (Mg (m:=k) rfl rfl rfl rfl b rfl) (J4 (t:=tI (r++(List.replicate gU.length (0:Int)).set k 1)) rfl ?_ (by simp) (by simp;lia) rfl))),some (.p (.int (k:Int))),some (.p (tI r)),some (.o (((List.replicate gU.length (0:Int)).map T.int).set k (.int 1))),?_⟩
   .refine gC (x:=tI r) (y:=tI ((List.replicate gU.length (0:Int)).set k 1)) rfl (nc (t:=.lst (((List.replicate gU.length (0:Int)).set k 1).map T.int)) ?_ rfl) (mY _ _ (by simp;lia));show (M.ok (T.lst (((List.replicate gU.length (0:Int)).map T.int).set k (.int 1))))=_;rw[<-List.map_set]
   .rw[iJ _ i (r,k) f,a9,a9];rfl)
 rw[aH,eW]at e;refine nL rfl (gB (tT (ts:=[]) (by simp) rfl) (gB (lB ?_ e) rfl));rw[<-oJ];rfl
end CL
namespace CL
noncomputable def kx(m:Nat)(A u:Vc):Int:=sm m λi=>A i*u i
def BO(h:∀i,s*z i=a*x i+b*y i):s*kx m A z=a*kx m A x+b*kx m A y:=by
 unfold kx;rw[<-jR,<-pM];refine hW m _ _ λi _=>?_;have:=h i;calc s*(A i*z i)=A i*(s*z i):=by rw[Int.mul_left_comm]
  _=A i*(a*x i+b*y i):=by rw[this]
  _=a*(A i*x i)+b*(A i*y i):=by grind
theorem tM m:∀(f:List Vc) (T:List Nat),T.Nodup->(∀t∈T,t<m)->f.length<T.length->∃v:Vc,(∃i,v i≠0)/\(∀i,i∉T->v i=0)/\∀A∈f,kx m A v=0
 |[],T,nd,ht,hl=>by
  cases T with
  |nil=>cases hl
  |cons t T=>refine⟨λi=>if i=t then 1 else 0,⟨t,by simp⟩,λi g=>?_,λA l=>nomatch l⟩;have:i≠t:=λz=>g (by simp[z]);simp[this]
 |A::f,T,nd,ht,hl=>by
  cases T with
  |nil=>cases hl
  |cons t T=>
   obtain⟨D,r⟩:=bJ.mp nd;have h:f.length<T.length:=by simp at hl;exact hl
   obtain⟨d,⟨j,u⟩,o1,E⟩:=tM m f T r (λx n=>ht x (by simp[n])) h;have o:j∈T:=aP λz=>u (o1 j z);have p:f.length<((t::T).erase j).length:=by have C:j∈t::T:=bx _ o;rw[e8 C,aA];exact h
   obtain⟨c,⟨k,F⟩,o2,w⟩:=tM m f ((t::T).erase j) (nd.erase j) (λx n=>ht x (fg n)) p;have q:c j=0:=o2 j (λz=>by rw[List.Nodup.mem_erase_iff nd]at z;exact z.1 rfl);by_cases l:kx m A c=0
   .exact⟨c,⟨k,F⟩,λi g=>o2 i (λz=>g (fg z)),λB e=>by
     rcases aG.mp e with rfl|e
     .exact l
     .exact w B e⟩
   .refine⟨λi=>kx m A c*d i-kx m A d*c i,⟨j,?_⟩,λi g=>?_,λB e=>?_⟩
    .dsimp only;rw[q];simp[l,u]
    .show kx m A c*d i-kx m A d*c i=0;rw[o1 i (λz=>g (by simp[z])),o2 i (λz=>g (fg z))];simp
    .have:=BO (m:=m) (A:=B) (x:=d) (y:=c) (z:=λi=>kx m A c*d i-kx m A d*c i) (s:=1) (a:=kx m A c) (b:=-kx m A d) (λi=>by grind);rcases aG.mp e with rfl|e
     .rw[eN]at this;rw[this];grind
     .rw[E B e,w B e]at this;simpa using this
end CL
namespace CL
open PySem L2 L3
variable {c:Cs}
def qv(p:Int×Int):Rat:=(p.1:Rat) / (p.2:Rat)
def yL{i:Int}(h:0<i):(0:Rat)<(i:Rat):=by have:=(Rat.intCast_lt_intCast).mpr h;simpa using this
def QP{i:Int}(h:i≠0):(i:Rat)≠0:=λz=>by
 have e:i=(0:Rat):=by simpa using z
 exact h (Rat.intCast_inj.mp e)
@[simp] theorem Qv p:kL (fr p) (.int 0)=.ok (.int p.1):=rfl
@[simp] theorem QA p:kL (fr p) (.int 1)=.ok (.int p.2):=rfl
def LS(h:fc ρ=.ok false):wO fc fd ρ=.ok false:=by simp only[L3.wO,h,M.bind_ok];rfl
def Me(h:fc ρ=.ok true)(a:fd ρ=.ok b):wO fc fd ρ=.ok b:=by simp only[L3.wO,h,a,M.bind_ok];rfl
def Ei N M row other a (B:a<row.length) (F:other.length=row.length) (hs:row.length<1000) (S:N+M+1<=8000) (j:∀x∈row,Bn N x) (u:∀x∈other,Bn M x) (hne:vc other a≠0) :
  ∃r,iK c [tI row,tI other,.int (a:Int)]=.ok (tI r)/\r.length=row.length/\(∀x∈r,Bn (N+M+1) x)/\vc r a=0/\∃g s b:Int,0<g/\0<s/\(∀i,g*vc r i=s*vc row i+b*vc other i)/\(vc row a≠0->s=((vc other a).natAbs:Int)/\b = -vc row a*jz (vc other a)):=by
 have sz:1000<sizeLine:=by decide
 have m:kL (tI row) (.int (a:Int))=.ok (.int (vc row a)):=n6 row a B;have D:kL (tI other) (.int (a:Int))=.ok (.int (vc other a)):=n6 other a (by lia);have C:Bn N (vc row a):=j _ (getD_mem row a B);have H:Bn M (vc other a):=u _ (getD_mem other a (by lia));by_cases k:vc row a=0
 .exact⟨row,i3 rfl (nE (kz (jI (gC (gC rfl rfl m) rfl (by rw[km,k];rfl))) (ij rfl)) rfl),rfl,λx E=>(j x E).mono (by lia),k,1,1,0,by decide,by decide,λi=>by lia,λz=>absurd k z⟩
 .generalize R:vc other a=o at *;generalize Y:vc row a=x0 at *;have I:qo [.int o]=.ok (.int (o.natAbs:Int)):=by simp[Hk]
  let w:Int:=-x0*jz o;have J:=oH o;have A:Bn N w:=by
   refine cf ?_ C;show (-x0*jz o).natAbs<=_;rw[aZ,d7];have:(jz o).natAbs<=1:=by lia
   exact aO (eX _ this) (by lia)
  have v:Bn M (o.natAbs:Int):=cf (by lia) H;let d:LI:=(row.zip other).map λp=>(o.natAbs:Int)*p.1+w*p.2;have L:d.length=row.length:=by simp[d,F]
  have q:∀y∈d,Bn (N+M+1) y:=λy Q=>by obtain⟨p,h,rfl⟩:=aE.mp Q;exact ((v.mul (j _ (aX h).1)).add (A.mul (u _ (aX h).2))).mono (by lia)
  have f:∀i,vc d i=(o.natAbs:Int)*vc row i+w*vc other i:=λi=>by
   by_cases P:i<row.length
   .rw[iO d i (by lia),iO row i P,iO other i (by lia)];simp[d]
   .rw[iX d i (by lia),iX row i (by lia),iX other i (by lia),eJ,eJ];rfl
  obtain⟨g,r,U,X,K,e,l⟩:=mQ (c:=c) (N+M+1) S d (by lia) q;refine⟨r,i3 rfl (gB (jv (jI (gC (gC rfl rfl m) rfl (by rw[km];simp[k]))) rfl) (gB (gK (t:=.int (o.natAbs:Int)) (nc (gC rfl rfl D) I) rfl) (gB (gK (t:=.int w) ?_ rfl) (ij (nT (x:=tI d) ?_ X))))),by lia,l,?_,g,(o.natAbs:Int),w,U,by lia,λi=>by rw[<-e i,f i],λ_=>⟨rfl,rfl⟩⟩
  .refine gC (x:=.int (-x0)) (y:=.int (jz o)) ?_ (nT (gC rfl rfl D) (mX o)) (ja ((C.neg).ok (n:=2) ?_ (by lia) (by decide)))
   .exact pP (gC rfl rfl m)
   .unfold Bn;show _<4;lia
  .refine nc (t:=.lst (d.map T.int)) (iq (i4 (row.zip other) (λp=>T.tup [.int p.1,.int p.2]) (λp=>T.int ((o.natAbs:Int)*p.1+w*p.2)) (tZ rfl rfl rfl rfl) (by simp;lia) (λp h=>⟨_,rfl,rfl,?_⟩) (by rw[aJ];rfl))) rfl;exact gC (gC rfl rfl (ja (v.ok (j _ (aX h).1) (by lia) (by lia)))) (gC rfl rfl (ja (A.ok (u _ (aX h).2) (by lia) (by lia)))) (jL _ _)
  .refine tG (g:=g) (by lia) ?_;rw[<-e a,f a,R,Y];show _ + -x0*jz o*o=_;rw[dR,oD,eU,dS x0];lia
end CL
namespace CL
open PySem L2 L3
variable {c:Cs}
noncomputable def ls:Nat->(Nat->Rat)->Rat
 |0,_=>0
 |n+1,f=>f 0+ls n λi=>f (i+1)
theorem ik:∀n f g,(∀i,i<n->f i=g i)->ls n f=ls n g
 |0,_,_,_=>rfl
 |n+1,f,g,h=>by unfold ls;rw[h 0 (by lia),ik n _ _ λi a=>h (i+1) (by lia)]
theorem l8 a b:∀n f g,ls n (λi=>a*f i+b*g i)=a*ls n f+b*ls n g
 |0,_,_=>by unfold ls;grind
 |n+1,f,g=>by unfold ls;rw[l8 a b n (λi=>f (i+1)) λi=>g (i+1)];grind
theorem nM:∀n:Nat,ls n (λ_=>0)=0
 |0=>rfl
 |n+1=>by unfold ls;rw[nM n];grind
noncomputable def j7(d:Nat)(X:Nat->Rat)(x:Vc):Rat:=ls d (λp=>(x p:Rat)*X p)-(x d:Rat)
def Cd(x y z:Vc) s a b (h:∀i,s*z i=a*x i+b*y i):(s:Rat)*j7 d X z=(a:Rat)*j7 d X x+(b:Rat)*j7 d X y:=by
 have f:∀i,s*(z i)=a*(x i)+b*(y i:Rat):=λi=>by
  have:=h i;have e:((s*z i:Int):Rat)=((a*x i+b*y i:Int):Rat):=by rw[this]
  simpa using e
 unfold j7;have k:(s:Rat)*ls d (λp=>(z p:Rat)*X p)=(a:Rat)*ls d (λp=>(x p:Rat)*X p)+(b:Rat)*ls d (λp=>(y p:Rat)*X p):=by
  have:=l8 (s:Rat) 0 d (λp=>(z p:Rat)*X p) (λ_=>0);have j:=l8 (a:Rat) (b:Rat) d (λp=>(x p:Rat)*X p) (λp=>(y p:Rat)*X p);have g:ls d (λi=>(s:Rat)*((z i:Rat)*X i)+0*0)=ls d (λi=>(a:Rat)*((x i:Rat)*X i)+(b:Rat)*((y i:Rat)*X i)):=ik d _ _ λi _=>by have:=f i;grind
  rw[g,j]at this;grind
 have:=f d;grind
def yB(h:∀p,p<d->x p=0):j7 d X x = -(x d:Rat):=by
 unfold j7;have e:ls d (λp=>(x p)*X p)=0:=by rw[ik d _ (λ_=>0) λp a=>by rw[h p a];simp];exact nM d
 rw[e];grind
noncomputable def Xs(s:List (Int×Int)):Nat->Rat:=λq=>qv (s.getD q (0,1))
def GW row s i:vc (row.map λx=>s*x) i=s*vc row i:=by unfold vc;rw[ag,ag,aw];cases row[i]?<;>simp
def IM:HZ (1,1):=⟨by decide,by decide,by unfold Bn;decide,by unfold Bn;decide,by unfold Bn;decide,by unfold Bn;decide⟩
structure Rs(d:Nat)(s:List (Int×Int))(u:LI):Prop where
 len:u.length=d+1
 bn:∀x∈u,Bn 41 x
 pos:0<vc u d
 eq:∀k,k<d->vc u k*(nB k s).2=vc u d*(nB k s).1
def DL{S b:Int}(h:b ∣ S)(a:b≠0):S.fdiv b*b=S:=by obtain⟨k,rfl⟩:=h;rw[dU k a,dS]
def DP{b:Type}(l:List b) f k a (h:l[k]? = some a):vc (l.map f) k=f a:=by unfold vc;rw[ag,aw,h];rfl
def qH d s (hd:d<=3) (h:vP d s):∃u,ju c [.tup ((s++[(1,1)]).map fr)]=.ok (tI u)/\Rs d s u/\∀x∈u,Bn 16 x:=by
 have sz:1000<sizeLine:=by decide
 have D:∀p∈s++[(1,1)],HZ p:=λp f=>by
  rcases aj.mp f with q|q
  .exact h.2 p q
  .rw[ak.mp q];exact IM
 have kl:(s++[(1,1)]).length=d+1:=by simp[h.1]
 have N:∀i p,(s++[(1,1)])[i]? = some p->d<=i->p=(1,1):=λi p f F=>by
  have hl:=(ae.mp f).1;have:i=s.length:=by have:=h.1;lia
  subst this;simp at f;exact f.symm
 have L:∀k,k<d->(s++[(1,1)])[k]? = some (nB k s):=λk X=>by
  have A:k<s.length:=by have:=h.1;lia
  unfold nB;rw[List.getElem?_append_left A,ag,ai A];rfl
 have Pc:(s++[(1,1)])[d]? = some (1,1):=by have:=h.1.symm;subst this;simp
 obtain⟨K,e,S,E,rfl,Y,o,v⟩:=jW (m:=nj 2) (g:=qg c) fr
  (λk K=>∃(S:Int) (E:Option W),K=[some (.p (.tup ((s++[(1,1)]).map fr))),some (.p (.int S)),E]/\0<S/\S.natAbs<=2 ^ (3*min k d)/\∀p∈(s++[(1,1)]).take k,p.2 ∣ S)
  (s++[(1,1)]) 0 _ ⟨1,none,rfl,by decide,by simp,λp f=>by simp at f⟩ (by
   rintro i ⟨a,b⟩ K F ⟨S,E,rfl,Y,o,v⟩;rw[aH]at o v ⊢;have r:=D _ (av F);have j:=r.pos;have w:=r.sm;dsimp only at j w;have J:Bn 10 S:=by unfold Bn;refine cf o (cf (de (by decide) (show 3*min i d<=9 by lia)) (by decide))
   have m1:=ja (J.ok w (by decide) (by decide));have hGp:=Cu.zq S b (by lia);have hGl:=Cu.Lz S b (by lia);have Z:kW (.int (S*b)) (.int (Cu.G S b))=.ok (.int ((S*b).fdiv (Cu.G S b))):=ku (by lia) (by refine Bn.noPy (n:=3) ?_ (by decide);unfold Bn at *;lia)
   obtain⟨q1,q2,q3,q4⟩:=G7 S b Y j;refine⟨_,_,rfl,.inl (gK (t:=.int ((S*b).fdiv (Cu.G S b))) (gC (gC rfl (gC rfl rfl (PM a b)) m1) (kJ rfl (gC rfl rfl (PM a b)) (ko S b)) Z) rfl),_,_,rfl,q1,?_,λp f=>?_⟩
   .refine aO q4 ?_;rw[aZ];by_cases mU:i<d
    .rw[show 3*min (i+1) d=3*min i d+3 by lia,Nat.pow_add];exact Nat.mul_le_mul o (bg w)
    .have:=N i (a,b) F (by lia);cases this;rw[show min (i+1) d=min i d by lia];simpa using o
   .rw[iJ _ i _ F]at f;rcases aj.mp f with q|q
    .exact eK (v p q) q2
    .rw[ak.mp q];exact q3)
 rw[aH,eW]at v;rw[aH]at o;have J:Bn 10 S:=by unfold Bn;refine cf o (cf (de (by decide) (show 3*min (s++[(1,1)]).length d<=9 by lia)) (by decide))
 let l:LI:=(s++[(1,1)]).map λ(p:Int×Int)=>p.1*S.fdiv p.2;have R:∀p∈s++[(1,1)],Bn 10 (S.fdiv p.2):=λp f=>cf (qr (v p f) (by have:=(D p f).pos;lia)) J;have I:∀x∈l,Bn 16 x:=λx H=>by obtain⟨p,f,rfl⟩:=aE.mp H;exact ((D p f).st.mul (R p f)).mono (by decide)
 have hwl:l.length=d+1:=by simp[l,h.1]
 obtain⟨g,u,hg0,eu,hul,B,z⟩:=mQ (c:=c) 16 (by decide) l (by lia) I;have e1:kP [none,some 1] (iR (gy 0)) (j6 0) (λ_=>.ok true) (qi c) (vw [some (.p (.tup ((s++[(1,1)]).map fr))),some (.p (.int S)),E])=.ok (l.map T.int):=i4 (s++[(1,1)]) fr (λp=>T.int (p.1*S.fdiv p.2)) rfl (by lia) (λp f=>⟨_,rfl,rfl,by obtain⟨a,b⟩:=p;have r:=D _ f;have j:=r.pos;have w:=r.b2;have U:=r.b1;have C:=R _ f;dsimp only at j w U C;exact gC (gC rfl rfl (Q3 a b)) (gC rfl (gC rfl rfl (PM a b)) (ku (by lia) (w.noPy (by decide)))) (ja (U.ok C (by decide) (by decide)))⟩) (by rw[aJ];rfl)
 have wd:vc l d=S:=by rw[show vc l d=_ from DP (s++[(1,1)]) (λ(p:Int×Int)=>p.1*S.fdiv p.2) d (1,1) Pc];show 1*S.fdiv 1=S;rw[eN,Int.fdiv_one]
 have P:g*vc u d=S:=by rw[<-B d,wd]
 refine⟨u,i3 rfl (gB (gK (t:=.int 1) rfl rfl) (gB (lB rfl e) (ij (nT (x:=tI l) (nc (t:=.lst (l.map T.int)) (iq e1) rfl) eu)))),⟨by lia,λx H=>(z x H).mono (by decide),?_,λk X=>?_⟩,z⟩
 .refine aP λhc=>?_;have:g*vc u d<=g*0:=eI (by lia) (by lia);rw[P,eJ]at this;lia
 .have y:=L k X;have Q:=av y;have wk:=DP (s++[(1,1)]) (λ(p:Int×Int)=>p.1*S.fdiv p.2) k _ y;refine eY (show g≠0 by lia) ?_;calc g*(vc u k*(nB k s).2)=(g*vc u k)*(nB k s).2:=by ac_rfl
   _=(nB k s).1*(S.fdiv (nB k s).2*(nB k s).2):=by rw[<-B k,wk];ac_rfl
   _=(nB k s).1*S:=by rw[DL (v _ Q) (by have:=(D _ Q).pos;lia)]
   _=(nB k s).1*(g*vc u d):=by rw[P]
   _=g*(vc u d*(nB k s).1):=by ac_rfl
def w6 d s (hd:d<=3) (h:vP d s):∃u,ju c [.tup ((s++[(1,1)]).map fr)]=.ok (tI u)/\Rs d s u:=let ⟨u,e,r,_⟩:=qH d s hd h;⟨u,e,r⟩
def wF(ss:List (List (Int×Int)))(U:List (Int×Int)->LI)(e:ss.length<=8)(a:∀s∈ss,s.length<=3/\(U s).length<=4/\ju c [.tup ((s++[(1,1)]).map fr)]=.ok (tI (U s))):lT c [.lst (ss.map tS)]=.ok ((ss.map λs=>U s++[0]).map tI):=by
 have sz:1000<sizeLine:=by decide
 refine nL rfl (m7 (i4 ss tS (λs=>tI (U s++[0])) rfl (by lia) (λs d=>⟨_,rfl,rfl,?_⟩) (by rw[aJ];rfl)));obtain⟨f,g,b⟩:=a s d;refine gC (y:=tI [0]) (nT (gC rfl (AC (uZ rfl rfl)) ?_) b) (AC rfl) (mY _ _ (by simp;lia));rw[a9];exact B7 _ _ (by simp;lia)
def uU(n k:Nat)(u:LI):LI:=(u++[0])++(List.replicate n (0:Int)).set k 1
def jy a b i:vc (a++b) i=if i<a.length then vc a i else vc b (i-a.length):=by
 unfold vc;by_cases h:i<a.length
 .rw[aR h,ag,List.getElem?_append_left h,<-ag]
 .rw[aS h,ag,List.getElem?_append_right (by lia),<-ag]
def Ic n k i (b:k<n):vc ((List.replicate n (0:Int)).set k 1) i=if i=k then 1 else 0:=by
 unfold vc;rw[ag,List.getElem?_set];by_cases h:k=i
 .subst h;rw[aR rfl,aR (by simpa using b),aR rfl];rfl
 .rw[aS h,aS (by lia)];by_cases a:i<n
  .rw[List.getElem?_replicate,aR a];rfl
  .rw[List.getElem?_replicate,aS a];rfl
def JA us m k u (h:u.length=m) (g:us[k]? = some u) (l:∀x∈u,Bn 41 x):ED us m k u (uU us.length k u)/\∀x∈uU us.length k u,Bn 41 x:=by
 have d:=(ae.mp g).1;have e:∀i,i<m->vc (uU us.length k u) i=vc u i:=λi b=>by unfold uU;rw[jy,aR (by simp;lia),jy,aR (by lia)]
 have a:∀i,vc (uU us.length k u) (m+1+i)=if i=k then 1 else 0:=λi=>by
  unfold uU;rw[jy,aS (by simp;lia),Ic _ _ _ d];have:m+1+i-(u++[0]).length=i:=by rw[aU,h];simp
  rw[this]
 refine⟨⟨by simp[uU,h];lia,funext λi=>?_,λi b=>?_,by rw[a,aR rfl],λi b=>by rw[a,aS (by lia)]⟩,λx f=>?_⟩
 .unfold hd;by_cases b:i<m
  .rw[aR b,e i b]
  .rw[aS b,iX u i (by lia)]
 .rw[e i b,hW _ _ (λj=>(if j=k then 1 else 0)*vc (us.getD j []) i) (λj _=>by rw[a j]),DN us.length k (λj=>vc (us.getD j []) i) d,oB us k u [] g]
 .unfold uU at f;rcases aj.mp f with q|q
  .rcases aj.mp q with q|q
   .exact l x q
   .rw[ak.mp q];exact oE
  .rcases List.mem_or_eq_of_mem_set q with q|q
   .rw[(List.mem_replicate.mp q).2];exact oE
   .rw[q];exact Mx
theorem Ft U k:∀(ss:List (List (Int×Int))) (a:LI),a.length=ss.length->((ss.zip a).map λp=>p.2*vc (U p.1) k).sum=sm ss.length λi=>vc a i*vc ((ss.map U).getD i []) k
 |[],_,_=>rfl
 |s::ss,[],h=>by simp at h
 |s::ss,w::a,h=>by simp only[aA]at h;rw[fj,b8,List.sum_cons,Ft U k ss a (by lia),aA,sm];rfl
theorem BG(U:List (Int×Int)->LI) d k:∀(ss:List (List (Int×Int))) (a:LI) (l b S:Int),l=b*S->(∀s∈ss,vc (U s) k*(nB k s).2=vc (U s) d*(nB k s).1)->
  ∃B,((((ss.zip a).map λp=>p.2*vc (U p.1) d).zip (ss.map (nB k))).foldl QG (l,b)).1=B*(S+((ss.zip a).map λp=>p.2*vc (U p.1) k).sum)
 |[],_,l,b,S,h,_=>⟨b,by simp[h]⟩
 |s::ss,[],l,b,S,h,_=>⟨b,by simp[h]⟩
 |s::ss,w::a,l,b,S,h,hs=>by
  have e:=hs s (bj ..);obtain⟨B,g⟩:=BG U d k ss a (l*(nB k s).2+w*vc (U s) d*(nB k s).1*b) (b*(nB k s).2) (S+w*vc (U s) k) (by
   rw[h];calc b*S*(nB k s).2+w*vc (U s) d*(nB k s).1*b=b*S*(nB k s).2+w*(vc (U s) d*(nB k s).1)*b:=by ac_rfl
    _=b*S*(nB k s).2+w*(vc (U s) k*(nB k s).2)*b:=by rw[e]
    _=b*(nB k s).2*(S+w*vc (U s) k):=by rw[eS];ac_rfl) λi f=>hs i (bx _ f)
  refine⟨B,?_⟩;rw[fj,b8,b8,fj,bX,b8,List.sum_cons,<-Int.add_assoc];exact g
noncomputable def KS(a b:LI):Int:=((a.zip b).map λp=>p.1*p.2).sum
end CL
namespace CL
open PySem L2 L3
variable {c:Cs}
def yD l k i:vc (l.drop k) i=vc l (k+i):=by unfold vc;rw[ag,List.getElem?_drop,<-ag]
def Es(d:a ρ=.rf ts)(hr:.rf ts=r):gR a b ρ=r:=by unfold gR;rw[d];exact hr
def pX m A u:kx m A u=kx m u A:=by unfold kx;exact hW _ _ _ λi _=>dS _ _
def PH(x:Rat):Int:=if 0<x then 1 else if x<0 then -1 else 0
def MN{jk a:Int}(g:0<a)(e:(jk:Rat)=(a:Rat)*v):jz jk=PH v:=by
 have f:=yL g;unfold jz PH;rcases fq jk 0 with h|h|h
 .have d:(jk:Rat)<0:=by exact_mod_cast h
  have b:v<0:=by refine fu ?_ (fw f);grind
  rw[aS (by lia),aR h,aS (by grind),aR b]
 .have d:(jk:Rat)=0:=by rw[h];rfl
  have b:v=0:=by grind
  rw[aS (by lia),aS (by lia),aS (by grind),aS (by grind)]
 .have d:=yL h;have b:0<v:=by refine fu ?_ (fw f);grind
  rw[aR h,aR b]
theorem sQ:∀n f,((sm n f:Int):Rat)=ls n λi=>(f i:Rat)
 |0,_=>rfl
 |n+1,f=>by unfold sm ls;rw[<-sQ n λi=>f (i+1)];simp
def nS(h:∀x∈u,Bn B x) k:Bn B (vc u k):=by
 by_cases a:k<u.length
 .rw[iO u k a];exact h _ (aW _)
 .rw[iX u k (by omega)];exact oE
def E7{P:Vc->Prop}{z v:Vc}{m:Nat}(q:Qs P z)(h:∀x,P x->kx m x v=0):kx m z v=0:=by
 induction q with
 |of p=>exact h _ p
 |zero=>rw[pX];unfold kx;rw[hW m _ (λ_=>0) λi _=>eJ _];exact nq m
 |lin _ _ hs e i1 i2=>have:=BO (m:=m) (A:=v) e;rw[pX m v,pX m v,pX m v,i1,i2,eJ,eJ]at this;exact tG hs (by lia)
def EN a:0<=jz a*a/\(a≠0->0<jz a*a/\jz a*jz a=1/\jz a≠0):=by
 unfold jz;split
 .exact⟨by lia,λ_=>⟨by lia,rfl,by decide⟩⟩
 .split
  .exact⟨by lia,λ_=>⟨by lia,rfl,by decide⟩⟩
  .exact⟨by lia,λh=>by lia⟩
theorem Bp:∀n f,sm (n+1) f=sm n f+f n
 |0,f=>by rw[sm,sm,sm];lia
 |n+1,f=>by rw[sm,Bp n λi=>f (i+1),sm];lia
def Li(a:LL):Iz (.lst (a.map tI)) (.int (-1))=.ok (.lst (a.reverse.map tI)):=by simp[fx]
def OR xs:Iz (tI xs) (.int (-1))=.ok (tI xs.reverse):=by simp[tI,fx]
def Hw(h:a+b≠0) u:(a+b)*j7 d (λj=>(b*X j+a*Z j) / (a+b)) u=b*j7 d X u+a*j7 d Z u:=by
 unfold j7;have e:ls d (λp=>(u p)*((b*X p+a*Z p) / (a+b)))=(b / (a+b))*ls d (λp=>(u p)*X p)+(a / (a+b))*ls d (λp=>(u p)*Z p):=by rw[<-l8];exact ik _ _ _ λi _=>by grind
 rw[e];grind
noncomputable def hv(d:Nat)(u P:Vc):Int:=sm d (λi=>u i*P i)-u d*P d
def XP(d:Nat)(P:Vc):Nat->Rat:=λi=>(P i:Rat) / (P d:Rat)
def GM(h:0<P d):(hv d u P:Rat)=(P d:Rat)*j7 d (XP d P) u:=by
 have b:(P d:Rat)≠0:=λz=>by have:=yL h;grind
 have e:(P d)*ls d (λi=>(u i)*XP d P i)=ls d λi=>(u i)*(P i):=by have:=l8 (P d) 0 d (λi=>(u i)*XP d P i) (λ_=>0);rw[ik d _ (λi=>(u i)*(P i)) λi _=>by unfold XP;grind]at this;grind
 unfold hv j7;have a:((sm d (λi=>u i*P i)-u d*P d:Int):Rat)=ls d (λi=>(u i)*(P i))-(u d)*(P d):=by rw[Rat.intCast_sub,sQ,fy];rw[ik d _ (λi=>(u i)*(P i)) λi _=>fy _ _]
 rw[a];grind
def M0(h:0<P d):jz (hv d u P)=PH (j7 d (XP d P) u):=MN h (GM h)
def Lp(h:∀i,g*z i=a*x i+b*y i):g*hv d z P=a*hv d x P+b*hv d y P:=by
 unfold hv;rw[eV,eV,eV,<-jR,<-jR,<-jR];have e:sm d (λi=>g*(z i*P i))=sm d (λi=>a*(x i*P i))+sm d (λi=>b*(y i*P i)):=by rw[jR a,jR b,<-pM];exact hW d _ _ λi _=>by have:=h i;grind
 rw[e];grind
def HX(h:∀i,g*R i=a*P i+b*Q i):g*hv d u R=a*hv d u P+b*hv d u Q:=by
 unfold hv;rw[eV,eV,eV,<-jR,<-jR,<-jR];have e:sm d (λi=>g*(u i*R i))=sm d (λi=>a*(u i*P i))+sm d (λi=>b*(u i*Q i)):=by rw[jR a,jR b,<-pM];exact hW d _ _ λi _=>by have:=h i;grind
 rw[e];grind
noncomputable def sk(p i:Nat):Nat:=if i<p then i else i+1
def Ib p i:sk (p+1) (i+1)=sk p i+1:=by unfold sk;split<;>split<;>lia
theorem Ak:∀d p f,p<=d->ls (d+1) f=ls d (λi=>f (sk p i))+f p
 |0,0,f,_=>by unfold ls ls;grind
 |d+1,0,f,_=>by
  rw[ls];have:(λi=>f (sk 0 i))=λi=>f (i+1):=funext λi=>by simp[sk]
  rw[this];grind
 |d+1,p+1,f,h=>by
  rw[ls,Ak d p (λi=>f (i+1)) (by lia)];have:ls (d+1) (λi=>f (sk (p+1) i))=f 0+ls d (λi=>f (sk p i+1)):=by rw[ls];congr 1;exact ik d _ _ λi _=>by rw[Ib]
  rw[this];grind
def Hr d p f (h:p<=d):sm (d+1) f=sm d (λi=>f (sk p i))+f p:=by have:=Ak d p (λi=>(f i)) h;rw[<-sQ,<-sQ]at this;exact_mod_cast this
def EH(h:p<=d):sk p d=d+1:=by unfold sk;rw[aS (by lia)]
def G5(h:p<=d) X u:j7 (d+1) X u=j7 d (λi=>X (sk p i)) (λi=>u (sk p i))+(u p:Rat)*X p:=by unfold j7;rw[Ak d p _ h];dsimp only;rw[EH h];grind
def J5(h:p<=d) u P:hv (d+1) u P=hv d (λi=>u (sk p i)) (λi=>P (sk p i))+u p*P p:=by unfold hv;rw[Hr d p _ h];dsimp only;rw[EH h];lia
def On(d:Nat)(us:LL)(s:LI)(X:Nat->Rat):Prop:=∀i,i<us.length->0<(vc s i:Rat)*j7 d X (vc (us.getD i []))
def Rz(d:Nat)(us:LL)(s:LI):Prop:=∃X,On d us s X
def Rx(d:Nat)(us:LL)(u s:LI):Prop:=∃X,j7 d X (vc u)=0/\On d us s X
def BI(l:On d us s X)(k:On d us s Y)(a:0<=j7 d X (vc u))(b:j7 d Y (vc u)<=0):Rx d us u s:=by
 by_cases p:j7 d X (vc u)=0
 .exact⟨X,p,l⟩
 by_cases o:j7 d Y (vc u)=0
 .exact⟨Y,o,k⟩
 have m:0<j7 d X (vc u):=by grind
 have r:0 < -j7 d Y (vc u):=by grind
 generalize F:j7 d X (vc u)=A at *;generalize H:-j7 d Y (vc u)=B at *;have f:A+B≠0:=by grind
 have n:0<A+B:=by grind
 have g:=λw=>Hw (d:=d) (X:=X) (Z:=Y) f w;refine⟨λj=>(B*X j+A*Y j) / (A+B),?_,λi h=>?_⟩
 .have:=g (vc u);have e:(A+B)*j7 d (λj=>(B*X j+A*Y j) / (A+B)) (vc u)=0:=by grind
  rcases Rat.mul_eq_zero.mp e with z|z
  .exact absurd z f
  .exact z
 .have D:=l i h;have C:=k i h;have:=g (vc (us.getD i []));generalize j7 d (λj=>(B*X j+A*Y j) / (A+B)) (vc (us.getD i []))=Z at *;generalize j7 d X (vc (us.getD i []))=x at *;generalize j7 d Y (vc (us.getD i []))=y at *;have E:=fz r D;have I:=fz m C;generalize (vc s i)=v at *;have e:(A+B)*(v*Z)=B*(v*x)+A*(v*y):=by rw[show (A+B)*(v*Z)=v*((A+B)*Z) by grind,this];grind
  have q:0<(A+B)*(v*Z):=by rw[e];grind
  refine fu (c:=A+B) ?_ (by grind);rw[Rat.mul_zero];exact q
theorem GS:∀d f,(∀i,i<d->Bn N (f i))->Bn (N+d) (sm d f)
 |0,_,_=>oE
 |d+1,f,h=>by rw[sm];exact ((h 0 (by lia)).add (GS d (λi=>f (i+1)) λi a=>h (i+1) (by lia))).mono (by lia)
def Kl{B M d:Nat}(a:∀x∈u,Bn B x)(b:∀x∈P,Bn M x):Bn (B+M+d+1) (hv d (vc u) (vc P)):=((GS d _ λi _=>(nS a i).mul (nS b i)).sub ((nS a d).mul (nS b d))).mono (by lia)
def Il(i:N<=20000) a b (h:a.length<=100) (g:∀x∈a,Bn N x) (f:∀x∈b,Bn N x):qJ c [tI a,tI b]=.ok (.int (KS a b)):=by
 have sz:1000<sizeLine:=by decide
 have e:kP [none,none] (t9 (gn (gy 0) (gn (gy 1) gA))) (nH 2 (iU (j6 0) (iU (j6 1) nY))) (λ_=>.ok true) (FZ c) (vw (jj 2 [tI a,tI b]))=.ok (((a.zip b).map λp=>p.1*p.2).map T.int):=i4 (a.zip b) (λp=>T.tup [.int p.1,.int p.2]) (λp=>T.int (p.1*p.2)) (tZ rfl rfl rfl rfl) (by rw[List.length_zip];lia) (λp d=>⟨_,rfl,rfl,gC rfl rfl (ja ((g _ (aX d).1).ok (f _ (aX d).2) (by lia) (by lia)))⟩) (by rw[aJ];rfl)
 exact i3 rfl (ij (vC e (ML _)))
theorem By:∀d a b,a.length=d->b.length=d->KS a b=sm d λi=>vc a i*vc b i
 |0,[],[],_,_=>rfl
 |d+1,x::a,y::b,ha,hb=>by show x*y+KS a b=_;rw[By d a b (by simpa using ha) (by simpa using hb)];rfl
def vS(h:u.length=d+1)(a:i<d):vc u.dropLast i=vc u i:=by rw[iO _ i (by simp;lia),iO _ i (by lia),List.getElem_dropLast]
def AM(h:u.length=d+1):kL (tI u) (.int (-1))=.ok (.int (vc u d)):=by
 have hne:u≠[]:=λz=>by rw[z]at h;simp at h
 have e:u.getLast? = some (vc u d):=by rw[List.getLast?_eq_some_getLast hne,iO u d (by lia),List.getLast_eq_getElem];simp[h]
 simp[tI,qA,KG,hne,e]
def vn(h:u.length=d+1)(a:f ρ=.ok (tI u)):jU f (λ_=>.ok none) (iM (nv (λi=>.int (-i)) (cM (.int 1)))) ρ=.ok (tI u.dropLast):=by
 have:=Gb a λz=>by have:=congrArg List.length z;simp at this;rw[this]at h;simp at h
 rw[<-List.map_dropLast]at this;exact this
def Fu(q:B<=20000)(p:B'<=20000)(hd:d<=50)(h:u.length=d+1)(j:P.length=d+1)(m:∀x∈u,Bn B x)(n:∀x∈P,Bn B' x)(l:f ρ=.ok (tI u))(o:g ρ=.ok (tI P)) :
  gP (gn (jU f (λ_=>.ok none) (iM (nv (λi=>.int (-i)) (cM (.int 1))))) (gn (jU g (λ_=>.ok none) (iM (nv (λi=>.int (-i)) (cM (.int 1))))) gA)) (qJ c) ρ=.ok (.int (sm d λi=>vc u i*vc P i)):=by
 have b:u.dropLast.length=d:=by simp[h]
 have e:P.dropLast.length=d:=by simp[j]
 refine kJ (vn h l) (vn j o) ((Il (N:=max B B') (by lia) _ _ (by lia) (λx a=>(m x (fB _ a)).mono (by lia)) λx a=>(n x (fB _ a)).mono (by lia)).trans ?_);rw[By d _ _ b e];congr 2;exact hW d _ _ λi k=>by rw[vS h k,vS j k]
def pB{d B M:Nat}(h:B<=20000)(g:M<=20000)(hd:d<=50)(f:u.length=d+1)(e:P.length=d+1)(a:∀x∈u,Bn B x)(b:∀x∈P,Bn M x):jq c [tI u,tI P]=.ok (.int (hv d (vc u) (vc P))):=i3 rfl (ij (gC (Fu h g hd f e a b rfl rfl) (gC (gC rfl (pP rfl) (AM f)) (gC rfl (pP rfl) (AM e)) (ja ((nS a d).ok (nS b d) (by lia) (by lia)))) (pQ _ _)))
def wo(row:LI)(p:Nat):LI:=row.take p++row.drop (p+1)
def AK(h:p<row.length):(wo row p).length+1=row.length:=by unfold wo;simp;lia
def A4(h:p<row.length) i:vc (wo row p) i=vc row (sk p i):=by
 unfold wo sk;rw[jy,bL,d9 (by lia)];by_cases a:i<p
 .rw[aR a,aR a,iO _ i (by simp;lia),iO _ i (by lia),fC]
 .rw[aS a,aS a,yD];congr 1;lia
def Ho(h:x∈wo row p):x∈row:=(aj.mp h).elim fE fF
def mI row (p:Nat) (e:p<row.length) (f:row.length<=100):iz c [tI row,.int (p:Int)]=.ok (tI (wo row p)):=by have a:=ym (fe:=gy 0) (fd:=gy 1) (ρ:=vw (jj 2 [tI row,.int (p:Int)])) rfl rfl (by rw[ax];lia);have b:=xZ (fe:=gy 0) (fd:=gI iG (gy 1) (cM (.int 1))) (d:=p+1) (ts:=row.map T.int) (ρ:=vw (jj 2 [tI row,.int (p:Int)])) rfl (gC rfl rfl (by rw[jL];simp)) (by lia) (by intro z;have:=congrArg List.length z;simp at this;subst this;simp at e);rw[<-dZ]at a;rw[<-d6]at b;exact i3 rfl (ij (gC (x:=tI (row.take p)) (y:=tI (row.drop (p+1))) a b (mY _ _ (by simp;lia))))
structure Gp(d M:Nat)(P:LI):Prop where
 len:P.length=d+1
 bn:∀x∈P,Bn M x
 pos:0<vc P d
def uf i:qo [.int i]=.ok (.int (i.natAbs:Int)):=by show M.ok (T.int (if i<0 then -i else i))=_;congr 2;split<;>lia
def AZ(h:Bn N x):Bn N (x.natAbs:Int):=by unfold Bn at *;simpa using h
def ye{d B M:Nat}(hB:B<=2000)(hM:M<=5000)(hd:d<=50)(hu:u.length=d+2)(q:∀x∈u,Bn B x)(hp:p<=d)(j:Gp d M P) :
  ∃Q g,kg c [tI u,.int (p:Int),tI P]=.ok (tI Q)/\Q.length=d+2/\(∀x∈Q,Bn (B+M+d+1) x)/\0<g/\(∀i,g*vc Q (sk p i)=((vc u p).natAbs:Int)*vc P i)/\g*vc Q p = -jz (vc u p)*hv d (λi=>vc u (sk p i)) (vc P):=by
 have sz:1000<sizeLine:=by decide
 have s:=n6 u p (by lia);have C:=nS q p;have wl:=AK (row:=u) (p:=p) (by lia);have o:∀x∈wo u p,Bn B x:=λx e=>q x (Ho e);have L:vc (wo u p)=λi=>vc u (sk p i):=funext λi=>A4 (by lia) i;have r:=pB (c:=c) (d:=d) (B:=B) (M:=M) (by lia) (by lia) hd (by lia) j.len o j.bn;have k:=Kl (d:=d) o j.bn;rw[L]at r k;generalize hH:hv d (λi=>vc u (sk p i)) (vc P)=h at *;have F:=oH (vc u p);have bs:Bn 1 (-jz (vc u p)):=by unfold Bn;lia
 have f:Bn (B+M+d+1) (-jz (vc u p)*h):=by
  have:=F;unfold Bn at k ⊢;rw[aZ];have b:(-jz (vc u p)).natAbs<=1:=by lia
  exact cf (aO (Nat.mul_le_mul_right _ b) (by lia)) k
 let a:LI:=P.map λx=>((vc u p).natAbs:Int)*x;have Z:a.length=d+1:=by simp[a,j.len]
 have l:∀x∈a,Bn (B+M+d+1) x:=λx e=>by obtain⟨y,K,rfl⟩:=aE.mp e;exact ((AZ C).mul (j.bn y K)).mono (by lia)
 have w:∀i,vc a i=((vc u p).natAbs:Int)*vc P i:=GW P _;let row:LI:=(a.take p++[-jz (vc u p)*h])++a.drop p;have rl:row.length=d+2:=by simp[row,Z];lia
 have br:∀x∈row,Bn (B+M+d+1) x:=λx e=>by
  rcases aj.mp e with z|z
  .rcases aj.mp z with z|z
   .exact l x (fE z)
   .rw[ak.mp z];exact f
  .exact l x (fF z)
 obtain⟨g,R,X,N,yl,n,J⟩:=mQ (c:=c) (B+M+d+1) (by lia) row (by lia) br;have m:∀i,vc row i=if i<p then vc a i else if i=p then -jz (vc u p)*h else vc a (i-1):=λi=>by
  show vc ((a.take p++[-jz (vc u p)*h])++a.drop p) i=_;have A:(a.take p).length=p:=by rw[bL];lia
  rw[jy,jy,aU,A,bY];by_cases b:i<p
  .rw[aR (by lia),aR b,aR b,iO _ i (by rw[A];exact b),iO _ i (by lia),fC]
  .by_cases D:i=p
   .subst D;rw[aR (by lia),aS b,aS b,aR rfl,c6];rfl
   .rw[aS (by lia),aS b,aS D,yD];congr 1;lia
 refine⟨R,g,?_,by lia,J,X,λi=>?_,?_⟩
 .let S (Y H U:Option W):En:=[some (.p (tI u)),some (.p (.int (p:Int))),some (.p (tI P)),Y,H,U];have E:kP [none,some 3] (iR (gy 2)) (j6 0) (λ_=>.ok true) (rP c) (mU (S (some (.p (.int ((vc u p).natAbs:Int)))) (some (.p (.int (-jz (vc u p)*h)))) none))=.ok (a.map T.int):=
   i4 P T.int (λx=>T.int (((vc u p).natAbs:Int)*x)) rfl (by have:=j.len;lia) (λx e=>⟨_,rfl,rfl,gC rfl rfl (ja ((AZ C).ok (j.bn x e) (by lia) (by lia)))⟩) (by simp[a])
  have v:=ym (fe:=gy 5) (fd:=gy 1) (d:=p) (ts:=a.map T.int) (ρ:=vw (S (some (.p (.int ((vc u p).natAbs:Int)))) (some (.p (.int (-jz (vc u p)*h)))) (some (.p (tI a))))) rfl rfl (by rw[ax];lia);have I:jU (gy 5) (iM (gy 1)) (λ_=>.ok none) (vw (S (some (.p (.int ((vc u p).natAbs:Int)))) (some (.p (.int (-jz (vc u p)*h)))) (some (.p (tI a)))))=.ok (tI (a.drop p)):=by have:jU (gy 5) (iM (gy 1)) (λ_=>.ok none) (vw (S (some (.p (.int ((vc u p).natAbs:Int)))) (some (.p (.int (-jz (vc u p)*h)))) (some (.p (tI a)))))=.ok (.tup (mO (a.map T.int) (some (p:Int)) none)):=rfl;rw[this,vR,<-d6];rfl
  rw[<-dZ]at v;exact i3 rfl (gB (ρ':=S (some (.p (.int ((vc u p).natAbs:Int)))) none none) (gK (nc (gC rfl rfl s) (uf _)) rfl) (gB (ρ':=S (some (.p (.int ((vc u p).natAbs:Int)))) (some (.p (.int (-jz (vc u p)*h)))) none) (gK (gC (pP (nT (gC rfl rfl s) (mX _))) (kJ (kJ rfl rfl (mI u p (by lia) (by lia))) rfl r) (ja (bs.ok k (by lia) (by lia)))) rfl) (gB (ρ':=S (some (.p (.int ((vc u p).natAbs:Int)))) (some (.p (.int (-jz (vc u p)*h)))) (some (.p (tI a)))) (gK (vC E (by simp;rfl)) rfl) (ij (nT (gC (x:=tI (a.take p++[-jz (vc u p)*h])) (y:=tI (a.drop p)) (gC (x:=tI (a.take p)) (y:=tI [-jz (vc u p)*h]) v (AC rfl) (mY _ _ (by simp;lia))) I (mY _ _ (by simp;lia))) N)))))
 .rw[<-n,m];unfold sk;by_cases b:i<p
  .rw[aR b,aR b];exact w i
  .rw[aS b,aS (by lia),aS (by lia)];exact w i
 .rw[<-n,m,aS (by lia),aR rfl]
def Gz i j:uc [.int i,.int j]=.ok (.int (max i j)):=by simp;split<;>lia
def JB{a m:Int}(b:0<=a)(d:0<m):a<(a.fdiv m+1)*m/\0<=a.fdiv m/\a.fdiv m<=a:=by rw[Int.fdiv_eq_ediv_of_nonneg _ (by lia)];exact⟨Int.lt_ediv_add_one_mul_self a d,Int.ediv_nonneg b (by lia),Int.ediv_le_self _ b⟩
def wM(hB:B<=2000)(hM:N<=5000)(J:2*B+N+d+3<=8000)(hd:d<=50){us:LL}(I:∀w∈us,w.length=d+1/\∀x∈w,Bn B x)(hn:us.length<=100)(v:u.length=d+1)(C:∀x∈u,Bn B x)(b:Gp d N P)(hne:∀w∈us,hv d (vc w) (vc P)≠0)(hs:s = -1\/s=1) :
  ∃Q g o,jt c [.lst (us.map tI),tI u,tI P,.int s]=.ok (tI Q)/\Q.length=d+1/\(∀x∈Q,Bn (2*B+N+d+3) x)/\0<g/\1<=o/\(∀i,i<d->g*vc Q i=o*vc P i+s*vc u i)/\g*vc Q d=o*vc P d/\
   ∀w∈us,((sm d λi=>vc w i*vc u i).natAbs:Int)<o*((hv d (vc w) (vc P)).natAbs:Int):=by
 have sz:1000<sizeLine:=by decide
 let S (o:Int) (j f x7:Option W):En:=[some (.p (.lst (us.map tI))),some (.p (tI u)),some (.p (tI P)),some (.p (.int s)),some (.p (.int o)),j,f,x7];obtain⟨ρ',Z,o,j,f,rfl,o1,r,n⟩:=jW (m:=nj 5) (g:=qf c) tI
  (λk R=>∃o j f,R=S o j f none/\1<=o/\Bn (2*B+d+1) o/\∀w∈us.take k,((sm d λi=>vc w i*vc u i).natAbs:Int)<o*((hv d (vc w) (vc P)).natAbs:Int)) us 0 (S 1 none none none)
  ⟨1,none,none,rfl,by decide,(by unfold Bn;exact aF (by decide:(1:Int).natAbs<2 ^ 1) (de (by decide) (by lia))),λw hw=>by simp at hw⟩ (by
   rintro k w R X ⟨o,j,f,rfl,o1,r,n⟩;rw[aH]at n ⊢;have hw:=av X;obtain⟨K,A⟩:=I w hw;have dt:gP (gn (jU (gy 5) (λ_=>.ok none) (iM (nv (λi=>.int (-i)) (cM (.int 1))))) (gn (jU (gy 1) (λ_=>.ok none) (iM (nv (λi=>.int (-i)) (cM (.int 1))))) gA)) (qJ c) (mU (S o (some (.p (tI w))) f none))=.ok (.int (sm d λi=>vc w i*vc u i)):=Fu (B:=B) (B':=B) (by lia) (by lia) hd K v A C rfl rfl;have la:=pB (c:=c) (d:=d) (B:=B) (M:=N) (by lia) (by lia) hd K b.len A b.bn;have hb:=Kl (d:=d) A b.bn;have h0:=hne w hw;have sb:Bn (2*B+d) (sm d λi=>vc w i*vc u i):=(GS d _ λi _=>(nS A i).mul (nS C i)).mono (by lia);generalize hh:hv d (vc w) (vc P)=h at *;generalize H:(sm d λi=>vc w i*vc u i)=st at *;obtain⟨f1,f2,f3⟩:=JB (a:=(st.natAbs:Int)) (m:=(h.natAbs:Int)) (by lia) (by lia);generalize l:(st.natAbs:Int).fdiv (h.natAbs:Int)=q at *;refine⟨_,S (max o (q+1)) (some (.p (tI w))) (some (.p (.int (st.natAbs:Int)))) none,rfl,.inl (gB (ρ':=S o (some (.p (tI w))) (some (.p (.int (st.natAbs:Int)))) none) (gK (nc dt (uf _)) rfl) (gK ?_ rfl)),max o (q+1),_,_,rfl,by lia,?_,?_⟩
   .have e1:gI iG (gI kW (gy 6) (j9 qo (gn (gP (gn (gy 5) (gn (gy 2) gA)) (jq c)) gA))) (cM (.int 1)) (mU (S o (some (.p (tI w))) (some (.p (.int (st.natAbs:Int)))) none))=.ok (.int (q+1)):=gC (gC rfl (nc (kJ rfl rfl la) (uf _)) ((ku (by lia) ((AZ hb).noPy (by lia))).trans (by rw[l]))) rfl (jL _ _);simp only[j9,gn,gA,e1,M.bind_ok];exact Gz o (q+1)
   .have:Bn (2*B+d+1) (q+1):=by unfold Bn at sb ⊢;rw[dc];lia
    unfold Bn at *;lia
   .intro z Y;rw[iJ us k w X]at Y;rcases aj.mp Y with y|y
    .have:=n z y;refine fG this (aK (by lia) (by lia))
    .rw[ak.mp y,H,hh];have hm:(q+1)*(h.natAbs:Int)<=max o (q+1)*(h.natAbs:Int):=aK (by lia) (by lia);exact fG f1 hm)
 rw[aH,eW]at n;let e:LI:=(P.dropLast.zip u.dropLast).map λq=>o*q.1+s*q.2;have l1:P.dropLast.length=d:=by simp[b.len]
 have l2:u.dropLast.length=d:=by simp[v]
 have E:e.length=d:=by simp[e,b.len,v]
 have U:Bn 1 s:=by rcases hs with rfl|rfl<;>(unfold Bn;decide)
 have pv:∀i,i<d->vc e i=o*vc P i+s*vc u i:=λi D=>by rw[<-vS b.len D,<-vS v D,iO _ i (by lia),iO _ i (by lia),iO _ i (by lia)];simp[e]
 have pb:∀x∈e,Bn (2*B+N+d+3) x:=λx F=>by obtain⟨q,l,rfl⟩:=aE.mp F;obtain⟨q1,q2⟩:=aX l;exact ((r.mul (b.bn _ (fB _ q1))).add (U.mul (C _ (fB _ q2)))).mono (by lia)
 have lb:Bn (2*B+N+d+3) (o*vc P d):=(r.mul (nS b.bn d)).mono (by lia);obtain⟨g,ys,hg,el,yl,L,yb⟩:=mQ (c:=c) (2*B+N+d+3) J (e++[o*vc P d]) (by simp[E];lia) λx F=>(aj.mp F).elim (pb x) λz=>by rw[ak.mp z];exact lb
 have e7:kP [none,none,some 4,some 3] (t9 (gn (jU (gy 2) (λ_=>.ok none) (iM (nv (λi=>.int (-i)) (cM (.int 1))))) (gn (jU (gy 1) (λ_=>.ok none) (iM (nv (λi=>.int (-i)) (cM (.int 1))))) gA))) (nH 2 (iU (j6 0) (iU (j6 1) nY))) (λ_=>.ok true) (pT c) (mU (S o j f none))=.ok (e.map T.int):=i4 (P.dropLast.zip u.dropLast) (λq=>T.tup [.int q.1,.int q.2]) (λq=>T.int (o*q.1+s*q.2)) (tZ (vn b.len rfl) rfl (vn v rfl) rfl) (by rw[List.length_zip];lia) (λq l=>⟨_,rfl,rfl,gC (gC rfl rfl (ja (r.ok (b.bn _ (fB _ (aX l).1)) (by lia) (by lia)))) (gC rfl rfl (ja (U.ok (C _ (fB _ (aX l).2)) (by lia) (by lia)))) (jL _ _)⟩) (by simp only[e,aJ];rfl)
 refine⟨ys,g,o,i3 rfl (gB (ρ':=S 1 none none none) (gK rfl rfl) (gB (lB rfl Z) (gB (ρ':=S o j f (some (.p (.lst (e.map T.int))))) (gK (iq e7) rfl) (ij (nT (gC (x:=tI e) (y:=tI [o*vc P d]) (nc (t:=.lst (e.map T.int)) rfl (by simp;rfl)) (AC (gC rfl (gC rfl (pP rfl) (AM b.len)) (ja (r.ok (nS b.bn d) (by lia) (by lia))))) (mY _ _ (by simp[E];lia))) el))))),by rw[yl];simp[E],yb,hg,o1,λi D=>?_,?_,n⟩
 .rw[<-L,jy,aR (by lia),pv i D]
 .rw[<-L,jy,aS (by lia),E,c6];rfl
def sL(i:0<a)(g:0<b)(e:a*x=b*y):jz x=jz y:=by
 have d:∀{p q z w:Int},0<p->0<q->p*z=q*w->0<w->0<z:=λ{p q z w} hp hq e hw=>by
  have f:0<p*z:=by rw[e];exact aY hq hw
  exact fH f hp |> λh=>h
 have k:a * -x=b * -y:=by rw[dW,dW,e]
 unfold jz;by_cases f:0<x
 .rw[aR f,aR (d g i e.symm f)]
 .rw[aS f,aS λz=>f (d i g e z)];by_cases j:x<0
  .rw[aR j,aR (by have:=d g i k.symm (by lia);lia)]
  .rw[aS j,aS λz=>j (by have:=d i g k (by lia);lia)]
noncomputable def gU:Nat->LL
 |0=>[[]]
 |n+1=>(gU n).flatMap λs=>[s++[-1],s++[1]]
theorem iA:∀{n} {s},s∈gU n->s.length=n/\∀x∈s,x = -1\/x=1
 |0,s,h=>by rw[ak.mp h];exact⟨rfl,λ_ z=>nomatch z⟩
 |n+1,s,h=>by
  obtain⟨r,hr,hs⟩:=fJ.mp h;obtain⟨b,d⟩:=iA hr;have go:∀v:Int,(v = -1\/v=1)->(r++[v]).length=n+1/\∀x∈r++[v],x = -1\/x=1:=λv hv=>⟨by simp[b],λx a=>(aj.mp a).elim (d x) λz=>by rw[ak.mp z];exact hv⟩;simp only[aG,dY,or_false]at hs;rcases hs with rfl|rfl
  .exact go _ (.inl rfl)
  .exact go _ (.inr rfl)
theorem zl:∀n:Nat,(gU n).length=2 ^ n
 |0=>rfl
 |n+1=>by rw[gU,fK];have:(gU n).map (λs=>([s++[-1],s++[1]]:LL).length)=(gU n).map λ_=>2:=cQ λ_ _=>rfl;rw[this,List.map_const',List.sum_replicate_nat,zl n,dc]
def nX(h:s∈gU n)(d:i<n):vc s i=1\/vc s i = -1:=by obtain⟨b,a⟩:=iA h;rw[iO s i (by lia)];exact (a _ (aW _)).symm
def m4(p:LI×LI):T:=.tup [tI p.1,tI p.2]
structure Gu(d B:Nat)(u:LI):Prop where
 len:u.length=d+1
 bn:∀x∈u,Bn B x
 ne:∃i,vc u i≠0
def Bm(p:Prop):Bool:=@decide p (Classical.propDecidable p)
@[simp] theorem A9:Bm p=true↔p:=@decide_eq_true_iff p (Classical.propDecidable p)
def sN(h:p):Bm p=true:=A9.mpr h
def Aj(h:¬p):Bm p=false:=by
 cases e:Bm p with
 |false=>rfl
 |true=>exact absurd (A9.mp e) h
def flt(n:Nat)(p:LI->Prop):LL:=(gU n).filter λs=>Bm (p s)
def oG(h:∀s∈gU n,p s↔q s):flt n p=flt n q:=fL λs a=>by rw[show p s=q s from propext (h s a)]
def iN:s∈flt n p↔s∈gU n/\p s:=by simp[flt]
def t7(h:∀s,¬p s):flt n p=[]:=fM.mpr λs _=>by simp[h s]
def sO n p:(flt n p).length<=2 ^ n:=by rw[<-zl];exact fN _ _
structure Ki(d N:Nat)(us:LL)(L:List (LI×LI)):Prop where
 fst:L.map Prod.fst=flt us.length (Rz d us)
 gp:∀p∈L,Gp d N p.2
 sg:∀p∈L,∀i,i<us.length->jz (hv d (vc (us.getD i [])) (vc p.2))=vc p.1 i
def GP(f:0<vc P d)(h:∀i,i<us.length->jz (hv d (vc (us.getD i [])) (vc P))=vc s i)(b:∀i,i<us.length->vc s i=1\/vc s i = -1):On d us s (XP d (vc P)):=λi a=>by
 have e:=h i a;rw[M0 f]at e;generalize j7 d (XP d (vc P)) (vc (us.getD i []))=v at *;unfold PH at e;rcases b i a with q|q<;>rw[q]at e ⊢
 .have o:((1:Int):Rat)=1:=rfl;rw[o];split at e
  .grind
  .split at e<;>cases e
 .have o:((-1:Int):Rat) = -1:=rfl;rw[o];split at e
  .cases e
  .split at e
   .grind
   .cases e
def qG{us:LL}(a:us.length=n)(f:LI->LI)(b:i<n):(us.map f).getD i []=f (us.getD i []):=by rw[ag,aw,ai (by lia),ag,ai (by lia)];rfl
def qq{us:LL}(a:i<us.length):us.getD i []∈us:=by rw[ag,ai a];exact aW _
def yy{a b:Int}(i:0<a)(g:0<b)(e:(a:Rat)*x=(b:Rat)*y)(h:0<v*y):0<v*x:=by
 have k:=yL i;have j:=yL g;have d:a*(v*x)=b*(v*y):=by grind
 have f:0<a*(v*x):=by rw[d];exact fz j h
 refine fu (c:=a) ?_ (by grind);rw[Rat.mul_zero];exact f
def vF(A:p<=d)(B:vc u p≠0)(f:LI->LI)(m:∀w∈us,vc (f w) p=0/\p<(f w).length/\∃g s b:Int,0<g/\0<s/\∀i,g*vc (f w) i=s*vc w i+b*vc u i) s:Rz d (us.map λw=>wo (f w) p) s↔Rx (d+1) us u s:=by
 have y:∀X:Nat->Rat,∀w∈us,j7 (d+1) X (vc (f w))=j7 d (λi=>X (sk p i)) (vc (wo (f w) p)):=λX w hw=>by obtain⟨D,C,-⟩:=m w hw;rw[G5 A,D,show vc (wo (f w) p)=λi=>vc (f w) (sk p i) from funext λi=>A4 C i];grind
 constructor
 .rintro⟨X,v⟩;let Y:Nat->Rat:=λj=>if j=p then -j7 d X (λi=>vc u (sk p i)) / (vc u p:Rat) else X (if j<p then j else j-1)
  have x:(λi=>Y (sk p i))=X:=funext λi=>by
   show (if sk p i=p then _ else X (if sk p i<p then sk p i else sk p i-1))=X i;unfold sk;by_cases q:i<p
   .rw[aR q,aS (by lia),aR q]
   .rw[aS q,aS (by lia),aS (by lia)];congr 1
  have E:(vc u p:Rat)≠0:=λz=>B (by exact_mod_cast z);have k:j7 (d+1) Y (vc u)=0:=by
   rw[G5 A,x];have:Y p = -j7 d X (λi=>vc u (sk p i)) / (vc u p:Rat):=by show (if p=p then _ else _)=_;rw[aR rfl]
   rw[this];grind
  refine⟨Y,k,λi h=>?_⟩;have hw:=qq h;obtain⟨-,-,g,a,b,r,o,e⟩:=m _ hw;have n:=v i (by simpa using h);rw[qG rfl _ h]at n;have t:=y Y _ hw;rw[x]at t;rw[<-t]at n;have l:=Cd (d:=d+1) (X:=Y) _ _ _ g a b e;rw[k]at l;exact yy o r (by grind) n
 .rintro⟨X,k,v⟩;refine⟨λi=>X (sk p i),λi h=>?_⟩;rw[ax]at h;have hw:=qq h;obtain⟨-,-,g,a,b,r,o,e⟩:=m _ hw;rw[qG rfl _ h,<-y X _ hw];have l:=Cd (d:=d+1) (X:=X) _ _ _ g a b e;rw[k]at l;exact yy r o (by grind) (v i h)
def tX(n:p<=d)(C:vc u p≠0)(k:0<g0)(o:∀i,g0*vc Q (sk p i)=((vc u p).natAbs:Int)*vc P i)(j:g0*vc Q p = -jz (vc u p)*hv d (λi=>vc u (sk p i)) (vc P)) :
  hv (d+1) (vc u) (vc Q)=0/\(vc r p=0->p<r.length->(∃g s b:Int,0<g/\0<s/\∀i,g*vc r i=s*vc w i+b*vc u i)->jz (hv (d+1) (vc w) (vc Q))=jz (hv d (vc (wo r p)) (vc P))):=by
 have v:0<((vc u p).natAbs:Int):=by lia
 have f:∀x:Vc,g0*hv d x (λi=>vc Q (sk p i))=((vc u p).natAbs:Int)*hv d x (vc P):=λx=>by
  have:=HX (d:=d) (u:=x) (P:=vc P) (Q:=vc P) (R:=λi=>vc Q (sk p i)) (g:=g0) (a:=((vc u p).natAbs:Int)) (b:=0) λi=>by rw[o i];lia
  lia
 have z:hv (d+1) (vc u) (vc Q)=0:=by
  have e:=J5 n (vc u) (vc Q);have m:=f λi=>vc u (sk p i);have y:=oD (vc u p);generalize hv d (λi=>vc u (sk p i)) (vc P)=h at *;have:g0*hv (d+1) (vc u) (vc Q)=0:=by rw[e,eS,m,show g0*(vc u p*vc Q p)=vc u p*(g0*vc Q p) by grind,j,<-y];grind
  rcases eT.mp this with q|q
  .lia
  .exact q
 refine⟨z,λr0 rl ⟨g,a,b,hg,ha,e⟩=>?_⟩;have l:=Lp (d:=d+1) (P:=vc Q) e;rw[z]at l;have A:=J5 n (vc r) (vc Q);rw[r0]at A;have B:=funext λi=>A4 rl i;rw[B];have m:=f λi=>vc r (sk p i);rw[<-sL k v m];refine sL ha hg ?_;rw[show hv d (λi=>vc r (sk p i)) (λi=>vc Q (sk p i))=hv (d+1) (vc r) (vc Q) by lia];lia
abbrev nI(k:Nat):T:=.int (k:Int)
def Dm(h:f ρ=.ok (.tup ts)):lY (gn f gA) ρ=.ok (nK ts):=by simp only[lY,gn,gA,h,M.bind_ok];rfl
def Dy(h:f ρ=.ok (.lst ts)):lY (gn f gA) ρ=.ok (nK ts):=by simp only[lY,gn,gA,h,M.bind_ok];rfl
def Le ns:xf [tI ns]=.ok (.bl (ns.any λx=>x != 0)):=by simp only[tI,xf,qx,zQ];rw[List.any_map];rfl
def JR(h:f ρ=.ok (.bl b)):CG f ρ=.ok (.bl (!b)):=by simp only[CG,j4,h,M.bind_ok]
theorem xw(hB:B<=2000)(hN:N<=5000)(hd:d<=50)(H:∀w∈us,Gu d B w)(hn:us.length<=8)(hu:Gu d B u) FR
  (hFR:∀d',d=d'+1->∀vs:LL,vs.length=us.length->(∀w∈vs,Gu d' (2*B+1) w)->∃L:List (LI×LI),FR [.lst (vs.map tI),.int (d':Int)]=.ok (.lst (L.map m4))/\Ki d' N vs L) :
  ∃C:List (LI×LI),jM c FR [.lst (us.map tI),tI u]=.ok (C.map m4)/\C.map Prod.fst=flt us.length (Rx d us u)/\∀q∈C,Gp d (B+N+d+1) q.2/\hv d (vc u) (vc q.2)=0/\(∀i,i<us.length->jz (hv d (vc (us.getD i [])) (vc q.2))=vc q.1 i)/\∃i,i<d/\vc u i≠0:=by
 have sz:1000<sizeLine:=by decide
 have ul:=hu.len;let S (x2 x3 x4:Option W):En:=[some (.p (.lst (us.map tI))),some (.p (tI u)),x2,x3,x4];let Z:List (Int×Nat):=u.dropLast.zipIdx.filter λq=>q.1 != 0;have hZ:∀q∈Z,q.2<d/\vc u q.2=q.1/\q.1≠0:=λq v=>by
  obtain⟨J,o⟩:=aV.mp v;obtain⟨x,k⟩:=q;have n:=fO.mp J;have hk:k<d:=by have:=(ae.mp n).1;simp at this;lia
  refine⟨hk,?_,by simpa using o⟩;rw[<-vS ul hk,iO _ k (by simp;lia)];have:=ae.mp n;exact this.2
 have e2:kP [none,none] (lY (gn (jU (gy 1) (λ_=>.ok none) (iM (nv (λi=>.int (-i)) (cM (.int 1))))) gA)) (nH 2 (iU (j6 0) (iU (j6 1) nY))) (j4 (gI (iP true) (gy 1) (cM (.int 0)))) (qe c FR) (mU (S none none none))=.ok (Z.map λq=>nI q.2):=by refine Gi u.dropLast.zipIdx (λq=>T.tup [.int (q.2:Int),.int q.1]) (λq=>nI q.2) (λq=>q.1 != 0) ((Dm (vn ul rfl)).trans (by rw[oJ])) (by simp;lia) (λq v=>⟨_,rfl,jI (gC rfl rfl (by rw[zp];rfl)),λ_=>rfl⟩) rfl
 have c2:j4 (gI (iP false) (gy 2) (jb (lstM gA))) (vw (S (some (.p (.lst (Z.map λq=>nI q.2)))) none none))=.ok Z.isEmpty:=by refine jI (gC (x:=.lst (Z.map λq=>nI q.2)) (y:=.lst []) rfl (by simp) ((pW false _ (lW _ _ λ_ _=>rfl) (aO (lM _ 0 _ λ_ _=>aL _) (by decide))).trans ?_));cases Z<;>rfl
 have st:∀{g:En->O} {ts:List T},_=O.rf ts->jM c FR [.lst (us.map tI),tI u]=.ok ts:=λ{g ts} h=>nL rfl (gB (ρ':=S (some (.p (.lst (Z.map λq=>nI q.2)))) none none) (gK (iq e2) rfl) h);cases m:Z with
 |nil=>
  have z0:∀i,i<d->vc u i=0:=λi l=>aP λne=>by have:(vc u i,i)∈Z:=aV.mpr ⟨fO.mpr (by rw[ai (by simp;lia),<-vS ul l,iO _ i (by simp;lia)]),by simpa using ne⟩;rw[m]at this;exact nomatch this
  have hd0:vc u d≠0:=by
   obtain⟨i,l⟩:=hu.ne;rcases c5 i d with h|h|h
   .exact absurd (z0 i h) l
   .rw[<-h];exact l
   .exact absurd (iX u i (by lia)) l
  refine⟨[],st (g:=ji) (Es (kz (c2.trans (by rw[m];rfl)) (m7 (by simp))) rfl),(t7 λs ⟨X,hX,_⟩=>?_).symm,λ_ h=>nomatch h⟩;rw[yB z0]at hX;have z:(vc u d:Rat)=0:=by grind
  exact hd0 (by exact_mod_cast z)
 |cons z0 Zr=>
  obtain⟨x,p⟩:=z0;obtain⟨hpd,hpx,hx0⟩:=hZ (x,p) (by rw[m];simp);dsimp only at hpd hpx hx0;obtain⟨d',rfl⟩:∃d',d=d'+1:=⟨d-1,by lia⟩;have h0:vc u p≠0:=by rw[hpx];exact hx0
  obtain⟨f,D⟩:=mG (P:=λ(w r:LI)=>iK c [tI w,tI u,.int (p:Int)]=.ok (tI r)/\r.length=w.length/\(∀x∈r,Bn (2*B+1) x)/\vc r p=0/\∃g s b:Int,0<g/\0<s/\∀i,g*vc r i=s*vc w i+b*vc u i) us λw hw=>by have wl:=(H w hw).len;obtain⟨r,J,o,n,A,g,s,b,I,U,h7,-⟩:=Ei (c:=c) B B w u p (by lia) (by lia) (by lia) (by lia) (H w hw).bn hu.bn h0;exact⟨r,J,o,λx F=>(n x F).mono (by lia),A,g,s,b,I,U,h7⟩
  have K:∀w∈us,(f w).length=d'+2:=λw hw=>by rw[(D w hw).2.1,(H w hw).len]
  let a:LL:=us.map λw=>wo (f w) p;have ti:=vF (d:=d') (p:=p) (by lia) (us:=us) h0 f λw hw=>⟨(D w hw).2.2.2.1,by have:=K w hw;lia,(D w hw).2.2.2.2⟩;have e4:kP [none,some 3,some 1] (iR (gy 0)) (j6 0) (λ_=>.ok true) (qc c FR) (mU (S (some (.p (.lst (Z.map λq=>nI q.2)))) (some (.p (nI p))) none))=.ok (a.map tI):=i4 us tI (λw=>tI (wo (f w) p)) rfl (by lia) (λw hw=>⟨_,rfl,rfl,kJ (vT rfl rfl rfl (D w hw).1) rfl (mI _ p (by have:=K w hw;lia) (by have:=K w hw;lia))⟩) (by simp[a])
  let S4:En:=S (some (.p (.lst (Z.map λq=>nI q.2)))) (some (.p (nI p))) (some (.p (.lst (a.map tI))));have e5:j4 (j9 xf (gn (jb (kP [none] (iR (gy 4)) (j6 0) (λ_=>.ok true) (qB c FR))) gA)) (vw S4)=.ok ((a.map λt=>!(t.any λx=>x != 0)).any id):=by refine jI (vC (ts:=(a.map λt=>!(t.any λx=>x != 0)).map T.bl) ?_ (Jj _));exact i4 a tI (λt=>T.bl (!(t.any λx=>x != 0))) rfl (by simp[a];lia) (λt ht=>⟨_,rfl,rfl,JR (nc (t:=tI t) rfl (Le t))⟩) (by simp)
  have Y:∀{ts:List T},_=O.rf ts->jM c FR [.lst (us.map tI),tI u]=.ok ts:=λ{ts} h=>st (g:=ji) (gB (jv (c2.trans (by rw[m];rfl)) rfl) (gB (ρ':=S (some (.p (.lst (Z.map λq=>nI q.2)))) (some (.p (nI p))) none) (gK (t:=nI p) (gC (x:=.lst (Z.map λq=>nI q.2)) (y:=.int 0) rfl rfl (by rw[m];exact Bu _ _)) rfl) (gB (ρ':=S4) (gK (iq e4) rfl) h)));cases hA:(a.map λt=>!(t.any λx=>x != 0)).any id with
  |true=>
   obtain⟨b,hb,hb2⟩:=dg.mp hA;obtain⟨t,ht,rfl⟩:=aE.mp hb;obtain⟨w,hw,rfl⟩:=aE.mp ht;obtain⟨i,l,hiw⟩:=fP hw;have az:∀j,vc (wo (f w) p) j=0:=λj=>aP λne=>by
    have:((wo (f w) p).any λx=>x != 0)=true:=by
     by_cases hj:j<(wo (f w) p).length
     .exact dg.mpr ⟨vc (wo (f w) p) j,by rw[iO _ j hj];exact aW _,by simpa using ne⟩
     .exact absurd (iX _ j (by lia)) ne
    rw[this]at hb2;cases hb2
   refine⟨[],Y (Es (kz (e5.trans (by rw[hA])) (m7 (by simp))) rfl),(t7 λs hs=>?_).symm,λ_ h=>nomatch h⟩;obtain⟨X,hX⟩:=(ti s).mpr hs;have:=hX i (by simpa using l);rw[qG rfl _ l,ag,ai l,Option.getD_some,hiw,yB λj _=>az j,az]at this;simp at this
  |false=>
   have gtr:∀t∈a,Gu d' (2*B+1) t:=λt ht=>by
    obtain⟨w,hw,rfl⟩:=aE.mp ht;have wl:=AK (row:=f w) (p:=p) (by have:=K w hw;lia);have:=bG.mp hA _ (aE.mpr ⟨_,ht,rfl⟩);refine⟨by have:=K w hw;lia,λx F=>(D w hw).2.2.1 x (Ho F),?_⟩;have t1:((wo (f w) p).any λx=>x != 0)=true:=by simpa using this
    obtain⟨x,F,hx2⟩:=dg.mp t1;obtain⟨j,hj,e⟩:=fP F;exact⟨j,by rw[iO _ j hj,e];simpa using hx2⟩
   obtain⟨L,eL,hL⟩:=hFR d' rfl a (by simp[a]) gtr;obtain⟨Q,hQ⟩:=mG (P:=λ(q:LI×LI) (r:LI×Int)=>kg c [tI u,.int (p:Int),tI q.2]=.ok (tI r.1)/\r.1.length=d'+2/\(∀x∈r.1,Bn (B+N+(d'+1)+1) x)/\0<r.2/\(∀i,r.2*vc r.1 (sk p i)=((vc u p).natAbs:Int)*vc q.2 i)/\r.2*vc r.1 p = -jz (vc u p)*hv d' (λi=>vc u (sk p i)) (vc q.2)) L λq v=>by obtain⟨R,g,J,o,n,A,I,U⟩:=ye (c:=c) (d:=d') (B:=B) (M:=N) hB hN (by lia) (by lia) hu.bn (p:=p) (by lia) (hL.gp q v);exact⟨(R,g),J,o,λx F=>(n x F).mono (by lia),A,I,U⟩
   have Ll:L.length<=256:=by
    have J:=congrArg List.length hL.fst;have o:=sO a.length (Rz d' a);have n:a.length<=8:=by simpa[a] using hn
    have A:2 ^ a.length<=2 ^ 8:=de (by decide) n;rw[ax]at J;lia
   refine⟨L.map λq=>(q.1,(Q q).1),Y (gB (jv (e5.trans (by rw[hA])) rfl) (m7 (i4 L m4 (λq=>m4 (q.1,(Q q).1)) (lQ (kJ (x:=.lst (a.map tI)) (y:=.int (d':Int)) rfl (gC (x:=.int ((d'+2:Nat):Int)) (y:=.int 2) (nc (t:=tI u) rfl (by simp[tI,ul];lia)) rfl (by rw[pQ];congr 2;lia)) eL)) (by lia) (λq v=>⟨_,rfl,rfl,uZ rfl (vT rfl rfl rfl (hQ q v).1)⟩) (by rw[aJ];rfl)))),?_,λq v=>?_⟩
   .rw[aJ];show L.map Prod.fst=_;rw[hL.fst,show a.length=us.length by simp[a]];exact oG λs _=>ti s
   .obtain⟨q0,E,rfl⟩:=aE.mp v;obtain⟨-,o,n,A,I,U⟩:=hQ q0 E;have gp0:=hL.gp q0 E;dsimp only;refine⟨⟨o,n,?_⟩,(tX (w:=u) (r:=u) (by lia) h0 A I U).1,λi l=>?_,p,by lia,h0⟩
    .have:=I d';rw[EH (by lia)]at this;have h7:0<((vc u p).natAbs:Int)*vc q0.2 d':=aY (by lia) gp0.pos;rw[<-this]at h7;exact fH h7 A
    .have hw:=qq l;rw[(tX (w:=us.getD i []) (r:=f (us.getD i [])) (by lia) h0 A I U).2 (D _ hw).2.2.2.1 (by have:=K _ hw;lia) (D _ hw).2.2.2.2];have:=hL.sg q0 E i (by simpa[a] using l);rwa [qG rfl _ l]at this
theorem uI:∀n f,ls (n+1) f=ls n f+f n
 |0,f=>by unfold ls ls;grind
 |n+1,f=>by have:=uI n λi=>f (i+1);show f 0+ls (n+1) (λi=>f (i+1))=(f 0+ls n λi=>f (i+1))+f (n+1);rw[this];grind
def uG(g:vP d s)(h:Rs d s u) X:j7 (d+1) X (vc (u++[0]))=(vc u d:Rat)*(ls d (λi=>Xs s i*X i)+X d):=by
 have b:∀i,i<=d->vc (u++[0]) i=vc u i:=λi a=>by rw[jy,aR (by rw[h.len];lia)]
 have f:vc (u++[0]) (d+1)=0:=by rw[jy,aS (by rw[h.len];lia),h.len,c6];rfl
 unfold j7;rw[f,uI,b d (aL _)];have e:ls d (λp=>(vc (u++[0]) p:Rat)*X p)=ls d (λi=>(vc u d)*(Xs s i*X i)+0*0):=ik d _ _ λi a=>by
  rw[b i (by lia)];have q:=h.eq i a;have j:=(L6 g a).2.pos;have ne:=QP (show (nB i s).2≠0 by lia);have k:(vc u i)*((nB i s).2:Rat)=(vc u d)*((nB i s).1:Rat):=by exact_mod_cast q
  show _=(vc u d)*(qv (nB i s)*X i)+0*0;unfold qv;generalize ((nB i s).2:Rat)=Q at *;have:(vc u i)=(vc u d)*(((nB i s).1:Rat) / Q):=by grind
  rw[this];grind
 have l:=l8 (vc u d) 0 d (λi=>Xs s i*X i) (λ_=>0);rw[e,l,nM];have z:(0:Rat)=0:=rfl;rw[z];grind
def FY a b:A5 (tI a) (tI b)=true↔a=b:=by unfold tI;rw[sF,C6,decide_eq_true_eq]
def M7(h:fa ρ=.ok (.bl true))(a:fb ρ=.ok t):xi fa fb ρ=.ok t:=by simp only[xi,j4,h,M.bind_ok,a,if_true]
def zP(l:LL):iP true (.lst (l.map tI)) (.lst (l.map tI))=.ok (.bl false):=by
 have b:oV (.lst (l.map tI))=true:=yR l;have e:=uj l;have d:xT (.lst (l.map tI))<=100:=by rw[BV];lia
 have a:A5 (.lst (l.map tI)) (.lst (l.map tI))=true:=by rw[xJ];exact (qI tI FY l l).mpr rfl
 unfold iP;rw[b,a,aD d];rfl
def jH{a:Type}:List a->(List a->Int)->Int
 |[],f=>f []
 |x::l,f=>jH l f+jH l λB=>f (x::B)
section
variable {α:Type}
theorem kf:∀{l:List α} {f g:List α->Int},(∀B,B.Sublist l->f B=g B)->jH l f=jH l g
 |[],f,g,h=>h [] (List.Sublist.refl _)
 |x::l,f,g,h=>by unfold jH;rw[kf λB a=>h B (a.cons x),kf (f:=λB=>f (x::B)) (g:=λB=>g (x::B)) λB a=>h (x::B) (a.cons₂ x)]
theorem v5:∀(l:List α),jH l (λ_=>0)=0
 |[]=>rfl
 |x::l=>by unfold jH;rw[v5 l];rfl
theorem uy(s:Int):∀(l:List α) (f:List α->Int),jH l (λB=>s*f B)=s*jH l f
 |[],f=>rfl
 |x::l,f=>by unfold jH;rw[uy s l f,uy s l λB=>f (x::B),eS]
end
def DH{m k:Nat}{f:Nat->Int}(a:k<m)(h:∀i,i≠k->f i=0):sm m f=f k:=by obtain⟨e,rfl⟩:∃e,m=e+1:=⟨m-1,by lia⟩;rw[Hr e k f (by lia)];have:sm e (λi=>f (sk k i))=0:=(hW _ _ (λ_=>0) λi _=>h _ (by unfold sk;split<;>lia)).trans (nq e);lia
def C8(m:Nat)(rs:List Vc)(v:Vc):Prop:=∀r∈rs,kx m r v=0
structure Hv(m:Nat)(os:List (Nat×Vc)):Prop where
 lt:∀p∈os,p.1<m/\p.2 p.1≠0
 tri:os.Pairwise λp q=>q.2 p.1=0
theorem OC{m:Nat}{v:Vc}:∀(n:Nat) (a:List (Nat×Vc)),a.length=n->Hv m a->(∀p∈a,kx m p.2 v=0)->(∀i,i∉a.map Prod.fst->v i=0)->∀p∈a,v p.1=0
 |0,a,hn,_,_,_=>λp b=>by have:a=[]:=dE.mp hn;subst this;cases b
 |n+1,a,hn,T,ha,out=>by
  rcases fQ a with rfl|⟨f,q,o⟩
  .cases hn
  .rw[fR]at o;subst o;have l:=cU.mp T.tri;have j:=T.lt q (by simp);have k:v q.1=0:=by
    have e:=ha q (by simp);unfold kx at e;rw[DH j.1 λi g=>by
     by_cases h:i∈f.map Prod.fst
     .obtain⟨p,b,rfl⟩:=aE.mp h;rw[l.2.2 p b q (by simp),eO]
     .rw[out i (by simp only[a9,b8,b7,aj,ak];exact λz=>z.elim h g),eJ]]at e
    rcases eT.mp e with z|z
    .exact absurd z j.2
    .exact z
   have r:=OC n f (by simpa using hn) ⟨λp b=>T.lt p (by simp[b]),l.1⟩ (λp b=>ha p (by simp[b])) λi g=>by
    by_cases d:i=q.1
    .rw[d];exact k
    .exact out i (by simp only[a9,b8,b7,aj,ak];exact λz=>z.elim g d)
   intro p b;rcases aj.mp b with z|z
   .exact r p z
   .rw[ak.mp z];exact k
def vy{m:Nat}{a:List (Nat×Vc)}(T:Hv m a)(d:List Vc)(l:∀v:Vc,(∀A∈d,kx m A v=0)->∀p∈a,kx m p.2 v=0):a.length<=d.length:=by
 refine Nat.le_of_not_lt λg=>?_;have nd:(a.map Prod.fst).Nodup:=by rw[List.Nodup,dH];exact T.tri.imp_of_mem λ{p q} _ hq e z=>(T.lt q hq).2 (by rw[<-z];exact e)
 obtain⟨v,⟨j,i⟩,b,k⟩:=tM m d (a.map Prod.fst) nd (λt n=>by obtain⟨p,h,rfl⟩:=aE.mp n;exact (T.lt p h).1) (by rw[ax];exact g)
 have z:=OC a.length a rfl T (l v k) b;have f:j∈a.map Prod.fst:=aP λz=>i (b j z);obtain⟨p,h,rfl⟩:=aE.mp f;exact i (z p h)
def Aq(m:Nat)(rs:List Vc)(r:Nat):Prop:=∃a,Hv m a/\a.length=r/\∀v,C8 m rs v↔∀p∈a,kx m p.2 v=0
def Aq.uniq{m:Nat}{rs d:List Vc}{r i:Nat}(h:Aq m rs r)(h':Aq m d i)(e:∀v,C8 m rs v↔C8 m d v):r=i:=by
 obtain⟨f,T,rfl,a⟩:=h;obtain⟨b,k,rfl,j⟩:=h';have g:∀{f b:List (Nat×Vc)},Hv m f->(∀v,(∀p∈b,kx m p.2 v=0)->∀p∈f,kx m p.2 v=0)->f.length<=b.length:=λ{f b} T h=>by have:=vy T (b.map Prod.snd) λv hv=>h v λp l=>hv _ (aE.mpr ⟨p,l,rfl⟩);rwa [ax]at this
 exact Nat.le_antisymm (g T λv hv=>(a v).mp ((e v).mpr ((j v).mpr hv))) (g k λv hv=>(j v).mp ((e v).mp ((a v).mpr hv)))
def vx(u:Vc)(p:Nat)(r:Vc):Vc:=λi=>u p*r (sk p i)-r p*u (sk p i)
section
variable {d p:Nat}{u:Vc}
def wR(a:p<=d)(x v:Vc):kx (d+1) x v=kx d (λi=>x (sk p i)) (λi=>v (sk p i))+x p*v p:=by unfold kx;rw[Hr d p _ a]
def Gd(a:p<=d)(r v:Vc):kx d (vx u p r) (λi=>v (sk p i))=u p*kx (d+1) r v-r p*kx (d+1) u v:=by
 rw[wR a r v,wR a u v];have:kx d (vx u p r) (λi=>v (sk p i))=u p*kx d (λi=>r (sk p i)) (λi=>v (sk p i))+(-(r p))*kx d (λi=>u (sk p i)) (λi=>v (sk p i)):=by unfold kx;rw[<-pM];exact hW _ _ _ λi _=>by unfold vx;grind
 rw[this];grind
def xE(e:p<=d)(g:u p≠0)(B:List Vc)(v:Vc):C8 (d+1) (u::B) v↔kx (d+1) u v=0/\C8 d (B.map (vx u p)) (λi=>v (sk p i)):=by
 constructor
 .intro h;have a:=h u (by simp);refine⟨a,λr hr=>?_⟩;obtain⟨f,b,rfl⟩:=aE.mp hr;rw[Gd e,a,h f (by simp[b])];lia
 .rintro⟨a,h⟩ r hr;rcases aG.mp hr with rfl|hr
  .exact a
  .have:=h _ (aE.mpr ⟨r,hr,rfl⟩);rw[Gd e,a,eJ,Int.sub_zero]at this;rcases eT.mp this with z|z
   .exact absurd z g
   .exact z
def Ep(p:Nat)(x:Vc):Vc:=λi=>if i=p then 0 else x (if i<p then i else i-1)
def xF(x:Vc)(i:Nat):Ep p x (sk p i)=x i:=by
 unfold Ep sk;by_cases h:i<p
 .rw[aR h,aS (by lia),aR h]
 .rw[aS h,aS (by lia),aS (by lia)];rfl
def Kc(x:Vc):Ep p x p=0:=aR rfl
def GI(a:p<=d)(x v:Vc):kx (d+1) (Ep p x) v=kx d x (λi=>v (sk p i)):=by rw[wR a,Kc,eO,eP];unfold kx;exact hW _ _ _ λi _=>by dsimp only;rw[xF]
def sG(g:p<=d)(i:u p≠0){B:List Vc}{r:Nat}(h:Aq d (B.map (vx u p)) r):Aq (d+1) (u::B) (r+1):=by
 obtain⟨k,T,rfl,a⟩:=h;refine⟨(p,u)::k.map λq=>(sk p q.1,Ep p q.2),⟨λq b=>?_,eA.mpr ⟨λq b=>?_,dH.mpr (T.tri.imp λ{x y} e=>?_)⟩⟩,by simp,λv=>?_⟩
 .rcases aG.mp b with rfl|b
  .exact⟨by lia,i⟩
  .obtain⟨q,f,rfl⟩:=aE.mp b;have:=T.lt q f;refine⟨?_,?_⟩
   .show sk p q.1<d+1;unfold sk;split<;>lia
   .show Ep p q.2 (sk p q.1)≠0;rw[xF];exact this.2
 .obtain⟨q,b,rfl⟩:=aE.mp b;exact Kc _
 .show Ep p y.2 (sk p x.1)=0;rw[xF];exact e
 .rw[xE g i,a];constructor
  .rintro⟨j,h⟩ q b;rcases aG.mp b with rfl|b
   .exact j
   .obtain⟨q,f,rfl⟩:=aE.mp b;show kx (d+1) (Ep p q.2) v=0;rw[GI g];exact h q f
  .intro h;refine⟨h (p,u) (by simp),λq b=>?_⟩;rw[<-GI g];exact h (sk p q.1,Ep p q.2) (bx _ (aE.mpr ⟨q,b,rfl⟩))
end
def qM{m:Nat}{u:Vc}(h:∀i,i<m->u i=0)(B:List Vc)(v:Vc):C8 m (u::B) v↔C8 m B v:=by
 have z:kx m u v=0:=(hW _ _ (λ_=>0) λi a=>by rw[h i a,eO]).trans (nq m);exact⟨λq r hr=>q r (by simp[hr]),λq r hr=>by
  rcases aG.mp hr with rfl|hr
  .exact z
  .exact q r hr⟩
theorem mz:∀(n m:Nat) (B:List Vc),B.length=n->∃r,r<=n/\Aq m B r
 |0,m,B,hn=>by have:B=[]:=dE.mp hn;subst this;exact⟨0,aL _,[],⟨λ_ h=>(nomatch h),.nil⟩,rfl,λv=>⟨λ_ _ h=>(nomatch h),λ_ _ h=>(nomatch h)⟩⟩
 |n+1,m,B,hn=>by
  cases B with
  |nil=>cases hn
  |cons u B=>
   have b:B.length=n:=by simpa using hn
   by_cases h:∃p,p<m/\u p≠0
   .obtain⟨p,l,g⟩:=h;obtain⟨d,rfl⟩:∃d,m=d+1:=⟨m-1,by lia⟩;obtain⟨r,hr,k⟩:=mz n d (B.map (vx u p)) (by simpa using b);exact⟨r+1,by lia,sG (by lia) g k⟩
   .obtain⟨r,hr,f,T,e,a⟩:=mz n m B b;exact⟨r,by lia,f,T,e,λv=>(qM (λi j=>aP λz=>h ⟨i,j,z⟩) B v).trans (a v)⟩
def rG(d:Nat)(B:List Vc):Prop:=∀v,C8 (d+1) B v->v d=0
def yY{d p:Nat}{u:Vc}(f:p<=d)(a:u p≠0)(B:List Vc):rG (d+1) (u::B)↔rG d (B.map (vx u p)):=by
 constructor
 .intro h w hw;let v:Vc:=λi=>if i=p then -(kx (d+1) (λi=>u (sk p i)) w) else u p*Ep p w i
  have b:∀i,v (sk p i)=u p*w i:=λi=>by show (if sk p i=p then _ else u p*Ep p w (sk p i))=_;rw[aS (by unfold sk;split<;>lia),xF]
  have g:v p = -(kx (d+1) (λi=>u (sk p i)) w):=aR rfl;have j:kx (d+1+1) u v=0:=by
   rw[wR (show p<=d+1 by lia),g];have:kx (d+1) (λi=>u (sk p i)) (λi=>v (sk p i))=u p*kx (d+1) (λi=>u (sk p i)) w:=by unfold kx;rw[<-jR];exact hW _ _ _ λi _=>by dsimp only;rw[b];grind
   rw[this];grind
  have:=h v ((xE (d:=d+1) (by lia) a B v).mpr ⟨j,λr hr=>by
   have e:kx (d+1) r (λi=>v (sk p i))=u p*kx (d+1) r w:=by unfold kx;rw[<-jR];exact hW _ _ _ λi _=>by dsimp only;rw[b];grind
   rw[e,hw r hr,eJ]⟩)
  rw[<-EH f,b]at this;rcases eT.mp this with z|z
  .exact absurd z a
  .exact z
 .intro h v hv;have:=h _ ((xE (d:=d+1) (by lia) a B v).mp hv).2;rw[EH f]at this;exact this
def pz(d:Nat)(B:List Vc):Int:=@ite _ (rG d B) (Classical.propDecidable _) 0 (@ite _ (∃r,Aq (d+1) B r/\(B.length+r) % 2=0) (Classical.propDecidable _) 1 (-1))
def pN{d r:Nat}{B:List Vc}(h:¬rG d B)(k:Aq (d+1) B r):pz d B=if (B.length+r) % 2=0 then 1 else -1:=by
 unfold pz;rw[aS h];by_cases e:(B.length+r) % 2=0
 .rw[aR e,aR ⟨r,k,e⟩]
 .rw[aS e,aS];rintro⟨f,b,a⟩;rw[k.uniq b λ_=>Iff.rfl]at e;exact e a
def ng{d:Nat}{B:List Vc}(h:rG d B):pz d B=0:=by unfold pz;rw[aR h]
def DY{d p:Nat}{u:Vc}(b:p<=d)(a:u p≠0)(B:List Vc):pz (d+1) (u::B)=pz d (B.map (vx u p)):=by
 by_cases h:rG d (B.map (vx u p))
 .rw[ng h,ng ((yY b a B).mpr h)]
 .obtain⟨r,_,k⟩:=mz _ (d+1) (B.map (vx u p)) rfl;rw[pN h k,pN (λz=>h ((yY b a B).mp z)) (sG (d:=d+1) (by lia) a k),aA,ax];have:(B.length+1+(r+1)) % 2=(B.length+r) % 2:=by lia
  rw[this]
def Hm{d:Nat}{u:Vc}(h:∀i,i<d+1->u i=0)(B:List Vc):pz d (u::B) = -pz d B:=by
 have f:rG d (u::B)↔rG d B:=⟨λq v hv=>q v ((qM h B v).mpr hv),λq v hv=>q v ((qM h B v).mp hv)⟩;by_cases z:rG d B
 .rw[ng z,ng (f.mpr z)];rfl
 .obtain⟨r,_,b,T,e,a⟩:=mz _ (d+1) B rfl;rw[pN z ⟨b,T,e,a⟩,pN (λq=>z (f.mp q)) ⟨b,T,e,λv=>(qM h B v).trans (a v)⟩,aA];by_cases q:(B.length+r) % 2=0
  .rw[aR q,aS (by lia)]
  .rw[aS q,aR (by lia)];rfl
def Nr{d:Nat}{u:Vc}(h:∀i,i<d->u i=0)(hd:u d≠0)(B:List Vc):pz d (u::B)=0:=ng λv hv=>by
 have:=hv u (by simp);unfold kx at this;have e:sm (d+1) (λi=>u i*v i)=u d*v d:=by rw[Bp,(hW _ _ (λ_=>0) λi a=>by rw[h i a,eO]),nq];lia
 rw[e]at this;rcases eT.mp this with z|z
 .exact absurd z hd
 .exact z
def uu{d:Nat}{B B':List Vc}(h:B.length=B'.length)(e:∀v,C8 (d+1) B v↔C8 (d+1) B' v):pz d B=pz d B':=by
 have g:rG d B↔rG d B':=⟨λq v hv=>q v ((e v).mpr hv),λq v hv=>q v ((e v).mp hv)⟩;by_cases z:rG d B
 .rw[ng z,ng (g.mp z)]
 .obtain⟨r,_,b,T,f,a⟩:=mz _ (d+1) B rfl;rw[pN z ⟨b,T,f,a⟩,pN (λq=>z (g.mpr q)) ⟨b,T,f,λv=>(e v).symm.trans (a v)⟩,h]
def mD(d:Nat)(us:List Vc):Int:=jH us (pz d)
theorem n0{α β:Type}(t:α->β):∀(l:List α) (F:List β->Int),jH l (λB=>F (B.map t))=jH (l.map t) F
 |[],F=>rfl
 |x::l,F=>by rw[b8];unfold jH;rw[n0 t l F,<-n0 t l λB=>F (t x::B)];rfl
def vK{d p:Nat}{u:Vc}(a:p<=d)(b:u p≠0)(us:List Vc):mD (d+1) (u::us)=mD (d+1) us+mD d (us.map (vx u p)):=by show jH us (pz (d+1))+jH us (λB=>pz (d+1) (u::B))=_;rw[kf (f:=λB=>pz (d+1) (u::B)) λB _=>DY a b B,n0 (vx u p) us (pz d)];rfl
def IL{d:Nat}{u:Vc}(h:∀i,i<d->u i=0)(hd:u d≠0)(us:List Vc):mD d (u::us)=mD d us:=by show jH us (pz d)+jH us (λB=>pz d (u::B))=_;rw[kf (f:=λB=>pz d (u::B)) (g:=λ_=>0) λB _=>Nr h hd B,v5];exact eP _
theorem qY{d:Nat}{u:Vc}(h:∀i,i<d+1->u i=0):∀us:List Vc,u∈us->mD d us=0
 |us,hu=>by
  have a:∀(A C:List Vc),jH (A++u::C) (pz d)=0:=λA C=>by
   have b:∀(A:List Vc) (P:List Vc),jH (A++u::C) (λB=>pz d (P++B))=0:=by
    intro A;induction A with
    |nil=>
     intro P;show jH C (λB=>pz d (P++B))+jH C (λB=>pz d (P++u::B))=0;have:jH C (λB=>pz d (P++u::B))=jH C (λB=>(-1)*pz d (P++B)):=kf λB _=>by
      have e:pz d (P++u::B)=pz d (u::(P++B)):=uu (by simp;lia) λv=>by
       unfold C8;constructor
       .intro q r hr;exact q r (by simp at hr ⊢;rcases hr with z|z|z<;>simp[z])
       .intro q r hr;exact q r (by simp at hr ⊢;rcases hr with z|z|z<;>simp[z])
      rw[e,Hm h];lia
     rw[this,uy];lia
    |cons x A ih=>intro P;show jH (A++u::C) (λB=>pz d (P++B))+jH (A++u::C) (λB=>pz d (P++x::B))=0;rw[ih P];have:=ih (P++[x]);simp only[bW,fS]at this;rw[this];rfl
   exact b A []
  obtain⟨A,C,rfl⟩:=List.append_of_mem hu;exact a A C
def EW kvs k j v:lP (zK kvs k v) j=if j=k then some v else lP kvs j:=by
 have get:∀l:List (LI×T),(l.find? λd=>decide (d.1=j)).map (·.2)=lP l j:=λ_=>rfl;unfold zK;by_cases h:(kvs.any λd=>decide (d.1=k))=true
 .rw[aR h];induction kvs with
  |nil=>simp at h
  |cons a l ih=>
   unfold lP at ih ⊢;rw[b8,List.find?_cons,List.find?_cons];by_cases e:a.1=k
   .rw[aR e];by_cases b:j=k
    .rw[aR b];simp[e,b]
    .rw[aS b];have i:¬a.1=j:=λz=>b (z▸e);simp only[i,decide_false];by_cases f:(l.any λd=>decide (d.1=k))=true
     .rw[ih f,aS b]
     .have:l.map (λd=>if d.1=k then (d.1,v) else d)=l:=by
       conv=>rhs;rw[<-List.map_id l]
       refine cQ λq g=>aS λz=>f (dg.mpr ⟨q,g,by simpa using z⟩)
      rw[this]
   .rw[aS e];have f:(l.any λd=>decide (d.1=k))=true:=by simpa[e] using h
    by_cases b:a.1=j
    .have:¬j=k:=λz=>e (b.trans z);simp[b,this]
    .simp only[b,decide_false];exact ih f
 .rw[aS h];unfold lP;rw[List.find?_append];by_cases b:j=k
  .subst b;have:=List.find?_eq_none.mpr λq g z=>h (dg.mpr ⟨q,g,z⟩);rw[this];simp
  .rw[aS b];have:¬k=j:=λz=>b z.symm;simp[this]
theorem wB:∀b kvs j,(lP (pY kvs b) j=lP kvs j/\j∉b.map Prod.fst)\/∃t,lP (pY kvs b) j=some t/\(j,t)∈b
 |[],_,_=>.inl ⟨rfl,λh=>nomatch h⟩
 | (k,v)::b,kvs,j=>by
  rcases wB b (zK kvs k v) j with⟨a,e⟩|⟨t,a,e⟩
  .rw[EW]at a;by_cases d:j=k
   .rw[aR d]at a;exact .inr ⟨v,a,by rw[d];simp⟩
   .rw[aS d]at a;exact .inl ⟨a,by simp[d];simpa using e⟩
  .exact .inr ⟨t,a,by simp[e]⟩
theorem vW:∀C:List (LI×LI),uF (C.map m4)=some (C.map λq=>(q.1,tI q.2))
 |[]=>rfl
 |q::C=>by rw[b8];show (jf (q.1.map T.int)).bind _=_;rw[qP,Option.bind_some,vW C];rfl
def Na(C:List (LI×LI)) s:(lP (pY [] (C.map λq=>(q.1,tI q.2))) s=none/\s∉C.map Prod.fst)\/∃q∈C,q.1=s/\lP (pY [] (C.map λq=>(q.1,tI q.2))) s=some (tI q.2):=by
 rcases wB (C.map λq=>(q.1,tI q.2)) [] s with⟨b,a⟩|⟨t,b,a⟩
 .exact .inl ⟨b,by rw[aJ]at a;exact a⟩
 .obtain⟨q,d,e⟩:=aE.mp a;cases e;exact .inr ⟨q,d,rfl,b⟩
def Gc n p:flt (n+1) p=(gU n).flatMap λs=>[s++[-1],s++[1]].filter λs=>Bm (p s):=by unfold flt;rw[gU,List.filter_flatMap]
def yN(h:∀s∈gU n,¬p s->∀v,¬q (s++[v])):flt (n+1) q=(flt n p).flatMap λs=>[s++[-1],s++[1]].filter λs=>Bm (q s):=by
 rw[Gc];unfold flt;generalize gU n=l at *;induction l with
 |nil=>rfl
 |cons a l ih=>
  rw[fT,ih λs d=>h s (by simp[d])];by_cases b:p a
  .have e:(a::l).filter (λs=>Bm (p s))=a::l.filter λs=>Bm (p s):=fU (by simpa using b);rw[e,fT]
  .have e:(a::l).filter (λs=>Bm (p s))=l.filter λs=>Bm (p s):=fV (by simpa using b);rw[e];simp[h a (by simp) b]
section
variable {d:Nat}{us:LL}{u s:LI}
def mK i:(us++[u]).getD i []=if i<us.length then us.getD i [] else if i=us.length then u else []:=by
 rw[ag,ag];by_cases h:i<us.length
 .rw[aR h,List.getElem?_append_left h]
 .rw[aS h,List.getElem?_append_right (by lia)];by_cases a:i=us.length
  .rw[aR a,a,c6];rfl
  .rw[aS a,List.getElem?_eq_none (by simp;lia)];rfl
def pR(hs:s.length=n) v i:vc (s++[v]) i=if i<n then vc s i else if i=n then v else 0:=by
 rw[jy,hs];by_cases h:i<n
 .rw[aR h,aR h]
 .rw[aS h,aS h];by_cases a:i=n
  .rw[aR a,a,c6];rfl
  .rw[aS a];exact iX _ _ (by simp;lia)
def lF(hs:s.length=us.length)(v:Int) X:On d (us++[u]) (s++[v]) X↔On d us s X/\0<(v:Rat)*j7 d X (vc u):=by
 constructor
 .intro h;refine⟨λi a=>?_,?_⟩
  .have:=h i (by simp;lia);rwa [mK,aR a,pR hs,aR a]at this
  .have:=h us.length (by simp);rwa [mK,aS (by lia),aR rfl,pR hs,aS (by lia),aR rfl]at this
 .rintro⟨e,b⟩ i a;rw[mK,pR hs];by_cases q:i<us.length
  .rw[aR q,aR q];exact e i q
  .have:i=us.length:=by simp at a;lia
   rw[aS q,aS q,aR this,aR this];exact b
def BK(hs:s.length=us.length)(h:∀i,i<us.length->jz (hv d (vc (us.getD i [])) (vc P))=vc s i)(a:jz (hv d (vc u) (vc P))=v):∀i,i<(us++[u]).length->jz (hv d (vc ((us++[u]).getD i [])) (vc P))=vc (s++[v]) i:=λi b=>by
 rw[mK,pR hs];by_cases q:i<us.length
 .rw[aR q,aR q];exact h i q
 .have:i=us.length:=by simp at b;lia
  rw[aS q,aS q,aR this,aR this];exact a
end
def IX(h:0<g)(j:1<=o)(hs:s = -1\/s=1)(b:∀i,i<d->g*vc Q i=o*vc P i+s*vc u i)(a:g*vc Q d=o*vc P d) :
  g*hv d (vc w) (vc Q)=o*hv d (vc w) (vc P)+s*sm d λi=>vc w i*vc u i:=by
 unfold hv;have e:g*sm d (λi=>vc w i*vc Q i)=o*sm d (λi=>vc w i*vc P i)+s*sm d (λi=>vc w i*vc u i):=by rw[<-jR,<-pM];exact hW d _ _ λi f=>by have:=b i f;grind
 rw[eV,e,show g*(vc w d*vc Q d)=vc w d*(g*vc Q d) by grind,a];grind
theorem BJ:∀(d:Nat) (f:Nat->Int),0<=sm d (λi=>f i*f i)/\((∃i,i<d/\f i≠0)->0<sm d λi=>f i*f i)
 |0,_=>⟨Int.le_refl _,λ⟨_,h,_⟩=>nomatch h⟩
 |d+1,f=>by
  obtain⟨e,b⟩:=BJ d λi=>f (i+1);have a:∀x:Int,0<=x*x/\(x≠0->0<x*x):=λx=>by
   rcases fq x 0 with h|h|h
   .have:=Int.mul_pos_of_neg_of_neg h h;exact⟨by lia,λ_=>this⟩
   .subst h;exact⟨by decide,λz=>absurd rfl z⟩
   .have:=aY h h;exact⟨by lia,λ_=>this⟩
  rw[sm];have q:=a (f 0);refine⟨by lia,λ⟨i,hi,hf⟩=>?_⟩;cases i with
  |zero=>have:=q.2 hf;lia
  |succ i=>have:=b ⟨i,by lia,hf⟩;lia
def FJ(d:1<=o)(h:(b.natAbs:Int)<o*(a.natAbs:Int))(hs:s = -1\/s=1):jz (o*a+s*b)=jz a:=by
 unfold jz;rcases fq a 0 with q|q|q
 .have:o*a.natAbs = -(o*a):=by rw[show a.natAbs = -a by lia,dW]
  rw[aS (by lia),aR (by lia),aS (by lia),aR q]
 .subst q;simp at h;lia
 .have:o*a.natAbs=o*a:=by rw[show a.natAbs=a by lia]
  rw[aR (by lia),aR q]
def JV(hB:B<=2000)(hN:N<=5000)(hd:d<=50)(h2:3*B+N+2*d+4<=N2)(hN2:N2<=5000)(hus:∀w∈us,Gu d B w)(hn:us.length<=8)(hu:Gu d B u) FR
  (hFR:∀d',d=d'+1->∀vs:LL,vs.length=us.length->(∀w∈vs,Gu d' (2*B+1) w)->∃L:List (LI×LI),FR [.lst (vs.map tI),.int (d':Int)]=.ok (.lst (L.map m4))/\Ki d' N vs L) (hL:Ki d N2 us L) :
  ∃L':List (LI×LI),jC c FR [.lst (L.map m4),.lst (us.map tI),tI u]=.ok (L'.map m4)/\Ki d N2 (us++[u]) L'/\L'.length=L.length+(flt us.length (Rx d us u)).length:=by
 have sz:1000<sizeLine:=by decide
 obtain⟨C,eC,hC,hCp⟩:=xw (c:=c) hB hN hd hus hn hu FR hFR;have Ll:L.length<=256:=by have h1:=congrArg List.length hL.fst;have h2:=sO us.length (Rz d us);have h4:2 ^ us.length<=2 ^ 8:=de (by decide) hn;rw[ax]at h1;lia
 have rw_:∀q∈L,q.1∈gU us.length/\Rz d us q.1:=λq K=>iN.mp (by rw[<-hL.fst];exact aE.mpr ⟨q,K,rfl⟩);let R:List (LI×T):=pY [] (C.map λq=>(q.1,tI q.2));let D:T:=.dic R;let S (G:List (LI×LI)) (A n a:Option W):En:=[some (.p (.lst (L.map m4))),some (.p (.lst (us.map tI))),some (.p (tI u)),some (.p D),some (.o (G.map m4)),A,n,a];let Ok (q:LI×LI):Prop:=Gp d N2 q.2/\∀i,i<(us++[u]).length->jz (hv d (vc ((us++[u]).getD i [])) (vc q.2))=vc q.1 i;let E:LI->Bool:=λs=>Bm (Rx d us u s);let two:LI->LL:=λs=>[s++[-1],s++[1]].filter λs=>Bm (Rz d (us++[u]) s);have hin:∀(s:LI) (b:Bool) (G:List (LI×LI)) (n a:Option W),(lP R s).isSome=b->j4 (gI (zN false) (gy 5) (gy 3)) (vw (S G (some (.p (tI s))) n a))=.ok b:=λs b G n a h=>jI (gC (x:=tI s) (y:=D) rfl rfl (by show (match jf (s.map T.int) with|some ns=>M.ok (T.bl (if false then !(lP R ns).isSome else (lP R ns).isSome))|none=>M.bad)=_;rw[qP];simp[h]))
 have app:∀(G:List (LI×LI)) (q:LI×LI) (A n a:Option W) {f:Pe->M T},G.length<=600->f (mU (S G A n a))=.ok (m4 q)->nA 4 (jx f) (S G A n a)=.nx (S (G++[q]) A n a):=λG q A n a {f} hG h=>AQ (us:=G.map m4) rfl h (by rw[ax];lia) (by simp[S]);obtain⟨ρ',e',G,A,n,a,rfl,g1,g2,g3⟩:=jW (m:=nQ 2 (jm (nj 5) (jm (nj 6) nO))) (g:=mT c FR) m4
  (λk ρ=>∃(G:List (LI×LI)) (A n a:Option W),ρ=S G A n a/\G.map Prod.fst=((L.take k).map Prod.fst).flatMap two/\(∀q∈G,Ok q)/\G.length=k+(((L.take k).map Prod.fst).filter E).length) L 0 (S [] none none none) ⟨[],none,none,none,rfl,rfl,(λ_ h=>nomatch h),rfl⟩ (by
   rintro k ⟨s,P⟩ ρ hk ⟨G,A,n,a,rfl,g1,g2,g3⟩;rw[aH]at g1 g3 ⊢;have hm:=av hk;have hkl:=(ae.mp hk).1;have g4:G.length<=2*k:=by have:=fN E ((L.take k).map Prod.fst);simp only[ax,bL]at this;lia
   have ck:(((L.take (k+1)).map Prod.fst).filter E).length=(((L.take k).map Prod.fst).filter E).length+if E s then 1 else 0:=by rw[iJ L k _ hk,a9,List.filter_append,aU];cases h:E s<;>simp[h]
   obtain⟨r1,X0,hX0⟩:=rw_ _ hm;have I:=hL.gp _ hm;have sg:=hL.sg _ hm;dsimp only at r1 I sg hX0;have sl:=(iA r1).1;have H:=GP I.pos sg λi j=>nX r1 j;have rx:s∈C.map Prod.fst↔Rx d us u s:=by rw[hC,iN];exact⟨λz=>z.2,λz=>⟨r1,z⟩⟩
   have tk:((L.take (k+1)).map Prod.fst).flatMap two=((L.take k).map Prod.fst).flatMap two++two s:=by rw[iJ L k _ hk];simp
   refine⟨S G (some (.p (tI s))) (some (.p (tI P))) a,?_⟩;rcases Na C s with⟨v0,v1⟩|⟨q,K,rfl,v1⟩
   .have F:¬Rx d us u s:=λz=>v1 (rx.mpr z);have h0:hv d (vc u) (vc P)≠0:=λz=>F ⟨XP d (vc P),by
     have e:=GM (u:=vc u) I.pos;rw[z]at e;have:=yL I.pos;rcases Rat.mul_eq_zero.mp e.symm with q|q
     .grind
     .exact q,H⟩
    have la:=pB (c:=c) (d:=d) (B:=B) (M:=N2) (by lia) (by lia) hd hu.len I.len hu.bn I.bn;have hs:=EN (hv d (vc u) (vc P));generalize hh:hv d (vc u) (vc P)=h at *;have one:jz h = -1\/jz h=1:=by have:=oH h;have:=(hs.2 h0).2.2;lia
    have r:0<((jz h:Int):Rat)*j7 d (XP d (vc P)) (vc u):=by
     have z:∀i,i < [u].length->i=0:=λi j=>by simpa using j
     have:=GP (us:=[u]) (s:=[jz h]) I.pos (λi j=>by rw[z i j];show jz (hv d (vc u) (vc P))=_;rw[hh];rfl) λi j=>by rw[z i j];exact one.symm
     exact this 0 (by simp)
    have Z:Rz d (us++[u]) (s++[jz h]):=⟨_,(lF sl _ _).mpr ⟨H,r⟩⟩;have rz2:∀v:Int,(v = -1\/v=1)->v≠jz h->¬Rz d (us++[u]) (s++[v]):=λv l hne ⟨Y,hY⟩=>by
     obtain⟨y1,y2⟩:=(lF sl _ _).mp hY;have:v = -jz h:=by rcases one with q|q<;>rw[q]at hne ⊢<;>lia
     rw[this]at y2;have c1:((-jz h:Int):Rat) = -((jz h:Int):Rat):=by simp
     rw[c1]at y2;rcases one with q|q
     .rw[q]at r y2;have o:((-1:Int):Rat) = -1:=rfl;rw[o]at r y2;exact F (BI y1 H (by grind) (by grind))
     .rw[q]at r y2;have o:((1:Int):Rat)=1:=rfl;rw[o]at r y2;exact F (BI H y1 (by grind) (by grind))
    have tw:two s=[s++[jz h]]:=by
     show List.filter _ [s++[-1],s++[1]]=_;rcases one with q|q<;>rw[q]at Z rz2 ⊢
     .rw[fU (by simpa using Z),fV (by simpa using rz2 1 (.inr rfl) (by decide))];rfl
     .rw[fV (by simpa using rz2 (-1) (.inl rfl) (by decide)),fU (by simpa using Z)];rfl
    refine⟨S (G++[(s++[jz h],P)]) (some (.p (tI s))) (some (.p (tI P))) a,rfl,.inl (jv (hin s false G _ _ (by rw[show lP R s=none from v0];rfl)) (app G (s++[jz h],P) _ _ _ (by lia) (uZ (gC (x:=tI s) (y:=tI [jz h]) rfl (AC (nT (kJ rfl rfl la) (mX h))) (mY _ _ (by simp;lia))) rfl))),_,_,_,_,rfl,?_,?_,by rw[ck,show E s=false from Aj F,aU,g3];simp;lia⟩
    .rw[a9,g1,tk,tw];rfl
    .intro z hz;rcases aj.mp hz with y|y
     .exact g2 z y
     .rw[ak.mp y];exact⟨I,BK sl sg (by rw[hh])⟩
   .obtain⟨cp,cz,cs,ci⟩:=hCp q K;have hne:∀w∈us,hv d (vc w) (vc q.2)≠0:=λw hw z=>by obtain⟨i,j,e⟩:=fP hw;have:=cs i j;rw[ag,ai j,Option.getD_some,e,z]at this;rcases nX r1 j with y|y<;>rw[y]at this<;>cases this
    have U:∀v:Int,(v = -1\/v=1)->∃Q:LI,jt c [.lst (us.map tI),tI u,tI q.2,.int v]=.ok (tI Q)/\Ok (q.1++[v],Q):=λv l=>by
     obtain⟨Q,g,o,f1,f2,f3,f4,f5,f6,f7,f8⟩:=wM (c:=c) (d:=d) (B:=B) (N:=B+N+d+1) hB (by lia) (by lia) hd (λw hw=>⟨(hus w hw).len,(hus w hw).bn⟩) (by lia) hu.len hu.bn cp hne l;have pos:0<vc Q d:=by have h7:0<o*vc q.2 d:=aY (by lia) cp.pos;rw[<-f7]at h7;exact fH h7 f4
     have of:=λw=>IX (w:=w) f4 f5 l f6 f7;refine⟨Q,f1,⟨f2,λx hx=>(f3 x hx).mono (by lia),pos⟩,BK sl (λi j=>?_) ?_⟩
     .have hw:=qq j;rw[<-cs i j,sL f4 (by decide:(0:Int)<1) ((of _).trans (eN _).symm)];exact FJ f5 (f8 _ hw) l
     .rw[sL f4 (by decide:(0:Int)<1) ((of _).trans (eN _).symm),cz];have:=(BJ d (vc u)).2 ci;generalize sm d (λi=>vc u i*vc u i)=m at this;unfold jz;rcases l with rfl|rfl
      .rw[aS (by lia),aR (by lia)]
      .rw[aR (by lia)]
    obtain⟨Q1,f1,o1⟩:=U (-1) (.inl rfl);obtain⟨Q2,f2,o2⟩:=U 1 (.inr rfl);have rzo:∀(v:Int) (Q:LI),(v = -1\/v=1)->Ok (q.1++[v],Q)->Rz d (us++[u]) (q.1++[v]):=λv Q l o=>⟨_,GP o.1.pos o.2 λi j=>by
     rw[pR sl];by_cases y:i<us.length
     .rw[aR y];exact nX r1 y
     .have:i=us.length:=by simp at j;lia
      rw[aS y,aR this];exact l.symm⟩
    have tw:two q.1=[q.1++[-1],q.1++[1]]:=by show List.filter _ [q.1++[-1],q.1++[1]]=_;rw[fU (by simpa using rzo _ _ (.inl rfl) o1),fU (by simpa using rzo _ _ (.inr rfl) o2)];rfl
    have gt:DS D (tI q.1)=.ok (tI q.2):=by show (match jf (q.1.map T.int) with|some ns=>(match lP R ns with|some t=>M.ok t|none=>M.bad)|none=>M.bad)=_;rw[qP];dsimp only;rw[show lP R q.1=some (tI q.2) from v1]
    have J:∀(G:List (LI×LI)) (v:Int) (Q:LI),G.length<=600->jt c [.lst (us.map tI),tI u,tI q.2,.int v]=.ok (tI Q)->kZ c FR (S G (some (.p (tI q.1))) (some (.p (tI P))) (some (.p (.int v))))=.nx (S (G++[(q.1++[v],Q)]) (some (.p (tI q.1))) (some (.p (tI P))) (some (.p (.int v)))):=λG v Q hG hf=>app G (q.1++[v],Q) _ _ _ hG (uZ (gC (x:=tI q.1) (y:=tI [v]) rfl (AC rfl) (mY _ _ (by simp;lia))) (NZ rfl rfl (gC (x:=D) (y:=tI q.1) rfl rfl gt) rfl hf))
    have lp:jP (nj 7) (kZ c FR) [T.int (-1),T.int 1] (S G (some (.p (tI q.1))) (some (.p (tI P))) a)=.nx (S ((G++[(q.1++[-1],Q1)])++[(q.1++[1],Q2)]) (some (.p (tI q.1))) (some (.p (tI P))) (some (.p (.int 1)))):=by have s1:nj 7 (T.int (-1)) (S G (some (.p (tI q.1))) (some (.p (tI P))) a)=some (S G (some (.p (tI q.1))) (some (.p (tI P))) (some (.p (.int (-1))))):=rfl;have s2:nj 7 (T.int 1) (S (G++[(q.1++[-1],Q1)]) (some (.p (tI q.1))) (some (.p (tI P))) (some (.p (.int (-1)))))=some (S (G++[(q.1++[-1],Q1)]) (some (.p (tI q.1))) (some (.p (tI P))) (some (.p (.int 1)))):=rfl;rw[jP,s1];dsimp only;rw[J G (-1) Q1 (by lia) f1];dsimp only;rw[jP,s2];dsimp only;rw[J _ 1 Q2 (by simp;lia) f2];rfl
    refine⟨_,rfl,.inl (kz (hin q.1 true G _ _ (by rw[show lP R q.1=some (tI q.2) from v1];rfl)) (lB (yM (uZ (pP rfl) rfl)) lp)),_,_,_,_,rfl,?_,?_,by rw[ck,show E q.1=true from sN (rx.mp (aE.mpr ⟨q,K,rfl⟩)),aU,aU,g3];simp;lia⟩
    .rw[a9,a9,g1,tk,tw,bW];rfl
    .intro z hz;rcases aj.mp hz with y|y
     .rcases aj.mp y with y|y
      .exact g2 z y
      .rw[ak.mp y];exact o1
     .rw[ak.mp y];exact o2)
 rw[aH,eW]at g1 g3;refine⟨G,nL rfl (gB (ρ':=[some (.p (.lst (L.map m4))),some (.p (.lst (us.map tI))),some (.p (tI u)),some (.p D),none,none,none,none]) (gK (nc (iq (rC rfl rfl eC)) (by show (match uF (C.map m4) with|some ps=>M.ok (T.dic (pY [] ps))|none=>M.bad)=_;rw[vW])) rfl) (gB (ρ':=S [] none none none) (tT (ts:=[]) (by simp) rfl) (gB (lB (lQ rfl) e') rfl))),⟨?_,λq K=>(g2 q K).1,λq K=>(g2 q K).2⟩,?_⟩
 .rw[g1,hL.fst,aU,bY];exact (yN λs hs np v ⟨X,hX⟩=>np ⟨X,((lF (iA hs).1 _ _).mp hX).1⟩).symm
 .rw[g3,hL.fst];congr 2;unfold flt;rw[fW];refine fL λs _=>?_;by_cases h:Rx d us u s
  .have h2:Rz d us s:=let ⟨X,_,z⟩:=h;⟨X,z⟩;simp[E,h,h2]
  .simp[E,h]
noncomputable def Pw:Nat->Nat->Nat
 |0,B=>3*B+4
 |d+1,B=>3*B+Pw d (2*B+1)+2*(d+1)+4
theorem Kk:∀d B,d<=8->Pw d B+3*(B+1)<=6*((B+1)*2 ^ d)+20*d+4
 |0,B,_=>by unfold Pw;simp;lia
 |d+1,B,h=>by
  have a:=Kk d (2*B+1) (by lia);have e:(2*B+1+1)*2 ^ d=(B+1)*2 ^ (d+1):=by rw[dc,show 2*B+1+1=(B+1)*2 by lia,Nat.mul_assoc,b6 2]
  rw[e]at a;generalize (B+1)*2 ^ (d+1)=q at *;unfold Pw;lia
def yd(hd:d<=4)(h:(B+1)*2 ^ d<=800):Pw d B<=5000/\B<=2000:=by have:=Kk d B (by lia);have:(B+1)*1<=(B+1)*2 ^ d:=eX _ (eG d);lia
def HS(h:f ρ=.ok x):lstM (gn f gA) ρ=.ok [x]:=by
 have:1<=sizeLine:=by decide
 simp[h,this]
theorem zg:∀n d B us,d<n->d<=4->(B+1)*2 ^ d<=800->us.length<=8->(∀u∈us,Gu d B u)->
  ∃L:List (LI×LI),kr c n [.lst (us.map tI),.int (d:Int)]=.ok (.lst (L.map m4))/\Ki d (Pw d B) us L
 |0,d,B,us,h,_,_,_,_=>absurd h (cY _)
 |n+1,d,B,us,hdn,hd,hB,hn,hus=>by
  have sz:1000<sizeLine:=by decide
  obtain⟨R,Y⟩:=yd hd hB;obtain⟨N,n1,n2,n3⟩:∃N,3*B+N+2*d+4<=Pw d B/\N<=5000/\∀o,d=o+1->∀b:LL,b.length<=8->(∀w∈b,Gu o (2*B+1) w)->∃L:List (LI×LI),kr c n [.lst (b.map tI),.int (o:Int)]=.ok (.lst (L.map m4))/\Ki o N b L:=by
   cases d with
   |zero=>exact⟨0,by unfold Pw;lia,by decide,λo h=>nomatch h⟩
   |succ d=>
    have e:(2*B+1+1)*2 ^ d=(B+1)*2 ^ (d+1):=by rw[dc,show 2*B+1+1=(B+1)*2 by lia,Nat.mul_assoc,b6 2]
    have q:=yd (d:=d) (by lia) (by rw[e];exact hB);refine⟨Pw d (2*B+1),b9 (by rw[Pw]),q.1,λo h b F I=>?_⟩;cases h;exact zg n d (2*B+1) b (by lia) (by lia) (by rw[e];exact hB) F I
  let S (L:List (LI×LI)) (C v:Option W):En:=[some (.p (.lst (us.map tI))),some (.p (.int (d:Int))),some (.p (.lst (L.map m4))),C,v];let A:LI:=List.replicate d 0++[1];have v0:vc A d=1:=by show vc (List.replicate d 0++[1]) d=1;rw[jy,bM,aS (by lia),c6];rfl
  have X:Ki d (Pw d B) [] [([],A)]:=by
   refine⟨?_,λq J=>?_,λq J i H=>nomatch H⟩
   .have:([]:LI)∈flt 0 (Rz d []):=iN.mpr ⟨by simp[gU],λ_=>0,λi H=>nomatch H⟩;have l:=sO 0 (Rz d []);show [[]]=flt 0 (Rz d []);revert this l;generalize flt 0 (Rz d [])=f;intro this l;match f,this,l with
    |[a],h,_=>rw[ak.mp h]
    |_::_::_,_,l=>simp at l
   .rw[ak.mp J];refine⟨by simp[A],λx D=>?_,by rw[v0];decide⟩;have Z:Bn 1 x:=by
     rcases aj.mp D with z|z
     .rw[List.eq_of_mem_replicate z];unfold Bn;decide
     .rw[ak.mp z];unfold Bn;decide
    exact Z.mono (by lia)
  obtain⟨ρ',Q,L,C,v,rfl,s⟩:=jW (m:=nQ 2 (jm (nj 3) (jm (nj 4) nO))) (g:=zE c (kr c n)) (λp:LI×Nat=>T.tup [.int (p.2:Int),tI p.1])
   (λk K=>∃(L:List (LI×LI)) (C v:Option W),K=S L C v/\Ki d (Pw d B) (us.take k) L) us.zipIdx 0 (S [([],A)] none none) ⟨_,none,none,rfl,X⟩ (by
    rintro k ⟨u,j⟩ K r ⟨L,C,v,rfl,s⟩;rw[aH]at s ⊢;obtain⟨hku,rfl⟩:us[k]? = some u/\k=j:=by
     rw[List.getElem?_zipIdx]at r;cases D:us[k]? with
     |none=>rw[D]at r;cases r
     |some z=>rw[D]at r;simp at r;exact⟨by rw[r.1],r.2⟩
    have hkl:=(ae.mp hku).1;obtain⟨P,U,E,-⟩:=JV (c:=c) Y n2 (by lia) n1 R (us:=us.take k) (λw hw=>hus w (fE hw)) (by simp;lia) (hus u (av hku)) (kr c n) (λo h b h1 h2=>n3 o h b (by rw[h1];simp;lia) h2) s;refine⟨_,S P (some (.p (.int (k:Int)))) (some (.p (tI u))),rfl,.inl (gK (iq (DX rfl (Dw (d:=k) (ts:=us.map tI) rfl rfl) rfl (by rw[<-dZ];exact U))) rfl),P,_,_,rfl,by rw[iJ us k u hku];exact E⟩)
  rw[aH,List.length_zipIdx,eW]at s;refine⟨L,i3 rfl (gB (ρ':=S [([],A)] none none) (gK (iq (HS (uZ (by simp;rfl) (gC (x:=tI (List.replicate d 0)) (y:=tI [1]) (NY d (by lia) rfl) (AC rfl) (mY _ _ (by simp;lia)))))) rfl) (gB (lB ((Dy rfl).trans (by rw[oJ])) Q) (ij rfl))),s⟩
def xN(d:Nat)(X:Nat->Rat)(e:Rat)(Y:Nat->Rat)(x:Vc):j7 d (λi=>X i+e*Y i) x=j7 d X x+e*ls d (λp=>(x p:Rat)*Y p):=by
 unfold j7;have:ls d (λp=>(x p:Rat)*(X p+e*Y p))=1*ls d (λp=>(x p:Rat)*X p)+e*ls d (λp=>(x p:Rat)*Y p):=by rw[<-l8];exact ik _ _ _ λi _=>by grind
 rw[this];grind
def ON(A B:Rat)(k:0<A):∃a:Rat,0<a/\∀e:Rat,(-a<=e/\e<=a)->0<A+e*B:=by
 obtain⟨b,hb0,hb1,hb2⟩:∃b:Rat,0<=b/\B<=b/\-B<=b:=by
  by_cases h:0<=B
  .exact⟨B,h,Rat.le_refl,by grind⟩
  .exact⟨-B,by grind,by grind,Rat.le_refl⟩
 have g:(0:Rat)<b+1:=by grind
 have i:b+1≠0:=λz=>by grind
 let a:Rat:=A*(b+1)⁻¹;have j:a*(b+1)=A:=by show A*(b+1)⁻¹*(b+1)=A;rw[Rat.mul_assoc,Rat.inv_mul_cancel _ i,Rat.mul_one]
 have d:0<a:=aP λq=>by have:=fX (fY.mp q) (fw g);rw[j,Rat.zero_mul]at this;exact absurd k (fY.mpr this)
 refine⟨a,d,λe f=>?_⟩;have hd:a*b<A:=by
  have:a*(b+1)=a*b+a:=by grind
  grind
 by_cases h:0<=B
 .have m:=fX f.1 h;have l:=fZ hb1 (fw d);have:-a*B = -(a*B):=by grind
  grind
 .have m:=fX f.2 (show 0<=-B by grind);have l:=fZ hb2 (fw d);have n:e * -B = -(e*B):=by grind
  have o:a * -B = -(a*B):=by grind
  grind
def Os{d:Nat}{s:LI}{X Y:Nat->Rat}:∀(n:Nat) (us:LL),us.length=n->On d us s X->∃b:Rat,0<b/\∀e:Rat,(-b<=e/\e<=b)->∀i,i<n->0<(vc s i:Rat)*j7 d (λi=>X i+e*Y i) (vc (us.getD i [])):=by
 intro n us o h;subst o;have main:∀k,k<=us.length->∃b:Rat,0<b/\∀e:Rat,(-b<=e/\e<=b)->∀i,i<k->0<(vc s i:Rat)*j7 d (λi=>X i+e*Y i) (vc (us.getD i [])):=by
  intro k;induction k with
  |zero=>exact λ_=>⟨1,by decide,λ_ _ i j=>absurd j (cY _)⟩
  |succ k ih=>
   intro x;obtain⟨b,m,u⟩:=ih (by lia);have l:=h k (by lia);generalize q:(vc s k:Rat)*j7 d X (vc (us.getD k []))=A at l;generalize r:(vc s k:Rat)*ls d (λp=>(vc (us.getD k []) p:Rat)*Y p)=B;obtain⟨a,hδ',hh'⟩:∃a:Rat,0<a/\∀e:Rat,(-a<=e/\e<=a)->0<A+e*B:=ON A B l;refine⟨if b<=a then b else a,by split<;>assumption,λe g i j=>?_⟩;have w:-b<=e/\e<=b:=by split at g<;>grind
   have v:-a<=e/\e<=a:=by split at g<;>grind
   by_cases f:i=k
   .subst f;rw[xN];have:=hh' e v;rw[<-q,<-r]at this;grind
   .exact u e w i (by lia)
 exact main us.length (aL _)
theorem xA:∀(d:Nat) (f:Nat->Int),ls d (λi=>((f i:Int):Rat))=((sm d f:Int):Rat)
 |0,_=>rfl
 |n+1,f=>by unfold ls sm;rw[xA n λi=>f (i+1),Rat.intCast_add]
section
variable {d:Nat}{us:LL}{u s:LI}
def P6{p:Nat}(n:p<d)(g:vc u p≠0)(hs:s.length=us.length)(h:Rx d us u s){v:Int}(hv:v=1\/v = -1):Rz d (us++[u]) (s++[v]):=by
 obtain⟨X,m,on⟩:=h;obtain⟨a,b,e⟩:=Os (Y:=λi=>(vc u i:Rat)) us.length us rfl on;have q:0<sm d (λi=>vc u i*vc u i):=(BJ d (vc u)).2 ⟨p,n,g⟩;have Q:ls d (λi=>(vc u i:Rat)*(vc u i:Rat))=((sm d (λi=>vc u i*vc u i):Int):Rat):=by rw[<-xA];exact ik _ _ _ λi _=>by rw[fy]
 have k:=yL q;have l:=fz b k;refine⟨λi=>X i+((v:Rat)*a)*(vc u i:Rat),(lF hs v _).mpr ⟨λi j=>e _ ?_ i j,?_⟩⟩
 .rcases hv with rfl|rfl
  .have:((1:Int):Rat)*a=a:=by show (1:Rat)*a=a;exact f9 a
   rw[this];constructor<;>grind
  .have:((-1:Int):Rat)*a = -a:=by show (-1:Rat)*a = -a;grind
   rw[this];constructor<;>grind
 .rw[xN,m,Q];have f:(v:Rat)*(v:Rat)=1:=by
   have hw:v*v=1:=by rcases hv with rfl|rfl<;>rfl
   exact_mod_cast hw
  have:(v:Rat)*(0+(v:Rat)*a*((sm d (λi=>vc u i*vc u i):Int):Rat))=((v:Rat)*(v:Rat))*(a*((sm d (λi=>vc u i*vc u i):Int):Rat)):=by grind
  rw[this,f,f9];exact l
theorem zF{b e:Type}{F:b->List e}{R:b->Bool}:∀(l:List b),(∀s∈l,(F s).length=1+if R s then 1 else 0)->(l.flatMap F).length=l.length+(l.filter R).length
 |[],_=>rfl
 |a::l,h=>by
  rw[fT,aU,zF l λs hs=>h s (by simp[hs]),h a (by simp),List.filter_cons,aA];cases R a
  .simp only[cg,if_false];lia
  .simp only[if_true,aA];lia
def OD(m:∀s:LI,s.length=us.length->Rx d us u s->∀v:Int,v=1\/v = -1->Rz d (us++[u]) (s++[v]))(hne:∀s,s.length=us.length->Rz d us s->Rx d us u s\/∃X,On d us s X/\j7 d X (vc u)≠0) :
  (flt (us.length+1) (Rz d (us++[u]))).length=(flt us.length (Rz d us)).length+(flt us.length (Rx d us u)).length:=by
 have st:=yN (n:=us.length) (p:=Rz d us) (q:=Rz d (us++[u])) λs g h v ⟨X,hX⟩=>h ⟨X,((lF (iA g).1 v X).mp hX).1⟩;rw[st,zF (R:=λs=>Bm (Rx d us u s))]
 .congr 1;unfold flt;rw[fW];congr 1;refine fL λs _=>?_;by_cases h:Rx d us u s
  .obtain⟨X,_,on⟩:=id h;rw[sN h,sN (show Rz d us s from ⟨X,on⟩)];rfl
  .rw[Aj h];rfl
 .intro s g;obtain⟨hr,o⟩:=iN.mp g;have e:=(iA hr).1;by_cases h:Rx d us u s
  .rw[aR (sN h),fU (by simpa using m s e h (-1) (.inr rfl)),fU (by simpa using m s e h 1 (.inl rfl))];rfl
  .rw[aS (by rw[Aj h];decide)];obtain⟨X,on,ne⟩:=(hne s e o).resolve_left h;rcases Rat.le_total (a:=0) (b:=j7 d X (vc u)) with q|q
   .have pos:0<j7 d X (vc u):=by grind
    have i:Rz d (us++[u]) (s++[1]):=⟨X,(lF e 1 X).mpr ⟨on,by show 0<(1:Rat)*_;rw[f9];exact pos⟩⟩;have f:¬Rz d (us++[u]) (s++[-1]):=λ⟨Y,hY⟩=>by obtain⟨j,l⟩:=(lF e (-1) Y).mp hY;have k:0<(-1:Rat)*j7 d Y (vc u):=l;exact h (BI on j q (by grind))
    rw[fV (by simpa using f),fU (by simpa using i)];rfl
   .have neg:j7 d X (vc u)<0:=by grind
    have i:Rz d (us++[u]) (s++[-1]):=⟨X,(lF e (-1) X).mpr ⟨on,by show 0<(-1:Rat)*_;grind⟩⟩;have f:¬Rz d (us++[u]) (s++[1]):=λ⟨Y,hY⟩=>by obtain⟨j,l⟩:=(lF e 1 Y).mp hY;have k:0<(1:Rat)*j7 d Y (vc u):=l;exact h (BI j on (by grind) q)
    rw[fU (by simpa using i),fV (by simpa using f)];rfl
end
def sE(d:Nat):pz d []=1:=by
 obtain⟨r,hr,k⟩:=mz 0 (d+1) [] rfl;have a:¬rG d []:=λh=>by have:=h (λ_=>1) λr hr=>nomatch hr;exact absurd this (by decide)
 rw[pN a k,aR (by simp;lia)]
def Dj{g:Type}{d:Nat}(l:List g)(a b:g->Vc)(h:∀w∈l,∃k:Int,k≠0/\∀i,a w i=k*b w i):mD d (l.map a)=mD d (l.map b):=by
 unfold mD;rw[<-n0,<-n0];refine kf λB j=>uu (by simp) λv=>?_;have f:∀w∈B,(kx (d+1) (a w) v=0↔kx (d+1) (b w) v=0):=λw hw=>by
  obtain⟨k,m,e⟩:=h w (j.subset hw);have:kx (d+1) (a w) v=k*kx (d+1) (b w) v:=by unfold kx;rw[<-jR];exact hW _ _ _ λi _=>by rw[e i,dR]
  rw[this];exact⟨λz=>(eT.mp z).resolve_left m,λz=>by rw[z,eJ]⟩
 constructor
 .intro q r hr;obtain⟨w,hw,rfl⟩:=aE.mp hr;exact (f w hw).mp (q _ (aE.mpr ⟨w,hw,rfl⟩))
 .intro q r hr;obtain⟨w,hw,rfl⟩:=aE.mp hr;exact (f w hw).mpr (q _ (aE.mpr ⟨w,hw,rfl⟩))
def Bz(m:Nat)(u:LI)(p:Nat)(w:LI):LI:=(List.range m).map λi=>((vc u p).natAbs:Int)*vc w i-jz (vc u p)*vc w p*vc u i
def E1{m p:Nat}{u w:LI}(b:u.length=m)(hw:w.length=m)(i:Nat):vc (Bz m u p w) i=((vc u p).natAbs:Int)*vc w i-jz (vc u p)*vc w p*vc u i:=by
 by_cases a:i<m
 .rw[iO _ i (by simp[Bz];exact a)];simp[Bz]
 .rw[iX _ i (by simp[Bz];lia),iX w i (by lia),iX u i (by lia)];lia
theorem LC:∀(n d:Nat) (us:LL),us.length=n->(∀u∈us,u.length=d+1)->((flt us.length (Rz d us)).length:Int)=mD d (us.reverse.map vc)
 |0,d,us,hn,_=>by
  have:us=[]:=dE.mp hn;subst this;show ((flt 0 (Rz d [])).length:Int)=pz d [];have:flt 0 (Rz d [])=[[]]:=by unfold flt;have z:Rz d [] []:=⟨λ_=>0,λi b=>absurd b (cY _)⟩;show [[]].filter _=[[]];rw[fU (by simpa using z)];rfl
  rw[this,sE];rfl
 |n+1,d,us,hn,hl=>by
  rcases fQ us with rfl|⟨a,u,I⟩
  .cases hn
  rw[fR]at I;subst I;have j:a.length=n:=by simpa using hn
  have f:∀w∈a,w.length=d+1:=λw hw=>hl w (by simp[hw]);have B:u.length=d+1:=hl u (by simp);have C:=LC n d a j f;rw[List.reverse_append,List.reverse_singleton,fS,b8,aU,bY];by_cases F:∃i,i<d+1/\vc u i≠0
  .by_cases o:∃p,p<d/\vc u p≠0
   .obtain⟨p,Q,A⟩:=o;obtain⟨e,rfl⟩:∃e,d=e+1:=⟨d-1,by lia⟩;have y:=OD (d:=e+1) (us:=a) (u:=u) (λs g h v hv=>P6 Q A g h hv) λs g ⟨X,on⟩=>by
     by_cases q:j7 (e+1) X (vc u)=0
     .exact .inl ⟨X,q,on⟩
     .exact .inr ⟨X,on,q⟩
    have L:=vF (d:=e) (us:=a) (u:=u) (p:=p) (by lia) A (Bz (e+2) u p) λw hw=>by have vw:=E1 (m:=e+2) (p:=p) B (f w hw);refine⟨?_,by simp[Bz];lia,1,((vc u p).natAbs:Int),-(jz (vc u p)*vc w p),by decide,by lia,λi=>by rw[vw i];grind⟩;rw[vw p,<-oD];grind
    have N:flt a.length (Rx (e+1) a u)=flt (a.map λw=>wo (Bz (e+2) u p w) p).length (Rz e (a.map λw=>wo (Bz (e+2) u p w) p)):=by rw[ax];exact oG λs _=>(L s).symm
    have r:=LC n e (a.map λw=>wo (Bz (e+2) u p w) p) (by simpa using j) λw hw=>by obtain⟨x,R,rfl⟩:=aE.mp hw;have:=AK (row:=Bz (e+2) u p x) (p:=p) (by simp[Bz];lia);simp[Bz]at this ⊢;lia
    rw[y,N,Int.natCast_add,C,r,vK (d:=e) (p:=p) (by lia) A];congr 1;rw[<-fx,aJ,aJ];refine Dj a.reverse _ _ λw hw=>⟨jz (vc u p),?_,λi=>?_⟩
    .intro z;have:=oD (vc u p);rw[z,eO]at this;lia
    .have J:=f w (gc.mp hw);show vc (wo (Bz (e+2) u p w) p) i=jz (vc u p)*vx (vc u) p (vc w) i;rw[A4 (by simp[Bz];lia),E1 B J,<-oD];unfold vx;grind
   .have k:vc u d≠0:=by
     obtain⟨i,b,h⟩:=F;by_cases mU:i=d
     .rw[<-mU];exact h
     .exact absurd ⟨i,by lia,h⟩ o
    have H:∀i,i<d->vc u i=0:=λi b=>aP λz=>o ⟨i,b,z⟩;have D:∀X,j7 d X (vc u) = -(vc u d:Rat):=λX=>by unfold j7;rw[ik d _ (λ_=>0) λi b=>by rw[H i b];grind,nM];grind
    have P:(vc u d:Rat)≠0:=λz=>k (by exact_mod_cast z);have E:∀s,¬Rx d a u s:=λs ⟨X,q,_⟩=>by rw[D]at q;exact P (by grind)
    have y:=OD (d:=d) (us:=a) (u:=u) (λs _ h=>absurd h (E s)) λs g ⟨X,on⟩=>.inr ⟨X,on,by rw[D];grind⟩;rw[y,t7 E,cF,Nat.add_zero,C,IL H k]
  .have l:∀i,vc u i=0:=λi=>by
    by_cases b:i<d+1
    .exact aP λz=>F ⟨i,b,z⟩
    .exact iX u i (by lia)
   have K:∀s∈gU (a.length+1),¬Rz d (a++[u]) s:=λs g ⟨X,on⟩=>by
    have:=on a.length (by simp);rw[mK,aS (by lia),aR rfl]at this;have e:j7 d X (vc u)=0:=by unfold j7;rw[ik d _ (λ_=>0) λi b=>by rw[l i];grind,nM,l d];grind
    rw[e]at this;grind
   have:flt (a.length+1) (Rz d (a++[u]))=[]:=by unfold flt;exact fM.mpr λs g=>by simpa using K s g
   rw[this,qY (u:=vc u) (λi _=>l i) _ (by simp)];rfl
def CY{d:Type}{l b:List d}(h:l.Perm b):∀{f:List d->Int},(∀B B',B.Perm B'->f B=f B')->jH l f=jH b f:=by
 induction h with
 |nil=>exact λ_=>rfl
 |cons x _ ih=>intro f a;unfold jH;rw[ih a,ih (f:=λB=>f (x::B)) λB B' e=>a _ _ (e.cons x)]
 |swap x y l=>intro f a;show (jH l f+jH l λB=>f (x::B))+(jH l (λB=>f (y::B))+jH l λB=>f (y::x::B))=(jH l f+jH l λB=>f (y::B))+(jH l (λB=>f (x::B))+jH l λB=>f (x::y::B));rw[kf (f:=λB=>f (y::x::B)) (g:=λB=>f (x::y::B)) λB _=>a _ _ (List.Perm.swap x y B)];lia
 |trans _ _ ih1 ih2=>intro f a;rw[ih1 a,ih2 a]
def HL{m:Nat}{B B':List Vc}(h:B.Perm B')(v:Vc):C8 m B v↔C8 m B' v:=⟨λq r hr=>q r (h.mem_iff.mpr hr),λq r hr=>q r (h.mem_iff.mp hr)⟩
def DF{d:Nat}{us a:List Vc}(h:us.Perm a):mD d us=mD d a:=CY h λ_ _ b=>uu b.length_eq (HL b)
def Ch:Nat->Nat->Nat
 |0,_=>1
 |_+1,0=>1
 |n+1,d+1=>Ch n (d+1)+Ch n d
theorem IP:∀n,Ch n 0=1
 |0=>rfl
 |_+1=>rfl
abbrev oO(d:Nat)(cs:LL):LL:=flt cs.length (Rz d cs)
def Jh{cs:LL}(h:cs.length<=8):(oO d cs).length<=256:=aO (sO _ _) (de (by decide) h)
theorem vB:∀a:LI,iQ a a=false
 |[]=>rfl
 |x::a=>by unfold iQ;rw[aR rfl];exact vB a
def oj(u v:Int)(a b:LI):iQ (u::a) (v::b)=if u=v then iQ a b else decide (u<v):=rfl
theorem ui:∀{a b:LI} {x y:LI},a.length=b.length->iQ (a++x) (b++y)=if a=b then iQ x y else iQ a b
 |[],[],x,y,_=>by simp
 |u::a,v::b,x,y,h=>by
  have f:=ui (x:=x) (y:=y) (show a.length=b.length by simpa using h);rw[List.cons_append,List.cons_append,oj,oj];by_cases e:u=v
  .subst e;rw[aR rfl,aR rfl,f];by_cases d:a=b
   .rw[aR d,aR (by rw[d])]
   .rw[aS d,aS (λz=>d (List.cons.inj z).2)]
  .rw[aS e,aS e,aS (λz=>e (List.cons.inj z).1)]
def xm{a b:LI}(h:iQ a b=true):a≠b:=λe=>by rw[e,vB]at h;cases h
theorem Bv:∀n,(gU n).Pairwise λa b=>iQ a b=true
 |0=>dF _ _
 |n+1=>by
  unfold gU;rw[List.pairwise_flatMap];refine⟨λs hs=>?_,(Bv n).imp_of_mem λ{a b} ha hb h x hx y d=>?_⟩
  .refine eA.mpr ⟨λy d=>?_,dF _ _⟩;rw[ak.mp d,ui rfl,aR rfl];rfl
  .have e:a.length=b.length:=(iA ha).1.trans (iA hb).1.symm;have:∀u v:Int,iQ (a++[u]) (b++[v])=true:=λu v=>by rw[ui e,aS (xm h)];exact h
   simp only[aG,dY,or_false]at hx d;rcases hx with rfl|rfl<;>rcases d with rfl|rfl<;>exact this _ _
section
variable {n:Nat}{p:LI->Prop}{X:LL}
def ua(n:Nat)(p:LI->Prop):(flt n p).Pairwise λa b=>iQ a b=true:=(Bv n).filter _
def sZ(n:Nat)(p:LI->Prop):(flt n p).Nodup:=(ua n p).imp λh=>xm h
def nR:∀s∈flt n p,s.length=n:=λs a=>(iA (iN.mp a).1).1
def GX(nd:X.Nodup)(a:∀s,s∈flt n p↔s∈X):j8 X=flt n p:=(uB (m:=n) (λr hr=>nR r ((a r).mpr hr)) ((eD (sZ n p) nd).mpr a) ((ua n p).imp λh=>oa h)).symm
def LV(a:∀s,s∈flt n p↔s∈X):j8 (ya X)=flt n p:=(EM (m:=n) (λr hr=>nR r ((a r).mpr hr)) (sZ n p) a ((ua n p).imp λh=>oa h)).symm
theorem ou:∀{n:Nat} {s:LI},s.length=n->(∀i,i<n->vc s i=1\/vc s i = -1)->s∈gU n
 |0,s,h,_=>by rw[dE.mp h];simp[gU]
 |n+1,s,h,hv=>by
  have e:s=s.take n++[vc s n]:=by rw[iO s n (by omega)];have:=dB n s;rw[dX (by omega),gf (by omega)]at this;exact this.symm
  have a:=ou (n:=n) (s:=s.take n) (by rw[bL];omega) λi b=>by have:=hv i (by omega);unfold vc at this ⊢;rw[ag]at this ⊢;rw[List.getElem?_take,aR b];exact this
  unfold gU;rw[fJ];refine⟨s.take n,a,?_⟩;rcases hv n (by omega) with q|q<;>rw[q]at e<;>rw[aG,ak]
  .exact .inr e
  .exact .inl e
def J0{m:Nat}{q:LI->Prop}(f g:LI->LI)(k:∀s∈gU n,f s∈gU m/\(p s->q (f s)))(o:∀s∈gU m,q s->g s∈gU n/\p (g s)/\f (g s)=s)(r:∀s∈gU n,∀t∈gU n,f s=f t->s=t) :
  j8 ((flt n p).map f)=flt m q:=by
 refine GX ?_ λs=>⟨λh=>?_,λh=>?_⟩
 .refine dH.mpr ((sZ n p).imp_of_mem λ{a b} ha hb ne e=>ne (r a (iN.mp ha).1 b (iN.mp hb).1 e))
 .obtain⟨i,j⟩:=iN.mp h;obtain⟨a,b,d⟩:=o s i j;exact aE.mpr ⟨g s,iN.mpr ⟨a,b⟩,d⟩
 .obtain⟨t,l,rfl⟩:=aE.mp h;obtain⟨i,j⟩:=iN.mp l;exact iN.mpr ⟨(k t i).1,(k t i).2 j⟩
end
section
variable {d:Nat}{cs:LL}
def qt{a:Type}(l:List a)(f:a->Int)(z:a){i:Nat}(b:i<l.length):vc (l.map f) i=f (l.getD i z):=by unfold vc;rw[ag,aw,ai b,ag,ai b];rfl
def GF{s t:LI}{n:Nat}(hs:s.length=n)(e:t.length=n)(h:∀i,i<n->vc s i=vc t i):s=t:=by refine cT (by omega) λi b a=>?_;have:=h i (by omega);rw[iO s i b,iO t i a]at this;exact this
def Mq{ord:List Nat}(o:ord.Perm (List.range cs.length)):j8 ((oO d cs).map λs=>ord.map λk=>vc s k)=oO d (ord.map λk=>cs.getD k []):=by
 have r:ord.length=cs.length:=by have:=o.length_eq;simpa using this
 have lt:∀k∈ord,k<cs.length:=λk y=>aT.mp (o.mem_iff.mp y);have nd:ord.Nodup:=o.nodup_iff.mpr List.nodup_range;have f:∀j,j<ord.length->ord.getD j 0<cs.length:=λj a=>lt _ (by rw[ag,ai a];exact aW a);have all:∀i,i<cs.length->∃j,j<ord.length/\ord.getD j 0=i:=λi g=>by obtain⟨j,a,e⟩:=List.mem_iff_getElem.mp (o.mem_iff.mpr (aT.mpr g));exact⟨j,a,by rw[ag,ai a];exact e⟩
 have m:∀(s:LI) j,j<ord.length->vc (ord.map λk=>vc s k) j=vc s (ord.getD j 0):=λs j a=>qt ord _ 0 a;have u:∀j,j<ord.length->(ord.map λk=>cs.getD k []).getD j []=cs.getD (ord.getD j 0) []:=λj a=>by simp[ag,a]
 have p:∀s,Rz d (ord.map λk=>cs.getD k []) (ord.map λk=>vc s k)↔Rz d cs s:=λs=>by
  refine exists_congr λX=>?_;unfold On;rw[ax];refine⟨λh i g=>?_,λh j a=>?_⟩
  .obtain⟨j,a,rfl⟩:=all i g;have:=h j a;rwa [m s j a,u j a]at this
  .rw[m s j a,u j a];exact h _ (f j a)
 have q:∀s:LI,s.length=cs.length->ord.map (λk=>vc ((List.range cs.length).map λi=>vc s (ord.idxOf i)) k)=s:=λs l=>by
  refine GF (n:=cs.length) (by simp[r]) l λj a=>?_;have b:j<ord.length:=by omega
  have w:ord.getD j 0=ord[j]:=by rw[ag,ai b];rfl
  rw[m _ j b,qt _ _ 0 (by simp;exact f j b)];have:(List.range cs.length).getD (ord.getD j 0) 0=ord[j]:=by rw[w,ag,List.getElem?_range (by rw[<-w];exact f j b)];rfl
  rw[this,nd.idxOf_getElem j b]
 show j8 ((flt cs.length (Rz d cs)).map _)=flt (ord.map _).length _;rw[ax,r];refine J0 _ (λs=>(List.range cs.length).map λi=>vc s (ord.idxOf i)) (λs l=>⟨ou (by simp[r]) λj a=>?_,(p s).mpr⟩) (λs l h=>?_) λs l t x e=>?_
 .rw[m s j (by omega)];exact nX l (f j (by omega))
 .have v:=q s (iA l).1;refine⟨ou (by simp) λi g=>?_,(p _).mp (by rw[v];exact h),v⟩;rw[qt _ _ 0 (by simpa using g),ag,List.getElem?_range g];refine nX l ?_;show ord.idxOf i<_;rw[<-r];exact List.idxOf_lt_length_of_mem (o.mem_iff.mpr (aT.mpr g))
 .refine GF (iA l).1 (iA x).1 λi g=>?_;obtain⟨j,a,rfl⟩:=all i g;rw[<-m s j a,<-m t j a,e]
end
section
variable {d:Nat}{cs:LL}
def dl{a:Type}(k:Nat)(l:List a):List a:=l.take k++l.drop (k+1)
def up(k i:Nat):Nat:=if i<k then i else i+1
def FK{a:Type}{k:Nat}{l:List a}(b:k<l.length):(dl k l).length=l.length-1:=by unfold dl;rw[aU,bL,bR];omega
def G0{a:Type}{k:Nat}{l:List a}(b:k<l.length)(i:Nat):(dl k l)[i]? = l[up k i]?:=by
 unfold dl up;by_cases h:i<k
 .rw[aR h,List.getElem?_append_left (by rw[bL];omega),List.getElem?_take,aR h]
 .rw[aS h,List.getElem?_append_right (by rw[bL];omega),List.getElem?_drop,bL];congr 1;omega
def Gw{k:Nat}{l:LI}(a:k<l.length)(i:Nat):vc (dl k l) i=vc l (up k i):=by unfold vc;rw[ag,G0 a,ag]
def J8{k:Nat}{l:LL}(a:k<l.length)(i:Nat):(dl k l).getD i []=l.getD (up k i) []:=by rw[ag,G0 a,ag]
def Lh{k:Nat}(o:k<cs.length)(h:∃p,p<d/\vc (cs.getD k []) p≠0):j8 (ya ((oO d cs).map (dl k)))=oO d (dl k cs):=by
 have C:=FK o;refine LV λs=>⟨λr=>?_,λr=>?_⟩
 .obtain⟨g,X,on⟩:=iN.mp r;obtain⟨H,_⟩:=iA g;obtain⟨p,F,D⟩:=h;let u:=cs.getD k [];obtain⟨b,on',ne⟩:∃b,On d (dl k cs) s b/\j7 d b (vc u)≠0:=by
   by_cases z:j7 d X (vc u)=0
   .obtain⟨B,l,m⟩:=Os (Y:=λi=>(vc u i:Rat)) (dl k cs).length (dl k cs) rfl on;have q:0<sm d (λi=>vc u i*vc u i):=(BJ d (vc u)).2 ⟨p,F,D⟩;have Q:ls d (λi=>(vc u i:Rat)*(vc u i:Rat))=((sm d (λi=>vc u i*vc u i):Int):Rat):=by rw[<-xA];exact ik _ _ _ λi _=>by rw[fy]
    have I:=fz l (yL q);refine⟨λi=>X i+B*(vc u i:Rat),λi a=>m B ⟨by grind,by grind⟩ i a,?_⟩;rw[xN,z,Q];grind
   .exact⟨X,on,z⟩
  obtain⟨v,hv,pv⟩:∃v:Int,(v=1\/v = -1)/\0<(v:Rat)*j7 d b (vc u):=by
   by_cases z:0<j7 d b (vc u)
   .exact⟨1,.inl rfl,by show 0<(1:Rat)*_;rw[f9];exact z⟩
   .refine⟨-1,.inr rfl,?_⟩;show 0<(-1:Rat)*_;have:j7 d b (vc u)<=0:=fY.mp z;grind
  let t:LI:=s.take k++v::s.drop k;have n:t.length=cs.length:=by simp[t];omega
  have A:dl k t=s:=by
   have y:(s.take k).length=k:=by rw[bL];omega
   unfold dl;show (s.take k++v::s.drop k).take k++(s.take k++v::s.drop k).drop (k+1)=s;rw[dh y,List.drop_append,y,gf (by omega),show k+1-k=1 by omega];exact dB k s
  have x:vc t k=v:=by unfold vc;show (s.take k++v::s.drop k).getD k 0=v;rw[ag,List.getElem?_append_right (by rw[bL];omega),bL,show k-min k s.length=0 by omega];rfl
  have f:∀i,i≠k->∃j,up k j=i:=λi a=>by
   unfold up;by_cases q:i<k
   .exact⟨i,aR q⟩
   .exact⟨i-1,by rw[aS (by omega)];omega⟩
  have w:∀j,vc t (up k j)=vc s j:=λj=>by rw[<-Gw (by omega),A]
  refine aE.mpr ⟨t,iN.mpr ⟨ou n λi a=>?_,b,λi a=>?_⟩,A⟩
  .by_cases e:i=k
   .rw[e,x];exact hv
   .obtain⟨j,rfl⟩:=f i e;rw[w];refine nX g ?_;unfold up at a;split at a<;>omega
  .by_cases e:i=k
   .rw[e,x];exact pv
   .obtain⟨j,rfl⟩:=f i e;have:=on' j (by unfold up at a;split at a<;>omega);rw[w,<-J8 o];exact this
 .obtain⟨t,E,rfl⟩:=aE.mp r;obtain⟨g,X,on⟩:=iN.mp E;have n:=(iA g).1;refine iN.mpr ⟨ou (by rw[FK (by omega),C,n]) λi a=>?_,X,λi a=>?_⟩
  .rw[Gw (by omega)];refine nX g ?_;unfold up;split<;>omega
  .rw[Gw (by omega),J8 o];refine on _ ?_;unfold up;split<;>omega
end
def Bq{b:Bool}{f:LL->LL}{X Y:LL}(h:∀r∈X,r.length=n)(g:X.length<64)(a:b=true\/(n=0->X.length<2))(e:f X=Y):mJ b f [.lst (X.map tI)]=.ok (Y.map tI):=by
 show (match mj (X.map zf) with|some rs=>if yq b rs=true then M.ok ((f rs).map zf) else .bad|none=>.bad)=_;rw[rX];dsimp only;have ok:yq b X=true:=by
  unfold yq;cases X with
  |nil=>simp
  |cons x X=>
   have d:=h x (by simp);simp only[List.headD_cons,bS,Bool.or_eq_true,decide_eq_true_eq,cE,beq_iff_eq];refine⟨⟨λr hr=>(h r hr).trans d.symm,g⟩,?_⟩;rcases a with a|a
   .exact .inl a
   .rcases dG n with z|z
    .exact .inr (.inl (a z))
    .exact .inr (.inr (aD (show x.length≠0 by omega)))
 rw[aR ok,e];rfl
def He{o:List T->M (List T)}{f:Pe->M T}{ρ:Pe}{t:T}{r:M (List T)}(h:f ρ=.ok t)(a:o [t]=r):Iu o (gn f gA) ρ=r:=by unfold Iu;simp[h,a]
def j5(U:List (Int×Int)->LI)(ss:List (List (Int×Int))):LL:=ss.map λs=>U s++[0]
def oh d (ss:List (List (Int×Int))) (hd:1<=d/\d<=3) (g:1<=ss.length/\ss.length<=8) (h:∀s∈ss,vP d s) :
  ∃U:List (Int×Int)->LI,(∀s∈ss,Rs d s (U s))/\iw c [.int d,.lst (ss.map tS)]=.ok ((oO (d+1) (j5 U ss)).map tI):=by
 have sz:1000<sizeLine:=by decide
 obtain⟨U,f⟩:=mG ss λs a=>qH (c:=c) d s hd.2 (h s a);refine⟨U,λs a=>(f s a).2.1,?_⟩;have p:=wF (c:=c) ss U g.2 λs a=>⟨by rw[(h s a).1];exact hd.2,by rw[(f s a).2.1.len];lia,(f s a).1⟩;unfold j5;generalize b:(ss.map λs=>U s++[0])=us at *;have w:us.length=ss.length:=by rw[<-b];simp
 have m:∀u∈us,Gu (d+1) 16 u:=λu i=>by rw[<-b]at i;obtain⟨s,a,rfl⟩:=aE.mp i;have q:=(f s a).2.1;refine⟨by simp[q.len],λx j=>(aj.mp j).elim ((f s a).2.2 x) λz=>by rw[ak.mp z];exact oE,d,?_⟩;rw[jy,aR (by rw[q.len];lia)];have:=q.pos;lia
 have o:(16+1)*2 ^ (d+1)<=800:=by have:2 ^ (d+1)<=2 ^ 4:=de (by decide) (by lia);lia
 obtain⟨L,l,k⟩:=zg (c:=c) 5 (d+1) 16 us (by lia) (by lia) o (by lia) m;have e:L.map Prod.fst=oO (d+1) us:=k.fst;have r:L.length<=256:=by have n:=congrArg List.length e;rw[ax]at n;have:=Jh (d:=d+1) (cs:=us) (by lia);lia
 rw[<-e];exact nL rfl (gB (Bt (kJ rfl rfl (nG d ss hd g h))) (m7 (i4 L m4 (λq=>tI q.1) (lQ (kJ (iq (Ae rfl p)) (gC (y:=.int 1) rfl rfl (jL _ _)) l)) (by lia) (λq v=>⟨_,rfl,rfl,rfl⟩) (by rw[aJ];rfl))))
variable {c:Cs}{d n:Nat}
def sf(s:LI):LI:=s.map λx=>-x
theorem B5:∀{a b:LI},iQ (sf a) (sf b)=iQ b a
 |[],[]=>rfl
 |[],_::_=>rfl
 |_::_,[]=>rfl
 |x::a,y::b=>by
  show iQ (-x::sf a) (-y::sf b)=_;rw[oj,oj,B5 (a:=a) (b:=b)];by_cases e:x=y
  .rw[aR (by rw[e]),aR e.symm]
  .rw[aS (by omega),aS (Ne.symm e)];congr 1;exact propext ⟨λh=>by omega,λh=>by omega⟩
theorem Ka:∀(s:LI),sf (sf s)=s
 |[]=>rfl
 |x::s=>by show - -x::sf (sf s)=x::s;rw[Ka s,Int.neg_neg]
def BH{s:LI}(h:s∈gU n):sf s∈gU n:=by
 refine ou (by unfold sf;rw[ax];exact (iA h).1) λi a=>?_;have:vc (sf s) i = - vc s i:=by unfold sf;rw[qt s _ 0 (by rw[(iA h).1];exact a)];rfl
 rw[this];rcases nX h a with e|e<;>rw[e]<;>decide
def LU{p:LI->Prop}(h:∀s∈gU n,p s->p (sf s)):((flt n p).map sf).reverse=flt n p:=by
 have e:((flt n p).map sf).reverse.Pairwise λa b=>iQ a b=true:=by rw[List.pairwise_reverse,dH];exact (ua n p).imp λ{a b} q=>by rw[B5];exact q
 refine List.Perm.eq_of_pairwise (le:=λa b=>iQ a b=true) (λa b _ _ i f=>by rw[oa i]at f;cases f) e (ua n p) ?_;refine (eD (e.imp λq=>xm q) (sZ n p)).mpr λs=>?_;rw[gc,aE];constructor
 .rintro⟨t,g,rfl⟩;obtain⟨a,b⟩:=iN.mp g;exact iN.mpr ⟨BH a,h t a b⟩
 .intro j;obtain⟨a,b⟩:=iN.mp j;exact⟨sf s,iN.mpr ⟨BH a,h s a b⟩,Ka s⟩
def L4{X:Nat->Rat}{u:Vc}(h:u d=0):j7 d (λi=>-X i) u = - j7 d X u:=by unfold j7;rw[h];have:=l8 (-1) 0 d (λp=>(u p:Rat)*X p) (λ_=>0);rw[ik d (λp=>(u p:Rat) * -X p) (λi=>-1*((u i:Rat)*X i)+0*0) λi _=>by grind,this];grind
def N6{us:LL}(b:∀u∈us,vc u d=0){s:LI}(hs:s∈gU us.length)(h:Rz d us s):Rz d us (sf s):=by
 obtain⟨X,on⟩:=h;refine⟨λi=>-X i,λi a=>?_⟩;have e:vc (sf s) i = - vc s i:=by unfold sf;rw[qt s _ 0 (by rw[(iA hs).1];exact a)];rfl
 have:=on i a;rw[e,L4 (b _ (qq a)),Rat.intCast_neg];grind
variable {c:Cs}{d:Nat}
def iE(U:List (Int×Int)->LI)(ss:List (List (Int×Int))):(j5 U ss).length=ss.length:=by unfold j5;simp
def oz(U:List (Int×Int)->LI){ss:List (List (Int×Int))}{i:Nat}(a:i<ss.length):(j5 U ss).getD i []=U ss[i]++[0]:=by unfold j5;simp[ag,a]
def tE{ss:List (List (Int×Int))}{U V:List (Int×Int)->LI}(h:∀s∈ss,vP d s)(b:∀s∈ss,Rs d s (U s))(f:∀s∈ss,Rs d s (V s)):oO (d+1) (j5 U ss)=oO (d+1) (j5 V ss):=by
 show flt _ _=flt _ _;rw[iE,iE];have e:∀{U V:List (Int×Int)->LI},(∀s∈ss,Rs d s (U s))->(∀s∈ss,Rs d s (V s))->∀r,Rz (d+1) (j5 U ss) r->Rz (d+1) (j5 V ss) r:=λ{U V} b f r ⟨X,on⟩=>⟨X,λi g=>by rw[iE]at g;have:=on i (by rw[iE];exact g);have a:=aW g;rw[oz _ g,uG (h _ a) (b _ a)]at this;rw[oz _ g,uG (h _ a) (f _ a)];exact yy (b _ a).pos (f _ a).pos (by grind) this⟩
 exact oG λr _=>⟨e b f r,e f b r⟩
def GC{ss:List (List (Int×Int))}(U:List (Int×Int)->LI):j8 ((oO (d+1) (j5 U ss.reverse)).map List.reverse)=oO (d+1) (j5 U ss):=by
 have j:j5 U ss.reverse=(j5 U ss).reverse:=by unfold j5;rw[fx]
 rw[j];have h:=Mq (d:=d+1) (cs:=(j5 U ss).reverse) (ord:=(List.range (j5 U ss).reverse.length).reverse) (gh _);have f:((List.range (j5 U ss).reverse.length).reverse.map λk=>(j5 U ss).reverse.getD k [])=j5 U ss:=by
  rw[fx];have:(List.range (j5 U ss).reverse.length).map (λk=>(j5 U ss).reverse.getD k [])=(j5 U ss).reverse:=by refine cT (by simp) λi a b=>?_;simp[ag,show i<(j5 U ss).length by simpa using b]
  rw[this,List.reverse_reverse]
 rw[f]at h;rw[<-h];congr 1;refine cQ λs e=>?_;have g:s.length=(j5 U ss).reverse.length:=nR s e;rw[fx];congr 1;refine cT (by simp[g]) λi a b=>?_;simp[vc,ag,a]
theorem Bw:∀l:LL,(ya l).length<=l.length
 |[]=>aL _
 |r::l=>by
  unfold ya;have:=Bw l;split
  .simp;omega
  .simp;omega
section
variable {ss:List (List (Int×Int))}{x:List (Int×Int)}{U:List (Int×Int)->LI}
def Fh(U:List (Int×Int)->LI)(ss:List (List (Int×Int)))(x:List (Int×Int)):j5 U (ss++[x])=j5 U ss++[U x++[0]]:=by unfold j5;simp
def BY{a:Type}{l:List a}{k:Nat}(h:l.length=k+1):dl k l=l.take k:=by unfold dl;rw[gf (by omega),bI]
def yJ(a:Rs d x (U x)):j8 (ya ((oO (d+1) (j5 U (ss++[x]))).map λs=>s.take ss.length))=oO (d+1) (j5 U ss):=by
 have e:ss.length<(j5 U (ss++[x])).length:=by rw[iE];simp
 have f:(j5 U (ss++[x])).getD ss.length []=U x++[0]:=by rw[oz U (by simp)];simp
 have h:=Lh (d:=d+1) (cs:=j5 U (ss++[x])) e ⟨d,by omega,by rw[f,jy,aR (by rw[a.len];omega)];have:=a.pos;omega⟩
 have b:dl ss.length (j5 U (ss++[x]))=j5 U ss:=by rw[BY (by rw[iE];simp),Fh,dh (iE U ss)]
 rw[b]at h;rw[<-h];congr 2;exact cQ λs g=>(BY (by rw[nR s g,iE];simp)).symm
def GK(i:Rs d x (U x)):(oO (d+1) (j5 U ss)).length<=(oO (d+1) (j5 U (ss++[x]))).length/\(oO (d+1) (j5 U (ss++[x]))).length<=2*(oO (d+1) (j5 U ss)).length:=by
 have h:=yJ (ss:=ss) i;constructor
 .rw[<-h,(lV _).length_eq];refine aO (Bw _) ?_;rw[ax];exact aL _
 .have nd:=sZ (j5 U (ss++[x])).length (Rz (d+1) (j5 U (ss++[x])));have sub:∀s∈oO (d+1) (j5 U (ss++[x])),s∈(oO (d+1) (j5 U ss)).flatMap λr=>[r++[-1],r++[1]]:=λs f=>by
   obtain⟨g,m⟩:=iN.mp f;have k:s.length=ss.length+1:=by rw[nR s f,iE];simp
   rw[iE,aU]at g;obtain⟨r,hr,b⟩:=fJ.mp (show s∈(gU ss.length).flatMap λs=>[s++[-1],s++[1]] from g);refine fJ.mpr ⟨r,?_,b⟩;rw[<-h];refine (lV _).mem_iff.mpr (oI.mpr (aE.mpr ⟨s,f,?_⟩));have j:=(iA hr).1;simp only[aG,dY,or_false]at b;rcases b with rfl|rfl<;>exact dh j
  have:=nd.length_le_of_subset sub;rw[fK]at this;simp only[aA,cF]at this;have e:((oO (d+1) (j5 U ss)).map λ_=>0+1+1).sum=2*(oO (d+1) (j5 U ss)).length:=by
   generalize oO (d+1) (j5 U ss)=l;induction l with
   |nil=>rfl
   |cons a l ih=>simp at ih ⊢;omega
  exact aO this (b9 e)
end
def z1(s:List (Int×Int)):List (Int×Int):=s++[(0,1)]
def Eo{s:List (Int×Int)}(h:vP d s)(b:HZ (0,1)):vP (d+1) (z1 s):=⟨by unfold z1;rw[aU,h.1];rfl,λp a=>by
 unfold z1 at a;rcases aj.mp a with q|q
 .exact h.2 p q
 .rw[ak.mp q];exact b⟩
def NM{s:List (Int×Int)}(h:s.length=d):(∀i,i<d->Xs (z1 s) i=Xs s i)/\Xs (z1 s) d=0:=by
 constructor
 .intro i a;unfold Xs z1;rw[ag,List.getElem?_append_left (by omega),ag]
 .unfold Xs z1;rw[ag,List.getElem?_append_right (by omega),h,c6];show qv (0,1)=0;unfold qv;show ((0:Int):Rat) / ((1:Int):Rat)=0;grind
def Gh{ss:List (List (Int×Int))}{U V:List (Int×Int)->LI}(o:HZ (0,1))(g:∀s∈ss,vP d s)(f:∀s∈ss,Rs d s (U s))(k:∀s∈ss.map z1,Rs (d+1) s (V s)):oO (d+1+1) (j5 V (ss.map z1))=oO (d+1) (j5 U ss):=by
 show flt _ _=flt _ _;rw[iE,iE,ax];have e:∀(i:Nat) (a:i<ss.length) (X:Nat->Rat),j7 (d+1+1) X (vc ((j5 V (ss.map z1)).getD i []))=(vc (V (z1 ss[i])) (d+1):Rat)*(ls d (λj=>Xs ss[i] j*X j)+X (d+1)):=λi a X=>by have b:=aW a;rw[oz V (by rw[ax];exact a),cZ,uG (Eo (g _ b) o) (k _ (aE.mpr ⟨_,b,rfl⟩)),uI];obtain⟨l,m⟩:=NM (g _ b).1;rw[m,ik d _ (λj=>Xs ss[i] j*X j) λj h=>by rw[l j h]];grind
 refine oG λr _=>⟨λ⟨X,on⟩=>⟨λj=>if j=d then X (d+1) else X j,λi a=>?_⟩,λ⟨X,on⟩=>⟨λj=>if j=d+1 then X d else X j,λi a=>?_⟩⟩
 .rw[iE]at a;have b:=aW a;have:=on i (by rw[iE,ax];exact a);rw[e i a]at this;rw[oz U a,uG (g _ b) (f _ b),ik d _ (λj=>Xs ss[i] j*X j) λj h=>by rw[aS (by omega)]];simp only[if_true];exact yy (k _ (aE.mpr ⟨_,b,rfl⟩)).pos (f _ b).pos (by grind) this
 .rw[iE,ax]at a;have b:=aW a;have:=on i (by rw[iE];exact a);rw[oz U a,uG (g _ b) (f _ b)]at this;rw[e i a,ik d _ (λj=>Xs ss[i] j*X j) λj h=>by rw[aS (by omega)]];simp only[if_true];exact yy (f _ b).pos (k _ (aE.mpr ⟨_,b,rfl⟩)).pos (by grind) this
def Lw(u:LI)(d:Nat)(h:u.length=d+1):kL (tI (u++[0])) (.int (-2))=.ok (.int (vc u d)):=by
 have e:oX ((u++[0]).map T.int) (-2)=some (.int (vc u d)):=by
  have a:((u++[0]).map T.int).length=d+2:=by simp[h]
  unfold oX xO;rw[a,aS (by decide),aR (by omega),Option.bind_some,show ((-2:Int)+((d+2:Nat):Int)).toNat=d by omega,aw,List.getElem?_append_left (by omega),ai (by omega),iO u d (by omega)];rfl
 show (match oX ((u++[0]).map T.int) (-2) with|some t=>M.ok t|none=>.bad)=_;rw[e]
def Kr(w:Int):Int:=if w<0 then -1 else 1
def HW(x:Int):jh c [some (.int x)]=.ok (.int (Kr x)):=by
 unfold Kr;by_cases h:x<0
 .simp[jh,h]
 .simp[jh,h]
def xX(l:LI)(k i:Nat):vc (l.drop k) i=vc l (k+i):=by unfold vc;rw[ag,List.getElem?_drop,<-ag]
structure OT(d:Nat)(ss:List (List (Int×Int)))(ws:LI):Prop where
 len:ws.length=ss.length
 bn:∀w∈ws,Bn 7200 w
 some:∃w∈ws,w≠0
 sum:ws.sum=0
 sv:∀k,k<d->Q0 (ws.zip (ss.map (nB k))) 0=0
theorem rH(d:Nat)(ss:List (List (Int×Int)))(hd:1<=d/\d<=3)(hl:1<=ss.length/\ss.length<=8)(h:∀s∈ss,vP d s) :
    ∃U:List (Int×Int)->LI,(∀s∈ss,Rs d s (U s))/\
      ((ie c [.int d,.lst (ss.map tS)]=.ok .non/\∀j,j<ss.length->¬xk (ss.map U) j)\/
       ((∃o,ie c [.int d,.lst (ss.map tS)]=.ok (.tup [tI (o.map Kr),tL o])/\OT d ss o)/\¬∀j,j<ss.length->¬xk (ss.map U) j)):=by
  have sz:1000<sizeLine:=by decide
  obtain⟨U,A⟩:=mG (P:=λ(s:List (Int×Int)) (u:LI)=>ju c [.tup ((s++[(1,1)]).map fr)]=.ok (tI u)/\Rs d s u) ss λs a=>w6 (c:=c) d s hd.2 (h s a);refine⟨U,λs a=>(A s a).2,?_⟩;have er:=wF (c:=c) ss U hl.2 λs a=>⟨by rw[(h s a).1];exact hd.2,by rw[(A s a).2.len];omega,(A s a).1⟩;let gU:LL:=ss.map λs=>U s++[0];have hrl:gU.length=ss.length:=by simp[gU]
  have ew:=zd (c:=c) gU (by omega) λr hr=>by obtain⟨s,a,rfl⟩:=aE.mp hr;rw[aU,(A s a).2.len];simp;omega
  let Ax:LL:=gU.zipIdx.map λp=>p.1++(List.replicate gU.length (0:Int)).set p.2 1;have hfl:Ax.length=(ss.map U).length:=by simp[Ax,gU]
  obtain⟨pv,q,ep,Y,hrs⟩:=Dz (c:=c) (ss.map U) Ax (d+1) (by omega) (by simp;omega) hfl λk u row hu H=>by
    have J:k<ss.length:=by have:=(ae.mp hu).1;simpa using this
    have a:ss[k]∈ss:=aW J;have eu:u=U ss[k]:=by rw[aw,ai J]at hu;cases hu;rfl
    have S:row=uU (ss.map U).length k u:=by
      have hz:gU.zipIdx[k]? = some (U ss[k]++[0],k):=by rw[List.getElem?_zipIdx];show (Option.map _ (List.map _ ss)[k]?)=_;rw[aw,ai J];simp
      have:Ax[k]? = some ((U ss[k]++[0])++(List.replicate gU.length (0:Int)).set k 1):=by show (List.map _ gU.zipIdx)[k]? = _;rw[aw,hz];rfl
      rw[this]at H;cases H;rw[eu];unfold uU;rw[hrl,ax]
    rw[S];exact JA (ss.map U) (d+1) k u (by rw[eu];exact (A _ a).2.len) hu (by rw[eu];exact (A _ a).2.bn)
  have I:(ss.map U).length=ss.length:=by simp
  rw[I]at Y;have hck:=nG (c:=c) d ss hd hl h;have e3:gI kL (gP (gn (jb (il (gn (gy 2) gA) (kY c))) (gn (gI iG (gy 0) (cM (.int 1))) gA)) (iB c)) (cM (.int 1)) (mU [some (.p (.int d)),some (.p (.lst (ss.map tS))),some (.p (.lst (gU.map tI))),none,none])=.ok (.lst (q.map tI)):=gC (x:=.tup [.lst (pv.map oP),.lst (q.map tI)]) (kJ (x:=.lst (Ax.map tI)) (y:=.int ((d+1:Nat):Int)) (iq (Ae rfl ew)) (gC rfl rfl (by rw[jL];simp)) ep) rfl rfl
  have hdp:pL (q.map tI)<=90:=aO (uj q) (by decide);have C:j4 (gI (iP false) (gy 3) (jb (lstM gA))) (vw [some (.p (.int d)),some (.p (.lst (ss.map tS))),some (.p (.lst (gU.map tI))),some (.p (.lst (q.map tI))),none])=.ok q.isEmpty:=by refine jI (gC (x:=.lst (q.map tI)) (y:=.lst []) rfl (by simp) ?_);rw[pW false _ (by simp) hdp];simp
  have pre:∀t,_=O.rt t->ie c [.int d,.lst (ss.map tS)]=.ok t:=λt hr=>i3 rfl (gB (Bt (kJ rfl rfl hck)) (gB (gK (t:=.lst (gU.map tI)) (iq (Ae rfl er)) rfl) (gB (gK (t:=.lst (q.map tI)) e3 rfl) hr)))
  cases v:q with
  |nil=>left;refine⟨pre .non (nE (kz (C.trans (by rw[v];rfl)) (ij rfl)) rfl),Y.no.mp v⟩
  |cons r jD=>
    right;have hrm:r∈q:=by rw[v];exact bj ..
    obtain⟨g1,g2,g3,⟨D,K,hn0⟩,g5⟩:=Y.rg r hrm;rw[I]at g1 K;refine⟨?_,λz=>by have:=Y.no.mpr z;rw[v]at this;cases this⟩;let b:LI:=r.drop (d+2);have X:b.length=ss.length:=by show (r.drop (d+2)).length=_;rw[bR,g1];omega
    let o:LI:=(ss.zip b).map λp=>p.2*vc (U p.1) d;have R:o.length=ss.length:=by simp[o,X]
    have E:∀w∈b,Bn 7100 w:=λw hw=>g5 w (fF hw);have N:∀s∈ss,Bn 41 (vc (U s) d):=λs a=>(A s a).2.bn _ (getD_mem _ _ (by rw[(A s a).2.len];omega));have F:∀k,k<d+1->((ss.zip b).map λp=>p.2*vc (U p.1) k).sum=0:=λk Z=>by rw[Ft U k ss b X];have:=g3 k Z;rw[g2 k Z,I]at this;rw[this];exact hW _ _ _ λi _=>by rw[show vc b i=vc r (d+2+i) from xX r (d+2) i]
    have ews:iW c [.lst (gU.map tI),tI b]=.ok (o.map T.int):=by
      refine nL rfl (m7 (i4 (gU.zip b) (λp=>T.tup [tI p.1,.int p.2]) (λp=>T.int (p.2*vc p.1 d)) (tZ (l:=gU) (m:=b) (f:=tI) (g:=T.int) rfl rfl rfl rfl) (by simp;omega) (λp L=>⟨_,rfl,rfl,?_⟩) ?_))
      . obtain⟨s,a,e⟩:=aE.mp (aX L).1
        have e2:vc p.1 d=vc (U s) d:=by rw[<-e,jy,aR (by rw[(A s a).2.len];omega)]
        rw[e2]
        refine gC (x:=.int p.2) (y:=.int (vc (U s) d)) rfl (gC (x:=tI p.1) (y:=.int (-2)) rfl rfl ?_) (ja ((E _ (aX L).2).ok (N s a) (by decide) (by decide)))
        rw[<-e]
        exact Lw _ d (A s a).2.len
      . show ((List.map _ ss).zip b).map _=_
        rw[List.zip_map_left,aJ,aJ]
        refine cQ λp L=>?_
        have a:=(aX L).1
        show T.int (p.2*vc (U p.1++[0]) d)=T.int (p.2*vc (U p.1) d)
        rw[jy,aR (by rw[(A _ a).2.len];omega)]
    have e5:kP [none] (iR (gy 4)) (j6 0) (λ_=>.ok true) (jh c) (vw [some (.p (.int d)),some (.p (.lst (ss.map tS))),some (.p (.lst (gU.map tI))),some (.p (.lst (q.map tI))),some (.p (tL o))])=.ok ((o.map Kr).map T.int):=i4 o T.int (λw=>T.int (Kr w)) rfl (by omega) (λw hw=>⟨_,rfl,rfl,HW w⟩) (aJ (l:=o) (f:=Kr) (g:=T.int)).symm
    have ir:gI kL (gy 3) (cM (.int 0)) (mU [some (.p (.int d)),some (.p (.lst (ss.map tS))),some (.p (.lst (gU.map tI))),some (.p (.lst (q.map tI))),none])=.ok (tI r):=gC (x:=.lst (q.map tI)) rfl rfl (by rw[v];exact Bu _ _);have esl:jU (gI kL (gy 3) (cM (.int 0))) (iM (gI iG (gy 0) (cM (.int 2)))) (λ_=>.ok none) (mU [some (.p (.int d)),some (.p (.lst (ss.map tS))),some (.p (.lst (gU.map tI))),some (.p (.lst (q.map tI))),none])=.ok (tI b):=by have:=xZ (fe:=gI kL (gy 3) (cM (.int 0))) (fd:=gI iG (gy 0) (cM (.int 2))) (d:=d+2) (ts:=r.map T.int) (ρ:=mU [some (.p (.int d)),some (.p (.lst (ss.map tS))),some (.p (.lst (gU.map tI))),some (.p (.lst (q.map tI))),none]) ir (gC rfl rfl (by rw[jL];simp)) (by omega) (by intro z;have:=congrArg List.length z;simp[g1]at this);rw[<-d6]at this;exact this
    refine⟨o,pre (.tup [tI (o.map Kr),tL o]) (gB (jv (C.trans (by rw[v];rfl)) rfl) (gB (gK (t:=tL o) (iq (rC rfl esl ews)) rfl) (ij (uZ (nc (t:=.lst ((o.map Kr).map T.int)) (iq e5) rfl) rfl)))),R,λw hw=>?_,?_,F d (by omega),λk Z=>?_⟩
    . obtain⟨p,L,rfl⟩:=aE.mp hw
      exact ((E _ (aX L).2).mul (N _ (aX L).1)).mono (by decide)
    . have Q:D<b.length:=by omega
      refine⟨b[D]*vc (U ss[D]) d,aE.mpr ⟨(ss[D],b[D]),?_,rfl⟩,eR ?_ ?_⟩
      . exact av (i:=D) (by rw[List.getElem?_zip_eq_some];exact⟨ai K,ai Q⟩)
      . rw[<-iO b D Q,show vc b D=vc r (d+2+D) from xX r (d+2) D]
        exact hn0
      . have:=(A _ (aW K)).2.pos;omega
    . obtain⟨B,eB⟩:=BG U d k ss b 0 1 0 (by decide) λs a=>(A s a).2.eq k Z
      rw[F k (by omega),eP,eJ]at eB
      exact eB
def BD{A B:List (Int×Int)->LI}(ss:List (List (Int×Int)))(f:∀s∈ss,∃p q:Int,p≠0/\q≠0/\∀i,p*vc (A s) i=q*vc (B s) i)(j:Nat)(k:j<ss.length)(h:xk (ss.map A) j):xk (ss.map B) j:=by
 unfold xk at *;rw[oB _ j (A ss[j]) [] (by rw[aw,ai k];rfl)]at h;rw[oB _ j (B ss[j]) [] (by rw[aw,ai k];rfl)];obtain⟨p,q,z,o,e⟩:=f _ (aW k);refine .lin (s:=q) (a:=p) (b:=0) (y:=λ_=>0) (h.sub λx ⟨v,hv,ex⟩=>?_) .zero o λi=>by rw[<-e i,eO,eP]
 rw[<-dZ]at hv;obtain⟨s,l,rfl⟩:=aE.mp hv;obtain⟨r,u,g,w,m⟩:=f s (fE l);rw[ex];refine .lin (s:=r) (a:=u) (b:=0) (y:=λ_=>0) (x:=vc (B s)) (.of ⟨B s,by rw[<-dZ];exact aE.mpr ⟨s,l,rfl⟩,rfl⟩) .zero g λi=>by rw[m i,eO,eP]
def IK{m:Nat}{u:Vc}{us:List Vc}(k:Aq m (u::us) (us.length+1)):Aq m us us.length:=by
 obtain⟨r,hr,f⟩:=mz _ m us rfl;obtain⟨i,T,l,e⟩:=k;obtain⟨a,o,j,g⟩:=id f;have:=vy T (u::a.map Prod.snd) λv b=>(e v).mp λr hr=>by
  rcases aG.mp hr with rfl|q
  .exact b _ (bj ..)
  .exact (g v).mpr (λp h=>b _ (bx _ (aE.mpr ⟨p,h,rfl⟩))) r q
 rw[aA,ax]at this;rw[show us.length=r by lia];exact f
def Kd{d p:Nat}{u:Vc}{us:List Vc}(b:p<=d)(f:u p≠0):Aq (d+1) (u::us) (us.length+1)↔Aq d (us.map (vx u p)) us.length:=by
 constructor
 .intro k;obtain⟨r,_,a⟩:=mz _ d (us.map (vx u p)) rfl;have e:=k.uniq (sG (d:=d) b f a) λ_=>Iff.rfl;rw[show us.length=r by lia];exact a
 .intro k;exact sG (d:=d) b f k
theorem xB:∀(n d:Nat) (us:List Vc),us.length=n->(∀u∈us,u d=0)->0<=mD d us/\mD d us<=((2 ^ n:Nat):Int)/\(mD d us=((2 ^ n:Nat):Int)↔Aq (d+1) us n)/\(1<=n->mD d us<=2*(Ch (n-1) (d-1):Int))
 |0,d,us,a,_=>by
  have:us=[]:=dE.mp a;subst this;have e:mD d []=1:=sE d;obtain⟨r,hr,k⟩:=mz 0 (d+1) [] rfl;have hr:r=0:=by lia
  subst hr;rw[e];exact⟨by decide,by decide,⟨λ_=>k,λ_=>rfl⟩,λh=>absurd h (by decide)⟩
 |n+1,d,us,a,hz=>by
  cases us with
  |nil=>cases a
  |cons u us=>
   have a:us.length=n:=by simpa using a
   have J:(2 ^ (n+1):Nat)=2 ^ n+2 ^ n:=by rw[dc];lia
   have N:1<=2 ^ n:=Nat.one_le_two_pow;have y:=hz u (bj ..);have b:∀w∈us,w d=0:=λw hw=>hz w (bx _ hw);by_cases q:∃p,p<d/\u p≠0
   .obtain⟨p,P,o⟩:=q;obtain⟨e,rfl⟩:∃e,d=e+1:=⟨d-1,by lia⟩;have v:∀w∈us.map (vx u p),w e=0:=λw hw=>by
     obtain⟨x,g,rfl⟩:=aE.mp hw;have F:sk p e=e+1:=by unfold sk;rw[aS (by lia)]
     unfold vx;rw[F,y,b x g];simp
    obtain⟨L,I,A,l⟩:=xB n (e+1) us a b;obtain⟨K,H,s,j⟩:=xB n e (us.map (vx u p)) (by simpa using a) v;rw[vK (by lia) o];refine⟨by lia,by lia,?_,λ_=>?_⟩
    .subst a;rw[Kd (d:=e+1) (by lia) o,<-s];constructor
     .intro h;lia
     .intro h;have:=A.mpr (IK ((Kd (d:=e+1) (by lia) o).mpr (s.mp h)));lia
    .show _<=2*(Ch n e:Int);cases n with
     |zero=>have:us=[]:=dE.mp a;subst this;have C:mD (e+1) []=1:=sE _;have D:mD e []=1:=sE _;rw[b7,C,D];show (1:Int)+1<=2*((1:Nat):Int);decide
     |succ m=>
      have l:=l (by lia);have j:=j (by lia);rw[gj,gj]at l;rw[gj]at j;cases e with
      |zero=>
       obtain⟨x,g⟩:∃x,x∈us.map (vx u p):=by
        cases us with
        |nil=>cases a
        |cons x us=>exact⟨_,aE.mpr ⟨x,bj ..,rfl⟩⟩
       have:=qY (d:=0) (u:=x) (λi B=>by rw[show i=0 by lia];exact v x g) _ g;rw[this,eP];rw[IP]at *;exact l
      |succ f=>rw[gj]at j;show _<=2*((Ch m (f+1)+Ch m f:Nat):Int);lia
   .have z:∀i,i<d+1->u i=0:=λi B=>by
     by_cases e:i=d
     .rw[e];exact y
     .exact aP λz=>q ⟨i,by lia,z⟩
    rw[qY z _ (bj ..)];refine⟨Int.le_refl 0,by lia,⟨λh=>by lia,λk=>?_⟩,λ_=>by lia⟩;obtain⟨r,hr,E⟩:=mz _ (d+1) us rfl;have:=k.uniq E (qM z us);lia
def M3{m:Nat}(vs:LL)(hv:∀v∈vs,v.length=m):Aq m (vs.map vc) vs.length↔∀j,j<vs.length->¬xk vs j:=by
 obtain⟨f,I⟩:=Hq vs hv _ (aL _);have l:vs.take vs.length=vs:=eW;have i:=I.sp;have g:=I.ps;rw[l]at i g;have k:Aq m (vs.map vc) f.length:=by
  refine⟨f.map λp=>(p.1,vc p.2),⟨λq b=>?_,dH.mpr I.tri⟩,by simp,λv=>⟨λe q b=>?_,λe r hr=>?_⟩⟩
  .obtain⟨p,a,rfl⟩:=aE.mp b;exact⟨(I.bd p a).1,I.nz p a⟩
  .obtain⟨p,a,rfl⟩:=aE.mp b;exact E7 (g p a) λx ⟨r',hr',ex⟩=>by rw[ex];exact e _ (aE.mpr ⟨r',hr',rfl⟩)
  .obtain⟨w,hw,rfl⟩:=aE.mp hr;exact E7 (i w hw) λx ⟨p,a,ex⟩=>by rw[ex];exact e (p.1,vc p.2) (aE.mpr ⟨p,a,rfl⟩)
 rw[<-I.eq];exact⟨λh=>k.uniq h λ_=>Iff.rfl,λh=>by rw[h]at k;exact k⟩
def sS{d:Nat}{ss:List (List (Int×Int))}{U:List (Int×Int)->LI}(C:1<=ss.length)(k:∀s∈ss,Rs d s (U s)):(oO (d+1) (j5 U ss)).length<=2*Ch (ss.length-1) d/\(oO (d+1) (j5 U ss)).length<=2 ^ ss.length/\((oO (d+1) (j5 U ss)).length=2 ^ ss.length↔∀j,j<ss.length->¬xk (ss.map U) j):=by
 have m:∀u∈j5 U ss,u.length=d+1+1:=λu l=>by obtain⟨s,a,rfl⟩:=aE.mp l;rw[aU,(k s a).len];rfl
 have z:=LC _ (d+1) (j5 U ss) rfl m;have A:((j5 U ss).reverse.map vc).Perm ((j5 U ss).map vc):=(gh _).map vc;rw[DF A]at z;obtain⟨-,B,o,f⟩:=xB ss.length (d+1) ((j5 U ss).map vc) (by rw[ax,iE]) λu l=>by obtain⟨x,w,rfl⟩:=aE.mp l;obtain⟨s,a,rfl⟩:=aE.mp w;rw[jy,aS (by rw[(k s a).len];lia),(k s a).len,c6];rfl
 have f:=f C;rw[gj]at f;have v:=M3 (j5 U ss) m;rw[iE]at v;have r:∀s∈ss,∃p q:Int,p≠0/\q≠0/\∀i,p*vc (U s) i=q*vc (U s++[0]) i:=λs a=>⟨1,1,by decide,by decide,λi=>by
  rw[jy];split
  .rfl
  .rename_i h;rw[iX (U s) i (by lia)];by_cases e:i-(U s).length=0
   .rw[e];rfl
   .rw[iX [0] _ (by simp;lia)]⟩
 have g:(∀j,j<ss.length->¬xk (j5 U ss) j)↔∀j,j<ss.length->¬xk (ss.map U) j:=⟨λh j b q=>h j b (BD ss r j b q),λh j b q=>h j b (BD ss (λs a=>by obtain⟨p,q,D,y,e⟩:=r s a;exact⟨q,p,y,D,λi=>(e i).symm⟩) j b q)⟩
 have zz:((oO (d+1) (j5 U ss)).length:Int)=mD (d+1) ((j5 U ss).map vc):=z;rw[<-zz]at B o f;refine⟨by lia,by lia,?_⟩;rw[<-g,<-v,<-o];lia
def Mp(l:LL):iP false (.lst (l.map tI)) (.lst (l.map tI))=.ok (.bl true):=by
 have b:oV (.lst (l.map tI))=true:=yR l;have f:=uj l;have e:xT (.lst (l.map tI))<=100:=by rw[BV];lia
 have a:A5 (.lst (l.map tI)) (.lst (l.map tI))=true:=by rw[xJ];exact (qI tI FY l l).mpr rfl
 unfold iP;rw[b,a,aD e];rfl
def yA(n d:Nat)(e:n<=4)(hd:1<=d/\d<=3):i5 c [.int (n:Int),.int (d:Int)]=.ok (.int (Ch n d:Int)):=by
 have b:d=1\/d=2\/d=3:=by lia
 have a:n=0\/n=1\/n=2\/n=3\/n=4:=by lia
 rcases a with rfl|rfl|rfl|rfl|rfl<;>rcases b with rfl|rfl|rfl<;>rfl
def Oy(n d:Nat)(b:n<=5)(hd:d<=3)(a:d=3->n<=4):Ch n d<=16:=by
 have:∀n<6,∀d<4,(d=3->n<=4)->Ch n d<=16:=by decide
 exact this n (by lia) d (by lia) a
theorem E4 d (ss:List (List (Int×Int))) (j:Int) (hd:1<=d/\d<=3) (m:1<=ss.length/\ss.length<=5) (h4:d=3->ss.length<=4) (h:∀s∈ss,vP d s) :
  kH c [.int d,.lst (ss.map tS),.int j]=.ok (.bl true):=by
 have sz:1000<sizeLine:=by decide
 let n:=ss.length;have C:1<=n/\n<=5:=m;obtain⟨U,o,eF⟩:=oh (c:=c) d ss hd ⟨m.1,by lia⟩ h;let S:=oO (d+1) (j5 U ss);have S1:∀s∈S,s.length=n:=λs a=>(nR s a).trans (iE U ss);obtain⟨c1,c2,-⟩:=sS m.1 o;have p32:2 ^ n<=2 ^ 5:=de (by decide) m.2;have S32:S.length<=32:=aO c2 p32;have hr:∀s∈ss.reverse,vP d s:=λs a=>h s (gc.mp a);obtain⟨U2,N,Y⟩:=oh (c:=c) d ss.reverse hd (by rw[cP];exact⟨m.1,by lia⟩) hr;rw[tE hr N (V:=U) λs a=>o s (gc.mp a)]at Y;have b2:=(sS (ss:=ss.reverse) (by rw[cP];exact m.1) λs a=>o s (gc.mp a)).2.1;have bk:=GC (d:=d) (ss:=ss) U;have B1:∀s∈oO (d+1) (j5 U ss.reverse),s.length=n:=λs a=>(nR s a).trans (by rw[iE,cP]);generalize oO (d+1) (j5 U ss.reverse)=B at Y b2 bk B1;rw[cP]at b2;obtain⟨xs,ex,x1,x2,gx⟩:=yh (c:=c) j (j.fdiv 3+7) d 1 hd (by decide);obtain⟨x,I,rfl⟩:∃x I,xs=x::I:=by cases xs with
  |nil=>exact absurd x1 (by decide)
  |cons x I=>exact⟨x,I,rfl⟩
 have hm:∀s∈ss++[x],vP d s:=λs a=>(aj.mp a).elim (h s) λq=>by rw[ak.mp q];exact gx x (bj ..)
 have H:(ss++[x]).length=n+1:=by simp[n]
 obtain⟨L,v,eM⟩:=oh (c:=c) d (ss++[x]) hd (by rw[H];lia) hm;have D:∀s∈ss,Rs d s (L s):=λs a=>v s (ay _ a);have E:Rs d x (L x):=v x (bE _ (ak.mpr rfl));have m1:=(sS (ss:=ss++[x]) (by rw[H];lia) v).1;rw[H,gj]at m1;have Z:=yJ (ss:=ss) E;have F:=GK (ss:=ss) E;rw[tE h D o]at Z F;have J:∀s∈oO (d+1) (j5 L (ss++[x])),s.length=n+1:=λs a=>(nR s a).trans (by rw[iE,H]);generalize oO (d+1) (j5 L (ss++[x]))=Mo at eM m1 Z F J;have M32:Mo.length<=32:=by have:=Oy n d C.2 hd.2 h4;lia
 obtain⟨V,hV,Q⟩:=rH (c:=c) d ss hd ⟨m.1,by lia⟩ h;have P:=(sS m.1 hV).2.2;rw[tE h hV o]at P;obtain⟨t,et,tn⟩:∃t,ie c [.int d,.lst (ss.map tS)]=.ok t/\Ex false t .non=.ok (.bl ((S.length:Int)==((2 ^ n:Nat):Int))):=by
  rcases Q with⟨e,C⟩|⟨⟨ws,e,-⟩,C⟩
  .refine⟨_,e,?_⟩;have:S.length=2 ^ n:=P.mpr C;rw[this];simp
  .refine⟨_,e,?_⟩;have:S.length≠2 ^ n:=λz=>C (P.mp z);have:((S.length:Int)==((2 ^ n:Nat):Int))=false:=by rw[beq_eq_false_iff_ne];lia
   rw[this];rfl
 let R (x3 x4 x5:Option W):En:=[some (.p (.int (d:Int))),some (.p (.lst (ss.map tS))),some (.p (.int j)),x3,x4,x5];let g:Option W:=some (.p (.lst (S.map tI)));let l:Option W:=some (.p (.lst (B.map tI)));let w:Option W:=some (.p (.lst (Mo.map tI)));have K:∀{ρ:Pe},ρ[3]? = some (some (.lst (S.map tI)))->j9 kc (gn (gy 3) gA) ρ=.ok (.int (S.length:Int)):=λ{ρ} hv=>nc (t:=.lst (S.map tI)) (by simp[gy,hv]) (by simp);have lN:∀{ρ:Pe},ρ[1]? = some (some (.lst (ss.map tS)))->j9 kc (gn (gy 1) gA) ρ=.ok (.int (n:Int)):=λ{ρ} hv=>nc (t:=.lst (ss.map tS)) (by simp[gy,hv]) (by simp[n]);have t1:j4 (gI (iP true) (gI Iz (jb (kP [none] (iR (gy 3)) (j6 0) (λ_=>.ok true) (mC c))) (nv (λi=>.int (-i)) (cM (.int 1)))) (gy 3)) (vw (R g none none))=.ok false:=by
  have A:kP [none] (iR (gy 3)) (j6 0) (λ_=>.ok true) (mC c) (vw (R g none none))=.ok ((S.map sf).map tI):=i4 S tI (λs=>tI (sf s)) (lQ rfl) (by lia) (λs a=>⟨_,rfl,rfl,vC (i4 s T.int (λx=>T.int (-x)) (yM rfl) (by have:=S1 s a;lia) (λk hk=>⟨_,rfl,rfl,rfl⟩) (by unfold sf;rw[aJ];rfl):kP [none] (iR (gy 0)) (j6 0) (λ_=>.ok true) (oZ c) [some (tI s)]=.ok ((sf s).map T.int)) rfl⟩) (by rw[aJ];rfl)
  have e:(S.map sf).reverse=S:=LU λs a=>N6 (λu hu=>by obtain⟨s,a,rfl⟩:=aE.mp hu;rw[jy,aS (by rw[(o s a).len];lia),(o s a).len,c6];rfl) a
  have q:=Li (S.map sf);rw[e]at q;exact jI (gC (gC (iq A) rfl q) rfl (zP _))
 have t2:j4 (gI Mv (j9 kc (gn (gy 3) gA)) (gI jN (cM (.int 2)) (gP (gn (gI uX (j9 kc (gn (gy 1) gA)) (cM (.int 1))) (gn (gy 0) gA)) (i5 c)))) (vw (R g none none))=.ok false:=by
  have X:uX (.int (n:Int)) (.int 1)=.ok (.int ((n-1:Nat):Int)):=by rw[pQ];congr 2;lia
  refine jI (gC (x:=.int (S.length:Int)) (y:=.int (2*(Ch (n-1) d:Int))) (K rfl) (gC rfl (kJ (gC (lN rfl) rfl X) rfl (yA (n-1) d (by lia) hd)) (jo (by decide))) ?_);show M.ok (T.bl (decide (2*(Ch (n-1) d:Int)<(S.length:Int))))=_;congr 2;have:S.length<=2*Ch (n-1) d:=c1;exact aC (by lia)
 have t3:j4 (gI (iP true) (gI (iP false) (j9 kc (gn (gy 3) gA)) (gI JP (cM (.int 1)) (j9 kc (gn (gy 1) gA)))) (gI (Ex false) (gP (gn (gy 0) (gn (gy 1) gA)) (ie c)) (cM .non))) (vw (R g none none))=.ok false:=by
  have X:JP (.int 1) (.int (n:Int))=.ok (.int ((2 ^ n:Nat):Int)):=by
   have:n=1\/n=2\/n=3\/n=4\/n=5:=by lia
   rcases this with q|q|q|q|q<;>rw[q]<;>rfl
  refine jI (gC (gC (K rfl) (gC rfl (lN rfl) X) (km _ _)) (gC (kJ rfl rfl et) rfl tn) ?_);cases ((S.length:Int)==((2 ^ n:Nat):Int))<;>rfl
 have t4:wO (j4 (gI Ks (gy 0) (cM (.int 3)))) (j4 (gI (iP true) (jb (il (gn (gI iG (gy 0) (cM (.int 1))) (gn (jb (kP [none] (iR (gy 1)) (j6 0) (λ_=>.ok true) (mr c))) gA)) (iw c))) (gy 3))) (vw (R g none none))=.ok false:=by
  by_cases q:d=3
  .subst q;exact LS (jI (gC rfl rfl rfl))
  .have A:kP [none] (iR (gy 1)) (j6 0) (λ_=>.ok true) (mr c) (vw (R g none none))=.ok ((ss.map z1).map tS):=
    i4 ss tS (λs=>tS (z1 s)) (lQ rfl) (by lia) (λs a=>⟨_,rfl,rfl,gC (x:=tS s) (y:=.tup [.tup [.int 0,.int 1]]) rfl rfl (by have:=(h s a).1;unfold tS z1;simp[iG,fr];lia)⟩) (by rw[aJ];rfl)
   have g0:HZ (0,1):=⟨by decide,by decide,by unfold Bn;decide,by unfold Bn;decide,by unfold Bn;decide,by unfold Bn;decide⟩;obtain⟨V',hV',eZ⟩:=oh (c:=c) (d+1) (ss.map z1) (by lia) (by rw[ax];exact⟨m.1,by lia⟩) λs a=>by obtain⟨x,hx,rfl⟩:=aE.mp a;exact Eo (h x hx) g0
   rw[Gh g0 h o hV']at eZ;refine Me (jI (gC (x:=.int (d:Int)) (y:=.int 3) (r:=.ok (.bl true)) rfl rfl ?_)) (jI (gC (iq (rC (gC (x:=.int (d:Int)) (y:=.int 1) rfl rfl (jL _ _)) (iq A) eZ)) rfl (zP S)));show M.ok (T.bl (decide ((d:Int)<3)))=_;congr 2;exact aD (by lia)
 have s4:jb (il (gn (gy 0) (gn (gI Iz (gy 1) (nv (λi=>.int (-i)) (cM (.int 1)))) gA)) (iw c)) (mU (R g none none))=.ok (.lst (B.map tI)):=by refine iq (rC rfl (gC (x:=.lst (ss.map tS)) (y:=.int (-1)) (r:=.ok (.lst (ss.reverse.map tS))) rfl rfl ?_) Y);rw[fx];rfl
 have t5:j4 (gI (iP true) (jb (Iu (mJ false j8) (gn (jb (kP [none] (iR (gy 4)) (j6 0) (λ_=>.ok true) (mq c))) gA))) (gy 3)) (vw (R g l none))=.ok false:=by
  have A:kP [none] (iR (gy 4)) (j6 0) (λ_=>.ok true) (mq c) (vw (R g l none))=.ok ((B.map List.reverse).map tI):=i4 B tI (λs=>tI s.reverse) (lQ rfl) (by lia) (λs a=>⟨_,rfl,rfl,gC (x:=tI s) (y:=.int (-1)) rfl rfl (OR s)⟩) (by rw[aJ];rfl)
  exact jI (gC (iq (He (iq A) (Bq (n:=n) (λr hr=>by obtain⟨s,a,rfl⟩:=aE.mp hr;rw[cP];exact B1 s a) (by rw[ax];lia) (.inr λz=>by lia) bk))) rfl (zP S))
 have s5:jb (il (gn (gy 0) (gn (jb (zA (gy 1) (jb (lstM (gn (gI kL (jb (il (gn (gy 2) (gn (gI iG (gI kW (gy 2) (cM (.int 3))) (cM (.int 7))) (gn (gy 0) (gn (cM (.int 1)) gA)))) (i8 c))) (cM (.int 0))) gA))))) gA)) (iw c)) (mU (R g l none))=.ok (.lst (Mo.map tI)):=by
  have i1:gI kL (jb (il (gn (gy 2) (gn (gI iG (gI kW (gy 2) (cM (.int 3))) (cM (.int 7))) (gn (gy 0) (gn (cM (.int 1)) gA)))) (i8 c))) (cM (.int 0)) (mU (R g l none))=.ok (tS x):=gC (iq (Eg rfl (gC (gC (x:=.int j) (y:=.int 3) rfl rfl (ku (by decide) (Bn.noPy (n:=62) (by unfold Bn;decide) (by decide)))) rfl (jL _ _)) rfl rfl ex)) rfl (Bu _ _)
  refine iq (rC rfl (Lx (b:=[tS x]) rfl (OQ i1) (by rw[ax];simp;lia)) ?_);rw[<-eM,a9];rfl
 have t6:xi (II B4 B4 (j9 kc (gn (gy 3) gA)) (j9 kc (gn (gy 5) gA)) (gI jN (cM (.int 2)) (j9 kc (gn (gy 3) gA)))) (gI (iP false) (jb (Iu (mJ true λrs=>j8 (ya rs)) (gn (jb (kP [none] (iR (gy 5)) (j6 0) (λ_=>.ok true) (mh c))) gA))) (gy 3)) (vw (R g l w))=.ok (.bl true):=by
  have A:kP [none] (iR (gy 5)) (j6 0) (λ_=>.ok true) (mh c) (vw (R g l w))=.ok ((Mo.map λs=>s.take n).map tI):=i4 Mo tI (λs=>tI (s.take n)) (lQ rfl) (by lia) (λs a=>⟨_,rfl,rfl,by have:=vn (u:=s) (f:=gy 0) (ρ:=[some (tI s)]) (J s a) rfl;rw[ei,J s a,gj]at this;exact this⟩) (by rw[aJ];rfl)
  have q:II B4 B4 (j9 kc (gn (gy 3) gA)) (j9 kc (gn (gy 5) gA)) (gI jN (cM (.int 2)) (j9 kc (gn (gy 3) gA))) (vw (R g l w))=.ok (.bl true):=by
   have e5:j9 kc (gn (gy 5) gA) (vw (R g l w))=.ok (.int (Mo.length:Int)):=nc (t:=.lst (Mo.map tI)) rfl (by simp);have e6:gI jN (cM (.int 2)) (j9 kc (gn (gy 3) gA)) (vw (R g l w))=.ok (.int (2*(S.length:Int))):=gC rfl (K rfl) (jo (by decide));have a1:S.length<=Mo.length:=F.1;have a2:Mo.length<=2*S.length:=F.2;have z1:B4 (.int (S.length:Int)) (.int (Mo.length:Int))=.ok (.bl true):=by show M.ok (T.bl (decide ((S.length:Int)<=Mo.length)))=_;rw[aD (by lia)]
   have z2:B4 (.int (Mo.length:Int)) (.int (2*(S.length:Int)))=.ok (.bl true):=by show M.ok (T.bl (decide ((Mo.length:Int)<=2*(S.length:Int))))=_;rw[aD (by lia)]
   simp only[II,K (ρ:=vw (R g l w)) rfl,e5,e6,M.bind_ok,z1,z2]
  refine M7 q (gC (iq (He (iq A) (Bq (n:=n) (λr hr=>?_) (by rw[ax];lia) (.inl rfl) Z))) rfl (Mp S));obtain⟨s,a,rfl⟩:=aE.mp hr;rw[bL,J s a];lia
 exact i3 rfl (gB (ρ':=R g none none) (gK (t:=.lst (S.map tI)) (iq (rC rfl rfl eF)) rfl) (gB (jv t1 rfl) (gB (jv t2 rfl) (gB (jv t3 rfl) (gB (jv t4 rfl) (gB (ρ':=R g l none) (gK s4 rfl) (gB (jv t5 rfl) (gB (ρ':=R g l w) (gK s5 rfl) (ij t6)))))))))
def Ct(e:LI):p9 c [.scr e]=.ok (.bl true):=by
 obtain⟨A,y,h,f,j,rfl⟩:=vZ (m:=nj 1) (g:=vt c) (λ(i:Nat)=>T.int (i:Int)) (λl=>∃h f j,l=[some (.p (.scr e)),h,f,j]) [0,1,0] _ ⟨none,none,none,rfl⟩ (by
  rintro k F l ⟨h,f,j,rfl⟩;have r:k=0\/k=1:=by simp at F;omega
  obtain⟨v,z,-⟩:=ur (c:=c) e (2*k);obtain⟨w,B,-⟩:=ur (c:=c) e (2*k+1);obtain⟨D,H,x⟩:=lG (c:=c) v 2 3 (by decide) (by decide) (by decide) (by decide);obtain⟨d,hdd⟩:∃d:Nat,1+dr c v 2 3=(d:Int):=⟨(1+dr c v 2 3).toNat,by omega⟩;have hd:1<=d/\d<=3:=by omega
  have o:jN (.int 2) (.int k)=.ok (.int ((2*k:Nat):Int)):=by rw[jo (by decide)];simp
  obtain⟨a,hm,h3,em⟩:∃a:Nat,(1<=a/\a<=5)/\(d=3->a<=4)/\kL (.lst [.int 5,.int 5,.int 4]) (.int ((d:Int)-1))=.ok (.int (a:Int)):=by
   have:d=1\/d=2\/d=3:=by omega
   rcases this with rfl|rfl|rfl
   .exact⟨5,by decide,by decide,rfl⟩
   .exact⟨5,by decide,by decide,rfl⟩
   .exact⟨4,by decide,by decide,rfl⟩
  obtain⟨C,u,J,I,E⟩:=yh (c:=c) v w d a hd (by omega);have s:=E4 (c:=c) d C v hd (by omega) (λq=>by have:=h3 q;omega) E;refine⟨_,_,rfl,.inl (gB (gK (t:=.int v) (kJ rfl (gC rfl rfl o) z) rfl) (gB (gK (t:=.int d) (gC rfl (vT rfl rfl rfl D) (by rw[jL,hdd])) rfl) (jv (FX (b:=true) (jI (vT rfl (iq (Eg rfl (kJ rfl (gC (gC rfl rfl o) rfl rfl) B) rfl (gC (PY rfl rfl rfl) (gC rfl rfl (pQ _ _)) em) u)) rfl s)) rfl) rfl))),_,_,_,rfl⟩)
 exact i3 rfl (gB (lB rfl y) (ij rfl))
end CL
namespace K58
open PySem L2 L3 CL
def jk(i:Nat):Stmt:=PySem.Challenge.pw_cutlands_k58_whole_rows_turned.main.body.getD i (.Pass ⟨0,0,0,0⟩)
structure Er(c:Cs)(K:W.Frag)(mg:Str->Option Value):Prop where
 here:True
 k_MOST_DIMS:∃t,mg "MOST_DIMS" = some (.int 3 t)
 k_MOST_SPOTS:∃t,mg "MOST_SPOTS" = some (.int 8 t)
def NQ{K:W.Frag}{h:Heap}{a:Str->Option Value}  {tMOST_DIMS tMOST_SPOTS:_} (X:K.In h) (G:h.Ns mainGlobals a) (uMOST_DIMS:W.nsIn K mainGlobals "MOST_DIMS" = some (some (.int 3 tMOST_DIMS))) (uMOST_SPOTS:W.nsIn K mainGlobals "MOST_SPOTS" = some (some (.int 8 tMOST_SPOTS))):Er ⟨0,0,0,0,0,0,0,0,0,0,0,0,0⟩ K a:=⟨trivial,⟨_,W.mg_of X G uMOST_DIMS⟩,⟨_,W.mg_of X G uMOST_SPOTS⟩⟩
set_option hygiene false in
local macro_rules|`('x')=>`(by repeat' first|(refine' gz ?_ ?_)|(refine' gH ?_)|(exact iH)|(refine' iy _ nd ?_)|(refine' jB ?_ ?_ ?_)|(refine' jZ ?_)|(refine' yt _ nd ?_)|(refine' mF ?_)|(refine' Eu ?_)|(exact xy)|(refine' yP _ nd ?_)|(exact gE _)|(exact ig)|(refine' gD ?_ ?_)|(exact gX)|(refine' Kg ?_ ?_)|(refine' jT (by assumption) hr ?_)|(refine' pK ?_ ?_)|(refine' vD ?_)|(refine' pE hr ?_ ?_)|(refine' Ma hr ?_ ?_)|(refine' oF ?_)|(refine' EV ?_)|(refine' uA ?_ ?_)|(refine' sH ?_)|(refine' B8 ?_ ?_)|(refine' yj ?_)|(refine' gQ (iC (K:=K)) ka (by rfl) B.len ke ?_)|(refine' iY wc vJ ?_ ?_)|(refine' iY Bx BC ?_ ?_)|(refine' iY FD Fk ?_ ?_)|(refine' iY uL tW ?_ ?_)|(refine' iY op_notN mr_notN ?_ ?_)|(refine' iY Fv FG ?_ ?_)|(exact NL)|(exact FL)|(exact pm_str)|(refine' nJ ?_)|(refine' AF ?_ ?_)|(refine' AU ?_ ?_)|(refine' qT ?_)|(refine' Lr ?_ ?_)|(refine' Be ?_ ?_)|(refine' Gq ?_ ?_ ?_)|(exact Lj)|(refine' Mt ?_)|(refine' m6 "tuple" (by decide) B.isinstance B.tuple jg ?_)|(refine' m6 "list" (by decide) B.isinstance B.list w5 ?_)|(refine' m6 "int" (by decide) B.isinstance B.int An ?_)|(refine' m6 "bool" (by decide) B.isinstance B.bool Cc ?_)|(refine' i6 (iS (K:=K)) jF (by rfl) B.tuple jg ?_)|(refine' i6 call_int1 mc_int1 (by rfl) B.int An ?_)|(refine' gQ lz nN (by rfl) B.abs nP ?_)|(refine' gQ (qZ (K:=K) rfl) Al (by rfl) B.all Aa ?_)|(refine' jJ ?_)|(refine' pU (by assumption) hr ?_)|(refine' pf_callTy (call_listK (K:=K)) mc_list1 (by rfl) B.list w5 ?_)|(refine' FA ?_)|(refine' DU ?_ ?_)|(refine' Ed ?_ ?_)|(refine' tY ?_ ?_)|(refine' tP ?_)|(refine' AB ?_))
section
variable {P:Program}{w:World}{K:W.Frag}{mg:Str->Option Value}{base:Heap}{c:Cs}(Z:Zx P w K mg base)(B:Bs mg)(ER:Er c K mg)
include Z B ER
theorem o0(D:gG K mg "is_whole" (jk 4)):CP Z "is_whole" 1 (jA c):=lC Z 0 (jA c) ["thing"] ["thing"] rfl D λnd hX hr=>⟨_,(gH (jZ (tY (m6 "int" (by decide) B.isinstance B.int An (gE 0)) (tP (AB (m6 "bool" (by decide) B.isinstance B.bool Cc (gE 0)))))))⟩
theorem o1(D:gG K mg "sign_of" (jk 5)):CP Z "sign_of" 1 (jE c):=lC Z 0 (jE c) ["number"] ["number"] rfl D λnd hX hr=>⟨_,(gz (jB (iY Bx BC (gE 0) ig) 'x' iH) (gz (jB (iY wc vJ (gE 0) ig) 'x' iH) 'x'))⟩
theorem o2(D:gG K mg "common_divisor" (jk 6)):CP Z "common_divisor" 1 (gY c):=lC Z 0 (gY c) ["one","other","rest"] ["one","other"] rfl D λnd hX hr=>⟨_,(gz (ES (λρ=>match ρ with|_::some (.p (.int j))::_=>j.natAbs+1|_=>0) PassesOwn.never 'x' 'x') (gH (jZ (gQ lz nN (by rfl) B.abs nP 'x'))))⟩
theorem o3(D:gG K mg "dot" (jk 7)):CP Z "dot" 1 (qJ c):=lC Z 0 (qJ c) ["numbers","others"] ["numbers","others"] rfl D λnd hX hr=>⟨_,(gH (jZ (gQ (Do (K:=K) rfl) MH (by rfl) B.sum LK (gD (jJ (jr ["one","other"] [none,none] hX (sJ B.zip 'x') (λnd hX=>⟨(nh 2 rfl (ib (iI 0 nd) (ib (iI 1 nd) kU))),g9, 'x'⟩))) gX))))⟩
theorem o4(D:gG K mg "weighted" (jk 17)):CF Z "weighted" 1 (kY c):=rR Z 0 (kY c) ["cuts","rows","k","cut","weights"] ["cuts"] rfl D λnd hX hr=>⟨_,(gz 'x' (gz (ll PassesOwn.never rfl (sI B.enumerate 'x') (xq 2 rfl (ki (jQ 2 nd) (ki (jQ 3 nd) pZ))) (gz (yP 4 nd (Ed 'x' (gQ (iC (K:=K)) ka (by rfl) B.len ke 'x'))) (gz (HV 4 (pv 4) (gE 2) ig) (gH (Fp 1 (pv 1) (pK (gE 3) (i6 (iS (K:=K)) jF (by rfl) B.tuple jg 'x'))))))) (gH (tO 1 (pv 1)))))⟩
theorem o5(D:gG K mg "without_place" (jk 25)):CP Z "without_place" 1 (iz c):=lC Z 0 (iz c) ["row","place"] ["row","place"] rfl D λnd hX hr=>⟨_, 'x'⟩
theorem o6(D:gG K mg "weights_of_spots" (jk 34)):CF Z "weights_of_spots" 1 (iW c):=rR Z 0 (iW c) ["rows","weights"] ["rows","weights"] rfl D λnd hX hr=>⟨_,(gH (mF (jr ["row","weight"] [none,none] hX (sJ B.zip 'x') (λnd hX=>⟨(nh 2 rfl (ib (iI 0 nd) (ib (iI 1 nd) kU))),g9, 'x'⟩))))⟩
theorem o7(D:gG K mg "_law_cell_at" (jk 38)):CP Z "_law_cell_at" 1 (iT c):=lC Z 0 (iT c) ["_law_script","_law_k"] ["_law_script","_law_k"] rfl D λnd hX hr=>⟨_,(gz (jB (iY wc vJ (gE 1) (gQ (iC (K:=K)) ka (by rfl) B.len ke 'x')) 'x' iH) 'x')⟩
theorem o8(D:gG K mg "_law_draw" (jk 39)):CP Z "_law_draw" 1 (ia c):=lC Z 0 (ia c) ["_law_cell","_law_k","_law_bound","_law_left","_law_j","_law_stir"] ["_law_cell","_law_k","_law_bound"] rfl D λnd hX hr=>⟨_,(gz (jB (iY FD Fk (gE 0) (M9 ig ig)) (gz 'x' (gz (uJ PassesOwn.never rfl (sM B.range 'x') (jQ 4 nd) 'x') 'x')) iH) 'x')⟩
theorem o9(D:gG K mg "_law_common" (jk 40)):CP Z "_law_common" 1 (kC c):=lC Z 0 (kC c) ["_law_one","_law_other"] ["_law_one","_law_other"] rfl D λnd hX hr=>⟨_,(gz (iy 0 nd (gQ lz nN (by rfl) B.abs nP 'x')) (gz (iy 1 nd (gQ lz nN (by rfl) B.abs nP 'x')) (gz (ES (λρ=>match ρ with|_::some (.p (.int j))::_=>j.natAbs+1|_=>0) PassesOwn.never (iY Bx BC (gE 1) ig) (gH (IG (i:=0) (j:=1) rfl nd rfl rfl (by decide) rfl rfl 'x' (by rfl)))) 'x')))⟩
theorem Q7(D:gG K mg "_law_choices" (jk 43)):CP Z "_law_choices" 1 (i5 c):=lC Z 0 (i5 c) ["_law_many","_law_most","_law_found","_law_row","_law_k"] ["_law_many","_law_most"] rfl D λnd a hr=>⟨_,(gz (iy 2 nd ig) (gz (iy 3 nd ig) (gz (uJ PassesOwn.never rfl (Iw B.range 'x') (jQ 4 nd) (gz 'x' (gH (iy 2 nd (pK (gE 2) (gQ (v7 rfl) BW (by rfl) B.max E2 'x')))))) 'x')))⟩
theorem Rf(D:gG K mg "lowest" (jk 8))(b:CP Z "common_divisor" 1 (gY c)):CP Z "lowest" 2 (jS c):=lC Z 1 (jS c) ["row","divisor","number"] ["row"] rfl D λnd a hr=>⟨_,(gz (iy 1 nd ig) (gz (ll PassesOwn.never rfl (ic (gE 0)) (jQ 2 nd) 'x') (gz 'x' (gH (jZ (i6 (iS (K:=K)) jF (by rfl) B.tuple jg (gD (jJ (jr ["number","divisor"] [none,some 1] a (ic (gE 0)) (λnd a=>⟨(iI 0 nd),g9, 'x'⟩))) gX)))))))⟩
theorem QW(D:gG K mg "is_fraction" (jk 11))(a:CP Z "is_whole" 1 (jA c))(b:CP Z "common_divisor" 1 (gY c)):CP Z "is_fraction" 2 (jG c):=lC Z 1 (jG c) ["thing"] ["thing"] rfl D λnd d hr=>⟨_,(gz (jB (EV (uA (oF (vD (m6 "tuple" (by decide) B.isinstance B.tuple jg (gE 0)))) (sH (pE hr (gQ (iC (K:=K)) ka (by rfl) B.len ke 'x') ig)))) 'x' iH) (gz 'x' (gH (jZ (tY (Au FD Fk 'x' ig) (tP (EY hr 'x' ig)))))))⟩
theorem QX(D:gG K mg "is_dims" (jk 14))(a:CP Z "is_whole" 1 (jA c)):CP Z "is_dims" 2 (mP c):=lC Z 1 (mP c) ["thing"] ["thing"] rfl D λnd b hr=>⟨_,(gH (jZ (tY 'x' (tP (yK uL tW uL tW ig (gE 0) (yp 3 ER.k_MOST_DIMS))))))⟩
theorem Rb(D:gG K mg "left_at" (jk 23))(a:CP Z "dot" 1 (qJ c)):CP Z "left_at" 2 (jq c):=lC Z 1 (jq c) ["cut","point"] ["cut","point"] rfl D λnd b hr=>⟨_, 'x'⟩
theorem Rc(D:gG K mg "_law_fraction" (jk 41))(a:CP Z "_law_common" 1 (kC c)):CP Z "_law_fraction" 2 (iV c):=lC Z 1 (iV c) ["_law_top","_law_bottom","_law_share"] ["_law_top","_law_bottom"] rfl D λnd b hr=>⟨_,(gz 'x' (gz (jB (iY wc vJ (gE 1) ig) 'x' iH) 'x'))⟩
theorem Ri(D:gG K mg "cleared" (jk 9))(a:CP Z "lowest" 2 (jS c))(d:CP Z "sign_of" 1 (jE c)):CP Z "cleared" 3 (iK c):=lC Z 2 (iK c) ["row","other","place","often","other_often"] ["row","other","place"] rfl D λnd b hr=>⟨_,(gz 'x' (gz (iy 3 nd (gQ lz nN (by rfl) B.abs nP 'x')) (gz 'x' (gH (jZ (jT a hr (gD (i6 (iS (K:=K)) jF (by rfl) B.tuple jg (gD (jJ (jr ["mine","theirs","often","other_often"] [none,none,some 3,some 4] b (sJ B.zip 'x') (λnd b=>⟨(nh 2 rfl (ib (iI 0 nd) (ib (iI 1 nd) kU))),g9, 'x'⟩))) gX)) gX)))))))⟩
theorem Re(D:gG K mg "is_spot" (jk 15))(b:CP Z "is_fraction" 2 (jG c)):CP Z "is_spot" 3 (mL c):=lC Z 2 (mL c) ["dims","thing"] ["dims","thing"] rfl D λnd a hr=>⟨_,(gz (jB (EV (uA (oF (vD (m6 "tuple" (by decide) B.isinstance B.tuple jg (gE 1)))) (sH (pE hr (gQ (iC (K:=K)) ka (by rfl) B.len ke 'x') (gE 0))))) 'x' iH) (gH (jZ (gQ (qZ (K:=K) rfl) Al (by rfl) B.all Aa (gD (jJ (jr ["part"] [none] a (ic (gE 1)) (λnd a=>⟨(iI 0 nd),g9, 'x'⟩))) gX)))))⟩
theorem Rh(D:gG K mg "whole_way" (jk 21))(a:CP Z "lowest" 2 (jS c))(d:CP Z "common_divisor" 1 (gY c)):CP Z "whole_way" 3 (ju c):=lC Z 2 (ju c) ["parts","bottoms","part"] ["parts"] rfl D λnd b hr=>⟨_,(gz (iy 1 nd ig) (gz (ll PassesOwn.never rfl (ic (gE 0)) (jQ 2 nd) 'x') (gH (jZ (jT a hr (gD (i6 (iS (K:=K)) jF (by rfl) B.tuple jg (gD (jJ (jr ["part","bottoms"] [none,some 1] b (ic (gE 0)) (λnd b=>⟨(iI 0 nd),g9, 'x'⟩))) gX)) gX))))))⟩
theorem QO(D:gG K mg "point_off" (jk 24))(a:CP Z "lowest" 2 (jS c))(e:CP Z "dot" 1 (qJ c))(d:CP Z "left_at" 2 (jq c)):CP Z "point_off" 3 (jt c):=lC Z 2 (jt c) ["ahead","cut","point","sign","often","other","step","parts"] ["ahead","cut","point","sign"] rfl D λnd b hr=>⟨_,(gz (iy 4 nd ig) (gz (ll PassesOwn.never rfl (ic (gE 0)) (jQ 5 nd) (gz (iy 6 nd (gQ lz nN (by rfl) B.abs nP 'x')) (gH (iy 4 nd (gQ (v7 rfl) BW (by rfl) B.max E2 (gD (gE 4) (gD (pK (Be (gE 6) (gQ lz nN (by rfl) B.abs nP 'x')) ig) gX))))))) (gz (um ["part","number","often","sign"] [none,none,some 4,some 3] 7 nd b (sJ B.zip 'x') (λnd b=>⟨(nh 2 rfl (ib (iI 0 nd) (ib (iI 1 nd) kU))),g9, 'x'⟩) n8) (gH (jZ (jT a hr (gD (pK (i6 (iS (K:=K)) jF (by rfl) B.tuple jg 'x') 'x') gX)))))))⟩
theorem QI(D:gG K mg "point_on" (jk 26))(d:CP Z "lowest" 2 (jS c))(b:CP Z "left_at" 2 (jq c))(f:CP Z "sign_of" 1 (jE c))(e:CP Z "without_place" 1 (iz c)):CP Z "point_on" 3 (kg c):=lC Z 2 (kg c) ["cut","place","point","often","part","others"] ["cut","place","point"] rfl D λnd a hr=>⟨_,(gz (iy 3 nd (gQ lz nN (by rfl) B.abs nP 'x')) (gz 'x' (gz (iy 5 nd (i6 (iS (K:=K)) jF (by rfl) B.tuple jg (gD (jJ (jr ["number","often"] [none,some 3] a (ic (gE 2)) (λnd a=>⟨(iI 0 nd),g9, 'x'⟩))) gX))) 'x')))⟩
theorem QR(D:gG K mg "_law_spots" (jk 42))(d:CP Z "_law_draw" 1 (ia c))(b:CP Z "_law_fraction" 2 (iV c)):CF Z "_law_spots" 3 (i8 c):=rR Z 2 (i8 c) ["_law_cell","_law_other","_law_dims","_law_most","_law_wide","_law_under","_law_found","_law_k","_law_tops","_law_spot"] ["_law_cell","_law_other","_law_dims","_law_most"] rfl D λnd a hr=>⟨_,(gz 'x' (gz 'x' (gz 'x' (gz (uJ PassesOwn.never rfl (sM B.range 'x') (jQ 7 nd) (gz (um ["_law_j","_law_wide","_law_other","_law_k"] [none,some 4,some 1,some 7] 8 nd a (Ah.pim (sM B.range 'x')) (λnd a=>⟨(iI 0 nd),g9, 'x'⟩) n8) (gz (iy 9 nd (i6 (iS (K:=K)) jF (by rfl) B.tuple jg (gD (jJ (jr ["_law_j","_law_top","_law_cell","_law_under","_law_k"] [none,none,some 0,some 5,some 7] a (sI B.enumerate 'x') (λnd a=>⟨(nh 2 rfl (ib (iI 0 nd) (ib (iI 1 nd) kU))),g9, 'x'⟩))) gX))) (gz (jB 'x' (gH (yt 9 nd (Kg (gE 6) (jT d hr (gD (gE 0) (gD 'x' (gD (gQ (iC (K:=K)) ka (by rfl) B.len ke 'x') gX))))))) iH) (gH (qp 6 (pv 6) (gE 9))))))) (gH (tO 6 (pv 6)))))))⟩
theorem QM(D:gG K mg "settled" (jk 18))(a:CP Z "cleared" 3 (iK c)):CP Z "settled" 4 (mH c):=lC Z 3 (mH c) ["row","pivots","place","pivot"] ["row","pivots"] rfl D λnd b hr=>⟨_,(gz (ll PassesOwn.never rfl (ic (gE 1)) (xq 2 rfl (ki (jQ 2 nd) (ki (jQ 3 nd) pZ))) 'x') 'x')⟩
theorem Q9(D:gG K mg "with_pivot" (jk 19))(b:CP Z "cleared" 3 (iK c)):CF Z "with_pivot" 4 (jY c):=rR Z 3 (jY c) ["pivots","row","place"] ["pivots","row","place"] rfl D λnd a hr=>⟨_,(gH (mF (DU (jJ (jr ["other_place","pivot","row","place"] [none,none,some 1,some 2] a (ic (gE 0)) (λnd a=>⟨(nh 2 rfl (ib (iI 0 nd) (ib (iI 1 nd) kU))),g9, 'x'⟩))) 'x')))⟩
theorem QK(D:gG K mg "check_spots" (jk 32))(b:CP Z "is_dims" 2 (mP c))(d:CP Z "is_spot" 3 (mL c)):CP Z "check_spots" 4 (je c):=lC Z 3 (je c) ["dims","things"] ["dims","things"] rfl D λnd a hr=>⟨_,(gz (jB (EV (uA 'x' (uA (oF (vD (m6 "list" (by decide) B.isinstance B.list w5 (gE 1)))) (sH (oF (Cj uL tW uL tW ig (gQ (iC (K:=K)) ka (by rfl) B.len ke 'x') (yp 8 ER.k_MOST_SPOTS))))))) (gH xy) iH) (gH (jB (oF (vD (gQ (qZ (K:=K) rfl) Al (by rfl) B.all Aa (gD (jJ (jr ["thing","dims"] [none,some 0] a (ic (gE 1)) (λnd a=>⟨(iI 0 nd),g9, 'x'⟩))) gX)))) (gH xy) iH)))⟩
theorem QZ(D:gG K mg "raised" (jk 33))(b:CP Z "whole_way" 3 (ju c)):CF Z "raised" 4 (lT c):=rR Z 3 (lT c) ["spots"] ["spots"] rfl D λnd a hr=>⟨_,(gH (mF (jr ["spot"] [none] a (ic (gE 0)) (λnd a=>⟨(iI 0 nd),g9, 'x'⟩))))⟩
theorem QH(D:gG K mg "pivots_and_rests" (jk 20))(b:CP Z "settled" 4 (mH c))(d:CF Z "with_pivot" 4 (jY c)):CP Z "pivots_and_rests" 5 (iB c):=lC Z 4 (iB c) ["rows","dims","pivots","rests","row","left","places"] ["rows","dims"] rfl D λnd a hr=>⟨_,(gz 'x' (gz 'x' (gz (ll PassesOwn.never rfl (ic (gE 0)) (jQ 4 nd) (gz 'x' (gz (um ["place","left"] [none,some 5] 6 nd a (Ah.pim (sM B.range 'x')) (λnd a=>⟨(iI 0 nd),(yc 'x'),(gE 0)⟩) n8) (gH (jB 'x' (gH (qp 3 (pv 3) (gE 5))) 'x'))))) 'x')))⟩
theorem QJ(D:gG K mg "row_not_drawn" (jk 36))(e:CP Z "check_spots" 4 (je c))(d:CF Z "raised" 4 (lT c))(f:CF Z "weights_of_spots" 1 (iW c))(b:CP Z "pivots_and_rests" 5 (iB c))(g:CF Z "weighted" 1 (kY c)):CP Z "row_not_drawn" 6 (ie c):=lC Z 5 (ie c) ["dims","spots","rows","rests","weights"] ["dims","spots"] rfl D λnd a hr=>⟨_,(gz 'x' (gz 'x' (gz 'x' (gz 'x' (gz 'x' (gH (jZ (nJ (gD (i6 (iS (K:=K)) jF (by rfl) B.tuple jg (gD (jJ (jr ["weight"] [none] a (ic (gE 4)) (λnd a=>⟨(iI 0 nd),g9,(OO (iY wc vJ (gE 0) ig) (qT ig) ig)⟩))) gX)) 'x')))))))))⟩
theorem QU{k:Nat}{f:List T->M T}(D:gG K mg "crossings" (jk 27))(g:CP Z "without_place" k (iz c))(d:CP Z "cleared" k (iK c))(e:CP Z "point_on" k (kg c))(b:CP Z "cells" k f):CF Z "crossings" (k+1) (jM c f):=rR Z k (jM c f) ["ahead","cut","places","place","traces"] ["ahead","cut"] rfl D λnd a hr=>⟨_,(gz (um ["place","number"] [none,none] 2 nd a (sI B.enumerate 'x') (λnd a=>⟨(nh 2 rfl (ib (iI 0 nd) (ib (iI 1 nd) kU))),(yc 'x'),(gE 0)⟩) n8) (gz 'x' (gz 'x' (gz (um ["other","place","cut"] [none,some 3,some 1] 4 nd a (ic (gE 0)) (λnd a=>⟨(iI 0 nd),g9,(jT g hr (gD (jT d hr 'x' (aL _)) 'x') (aL _))⟩) n8) (gz (jB (vD (gQ (vE (K:=K) rfl) G8 (by rfl) B.any Ha (gD (jJ (jr ["trace"] [none] a (ic (gE 4)) (λnd a=>⟨(iI 0 nd),g9,(AB (gQ (vE (K:=K) rfl) G8 (by rfl) B.any Ha 'x'))⟩))) gX))) 'x' iH) (gH (mF (jr ["signs","point","cut","place"] [none,none,some 1,some 3] a (ic (jT b hr (gD (gE 4) (gD (AU (gQ (iC (K:=K)) ka (by rfl) B.len ke 'x') ig) gX)) (aL _))) (λnd a=>⟨(nh 2 rfl (ib (iI 0 nd) (ib (iI 1 nd) kU))),g9,(nJ (gD (gE 0) (gD (jT e hr 'x' (aL _)) gX)))⟩)))))))))⟩
theorem QY{k:Nat}{e:List T->M T}(D:gG K mg "with_one_more" (jk 28))(b:CF Z "crossings" k (jM c e))(a:CP Z "point_off" k (jt c))(f:CP Z "sign_of" k (jE c))(d:CP Z "left_at" k (jq c)):CF Z "with_one_more" (k+1) (jC c e):=rR Z k (jC c e) ["found","ahead","cut","crossed","grown","signs","point","sign"] ["found","ahead","cut"] rfl D λnd g hr=>⟨_,(gz (iy 3 nd (i6 (AA rfl (Q6 hr)) Im (by rfl) B.dict Jm (gD (jJ (pU b hr 'x' (aL _))) gX))) (gz 'x' (gz (ll PassesOwn.never rfl (ic (gE 0)) (xq 2 rfl (ki (jQ 5 nd) (ki (jQ 6 nd) pZ))) (gH (jB (HG hr (gE 5) (gE 3)) (gH (ll PassesOwn.never rfl (ic 'x') (jQ 7 nd) (gH (qp 4 (pv 4) (nJ (gD 'x' (gD (jT a hr (gD (gE 1) (gD (gE 2) (gD (Md hr (gE 3) (gE 5)) 'x'))) (aL _)) gX))))))) (gH (qp 4 (pv 4) (nJ (gD (pK (gE 5) (nJ (gD (jT f hr (gD (jT d hr 'x' (aL _)) gX) (aL _)) gX))) 'x'))))))) (gH (tO 4 (pv 4))))))⟩
theorem Q8{k m:Nat}(D:gG K mg "cells" (jk 29))(a:CF Z "with_one_more" k (jC c (kr c m))):CP Z "cells" (k+1) (kr c (m+1)):=lC Z k (kr c (m+1)) ["cuts","dims","found","k","cut"] ["cuts","dims"] rfl D λnd b hr=>⟨_,(gz (iy 2 nd (jJ (FA (gD (nJ (gD (nJ gX) (gD (pK (Jy 'x' (gE 1)) 'x') gX))) gX)))) (gz (ll PassesOwn.never rfl (sI B.enumerate 'x') (xq 2 rfl (ki (jQ 3 nd) (ki (jQ 4 nd) pZ))) (gH (iy 2 nd (jJ (pU a hr 'x' (aL _)))))) 'x'))⟩
theorem oR(D_crossings:gG K mg "crossings" (jk 27))(D_with_one_more:gG K mg "with_one_more" (jk 28))(D_cells:gG K mg "cells" (jk 29))(O5:CP Z "without_place" 3 (iz c))(O16:CP Z "cleared" 3 (iK c))(O20:CP Z "point_on" 3 (kg c))(O19:CP Z "point_off" 3 (jt c))(O1:CP Z "sign_of" 3 (jE c))(O14:CP Z "left_at" 3 (jq c)):∀m:Nat,CP Z "cells" (3+3*m) (kr c m)
 |0=>OE (k:=2) ["cuts","dims","found","k","cut"] ["cuts","dims"] rfl D_cells
 |m+1=>by have IH:=oR D_crossings D_with_one_more D_cells O5 O16 O20 O19 O1 O14 m;exact Q8 Z B ER (k:=3+3*m+2) D_cells (QY Z B ER (k:=3+3*m+1) D_with_one_more (QU Z B ER (k:=3+3*m) D_crossings (O5.mono (by omega)) (O16.mono (by omega)) (O20.mono (by omega)) IH) (O19.mono (by omega)) (O1.mono (by omega)) (O14.mono (by omega)))
theorem QV(D:gG K mg "rows_drawn" (jk 35))(e:CP Z "check_spots" 4 (je c))(d:CP Z "cells" 18 (kr c 5))(b:CF Z "raised" 4 (lT c)):CF Z "rows_drawn" 19 (iw c):=rR Z 18 (iw c) ["dims","spots"] ["dims","spots"] rfl D λnd a hr=>⟨_,(gz 'x' (gH (mF (jr ["signs","point"] [none,none] a (ic 'x') (λnd a=>⟨(nh 2 rfl (ib (iI 0 nd) (ib (iI 1 nd) kU))),g9,(gE 0)⟩)))))⟩
theorem QT(D:gG K mg "_law_told" (jk 44))(b:CF Z "rows_drawn" 19 (iw c))(d:CP Z "_law_choices" 1 (i5 c))(f:CP Z "row_not_drawn" 6 (ie c))(e:CF Z "_law_spots" 3 (i8 c)):CP Z "_law_told" 20 (kH c):=lC Z 19 (kH c) ["_law_dims","_law_spots_here","_law_cell","_law_found","_law_backward","_law_more"] ["_law_dims","_law_spots_here","_law_cell"] rfl D λnd a hr=>⟨_,(gz 'x' (gz (jB (pE hr (Ap (jJ (jr ["_law_row"] [none] a (ic (gE 3)) (λnd a=>⟨(iI 0 nd),g9,(i6 (iS (K:=K)) jF (by rfl) B.tuple jg (gD (jJ (jr ["_law_sign"] [none] a (ic (gE 0)) (λnd a=>⟨(iI 0 nd),g9,(qT (gE 0))⟩))) gX))⟩))) (qT ig)) (gE 3)) 'x' iH) (gz (jB (iY Bx BC (gQ (iC (K:=K)) ka (by rfl) B.len ke 'x') (AF ig (jT d hr (gD (AU (gQ (iC (K:=K)) ka (by rfl) B.len ke 'x') ig) 'x')))) 'x' iH) (gz (jB (pE hr (EY hr (gQ (iC (K:=K)) ka (by rfl) B.len ke 'x') (Nb ig (gQ (iC (K:=K)) ka (by rfl) B.len ke 'x'))) (Au Fv FG 'x' FL)) 'x' iH) (gz (jB (EV (B8 (iY wc vJ (gE 0) ig) (yj (pE hr (jJ (pU b hr (gD 'x' (gD (jJ (jr ["_law_spot"] [none] a (ic (gE 1)) (λnd a=>⟨(iI 0 nd),g9, 'x'⟩))) gX)))) (gE 3))))) 'x' iH) (gz (iy 4 nd (jJ (pU b hr (gD (gE 0) (gD (Ap (gE 1) (qT ig)) gX))))) (gz (jB (pE hr (jJ (Gg B.sorted (gD (jJ (jr ["_law_row"] [none] a (ic (gE 4)) (λnd a=>⟨(iI 0 nd),g9,(Ap (gE 0) (qT ig))⟩))) gX))) (gE 3)) 'x' iH) (gz 'x' (gH (jZ (tY (yK uL tW uL tW (gQ (iC (K:=K)) ka (by rfl) B.len ke 'x') (gQ (iC (K:=K)) ka (by rfl) B.len ke 'x') (AF ig (gQ (iC (K:=K)) ka (by rfl) B.len ke 'x'))) (tP (EY hr (jJ (FB rfl hr B.sorted B.set (gD (jJ (jr ["_law_row"] [none] a (ic (gE 5)) (λnd a=>⟨(iI 0 nd),g9, 'x'⟩))) gX))) (gE 3))))))))))))))⟩
theorem oL{a:Addr}{fd:FuncData}(D:HJ K "law" "law" (jk 45) a fd)(f:CP Z "_law_cell_at" 1 (iT c))(e:CP Z "_law_draw" 1 (ia c))(d:CP Z "_law_told" 20 (kH c))(b:CF Z "_law_spots" 3 (i8 c)):ny P w K mg base Ab 21 a fd ["_law_script"] (B9 K (p9 c)):=NJ Z 20 (p9 c) ["_law_script","_law_k","_law_cell","_law_dims"] ["_law_script"] rfl D λnd g hr=>⟨_,(gz (ll PassesOwn.never rfl (ic 'x') (jQ 1 nd) 'x') 'x')⟩
end
def KM{l:W.OpenLaw}{w:World}{K:W.Frag}{h:Heap}{b:Str->Option Value}{c:Cs}{fa f:Addr}{oc kV n pm j ct:Vq}{od an:Option Addr}{L:Array (Option Value)}(X:K.In h)(G:h.Ns mainGlobals b)(hfa:b "law" = some (.ref fa))
  (a:W.nsIn K mainGlobals "law" = some (some (.ref f))) (lk:K.lookup f=some ⟨oc,od,.func (W.fnOf "law" "law" (kM (jk 45)) (i9 (jk 45)) (gO (jk 45)) .none kV n pm an j ct),L⟩) (cc:W.codeIn K j "law" = true) (kk:W.keepIn K (.ref f)=true)
  (B:Bs b) (ER:Er c K b) (LF:∀A:LI,(p9 c) [.scr A]=.ok (.bl true)) (D0:gG K b "is_whole" (jk 4)) (D1:gG K b "sign_of" (jk 5)) (D2:gG K b "common_divisor" (jk 6)) (D3:gG K b "dot" (jk 7)) (D4:gG K b "weighted" (jk 17)) (D5:gG K b "without_place" (jk 25)) (D6:gG K b "weights_of_spots" (jk 34)) (D7:gG K b "_law_cell_at" (jk 38)) (D8:gG K b "_law_draw" (jk 39)) (D9:gG K b "_law_common" (jk 40)) (D10:gG K b "_law_choices" (jk 43)) (D11:gG K b "lowest" (jk 8)) (D12:gG K b "is_fraction" (jk 11)) (F:gG K b "is_dims" (jk 14)) (D14:gG K b "left_at" (jk 23)) (z:gG K b "_law_fraction" (jk 41)) (D16:gG K b "cleared" (jk 9)) (D:gG K b "is_spot" (jk 15)) (N:gG K b "whole_way" (jk 21)) (D19:gG K b "point_off" (jk 24)) (C:gG K b "point_on" (jk 26)) (D21:gG K b "_law_spots" (jk 42)) (D22:gG K b "settled" (jk 18)) (D23:gG K b "with_pivot" (jk 19)) (D24:gG K b "check_spots" (jk 32)) (E:gG K b "raised" (jk 33)) (S:gG K b "pivots_and_rests" (jk 20)) (D27:gG K b "row_not_drawn" (jk 36)) (U:gG K b "cells" (jk 29)) (u:gG K b "crossings" (jk 27)) (D30:gG K b "rows_drawn" (jk 35)) (x:gG K b "with_one_more" (jk 28)) (D32:gG K b "_law_told" (jk 44)) :
  ∃fd:FuncData,(∀(s:Sq) (v:Vq),BindsTo s fd ⟨[v],[]⟩ [("_law_script",v)])/\∀d:Heap,K.In d->d.Ns mainGlobals b->ny l.prog w K b d Ab 21 fa fd ["_law_script"] (E3 K):=by
 have e:=hfa.symm.trans (W.mg_of X G a);cases e;refine⟨W.fnOf "law" "law" (kM (jk 45)) (i9 (jk 45)) (gO (jk 45)) .none kV n pm an j ct,?bnd,λd _ _=>?main⟩
 case main=>have Z:Zx l.prog w K b d:=⟨trivial⟩;have O0:=o0 Z B ER D0;have O1:=o1 Z B ER D1;have O2:=o2 Z B ER D2;have O3:=o3 Z B ER D3;have O4:=o4 Z B ER D4;have O5:=o5 Z B ER D5;have O6:=o6 Z B ER D6;have O7:=o7 Z B ER D7;have O8:=o8 Z B ER D8;have O9:=o9 Z B ER D9;have q:=Q7 Z B ER D10;have g:=Rf Z B ER D11 O2;have O12:=QW Z B ER D12 O0 O2;have O13:=QX Z B ER F O0;have k:=Rb Z B ER D14 O3;have Y:=Rc Z B ER z O9;have i:=Ri Z B ER D16 g O1;have O17:=Re Z B ER D O12;have H:=Rh Z B ER N g O2;have Q:=QO Z B ER D19 g O3 k;have r:=QI Z B ER C g k O1 O5;have m:=QR Z B ER D21 O8 Y;have P:=QM Z B ER D22 i;have I:=Q9 Z B ER D23 i;have o:=QK Z B ER D24 O13 O17;have p:=QZ Z B ER E H;have O26:=QH Z B ER S P I;have R:=QJ Z B ER D27 o p O6 O26 O4;have J:=oR Z B ER u x U (O5.mono (by decide)) (i.mono (by decide)) (r.mono (by decide)) (Q.mono (by decide)) (O1.mono (by decide)) (k.mono (by decide)) 5;have O30:=QV Z B ER D30 o J p;have y:=QT Z B ER D32 O30 q R m;exact (oL Z B ER (GT (st:=jk 45) lk cc kk) O7 O8 y m).imp (DQ λA _ _=>LF A)
 case bnd=>exact λs v=>.of_eq rfl
end K58
namespace PySem.Challenge.cw_cutlands_k58_whole_rows_turned_holds
def tw11765908663660217707:0=0:=rfl
def tw2799681351432554526:0=0:=rfl
def tw5775840704016648965:0=0:=rfl
def tw5130574854773281071:0=0:=rfl
def tw8963561372697873653:0=0:=rfl
def tw9425635001249182120:0=0:=rfl
def tw4874510645662682466:0=0:=rfl
def tw5189412456024651699:0=0:=rfl
def tw11913576178954744845:0=0:=rfl
def tw15499263998206869004:0=0:=rfl
def tw3946997234368164250:0=0:=rfl
def tw14015956538395544224:0=0:=rfl
def tw7012724388942846473:0=0:=rfl
def tw9486910104093594838:0=0:=rfl
def tw9625819080248555633:0=0:=rfl
def tw7438069814595385419:0=0:=rfl
def tw827409229526153475:0=0:=rfl
def tw10307806503287019950:0=0:=rfl
def tw6026523190677331391:0=0:=rfl
def tw2730204998255208806:0=0:=rfl
def tw892380750957280456:0=0:=rfl
def tw6299110035607133148:0=0:=rfl
def tw3468790959272766007:0=0:=rfl
def tw11593818688117599434:0=0:=rfl
def tw8423010990295246184:0=0:=rfl
def tw7962964172284998422:0=0:=rfl
def tw17144446303590721444:0=0:=rfl
def tw13372614355231218173:0=0:=rfl
def tw15609578079815594052:0=0:=rfl
def tw13007267083817232431:0=0:=rfl
def tw11112607203888299188:0=0:=rfl
def tw12828109553142666498:0=0:=rfl
def tw12289587108793874212:0=0:=rfl
def tw18004474244337664471:0=0:=rfl
def tw14590623848406652118:0=0:=rfl
def tw18263478719749746935:0=0:=rfl
def tw6789292131825334893:0=0:=rfl
def tw13123384554055219930:0=0:=rfl
def tw11890680270389574977:0=0:=rfl
def tw18108277199317241958:0=0:=rfl
def tw3773031500344438902:0=0:=rfl
def tw9608386061967865566:0=0:=rfl
def tw6326757049524638173:0=0:=rfl
def tw13441466117465882897:0=0:=rfl
def tw13122539873861654389:0=0:=rfl
def tw13353860124945489506:0=0:=rfl
def tw15846861013244467643:0=0:=rfl
def tw5926405147796780268:0=0:=rfl
def tw7981092942715817578:0=0:=rfl
def tw10698343085837592879:0=0:=rfl
def tw519677644347531934:0=0:=rfl
def tw14155656995960133981:0=0:=rfl
def tw8844579770337104119:0=0:=rfl
def tw1992128061674665491:0=0:=rfl
def tw8777606461606101165:0=0:=rfl
def tw17034916334540012620:0=0:=rfl
def tw12054799161649363559:0=0:=rfl
def tw375297852518781852:0=0:=rfl
def tw9986756282004371343:0=0:=rfl
def tw3607166904354098359:0=0:=rfl
def tw607231206993208792:0=0:=rfl
def tw13430103681381261241:0=0:=rfl
def tw16369871149491959951:0=0:=rfl
def tw8761118743771004652:0=0:=rfl
def tw16989460562508136373:0=0:=rfl
def tw17751811326180882168:0=0:=rfl
def tw5875681791356033594:0=0:=rfl
def tw1211465952813135924:0=0:=rfl
def tw4651440428253225133:0=0:=rfl
def tw4206603458536811074:0=0:=rfl
def tw14656622180925170307:0=0:=rfl
def tw12384631159858215257:0=0:=rfl
def tw9135953918031973449:0=0:=rfl
def tw17284998364211203091:0=0:=rfl
def tw6224066298198776092:0=0:=rfl
def tw1859066249283184733:0=0:=rfl
def tw9069425771225748287:0=0:=rfl
def tw9385673851000643051:0=0:=rfl
def tw4926336784439811537:0=0:=rfl
def tw3052238901552493203:0=0:=rfl
def tw7193862753987664104:0=0:=rfl
def tw10446938085859113927:0=0:=rfl
def tw10288291572526530518:0=0:=rfl
def tw3198424932573529401:0=0:=rfl
def tw15070267941011720060:0=0:=rfl
def tw4206112422683751162:0=0:=rfl
def tw12654162842952085790:0=0:=rfl
end PySem.Challenge.cw_cutlands_k58_whole_rows_turned_holds
open PySem PySem.W PyProof.Rows
set_option Elab.async true
theorem PySem.Challenge.cw_cutlands_k58_whole_rows_turned_holds : PySem.Challenge.rw_cutlands_k58_whole_rows_turned.Holds := by
 w_on;o_law;k_head;(case hw=>w_witness2);k_fill;refine L3.OP (l:=PySem.Challenge.rw_cutlands_k58_whole_rows_turned) (k:=21) (x:= "_law_script") rfl ⟨rfl,by decide,by decide⟩ rfl (λw h Y=>PySem.W.kIn_of Y) ?F
 case F=>intro w mg fa h KX G hmg;refine' K58.KM KX G hmg ?a ?l ?c ?k ?B ?E (λns=>CL.Ct ns) ?_ ?_ ?_ ?_ ?_ ?_ ?_ ?_ ?_ ?_ ?_ ?_ ?_ ?_ ?_ ?_ ?_ ?_ ?_ ?_ ?_ ?_ ?_ ?_ ?_ ?_ ?_ ?_ ?_ ?_ ?_ ?_ ?_;(case a=>k_is);(case l=>k_is);(case c=>k_is);(case k=>k_is);(case B=>constructor<;>(apply mg_none_of KX G;k_is));(case E=>apply K58.NQ KX G<;>first | k_is | k_exc | decide);all_goals first | (apply L2.KO KX G<;>k_is) | (apply K58.md_mk<;>first | k_is | k_exc | decide)
